/-
  DERIVED. The reference's 'Ends' at a repeat. Conditions: what it has in memory lies as it should (TX).
-/
import Derived.Test.YtnfojonmohijpaaGreatDoorJMH
set_option linter.all false
set_option maxRecDepth 100000
set_option maxHeartbeats 8000000
namespace Go.Proofs.YtnfojonmohijpaaGreatDoor
open Go.RowKit
variable{w:World}{out:ByteArray}{len:Nat}{sp:Value}{keep:Bool}
theorem Jo{g:Nat}{a b c d e f:Value}(h:w.heap[g]? =some (.cells #[a,b,c,d,e,f] 157 (0,0))):w.cell? ⟨g,3,none⟩=some d∧w.cell? ⟨g,4,none⟩=some e∧w.cell? ⟨g,5,none⟩=some f:=by
 refine⟨?_,?_,?_⟩<;>(rw[AU h];rfl)
theorem Ur(s:ByteArray)(N:Nat)(C:Hid (N=s.size+1))(nds:List Nd)(hn:nds.length<=1000)(n:Nat)(IH:DS s nds n)(k:Nat)(nd:Nd)(hk:nds[k]? =some nd)(u:nd.kind=114)(c:Nat)(HC:Hid (nd.kids=[c]))(aC:NK nds n c)(aD:Hid (nd.mn<=5))(aE:Hid (-1<=nd.mx∧nd.mx<=5))(aF:Hid (nd.mx<0∨(nd.mn:Int)<=nd.mx))(aa:nd.kids.length<=1000)(w:World)(b bp:Nat)(p:PS)(D:List Nat)(E:Value)(Z:List Nat)(i:Nat)(h:TX w b bp s p nds D E Z)(HZ:Hid (∀x,x∈Z->x<w.heap.size))(hi:i<=s.size)(eb cap g:Nat)(hE:E=.slice (some ⟨eb,0,none⟩) nds.length cap)(hg:D[k]? =some g)(hr:w.cell? ⟨eb,k,none⟩=some (.slice (some ⟨g,0,none⟩) N N))(hc:w.cell? ⟨g,i,none⟩=some (.slice none 0 0)):Calls Tryz.prog 48 #[.pointer (some ⟨b,0,none⟩),.int .i64 k,.int .i64 i] w (Jn s nds k i w b bp p D E Z):=by
 obtain⟨i0,ab,ac,ad,ae⟩:=A2 Gc;have af:=Gb;obtain⟨x0,x1,x2,x3⟩:=h.xb.main;rw[hE]at x3;obtain⟨g',aS,hv,kv,A,aG,hH,Y,c0,c1,c2,c3,c4,c5⟩:=h.nodes.node hk;have HK:Hid (nd.kind=114):=u;rw[u]at c0;obtain⟨n1,_⟩:=h.pb.nodes;rw[A]at n1;obtain⟨I,l,m,rfl⟩:=hH.1;have a3:Hid (Il w b (Bf bp (b::(E.ownBlock.toList++(D++Z))) p.nodes) (.slice I l m) nd):=hH;have aH:Hid (KV w D kv nd.kids):=Y.kv aa;obtain⟨P,B,rfl,ag⟩:=Y.form;have hs:=h.small;have aT:(0:Int)<=(k:Int):=by omega
 have aU:(k:Int)<(nds.length:Int):=by omega
 have aV:(0:Int)<=(i:Int):=by omega
 have aW:(i:Int)<(N:Int):=by have:=C.o;omega
 have ah:(s.size:Int)+1<=9223372036854775807:=by omega
 have HI:Hid (i<=s.size):=hi;have HS:Hid (s.size<=100):=hs;have HE:Hid (E=.slice (some ⟨eb,0,none⟩) nds.length cap):=hE;have HT:Hid (TX w b bp s p nds D E Z):=h;have HH:Hid (nds[k]? =some nd):=hk;have F:=(AG [] w).alloc (.cells #[.int .u8 114,.slice I l m,.int .i64 nd.n,.int .i64 nd.mn,.int .i64 nd.mx,.slice P nd.kids.length B] 157);have r:=AS w (.cells #[.int .u8 114,.slice I l m,.int .i64 nd.n,.int .i64 nd.mn,.int .i64 nd.mx,.slice P nd.kids.length B] 157);have HG:Hid (D[k]? =some g):=hg;have aX:(nds.length:Int)<=1000:=by omega
 have aY:(nd.kids.length:Int)<=1000:=by omega
 clear h hE hk hi hs A hH Y aG u hn ag hg aa x2;go_enter Tryz.func48,Tryz.ntmps48;go_upto_region 4 with(fail)
 clear c0 c1 c2 c3 c4 c5 n1 x0 x1 x3 hr hc;generalize w.alloc (.cells #[.int .u8 114,.slice I l m,.int .i64 nd.n,.int .i64 nd.mn,.int .i64 nd.mx,.slice P nd.kids.length B] 157)=W at*;obtain⟨gn,Q⟩:=AQ w.heap.size;rw[<-Q]at r⊢;have aI:Hid (gn=w.heap.size):=Q;clear Q;have ai:=HT.o.keep F (by simp);obtain⟨y0,y1,_,_⟩:=ai.xb.main;clear ai;go_upto_region 5 with(first|(refine D9 W rfl _ _ 98 rfl 0 4 i0 (.bool false) 1 af ab ac ad .i64 .i64 ((s.size:Int)+1) ((s.size:Int)+1) N rfl rfl (by have:=C.o;omega) (by have:=C.o;omega) (by have:=C.o;have:=HS.o;rw[ae];omega) (by have:=C.o;have:=HS.o;unfold maxLen;omega) (AY _) ?_;intro w1 J aj))
 rw[Nat.mul_one,show(Value.bool false).cells=#[.bool false]from rfl,Hf]at J;have R:AA [] W w1:=Ci aj;have t:=F.trans R;have d:=(R.block gn (AN.1 r).1 (by simp)).trans r;have ak:=HT.o.keep t (by simp);have al:Hid (KV w1 D (.slice P nd.kids.length B) nd.kids):=aH.o.keep (t.mono (by simp));have e0:w1.cell? ⟨gn,0,none⟩=some (.int .u8 114):=by rw[AU d];rfl
 have e5:w1.cell? ⟨gn,5,none⟩=some (.slice P nd.kids.length B):=by rw[AU d];rfl
 have am:=F.size;have L:gn<W.heap.size:=(AN.1 r).1;have aJ:Hid (w1.heap[gn]? =some (.cells #[.int .u8 114,.slice I l m,.int .i64 nd.n,.int .i64 nd.mn,.int .i64 nd.mx,.slice P nd.kids.length B] 157 (0,0))):=d;have a4:Hid (gn<W.heap.size∧w.heap.size<=W.heap.size):=⟨L,am⟩;clear y0 y1 aj r d L am ah ac ad ae ab af F R;obtain⟨a5,a6,ek,_,an⟩:=al.o;obtain⟨q,off,rfl,aK,aL,T⟩:∃q off,P=some ⟨q,off,none⟩∧q<w1.heap.size∧q∉D∧w1.cell? ⟨q,off+0,none⟩=some (.int .i64 c):=by
  simp only[C7]at ek;obtain⟨rfl,_,rfl⟩:=ek;exact an 0 c (by rw[HC.o];rfl)
 have ao:((nd.kids.length:Nat):Int)=1:=by rw[HC.o];rfl
 have aZ:(0:Int)<(nd.kids.length:Int):=by omega
 rw[Di]at T;clear J ek an ao;go_upto_region 14 with(fail)
 have z:AA [] w1 w1.drew:=(AG [] w1).drewN 1;have a:w1.drew.heap[gn]? =some (.cells #[.int .u8 114,.slice I l m,.int .i64 nd.n,.int .i64 nd.mn,.int .i64 nd.mx,.slice (some ⟨q,off,none⟩) nd.kids.length B] 157 (0,0))∧w1.drew.cell? ⟨q,off,none⟩=some (.int .i64 c):=⟨aJ.o,T⟩;have ap:=ak.keep z (by simp);have aM:gn∉D:=fun hm=>by have h1:=HT.o.dlt gn hm;have:=aI.o;omega
 refine Cj (S:=fun X'=>X'.heap[gn]? =some (.cells #[.int .u8 114,.slice I l m,.int .i64 nd.n,.int .i64 nd.mn,.int .i64 nd.mx,.slice (some ⟨q,off,none⟩) nd.kids.length B] 157 (0,0))∧X'.cell? ⟨q,off,none⟩=some (.int .i64 c)) (by kernel_rfl) ?_;change wpAnyH _ _ _ _ _ _ _ _ (World.drew _);generalize w1.drew=X0 at*;refine AV 0 _ (some 92) (.pointer (some ⟨b,0,none⟩)) rfl a ?_;simp only[AM];refine AV 1 _ (some 93) (.pointer (some ⟨gn,5,none⟩)) rfl a ?_;simp only[AM];refine Ak 2 _ (some 94) (.slice (some ⟨q,off,none⟩) nd.kids.length B) rfl (AH ⟨by rfl,fun X y=>by(obtain⟨⟨q3,q4,q5⟩,q6⟩:(_∧_∧_)∧_:=⟨Jo y.1,y.2⟩;go_simp)⟩) a ?_;simp only[AM];refine Ak 3 _ (some 95) (.pointer (some ⟨q,off,none⟩)) rfl (AH ⟨by rfl,fun X y=>by(obtain⟨⟨q3,q4,q5⟩,q6⟩:(_∧_∧_)∧_:=⟨Jo y.1,y.2⟩;go_simp;intro h0;have h1:=HC.o;rw[h0]at h1;cases h1)⟩) a ?_;simp only[AM];refine Ak 4 _ (some 96) (.int .i64 c) rfl (AH ⟨by rfl,fun X y=>by(obtain⟨⟨q3,q4,q5⟩,q6⟩:(_∧_∧_)∧_:=⟨Jo y.1,y.2⟩;go_simp)⟩) a ?_;simp only[AM];refine AV 5 _ (some 97) (.pointer (some ⟨gn,3,none⟩)) rfl a ?_;simp only[AM];refine Ak 6 _ (some 98) (.int .i64 nd.mn) rfl (AH ⟨by rfl,fun X y=>by(obtain⟨⟨q3,q4,q5⟩,q6⟩:(_∧_∧_)∧_:=⟨Jo y.1,y.2⟩;go_simp)⟩) a ?_;simp only[AM];refine AV 7 _ (some 99) (.pointer (some ⟨gn,4,none⟩)) rfl a ?_;simp only[AM];refine Ak 8 _ (some 100) (.int .i64 nd.mx) rfl (AH ⟨by rfl,fun X y=>by(obtain⟨⟨q3,q4,q5⟩,q6⟩:(_∧_∧_)∧_:=⟨Jo y.1,y.2⟩;go_simp)⟩) a ?_;simp only[AM];refine AV 9 _ (some 101) (.int .i64 i) rfl a ?_;simp only[AM];refine A8 10 rfl fun K Y=>?_
 go_simp;refine(Lw s N C nds n IH c aC X0 b bp p D E Z ap (fun x hx=>BL (HZ.o x hx) (t.trans z).size) nd.mn nd.mx aD.out aE.out aF.out i HI.o).mono ?_;rintro e w2⟨v,rfl,aN,aq,G,H⟩;have M:AA D w w2:=((t.trans z).mono (by simp)).trans H;obtain⟨x,c',f,rfl,ar,aO,O⟩:=aN;have a7:=aq x rfl;have au:EA w2 s nds D Z k i (.slice (some ⟨x,0,none⟩) N c'):=by
  refine⟨x,c',f,by rw[<-C.o],by rw[<-C.o];exact ar,aO,fun hz=>by have:=HZ.o x hz;have:=(t.trans z).size;omega,fun j hj=>?_⟩;rw[O j hj,MN.rep_iff HH.o HK.o HC.o];exact Iff.rfl
 have U:w2.heap[gn]? =some (.cells #[.int .u8 114,.slice I l m,.int .i64 nd.n,.int .i64 nd.mn,.int .i64 nd.mx,.slice (some ⟨q,off,none⟩) nd.kids.length B] 157 (0,0))∧w2.cell? ⟨q,off,none⟩=some (.int .i64 c):=⟨(H.block gn (AN.1 a.1).1 aM).trans a.1,(Ad (H.block q (BL aK z.size) aL)).trans a.2⟩;refine Y.out _ _ U (fun _=>?_);clear Y K;refine AV 11 _ (some 8) (.slice (some ⟨x,0,none⟩) N c') rfl U ?_;simp only[AM];refine CE ?_;clear ar O aq ak H e0 e5 T a U ap z;obtain⟨a8,a1,g2,v2,aw,ax,aP,a2,a9,_⟩:=G.slot (k:=k) (i:=i) (by omega) HI.o;have ay:=HE.o.symm.trans aw;simp only[C7,Ai,FU,CD,true_and]at ay;obtain⟨az,V⟩:=ay;subst az V;obtain rfl:g=g2:=DC (HG.o.symm.trans ax);rw[<-C.o]at aP;obtain⟨z0,z1,_,z3⟩:=G.xb.main;rw[HE.o]at z3;obtain⟨aQ,aR,aA⟩:=G.put HG.o au;have aB:=M.trans aA;clear aw ax au G M aA;go_wp2_with fail;go_ret;exact⟨_,rfl,aQ,aR,aB⟩
theorem PI{g:Nat}{a b c d e f:Value}(h:w.heap[g]? =some (.cells #[a,b,c,d,e,f] 157 (0,0))):w.cell? ⟨g,0,none⟩=some a∧w.cell? ⟨g,1,none⟩=some b∧w.cell? ⟨g,2,none⟩=some c∧w.cell? ⟨g,3,none⟩=some d∧w.cell? ⟨g,4,none⟩=some e∧w.cell? ⟨g,5,none⟩=some f:=by
 refine⟨?_,?_,?_,?_,?_,?_⟩<;>(rw[AU h];rfl)
theorem Us(s:ByteArray)(N:Nat)(z:Hid (N=s.size+1))(nds:List Nd)(hn:nds.length<=1000)(n:Nat)(IH:DS s nds n)(k:Nat)(nd:Nd)(hk:nds[k]? =some nd)(v:nd.kind=98)(aq:nd.kids.length<=1000)(w:World)(b bp:Nat)(p:PS)(D:List Nat)(E:Value)(Z:List Nat)(i:Nat)(h:TX w b bp s p nds D E Z)(HZ:Hid (∀x,x∈Z->x<w.heap.size))(hi:i<=s.size)(eb cap g:Nat)(hE:E=.slice (some ⟨eb,0,none⟩) nds.length cap)(hg:D[k]? =some g)(hr:w.cell? ⟨eb,k,none⟩=some (.slice (some ⟨g,0,none⟩) N N))(hc:w.cell? ⟨g,i,none⟩=some (.slice none 0 0)):Calls Tryz.prog 48 #[.pointer (some ⟨b,0,none⟩),.int .i64 k,.int .i64 i] w (Jn s nds k i w b bp p D E Z):=by
 obtain⟨i0,ar,au,aw,ax⟩:=A2 Gc;have ay:=Gb;obtain⟨x0,x1,x2,x3⟩:=h.xb.main;rw[hE]at x3;obtain⟨g',a3,hv,kv,C,aQ,hH,Y,c0,c1,c2,c3,c4,c5⟩:=h.nodes.node hk;have HK:Hid (nd.kind=98):=v;rw[v]at c0;obtain⟨n1,_⟩:=h.pb.nodes;rw[C]at n1;obtain⟨ha,F,G,rfl⟩:=hH.1;have aR:Hid (Il w b (Bf bp (b::(E.ownBlock.toList++(D++Z))) p.nodes) (.slice ha F G) nd):=hH;have aS:Hid (KV w D kv nd.kids):=Y.kv aq;obtain⟨H,I,rfl,az⟩:=Y.form;have hs:=h.small;have a4:(0:Int)<=(k:Int):=by omega
 have a5:(k:Int)<(nds.length:Int):=by omega
 have a6:(0:Int)<=(i:Int):=by omega
 have a7:(i:Int)<(N:Int):=by have:=z.o;omega
 have aA:(s.size:Int)+1<=9223372036854775807:=by omega
 have HI:Hid (i<=s.size):=hi;have HS:Hid (s.size<=100):=hs;have HE:Hid (E=.slice (some ⟨eb,0,none⟩) nds.length cap):=hE;have HT:Hid (TX w b bp s p nds D E Z):=h;have HH:Hid (nds[k]? =some nd):=hk;have aa:=(AG [] w).alloc (.cells #[.int .u8 98,.slice ha F G,.int .i64 nd.n,.int .i64 nd.mn,.int .i64 nd.mx,.slice H nd.kids.length I] 157);have t:=AS w (.cells #[.int .u8 98,.slice ha F G,.int .i64 nd.n,.int .i64 nd.mn,.int .i64 nd.mx,.slice H nd.kids.length I] 157);have HG:Hid (D[k]? =some g):=hg;have a8:(nds.length:Int)<=1000:=by omega
 have a9:(nd.kids.length:Int)<=1000:=by omega
 clear h hE hk hi hs C hH Y aQ v hn az hg aq x2;go_enter Tryz.func48,Tryz.ntmps48;go_upto_region 4 with(fail)
 clear c0 c1 c2 c3 c4 c5 n1 x0 x1 x3 hr hc;generalize w.alloc (.cells #[.int .u8 98,.slice ha F G,.int .i64 nd.n,.int .i64 nd.mn,.int .i64 nd.mx,.slice H nd.kids.length I] 157)=W at*;obtain⟨gn,ag⟩:=AQ w.heap.size;rw[<-ag]at t⊢;have bc:Hid (gn=w.heap.size):=ag;clear ag;have aB:=HT.o.keep aa (by simp);obtain⟨y0,y1,_,_⟩:=aB.xb.main;clear aB;go_upto_region 5 with(first|(refine D9 W rfl _ _ 98 rfl 0 4 i0 (.bool false) 1 ay ar au aw .i64 .i64 ((s.size:Int)+1) ((s.size:Int)+1) N rfl rfl (by have:=z.o;omega) (by have:=z.o;omega) (by have:=z.o;have:=HS.o;rw[ax];omega) (by have:=z.o;have:=HS.o;unfold maxLen;omega) (AY _) ?_;intro w1 d aC))
 rw[Nat.mul_one,show(Value.bool false).cells=#[.bool false]from rfl,Hf]at d;have ah:AA [] W w1:=Ci aC;have l:=aa.trans ah;have m:=(ah.block gn (AN.1 t).1 (by simp)).trans t;have J:=HT.o.keep l (by simp);have ba:Hid (KV w1 D (.slice H nd.kids.length I) nd.kids):=aS.o.keep (l.mono (by simp));have e0:w1.cell? ⟨gn,0,none⟩=some (.int .u8 98):=by rw[AU m];rfl
 have e5:w1.cell? ⟨gn,5,none⟩=some (.slice H nd.kids.length I):=by rw[AU m];rfl
 have aD:=aa.size;have ae:gn<W.heap.size:=(AN.1 t).1;have aT:Hid (w1.heap[gn]? =some (.cells #[.int .u8 98,.slice ha F G,.int .i64 nd.n,.int .i64 nd.mn,.int .i64 nd.mx,.slice H nd.kids.length I] 157 (0,0))):=m;have L:Hid (gn<W.heap.size∧w.heap.size<=W.heap.size):=⟨ae,aD⟩;clear y0 y1 aC t m ae aD aA au aw ax ar ay aa ah;obtain⟨q,fo,f0,eh,aE,aF,aG,aU⟩:=aR.o.2 HK.o;simp only[C7]at eh;obtain⟨rfl,rfl,rfl⟩:=eh;have ai:Hid (HB w q f0∧w.cell? ⟨b,2,none⟩=some (.bool fo)∧nd.f=Bw fo f0):=⟨aG,aE,aF⟩;clear aE aF;have aj:W.heap.size∉D:=fun hm=>by have:=HT.o.dlt _ hm;have:=L.o;omega
 have ak:W.heap.size∉Z:=fun hm=>by have:=HZ.o _ hm;have:=L.o;omega
 have aH:W.heap.size≠b:=by have:=HT.o.xb.lt;have:=L.o;omega
 have aI:gn≠W.heap.size:=by have:=L.o;omega
 obtain⟨y0,y1,y2,y3⟩:=J.xb.main;clear y2 y3;have al:Hid (w.heap.size<=W.heap.size):=L.o.2;obtain⟨go,aJ⟩:=AQ W.heap.size;rw[<-aJ]at d aj ak aH aI al⊢;clear aJ aU aG;by_cases c:i<s.size
 rotate_left
 ·have af:¬(i:Int)<(s.size:Int):=by omega
  have r:=J;have u:AA D w w1:=l.mono (by simp);have M:EA w1 s nds D Z k i (.slice (some ⟨go,0,none⟩) N N):=by
   refine⟨go,N,fun _=>false,by rw[<-z.o],by rw[<-z.o];exact d,aj,ak,fun j hj=>?_⟩;rw[MN.byte_iff HH.o HK.o];simp[c]
  clear d J;go_upto_region 24 with(fail)
  clear y0 y1;obtain⟨aV,aK,g2,v2,O,P,am,aL,aW,_⟩:=r.slot (k:=k) (i:=i) (by omega) HI.o;have Q:=HE.o.symm.trans O;simp only[C7,Ai,FU,CD,true_and]at Q;obtain⟨R,y⟩:=Q;subst R y;obtain rfl:g=g2:=DC (HG.o.symm.trans P);rw[<-z.o]at am;obtain⟨z0,z1,_,z3⟩:=r.xb.main;rw[HE.o]at z3;obtain⟨an,ao,T⟩:=r.put HG.o M;have U:=u.trans T;clear O P M r u T;go_wp2_with fail;go_ret;exact⟨_,rfl,an,ao,U⟩
 have af:(i:Int)<(s.size:Int):=by omega
 have aX:=(s[i]'c).toNat_lt;have aY:(i:Int)+1<(N:Int):=by have:=z.o;omega
 have aM:(0:Int)<=(i:Int)+1:=by omega
 have ap:(i:Int)+1<=9223372036854775807:=by have:=HS.o;omega
 have aZ:IntKind.i64.wrap ((i:Int)+1)=(i:Int)+1:=wrap_small (by omega) (by have:=HS.o;omega);have a1:((i:Int)+1).toNat=i+1:=by omega
 go_upto_region 8 with(fail)
 have A:AA [] w1 w1.drew:=(AG [] w1).drewN 1;have a:w1.drew.heap[gn]? =some (.cells #[.int .u8 98,.slice (some ⟨q,0,none⟩) 256 256,.int .i64 nd.n,.int .i64 nd.mn,.int .i64 nd.mx,.slice H nd.kids.length I] 157 (0,0))∧w1.drew.cell? ⟨b,1,none⟩=some (.string s):=⟨aT.o,y1⟩;have a2:=J.keep A (by simp);have aN:RB w1.drew (.slice (some ⟨go,0,none⟩) N N) N (fun _=>false):=RB.keep d A (by simp);refine Cj (S:=fun X'=>X'.heap[gn]? =some (.cells #[.int .u8 98,.slice (some ⟨q,0,none⟩) 256 256,.int .i64 nd.n,.int .i64 nd.mn,.int .i64 nd.mx,.slice H nd.kids.length I] 157 (0,0))∧X'.cell? ⟨b,1,none⟩=some (.string s)) (by kernel_rfl) ?_;change wpAnyH _ _ _ _ _ _ _ _ (World.drew _);generalize w1.drew=X0 at*;refine AV 0 _ (some 61) (.slice (some ⟨go,0,none⟩) N N) rfl a ?_;simp only[AM];refine AV 1 _ (some 62) (.int .i64 i) rfl a ?_;simp only[AM];refine AV 2 _ (some 63) (.int .i64 ((i:Int)+1)) rfl a ?_;simp only[AM];refine AV 3 _ (some 64) (.pointer (some ⟨b,0,none⟩)) rfl a ?_;simp only[AM];refine Ak 4 _ (some 65) (.agg #[.int .u8 98,.slice (some ⟨q,0,none⟩) 256 256,.int .i64 nd.n,.int .i64 nd.mn,.int .i64 nd.mx,.slice H nd.kids.length I]) rfl (AH ⟨by rfl,fun X hX=>by(obtain⟨q0,q1,q2,q3,q4,q5⟩:=PI hX.1;have q6:=hX.2;go_simp)⟩) a ?_;simp only[AM];refine AV 5 _ (some 66) (.pointer (some ⟨b,0,none⟩)) rfl a ?_;simp only[AM];refine AV 6 _ (some 67) (.pointer (some ⟨b,0,none⟩)) rfl a ?_;simp only[AM];refine AV 7 _ (some 68) (.pointer (some ⟨b,1,none⟩)) rfl a ?_;simp only[AM];refine Ak 8 _ (some 69) (.string s) rfl (AH ⟨by rfl,fun X hX=>by(obtain⟨q0,q1,q2,q3,q4,q5⟩:=PI hX.1;have q6:=hX.2;go_simp)⟩) a ?_;simp only[AM];refine AV 9 _ (some 70) (.int .i64 i) rfl a ?_;simp only[AM];refine AV 10 _ (some 71) (.int .u8 ((s[i]'c).toNat:Int)) rfl a ?_;simp only[AM];refine A8 11 rfl fun K Y=>?_
 go_simp;refine(Un b q (s[i]'c).toNat f0 nd.f fo ai.o.2.2 (by omega) X0 _ _ _ _ _ _ _ ((l.trans A).cell ai.o.2.1) (ai.o.1.keep (l.trans A) (by simp))).mono ?_;rintro e w2⟨rfl,V⟩;have B:w2.heap[gn]? =some (.cells #[.int .u8 98,.slice (some ⟨q,0,none⟩) 256 256,.int .i64 nd.n,.int .i64 nd.mn,.int .i64 nd.mx,.slice H nd.kids.length I] 157 (0,0))∧w2.cell? ⟨b,1,none⟩=some (.string s):=⟨(V.block gn (AN.1 a.1).1 (by simp)).trans a.1,(V.cell a.2)⟩;refine Y.out _ _ B (fun _=>?_);clear Y K;have ab:RB w2 (.slice (some ⟨go,0,none⟩) N N) N (fun _=>false):=RB.keep aN V (by simp);refine AV 12 _ (some 73) (.pointer (some ⟨go,i+1,none⟩)) rfl B ?_;simp only[AM];refine A8 13 rfl fun K Y=>?_
 have ca:=RB.at ab (j:=i+1) (by have:=z.o;omega);have fa:=RB.frozen ab (i+1);have ac:=(l.trans A).trans V;have ad:AA [go] w2 (w2.setCell ⟨go,i+1,none⟩ (.bool (nd.f (s[i]'c).toNat))):=(AG [go] w2).setCell (p:=⟨go,i+1,none⟩) (by simp) _;have aO:(w2.setCell ⟨go,i+1,none⟩ (.bool (nd.f (s[i]'c).toNat))).heap[gn]? =some (.cells #[.int .u8 98,.slice (some ⟨q,0,none⟩) 256 256,.int .i64 nd.n,.int .i64 nd.mn,.int .i64 nd.mx,.slice H nd.kids.length I] 157 (0,0))∧(w2.setCell ⟨go,i+1,none⟩ (.bool (nd.f (s[i]'c).toNat))).cell? ⟨b,1,none⟩=some (.string s):=⟨(ad.block gn (AN.1 B.1).1 (by simp;exact aI)).trans B.1,(Ad (ad.block b (BL HT.o.xb.lt ac.size) (by simp;exact fun e=>aH e.symm))).trans B.2⟩;have r:TX (w2.setCell ⟨go,i+1,none⟩ (.bool (nd.f (s[i]'c).toNat))) b bp s p nds D E Z:=
  (((HT.o.less (Z':=go::Z) (by intro x hx;rcases Az.1 hx with rfl|hx;exact Or.inr al.o;exact Or.inl hx)).keep ac (by simp)).keep ad (by intro x hx;simp only[Dc]at hx;subst hx;exact Or.inl (by simp))).less (Z':=Z) (fun x hx=>Or.inl (II _ hx))
 have u:AA D w (w2.setCell ⟨go,i+1,none⟩ (.bool (nd.f (s[i]'c).toNat))):=(ac.setCell (p:=⟨go,i+1,none⟩) (AE al.o) _).mono (by simp);have M:EA (w2.setCell ⟨go,i+1,none⟩ (.bool (nd.f (s[i]'c).toNat))) s nds D Z k i (.slice (some ⟨go,0,none⟩) N N):=by
  refine⟨go,N,fun j=>if j=i+1 then nd.f (s[i]'c).toNat else false,by rw[<-z.o],by rw[<-z.o];exact RB.put ab (i+1) _,aj,ak,fun j hj=>?_⟩;rw[MN.byte_iff HH.o HK.o,Bd c];by_cases aP:j=i+1
  ·simp[aP,c]
  ·simp[aP]
 go_simp;refine Y.out _ _ aO (fun _=>?_);clear Y K;refine CE ?_;clear a B aO a2 aN ab ca fa J d V A ad ac e0 e5 y0 y1 af aX aY aM ap aZ a1;generalize w2.setCell ⟨go,i+1,none⟩ (.bool (nd.f (s[i]'c).toNat))=w3 at*;obtain⟨aV,aK,g2,v2,O,P,am,aL,aW,_⟩:=r.slot (k:=k) (i:=i) (by omega) HI.o;have Q:=HE.o.symm.trans O;simp only[C7,Ai,FU,CD,true_and]at Q;obtain⟨R,y⟩:=Q;subst R y;obtain rfl:g=g2:=DC (HG.o.symm.trans P);rw[<-z.o]at am;obtain⟨z0,z1,_,z3⟩:=r.xb.main;rw[HE.o]at z3;obtain⟨an,ao,T⟩:=r.put HG.o M;have U:=u.trans T;clear O P M r u T;go_wp2_with fail;go_ret;exact⟨_,rfl,an,ao,U⟩
structure Lx (w1 wr : World) (s : ByteArray) (N : Nat) (nds : List Nd) (kids : List Nat) (h : Nat) (b bp : Nat) (p : PS) (D : List Nat) (E : Value) (Z : List Nat) (i m : Nat) (f : Nat -> Bool) : Prop where
 row : RB wr (.slice (some ⟨h, 0, none⟩) N N) N f
 tx : TX wr b bp s p nds D E (h :: Z)
 keep : AA (h :: D) w1 wr
 says : ∀ j, j <= s.size -> (f j = true ↔ ∃ t c, t < m ∧ kids[t]? = some c ∧ MN s nds (.node c) i j)
theorem Ut(s:ByteArray)(N:Nat)(C:Hid (N=s.size+1))(nds:List Nd)(hn:nds.length<=1000)(n:Nat)(IH:DS s nds n)(k:Nat)(nd:Nd)(hk:nds[k]? =some nd)(A:nd.kind=111)(ab:∀c,c∈nd.kids->NK nds n c)(al:nd.kids.length<=1000)(w:World)(b bp:Nat)(p:PS)(D:List Nat)(E:Value)(Z:List Nat)(i:Nat)(h:TX w b bp s p nds D E Z)(HZ:Hid (∀x,x∈Z->x<w.heap.size))(hi:i<=s.size)(eb cap g:Nat)(hE:E=.slice (some ⟨eb,0,none⟩) nds.length cap)(hg:D[k]? =some g)(hr:w.cell? ⟨eb,k,none⟩=some (.slice (some ⟨g,0,none⟩) N N))(T:w.cell? ⟨g,i,none⟩=some (.slice none 0 0)):Calls Tryz.prog 48 #[.pointer (some ⟨b,0,none⟩),.int .i64 k,.int .i64 i] w (Jn s nds k i w b bp p D E Z):=by
 obtain⟨i0,am,an,ao,ap⟩:=A2 Gc;have aq:=Gb;obtain⟨x0,x1,x2,x3⟩:=h.xb.main;rw[hE]at x3;obtain⟨g',bj,hv,kv,F,a1,hH,hK,c0,c1,c2,c3,c4,c5⟩:=h.nodes.node hk;have HK:Hid (nd.kind=111):=A;rw[A]at c0;obtain⟨n1,_⟩:=h.pb.nodes;rw[F]at n1;obtain⟨ha,G,H,rfl⟩:=hH.1;have bC:Hid (Il w b (Bf bp (b::(E.ownBlock.toList++(D++Z))) p.nodes) (.slice ha G H) nd):=hH;have ar:Hid (KV w D kv nd.kids):=hK.kv al;obtain⟨ka,kc,rfl,au⟩:=hK.form;have hs:=h.small;have bk:(0:Int)<=(k:Int):=by omega
 have bm:(k:Int)<(nds.length:Int):=by omega
 have bn:(0:Int)<=(i:Int):=by omega
 have bo:(i:Int)<(N:Int):=by have:=C.o;omega
 have aw:(s.size:Int)+1<=9223372036854775807:=by omega
 have HI:Hid (i<=s.size):=hi;have HS:Hid (s.size<=100):=hs;have HE:Hid (E=.slice (some ⟨eb,0,none⟩) nds.length cap):=hE;have HT:Hid (TX w b bp s p nds D E Z):=h;have HH:Hid (nds[k]? =some nd):=hk;have M:=(AG [] w).alloc (.cells #[.int .u8 111,.slice ha G H,.int .i64 nd.n,.int .i64 nd.mn,.int .i64 nd.mx,.slice ka nd.kids.length kc] 157);have r:=AS w (.cells #[.int .u8 111,.slice ha G H,.int .i64 nd.n,.int .i64 nd.mn,.int .i64 nd.mx,.slice ka nd.kids.length kc] 157);have HG:Hid (D[k]? =some g):=hg;have bq:(nds.length:Int)<=1000:=by omega
 have bs:(nd.kids.length:Int)<=1000:=by omega
 clear h hE hk hi hs F hH hK a1 A hn au hg al x2;go_enter Tryz.func48,Tryz.ntmps48;go_upto_region 4 with(fail)
 clear c0 c1 c2 c3 c4 c5 n1 x0 x1 x3 hr T;generalize w.alloc (.cells #[.int .u8 111,.slice ha G H,.int .i64 nd.n,.int .i64 nd.mn,.int .i64 nd.mx,.slice ka nd.kids.length kc] 157)=W at*;obtain⟨gn,ac⟩:=AQ w.heap.size;rw[<-ac]at r⊢;have a2:Hid (gn=w.heap.size):=ac;clear ac;have ax:=HT.o.keep M (by simp);obtain⟨y0,y1,_,_⟩:=ax.xb.main;clear ax;go_upto_region 5 with(first|(refine D9 W rfl _ _ 98 rfl 0 4 i0 (.bool false) 1 aq am an ao .i64 .i64 ((s.size:Int)+1) ((s.size:Int)+1) N rfl rfl (by have:=C.o;omega) (by have:=C.o;omega) (by have:=C.o;have:=HS.o;rw[ap];omega) (by have:=C.o;have:=HS.o;unfold maxLen;omega) (AY _) ?_;intro w1 u ay))
 rw[Nat.mul_one,show(Value.bool false).cells=#[.bool false]from rfl,Hf]at u;have ae:AA [] W w1:=Ci ay;have z:=M.trans ae;have l:=(ae.block gn (AN.1 r).1 (by simp)).trans r;have a3:=HT.o.keep z (by simp);have bu:Hid (KV w1 D (.slice ka nd.kids.length kc) nd.kids):=ar.o.keep (z.mono (by simp));have e0:w1.cell? ⟨gn,0,none⟩=some (.int .u8 111):=by rw[AU l];rfl
 have e5:w1.cell? ⟨gn,5,none⟩=some (.slice ka nd.kids.length kc):=by rw[AU l];rfl
 have az:=M.size;have U:gn<W.heap.size:=(AN.1 r).1;have a4:Hid (w1.heap[gn]? =some (.cells #[.int .u8 111,.slice ha G H,.int .i64 nd.n,.int .i64 nd.mn,.int .i64 nd.mx,.slice ka nd.kids.length kc] 157 (0,0))):=l;have O:Hid (gn<W.heap.size∧w.heap.size<=W.heap.size):=⟨U,az⟩;clear y0 y1 ay r l U az aw an ao ap am aq M ae;have I:Hid (w.heap.size<=W.heap.size):=O.o.2;have aA:Hid (KV w (W.heap.size::D) (.slice ka nd.kids.length kc) nd.kids):=by
  obtain⟨ad,cp,e,hl,T⟩:=ar.o;refine⟨ad,cp,e,hl,fun t c ht=>?_⟩;obtain⟨y,off,V,h2,h3,h4⟩:=T t c ht;exact⟨y,off,V,h2,by simp only[Az,not_or];exact⟨by have:=I.o;omega,h3⟩,h4⟩
 have af:W.heap.size∉D:=fun hm=>by have:=HT.o.dlt _ hm;have:=O.o;omega
 have aB:W.heap.size∉Z:=fun hm=>by have:=HZ.o _ hm;have:=O.o;omega
 have aC:gn∉W.heap.size::D:=by
  simp only[Az,not_or];exact⟨by have:=O.o;omega,fun hm=>by have V:=HT.o.dlt gn hm;have:=a2.o;omega⟩
 have ag:W.heap.size<w1.heap.size:=(A3 u _ rfl).2;obtain⟨go,aD⟩:=AQ W.heap.size;rw[<-aD]at u af aB aC I aA ag⊢;have aE:TX w1 b bp s p nds D E (go::Z):=(HT.o.less (Z':=go::Z) (by intro x B;rcases Az.1 B with rfl|B;exact AE I.o;exact AH B)).keep z (by simp);have aF:Lx w1 w1 s N nds nd.kids go b bp p D E Z i 0 (fun _=>false):=⟨u,aE,AG _ _,fun j _=>by simp⟩;have bD:(N:Int)<=101:=by have:=C.o;have:=HS.o;omega
 have bE:Hid (go<w1.heap.size):=ag;clear aD a3 aE u ag;go_upto_region 16 with(fail)
 go_upto_region 17 with(fail)
 go_loopw [9] (fun q wr=>∃(m:Nat)(f:Nat->Bool),m<=nd.kids.length∧q=.int .i64 m∧Lx w1 wr s N nds nd.kids go b bp p D E Z i m f) (fun q _=>nd.kids.length-(intOf q).toNat)
 case atStart=>exact⟨0,_,by omega,rfl,aF⟩
 case round=>
  clear aF;obtain⟨m,f,hm,rfl,L⟩:=hrel;have aG:=(Ad (L.keep.block gn (AN.1 a4.o).1 aC)).trans e5;by_cases P:m<nd.kids.length
  ·obtain⟨c,T⟩:∃c,nd.kids[m]? =some c:=⟨_,Ax P⟩;have a5:NK nds n c:=ab c (C8 T);obtain⟨ad,cp,e1,_,aH⟩:=aA.o.keep ((z.mono (by simp)).trans L.keep);simp only[C7]at e1;obtain⟨rfl,_,rfl⟩:=e1;obtain⟨y,off,rfl,bF,bG,a6⟩:=aH m c T;have bv:(0:Int)<=(m:Int):=by omega
   have bw:(m:Int)<(nd.kids.length:Int):=by omega
   have HM:Hid (m<nd.kids.length):=P;have HC:Hid (nd.kids[m]? =some c):=T;have ah:=L.row;have aI:=L.tx;have aJ:=L.keep;have a7:Hid (∀j,j<=s.size->(f j=true↔∃t c,t<m∧nd.kids[t]? =some c∧MN s nds (.node c) i j)):=L.says;clear L aH hm P T;go_wp2_with fail;refine(IH c a5 wr b bp p D E (go::Z) i aI (by intro x B;have V:go<wr.heap.size:=(A3 ah _ rfl).2;rcases Az.1 B with rfl|B;exact V;have h2:=HZ.o x B;have h3:=I.o;omega) HI.o).mono ?_;rintro e w2⟨v,rfl,Q,aK,ai⟩;obtain⟨x,cc,fe,aL,R,bH,a8,X⟩:=Q;rw[<-C.o]at aL R;subst aL;have J:=ah.keep ai (by intro y hy;simp only[Value.ownBlock,Ai]at hy;subst hy;exact af);have aM:x≠go:=fun e=>a8 (by simp[e])
   have a9:AA (go::D) w1 w2:=aJ.trans (ai.mono (by intro y hy;simp[hy]));have aN:Hid (∀j,j<=s.size->(fe j=true↔MN s nds (.node c) i j)):=X;clear ah aI aJ ai X a6 aG;obtain⟨aO,aP⟩:∃aO:World,aO=wr:=⟨_,rfl⟩;subst aP;have Y:IL w2 w2 s N nds go x cc 0 fe f (.slice (some ⟨x,0,none⟩) N cc) fe b bp p D E Z 0 f:=⟨J,R,R,aK,AG _ _,fun m _=>by
    constructor
    ·exact AH
    ·rintro(h|⟨_,h,_⟩)
     ·exact h
     ·omega⟩
   have ba:(Value.slice (some ⟨x,0,none⟩) N cc).ownBlock≠some go:=by simp only[Value.ownBlock,ne_eq,Ai];exact aM
   clear J R aK;go_wp2_with fail;go_loopw [11] (fun q wq=>∃(j:Nat)(f':Nat->Bool),j<=N∧q=.int .i64 j∧IL w2 wq s N nds go x cc 0 fe f (.slice (some ⟨x,0,none⟩) N cc) fe b bp p D E Z j f') (fun q _=>N-(intOf q).toNat)
   case atStart=>exact⟨0,f,by omega,rfl,Y⟩
   case round=>
    clear Y;obtain⟨j,f',hj,rfl,L⟩:=hrel;by_cases K:j<N
    ·have bx:(0:Int)<=(j:Int):=by omega
     have bz:(j:Int)<(N:Int):=by omega
     have ho:=L.row.at K;have bI:=L.row.frozen j;have he:=L.ans.at K;have HJ:Hid (j<N):=K;cases V:f' j
     all_goals
      cases h2:fe j
      all_goals
       rw[V]at ho;rw[h2]at he;have aQ:Hid (IL w2 (wr.setCell ⟨go,j,none⟩ (.bool (f' j||fe j))) s N nds go x cc 0 fe f (.slice (some ⟨x,0,none⟩) N cc) fe b bp p D E Z (j+1) (fun m=>if m=j then(f' j||fe j)else f' m)):=L.step aM ba (AY _) rfl;rw[V,h2]at aQ;clear L hj K V h2;go_wp2_with fail;go_roundw
       case rel=>exact⟨j+1,_,HJ.o,by go_num,aQ.o⟩
       case measure=>have:=HJ.o;simp[intOf];omega
    ·have aR:j=N:=by omega
     have bJ:¬(j:Int)<(N:Int):=by omega
     have bc:Lx w1 wr s N nds nd.kids go b bp p D E Z i (m+1) f':=⟨L.row,L.tx,a9.trans (L.keep.mono (by intro y hy;simp at hy;simp[hy])),fun j' aj=>by
      have aS:j'<N:=by have:=C.o;omega
      rw[L.says j' aS,a7.o j' aj,aR];constructor
      ·rintro(⟨t,c',a,b'⟩|⟨_,_,b'⟩)
       ·exact⟨t,c',by omega,b'⟩
       ·exact⟨m,c,by omega,HC.o,(aN.o j' aj).1 b'⟩
      ·rintro⟨t,c',a,b',d⟩;rcases DU t m with h|h
       ·exact AH ⟨t,c',h,b',d⟩
       ·have:t=m:=by omega
        subst this;cases HC.o.symm.trans b';exact AE ⟨AY _,aS,(aN.o j' aj).2 d⟩⟩
     clear L aR K hj;go_wp2_with fail;exact⟨⟨m+1,f',HM.o,by go_num,bc⟩,by have:=HM.o;simp[intOf];omega⟩
  ·have aT:m=nd.kids.length:=by omega
   have bK:¬(m:Int)<(nd.kids.length:Int):=by omega
   have S:=L.tx.less (Z':=Z) (by intro x B;exact AH (by simp[B]));have aa:AA D w wr:=BZ (z.mono (by simp)) L.keep (by intro x B;simp at B;rcases B with rfl|B;exact AE I.o;exact AH B);have Q:EA wr s nds D Z k i (.slice (some ⟨go,0,none⟩) N N):=by
    refine⟨go,N,f,by rw[<-C.o],by rw[<-C.o];exact L.row,af,aB,fun j hj=>?_⟩;rw[L.says j hj,MN.alt_iff HH.o HK.o,aT];constructor
    ·rintro⟨t,c,_,a,b⟩;exact⟨c,C8 a,b⟩
    ·rintro⟨c,a,b⟩;obtain⟨t,ht⟩:=List.mem_iff_getElem?.1 a;exact⟨t,c,(BT.1 ht).1,ht,b⟩
   clear L P hm aT;go_upto_region 24 with(fail)
   clear e0 e5 aG;obtain⟨bL,bA,g2,v2,aU,aV,bf,bB,bM,_⟩:=S.slot (k:=k) (i:=i) (by omega) HI.o;have aW:=HE.o.symm.trans aU;simp only[C7,Ai,FU,CD,true_and]at aW;obtain⟨aX,ak⟩:=aW;subst aX ak;obtain rfl:g=g2:=DC (HG.o.symm.trans aV);rw[<-C.o]at bf;obtain⟨z0,z1,_,z3⟩:=S.xb.main;rw[HE.o]at z3;obtain⟨bh,bi,aY⟩:=S.put HG.o Q;have aZ:=aa.trans aY;clear aU aV Q S aa aY;go_wp2_with fail;go_ret;exact⟨_,rfl,bh,bi,aZ⟩
theorem Kc(s:ByteArray)(nds:List Nd)(z:nds.length<=1000):∀n,n<=1000->DS s nds n:=by
 intro n
 induction n with
 |zero=>intro _ k a;obtain⟨kd,x,_,_,h,_⟩:=a;exact absurd h (Nat.not_lt_zero _)
 |succ n o=>
  intro I k a w b bp p D E Z i h A hi;have o:=o (by omega);obtain⟨kd,x,J,K,Q,L,M⟩:=a;obtain⟨nd,d,f⟩:=NK.cases x.sz J K (AP _) L M;have f:=f.up (m:=n) (by omega);have B:k<nds.length:=(BT.1 d).1;obtain⟨r,cap,g,v,t,C,u,y,_,F⟩:=h.slot B hi;rcases F with rfl|F
  ·rcases f with⟨a,G⟩|⟨a,c,j,q⟩|⟨a,N,O,H,c,j,q⟩|⟨a|⟨a,_⟩,P,l⟩
   ·exact Us s (s.size+1) rfl nds z n o k nd d a (by rw[G];simp) w b bp p D E Z i h A hi r cap g t C u y
   ·exact Uq s (s.size+1) rfl nds z n o k nd d a c j q (by rw[j];simp) w b bp p D E Z i h A hi r cap g t C u y
   ·exact Ur s (s.size+1) rfl nds z n o k nd d a c j q N ⟨O,H.1⟩ H.2 (by rw[j];simp) w b bp p D E Z i h A hi r cap g t C u y
   ·exact Up s (s.size+1) rfl nds z n o k nd d a l (by omega) w b bp p D E Z i h A hi r cap g t C u y
   ·exact Ut s (s.size+1) rfl nds z n o k nd d a l (by omega) w b bp p D E Z i h A hi r cap g t C u y
  ·refine(Uo s nds k B w b bp p D E Z i h hi r cap g v t (s.size+1) rfl u y F).mono ?_;rintro e w'⟨rfl,rfl⟩;exact⟨v,rfl,F,h,AG _ _⟩
def OB(w:World)(b:Nat)(out:ByteArray)(len:Nat)(sp:Value)(keep:Bool):Prop:=w.heap[b]? =some (.cells #[.string out,.int .i64 len,sp,.bool keep] 106 (0,0))
theorem OB.main{b:Nat}(h:OB w b out len sp keep):w.cell? ⟨b,0,none⟩=some (.string out)∧w.cell? ⟨b,1,none⟩=some (.int .i64 len)∧w.cell? ⟨b,2,none⟩=some sp∧w.cell? ⟨b,3,none⟩=some (.bool keep)∧w.frozen? ⟨b,0,none⟩=false∧w.frozen? ⟨b,1,none⟩=false:=by
 unfold OB at h;simp[World.cell?,World.frozen?,h]
theorem OB.lt{b:Nat}(h:OB w b out len sp keep):b<w.heap.size:=(AN.1 h).1
theorem OB.keep'{w':World}{S:List Nat}{b:Nat}(h:OB w b out len sp keep)(a:AA S w w')(hb:b∉S):OB w' b out len sp keep:=(a.block b h.lt hb).trans h
def ET(out s:ByteArray)(len:Nat)(keep:Bool):ByteArray:=if keep=true∧len+s.size<=20000 then out++s else out
theorem Uu(b:Nat)(out s:ByteArray)(len:Nat)(sp:Value)(keep:Bool)(w:World)(h:OB w b out len sp keep)(q:len+s.size<=4611686018427387904)(r:out.size<=20000):Calls Tryz.prog 139 #[.pointer (some ⟨b,0,none⟩),.string s] w fun e w'=>e=.returned (.tuple #[])∧OB w' b (ET out s len keep) (len+s.size) sp keep∧AA [b] w w':=by
 obtain⟨t,c1,c2,c3,f0,f1⟩:=h.main;have k:(len:Int)+(s.size:Int)<=9223372036854775807:=by omega
 have l:OB (w.setCell ⟨b,1,none⟩ (.int .i64 ((len:Int)+(s.size:Int)))) b out (len+s.size) sp keep:=by
  unfold OB at*;simp[World.setCell,Aq,h]
 have m:OB ((w.setCell ⟨b,1,none⟩ (.int .i64 ((len:Int)+(s.size:Int)))).setCell ⟨b,0,none⟩ (.string (out++s))) b (out++s) (len+s.size) sp keep:=by
  unfold OB at*;simp[World.setCell,Aq,h]
 have c:AA [b] w (w.setCell ⟨b,1,none⟩ (.int .i64 ((len:Int)+(s.size:Int)))):=(AG [b] w).setCell (p:=⟨b,1,none⟩) (by simp) _;have d:AA [b] w ((w.setCell ⟨b,1,none⟩ (.int .i64 ((len:Int)+(s.size:Int)))).setCell ⟨b,0,none⟩ (.string (out++s))):=c.setCell (p:=⟨b,0,none⟩) (by simp) _;have a:Hid (OB (w.setCell ⟨b,1,none⟩ (.int .i64 ((len:Int)+(s.size:Int)))) b out (len+s.size) sp keep∧AA [b] w (w.setCell ⟨b,1,none⟩ (.int .i64 ((len:Int)+(s.size:Int))))):=⟨l,c⟩;have f:Hid (OB ((w.setCell ⟨b,1,none⟩ (.int .i64 ((len:Int)+(s.size:Int)))).setCell ⟨b,0,none⟩ (.string (out++s))) b (out++s) (len+s.size) sp keep∧AA [b] w ((w.setCell ⟨b,1,none⟩ (.int .i64 ((len:Int)+(s.size:Int)))).setCell ⟨b,0,none⟩ (.string (out++s)))):=⟨m,d⟩;clear l m c d h;cases keep
 ·have g:Hid (ET out s len false=out):=by show ET out s len false=out;simp[ET]
  go_enter Tryz.func139,Tryz.ntmps139;go_wp2_with fail;go_end0;exact⟨rfl,by rw[g.o];exact a.o.1,a.o.2⟩
 by_cases i:len+s.size<=20000
 ·have g:Hid (ET out s len true=out++s):=by show ET out s len true=out++s;simp[ET,i]
  have j:(len:Int)+(s.size:Int)<=20000:=by omega
  have n:out.size+s.size<=100000000:=by omega
  clear i;go_enter Tryz.func139,Tryz.ntmps139;go_wp2_with fail;go_end0;exact⟨rfl,by rw[g.o];exact f.o.1,f.o.2⟩
 ·have g:Hid (ET out s len true=out):=by show ET out s len true=out;simp[ET,i]
  have j:¬(len:Int)+(s.size:Int)<=20000:=by omega
  clear i;go_enter Tryz.func139,Tryz.ntmps139;go_wp2_with fail;go_end0;exact⟨rfl,by rw[g.o];exact a.o.1,a.o.2⟩
