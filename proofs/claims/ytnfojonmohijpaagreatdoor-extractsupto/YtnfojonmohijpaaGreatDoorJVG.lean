/-
  DERIVED. The reference's 'Tree' at a group. Conditions: what it has in memory lies as it should (TS).
-/
import Derived.Test.YtnfojonmohijpaaGreatDoorJMM
set_option linter.all false
set_option maxRecDepth 100000
set_option maxHeartbeats 8000000
namespace Go.Proofs.YtnfojonmohijpaaGreatDoor
open Go.RowKit
theorem U3(s:ByteArray)(N:Nat)(HN:Hid (N=s.size+1))(nds:List Nd)(hn:nds.length<=1000)(n:Nat)(ba:DS s nds n)(aJ:F6 s nds n)(k:Nat)(nd:Nd)(hk:nds[k]? =some nd)(F:nd.kind=103)(c:Nat)(aK:Hid (nd.kids=[c]))(aL:NK nds n c)(ao:nd.kids.length<=1000)(w:World)(b bp:Nat)(p:PS)(D:List Nat)(E:Value)(ob:Nat)(sp:Value)(keep:Bool)(g:Nat)(acc:List UInt8)(l:List Int)(i j:Nat)(t:List UInt8)(ev:List (Nat×Nat×Nat))(hS:TS w b bp s p nds D E ob sp keep g acc l)(ap:i<=j)(hj:j<=s.size)(hg:g<=9)(bc:0<nd.n∧nd.n<=g)(aM:Hid (TN s nds g (.node c) i j t ev))(aN:Hid (MN s nds (.node c) i j))(hlen:acc.length+([40,103]++Bh nd.n++[32]++t++[41]).length<=4611686018427387904):Calls Tryz.prog 88 #[.pointer (some ⟨b,0,none⟩),.int .i64 k,.int .i64 i,.int .i64 j,.pointer (some ⟨ob,0,none⟩)] w (FX w b bp s p nds D E ob sp keep g acc l ([40,103]++Bh nd.n++[32]++t++[41]) ((nd.n,i,j)::ev)):=by
 obtain⟨x0,x1,x2,x3⟩:=hS.tx.xb.main;obtain⟨g',aY,hv,kv,G,aO,hH,T,c0,c1,c2,c3,c4,c5⟩:=hS.tx.nodes.node hk;rw[F]at c0;obtain⟨n1,_⟩:=hS.tx.pb.nodes;rw[G]at n1;obtain⟨H,q,r,rfl⟩:=hH.1;have aP:Hid (KV w (Al ob sp D) kv nd.kids):=T.kv2 ao;obtain⟨I,C,rfl,aZ⟩:=T.cap;have hs:=hS.tx.small;have a1:(0:Int)<=(k:Int):=by omega
 have a2:(k:Int)<(nds.length:Int):=by omega
 have a3:(nds.length:Int)<=1000:=by omega
 have a4:(nd.kids.length:Int)<=1000:=by omega
 have aQ:Hid (i<=j∧j<=s.size∧s.size<=100):=⟨ap,hj,hs⟩;have HS:Hid (TS w b bp s p nds D E ob sp keep g acc l):=hS;have ag:=(AG [] w).alloc (.cells #[.int .u8 103,.slice H q r,.int .i64 nd.n,.int .i64 nd.mn,.int .i64 nd.mx,.slice I nd.kids.length C] 157);have u:=AS w (.cells #[.int .u8 103,.slice H q r,.int .i64 nd.n,.int .i64 nd.mn,.int .i64 nd.mx,.slice I nd.kids.length C] 157);have HL:Hid (acc.length+([40,103]++Bh nd.n++[32]++t++[41]).length<=4611686018427387904):=hlen;clear hS hk ap hj hs G hH T aO F hn ao x2 x3 hlen;go_enter Tryz.func88,Tryz.ntmps88;go_upto_region 1 with(fail)
 clear c0 c1 c2 c3 c4 c5 n1 x0 x1;generalize w.alloc (.cells #[.int .u8 103,.slice H q r,.int .i64 nd.n,.int .i64 nd.mn,.int .i64 nd.mx,.slice I nd.kids.length C] 157)=W at*;obtain⟨gn,aq⟩:=AQ w.heap.size;rw[<-aq]at u⊢;have ah:=HS.o.new ag;have ai:gn∉Al ob sp D:=by
  intro hm;have h0:=HS.o;simp only[Al,Az,Bb,Ay]at hm;rcases hm with h|h|h
  ·have:=h0.ot.lt;omega
  ·have:=(h0.row.lt _ h).2;omega
  ·have:=h0.tx.dlt _ h;omega
 clear aq;have e0:W.cell? ⟨gn,0,none⟩=some (.int .u8 103):=by rw[AU u];rfl
 have aj:Hid (W.heap[gn]? =some (.cells #[.int .u8 103,.slice H q r,.int .i64 nd.n,.int .i64 nd.mn,.int .i64 nd.mx,.slice I nd.kids.length C] 157 (0,0))):=u;have aR:Hid (gn<W.heap.size):=(AN.1 u).1;have Y:=aP.o.keep (ag.mono (by simp));clear u;have HC:Hid (nd.kids=[c]):=aK.o;obtain⟨f,cap,aS,_,_⟩:=Ga ah.row (by omega);subst aS;have bf:(1:Int)<=(nd.n:Int):=by omega
 have bh:(nd.n:Int)<=(g:Int):=by omega
 have bi:(g:Int)<=9:=by omega
 have w1:IntKind.i64.wrap (2*(nd.n:Int))=2*(nd.n:Int):=wrap_small (by omega) (by omega);have bj:IntKind.i64.wrap (2*(nd.n:Int)-2)=2*(nd.n:Int)-2:=wrap_small (by omega) (by omega);have bk:IntKind.i64.wrap (2*(nd.n:Int)-1)=2*(nd.n:Int)-1:=wrap_small (by omega) (by omega);have t2:(2*(nd.n:Int)-2).toNat=2*nd.n-2:=by omega
 have t1:(2*(nd.n:Int)-1).toNat=2*nd.n-1:=by omega
 have ar:=aj.o;have a5:(0:Int)<=2*(nd.n:Int)-2:=by omega
 have a6:2*(nd.n:Int)-2<2*(g:Int):=by omega
 have a7:(0:Int)<=2*(nd.n:Int)-1:=by omega
 have a8:2*(nd.n:Int)-1<2*(g:Int):=by omega
 go_upto_region 5 with(fail)
 clear e0;have Z:W.heap[gn]? =some (.cells #[.int .u8 103,.slice H q r,.int .i64 nd.n,.int .i64 nd.mn,.int .i64 nd.mx,.slice I nd.kids.length C] 157 (0,0)):=aj.o;have J:AA [] W W.drew:=(AG [] W).drewN 1;have L:=ah.new J;obtain⟨bm,aa,_,_⟩:=L.ot;have a:W.drew.heap[gn]? =some (.cells #[.int .u8 103,.slice H q r,.int .i64 nd.n,.int .i64 nd.mn,.int .i64 nd.mx,.slice I nd.kids.length C] 157 (0,0))∧W.drew.cell? ⟨ob,2,none⟩=some (.slice (some ⟨f,0,none⟩) (2*g) cap):=⟨Z,aa.main.2.2.1⟩;have d:Hid (TS W.drew b bp s p nds D E ob (.slice (some ⟨f,0,none⟩) (2*g) cap) keep g acc l∧AA [] W W.drew):=⟨L,J⟩;refine Cj (S:=fun X':World=>X'.heap[gn]? =some (.cells #[.int .u8 103,.slice H q r,.int .i64 nd.n,.int .i64 nd.mn,.int .i64 nd.mx,.slice I nd.kids.length C] 157 (0,0))∧X'.cell? ⟨ob,2,none⟩=some (.slice (some ⟨f,0,none⟩) (2*g) cap)) (by kernel_rfl) ?_;change wpAnyH _ _ _ _ _ _ _ _ (World.drew _);clear L J aa;generalize W.drew=X0 at*;refine AV 0 _ (some 40) (.pointer (some ⟨ob,0,none⟩)) rfl a ?_;simp only[AM];refine AV 1 _ (some 41) (.pointer (some ⟨ob,0,none⟩)) rfl a ?_;simp only[AM];refine AV 2 _ (some 42) (.pointer (some ⟨ob,2,none⟩)) rfl a ?_;simp only[AM];refine Ak 3 _ (some 43) (.slice (some ⟨f,0,none⟩) (2*g) cap) rfl (AH ⟨by rfl,fun X B=>by(obtain⟨r0,r1,r2,r3,r4,r5⟩:=CZ B.1;have r6:=B.2;go_simp)⟩) a ?_;simp only[AM];refine AV 4 _ (some 44) (.pointer (some ⟨gn,2,none⟩)) rfl a ?_;simp only[AM];refine Ak 5 _ (some 45) (.int .i64 nd.n) rfl (AH ⟨by rfl,fun X B=>by(obtain⟨r0,r1,r2,r3,r4,r5⟩:=CZ B.1;have r6:=B.2;go_simp)⟩) a ?_;simp only[AM];refine AV 6 _ (some 46) (.int .i64 (2*(nd.n:Int))) rfl a ?_;simp only[AM];refine AV 7 _ (some 47) (.int .i64 (2*(nd.n:Int)-2)) rfl a ?_;simp only[AM];refine AV 8 _ (some 48) (.int .i64 (i:Int)) rfl a ?_;simp only[AM];refine Ak 9 _ (some 49) (.pointer (some ⟨f,2*nd.n-2,none⟩)) rfl (AH ⟨by rfl,fun X B=>by(go_simp;intro hq;exfalso;omega)⟩) a ?_;simp only[AM];refine A8 10 rfl fun K T=>?_
 have aT:=d.o.1.len;obtain⟨vz,M⟩:∃vz,(BA l)[2*nd.n-2]? =some vz:=⟨_,Ax (by simp only[BA,Ce];omega)⟩;have ca:=(BX d.o.1.row (2*nd.n-2) (by omega)).trans M;have fa:=D8 d.o.1.row (2*nd.n-2);obtain⟨ab,z⟩:=d.o.1.span rfl (2*nd.n-2) (i:Int);have ak:gn≠f:=fun e=>ai (by simp[Al,Value.ownBlock,e])
 have al:ob≠f:=fun e=>d.o.1.ne (by simp[Value.ownBlock,e])
 have O:=(AN.1 a.1).1;have P:=d.o.1.ot.lt;have v:(X0.setCell ⟨f,2*nd.n-2,none⟩ (.int .i64 (i:Int))).heap[gn]? =some (.cells #[.int .u8 103,.slice H q r,.int .i64 nd.n,.int .i64 nd.mn,.int .i64 nd.mx,.slice I nd.kids.length C] 157 (0,0))∧(X0.setCell ⟨f,2*nd.n-2,none⟩ (.int .i64 (i:Int))).cell? ⟨ob,2,none⟩=some (.slice (some ⟨f,0,none⟩) (2*g) cap):=⟨(z.block gn O (by simp;exact ak)).trans a.1,(Ad (z.block ob P (by simp;exact al))).trans a.2⟩;go_simp;refine T.out _ _ v (fun _=>?_);clear T K;refine CE ?_;have au:AA (Al ob (.slice (some ⟨f,0,none⟩) (2*g) cap) D) W (X0.setCell ⟨f,2*nd.n-2,none⟩ (.int .i64 (i:Int))):=(d.o.2.mono (by simp)).trans (z.mono (by simp[Al,Value.ownBlock]));have aw:=v.1;clear a v ca fa M O P d z ah ar Z;generalize X0.setCell ⟨f,2*nd.n-2,none⟩ (.int .i64 (i:Int))=V at*;go_upto_region 6 with(fail)
 have Q:AA [] V V.drew:=(AG [] V).drewN 1;have R:=ab.new Q;obtain⟨bn,ac,_,_⟩:=R.ot;have a:V.drew.heap[gn]? =some (.cells #[.int .u8 103,.slice H q r,.int .i64 nd.n,.int .i64 nd.mn,.int .i64 nd.mx,.slice I nd.kids.length C] 157 (0,0))∧V.drew.cell? ⟨ob,2,none⟩=some (.slice (some ⟨f,0,none⟩) (2*g) cap):=⟨aw,ac.main.2.2.1⟩;have d:Hid (TS V.drew b bp s p nds D E ob (.slice (some ⟨f,0,none⟩) (2*g) cap) keep g acc (l.set (2*nd.n-2) (i:Int))∧AA [] V V.drew):=⟨R,Q⟩;refine Cj (S:=fun X':World=>X'.heap[gn]? =some (.cells #[.int .u8 103,.slice H q r,.int .i64 nd.n,.int .i64 nd.mn,.int .i64 nd.mx,.slice I nd.kids.length C] 157 (0,0))∧X'.cell? ⟨ob,2,none⟩=some (.slice (some ⟨f,0,none⟩) (2*g) cap)) (by kernel_rfl) ?_;change wpAnyH _ _ _ _ _ _ _ _ (World.drew _);clear R Q ac;generalize V.drew=X1 at*;refine AV 0 _ (some 50) (.pointer (some ⟨ob,0,none⟩)) rfl a ?_;simp only[AM];refine AV 1 _ (some 51) (.pointer (some ⟨ob,0,none⟩)) rfl a ?_;simp only[AM];refine AV 2 _ (some 52) (.pointer (some ⟨ob,2,none⟩)) rfl a ?_;simp only[AM];refine Ak 3 _ (some 53) (.slice (some ⟨f,0,none⟩) (2*g) cap) rfl (AH ⟨by rfl,fun X B=>by(obtain⟨r0,r1,r2,r3,r4,r5⟩:=CZ B.1;have r6:=B.2;go_simp)⟩) a ?_;simp only[AM];refine AV 4 _ (some 54) (.pointer (some ⟨gn,2,none⟩)) rfl a ?_;simp only[AM];refine Ak 5 _ (some 55) (.int .i64 nd.n) rfl (AH ⟨by rfl,fun X B=>by(obtain⟨r0,r1,r2,r3,r4,r5⟩:=CZ B.1;have r6:=B.2;go_simp)⟩) a ?_;simp only[AM];refine AV 6 _ (some 56) (.int .i64 (2*(nd.n:Int))) rfl a ?_;simp only[AM];refine AV 7 _ (some 57) (.int .i64 (2*(nd.n:Int)-1)) rfl a ?_;simp only[AM];refine AV 8 _ (some 58) (.int .i64 (j:Int)) rfl a ?_;simp only[AM];refine Ak 9 _ (some 59) (.pointer (some ⟨f,2*nd.n-1,none⟩)) rfl (AH ⟨by rfl,fun X B=>by(go_simp;intro hq;exfalso;omega)⟩) a ?_;simp only[AM];refine A8 10 rfl fun K T=>?_
 have aT:=d.o.1.len;obtain⟨vz,M⟩:∃vz,(BA (l.set (2*nd.n-2) (i:Int)))[2*nd.n-1]? =some vz:=⟨_,Ax (by simp only[BA,Ce];omega)⟩;have ca:=(BX d.o.1.row (2*nd.n-1) (by omega)).trans M;have fa:=D8 d.o.1.row (2*nd.n-1);obtain⟨ae,A⟩:=d.o.1.span rfl (2*nd.n-1) (j:Int);have ak:gn≠f:=fun e=>ai (by simp[Al,Value.ownBlock,e])
 have al:ob≠f:=fun e=>d.o.1.ne (by simp[Value.ownBlock,e])
 have O:=(AN.1 a.1).1;have P:=d.o.1.ot.lt;have v:(X1.setCell ⟨f,2*nd.n-1,none⟩ (.int .i64 (j:Int))).heap[gn]? =some (.cells #[.int .u8 103,.slice H q r,.int .i64 nd.n,.int .i64 nd.mn,.int .i64 nd.mx,.slice I nd.kids.length C] 157 (0,0))∧(X1.setCell ⟨f,2*nd.n-1,none⟩ (.int .i64 (j:Int))).cell? ⟨ob,2,none⟩=some (.slice (some ⟨f,0,none⟩) (2*g) cap):=⟨(A.block gn O (by simp;exact ak)).trans a.1,(Ad (A.block ob P (by simp;exact al))).trans a.2⟩;go_simp;refine T.out _ _ v (fun _=>?_);clear T K;refine CE ?_;have ax:AA (Al ob (.slice (some ⟨f,0,none⟩) (2*g) cap) D) W (X1.setCell ⟨f,2*nd.n-1,none⟩ (.int .i64 (j:Int))):=(au.trans (d.o.2.mono (by simp))).trans (A.mono (by simp[Al,Value.ownBlock]));have ay:=v.1;clear a v ca fa M O P d A ab aw au;generalize X1.setCell ⟨f,2*nd.n-1,none⟩ (.int .i64 (j:Int))=U at*;obtain⟨_,_,u2,_,_,u5⟩:=CZ ay;have aU:nd.n<=9:=by omega
 have az:Hid ((AJ Jp).extract nd.n (nd.n+1)=AJ (Bh nd.n)):=Kh nd.n aU;have aA:(AJ (Bh nd.n)).size<=1:=AP 1;have aB:(AJ [40,103]++AJ (Bh nd.n)).size<=3:=by rw[Ei,Bp];exact AP 3
 have am:=Dk ae ([40,103]++Bh nd.n++[32]) (by have:=HL.o;simp only[AW,Aj,BJ]at this⊢;omega);rw[<-Ei,<-Ei,<-az.o]at am;rw[<-az.o]at aA aB;obtain⟨ad,cp,e1,_,aC⟩:=id Y;simp only[C7]at e1;obtain⟨rfl,_,rfl⟩:=e1;obtain⟨y,off,rfl,_,_,_⟩:=aC 0 c (by rw[HC.o];rfl);have a9:(0:Int)<(nd.kids.length:Int):=by rw[HC.o];simp
 clear aC;go_wp2_with fail;refine am.mono ?_;rintro e w4⟨rfl,aD,hk4⟩;have an:AA (Al ob (.slice (some ⟨f,0,none⟩) (2*g) cap) D) W w4:=ax.trans (hk4.mono fun x hx=>Dm hx);have aV:w4.cell? ⟨gn,5,none⟩=some (.slice (some ⟨y,off,none⟩) nd.kids.length C):=by rw[Ad (an.block gn aR.o ai)];exact(CZ aj.o).2.2.2.2.2
 have af:=(Y.keep an).cell (m:=0) (c:=c) (by rw[HC.o];rfl);rw[Di]at af;clear am hk4 ax u2 u5 ae ay aA aB;go_wp2_with fail;refine(aJ c aL w4 b bp p D E ob _ keep g (acc++([40,103]++Bh nd.n++[32])) _ i j t ev aD aM.o aN.o aQ.o.2.1 hg (by have:=HL.o;simp only[AW,Aj,BJ]at this⊢;omega)).mono ?_;rintro e w5⟨rfl,aE,aF⟩;have aG:=Dk aE [41] (by have:=HL.o;simp only[AW,Aj,BJ]at this⊢;omega);clear aD aV af;go_wp2_with fail;refine aG.mono ?_;rintro e w6⟨rfl,aH,aI⟩;have aW:AA (Al ob (.slice (some ⟨f,0,none⟩) (2*g) cap) D) w w6:=(((ag.mono (by simp)).trans an).trans aF).trans (aI.mono fun x hx=>Dm hx);have aX:TS w6 b bp s p nds D E ob (.slice (some ⟨f,0,none⟩) (2*g) cap) keep g (acc++([40,103]++Bh nd.n++[32]++t++[41])) (evs l ((nd.n,i,j)::ev)):=by
  have h1:=aH;have e1:acc++([40,103]++Bh nd.n++[32]++t++[41])=acc++([40,103]++Bh nd.n++[32])++t++[41]:=by simp
  rw[e1];exact h1
 clear aG aE aH aI aF;go_wp2_with fail;go_end0;exact⟨rfl,aX,aW⟩
theorem U4(s:ByteArray)(N:Nat)(HN:Hid (N=s.size+1))(nds:List Nd)(hn:nds.length<=1000)(n:Nat)(aA:DS s nds n)(aB:F6 s nds n)(k:Nat)(nd:Nd)(hk:nds[k]? =some nd)(r:nd.kind=111)(P:∀c,c∈nd.kids->NK nds n c)(aN:nd.kids.length<=99)(ae:nd.kids.length<=1000)(w:World)(b bp:Nat)(p:PS)(D:List Nat)(E:Value)(ob:Nat)(sp:Value)(keep:Bool)(g:Nat)(acc:List UInt8)(l:List Int)(i j:Nat)(t:List UInt8)(ev:List (Nat×Nat×Nat))(hS:TS w b bp s p nds D E ob sp keep g acc l)(af:i<=j)(hj:j<=s.size)(hg:g<=9)(aC:Hid (TN s nds g (.alts 0 nd.kids) i j t ev))(hlen:acc.length+(t).length<=4611686018427387904):Calls Tryz.prog 88 #[.pointer (some ⟨b,0,none⟩),.int .i64 k,.int .i64 i,.int .i64 j,.pointer (some ⟨ob,0,none⟩)] w (FX w b bp s p nds D E ob sp keep g acc l (t) (ev)):=by
 obtain⟨x0,x1,x2,x3⟩:=hS.tx.xb.main;obtain⟨g',aO,hv,kv,z,aD,hH,hK,c0,c1,c2,c3,c4,c5⟩:=hS.tx.nodes.node hk;rw[r]at c0;obtain⟨n1,_⟩:=hS.tx.pb.nodes;rw[z]at n1;obtain⟨ha,C,F,rfl⟩:=hH.1;have aE:Hid (KV w (Al ob sp D) kv nd.kids):=hK.kv2 ae;obtain⟨ka,I,rfl,aP⟩:=hK.cap;have hs:=hS.tx.small;have aQ:(0:Int)<=(k:Int):=by omega
 have aR:(k:Int)<(nds.length:Int):=by omega
 have aS:(nds.length:Int)<=1000:=by omega
 have aT:(nd.kids.length:Int)<=1000:=by omega
 have G:Hid (i<=j∧j<=s.size∧s.size<=100):=⟨af,hj,hs⟩;have HS:Hid (TS w b bp s p nds D E ob sp keep g acc l):=hS;have Q:=(AG [] w).alloc (.cells #[.int .u8 111,.slice ha C F,.int .i64 nd.n,.int .i64 nd.mn,.int .i64 nd.mx,.slice ka nd.kids.length I] 157);have a:=AS w (.cells #[.int .u8 111,.slice ha C F,.int .i64 nd.n,.int .i64 nd.mn,.int .i64 nd.mx,.slice ka nd.kids.length I] 157);have HL:Hid (acc.length+(t).length<=4611686018427387904):=hlen;clear hS hk af hj hs z hH hK aD r hn ae x2 x3 hlen;go_enter Tryz.func88,Tryz.ntmps88;go_upto_region 1 with(fail)
 clear c0 c1 c2 c3 c4 c5 n1 x0 x1;generalize w.alloc (.cells #[.int .u8 111,.slice ha C F,.int .i64 nd.n,.int .i64 nd.mn,.int .i64 nd.mx,.slice ka nd.kids.length I] 157)=W at*;obtain⟨gn,ag⟩:=AQ w.heap.size;rw[<-ag]at a⊢;have ah:=HS.o.new Q;have R:gn∉Al ob sp D:=by
  intro hm;have h0:=HS.o;simp only[Al,Az,Bb,Ay]at hm;rcases hm with h|h|h
  ·have:=h0.ot.lt;omega
  ·have:=(h0.row.lt _ h).2;omega
  ·have:=h0.tx.dlt _ h;omega
 clear ag;have e0:W.cell? ⟨gn,0,none⟩=some (.int .u8 111):=by rw[AU a];rfl
 have A:Hid (W.heap[gn]? =some (.cells #[.int .u8 111,.slice ha C F,.int .i64 nd.n,.int .i64 nd.mn,.int .i64 nd.mx,.slice ka nd.kids.length I] 157 (0,0))):=a;have S:Hid (gn<W.heap.size):=(AN.1 a).1;have J:=aE.o.keep (Q.mono (by simp));clear a;clear e0;have q5:W.cell? ⟨gn,5,none⟩=some (.slice ka nd.kids.length I):=(CZ A.o).2.2.2.2.2;have q0:W.cell? ⟨gn,0,none⟩=some (.int .u8 111):=(CZ A.o).1;have aU:(nd.kids.length:Int)<=99:=by omega
 go_upto_region 12 with(fail)
 clear q0 q5;go_loopw [11] (fun q wr=>∃m:Nat,q=.int .i64 m∧m<=nd.kids.length∧TN s nds g (.alts m (nd.kids.drop m)) i j t ev∧TS wr b bp s p nds D E ob sp keep g acc l∧AA D W wr) (fun q _=>nd.kids.length-(intOf q).toNat)
 case atStart=>exact⟨0,rfl,by omega,by rw[List.drop_zero];exact aC.o,ah,AG _ _⟩
 case round=>
  clear ah;obtain⟨m,rfl,hm,hT,H,T⟩:=hrel;have U:AA (Al ob sp D) W wr:=T.mono fun x V=>EI V
  have e5:wr.cell? ⟨gn,5,none⟩=some (.slice ka nd.kids.length I):=by rw[Ad (U.block gn S.o R)];exact(CZ A.o).2.2.2.2.2
  by_cases X:m<nd.kids.length
  rotate_left
  ·have aF:m=nd.kids.length:=by omega
   rw[aF,List.drop_length]at hT;cases hT
  obtain⟨c,hc⟩:∃c,nd.kids[m]? =some c:=⟨_,Ax X⟩;have ai:NK nds n c:=P c (C8 hc);have aj:nd.kids.drop m=c::nd.kids.drop (m+1):=by
   obtain⟨f,h2⟩:=BT.1 hc;rw[GO f,h2]
  rw[aj]at hT;obtain⟨ad,cp,e1,_,ak⟩:=J.keep U;simp only[C7]at e1;obtain⟨rfl,_,rfl⟩:=e1;obtain⟨y,off,rfl,aX,aY,aG⟩:=ak m c hc;have aV:(0:Int)<=(m:Int):=by omega
  have aW:(m:Int)<(nd.kids.length:Int):=by omega
  have HM:Hid (m<nd.kids.length):=X;have HT:Hid (TN s nds g (.alts m (c::nd.kids.drop (m+1))) i j t ev):=hT;have HC:Hid (nd.kids[m]? =some c):=hc;have aZ:(j:Int)<(N:Int):=by have:=HN.o;have:=G.o;omega
  have a1:(0:Int)<=(j:Int):=by omega
  clear ak hm X hc aj hT;go_wp2_with fail;refine(aA c ai wr b bp p D E _ i H.tx H.zin (by have:=G.o;omega)).mono ?_;rintro e w3⟨v,rfl,aH,K,hk3⟩;have Y:=H.ends hk3 K;have L:AA D W w3:=T.trans hk3;have M:AA (Al ob sp D) W w3:=L.mono fun x V=>EI V
  obtain⟨x,cc,fe,al,Z,a2,a3,O⟩:=aH;rw[<-HN.o]at al Z;subst al;have aa:=Z.at (j:=j) (by omega);have am:Hid (fe j=true↔MN s nds (.node c) i j):=O j G.o.2.1;clear H T U hk3 K O aG e5 Z;cases d:fe j
  ·rw[d]at aa;have an:TN s nds g (.alts (m+1) (nd.kids.drop (m+1))) i j t ev:=by
    cases HT.o with
    |hit _ _ _ _ _ _ _ f _=>have:=am.o.2 f;rw[d]at this;cases this
    |miss _ _ _ _ _ _ _ _ h2=>exact h2
   have aI:Hid (TN s nds g (.alts (m+1) (nd.kids.drop (m+1))) i j t ev):=an;clear d an;go_wp2_with fail;exact⟨⟨m+1,by go_num,HM.o,aI.o,Y,L⟩,by have:=HM.o;simp[intOf];omega⟩
  ·rw[d]at aa;obtain⟨u,hu,ao,ap⟩:∃u,t=[40,97]++CG m++[32]++u++[41]∧MN s nds (.node c) i j∧TN s nds g (.node c) i j u ev:=by
    cases HT.o with
    |hit _ _ _ _ _ u _ f h2=>exact⟨u,rfl,f,h2⟩
    |miss _ _ _ _ _ _ _ f _=>exact absurd (am.o.1 d) f
   have HU:Hid (t=[40,97]++CG m++[32]++u++[41]∧MN s nds (.node c) i j∧TN s nds g (.node c) i j u ev):=⟨hu,ao,ap⟩;have a4:(AJ (CG m)).size<=2:=by rw[Bp];exact Ke m
   have a5:(AJ [40,97]++AJ (CG m)).size<=4:=by rw[Ei,Bp,AW];have:=Ke m;simp only[Aj,BJ];omega
   have ab:Hid (acc.length+(4+(CG m).length+u.length)<=4611686018427387904):=by
    have f:=HL.o;rw[hu]at f;simp only[AW,Aj,BJ]at f;show acc.length+(4+(CG m).length+u.length)<=4611686018427387904;omega
   have aJ:w3.cell? ⟨gn,5,none⟩=some (.slice (some ⟨y,off,none⟩) nd.kids.length I):=by rw[Ad (M.block gn S.o R)];exact(CZ A.o).2.2.2.2.2
   have ac:=Dk Y ([40,97]++CG m++[32]) (by have:=ab.o;simp only[AW,Aj,BJ];omega);rw[<-Ei,<-Ei]at ac;clear d hu ao ap;go_wp2_with fail;refine(U1 m (by omega) _).mono ?_;rintro e w'⟨rfl,rfl⟩;go_wp2_with fail;refine ac.mono ?_;rintro e w4⟨rfl,aq,hk4⟩;have B:AA (Al ob sp D) W w4:=M.trans (hk4.mono fun x V=>Dm V);have aK:w4.cell? ⟨gn,5,none⟩=some (.slice (some ⟨y,off,none⟩) nd.kids.length I):=by rw[Ad (B.block gn S.o R)];exact(CZ A.o).2.2.2.2.2
   have ar:=(J.keep B).cell HC.o;clear ac Y hk4 aa aJ;go_wp2_with fail;refine(aB c ai w4 b bp p D E ob sp keep g (acc++([40,97]++CG m++[32])) l i j u ev aq HU.o.2.2 HU.o.2.1 G.o.2.1 hg (by have:=ab.o;simp only[AW,Aj,BJ];omega)).mono ?_;rintro e w5⟨rfl,au,aw⟩;have ax:=Dk au [41] (by have:=ab.o;simp only[AW,Aj,BJ];omega);clear aq aK ar;go_wp2_with fail;refine ax.mono ?_;rintro e w6⟨rfl,ay,az⟩;have aL:AA (Al ob sp D) w w6:=(((Q.mono (by simp)).trans B).trans aw).trans (az.mono fun x V=>Dm V);have aM:TS w6 b bp s p nds D E ob sp keep g (acc++t) (evs l ev):=by
    have f:=ay;have e1:acc++t=acc++([40,97]++CG m++[32])++u++[41]:=by rw[HU.o.1];simp
    rw[e1];exact f
   clear ax au ay az aw;go_wp2_with fail;go_end0;exact⟨rfl,aM,aL⟩
structure RI (w wr : World) (b bp : Nat) (s : ByteArray) (p : PS) (nds : List Nd) (D : List Nat) (E : Value) (ob : Nat) (sp : Value) (keep : Bool) (g : Nat) (kids : List Nat) (j : Nat) (full : List UInt8) (last : List Int) (m i : Nat) (acc : List UInt8) (l : List Int) (u : List UInt8) (fv : List (Nat × Nat × Nat)) : Prop where
 ts : TS wr b bp s p nds D E ob sp keep g acc l
 tn : TN s nds g (.kids (kids.drop m)) i j u fv
 mn : MN s nds (.row (kids.drop m)) i j
 txt : acc ++ u = full
 evl : evs l fv = last
 keep : AA (Al ob sp D) w wr
theorem TN.kids_nil{s:ByteArray}{nds:List Nd}{g i j:Nat}{t:List UInt8}{ev:List (Nat×Nat×Nat)}(h:TN s nds g (.kids []) i j t ev):t=[]∧ev=[]:=by
 cases h;exact⟨rfl,rfl⟩
theorem TN.kids_cons{s:ByteArray}{nds:List Nd}{g i j c:Nat}{r:List Nat}{t:List UInt8}{ev:List (Nat×Nat×Nat)}(h:TN s nds g (.kids (c::r)) i j t ev):∃m t1 u a fv,BH (fun m=>MN s nds (.node c) i m∧MN s nds (.row r) m j) i j m∧TN s nds g (.node c) i m t1 a∧TN s nds g (.kids r) m j u fv∧t=[32]++t1++u∧ev=a++fv:=by
 cases h with
 |kgo _ _ _ _ m t u ev fv b d e=>exact⟨m,t,u,ev,fv,b,d,e,rfl,rfl⟩
theorem U5(s:ByteArray)(nds:List Nd)(k0 m n n3:Int)(f:Value)(t:f.oneCell'=true)(o:Option Addr)(q:Nat)(w:World)(b bp:Nat)(p:PS)(D:List Nat)(E:Value)(ob:Nat)(sp:Value)(keep:Bool)(g:Nat)(acc:List UInt8)(l:List Int)(i j:Nat)(r:TS w b bp s p nds D E ob sp keep g acc l)(hlen:acc.length+1<=4611686018427387904):Calls Tryz.prog 141 #[.pointer (some ⟨b,0,none⟩),.agg #[.int .u8 k0,f,.int .i64 m,.int .i64 n,.int .i64 n3,.slice o 0 q],.int .i64 i,.int .i64 j,.pointer (some ⟨ob,0,none⟩)] w (FX w b bp s p nds D E ob sp keep g acc l [101] []):=by
 have a:=(AG [] w).alloc (.cells #[.int .u8 k0,f,.int .i64 m,.int .i64 n,.int .i64 n3,.slice o 0 q] 157);have c:=r.new a;clear r;go_enter Tryz.func141,Tryz.ntmps141;go_wp2_with fail;refine(Dk c [101] hlen).mono ?_;rintro e w2⟨rfl,h,d⟩;have k:AA (Al ob sp D) w w2:=(a.mono (by simp)).trans (d.mono fun x u=>Dm u);clear c d;go_wp2_with fail;go_end0;exact⟨rfl,h,k⟩
theorem U6(s:ByteArray)(N:Nat)(HN:Hid (N=s.size+1))(nds:List Nd)(n:Nat)(aX:DS s nds n)(aY:F6 s nds n)(kids:List Nat)(Z:∀c,c∈kids->NK nds n c)(bm:kids≠[])(bL:kids.length<=1000)(k0 n1 n2 n3:Int)(hv:Value)(bM:hv.oneCell'=true)(ka:Option Addr)(X:Nat)(aZ:kids.length<=X)(w:World)(b bp:Nat)(p:PS)(D:List Nat)(E:Value)(ob:Nat)(sp:Value)(keep:Bool)(g:Nat)(acc:List UInt8)(l:List Int)(i j:Nat)(t:List UInt8)(ev:List (Nat×Nat×Nat))(hS:TS w b bp s p nds D E ob sp keep g acc l)(a1:KV w (Al ob sp D) (.slice ka kids.length X) kids)(hT:TN s nds g (.kids kids) i j t ev)(hM:MN s nds (.row kids) i j)(hj:j<=s.size)(hg:g<=9)(hlen:acc.length+t.length+3<=4611686018427387904):Calls Tryz.prog 141 #[.pointer (some ⟨b,0,none⟩),.agg #[.int .u8 k0,hv,.int .i64 n1,.int .i64 n2,.int .i64 n3,.slice ka kids.length X],.int .i64 i,.int .i64 j,.pointer (some ⟨ob,0,none⟩)] w (FX w b bp s p nds D E ob sp keep g acc l ([40,115]++t++[41]) ev):=by
 have hs:=hS.tx.small;have aJ:=(AG [] w).alloc (.cells #[.int .u8 k0,hv,.int .i64 n1,.int .i64 n2,.int .i64 n3,.slice ka kids.length X] 157);have P:=AS w (.cells #[.int .u8 k0,hv,.int .i64 n1,.int .i64 n2,.int .i64 n3,.slice ka kids.length X] 157);have a2:=hS.new aJ;have C:=a1.keep (aJ.mono (by simp));have bn:((kids.length:Int)==0)=false:=by
  have:kids.length≠0:=fun e=>bm (FK.1 e)
  simpa using(by omega:¬(kids.length:Int)=0)
 have bC:(kids.length:Int)<=1000:=by omega
 have S:w.heap.size∉Al ob sp D:=by
  intro hm;simp only[Al,Az,Bb,Ay]at hm;rcases hm with h|h|h
  ·have:=hS.ot.lt;omega
  ·have:=(hS.row.lt _ h).2;omega
  ·have:=hS.tx.dlt _ h;omega
 have I:Hid (TN s nds g (.kids kids) i j t ev∧MN s nds (.row kids) i j∧acc.length+t.length+3<=4611686018427387904):=⟨hT,hM,hlen⟩;clear hS a1 hT hM hlen;go_enter Tryz.func141,Tryz.ntmps141;go_upto_region 1 with(fail)
 generalize(w.alloc (.cells #[.int .u8 k0,hv,.int .i64 n1,.int .i64 n2,.int .i64 n3,.slice ka kids.length X] 157))=W at*;obtain⟨gn,aK⟩:=AQ w.heap.size;rw[<-aK]at P S⊢;have bN:Hid (gn=w.heap.size):=aK;clear aK;have e5:W.cell? ⟨gn,5,none⟩=some (.slice ka kids.length X):=by rw[AU P];rfl
 have T:Hid (W.heap[gn]? =some (.cells #[.int .u8 k0,hv,.int .i64 n1,.int .i64 n2,.int .i64 n3,.slice ka kids.length X] 157 (0,0))):=P;clear P;go_upto_region 3 with(fail)
 clear e5;go_wp2_with fail;refine(Dk a2 [40,115] (by have:=I.o.2.2;simp only[Aj,BJ];omega)).mono ?_;rintro e w2⟨rfl,a3,a4⟩;have aL:AA (Al ob sp D) W w2:=a4.mono fun x G=>Dm G
 have a5:=C.keep aL;have a6:RI W w2 b bp s p nds D E ob sp keep g kids j (acc++[40,115]++t) (evs l ev) 0 i (acc++[40,115]) l t ev:=⟨a3,by rw[List.drop_zero];exact I.o.1,by rw[List.drop_zero];exact I.o.2.1,rfl,rfl,aL⟩;clear a2 a4 aL a3 a5;go_wp2_with fail;go_loopw [2,10] (fun q1 q2 wr=>∃(m r:Nat)(f:List UInt8)(l':List Int)(u:List UInt8)(fv:List (Nat×Nat×Nat)),m<=kids.length∧q1=.int .i64 r∧q2=.int .i64 m∧RI W wr b bp s p nds D E ob sp keep g kids j (acc++[40,115]++t) (evs l ev) m r f l' u fv) (fun _ q2 _=>kids.length-(intOf q2).toNat)
 case atStart=>exact⟨0,i,_,_,_,_,by omega,rfl,rfl,a6⟩
 case round=>
  clear a6;obtain⟨m,r,f,l',u,fv,hm,rfl,rfl,L⟩:=hrel;have aM:gn<W.heap.size:=(AN.1 T.o).1;have e5:wr.cell? ⟨gn,5,none⟩=some (.slice ka kids.length X):=by rw[Ad (L.keep.block gn aM S),AU T.o];rfl
  by_cases am:m<kids.length
  rotate_left
  ·have a7:m=kids.length:=by omega
   have bO:¬(m:Int)<(kids.length:Int):=by omega
   have O:=L.ts;have U:=L.keep;have HX:Hid (f=acc++[40,115]++t∧l'=evs l ev):=by
    have A:=L.tn;rw[a7,List.drop_length]at A;obtain⟨rfl,rfl⟩:=A.kids_nil;exact⟨by have:=L.txt;rwa[CT]at this,L.evl⟩
   clear L a7 am hm;go_wp2_with fail;refine(Dk O [41] (by have:=I.o.2.2;rw[HX.o.1];simp only[AW,Aj,BJ];omega)).mono ?_;rintro e w3⟨rfl,aa,hk3⟩;have bo:AA (Al ob sp D) w w3:=((aJ.mono (by simp)).trans U).trans (hk3.mono fun x G=>Dm G);have bq:TS w3 b bp s p nds D E ob sp keep g (acc++([40,115]++t++[41])) (evs l ev):=by
    have A:=aa;rw[HX.o.1,HX.o.2]at A;have e1:acc++([40,115]++t++[41])=acc++[40,115]++t++[41]:=by simp
    rw[e1];exact A
   clear O U aa hk3 e5;go_wp2_with fail;go_end0;exact⟨rfl,bq,bo⟩
  obtain⟨c,hc⟩:∃c,kids[m]? =some c:=⟨_,Ax am⟩;have aN:NK nds n c:=Z c (C8 hc);have aO:kids.drop m=c::kids.drop (m+1):=by
   obtain⟨A,Y⟩:=BT.1 hc;rw[GO A,Y]
  have A:=L.tn;rw[aO]at A;obtain⟨cq,t1,u1,V,an,hcut,aA,aB,eu,ef⟩:=A.kids_cons;have Y:=L.mn;rw[aO,MN.row_cons]at Y;obtain⟨x0,ao,ap⟩:=Y;have hP:=hcut.hit ⟨x0,ao.le,ap.le,ao,ap⟩;have a8:r<=j:=BG ao.le ap.le;have Q:Hid (BH (fun q=>MN s nds (.node c) r q∧MN s nds (.row (kids.drop (m+1))) q j) r j cq):=hcut;have HP:Hid (MN s nds (.node c) r cq∧MN s nds (.row (kids.drop (m+1))) cq j):=hP;have aC:Hid (TN s nds g (.node c) r cq t1 V):=aA;have aD:Hid (TN s nds g (.kids (kids.drop (m+1))) cq j u1 an):=aB;have aq:Hid (u=[32]++t1++u1∧fv=V++an):=⟨eu,ef⟩;have ar:Hid (f++u=acc++[40,115]++t∧evs l' fv=evs l ev):=⟨L.txt,L.evl⟩;have O:=L.ts;have U:=L.keep;have aE:=C.keep U;obtain⟨ad,cp,e1,_,a9⟩:=id aE;simp only[C7]at e1;obtain⟨rfl,_,rfl⟩:=e1;obtain⟨y,off,rfl,bP,bQ,bs⟩:=a9 m c hc;have bD:(0:Int)<=(m:Int):=by omega
  have bE:(m:Int)<(kids.length:Int):=by omega
  have bF:(m:Int)+1<=(kids.length:Int):=by omega
  have HM:Hid (m<kids.length):=am;have B:Hid (r<=j∧j<=s.size∧s.size<=100):=⟨a8,hj,hs⟩;have au:Hid (gn<W.heap.size):=aM;have HC:Hid (kids[m]? =some c):=hc;have HB:Hid (f.length+(1+t1.length+u1.length)=acc.length+2+t.length):=by
   have A:=B4 List.length L.txt;rw[eu]at A;simp only[AW,Aj,BJ]at A;show f.length+(1+t1.length+u1.length)=acc.length+2+t.length;omega
  clear L a9 hm am hc aO A ao ap hP hcut aA aB eu ef a8 aM bn;go_wp2_with fail;refine(aX c aN wr b bp p D E _ r O.tx O.zin (by have:=B.o;omega)).mono ?_;rintro e w3⟨v,rfl,bu,aF,hk3⟩;have aa:=O.ends hk3 aF;have F:AA (Al ob sp D) W w3:=U.trans (hk3.mono fun x G=>EI G);have ba:=C.keep F;have bR:w3.cell? ⟨gn,5,none⟩=some (.slice (some ⟨y,off,none⟩) kids.length X):=by rw[Ad (F.block gn au.o S),AU T.o];rfl
  obtain⟨x,cc,fe,bc,aP,bv,bS,aG⟩:=bu;rw[<-HN.o]at bc aP;subst bc;have bw:Hid (∀q,q<=s.size->(fe q=true↔MN s nds (.node c) r q)):=aG;clear O U hk3 aF aG bs e5 aE ba;obtain⟨bf,bh⟩:∃bf:World,bf=wr:=⟨_,rfl⟩;subst bh;go_wp2_with fail;go_loopw [12] (fun q wq=>∃cut:Nat,q=.int .i64 cut∧r<=cut∧cut<=j∧(∀z,cut<z->z<=j->¬(MN s nds (.node c) r z∧MN s nds (.row (kids.drop (m+1))) z j))∧TS wq b bp s p nds D E ob sp keep g f l'∧RB wq (.slice (some ⟨x,0,none⟩) N cc) N fe∧AA D w3 wq) (fun q _=>(intOf q).toNat-r)
  case atStart=>exact⟨j,rfl,B.o.1,AP _,fun z A Y=>by omega,aa,aP,AG _ _⟩
  case round=>
   clear aa aP;obtain⟨cut,rfl,aw,ax,ay,ab,aQ,hk4⟩:=hrel;have bx:wr.cell? ⟨gn,5,none⟩=some (.slice (some ⟨y,off,none⟩) kids.length X):=by rw[Ad ((F.trans (hk4.mono fun x G=>EI G)).block gn au.o S),AU T.o];rfl
   have ac:=C.keep (F.trans (hk4.mono fun x G=>EI G));by_cases aR:r<cut
   rotate_left
   ·have bz:cut=r:=by omega
    have bG:¬(r:Int)<(cut:Int):=by omega
    have aS:Hid (cut=cq):=(show BH _ r j cut from⟨aw,ax,fun h=>absurd h (by omega),ay⟩).one Q.o;clear bz aR ay aw ax ac aQ;obtain rfl:=aS.o;go_wp2_with fail;refine(Dk ab [32] (by have:=HB.o;have:=I.o.2.2;simp only[Aj,BJ];omega)).mono ?_;rintro e w6⟨rfl,ae,af⟩;have k:AA (Al ob sp D) W w6:=(F.trans (hk4.mono fun x G=>EI G)).trans (af.mono fun x G=>Dm G);have aT:=(Ad (a:=⟨gn,5,none⟩) (k.block gn au.o S)).trans (CZ T.o).2.2.2.2.2;have ag:=(C.keep k).cell HC.o;clear af;go_wp2_with fail;refine(aY c aN w6 b bp p D E ob sp keep g (f++[32]) l' r cut t1 V ae aC.o HP.o.1 (by have A:=Q.o.2.1;have:=B.o;omega) hg (by have:=HB.o;have:=I.o.2.2;simp only[AW,Aj,BJ];omega)).mono ?_;rintro e w7⟨rfl,ah,ai⟩;have aj:RI W w7 b bp s p nds D E ob sp keep g kids j (acc++[40,115]++t) (evs l ev) (m+1) cut (f++[32]++t1) (evs l' V) u1 an:=
     ⟨ah,aD.o,HP.o.2,by rw[<-ar.o.1,aq.o.1];simp,by rw[<-ar.o.2,aq.o.2,Hk],k.trans ai⟩
    clear ae ah ai k aT ag;go_wp2_with fail
    first
     |exact⟨⟨m+1,cut,_,_,_,_,HM.o,rfl,by go_num,aj⟩,by have:=HM.o;simp[intOf];omega⟩
     |(
      go_roundw
      case rel=>exact⟨m+1,cut,_,_,_,_,HM.o,rfl,by go_num,aj⟩
      case measure=>have:=HM.o;simp[intOf];omega)
   have bH:(r:Int)<(cut:Int):=by omega
   have bT:IntKind.i64.wrap ((m:Int)+1)=(m:Int)+1:=wrap_small (by omega) (by omega);have bI:((m:Int)+1).toNat=m+1:=by omega
   have aH:=(ac.less (D':=D) fun x G=>EI G).cut (m:=m+1) (by have:=HM.o;omega) aZ;have d:Hid (r<=cut∧cut<=j∧r<cut):=⟨aw,ax,aR⟩;have aU:Hid (∀z,cut<z->z<=j->¬(MN s nds (.node c) r z∧MN s nds (.row (kids.drop (m+1))) z j)):=ay;clear aR ay aw ax ac;go_wp2_with fail
   all_goals
    have R:=aH
    first
     |(rw[AL h,show X-(m+1)=0 by omega]at R;subst h)
     |rw[AK h]at R
    refine(PA s N HN nds n aX (kids.drop (m+1)) (fun c hc=>Z c (List.mem_of_mem_drop hc)) wr b bp p D E _ ab.tx ab.zin _ R cut (by have:=B.o;have:=d.o;omega)).mono ?_;rintro e w5⟨v,rfl,bA,bB,aI,az⟩;have ak:=ab.ends az aI;obtain⟨x2,c2,f2,rfl,bi,bJ,al⟩:=bA;have J:=aQ.keep az (by intro z hz;simp only[Value.ownBlock,Ai]at hz;subst hz;exact bv);have ha:=J.at (j:=cut) (by have:=B.o;have:=d.o;have:=HN.o;omega);have hb:=bi.at (j:=j) (by have:=B.o;have:=HN.o;omega);have bj:Hid (f2 j=true↔MN s nds (.row (kids.drop (m+1))) cut j):=al j B.o.2.1;have K:=hk4.trans az;have bU:(j:Int)<(N:Int):=by have:=B.o;have:=HN.o;omega
    have bV:(cut:Int)<(N:Int):=by have:=B.o;have:=d.o;have:=HN.o;omega
    have bW:(0:Int)<=(j:Int):=by omega
    have bX:(0:Int)<=(cut:Int):=by omega
    have bk:Hid (fe cut=true↔MN s nds (.node c) r cut):=bw.o cut (by have:=B.o;have:=d.o;omega);have bK:IntKind.i64.wrap ((cut:Int)-1)=(cut:Int)-1:=wrap_small (by have:=d.o;omega) (by have:=d.o;have:=B.o;omega);have H:((cut-1:Nat):Int)=(cut:Int)-1:=by have:=d.o;omega
    clear bi ab aQ hk4 az aI bB al R aH bx;cases A:fe cut
    ·rw[A]at ha;have M:Hid (∀z,cut-1<z->z<=j->¬(MN s nds (.node c) r z∧MN s nds (.row (kids.drop (m+1))) z j)):=by
      intro z hz aV;by_cases aW:z=cut
      ·subst aW;intro hh;have:=bk.o.2 hh.1;rw[A]at this;cases this
      ·exact aU.o z (by omega) aV
     clear A;go_wp2_with fail
     first
      |exact⟨⟨cut-1,by rw[H],by have:=d.o;omega,by have:=d.o;omega,M.o,ak,J,K⟩,by have:=d.o;simp[intOf];omega⟩
      |(
       go_roundw
       case rel=>exact⟨cut-1,by rw[H],by have:=d.o;omega,by have:=d.o;omega,M.o,ak,J,K⟩
       case measure=>have:=d.o;simp[intOf];omega)
    ·rw[A]at ha;cases Y:f2 j
     ·rw[Y]at hb;have M:Hid (∀z,cut-1<z->z<=j->¬(MN s nds (.node c) r z∧MN s nds (.row (kids.drop (m+1))) z j)):=by
       intro z hz aV;by_cases aW:z=cut
       ·subst aW;intro hh;have:=bj.o.2 hh.2;rw[Y]at this;cases this
       ·exact aU.o z (by omega) aV
      clear A Y;go_wp2_with fail
      first
       |exact⟨⟨cut-1,by rw[H],by have:=d.o;omega,by have:=d.o;omega,M.o,ak,J,K⟩,by have:=d.o;simp[intOf];omega⟩
       |(
        go_roundw
        case rel=>exact⟨cut-1,by rw[H],by have:=d.o;omega,by have:=d.o;omega,M.o,ak,J,K⟩
        case measure=>have:=d.o;simp[intOf];omega)
     ·rw[Y]at hb;have aS:Hid (cut=cq):=(show BH _ r j cut from⟨d.o.1,d.o.2.1,fun _=>⟨bk.o.1 A,bj.o.1 Y⟩,aU.o⟩).one Q.o;clear A Y;obtain rfl:=aS.o;go_wp2_with fail;refine(Dk ak [32] (by have:=HB.o;have:=I.o.2.2;simp only[Aj,BJ];omega)).mono ?_;rintro e w6⟨rfl,ae,af⟩;have k:AA (Al ob sp D) W w6:=(F.trans (K.mono fun x G=>EI G)).trans (af.mono fun x G=>Dm G);have aT:=(Ad (a:=⟨gn,5,none⟩) (k.block gn au.o S)).trans (CZ T.o).2.2.2.2.2;have ag:=(C.keep k).cell HC.o;clear af;go_wp2_with fail;refine(aY c aN w6 b bp p D E ob sp keep g (f++[32]) l' r cut t1 V ae aC.o HP.o.1 (by have A:=Q.o.2.1;have:=B.o;omega) hg (by have:=HB.o;have:=I.o.2.2;simp only[AW,Aj,BJ];omega)).mono ?_;rintro e w7⟨rfl,ah,ai⟩;have aj:RI W w7 b bp s p nds D E ob sp keep g kids j (acc++[40,115]++t) (evs l ev) (m+1) cut (f++[32]++t1) (evs l' V) u1 an:=
       ⟨ah,aD.o,HP.o.2,by rw[<-ar.o.1,aq.o.1];simp,by rw[<-ar.o.2,aq.o.2,Hk],k.trans ai⟩
      clear ae ah ai k aT ag;go_wp2_with fail
      first
       |exact⟨⟨m+1,cut,_,_,_,_,HM.o,rfl,by go_num,aj⟩,by have:=HM.o;simp[intOf];omega⟩
       |(
        go_roundw
        case rel=>exact⟨m+1,cut,_,_,_,_,HM.o,rfl,by go_num,aj⟩
        case measure=>have:=HM.o;simp[intOf];omega)
