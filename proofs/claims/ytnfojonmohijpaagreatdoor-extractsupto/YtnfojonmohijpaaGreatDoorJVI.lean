/-
  DERIVED. The reference's 'Tree' at a way. Conditions: what it has in memory lies as it should (TS).
-/
import Derived.Test.YtnfojonmohijpaaGreatDoorJVG
set_option linter.all false
set_option maxRecDepth 100000
set_option maxHeartbeats 8000000
namespace Go.Proofs.YtnfojonmohijpaaGreatDoor
open Go.RowKit
variable{nds:List Nd}{mn:Nat}{mx:Int}
theorem U7(s:ByteArray)(N:Nat)(HN:Hid (N=s.size+1))(nds:List Nd)(hn:nds.length<=1000)(n:Nat)(J:DS s nds n)(K:F6 s nds n)(k:Nat)(nd:Nd)(Y:nds[k]? =some nd)(d:nd.kind=119)(r:∀c,c∈nd.kids->NK nds n c)(L:nd.kids≠[])(x:nd.kids.length<=1000)(w:World)(b bp:Nat)(p:PS)(D:List Nat)(E:Value)(ob:Nat)(sp:Value)(keep:Bool)(g:Nat)(acc:List UInt8)(l:List Int)(i j:Nat)(t:List UInt8)(ev:List (Nat×Nat×Nat))(v:TS w b bp s p nds D E ob sp keep g acc l)(y:i<=j)(Z:j<=s.size)(hg:g<=9)(M:Hid (TN s nds g (.kids nd.kids) i j t ev))(O:Hid (MN s nds (.row nd.kids) i j))(hlen:acc.length+([40,115]++t++[41]).length<=4611686018427387904):Calls Tryz.prog 88 #[.pointer (some ⟨b,0,none⟩),.int .i64 k,.int .i64 i,.int .i64 j,.pointer (some ⟨ob,0,none⟩)] w (FX w b bp s p nds D E ob sp keep g acc l ([40,115]++t++[41]) (ev)):=by
 obtain⟨x0,x1,x2,x3⟩:=v.tx.xb.main;obtain⟨g',aa,hv,kv,f,P,hH,Q,c0,c1,c2,c3,c4,c5⟩:=v.tx.nodes.node Y;rw[d]at c0;obtain⟨n1,_⟩:=v.tx.pb.nodes;rw[f]at n1;obtain⟨z,m,q,rfl⟩:=hH.1;have R:Hid (KV w (Al ob sp D) kv nd.kids):=Q.kv2 x;obtain⟨A,B,rfl,C⟩:=Q.cap;have hs:=v.tx.small;have ab:(0:Int)<=(k:Int):=by omega
 have ac:(k:Int)<(nds.length:Int):=by omega
 have ad:(nds.length:Int)<=1000:=by omega
 have ae:(nd.kids.length:Int)<=1000:=by omega
 have F:Hid (i<=j∧j<=s.size∧s.size<=100):=⟨y,Z,hs⟩;have HS:Hid (TS w b bp s p nds D E ob sp keep g acc l):=v;have u:=(AG [] w).alloc (.cells #[.int .u8 119,.slice z m q,.int .i64 nd.n,.int .i64 nd.mn,.int .i64 nd.mx,.slice A nd.kids.length B] 157);have a:=AS w (.cells #[.int .u8 119,.slice z m q,.int .i64 nd.n,.int .i64 nd.mn,.int .i64 nd.mx,.slice A nd.kids.length B] 157);have HL:Hid (acc.length+([40,115]++t++[41]).length<=4611686018427387904):=hlen;clear v Y y Z hs f hH Q P d hn x x2 x3 hlen;go_enter Tryz.func88,Tryz.ntmps88;go_upto_region 1 with(fail)
 clear c0 c1 c2 c3 c4 c5 n1 x0 x1;generalize w.alloc (.cells #[.int .u8 119,.slice z m q,.int .i64 nd.n,.int .i64 nd.mn,.int .i64 nd.mx,.slice A nd.kids.length B] 157)=W at*;obtain⟨gn,G⟩:=AQ w.heap.size;rw[<-G]at a⊢;have H:=HS.o.new u;have af:gn∉Al ob sp D:=by
  intro hm;have S:=HS.o;simp only[Al,Az,Bb,Ay]at hm;rcases hm with h|h|h
  ·have:=S.ot.lt;omega
  ·have:=(S.row.lt _ h).2;omega
  ·have:=S.tx.dlt _ h;omega
 clear G;have e0:W.cell? ⟨gn,0,none⟩=some (.int .u8 119):=by rw[AU a];rfl
 have T:Hid (W.heap[gn]? =some (.cells #[.int .u8 119,.slice z m q,.int .i64 nd.n,.int .i64 nd.mn,.int .i64 nd.mx,.slice A nd.kids.length B] 157 (0,0))):=a;have ag:Hid (gn<W.heap.size):=(AN.1 a).1;have I:=R.o.keep (u.mono (by simp));clear a;have U:=CZ T.o;obtain⟨U,q1,q2,q3,q4,q5⟩:=U;have ah:=F.o;clear e0;go_upto_region 20 with(fail)
 go_wp2_with fail;refine(U6 s N HN nds n J K nd.kids r L (by omega) 119 nd.n nd.mn nd.mx (.slice z m q) rfl A B C W b bp p D E ob sp keep g acc l i j t ev H I M.o O.o F.o.2.1 hg (by have:=HL.o;simp only[AW,Aj,BJ]at this;omega)).mono ?_;rintro e w3⟨rfl,V,hk3⟩;have X:AA (Al ob sp D) w w3:=(u.mono (by simp)).trans hk3;clear U q1 q2 q3 q4 q5 H hk3;go_wp2_with fail;go_end0;exact⟨rfl,V,X⟩
theorem U8(s:ByteArray)(N:Nat)(HN:Hid (N=s.size+1))(nds:List Nd)(hn:nds.length<=1000)(n:Nat)(ab:DS s nds n)(ac:F6 s nds n)(k:Nat)(nd:Nd)(P:nds[k]? =some nd)(c:nd.kind=119)(u:Hid (nd.kids=[]))(v:nd.kids.length<=1000)(w:World)(b bp:Nat)(p:PS)(D:List Nat)(E:Value)(ob:Nat)(sp:Value)(keep:Bool)(g:Nat)(acc:List UInt8)(l:List Int)(i j:Nat)(t:TS w b bp s p nds D E ob sp keep g acc l)(x:i<=j)(Q:j<=s.size)(hg:g<=9)(hlen:acc.length+([101]).length<=4611686018427387904):Calls Tryz.prog 88 #[.pointer (some ⟨b,0,none⟩),.int .i64 k,.int .i64 i,.int .i64 j,.pointer (some ⟨ob,0,none⟩)] w (FX w b bp s p nds D E ob sp keep g acc l ([101]) ([])):=by
 obtain⟨x0,x1,x2,x3⟩:=t.tx.xb.main;obtain⟨g',R,hv,kv,d,H,S,I,T,c1,c2,c3,c4,c5⟩:=t.tx.nodes.node P;rw[c]at T;obtain⟨U,_⟩:=t.tx.pb.nodes;rw[d]at U;obtain⟨y,f,m,rfl⟩:=S.1;have J:Hid (KV w (Al ob sp D) kv nd.kids):=I.kv2 v;obtain⟨z,A,rfl,B⟩:=I.cap;have V:=t.tx.small;have X:(0:Int)<=(k:Int):=by omega
 have Y:(k:Int)<(nds.length:Int):=by omega
 have Z:(nds.length:Int)<=1000:=by omega
 have C:(nd.kids.length:Int)<=1000:=by omega
 have ad:Hid (i<=j∧j<=s.size∧s.size<=100):=⟨x,Q,V⟩;have HS:Hid (TS w b bp s p nds D E ob sp keep g acc l):=t;have r:=(AG [] w).alloc (.cells #[.int .u8 119,.slice y f m,.int .i64 nd.n,.int .i64 nd.mn,.int .i64 nd.mx,.slice z nd.kids.length A] 157);have a:=AS w (.cells #[.int .u8 119,.slice y f m,.int .i64 nd.n,.int .i64 nd.mn,.int .i64 nd.mx,.slice z nd.kids.length A] 157);have HL:Hid (acc.length+([101]).length<=4611686018427387904):=hlen;clear t P x Q V d S I H c hn v x2 x3 hlen;go_enter Tryz.func88,Tryz.ntmps88;go_upto_region 1 with(fail)
 clear T c1 c2 c3 c4 c5 U x0 x1;generalize w.alloc (.cells #[.int .u8 119,.slice y f m,.int .i64 nd.n,.int .i64 nd.mn,.int .i64 nd.mx,.slice z nd.kids.length A] 157)=W at*;obtain⟨gn,F⟩:=AQ w.heap.size;rw[<-F]at a⊢;have G:=HS.o.new r;have ae:gn∉Al ob sp D:=by
  intro hm;have K:=HS.o;simp only[Al,Az,Bb,Ay]at hm;rcases hm with h|h|h
  ·have:=K.ot.lt;omega
  ·have:=(K.row.lt _ h).2;omega
  ·have:=K.tx.dlt _ h;omega
 clear F;have e0:W.cell? ⟨gn,0,none⟩=some (.int .u8 119):=by rw[AU a];rfl
 have L:Hid (W.heap[gn]? =some (.cells #[.int .u8 119,.slice y f m,.int .i64 nd.n,.int .i64 nd.mn,.int .i64 nd.mx,.slice z nd.kids.length A] 157 (0,0))):=a;have af:Hid (gn<W.heap.size):=(AN.1 a).1;have aa:=J.o.keep (r.mono (by simp));clear a;obtain⟨q0,q1,q2,q3,q4,q5⟩:=CZ L.o;have q:nd.kids.length=0:=by rw[u.o];rfl
 rw[q]at q5;clear q;clear e0 B C;go_upto_region 20 with(fail)
 go_wp2_with fail;refine(U5 s nds 119 nd.n nd.mn nd.mx (.slice y f m) rfl z A W b bp p D E ob sp keep g acc l i j G (by have:=HL.o;simp only[Aj,BJ]at this;omega)).mono ?_;rintro e w3⟨rfl,M,hk3⟩;have O:AA (Al ob sp D) w w3:=(r.mono (by simp)).trans hk3;clear q0 q1 q2 q3 q4 q5 G hk3;go_wp2_with fail;go_end0;exact⟨rfl,M,O⟩
structure RJ (w wr : World) (b bp : Nat) (s : ByteArray) (p : PS) (nds : List Nd) (D : List Nat) (E : Value) (ob : Nat) (sp : Value) (keep : Bool) (g : Nat) (c j : Nat) (full : List UInt8) (last : List Int) (mn : Nat) (mx : Int) (i : Nat) (acc : List UInt8) (l : List Int) (u : List UInt8) (fv : List (Nat × Nat × Nat)) : Prop where
 ts : TS wr b bp s p nds D E ob sp keep g acc l
 tn : TN s nds g (.times c mn mx) i j u fv
 tm : CY s nds c mn mx i j
 txt : acc ++ u = full
 evl : evs l fv = last
 keep : AA (Al ob sp D) w wr
 bnd : mn <= 5 ∧ -1 <= mx ∧ mx <= 5 ∧ (mx < 0 ∨ (mn : Int) <= mx)
theorem TN.times_end{s:ByteArray}{g i j c:Nat}{t:List UInt8}{ev:List (Nat×Nat×Nat)}(h:TN s nds g (.times c mn mx) i j t ev)(a:¬(i<j∨0<mn)):t=[]∧ev=[]:=by
 cases h with
 |tend=>exact⟨rfl,rfl⟩
 |tgo _ _ _ _ _ _ _ _ _ _ h=>exact absurd h a
theorem TN.times_go{s:ByteArray}{g i j c:Nat}{t:List UInt8}{ev:List (Nat×Nat×Nat)}(h:TN s nds g (.times c mn mx) i j t ev)(b:i<j∨0<mn):∃m t1 u a fv,BH (fun m=>MN s nds (.node c) i m∧CY s nds c (mn-1) (less mx) m j) i j m∧TN s nds g (.node c) i m t1 a∧TN s nds g (.times c (mn-1) (less mx)) m j u fv∧t=[32]++t1++u∧ev=a++fv:=by
 cases h with
 |tend _ _ _ _ _ h=>exact absurd b h
 |tgo _ _ _ _ _ m t u ev fv k d e f=>exact⟨m,t,u,ev,fv,d,e,f,rfl,rfl⟩
theorem PJ{s:ByteArray}{c:Nat}{i j:Nat}:FW s nds c mn mx i j↔CY s nds c mn mx i j:=by
 constructor
 ·rintro⟨n,a,b,h⟩;exact⟨n,a,b,(MN.it_iff (fun _ _=>Iff.rfl) n i j).2 h⟩
 ·rintro⟨n,a,b,h⟩;exact⟨n,a,b,(MN.it_iff (fun _ _=>Iff.rfl) n i j).1 h⟩
theorem U9(s:ByteArray)(N:Nat)(HN:Hid (N=s.size+1))(nds:List Nd)(n:Nat)(aU:DS s nds n)(aL:F6 s nds n)(c:Nat)(al:NK nds n c)(mn:Nat)(mx:Int)(a4:mn<=5)(aV:-1<=mx∧mx<=5)(a5:mx<0∨(mn:Int)<=mx)(k0 n1:Int)(hv:Value)(bO:hv.oneCell'=true)(ka:Option Addr)(kl kc:Nat)(bx:0<kl)(w:World)(b bp:Nat)(p:PS)(D:List Nat)(E:Value)(ob:Nat)(sp:Value)(keep:Bool)(g:Nat)(acc:List UInt8)(l:List Int)(i j:Nat)(t:List UInt8)(ev:List (Nat×Nat×Nat))(hS:TS w b bp s p nds D E ob sp keep g acc l)(a6:KV w (Al ob sp D) (.slice ka kl kc) [c])(hT:TN s nds g (.times c mn mx) i j t ev)(hM:CY s nds c mn mx i j)(hj:j<=s.size)(hg:g<=9)(hlen:acc.length+t.length+3<=4611686018427387904):Calls Tryz.prog 142 #[.pointer (some ⟨b,0,none⟩),.agg #[.int .u8 k0,hv,.int .i64 n1,.int .i64 mn,.int .i64 mx,.slice ka kl kc],.int .i64 i,.int .i64 j,.pointer (some ⟨ob,0,none⟩)] w (FX w b bp s p nds D E ob sp keep g acc l ([40,114]++t++[41]) ev):=by
 have hs:=hS.tx.small;have aW:=(AG [] w).alloc (.cells #[.int .u8 k0,hv,.int .i64 n1,.int .i64 mn,.int .i64 mx,.slice ka kl kc] 157);have ag:=AS w (.cells #[.int .u8 k0,hv,.int .i64 n1,.int .i64 mn,.int .i64 mx,.slice ka kl kc] 157);have a7:=hS.new aW;have S:=a6.keep (aW.mono (by simp));have bJ:(0:Int)<(kl:Int):=by omega
 have am:w.heap.size∉Al ob sp D:=by
  intro hm;simp only[Al,Az,Bb,Ay]at hm;rcases hm with h|h|h
  ·have:=hS.ot.lt;omega
  ·have:=(hS.row.lt _ h).2;omega
  ·have:=hS.tx.dlt _ h;omega
 have R:Hid (TN s nds g (.times c mn mx) i j t ev∧CY s nds c mn mx i j∧acc.length+t.length+3<=4611686018427387904):=⟨hT,hM,hlen⟩;have bz:Hid (mn<=5∧-1<=mx∧mx<=5∧(mx<0∨(mn:Int)<=mx)):=⟨a4,aV.1,aV.2,a5⟩;obtain⟨ad,cp,e1,_,a8⟩:=id S;simp only[C7]at e1;obtain⟨rfl,a9,rfl⟩:=e1;obtain⟨y,off,rfl,_,_,_⟩:=a8 0 c rfl;clear a9;clear hS a6 hT hM hlen a8 a4 aV a5 bx;go_enter Tryz.func142,Tryz.ntmps142;go_upto_region 1 with(fail)
 generalize(w.alloc (.cells #[.int .u8 k0,hv,.int .i64 n1,.int .i64 mn,.int .i64 mx,.slice (some ⟨y,off,none⟩) kl kc] 157))=W at*;obtain⟨gn,ba⟩:=AQ w.heap.size;rw[<-ba]at ag am⊢;clear ba;obtain⟨_,_,_,e3,e4,_⟩:=CZ ag;have ay:Hid (W.heap[gn]? =some (.cells #[.int .u8 k0,hv,.int .i64 n1,.int .i64 mn,.int .i64 mx,.slice (some ⟨y,off,none⟩) kl kc] 157 (0,0))):=ag;have az:Hid (gn<W.heap.size):=(AN.1 ag).1;clear ag;go_upto_region 3 with(fail)
 clear e3 e4;go_wp2_with fail;refine(Dk a7 [40,114] (by have:=R.o.2.2;simp only[Aj,BJ];omega)).mono ?_;rintro e w2⟨rfl,bc,bf⟩;have bh:AA (Al ob sp D) W w2:=bf.mono fun x T=>Dm T
 have bi:RJ W w2 b bp s p nds D E ob sp keep g c j (acc++[40,114]++t) (evs l ev) mn mx i (acc++[40,114]) l t ev:=⟨bc,R.o.1,R.o.2.1,rfl,rfl,bh,bz.o⟩;clear a7 bf bh bc;go_wp2_with fail;go_loopw [2,10,11] (fun q1 q2 q3 wr=>∃(k:Nat)(d:Int)(C:Nat)(A:List UInt8)(l':List Int)(u:List UInt8)(fv:List (Nat×Nat×Nat)),q1=.int .i64 C∧q2=.int .i64 k∧q3=.int .i64 d∧RJ W wr b bp s p nds D E ob sp keep g c j (acc++[40,114]++t) (evs l ev) k d C A l' u fv) (fun q1 q2 _ _=>(intOf q2).toNat+(j-(intOf q1).toNat))
 case atStart=>exact⟨mn,mx,i,_,_,_,_,rfl,rfl,rfl,bi⟩
 case round=>
  clear bi;obtain⟨k,d,C,A,l',u,fv,rfl,rfl,rfl,L⟩:=hrel;have e5:=(Ad (a:=⟨gn,5,none⟩) (L.keep.block gn az.o am)).trans (CZ ay.o).2.2.2.2.2;by_cases aA:C<j∨0<k
  rotate_left
  ·have bP:¬(C:Int)<(j:Int):=by omega
   have bQ:¬(0:Int)<(k:Int):=by omega
   have an:=L.ts;have aB:=L.keep;have HX:Hid (A=acc++[40,114]++t∧l'=evs l ev):=by
    obtain⟨rfl,rfl⟩:=L.tn.times_end aA;exact⟨by have:=L.txt;rwa[CT]at this,L.evl⟩
   clear L aA;go_wp2_with fail;refine(Dk an [41] (by have:=R.o.2.2;rw[HX.o.1];simp only[AW,Aj,BJ];omega)).mono ?_;rintro e w3⟨rfl,aF,hk3⟩;have bA:AA (Al ob sp D) w w3:=((aW.mono (by simp)).trans aB).trans (hk3.mono fun x T=>Dm T);have bB:TS w3 b bp s p nds D E ob sp keep g (acc++([40,114]++t++[41])) (evs l ev):=by
    have P:=aF;rw[HX.o.1,HX.o.2]at P;have e1:acc++([40,114]++t++[41])=acc++[40,114]++t++[41]:=by simp
    rw[e1];exact P
   clear an aB aF hk3 e5;go_wp2_with fail;go_end0;exact⟨rfl,bB,bA⟩
  obtain⟨cq,t1,u1,ac,aC,hcut,aP,aQ,eu,ef⟩:=L.tn.times_go aA;obtain⟨hP,aR⟩:=Tm.cut (fun _ _ h=>h.le) L.tm aA hcut;have bj:C<=j:=Tm.le (fun _ _ h=>h.le) L.tm;have U:Hid (BH (fun q=>MN s nds (.node c) C q∧CY s nds c (k-1) (less d) q j) C j cq):=hcut;have HP:Hid (MN s nds (.node c) C cq∧CY s nds c (k-1) (less d) cq j):=hP;have Q:Hid ((k-1)+(j-cq)<k+(j-C)):=aR;have ar:Hid (TN s nds g (.node c) C cq t1 ac):=aP;have au:Hid (TN s nds g (.times c (k-1) (less d)) cq j u1 aC):=aQ;have ah:Hid (u=[32]++t1++u1∧fv=ac++aC):=⟨eu,ef⟩;have ai:Hid (A++u=acc++[40,114]++t∧evs l' fv=evs l ev):=⟨L.txt,L.evl⟩;have HB:Hid (A.length+(1+t1.length+u1.length)=acc.length+2+t.length):=by
   have P:=B4 List.length L.txt;rw[eu]at P;simp only[AW,Aj,BJ]at P;show A.length+(1+t1.length+u1.length)=acc.length+2+t.length;omega
  have B:Hid (C<=j∧j<=s.size∧s.size<=100):=⟨bj,hj,hs⟩;have M:Hid (k<=5∧-1<=d∧d<=5∧(d<0∨(k:Int)<=d)):=L.bnd;have an:=L.ts;have aB:=L.keep;have bk:=(S.keep aB).cell (m:=0) (c:=c) rfl;rw[Di]at bk;have bC:Hid (C<j∨0<k):=aA;have bK:max ((k:Int)-1) 0=((k-1:Nat):Int):=by omega
  have bR:IntKind.i64.wrap ((k:Int)-1)=(k:Int)-1:=Kg (by omega) (by have:=M.o;omega);have bS:IntKind.i64.wrap (d-1)=d-1:=Kg (by have:=M.o;omega) (by have:=M.o;omega);clear L hcut aP aQ eu ef bj aR hP aA;obtain⟨bm,bn⟩:∃bm:World,bm=wr:=⟨_,rfl⟩;have aX:(C:Int)<(j:Int)∨(¬(C:Int)<(j:Int)∧(0:Int)<(k:Int)):=by have:=bC.o;omega
  rcases aX with bo|⟨bo,bL⟩
  all_goals
   go_wp2_with fail;refine(aU c al wr b bp p D E _ C an.tx an.zin (by have:=B.o;omega)).mono ?_;rintro e w3⟨v,rfl,bD,aS,hk3⟩;have aF:=an.ends hk3 aS;have aj:AA (Al ob sp D) W w3:=aB.trans (hk3.mono fun x T=>EI T);obtain⟨x,cc,fe,bq,aY,bs,bT,aT⟩:=bD;rw[<-HN.o]at bq aY;subst bq;have bu:Hid (∀q,q<=s.size->(fe q=true↔MN s nds (.node c) C q)):=aT;clear an aB hk3 aS aT bk e5;subst bn;go_wp2_with fail;go_loopw [13] (fun q wq=>∃cut:Nat,q=.int .i64 cut∧C<=cut∧cut<=j∧(∀z,cut<z->z<=j->¬(MN s nds (.node c) C z∧CY s nds c (k-1) (less d) z j))∧TS wq b bp s p nds D E ob sp keep g A l'∧RB wq (.slice (some ⟨x,0,none⟩) N cc) N fe∧AA D w3 wq) (fun q _=>(intOf q).toNat-C)
   case atStart=>exact⟨j,rfl,B.o.1,AP _,fun z P h2=>by omega,aF,aY,AG _ _⟩
   case round=>
    clear aF aY;obtain⟨cut,rfl,aM,aN,aO,ae,aG,hk4⟩:=hrel;have aw:=aj.trans (hk4.mono fun x T=>EI (ob:=ob) (sp:=sp) T);have aZ:=(Ad (a:=⟨gn,5,none⟩) (aw.block gn az.o am)).trans (CZ ay.o).2.2.2.2.2;have ax:=(S.keep aw).cell (m:=0) (c:=c) rfl;rw[Di]at ax;by_cases a1:C<cut
    rotate_left
    ·have bE:cut=C:=by omega
     have bM:¬(C:Int)<(cut:Int):=by omega
     have aD:Hid (cut=cq):=(show BH _ C j cut from⟨aM,aN,fun h=>absurd h (by omega),aO⟩).one U.o;clear bE a1 aO aM aN aG aZ ax aw;by_cases aH:0<d
     ·have O:Hid (less d=d-1):=by show less d=d-1;unfold less;rw[AL aH]
      obtain rfl:=aD.o;go_wp2_with fail;refine(Dk ae [32] (by have:=HB.o;have:=R.o.2.2;simp only[Aj,BJ];omega)).mono ?_;rintro e w6⟨rfl,V,X⟩;have r:AA (Al ob sp D) W w6:=(aj.trans (hk4.mono fun x T=>EI T)).trans (X.mono fun x T=>Dm T);have ao:=(Ad (a:=⟨gn,5,none⟩) (r.block gn az.o am)).trans (CZ ay.o).2.2.2.2.2;have G:=(S.keep r).cell (m:=0) (c:=c) rfl;rw[Di]at G;clear X;go_wp2_with fail;refine(aL c al w6 b bp p D E ob sp keep g (A++[32]) l' C cut t1 ac V ar.o HP.o.1 (by have P:=U.o.2.1;have:=B.o;omega) hg (by have:=HB.o;have:=R.o.2.2;simp only[AW,Aj,BJ];omega)).mono ?_;rintro e w7⟨rfl,Y,Z⟩;have K:RJ W w7 b bp s p nds D E ob sp keep g c j (acc++[40,114]++t) (evs l ev) (k-1) (less d) cut (A++[32]++t1) (evs l' ac) u1 aC:=
       ⟨Y,au.o,HP.o.2,by rw[<-ai.o.1,ah.o.1];simp,by rw[<-ai.o.2,ah.o.2,Hk],r.trans Z,by have:=M.o;rw[O.o];omega⟩
      rw[O.o]at K;clear V Y Z r ao G;go_wp2_with fail
      first
       |exact⟨⟨_,_,cut,_,_,_,_,rfl,rfl,rfl,K⟩,by have:=Q.o;simp[intOf];omega⟩
       |(
        go_roundw
        case rel=>exact⟨_,_,cut,_,_,_,_,rfl,rfl,rfl,K⟩
        case measure=>have:=Q.o;simp[intOf];omega)
     ·have O:Hid (less d=d):=by show less d=d;unfold less;rw[AK aH]
      obtain rfl:=aD.o;go_wp2_with fail;refine(Dk ae [32] (by have:=HB.o;have:=R.o.2.2;simp only[Aj,BJ];omega)).mono ?_;rintro e w6⟨rfl,V,X⟩;have r:AA (Al ob sp D) W w6:=(aj.trans (hk4.mono fun x T=>EI T)).trans (X.mono fun x T=>Dm T);have ao:=(Ad (a:=⟨gn,5,none⟩) (r.block gn az.o am)).trans (CZ ay.o).2.2.2.2.2;have G:=(S.keep r).cell (m:=0) (c:=c) rfl;rw[Di]at G;clear X;go_wp2_with fail;refine(aL c al w6 b bp p D E ob sp keep g (A++[32]) l' C cut t1 ac V ar.o HP.o.1 (by have P:=U.o.2.1;have:=B.o;omega) hg (by have:=HB.o;have:=R.o.2.2;simp only[AW,Aj,BJ];omega)).mono ?_;rintro e w7⟨rfl,Y,Z⟩;have K:RJ W w7 b bp s p nds D E ob sp keep g c j (acc++[40,114]++t) (evs l ev) (k-1) (less d) cut (A++[32]++t1) (evs l' ac) u1 aC:=
       ⟨Y,au.o,HP.o.2,by rw[<-ai.o.1,ah.o.1];simp,by rw[<-ai.o.2,ah.o.2,Hk],r.trans Z,by have:=M.o;rw[O.o];omega⟩
      rw[O.o]at K;clear V Y Z r ao G;go_wp2_with fail
      first
       |exact⟨⟨_,_,cut,_,_,_,_,rfl,rfl,rfl,K⟩,by have:=Q.o;simp[intOf];omega⟩
       |(
        go_roundw
        case rel=>exact⟨_,_,cut,_,_,_,_,rfl,rfl,rfl,K⟩
        case measure=>have:=Q.o;simp[intOf];omega)
    have bN:(C:Int)<(cut:Int):=by omega
    have f:Hid (C<=cut∧cut<=j∧C<cut):=⟨aM,aN,a1⟩;have aE:Hid (∀z,cut<z->z<=j->¬(MN s nds (.node c) C z∧CY s nds c (k-1) (less d) z j)):=aO;clear a1 aO aM aN aw;by_cases aH:0<d
    ·have O:Hid (less d=d-1):=by show less d=d-1;unfold less;rw[AL aH]
     go_wp2_with fail;refine(Lw s N HN nds n aU c al wr b bp p D E _ ae.tx ae.zin (k-1) _ (by have:=M.o;omega) (by have:=M.o;omega) (by have:=M.o;omega) cut (by have:=B.o;have:=f.o;omega)).mono ?_;rintro e w5⟨v,rfl,a2,a3,ak,af⟩;have aa:=ae.ends af ak;obtain⟨x2,c2,f2,rfl,aI,bv,ab⟩:=a2;have H:=aG.keep af (by intro z hz;simp only[Value.ownBlock,Ai]at hz;subst hz;exact bs);have ha:=H.at (j:=cut) (by have:=B.o;have:=f.o;have:=HN.o;omega);have hb:=aI.at (j:=j) (by have:=B.o;have:=HN.o;omega);have aJ:Hid (f2 j=true↔CY s nds c (k-1) (less d) cut j):=by
      show f2 j=true↔CY s nds c (k-1) (less d) cut j;rw[O.o];exact(ab j B.o.2.1).trans PJ
     have I:=hk4.trans af;have bF:(j:Int)<(N:Int):=by have:=B.o;have:=HN.o;omega
     have bG:(cut:Int)<(N:Int):=by have:=B.o;have:=f.o;have:=HN.o;omega
     have bH:(0:Int)<=(j:Int):=by omega
     have bI:(0:Int)<=(cut:Int):=by omega
     have aK:Hid (fe cut=true↔MN s nds (.node c) C cut):=bu.o cut (by have:=B.o;have:=f.o;omega);have bw:IntKind.i64.wrap ((cut:Int)-1)=(cut:Int)-1:=wrap_small (by have:=f.o;omega) (by have:=f.o;have:=B.o;omega);have F:((cut-1:Nat):Int)=(cut:Int)-1:=by have:=f.o;omega
     clear aI ae aG hk4 af ak a3 ab aZ ax;cases P:fe cut
     ·rw[P]at ha;have J:Hid (∀z,cut-1<z->z<=j->¬(MN s nds (.node c) C z∧CY s nds c (k-1) (less d) z j)):=by
       intro z hz ap;by_cases aq:z=cut
       ·subst aq;intro hh;have:=aK.o.2 hh.1;rw[P]at this;cases this
       ·exact aE.o z (by omega) ap
      clear P;go_wp2_with fail
      first
       |exact⟨⟨cut-1,by rw[F],by have:=f.o;omega,by have:=f.o;omega,J.o,aa,H,I⟩,by have:=f.o;simp[intOf];omega⟩
       |(
        go_roundw
        case rel=>exact⟨cut-1,by rw[F],by have:=f.o;omega,by have:=f.o;omega,J.o,aa,H,I⟩
        case measure=>have:=f.o;simp[intOf];omega)
     ·rw[P]at ha;cases h2:f2 j
      ·rw[h2]at hb;have J:Hid (∀z,cut-1<z->z<=j->¬(MN s nds (.node c) C z∧CY s nds c (k-1) (less d) z j)):=by
        intro z hz ap;by_cases aq:z=cut
        ·subst aq;intro hh;have:=aJ.o.2 hh.2;rw[h2]at this;cases this
        ·exact aE.o z (by omega) ap
       clear P h2;go_wp2_with fail
       first
        |exact⟨⟨cut-1,by rw[F],by have:=f.o;omega,by have:=f.o;omega,J.o,aa,H,I⟩,by have:=f.o;simp[intOf];omega⟩
        |(
         go_roundw
         case rel=>exact⟨cut-1,by rw[F],by have:=f.o;omega,by have:=f.o;omega,J.o,aa,H,I⟩
         case measure=>have:=f.o;simp[intOf];omega)
      ·rw[h2]at hb;have aD:Hid (cut=cq):=(show BH _ C j cut from⟨f.o.1,f.o.2.1,fun _=>⟨aK.o.1 P,aJ.o.1 h2⟩,aE.o⟩).one U.o;clear P h2;obtain rfl:=aD.o;go_wp2_with fail;refine(Dk aa [32] (by have:=HB.o;have:=R.o.2.2;simp only[Aj,BJ];omega)).mono ?_;rintro e w6⟨rfl,V,X⟩;have r:AA (Al ob sp D) W w6:=(aj.trans (I.mono fun x T=>EI T)).trans (X.mono fun x T=>Dm T);have ao:=(Ad (a:=⟨gn,5,none⟩) (r.block gn az.o am)).trans (CZ ay.o).2.2.2.2.2;have G:=(S.keep r).cell (m:=0) (c:=c) rfl;rw[Di]at G;clear X;go_wp2_with fail;refine(aL c al w6 b bp p D E ob sp keep g (A++[32]) l' C cut t1 ac V ar.o HP.o.1 (by have P:=U.o.2.1;have:=B.o;omega) hg (by have:=HB.o;have:=R.o.2.2;simp only[AW,Aj,BJ];omega)).mono ?_;rintro e w7⟨rfl,Y,Z⟩;have K:RJ W w7 b bp s p nds D E ob sp keep g c j (acc++[40,114]++t) (evs l ev) (k-1) (less d) cut (A++[32]++t1) (evs l' ac) u1 aC:=
        ⟨Y,au.o,HP.o.2,by rw[<-ai.o.1,ah.o.1];simp,by rw[<-ai.o.2,ah.o.2,Hk],r.trans Z,by have:=M.o;rw[O.o];omega⟩
       rw[O.o]at K;clear V Y Z r ao G;go_wp2_with fail
       first
        |exact⟨⟨_,_,cut,_,_,_,_,rfl,rfl,rfl,K⟩,by have:=Q.o;simp[intOf];omega⟩
        |(
         go_roundw
         case rel=>exact⟨_,_,cut,_,_,_,_,rfl,rfl,rfl,K⟩
         case measure=>have:=Q.o;simp[intOf];omega)
    ·have O:Hid (less d=d):=by show less d=d;unfold less;rw[AK aH]
     go_wp2_with fail;refine(Lw s N HN nds n aU c al wr b bp p D E _ ae.tx ae.zin (k-1) _ (by have:=M.o;omega) (by have:=M.o;omega) (by have:=M.o;omega) cut (by have:=B.o;have:=f.o;omega)).mono ?_;rintro e w5⟨v,rfl,a2,a3,ak,af⟩;have aa:=ae.ends af ak;obtain⟨x2,c2,f2,rfl,aI,bv,ab⟩:=a2;have H:=aG.keep af (by intro z hz;simp only[Value.ownBlock,Ai]at hz;subst hz;exact bs);have ha:=H.at (j:=cut) (by have:=B.o;have:=f.o;have:=HN.o;omega);have hb:=aI.at (j:=j) (by have:=B.o;have:=HN.o;omega);have aJ:Hid (f2 j=true↔CY s nds c (k-1) (less d) cut j):=by
      show f2 j=true↔CY s nds c (k-1) (less d) cut j;rw[O.o];exact(ab j B.o.2.1).trans PJ
     have I:=hk4.trans af;have bF:(j:Int)<(N:Int):=by have:=B.o;have:=HN.o;omega
     have bG:(cut:Int)<(N:Int):=by have:=B.o;have:=f.o;have:=HN.o;omega
     have bH:(0:Int)<=(j:Int):=by omega
     have bI:(0:Int)<=(cut:Int):=by omega
     have aK:Hid (fe cut=true↔MN s nds (.node c) C cut):=bu.o cut (by have:=B.o;have:=f.o;omega);have bw:IntKind.i64.wrap ((cut:Int)-1)=(cut:Int)-1:=wrap_small (by have:=f.o;omega) (by have:=f.o;have:=B.o;omega);have F:((cut-1:Nat):Int)=(cut:Int)-1:=by have:=f.o;omega
     clear aI ae aG hk4 af ak a3 ab aZ ax;cases P:fe cut
     ·rw[P]at ha;have J:Hid (∀z,cut-1<z->z<=j->¬(MN s nds (.node c) C z∧CY s nds c (k-1) (less d) z j)):=by
       intro z hz ap;by_cases aq:z=cut
       ·subst aq;intro hh;have:=aK.o.2 hh.1;rw[P]at this;cases this
       ·exact aE.o z (by omega) ap
      clear P;go_wp2_with fail
      first
       |exact⟨⟨cut-1,by rw[F],by have:=f.o;omega,by have:=f.o;omega,J.o,aa,H,I⟩,by have:=f.o;simp[intOf];omega⟩
       |(
        go_roundw
        case rel=>exact⟨cut-1,by rw[F],by have:=f.o;omega,by have:=f.o;omega,J.o,aa,H,I⟩
        case measure=>have:=f.o;simp[intOf];omega)
     ·rw[P]at ha;cases h2:f2 j
      ·rw[h2]at hb;have J:Hid (∀z,cut-1<z->z<=j->¬(MN s nds (.node c) C z∧CY s nds c (k-1) (less d) z j)):=by
        intro z hz ap;by_cases aq:z=cut
        ·subst aq;intro hh;have:=aJ.o.2 hh.2;rw[h2]at this;cases this
        ·exact aE.o z (by omega) ap
       clear P h2;go_wp2_with fail
       first
        |exact⟨⟨cut-1,by rw[F],by have:=f.o;omega,by have:=f.o;omega,J.o,aa,H,I⟩,by have:=f.o;simp[intOf];omega⟩
        |(
         go_roundw
         case rel=>exact⟨cut-1,by rw[F],by have:=f.o;omega,by have:=f.o;omega,J.o,aa,H,I⟩
         case measure=>have:=f.o;simp[intOf];omega)
      ·rw[h2]at hb;have aD:Hid (cut=cq):=(show BH _ C j cut from⟨f.o.1,f.o.2.1,fun _=>⟨aK.o.1 P,aJ.o.1 h2⟩,aE.o⟩).one U.o;clear P h2;obtain rfl:=aD.o;go_wp2_with fail;refine(Dk aa [32] (by have:=HB.o;have:=R.o.2.2;simp only[Aj,BJ];omega)).mono ?_;rintro e w6⟨rfl,V,X⟩;have r:AA (Al ob sp D) W w6:=(aj.trans (I.mono fun x T=>EI T)).trans (X.mono fun x T=>Dm T);have ao:=(Ad (a:=⟨gn,5,none⟩) (r.block gn az.o am)).trans (CZ ay.o).2.2.2.2.2;have G:=(S.keep r).cell (m:=0) (c:=c) rfl;rw[Di]at G;clear X;go_wp2_with fail;refine(aL c al w6 b bp p D E ob sp keep g (A++[32]) l' C cut t1 ac V ar.o HP.o.1 (by have P:=U.o.2.1;have:=B.o;omega) hg (by have:=HB.o;have:=R.o.2.2;simp only[AW,Aj,BJ];omega)).mono ?_;rintro e w7⟨rfl,Y,Z⟩;have K:RJ W w7 b bp s p nds D E ob sp keep g c j (acc++[40,114]++t) (evs l ev) (k-1) (less d) cut (A++[32]++t1) (evs l' ac) u1 aC:=
        ⟨Y,au.o,HP.o.2,by rw[<-ai.o.1,ah.o.1];simp,by rw[<-ai.o.2,ah.o.2,Hk],r.trans Z,by have:=M.o;rw[O.o];omega⟩
       rw[O.o]at K;clear V Y Z r ao G;go_wp2_with fail
       first
        |exact⟨⟨_,_,cut,_,_,_,_,rfl,rfl,rfl,K⟩,by have:=Q.o;simp[intOf];omega⟩
        |(
         go_roundw
         case rel=>exact⟨_,_,cut,_,_,_,_,rfl,rfl,rfl,K⟩
         case measure=>have:=Q.o;simp[intOf];omega)
theorem VA(s:ByteArray)(N:Nat)(HN:Hid (N=s.size+1))(nds:List Nd)(hn:nds.length<=1000)(n:Nat)(G:DS s nds n)(H:F6 s nds n)(k:Nat)(nd:Nd)(Y:nds[k]? =some nd)(d:nd.kind=114)(c:Nat)(Z:Hid (nd.kids=[c]))(I:NK nds n c)(J:Hid (nd.mn<=5))(K:Hid (-1<=nd.mx∧nd.mx<=5))(L:Hid (nd.mx<0∨(nd.mn:Int)<=nd.mx))(v:nd.kids.length<=1000)(w:World)(b bp:Nat)(p:PS)(D:List Nat)(E:Value)(ob:Nat)(sp:Value)(keep:Bool)(g:Nat)(acc:List UInt8)(l:List Int)(i j:Nat)(t:List UInt8)(ev:List (Nat×Nat×Nat))(u:TS w b bp s p nds D E ob sp keep g acc l)(x:i<=j)(hj:j<=s.size)(hg:g<=9)(M:Hid (TN s nds g (.times c nd.mn nd.mx) i j t ev))(O:Hid (CY s nds c nd.mn nd.mx i j))(hlen:acc.length+([40,114]++t++[41]).length<=4611686018427387904):Calls Tryz.prog 88 #[.pointer (some ⟨b,0,none⟩),.int .i64 k,.int .i64 i,.int .i64 j,.pointer (some ⟨ob,0,none⟩)] w (FX w b bp s p nds D E ob sp keep g acc l ([40,114]++t++[41]) (ev)):=by
 obtain⟨x0,x1,x2,x3⟩:=u.tx.xb.main;obtain⟨g',aa,hv,kv,f,P,hH,Q,c0,c1,c2,c3,c4,c5⟩:=u.tx.nodes.node Y;rw[d]at c0;obtain⟨n1,_⟩:=u.tx.pb.nodes;rw[f]at n1;obtain⟨y,m,q,rfl⟩:=hH.1;have R:Hid (KV w (Al ob sp D) kv nd.kids):=Q.kv2 v;obtain⟨z,A,rfl,ab⟩:=Q.cap;have hs:=u.tx.small;have ac:(0:Int)<=(k:Int):=by omega
 have ad:(k:Int)<(nds.length:Int):=by omega
 have ae:(nds.length:Int)<=1000:=by omega
 have af:(nd.kids.length:Int)<=1000:=by omega
 have S:Hid (i<=j∧j<=s.size∧s.size<=100):=⟨x,hj,hs⟩;have HS:Hid (TS w b bp s p nds D E ob sp keep g acc l):=u;have r:=(AG [] w).alloc (.cells #[.int .u8 114,.slice y m q,.int .i64 nd.n,.int .i64 nd.mn,.int .i64 nd.mx,.slice z nd.kids.length A] 157);have a:=AS w (.cells #[.int .u8 114,.slice y m q,.int .i64 nd.n,.int .i64 nd.mn,.int .i64 nd.mx,.slice z nd.kids.length A] 157);have HL:Hid (acc.length+([40,114]++t++[41]).length<=4611686018427387904):=hlen;clear u Y x hj hs f hH Q P d hn v x2 x3 hlen;go_enter Tryz.func88,Tryz.ntmps88;go_upto_region 1 with(fail)
 clear c0 c1 c2 c3 c4 c5 n1 x0 x1;generalize w.alloc (.cells #[.int .u8 114,.slice y m q,.int .i64 nd.n,.int .i64 nd.mn,.int .i64 nd.mx,.slice z nd.kids.length A] 157)=W at*;obtain⟨gn,B⟩:=AQ w.heap.size;rw[<-B]at a⊢;have C:=HS.o.new r;have ag:gn∉Al ob sp D:=by
  intro hm;have T:=HS.o;simp only[Al,Az,Bb,Ay]at hm;rcases hm with h|h|h
  ·have:=T.ot.lt;omega
  ·have:=(T.row.lt _ h).2;omega
  ·have:=T.tx.dlt _ h;omega
 clear B;have e0:W.cell? ⟨gn,0,none⟩=some (.int .u8 114):=by rw[AU a];rfl
 have U:Hid (W.heap[gn]? =some (.cells #[.int .u8 114,.slice y m q,.int .i64 nd.n,.int .i64 nd.mn,.int .i64 nd.mx,.slice z nd.kids.length A] 157 (0,0))):=a;have ah:Hid (gn<W.heap.size):=(AN.1 a).1;have F:=R.o.keep (r.mono (by simp));clear a;obtain⟨q0,q1,q2,q3,q4,q5⟩:=CZ U.o;clear e0;go_upto_region 22 with(fail)
 go_wp2_with fail;refine(U9 s N HN nds n G H c I nd.mn nd.mx J.out K.out L.out 114 nd.n (.slice y m q) rfl z nd.kids.length A (by rw[Z.o];simp) W b bp p D E ob sp keep g acc l i j t ev C (by have:=F;rw[Z.o]at this⊢;exact this) M.o O.o S.o.2.1 hg (by have:=HL.o;simp only[AW,Aj,BJ]at this;omega)).mono ?_;rintro e w3⟨rfl,V,hk3⟩;have X:AA (Al ob sp D) w w3:=(r.mono (by simp)).trans hk3;clear q0 q1 q2 q3 q4 q5 C hk3;go_wp2_with fail;go_end0;exact⟨rfl,V,X⟩
theorem VB(s:ByteArray)(nds:List Nd)(F:nds.length<=1000):∀n,n<=1000->F6 s nds n:=by
 intro n
 induction n with
 |zero=>intro _ k r;obtain⟨kd,x,_,_,h,_⟩:=r;exact absurd h (Nat.not_lt_zero _)
 |succ n W=>
  intro X k r w b bp p D E ob sp keep g acc l i j t ev H Y K I J hlen;have v:=W (by omega);have y:=Kc s nds F n (by omega);obtain⟨kd,x,Z,h2,h3,h4,h5⟩:=r;obtain⟨nd,f,o⟩:=NK.cases x.sz Z h2 (AP _) h4 h5;have o:=o.up (m:=n) (by omega);have z:=K.le;cases Y with
  |byte _ B _ _ e r=>
   cases f.symm.trans e;have M:i<s.size:=((MN.byte_iff f r).1 K).1;have N:nd.kids.length<=1000:=by
    rcases o with⟨_,h⟩|⟨h,_⟩|⟨h,_⟩|⟨h,_⟩
    ·rw[h];simp
    ·omega
    ·omega
    ·omega
   exact U2 s (s.size+1) rfl nds F n y v k nd f r N w b bp p D E ob sp keep g acc l i j H z I J M hlen
  |grp _ B c _ _ t ev e r C O h=>
   cases f.symm.trans e;have G:NK nds n c:=by
    rcases o with⟨h,_⟩|⟨_,c',h,P⟩|⟨h,_⟩|⟨h,_⟩
    ·omega
    ·rw[C]at h;cases h;exact P
    ·omega
    ·omega
   exact U3 s (s.size+1) rfl nds F n y v k nd f r c C G (by rw[C];simp) w b bp p D E ob sp keep g acc l i j t ev H z I J O h ((MN.grp_iff f r C).1 K) hlen
  |alt _ B _ _ _ _ e r h=>
   cases f.symm.trans e;rcases o with⟨A,_⟩|⟨A,_⟩|⟨A,_⟩|⟨A|⟨_,Q⟩,T,u⟩
   ·omega
   ·omega
   ·omega
   ·omega
   ·exact U4 s (s.size+1) rfl nds F n y v k nd f r u Q (by omega) w b bp p D E ob sp keep g acc l i j t ev H z I J h hlen
  |none _ B _ _ e r U=>
   cases f.symm.trans e;exact U8 s (s.size+1) rfl nds F n y v k nd f r U (by rw[U];simp) w b bp p D E ob sp keep g acc l i j H z I J hlen
  |way _ B _ _ t _ e r R h=>
   cases f.symm.trans e;rcases o with⟨A,_⟩|⟨A,_⟩|⟨A,_⟩|⟨A|⟨A,_⟩,T,u⟩
   ·omega
   ·omega
   ·omega
   ·exact U7 s (s.size+1) rfl nds F n y v k nd f r u R (by omega) w b bp p D E ob sp keep g acc l i j t ev H z I J h ((MN.way_iff f r).1 K) hlen
   ·omega
  |rep _ B c _ _ t _ e r C h=>
   cases f.symm.trans e;rcases o with⟨A,_⟩|⟨A,_⟩|⟨_,e1,e2,V,c',L,G⟩|⟨A|⟨A,_⟩,T,u⟩
   ·omega
   ·omega
   ·rw[C]at L;cases L;obtain⟨q,a,d,hit⟩:=(MN.rep_iff f r C).1 K;have S:CY s nds c nd.mn nd.mx i j:=⟨q,a,d,(MN.it_iff (fun _ _=>Iff.rfl) q i j).2 hit⟩;exact VA s (s.size+1) rfl nds F n y v k nd f r c C G e1 ⟨e2,V.1⟩ V.2 (by rw[C];simp) w b bp p D E ob sp keep g acc l i j t ev H z I J h S hlen
   ·omega
   ·omega
