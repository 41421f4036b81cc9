/-
  DERIVED. The program's treeOfWay, over treeOfPiece. Conditions: the stretch is one that matches.
-/
import Derived.Test.YtnfojonmohijpaaGreatDoorJXC
set_option linter.all false
set_option maxRecDepth 100000
set_option maxHeartbeats 8000000
namespace Go.Proofs.YtnfojonmohijpaaGreatDoor
open Go.RowKit
variable{x:AD}
structure WQ (s : ByteArray) (x : AD) (i j c : Nat) (ts : List Tr) : Prop where
 rest : Mt s (Be ts.length x) c j
 lo : i <= c
 hi : c <= j
 spec : ∀ u, TT s (.kids (Be ts.length x)) c j u -> TT s (.kids x) i j (B0 ts u)
theorem WQ.mid{s:ByteArray}{y:AD}{i j c e:Nat}{ts:List Tr}(L:WQ s x i j c ts)(d:Be ts.length x=.pcons y (Be (ts.length+1) x))(f:BH (fun m=>Mt s y c m∧Mt s (Be (ts.length+1) x) m j) c j e):Mt s y c e∧Mt s (Be (ts.length+1) x) e j:=by
 have h:=L.rest;rw[d]at h;obtain⟨m,a,b⟩:=h;exact f.hit ⟨m,a.le,b.le,a,b⟩
theorem WQ.next{s:ByteArray}{y:AD}{i j c e:Nat}{ts:List Tr}{t:Tr}(L:WQ s x i j c ts)(b:Be ts.length x=.pcons y (Be (ts.length+1) x))(a:BH (fun m=>Mt s y c m∧Mt s (Be (ts.length+1) x) m j) c j e)(d:TT s (.node y) c e t):WQ s x i j e (ts++[t]):=by
 refine⟨by rw[AW,CK];exact(L.mid b a).2,by have:=L.lo;have:=a.1;omega,a.2.1,?_⟩;intro u hu;rw[AW,CK]at hu;rw[Oi];refine L.spec _ ?_;rw[b];exact .kgo y _ c j e t u a d hu
theorem T8(h:IX x)(a:(pl x).length=1):∃y,x=.pcons y .pnil:=by
 cases x with
 |pcons y r=>
  cases r with
  |pnil=>exact⟨y,rfl⟩
  |pcons _ _=>simp[pl]at a
  |_=>exact h.elim
 |pnil=>simp[pl]at a
 |_=>exact h.elim
theorem T9(h:IX x)(a:2<=(pl x).length):∃y z r,x=.pcons y (.pcons z r):=by
 cases x with
 |pcons y r=>
  cases r with
  |pnil=>simp[pl]at a
  |pcons z r=>exact⟨y,z,r,rfl⟩
  |_=>exact h.elim
 |pnil=>simp[pl]at a
 |_=>exact h.elim
theorem KU{w:World}{g:Nat}{a b:Value}(h:w.heap[g]? =some (.cells #[a,b] 222 (0,0))):w.cell? ⟨g,0,none⟩=some a∧w.cell? ⟨g,1,none⟩=some b:=Ge h
theorem UA(s:ByteArray)(N:Nat)(HN:Hid (N=s.size+1))(hs:s.size<=100)(n:Nat)(bJ:n<=1000)(IP:Lh s N n):Lg s N (n+1):=by
 intro x hx w S ds m i j hm hM aC hj aD;have hP:=hm.isWP;obtain⟨m0,m1,m2,m3,m5,m6,rfl,o0,o1,o2,o3,o5,o6⟩:=hM.ok;cases hm with
 |way _ cs v r np aE p bK ap=>
 obtain⟨va,vn,vc,rfl⟩:=A6 p;obtain rfl:=Gh p;obtain⟨gr,I,_,rfl,a7,bL,_,_⟩:=ap.at (d:=0) (by omega);obtain⟨M,HM⟩:∃M,Hid (M=vn+1):=⟨_,rfl⟩;have aF:=HM.o;rw[<-aF]at ap⊢;clear aF;have HL:Hid (vn=(pl x).length):=by
  have h1:=p.1;have L:=aE.pl_at.1;show vn=(pl x).length;omega
 have bM:(vn:Int)<=2000:=by have:=HL.o;have:=LW x;omega
 have V:=Ic w (.cells #[m0,m1,m2,m3,.string s,m5,m6] 80) (.cells #[.slice va vn vc,.slice (some ⟨gr,0,none⟩) M I] 222) (.cells #[.int .u8 0,.int .i64 0,.slice none 0 0] 88);have h0:=IZ w (.cells #[m0,m1,m2,m3,.string s,m5,m6] 80) (.cells #[.slice va vn vc,.slice (some ⟨gr,0,none⟩) M I] 222) (.cells #[.int .u8 0,.int .i64 0,.slice none 0 0] 88);have h1:=Ia w (.cells #[m0,m1,m2,m3,.string s,m5,m6] 80) (.cells #[.slice va vn vc,.slice (some ⟨gr,0,none⟩) M I] 222) (.cells #[.int .u8 0,.int .i64 0,.slice none 0 0] 88);have L:=Ib w (.cells #[m0,m1,m2,m3,.string s,m5,m6] 80) (.cells #[.slice va vn vc,.slice (some ⟨gr,0,none⟩) M I] 222) (.cells #[.int .u8 0,.int .i64 0,.slice none 0 0] 88);go_enter Tryz.func130,Tryz.ntmps130;go_upto_region 1 with(fail)
 generalize(((w.alloc (.cells #[m0,m1,m2,m3,.string s,m5,m6] 80)).alloc (.cells #[.slice va vn vc,.slice (some ⟨gr,0,none⟩) M I] 222)).alloc (.cells #[.int .u8 0,.int .i64 0,.slice none 0 0] 88))=X at*;obtain⟨g0,e0⟩:=AQ w.heap.size;obtain⟨g1,e1⟩:=AQ (w.heap.size+1);obtain⟨g2,e2⟩:=AQ (w.heap.size+2);rw[<-e2]at L⊢;rw[<-e1]at h1⊢;rw[<-e0]at h0⊢;have W:w.heap.size<=g2:=by omega
 have ah:g2<X.heap.size:=(AN.1 L).1;have aG:g1<X.heap.size:=(AN.1 h1).1;have aH:g0<X.heap.size:=(AN.1 h0).1;have bN:=V.size;clear e0 e1 e2;obtain⟨d0,d1⟩:=KU h1;have bO:∀z,(Value.slice va vn vc).ownBlock=some z->z<w.heap.size:=fun z F=>(A3 p z F).2
 by_cases F:vn=0
 ·have a8:x=.pnil:=by
   have:=(Jf hP).1;rw[<-HL.o,F]at this;exact this
  subst a8;have a9:((vn:Int)==0)=true:=by simp[F]
  have E:AA [] w (X.setRow g2 #[.int .u8 101,.int .i64 0,.slice none 0 0]):=V.setRow (AE W) _;clear F;go_wp2_with(first|(refine Ae rfl 88 _ _ rfl g2 #[.int .u8 101,.int .i64 0,.slice none 0 0] rfl rfl _ _ L (Bs _ _ _) rfl (Dj rfl rfl rfl) ?_));refine Ag (Au rfl _ _ g2 _ _ _ _ rfl (Aa _ _ _ _ _ _ L) DO rfl (Bs _ _ _)) rfl ?_;exact⟨.tnil,_,rfl,.tnil,.nil i j,E⟩
 have a9:((vn:Int)==0)=false:=by simp;omega
 obtain⟨gp,cp,ba,_,aI⟩:=p.form (by omega);cases ba;have aq:gp<w.heap.size:=aI;have aJ:∀(d:Nat)(y:AD),(pl x)[d]? =some y->∃es,Mk w S s N .piece y es∧y.sz<x.sz∧es.length=8∧∀X':World,AA [] w X'->X'.rangeAt gp (d*8) es:=by
  intro d y hy;obtain⟨es,h1,L,h3⟩:=aE.pl_at.2 d y hy;have h8:es.length=8:=h1.form.2;refine⟨es,h1,h3,h8,fun X' hk q u hu=>?_⟩;have hq:q<8:=by rw[<-h8];exact(BT.1 hu).1
  have hd:d<vn:=by have:=HL.o;have:=(BT.1 hy).1;omega
  exact(Ad (hk.block gp aq (by simp))).trans ((BX p (d*8+q) (by omega)).trans (L q u hu))
 by_cases ai:vn=1
 ·obtain⟨y,rfl⟩:=T8 hP (by have:=HL.o;omega);obtain⟨es,Y,aK,h8,af⟩:=aJ 0 y rfl;have bc:((vn:Int)==1)=true:=by simp[ai]
  have aL:Mt s y i j:=by
   obtain⟨q,a,b⟩:=aD;have:q=j:=b;subst this;exact a
  have bP:(0:Int)<(vn:Int):=by omega
  have C:(Tryz.prog.info? 273).map (·.size)=some es.length:=by rw[h8];kernel_rfl
  have f:X.drew.heap[g0]? =some (.cells #[m0,m1,m2,m3,.string s,m5,m6] 80 (0,0))∧X.drew.heap[g1]? =some (.cells #[.slice (some ⟨gp,0,none⟩) vn vc,.slice (some ⟨gr,0,none⟩) M I] 222 (0,0))∧AA [] w X.drew:=⟨h0,h1,V.drewN 1⟩;have ar:AA [] X X.drew:=(AG [] X).drewN 1;clear ai;go_upto_region 5 with(fail)
  refine Cj (S:=fun X'=>X'.heap[g0]? =some (.cells #[m0,m1,m2,m3,.string s,m5,m6] 80 (0,0))∧X'.heap[g1]? =some (.cells #[.slice (some ⟨gp,0,none⟩) vn vc,.slice (some ⟨gr,0,none⟩) M I] 222 (0,0))∧AA [] w X') (by kernel_rfl) ?_;change wpAnyH _ _ _ _ _ _ _ _ (World.drew _);generalize X.drew=X0 at*;refine Ak 0 _ (some 21) (.agg #[m0,m1,m2,m3,.string s,m5,m6]) rfl (DN (by rfl) 80 _ rfl g0 0 rfl [m0,m1,m2,m3,.string s,m5,m6] _ (fun X Z=>KS Z.1) Ck rfl (Cq _ _ _ _ _ _ _)) f ?_;simp only[AM];refine AV 1 _ (some 22) (.pointer (some ⟨g1,0,none⟩)) rfl f ?_;simp only[AM];refine Ak 2 _ (some 23) (.slice (some ⟨gp,0,none⟩) vn vc) rfl (AH ⟨by rfl,fun X Z=>by(obtain⟨q0,q1⟩:=KU Z.2.1;go_simp)⟩) f ?_;simp only[AM];refine AV 3 _ (some 24) (.pointer (some ⟨gp,0*8,none⟩)) rfl f ?_;simp only[AM];refine Ak 4 _ (some 25) (.agg es.toArray) rfl (DN (by rfl) 273 _ rfl gp (0*8) rfl es _ (fun X Z=>af X Z.2.2) FQ rfl C) f ?_;simp only[AM];refine AV 5 _ (some 26) (.int .i64 i) rfl f ?_;simp only[AM];refine AV 6 _ (some 27) (.int .i64 j) rfl f ?_;simp only[AM];refine A8 7 rfl fun K hK=>?_
  go_simp;refine(IP y (by omega) X0 S es _ i j (Y.keep f.2.2 (by simp)) hM aC hj aL).mono ?_;rintro e w1⟨t,bf,rfl,O,au,l⟩;obtain⟨Q,R,T,tn,U,rfl⟩:=O.form;have k:w1.heap[g0]? =some (.cells #[m0,m1,m2,m3,.string s,m5,m6] 80 (0,0))∧w1.heap[g1]? =some (.cells #[.slice (some ⟨gp,0,none⟩) vn vc,.slice (some ⟨gr,0,none⟩) M I] 222 (0,0))∧AA [] w w1:=⟨(l.block g0 (AN.1 f.1).1 (by simp)).trans f.1,(l.block g1 (AN.1 f.2.1).1 (by simp)).trans f.2.1,f.2.2.trans l⟩;have aM:=((ar.trans l).block g2 ah (by simp)).trans L;have bF:=(ar.trans l).size;have bQ:=ar.size;refine hK.out _ _ k (fun _=>?_);clear hK K;refine A8 8 rfl fun K hK=>?_
  rw[AL (by rfl)];have E:AA [g2] w1 (w1.setRow g2 #[.int .u8 Q,.int .i64 R,.slice T tn U]):=(AG [g2] _).setRow (g:=g2) (by simp) _;have bh:g0≠g2:=by rintro rfl;rw[h0]at L;cases L
  have bi:g1≠g2:=by rintro rfl;rw[h1]at L;cases L
  have D:(w1.setRow g2 #[.int .u8 Q,.int .i64 R,.slice T tn U]).heap[g0]? =some (.cells #[m0,m1,m2,m3,.string s,m5,m6] 80 (0,0))∧(w1.setRow g2 #[.int .u8 Q,.int .i64 R,.slice T tn U]).heap[g1]? =some (.cells #[.slice (some ⟨gp,0,none⟩) vn vc,.slice (some ⟨gr,0,none⟩) M I] 222 (0,0))∧AA [] w (w1.setRow g2 #[.int .u8 Q,.int .i64 R,.slice T tn U]):=⟨(E.block g0 (AN.1 k.1).1 (by simp;exact bh)).trans k.1,(E.block g1 (AN.1 k.2.1).1 (by simp;exact bi)).trans k.2.1,k.2.2.setRow (AE W) _⟩;refine Ee 88 _ _ rfl g2 #[.int .u8 Q,.int .i64 R,.slice T tn U] rfl rfl _ _ aM (Bs _ _ _) rfl (Dj rfl rfl rfl) (hK.out _ _ D (fun _=>?_));refine CE ?_;go_wp2_with fail;refine Ag (Au rfl _ _ g2 _ _ _ _ rfl (Aa _ _ _ _ _ _ aM) DO rfl (Bs _ _ _)) rfl ?_;exact⟨t,_,rfl,(O.keep E (by intro z F;simp;omega)).mono fun z F _=>by omega,.lone y i j t au,D.2.2⟩
 have bc:((vn:Int)==1)=false:=by simp;omega
 obtain⟨xa,xb,xr,aN⟩:=T9 hP (by have:=HL.o;omega);have bj:Hid (x=.pcons xa (.pcons xb xr)):=aN;clear aN;go_upto_region 8 with(fail)
 have G0:=GL.start X;have aO:Hid (WQ s x i j i []):=⟨aD,AP _,aC,fun u h=>h⟩;go_loopw [2,9,10,11,12,32] (fun q2 q9 _ _ _ aw wr=>∃(c d:Nat)(ts:List Tr)(cs:List Value),q2=.int .i64 c∧aw=.int .i64 d∧Hid (d=ts.length)∧d<=vn∧GL X wr q9 ts cs∧Hid (WQ s x i j c ts)) (fun _ _ _ _ _ aw _=>vn-(intOf aw).toNat)
 case atStart=>exact⟨i,0,[],[],rfl,rfl,rfl,AY _,G0,aO⟩
 case round=>
  clear G0 aO;obtain⟨c,d,ts,bk,rfl,rfl,HD,hd,G,HQ⟩:=hrel;obtain⟨aa,P,ab,rfl⟩:=A6 G.own;have bm:=(G.keep.block g0 aH (by simp)).trans h0;have bn:=(G.keep.block g1 aG (by simp)).trans h1;have aP:=(G.keep.block g2 ah (by simp)).trans L;have bR:=G.keep.size;have aQ:=V.trans G.keep;have bS:=HQ.o.lo;have bT:=HQ.o.hi;have bU:Hid (P=ts.length):=Gh G.own;by_cases hlt:d<vn
  ·obtain⟨y,hy⟩:∃y,(pl x)[d]? =some y:=⟨_,Ax (by have:=HL.o;omega)⟩;obtain⟨es,Y,aK,h8,af⟩:=aJ d y hy;have bo:Hid (Be d x=.pcons y (Be (d+1) x)):=(Jf hP).2 d y hy;have aj:=af wr aQ;have bV:(0:Int)<=(d:Int):=by omega
   have bW:(d:Int)<(vn:Int):=by omega
   have ag:Hid (d<vn):=hlt;obtain⟨c2,H⟩:∃c2,Hid (c2=d+1):=⟨_,rfl⟩;have bX:IntKind.i64.wrap ((d:Int)+1)=(c2:Int):=by have:=H.o;rw[wrap_small (by omega) (by omega)];omega
   have bG:(0:Int)<=(c2:Int):=by omega
   have bH:(c2:Int)<(M:Int):=by have:=H.o;have:=HM.o;omega
   obtain⟨_,_,u,aR,_,_,bq,hu⟩:=ap.at (d:=c2) (by have:=H.o;have:=HM.o;omega);cases aR;obtain⟨gu,cu,rfl⟩:=hu.slice;have C:(Tryz.prog.info? 273).map (·.size)=some es.length:=by rw[h8];kernel_rfl
   have ax:(wr.alloc (.cells #[.int .i64 0,.slice none 0 0,.slice none 0 0,.slice none 0 0,.bool false,.int .i64 0,.int .i64 0,.slice none 0 0] 273)).heap[wr.heap.size]? =some (.cells #[.int .i64 0,.slice none 0 0,.slice none 0 0,.slice none 0 0,.bool false,.int .i64 0,.int .i64 0,.slice none 0 0] 273 (0,0)):=AS wr _;have l:AA [] wr ((wr.alloc (.cells #[.int .i64 0,.slice none 0 0,.slice none 0 0,.slice none 0 0,.bool false,.int .i64 0,.int .i64 0,.slice none 0 0] 273)).setRow wr.heap.size es.toArray):=((AG [] wr).alloc _).setRow (AE (AP _)) _;have ay:((wr.alloc (.cells #[.int .i64 0,.slice none 0 0,.slice none 0 0,.slice none 0 0,.bool false,.int .i64 0,.int .i64 0,.slice none 0 0] 273)).setRow wr.heap.size es.toArray).heap[wr.heap.size]? =some (.cells es.toArray 273 (0,0)):=Aa _ _ _ _ _ _ ax;have az:=FO Y.form.1;have ak:(#[.int .i64 0,.slice none 0 0,.slice none 0 0,.slice none 0 0,.bool false,.int .i64 0,.int .i64 0,.slice none 0 0]:Array Value).size=es.toArray.size:=by simp[h8]
   clear hlt hd hy af;go_upto_region 10 with(first|(refine ED rfl 273 _ rfl gp (d*8) rfl es _ aj FQ rfl C ?_)|(refine Ae rfl 273 _ _ rfl wr.heap.size es.toArray rfl rfl _ _ ax (LV es h8) ak az ?_;generalize(wr.alloc (.cells #[.int .i64 0,.slice none 0 0,.slice none 0 0,.slice none 0 0,.bool false,.int .i64 0,.int .i64 0,.slice none 0 0] 273)).setRow wr.heap.size es.toArray=w1 at*))
   obtain⟨go,aS⟩:=AQ wr.heap.size;rw[<-aS]at ay⊢;clear aS ax ak;have aT:=(l.block g0 (by omega) (by simp)).trans bm;have aU:=(l.block g1 (by omega) (by simp)).trans bn;have J:=aQ.trans l;have al:=(Ad (J.block gr a7 (by simp))).trans bq;have f:w1.drew.heap[g0]? =some (.cells #[m0,m1,m2,m3,.string s,m5,m6] 80 (0,0))∧w1.drew.heap[g1]? =some (.cells #[.slice (some ⟨gp,0,none⟩) vn vc,.slice (some ⟨gr,0,none⟩) M I] 222 (0,0))∧w1.drew.heap[go]? =some (.cells es.toArray 273 (0,0))∧w1.drew.cell? ⟨gr,c2,none⟩=some (.slice (some ⟨gu,0,none⟩) N cu)∧AA [] w1 w1.drew:=⟨aT,aU,ay,al,(AG [] w1).drewN 1⟩;have aA:∀A B:World,(A.heap[g0]? =some (.cells #[m0,m1,m2,m3,.string s,m5,m6] 80 (0,0))∧A.heap[g1]? =some (.cells #[.slice (some ⟨gp,0,none⟩) vn vc,.slice (some ⟨gr,0,none⟩) M I] 222 (0,0))∧A.heap[go]? =some (.cells es.toArray 273 (0,0))∧A.cell? ⟨gr,c2,none⟩=some (.slice (some ⟨gu,0,none⟩) N cu)∧AA [] w1 A)->AA [] A B->(B.heap[g0]? =some (.cells #[m0,m1,m2,m3,.string s,m5,m6] 80 (0,0))∧B.heap[g1]? =some (.cells #[.slice (some ⟨gp,0,none⟩) vn vc,.slice (some ⟨gr,0,none⟩) M I] 222 (0,0))∧B.heap[go]? =some (.cells es.toArray 273 (0,0))∧B.cell? ⟨gr,c2,none⟩=some (.slice (some ⟨gu,0,none⟩) N cu)∧AA [] w1 B):=fun A B h hk=>⟨(hk.block g0 (AN.1 h.1).1 (by simp)).trans h.1,(hk.block g1 (AN.1 h.2.1).1 (by simp)).trans h.2.1,(hk.block go (AN.1 h.2.2.1).1 (by simp)).trans h.2.2.1,(Ad (hk.block gr (BV _ _ h.2.2.2.1) (by simp))).trans h.2.2.2.1,h.2.2.2.2.trans hk⟩
   refine Cj (S:=fun A=>A.heap[g0]? =some (.cells #[m0,m1,m2,m3,.string s,m5,m6] 80 (0,0))∧A.heap[g1]? =some (.cells #[.slice (some ⟨gp,0,none⟩) vn vc,.slice (some ⟨gr,0,none⟩) M I] 222 (0,0))∧A.heap[go]? =some (.cells es.toArray 273 (0,0))∧A.cell? ⟨gr,c2,none⟩=some (.slice (some ⟨gu,0,none⟩) N cu)∧AA [] w1 A) (by kernel_rfl) ?_;change wpAnyH _ _ _ _ _ _ _ _ (World.drew _);generalize w1.drew=X0 at*;refine Ak 0 _ (some 37) (.agg es.toArray) rfl (DN (by rfl) 273 _ rfl go 0 rfl es _ (fun X Z=>KS Z.2.2.1) FQ rfl C) f ?_;simp only[AM];refine AV 2 _ (some 39) (.pointer (some ⟨g1,1,none⟩)) rfl f ?_;simp only[AM];refine Ak 3 _ (some 40) (.slice (some ⟨gr,0,none⟩) M I) rfl (AH ⟨by rfl,fun X Z=>by(obtain⟨q0,q1⟩:=KU Z.2.1;go_simp)⟩) f ?_;simp only[AM];refine AV 4 _ (some 41) (.int .i64 d) rfl f ?_;simp only[AM];refine AV 5 _ (some 42) (.int .i64 c2) rfl f ?_;simp only[AM];refine AV 6 _ (some 43) (.pointer (some ⟨gr,c2,none⟩)) rfl f ?_;simp only[AM];refine Ak 7 _ (some 44) (.slice (some ⟨gu,0,none⟩) N cu) rfl (AH ⟨by rfl,fun X Z=>by(have hc:=Z.2.2.2.1;go_simp)⟩) f ?_;simp only[AM];refine AV 8 _ (some 45) (.int .i64 c) rfl f ?_;simp only[AM];refine AV 9 _ (some 46) (.int .i64 j) rfl f ?_;simp only[AM];refine A8 1 rfl fun K hK=>?_
   go_simp;refine(OZ s N y es S X0 (Y.keep (J.trans f.2.2.2.2) (by simp))).mono ?_;rintro e w2⟨gc,cc,rfl,am,aV⟩;have k:=aA _ _ f aV;refine hK.out _ _ k (fun _=>?_);clear hK K;refine A8 10 rfl fun K hK=>?_
   go_simp;refine(OI N (by have:=HN.o;omega) c j (by omega) (by have:=HN.o;omega) w2 am (hu.keep (J.trans k.2.2.2.2) (by simp))).mono ?_;rintro e w3⟨e1,rfl,hcut,hk3⟩;have D:=aA _ _ k hk3;refine hK.out _ _ D (fun _=>?_);clear hK K;refine AV 11 _ (some 12) (.int .i64 e1) rfl D ?_;simp only[AM];refine CE ?_;have HXD':Hid (Be ts.length x=.pcons y (Be (ts.length+1) x)):=by have:=HD.o;rw[<-this];exact bo
   have HC:Hid (BH (fun m=>Mt s y c m∧Mt s (Be (ts.length+1) x) m j) c j e1):=by
    have:=HD.o;have:=H.o;rw[show ts.length+1=c2 by omega];exact hcut
   obtain⟨aW,a6⟩:=HQ.o.mid HXD'.o HC.o;have bs:=HC.o.1;have bY:=HC.o.2.1;have an:=D.2.2.2.2;have aX:=D.1;have aY:=D.2.2.1;have aZ:=J.trans an;have a1:=IP y (by omega) w3 S es _ c e1 (Y.keep aZ (by simp)) hM bs (by omega) aW;have G2:=G.keeps (l.trans an);clear f k D aA hcut am aV hk3 aT aU ay al aj;go_wp2_with(first|(refine As rfl 80 _ rfl g0 rfl _ _ _ _ aX Ck rfl (Cq _ _ _ _ _ _ _) ?_)|(refine As rfl 273 _ rfl go rfl _ _ _ _ aY FQ rfl (LV es h8) ?_));refine a1.mono ?_;rintro e w4⟨t,bf,rfl,O,au,hk4⟩;obtain⟨Q,R,T,tn,U,rfl⟩:=O.form;have G3:=G2.keeps hk4;obtain⟨i0,bu,bv,bw,bx⟩:=A2 infoTree;have bz:=Tryz.underlying86;have bA:ts.length+1<=maxLen:=by unfold maxLen;have:=HD.o;have:=ag.o;omega
   have a2:(ts.length+1)*40<=140737488355328:=by have:=HD.o;have:=ag.o;omega
   have hH:(w4.alloc (.cells #[.int .u8 Q,.int .i64 R,.slice T tn U] 88)).heap.size=w4.heap.size+1:=by simp
   have ac:∀j u,[Value.int .u8 Q,.int .i64 R,.slice T tn U][j]? =some u->(w4.alloc (.cells #[.int .u8 Q,.int .i64 R,.slice T tn U] 88)).cell? ((⟨w4.heap.size,0,none⟩:Addr).add j)=some u:=Dq (cs:=#[.int .u8 Q,.int .i64 R,.slice T tn U]) (AS w4 _);have a3:AA [] w4 (w4.alloc (.cells #[.int .u8 Q,.int .i64 R,.slice T tn U] 88)):=(AG [] w4).alloc _;have ao:=(O.keep a3 (by simp)).lone;have a4:∀z,(Value.slice aa P ab).ownBlock=some z->z<w3.heap.size:=fun z F=>(A3 G2.own z F).2
   have bB:X.heap.size<=w3.heap.size:=G2.keep.size;clear a1 O aX aY;go_wp2_with(first|(at_builtin;refine CC _ rfl _ _ _ rfl 0 88 i0 _ 3 40 bz bu bv bw bx rfl (by decide) (.slice aa P ab) ts.length bk rfl (G3.own.alloc _) ⟨w4.heap.size,0,none⟩ 1 1 [.int .u8 Q,.int .i64 R,.slice T tn U] rfl rfl ac (by intro u hu;simp at hu;rcases hu with rfl|rfl|rfl<;>rfl) (by omega) bA a2 (AY _) (w4.heap.size+1) hH ?_));intro g' cap w6 ad ae a5 bI;have G6:=GL.add (w0:=w3) (ms:=[t]) G3 ao bB a4 a3 ad ae (by rw[hH];exact a5);have bC:Hid (WQ s x i j e1 (ts++[t])):=HQ.o.next HXD'.o HC.o au;clear ad ae a5 ac hH ao G3 G2 G;go_wp2_with fail;go_roundw
   case rel=>exact⟨e1,c2,_,_,rfl,rfl,(by show c2=(ts++[t]).length;have:=HD.o;have:=H.o;simp;omega),(by have:=ag.o;have:=H.o;omega),G6,bC⟩
   case measure=>have:=ag.o;have:=H.o;simp[intOf];omega
  ·have aB:d=vn:=by omega
   have bZ:¬(d:Int)<(vn:Int):=by omega
   have bD:c=j:=by
    have:=HQ.o.rest;rw[<-HD.o,aB,HL.o,(Jf hP).1]at this;exact this
   have bE:Hid (TT s (.node x) i j (.tser (B0 ts .lnil))):=by
    have h:=HQ.o.spec .lnil (by rw[<-HD.o,aB,HL.o,(Jf hP).1];exact .kend c j);show TT s (.node x) i j (.tser (B0 ts .lnil));rw[bj.o]at h⊢;exact .row xa xb xr i j _ h
   have E:AA [g2] wr (wr.setRow g2 #[.int .u8 115,.int .i64 0,.slice aa P ab]):=(AG [g2] _).setRow (g:=g2) (by simp) _;clear aB bD hlt hd;go_wp2_with(first|(refine Ae rfl 88 _ _ rfl g2 #[.int .u8 115,.int .i64 0,.slice aa P ab] rfl rfl _ _ aP (Bs _ _ _) rfl (Dj rfl rfl rfl) ?_));refine Ag (Au rfl _ _ g2 _ _ _ _ rfl (Aa _ _ _ _ _ _ aP) DO rfl (Bs _ _ _)) rfl ?_;refine⟨_,[.int .u8 115,.int .i64 0,.slice aa P ab],rfl,?_,bE.o,(V.trans G.keep).setRow (AE W) _⟩;refine .tser _ _ _ _ ((G.row.keep E (by intro z F;simp;omega)).mono fun z F _=>by omega) (G.own.keep E (by intro z F;have:=G.fresh z F;simp;omega)) fun z F=>by have:=G.fresh z F;omega
theorem UB:∀args w1,(callFunc 129 args).run Tryz.prog w1=.ok (.enter 129 args) w1:=fun args w1=>by
 kernel_rfl
theorem UC(s:ByteArray)(N:Nat)(G:Hid (N=s.size+1))(hs:s.size<=100)(y:AD)(a r:Value)(S:Nat->Prop)(n bt i j:Nat)(hi:i<=s.size)(hj:j<=s.size)(w:World)(hm:Mk w S s N .way y [a,r])(t:w.cell? ⟨n,0,none⟩=some (.int .i64 i))(v:w.cell? ⟨bt,0,none⟩=some (.int .i64 j)):Calls Tryz.prog 129 #[.agg #[a,r],.pointer (some ⟨n,0,none⟩),.pointer (some ⟨bt,0,none⟩)] w fun e w'=>∃b,e=.returned (.bool b)∧(b=true↔Mt s y i j)∧AA [] w w':=by
 obtain⟨_,Z,x⟩:=hm.way_form;obtain⟨gr,m,ur,rfl,I,aa,J,L⟩:=x.at (d:=0) (by omega);obtain⟨h,H,f,rfl,O,hf,_,z⟩:=OJ N (by have:=G.o;omega) w L i (by have:=G.o;omega);obtain⟨M,HM⟩:∃M,Hid (M=Z+1):=⟨_,rfl⟩;have B:=HM.o;rw[<-B]at hm⊢;have ab:(0:Int)<(M:Int):=by omega
 have ac:¬M=0:=by omega
 have ad:(0:Int)<=(i:Int):=by omega
 have ae:(i:Int)<(N:Int):=by have:=G.o;omega
 have C:(w.alloc (.cells #[a,.slice (some ⟨gr,0,none⟩) M m] 222)).heap[w.heap.size]? =some (.cells #[a,.slice (some ⟨gr,0,none⟩) M m] 222 (0,0)):=AS w _;have P:AA [] w (w.alloc (.cells #[a,.slice (some ⟨gr,0,none⟩) M m] 222)):=(AG [] w).alloc _;clear B x;go_enter Tryz.func129,Tryz.ntmps129;go_upto_region 1 with(fail)
 generalize w.alloc (.cells #[a,.slice (some ⟨gr,0,none⟩) M m] 222)=X at*;obtain⟨D,E⟩:=AQ w.heap.size;rw[<-E]at C⊢;clear E;have k:AA [] w X.drew:=P.drewN 1;have c:X.drew.heap[D]? =some (.cells #[a,.slice (some ⟨gr,0,none⟩) M m] 222 (0,0))∧X.drew.cell? ⟨gr,0,none⟩=some (.slice (some ⟨h,0,none⟩) N H)∧X.drew.cell? ⟨n,0,none⟩=some (.int .i64 i)∧X.drew.cell? ⟨bt,0,none⟩=some (.int .i64 j)∧X.drew.rangeAt h (i*2) [.int .u64 (wk f 0),.int .u64 (wk f 1)]:=⟨C,(Ad (k.block gr I (by simp))).trans J,(Ad (k.block n (BV _ _ t) (by simp))).trans t,(Ad (k.block bt (BV _ _ v) (by simp))).trans v,fun q u hu=>(Ad (k.block h z (by simp))).trans (O q u hu)⟩;refine Cj (S:=fun A=>A.heap[D]? =some (.cells #[a,.slice (some ⟨gr,0,none⟩) M m] 222 (0,0))∧A.cell? ⟨gr,0,none⟩=some (.slice (some ⟨h,0,none⟩) N H)∧A.cell? ⟨n,0,none⟩=some (.int .i64 i)∧A.cell? ⟨bt,0,none⟩=some (.int .i64 j)∧A.rangeAt h (i*2) [.int .u64 (wk f 0),.int .u64 (wk f 1)]) (by kernel_rfl) ?_;change wpAnyH _ _ _ _ _ _ _ _ (World.drew _);generalize X.drew=X0 at*;refine AV 0 _ (some 5) (.pointer (some ⟨D,1,none⟩)) rfl c ?_;simp only[AM];refine Ak 1 _ (some 6) (.slice (some ⟨gr,0,none⟩) M m) rfl (AH ⟨by rfl,fun X l=>by(obtain⟨Q,R⟩:=KU l.1;go_simp)⟩) c ?_;simp only[AM];refine AV 2 _ (some 7) (.pointer (some ⟨gr,0,none⟩)) rfl c ?_;simp only[AM];refine Ak 3 _ (some 8) (.slice (some ⟨h,0,none⟩) N H) rfl (AH ⟨by rfl,fun X l=>by(obtain⟨Q,R,U,V,W⟩:=l;go_simp)⟩) c ?_;simp only[AM];refine Ak 4 _ (some 9) (.int .i64 i) rfl (AH ⟨by rfl,fun X l=>by(obtain⟨Q,R,U,V,W⟩:=l;go_simp)⟩) c ?_;simp only[AM];refine AV 5 _ (some 10) (.pointer (some ⟨h,i*2,none⟩)) rfl c ?_;simp only[AM];refine Ak 6 _ (some 11) (.agg #[.int .u64 (wk f 0),.int .u64 (wk f 1)]) rfl (DN (by rfl) 141 _ rfl h (i*2) rfl [.int .u64 (wk f 0),.int .u64 (wk f 1)] _ (fun X l=>l.2.2.2.2) IQ rfl IT) c ?_;simp only[AM];refine Ak 7 _ (some 12) (.int .i64 j) rfl (AH ⟨by rfl,fun X l=>by(obtain⟨Q,R,U,V,W⟩:=l;go_simp)⟩) c ?_;simp only[AM];refine A8 8 rfl fun K Y=>?_
 go_simp;refine(GZ f j (by omega) X0).mono ?_;rintro e w1⟨rfl,g⟩;have p:w1.heap[D]? =some (.cells #[a,.slice (some ⟨gr,0,none⟩) M m] 222 (0,0))∧w1.cell? ⟨gr,0,none⟩=some (.slice (some ⟨h,0,none⟩) N H)∧w1.cell? ⟨n,0,none⟩=some (.int .i64 i)∧w1.cell? ⟨bt,0,none⟩=some (.int .i64 j)∧w1.rangeAt h (i*2) [.int .u64 (wk f 0),.int .u64 (wk f 1)]:=⟨(g.block D (AN.1 c.1).1 (by simp)).trans c.1,(Ad (g.block gr (BV _ _ c.2.1) (by simp))).trans c.2.1,(Ad (g.block n (BV _ _ c.2.2.1) (by simp))).trans c.2.2.1,(Ad (g.block bt (BV _ _ c.2.2.2.1) (by simp))).trans c.2.2.2.1,fun q u hu=>(Ad (g.block h (BV _ _ (c.2.2.2.2 q u hu)) (by simp))).trans (c.2.2.2.2 q u hu)⟩;refine Y.out _ _ p (fun _=>?_);clear Y K;refine AV 9 _ (some 4) (.bool (f j)) rfl p ?_;simp only[AM];refine CE ?_;have F:=hf j (by have:=G.o;omega);have T:=k.trans g;clear c p;go_wp2_with fail;go_ret;exact⟨f j,rfl,F,T⟩
theorem UD(s:ByteArray)(N:Nat)(T:Hid (N=s.size+1))(U:s.size<=100)(x:AD)(hx:x.sz<=1000)(cs:List Value)(va:Option Addr)(vn vc:Nat)(S:Nat->Prop)(v bt i j:Nat)(hi:i<=s.size)(V:j<=s.size)(w:World)(hm:Mk w S s N .wlist x cs)(c:w.ownsRow 0 222 2 (.slice va vn vc) vn cs)(n:w.cell? ⟨v,0,none⟩=some (.int .i64 i))(t:w.cell? ⟨bt,0,none⟩=some (.int .i64 j))(A:Mt s x i j):Calls Tryz.prog 128 #[.slice va vn vc,.func (.func 129) #[] #[.pointer (some ⟨v,0,none⟩),.pointer (some ⟨bt,0,none⟩)]] w fun e w'=>∃(p:Nat)(y:AD),e=.returned (.int .i64 p)∧(wl x)[p]? =some y∧Mt s y i j∧(∀(k:Nat)(z:AD),k<p->(wl x)[k]? =some z->¬Mt s z i j)∧AA [] w w':=by
 have W:=hm.isWP;have X:=UB;have B:Hid (vn=(wl x).length):=by
  have h1:=c.1;have h2:=hm.wl_at.1;show vn=(wl x).length;omega
 have Y:(vn:Int)<=1000:=by have:=B.o;have:=KQ x;omega
 go_enter Tryz.func128,Tryz.ntmps128;go_wp2_with fail;go_loopw [5,8] (fun _ q wr=>∃k:Nat,k<=vn∧q=.int .i64 k∧Hid (∀(d:Nat)(z:AD),d<k->(wl x)[d]? =some z->¬Mt s z i j)∧AA [] w wr) (fun _ q _=>vn-(intOf q).toNat)
 case atStart=>exact⟨0,AY _,rfl,fun d z h=>by omega,AG _ _⟩
 case round=>
  obtain⟨k,Z,rfl,C,g⟩:=hrel;by_cases hlt:k<vn
  ·obtain⟨y,D⟩:∃y,(wl x)[k]? =some y:=⟨_,Ax (by have:=B.o;omega)⟩;obtain⟨a,r,M,O,E,_⟩:=hm.wl_at.2 k y D;obtain⟨l,aa,hv,_,F⟩:=c.form (by omega);cases hv;have f:l<w.heap.size:=F;have P:wr.cell? ⟨l,k*2,none⟩=some a:=(Ad (g.block l f (by simp))).trans ((BX c (k*2) (by omega)).trans M);have c1:wr.cell? ⟨l,k*2+1,none⟩=some r:=(Ad (g.block l f (by simp))).trans ((BX c (k*2+1) (by omega)).trans O);have G:=KK P c1;have H:=UC s N T U y a r S v bt i j hi V wr (E.keep g (by simp)) ((Ad (g.block v (BV _ _ n) (by simp))).trans n) ((Ad (g.block bt (BV _ _ t) (by simp))).trans t);have ab:(0:Int)<=(k:Int):=by omega
   have ac:(k:Int)<(vn:Int):=by omega
   have Q:Hid (k<vn):=hlt;have R:Hid ((wl x)[k]? =some y):=D;have I:(Tryz.prog.info? 222).map (·.size)=some 2:=by kernel_rfl
   clear Z hlt D M O P c1;go_wp2_with(first|(refine ED rfl 222 _ rfl l (k*2) rfl _ _ G Tryz.underlying222 rfl I ?_));refine H.mono ?_;rintro e w2⟨b,rfl,hb,J⟩;have u:=g.trans J;cases b with
   |true=>
    have K:Hid (Mt s y i j):=hb.1 rfl;clear hb H;go_wp2_with fail;go_ret;exact⟨k,y,rfl,R.o,K.o,C.o,u⟩
   |false=>
    have K:Hid (¬Mt s y i j):=fun h=>by have:=hb.2 h;cases this
    have L:Hid (∀(d:Nat)(z:AD),d<k+1->(wl x)[d]? =some z->¬Mt s z i j):=fun d z hd m=>by
     by_cases e:d<k
     ·exact C.o d z e m
     ·have:d=k:=by omega
      subst this;have h:=R.o;rw[h]at m;cases m;exact K.o
    clear hb H;go_wp2_with fail;go_roundw
    case rel=>exact⟨k+1,Q.o,by go_num,L,u⟩
    case measure=>have:=Q.o;simp[intOf];omega
  ·exfalso;obtain⟨d,z,m,h⟩:=(Mt.waysW i j W).1 A;exact C.o d z (by have:=(BT.1 m).1;have:=B.o;omega) m h
