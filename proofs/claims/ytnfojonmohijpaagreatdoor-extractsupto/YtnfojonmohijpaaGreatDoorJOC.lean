/-
  DERIVED. The program's treeOfWays, over treeOfWay; the tree builders, by induction; Tree. Conditions: the stretch is one that matches.
-/
import Derived.Test.YtnfojonmohijpaaGreatDoorJOA
set_option linter.all false
set_option maxRecDepth 100000
set_option maxHeartbeats 8000000
namespace Go.Proofs.YtnfojonmohijpaaGreatDoor
open Go.RowKit
def Ie:=@List.getElem?_take_of_lt
def EG:=@List.length_take
def DQ:=@Nat.add_mul
theorem UE(w:World)(A B C D E:Obj):(((((w.alloc A).alloc B).alloc C).alloc D).alloc E).heap[w.heap.size]? =some A∧(((((w.alloc A).alloc B).alloc C).alloc D).alloc E).heap[w.heap.size+1]? =some B∧(((((w.alloc A).alloc B).alloc C).alloc D).alloc E).heap[w.heap.size+2]? =some C∧(((((w.alloc A).alloc B).alloc C).alloc D).alloc E).heap[w.heap.size+3]? =some D∧(((((w.alloc A).alloc B).alloc C).alloc D).alloc E).heap[w.heap.size+4]? =some E∧AA [] w (((((w.alloc A).alloc B).alloc C).alloc D).alloc E):=by
 have a:AA [] (((w.alloc A).alloc B).alloc C) (((((w.alloc A).alloc B).alloc C).alloc D).alloc E):=((AG [] _).alloc _).alloc _;have d:(((w.alloc A).alloc B).alloc C).heap.size=w.heap.size+3:=by simp
 have b:=C2 (((w.alloc A).alloc B).alloc C) D E;have c:=Df (((w.alloc A).alloc B).alloc C) D E;rw[d]at b c;exact⟨(a.block _ (by omega) (by simp)).trans (IZ w A B C),(a.block _ (by omega) (by simp)).trans (Ia w A B C),(a.block _ (by omega) (by simp)).trans (Ib w A B C),b,c,(Ic w A B C).trans a⟩
theorem UF{x:AD}(h:Hl x)(a:(wl x).length=1):∃y,x=.wone y:=by
 cases x with
 |wone y=>exact⟨y,rfl⟩
 |wcons y r=>
  cases r with
  |wone _=>simp[wl]at a
  |wcons _ _=>simp[wl]at a
  |_=>exact h.elim
 |_=>exact h.elim
theorem UG{x:AD}(h:Hl x)(a:(wl x).length≠1):∃y r,x=.wcons y r:=by
 cases x with
 |wone y=>exact absurd rfl a
 |wcons y r=>exact⟨y,r,rfl⟩
 |_=>exact h.elim
theorem UH(s:ByteArray)(N:Nat)(HN:Hid (N=s.size+1))(hs:s.size<=100)(n:Nat)(aX:n+1<=1000)(IW:Lg s N n):Lf s N (n+1):=by
 intro x hx w S ds m i j hm hM aE hj aF;have hW:=hm.isWP;obtain⟨m0,m1,m2,m3,m5,m6,rfl,o0,o1,o2,o3,o5,o6⟩:=hM.ok;cases hm with
 |ways _ cs v cc np af l aY aG=>
 obtain⟨va,vn,vc,rfl⟩:=A6 l;obtain rfl:=Gh l;have HL:Hid (vn=(wl x).length):=by
  have h1:=l.1;have h2:=af.wl_at.1;show vn=(wl x).length;omega
 have aZ:(vn:Int)<=1000:=by have:=HL.o;have:=KQ x;omega
 have a1:=aG.one.1;have a2:∀(fn:Fn)(first cap:Array Value)(w:World),(Instr.makeFunc fn first cap).run Tryz.prog w=.ok (.func fn first cap) w:=fun _ _ _ _=>rfl
 obtain⟨h0,h1,h2,h3,h4,Y⟩:=UE w (.cells #[m0,m1,m2,m3,.string s,m5,m6] 80) (.cells #[.slice va vn vc,cc] 78) (.cells #[.int .i64 (i:Int)] 3) (.cells #[.int .i64 (j:Int)] 3) (.cells #[.int .u8 0,.int .i64 0,.slice none 0 0] 88);go_enter Tryz.func76,Tryz.ntmps76;go_upto_region 1 with(fail)
 generalize((((w.alloc (.cells #[m0,m1,m2,m3,.string s,m5,m6] 80)).alloc (.cells #[.slice va vn vc,cc] 78)).alloc (.cells #[.int .i64 (i:Int)] 3)).alloc (.cells #[.int .i64 (j:Int)] 3)).alloc (.cells #[.int .u8 0,.int .i64 0,.slice none 0 0] 88)=X at*;obtain⟨g0,e0⟩:=AQ w.heap.size;obtain⟨g1,e1⟩:=AQ (w.heap.size+1);obtain⟨g2,e2⟩:=AQ (w.heap.size+2);obtain⟨g3,e3⟩:=AQ (w.heap.size+3);obtain⟨g4,e4⟩:=AQ (w.heap.size+4);rw[<-e4]at h4⊢;rw[<-e3]at h3⊢;rw[<-e2]at h2⊢;rw[<-e1]at h1⊢;rw[<-e0]at h0⊢;have ac:w.heap.size<=g4:=by omega
 have am:g4<X.heap.size:=(AN.1 h4).1;have an:g1<X.heap.size:=(AN.1 h1).1;have ao:g0<X.heap.size:=(AN.1 h0).1;have ap:g2<X.heap.size:=(AN.1 h2).1;have aq:g3<X.heap.size:=(AN.1 h3).1;have a3:=Y.size;clear e0 e1 e2 e3 e4;have a0:X.cell? ⟨g1,0,none⟩=some (.slice va vn vc):=by rw[AU h1];rfl
 have c2:X.cell? ⟨g2,0,none⟩=some (.int .i64 (i:Int)):=by rw[AU h2];rfl
 have c3:X.cell? ⟨g3,0,none⟩=some (.int .i64 (j:Int)):=by rw[AU h3];rfl
 have ar:=UD s N HN hs x (by omega) cs va vn vc S g2 g3 i j (by omega) hj X (af.keep Y (by simp)) (l.keep Y (by simp)) c2 c3 aF;go_upto_region 2 with(first|(go_at_call 128;refine ar.mono ?_;rintro e w1⟨p,y,rfl,hy,au,aH,H⟩))
 have a4:p<vn:=by have:=HL.o;have:=(BT.1 hy).1;omega
 obtain⟨a,r,ha,hr,ad,aT⟩:=af.wl_at.2 p y hy;obtain⟨E,a5,hv,_,aI⟩:=l.form (by omega);cases hv;have ae:E<w.heap.size:=aI;have L:=Y.trans H;have aw:w1.rangeAt E (p*2) [a,r]:=KK ((Ad (L.block E ae (by simp))).trans ((BX l (p*2) (by omega)).trans ha)) ((Ad (L.block E ae (by simp))).trans ((BX l (p*2+1) (by omega)).trans hr));have aJ:(Tryz.prog.info? 222).map (·.size)=some 2:=by kernel_rfl
 have a6:(0:Int)<=(p:Int):=by omega
 have a7:(p:Int)<(vn:Int):=by omega
 have ag:w1.heap[g1]? =some (.cells #[.slice (some ⟨E,0,none⟩) vn vc,cc] 78 (0,0)):=(H.block g1 an (by simp)).trans h1;have aK:=(H.block g4 am (by simp)).trans h4;have a8:=H.size;have b:w1.drew.heap[g0]? =some (.cells #[m0,m1,m2,m3,.string s,m5,m6] 80 (0,0))∧w1.drew.heap[g1]? =some (.cells #[.slice (some ⟨E,0,none⟩) vn vc,cc] 78 (0,0))∧w1.drew.cell? ⟨g2,0,none⟩=some (.int .i64 (i:Int))∧w1.drew.cell? ⟨g3,0,none⟩=some (.int .i64 (j:Int))∧w1.drew.rangeAt E (p*2) [a,r]∧AA [] w1 w1.drew:=⟨(H.block g0 ao (by simp)).trans h0,ag,(Ad (H.block g2 ap (by simp))).trans c2,(Ad (H.block g3 aq (by simp))).trans c3,aw,(AG [] w1).drewN 1⟩;have O:AA [] w1 w1.drew:=(AG [] w1).drewN 1;have I:∀A B:World,(A.heap[g0]? =some (.cells #[m0,m1,m2,m3,.string s,m5,m6] 80 (0,0))∧A.heap[g1]? =some (.cells #[.slice (some ⟨E,0,none⟩) vn vc,cc] 78 (0,0))∧A.cell? ⟨g2,0,none⟩=some (.int .i64 (i:Int))∧A.cell? ⟨g3,0,none⟩=some (.int .i64 (j:Int))∧A.rangeAt E (p*2) [a,r]∧AA [] w1 A)->AA [] A B->(B.heap[g0]? =some (.cells #[m0,m1,m2,m3,.string s,m5,m6] 80 (0,0))∧B.heap[g1]? =some (.cells #[.slice (some ⟨E,0,none⟩) vn vc,cc] 78 (0,0))∧B.cell? ⟨g2,0,none⟩=some (.int .i64 (i:Int))∧B.cell? ⟨g3,0,none⟩=some (.int .i64 (j:Int))∧B.rangeAt E (p*2) [a,r]∧AA [] w1 B):=fun A B h hk=>⟨(hk.block g0 (AN.1 h.1).1 (by simp)).trans h.1,(hk.block g1 (AN.1 h.2.1).1 (by simp)).trans h.2.1,(Ad (hk.block g2 (BV _ _ h.2.2.1) (by simp))).trans h.2.2.1,(Ad (hk.block g3 (BV _ _ h.2.2.2.1) (by simp))).trans h.2.2.2.1,fun q u hu=>(Ad (hk.block E (BV _ _ (h.2.2.2.2.1 q u hu)) (by simp))).trans (h.2.2.2.2.1 q u hu),h.2.2.2.2.2.trans hk⟩
 have IC:∀A:World,AA [] w1 A->Calls Tryz.prog 130 #[.agg #[m0,m1,m2,m3,.string s,m5,m6],.agg #[a,r],.int .i64 (i:Int),.int .i64 (j:Int)] A (Hm A s y i j):=fun A hk=>IW y (by omega) A S [a,r] _ i j (ad.keep (L.trans hk) (by simp)) hM aE hj au
 have ah:g1<w1.heap.size:=by omega
 clear ar a0 c2 c3 ha hr ad;go_cut [10]from 15 to 23 (fun aL wx=>∃gt t c d f tn k,aL=.pointer (some ⟨gt,0,none⟩)∧wx.heap[gt]? =some (.cells #[.int .u8 (c:Nat),.int .i64 (d:Nat),.slice f tn k] 88 (0,0))∧TV wx (fun z=>w1.heap.size<=z∧z≠gt) true t [.int .u8 (c:Nat),.int .i64 (d:Nat),.slice f tn k]∧TT s (.node y) i j t∧w1.heap.size<=gt∧AA [] w1 wx)
 case first=>
  refine Cj (S:=fun A=>A.heap[g0]? =some (.cells #[m0,m1,m2,m3,.string s,m5,m6] 80 (0,0))∧A.heap[g1]? =some (.cells #[.slice (some ⟨E,0,none⟩) vn vc,cc] 78 (0,0))∧A.cell? ⟨g2,0,none⟩=some (.int .i64 (i:Int))∧A.cell? ⟨g3,0,none⟩=some (.int .i64 (j:Int))∧A.rangeAt E (p*2) [a,r]∧AA [] w1 A) (by kernel_rfl) ?_;change wpAnyH _ _ _ _ _ _ _ _ (World.drew _);generalize w1.drew=P at*;refine Ak 0 _ (some 15) (.agg #[m0,m1,m2,m3,.string s,m5,m6]) rfl (DN (by rfl) 80 _ rfl g0 0 rfl [m0,m1,m2,m3,.string s,m5,m6] _ (fun X Z=>KS Z.1) Ck rfl (Cq _ _ _ _ _ _ _)) b ?_;simp only[AM];refine AV 1 _ (some 16) (.pointer (some ⟨g1,0,none⟩)) rfl b ?_;simp only[AM];refine Ak 2 _ (some 17) (.slice (some ⟨E,0,none⟩) vn vc) rfl (AH ⟨by rfl,fun X Z=>by(obtain⟨q0,q1,_,_⟩:=Je Z.2.1;go_simp)⟩) b ?_;simp only[AM];refine AV 3 _ (some 18) (.int .i64 p) rfl b ?_;simp only[AM];refine AV 4 _ (some 19) (.pointer (some ⟨E,p*2,none⟩)) rfl b ?_;simp only[AM];refine Ak 5 _ (some 20) (.agg #[a,r]) rfl (DN (by rfl) 222 _ rfl E (p*2) rfl [a,r] _ (fun X Z=>Z.2.2.2.2.1) Tryz.underlying222 rfl aJ) b ?_;simp only[AM];refine Ak 6 _ (some 21) (.int .i64 i) rfl (AH ⟨by rfl,fun X Z=>by(obtain⟨_,_,q2,q3,_⟩:=Z;go_simp)⟩) b ?_;simp only[AM];refine Ak 7 _ (some 22) (.int .i64 j) rfl (AH ⟨by rfl,fun X Z=>by(obtain⟨_,_,q2,q3,_⟩:=Z;go_simp)⟩) b ?_;simp only[AM];refine Jb [8,9] ?_;refine DE rfl (fun K J=>?_) (DE rfl (fun K J=>?_) Ev)
  ·go_simp;refine(IC P b.2.2.2.2.2).mono ?_;rintro e w2⟨t,aM,rfl,F,M,Q⟩;obtain⟨c,d,f,tn,k,rfl⟩:=F.form;have G:=I _ _ b Q;refine J.out _ _ G (fun _=>?_);clear J K;refine A8 9 rfl fun K J=>?_
   rw[AL (by rfl)];go_simp;have R:(w2.alloc (.cells #[.int .u8 0,.int .i64 0,.slice none 0 0] 88)).heap[w2.heap.size]? =some (.cells #[.int .u8 0,.int .i64 0,.slice none 0 0] 88 (0,0)):=AS w2 _;have hk3:AA [] w2 (w2.alloc (.cells #[.int .u8 0,.int .i64 0,.slice none 0 0] 88)):=(AG [] w2).alloc _;have hk4:AA [] w2 ((w2.alloc (.cells #[.int .u8 0,.int .i64 0,.slice none 0 0] 88)).setRow w2.heap.size #[.int .u8 c,.int .i64 d,.slice f tn k]):=hk3.setRow (AE (AP _)) _;have C:((w2.alloc (.cells #[.int .u8 0,.int .i64 0,.slice none 0 0] 88)).setRow w2.heap.size #[.int .u8 c,.int .i64 d,.slice f tn k]).heap[w2.heap.size]? =some (.cells #[.int .u8 c,.int .i64 d,.slice f tn k] 88 (0,0)):=Aa _ _ _ _ _ _ R;refine J.out _ _ (I _ _ G hk3) (fun _=>?_);clear J K;refine A8 10 rfl fun K J=>?_
   rw[AL (by rfl)];refine Ee 88 _ _ rfl w2.heap.size #[.int .u8 c,.int .i64 d,.slice f tn k] rfl rfl _ _ R (Bs _ _ _) rfl (Dj rfl rfl rfl) (J.out _ _ (I _ _ G hk4) (fun _=>?_));refine CE ?_;have aN:=b.2.2.2.2.2.size;have a9:=Q.size;have T:=(F.mono (S':=fun z=>w1.heap.size<=z∧z≠w2.heap.size) fun z U aa=>by omega).keep hk4 (by simp);have D:=(I _ _ G hk4).2.2.2.2.2;go_wp2_with fail;go_meet
   case rel=>exact⟨w2.heap.size,t,c,d,f,tn,k,rfl,C,T,M,by omega,D⟩
  ·rw[AL (by rfl)];go_simp;have R:(P.alloc (.cells #[.int .u8 0,.int .i64 0,.slice none 0 0] 88)).heap[P.heap.size]? =some (.cells #[.int .u8 0,.int .i64 0,.slice none 0 0] 88 (0,0)):=AS P _;have hk3:AA [] P (P.alloc (.cells #[.int .u8 0,.int .i64 0,.slice none 0 0] 88)):=(AG [] P).alloc _;have aU:P.heap.size<(P.alloc (.cells #[.int .u8 0,.int .i64 0,.slice none 0 0] 88)).heap.size:=by simp
   have G:=I _ _ b hk3;refine J.out _ _ G (fun _=>?_);clear J K;have aN:=b.2.2.2.2.2.size;generalize P.alloc (.cells #[.int .u8 0,.int .i64 0,.slice none 0 0] 88)=X1 at*;obtain⟨gt,ax⟩:=AQ P.heap.size;rw[<-ax]at R⊢;have V:w1.heap.size<=gt:=by omega
   have ay:gt<X1.heap.size:=by omega
   clear ax;refine A8 8 rfl fun K J=>?_
   go_simp;refine(IC X1 G.2.2.2.2.2).mono ?_;rintro e w2⟨t,aM,rfl,F,M,Q⟩;obtain⟨c,d,f,tn,k,rfl⟩:=F.form;have az:=I _ _ G Q;have aa:=(Q.block gt ay (by simp)).trans R;refine J.out _ _ az (fun _=>?_);clear J K;refine A8 10 rfl fun K J=>?_
   rw[AL (by rfl)];have hk4:AA [gt] w2 (w2.setRow gt #[.int .u8 c,.int .i64 d,.slice f tn k]):=(AG [gt] w2).setRow (g:=gt) (by simp) _;have C:(w2.setRow gt #[.int .u8 c,.int .i64 d,.slice f tn k]).heap[gt]? =some (.cells #[.int .u8 c,.int .i64 d,.slice f tn k] 88 (0,0)):=Aa _ _ _ _ _ _ aa;have D:AA [] w1 (w2.setRow gt #[.int .u8 c,.int .i64 d,.slice f tn k]):=az.2.2.2.2.2.setRow (AE V) _;have aO:=I _ _ ⟨(O.block g0 (by omega) (by simp)).symm.trans b.1,ag,(Ad (O.block g2 (by omega) (by simp))).symm.trans b.2.2.1,(Ad (O.block g3 (by omega) (by simp))).symm.trans b.2.2.2.1,aw,AG [] w1⟩ D;refine Ee 88 _ _ rfl gt #[.int .u8 c,.int .i64 d,.slice f tn k] rfl rfl _ _ aa (Bs _ _ _) rfl (Dj rfl rfl rfl) (J.out _ _ aO (fun _=>?_));refine CE ?_;have T:=(F.mono (S':=fun z=>w1.heap.size<=z∧z≠gt) fun z U aa=>by omega).keep hk4 (by intro z U;simp;exact U.2);go_wp2_with fail;go_meet
   case rel=>exact⟨gt,t,c,d,f,tn,k,rfl,C,T,M,V,D⟩
 case rest=>
  obtain⟨gt,t,c,d,f,tn,k,rfl,C,F,M,V,D⟩:=hcut;obtain⟨w3,aP⟩:∃w3:World,w3=wc:=⟨_,rfl⟩;subst aP;have ai:=(D.block g4 (by omega) (by simp)).trans aK;have aQ:=(D.block g1 ah (by simp)).trans ag;have b0:w3.cell? ⟨g1,0,none⟩=some (.slice (some ⟨E,0,none⟩) vn vc):=by rw[AU aQ];rfl
  have aA:=L.trans D;have aV:=D.size;have aW:gt<w3.heap.size:=(AN.1 C).1;by_cases W:vn=1
  ·have aR:((vn:Int)==1)=true:=by simp[W]
   have aj:Hid (TT s (.node x) i j t):=by
    obtain⟨z,rfl⟩:=UF hW (by have:=HL.o;omega);have aB:p=0:=by omega
    subst aB;simp[wl]at hy;subst hy;exact .wone _ i j t M
   have ab:AA [g4] w3 (w3.setRow g4 #[.int .u8 (c:Nat),.int .i64 (d:Nat),.slice f tn k]):=(AG [g4] _).setRow (g:=g4) (by simp) _;clear W;go_wp2_with(first|(refine As rfl 88 _ rfl gt rfl _ _ _ _ C DO rfl (Bs _ _ _) ?_)|(refine Ae rfl 88 _ _ rfl g4 #[.int .u8 (c:Nat),.int .i64 (d:Nat),.slice f tn k] rfl rfl _ _ ai (Bs _ _ _) rfl (Dj rfl rfl rfl) ?_));refine Ag (Au rfl _ _ g4 _ _ _ _ rfl (Aa _ _ _ _ _ _ ai) DO rfl (Bs _ _ _)) rfl ?_;exact⟨t,[.int .u8 (c:Nat),.int .i64 (d:Nat),.slice f tn k],rfl,(F.keep ab (by intro z U;simp;omega)).mono fun z U _=>by omega,aj.o,aA.setRow (AE ac) _⟩
  ·have aR:((vn:Int)==1)=false:=by simp;omega
   have aj:Hid (TT s (.node x) i j (.talt p t)):=by
    have h:=TT.alts (q:=0) hW hy au aH M;rw[Ba]at h;show TT s (.node x) i j (.talt p t);obtain⟨z,q,rfl⟩:=UG hW (by have:=HL.o;omega);exact .wcons z q i j _ h
   have ak:AA [] w3 (w3.alloc (.cells #[.int .u8 (c:Nat),.int .i64 (d:Nat),.slice f tn k] 88)):=(AG [] w3).alloc _;have al:(w3.alloc (.cells #[.int .u8 (c:Nat),.int .i64 (d:Nat),.slice f tn k] 88)).ownsRow 0 88 3 (.slice (some ⟨w3.heap.size,0,none⟩) 1 1) 1 [.int .u8 (c:Nat),.int .i64 (d:Nat),.slice f tn k]:=Ll rfl;have aC:=(ak.block g4 (by omega) (by simp)).trans ai;have aD:=F.keep ak (by simp);have aS:=aA.trans ak;have ab:AA [g4] (w3.alloc (.cells #[.int .u8 (c:Nat),.int .i64 (d:Nat),.slice f tn k] 88)) ((w3.alloc (.cells #[.int .u8 (c:Nat),.int .i64 (d:Nat),.slice f tn k] 88)).setRow g4 #[.int .u8 97,.int .i64 p,.slice (some ⟨w3.heap.size,0,none⟩) 1 1]):=(AG [g4] _).setRow (g:=g4) (by simp) _;clear W;go_wp2_with(first|(refine As rfl 88 _ rfl gt rfl _ _ _ _ C DO rfl (Bs _ _ _) ?_)|(refine Ae rfl 88 _ _ rfl g4 #[.int .u8 97,.int .i64 p,.slice (some ⟨w3.heap.size,0,none⟩) 1 1] rfl rfl _ _ aC (Bs _ _ _) rfl (Dj rfl rfl rfl) ?_));refine Ag (Au rfl _ _ g4 _ _ _ _ rfl (Aa _ _ _ _ _ _ aC) DO rfl (Bs _ _ _)) rfl ?_;refine⟨.talt p t,[.int .u8 97,.int .i64 p,.slice (some ⟨w3.heap.size,0,none⟩) 1 1],rfl,?_,aj.o,aS.setRow (AE ac) _⟩;refine .talt p t _ _ ((aD.keep ab (by intro z U;simp;omega)).mono fun z U _=>by omega) (al.keep ab (by intro z U;simp only[Value.ownBlock,Ai]at U;simp;omega)) ?_;intro z U;simp only[Value.ownBlock,Ai]at U;omega
theorem UI(k:Nat)(a:k<=1000)(w:World):Calls Tryz.prog 245 #[.int .u64 1,.int .u64 k] w fun e w'=>e=.returned (.tuple #[.int .u64 0,.int .u64 k])∧w'=w:=by
 have b:bits .and .u64 (k:Int) 4294967295=(k:Int):=by
  have:=u64_and_nat k 4294967295 (by omega) (by decide);rw[show((4294967295:Nat):Int)=4294967295 from rfl]at this;rw[this,show(4294967295:Nat)=2^32-1 from rfl,Nat.and_two_pow_sub_one_eq_mod];have:k%2^32=k:=Nat.mod_eq_of_lt (by omega);rw[this]
 have c:(k:Int)/4294967296=0:=by omega
 have d:bits .and .u64 1 4294967295=1:=by decide
 have f:bits .and .u64 0 4294967295=0:=by decide
 have g:(0:Int)<=(k:Int):=by omega
 have h:(k:Int)<=1000:=by omega
 go_enter Tryz.func245,Tryz.ntmps245;go_wp2_with fail;go_ret2;exact⟨rfl,rfl⟩
theorem Ou(k:Nat)(a:k<=1000)(w:World):Calls Tryz.prog 202 #[.int .u64 1,.int .u64 k] w fun e w'=>e=.returned (.tuple #[.int .u64 0,.int .u64 k])∧w'=w:=by
 go_enter Tryz.func202,Tryz.ntmps202;go_wp2_with(first|(go_at_call 245;refine(UI k a _).mono ?_;rintro e w1⟨rfl,rfl⟩));go_ret2;exact⟨rfl,rfl⟩
theorem Lo{P:Program}(w:World)(p s ty elem:TypeId)(size b o c e:Nat)(a:Addr)(d f n:Nat)(cs:List Value)(hu:P.underlying p=some (.slice elem))(q:(P.info? elem).map (·.size)=some size)(t:Nat.min d c=n)(u:cs.length=n*size)(g:∀j v,cs[j]? =some v->w.cell? (a.add j)=some v)(r:w.there b o cs.length)(x:∀v∈cs,v.oneCell'=true):(Builtin.copy_ #[p,s] ty #[.slice (some ⟨b,o,none⟩) c e,.slice (some a) d f]).run P w=.ok (goInt n) (w.setCells b o cs):=by
 have h:=run_loadCells_list (P:=P) w a cs g;have k:=run_storeCells_cells (P:=P) b o cs 0 w (by simpa using fun j l=>(r j l).1) (by simpa using fun j l=>(r j l).2) x;rw[u]at h;cases m:P.info? elem with
 |none=>simp[m]at q
 |some i=>
  have hi:i.size=size:=by simpa[m]using q
  simp[Builtin.copy_,run_underlying hu,Builtin.lenOf,Builtin.firstCells,sizeOf,typeInfo,m,hi,t,h,k]
theorem Lp{P:Program}{o:Oper}{a:Act}{w:World}{K:Act->World->Prop}{Q:Exit->Act->World->Prop}(d:Option Tmp)(hd:o.dst=d)(x y:Operand)(k m:TypeId)(p:o.op=.call {callee:=.builtin .copy,args:=#[x,y],argTypes:=#[k,m]})(elem:TypeId)(size b off c f:Nat)(l:Addr)(e g n:Nat)(cs:List Value)(q:a.eval x=.slice (some ⟨b,off,none⟩) c f)(r:a.eval y=.slice (some l) e g)(hu:P.underlying k=some (.slice elem))(s:(P.info? elem).map (·.size)=some size)(t:Nat.min e c=n)(u:cs.length=n*size)(i:∀j v,cs[j]? =some v->w.cell? (l.add j)=some v)(z:w.there b off cs.length)(A:∀v∈cs,v.oneCell'=true)(h:K (a.put d (goInt n)) (w.setCells b off cs)):o.wp P a w K Q:=by
 subst hd;have B:=Lo (P:=P) w k m o.type elem size b off c f l e g n cs hu s t u i z A;unfold Oper.wp execOp;simp only[p,resolve,invoke,builtin,Sem.run_bind,Sem.run_pure,Result.andThen_ok,List.map_toArray,D6,List.map_nil,q,r,B];exact h
theorem Ov{P:Program}{ops:Array Oper}{rest:List Oper}{o:Oper}{a:Act}{w:World}{Q:Exit->Act->World->Prop}(k:o.guard=none)(d:Option Tmp)(hd:o.dst=d)(x y:Operand)(l p:TypeId)(q:o.op=.call {callee:=.builtin .copy,args:=#[x,y],argTypes:=#[l,p]})(elem:TypeId)(size b off c f:Nat)(m:Addr)(e g n:Nat)(cs:List Value)(r:a.eval x=.slice (some ⟨b,off,none⟩) c f)(s:a.eval y=.slice (some m) e g)(hu:P.underlying l=some (.slice elem))(t:(P.info? elem).map (·.size)=some size)(u:Nat.min e c=n)(z:cs.length=n*size)(i:∀j v,cs[j]? =some v->w.cell? (m.add j)=some v)(A:w.there b off cs.length)(B:∀v∈cs,v.oneCell'=true)(h:wpList P ops Q rest (a.put d (goInt n)) (w.setCells b off cs)):wpList P ops Q (o::rest) a w:=
 wpList_plain k fun _ C=>Lp d hd x y l p q elem size b off c f m e g n cs r s hu t u z i A B (C _ _ h)
theorem UJ:∀(vs xs:List Value)(p q:Nat),q<p->(over xs p vs)[q]? =xs[q]? :=by
 intro vs
 induction vs with
 |nil=>intro xs p q _;rfl
 |cons u vs ih=>intro xs p q a;simp only[over];rw[ih _ _ _ (by omega),List.getElem?_set_ne (by omega)]
theorem KW{vs xs:List Value}{o:Nat}(h:o+vs.length<=xs.length):(over xs o vs).take (o+vs.length)=xs.take o++vs:=by
 rw[List.take_add,LY vs xs o h,List.take_left];congr 1;apply Hd;intro q;by_cases a:q<o
 ·rw[Ie a,Ie a,UJ _ _ _ _ a]
 ·rw[List.getElem?_eq_none (by rw[EG];omega),List.getElem?_eq_none (by rw[EG];omega)]
theorem Lq(cs:List Value)(n:Nat):(List.replicate n cs).flatten.length=n*cs.length:=by
 induction n with
 |zero=>simp
 |succ n ih=>simp[IV,DQ,Nat.add_comm]
theorem Lr(cs:List Value)(n m:Nat):(List.replicate (n+m) cs).flatten=(List.replicate n cs).flatten++(List.replicate m cs).flatten:=by
 rw[<-List.flatten_append,List.replicate_append_replicate]
theorem Ow(cs:List Value){n m:Nat}(h:m<=n):(List.replicate n cs).flatten.take (m*cs.length)=(List.replicate m cs).flatten:=by
 rw[show n=m+(n-m) by omega,Lr,<-Lq cs m,List.take_left]
theorem UK:(Tryz.prog.info? 3).map (fun i=>(i.zero,i.size,i.bytes))=some (some (.int .i64 0),1,8):=by kernel_rfl
theorem UL(cs:List Value)(k g c:Nat)(w:World)(j:cs.length=1)(I:∀u∈cs,u.oneCell'=true)(U:1<=k)(aj:k<=100)(V:w.ownsRow 0 3 1 (.slice (some ⟨g,0,none⟩) 1 c) 1 cs):Calls Tryz.prog 163 #[.slice (some ⟨g,0,none⟩) 1 c,.int .i64 k] w fun e w'=>∃g',e=.returned (.slice (some ⟨g',0,none⟩) k k)∧w'.ownsRow 0 3 1 (.slice (some ⟨g',0,none⟩) k k) k (List.replicate k cs).flatten∧w.heap.size<=g'∧AA [] w w':=by
 obtain⟨i0,J,X,L,Y⟩:=A2 UK;have D:=Fp;have M:(Tryz.prog.info? 3).map (·.size)=some 1:=by rw[J];simp[L]
 have ak:(0:Int)<=(k:Int):=by omega
 have al:(k:Int)<=100:=by omega
 have am:¬(k:Int)<0:=by omega
 have an:decide ((9223372036854775807:Int)<(k:Int))=false:=by simp;omega
 have ao:g<w.heap.size:=(A3 V g rfl).2;have ap:IntKind.u64.wrap (k:Int)=(k:Int):=by
  have:IntKind.u64.wrap (k:Int)=(k:Int)%18446744073709551616:=by simp[IntKind.wrap,IntKind.bits,IntKind.signed]
  rw[this];omega
 go_enter Tryz.func163,Tryz.ntmps163;go_wp2_with(first|(go_at_call 202;refine(Ou k (by omega) _).mono ?_;rintro e w1⟨rfl,N⟩;rw[N];clear N w1)|(refine D9 w rfl _ _ 32 rfl 0 3 i0 (.int .i64 0) 1 D J X L .i64 .i64 (k:Int) (k:Int) k rfl rfl rfl rfl (by rw[Y];omega) (by unfold maxLen;omega) (AY _) ?_));intro w1 b O;have r:AA [] w w1:=Ci O;obtain⟨a,P⟩:=AQ w.heap.size;rw[<-P]at b⊢;have Q:w.heap.size<=a:=by omega
 have aq:a≠g:=by omega
 clear P O;generalize(madeCells _ _).toList=zs at b;have ar:zs.length=k*1:=b.1;have R:=V.keep r (by simp);have T:∀(W:World)(xs:List Value)(o l:Nat),W.ownsRow 0 3 1 (.slice (some ⟨a,0,none⟩) k k) k xs->o+l<=k*1->W.there a o l:=by
  intro W xs o l Z au q hq;have hl:=Z.1;exact⟨by rw[BX Z (o+q) (by omega),Ax (by omega)];rfl,D8 Z _⟩
 have d:∀q v,cs[q]? =some v->w1.cell? ((⟨g,0,none⟩:Addr).add q)=some v:=Fo R rfl;have E:Nat.min 1 k=1:=by simp[Nat.min_def];omega
 have f:=Gd cs w1 zs 0 b;have s:(over zs 0 cs).take (1*1)=(List.replicate 1 cs).flatten:=by
  have:=KW (vs:=cs) (xs:=zs) (o:=0) (by omega);rw[j,Ba]at this;simpa using this
 have t:AA [] w (w1.setCells a 0 cs):=F4 (by simp;omega) cs w1 0 r;have aa:cs.length=1*1:=by omega
 have x:=T w1 zs 0 cs.length b (by rw[j];omega);clear V R;go_wp2_with(first|(refine Ov rfl (some 33) rfl (.tmp 31) (.tmp 32) 32 32 rfl 3 1 a 0 k k ⟨g,0,none⟩ 1 c 1 cs rfl rfl D M E aa d x I ?_;generalize w1.setCells a 0 cs=w2 at*));go_loopw [8] (fun q wr=>∃(n:Nat)(xs:List Value),1<=n∧n<=k∧q=.int .i64 n∧wr.ownsRow 0 3 1 (.slice (some ⟨a,0,none⟩) k k) k xs∧xs.take (n*1)=(List.replicate n cs).flatten∧AA [] w wr) (fun q _=>k-(intOf q).toNat)
 case atStart=>exact⟨1,_,AP _,U,rfl,f,s,t⟩
 case round=>
  clear f s t b d x;obtain⟨n,xs,ab,y,rfl,z,F,G⟩:=hrel;have aw:xs.length=k*1:=z.1;by_cases hlt:n<k
  ·have ax:(0:Int)<=(n:Int):=by omega
   have ay:(n:Int)<(k:Int):=by omega
   have az:(n:Int)<=(k:Int):=by omega
   have aA:¬k=n:=by omega
   obtain⟨m,hm⟩:=AQ (Nat.min n (k-n));have ac:1<=m∧m<=n∧n+m<=k:=by rw[hm];simp only[Nat.min_def];split<;>omega
   obtain⟨p,A⟩:=AQ (n+m);have aB:IntKind.i64.wrap ((n:Int)+(m:Int))=(p:Int):=by rw[wrap_small (by omega) (by omega)];omega
   have h:(List.replicate m cs).flatten.length=m*1:=by rw[Lq,j]
   have B:∀q v,(List.replicate m cs).flatten[q]? =some v->wr.cell? ((⟨a,0,none⟩:Addr).add q)=some v:=by
    intro q v hv;have hq:q<m*1:=by rw[<-h];exact(BT.1 hv).1
    have e1:(⟨a,0,none⟩:Addr).add q=⟨a,q,none⟩:=by rw[LO,Ba]
    rw[e1,BX z q (by omega)];have h2:xs[q]? =(xs.take (n*1))[q]? :=by rw[Ie (by omega)]
    rw[h2,F];rw[<-Ow cs ac.2.1,j,Ie hq]at hv;exact hv
   have ad:∀u∈(List.replicate m cs).flatten,u.oneCell'=true:=by
    intro u hu;rw[List.mem_flatten]at hu;obtain⟨l,hl,hu⟩:=hu;rw[List.eq_of_mem_replicate hl]at hu;exact I u hu
   have C:=T wr xs (n*1) (List.replicate m cs).flatten.length z (by rw[h];omega);have ae:=Gd (List.replicate m cs).flatten wr xs (n*1) z;have af:(over xs (n*1) (List.replicate m cs).flatten).take (p*1)=(List.replicate p cs).flatten:=by
    have:=KW (vs:=(List.replicate m cs).flatten) (xs:=xs) (o:=n*1) (by rw[h];omega);rw[h,F]at this;rw[A,Lr,<-this];congr 1;omega
   have ag:AA [] w (wr.setCells a (n*1) (List.replicate m cs).flatten):=F4 (by simp;omega) _ wr _ G;have HN:Hid (1<=p∧p<=k∧n<p):=⟨by omega,by omega,by omega⟩;have ah:Nat.min n (k-n)=m:=hm.symm;generalize(List.replicate m cs).flatten=H at*;have ai:AA [] w (wr.drew.setCells a (n*1) H):=F4 (by simp;omega) _ wr.drew _ (G.drewN 1);have i:(wr.drew.setCells a (n*1) H).ownsRow 0 3 1 (.slice (some ⟨a,0,none⟩) k k) k (over xs (n*1) H):=Gd H wr.drew xs (n*1) (World.ownsRow.drew z);clear hm A hlt y ab F z ae ag;go_upto_region 9 with(fail)
   refine Cj (S:=fun _=>True) (by kernel_rfl) ?_;change wpAnyH _ _ _ _ _ _ _ _ (World.drew _);refine AV 0 _ (some 38) (.int .i64 n) rfl trivial ?_;simp only[AM];refine AV 1 _ (some 39) (.slice (some ⟨a,0,none⟩) k k) rfl trivial ?_;simp only[AM];refine AV 2 _ (some 40) (.int .i64 n) rfl trivial ?_;simp only[AM];refine AV 3 _ (some 41) (.slice (some ⟨a,n*1,none⟩) (k-n) (k-n)) rfl trivial ?_;simp only[AM];refine AV 4 _ (some 42) (.slice (some ⟨a,0,none⟩) k k) rfl trivial ?_;simp only[AM];refine AV 5 _ (some 43) (.int .i64 n) rfl trivial ?_;simp only[AM];refine AV 6 _ (some 44) (.slice (some ⟨a,0,none⟩) n k) rfl trivial ?_;simp only[AM];refine A8 7 rfl fun K G=>?_
   rw[AL (by rfl)];refine Lp (some 45) rfl (.tmp 41) (.tmp 44) 32 32 rfl 3 1 a (n*1) (k-n) (k-n) ⟨a,0,none⟩ n k m H rfl rfl D M ah h B C ad (G.out _ _ trivial (fun _=>?_));clear G K;simp only[goInt];simp only[AM];refine AV 8 _ (some 46) (.int .i64 p) rfl trivial ?_;simp only[AM];refine AV 9 _ (some 8) (.int .i64 p) rfl trivial ?_;simp only[AM];refine CE ?_;generalize wr.drew.setCells a (n*1) H=w5 at*;clear B C;go_wp2_with fail;go_roundw
   case rel=>exact⟨p,_,HN.o.1,HN.o.2.1,rfl,i,af,ai⟩
   case measure=>have:=HN.o;simp[intOf];omega
  ·have he:n=k:=by omega
   have aC:¬(n:Int)<(k:Int):=by omega
   have i:wr.ownsRow 0 3 1 (.slice (some ⟨a,0,none⟩) k k) k (List.replicate k cs).flatten:=by
    rw[he,FC (by omega)]at F;rw[<-F];exact z
   clear z F he hlt y;go_wp2_with fail;go_ret;exact⟨a,rfl,i,Q,G⟩
theorem UM(cs:List Value)(k g c:Nat)(w:World)(j:cs.length=3)(I:∀u∈cs,u.oneCell'=true)(U:1<=k)(aj:k<=100)(V:w.ownsRow 0 88 3 (.slice (some ⟨g,0,none⟩) 1 c) 1 cs):Calls Tryz.prog 217 #[.slice (some ⟨g,0,none⟩) 1 c,.int .i64 k] w fun e w'=>∃g',e=.returned (.slice (some ⟨g',0,none⟩) k k)∧w'.ownsRow 0 88 3 (.slice (some ⟨g',0,none⟩) k k) k (List.replicate k cs).flatten∧w.heap.size<=g'∧AA [] w w':=by
 obtain⟨i0,J,X,L,Y⟩:=A2 infoTree;have D:=Tryz.underlying86;have M:(Tryz.prog.info? 88).map (·.size)=some 3:=by rw[J];simp[L]
 have ak:(0:Int)<=(k:Int):=by omega
 have al:(k:Int)<=100:=by omega
 have am:¬(k:Int)<0:=by omega
 have an:decide ((9223372036854775807:Int)<(k:Int))=false:=by simp;omega
 have ao:g<w.heap.size:=(A3 V g rfl).2;have ap:IntKind.u64.wrap (k:Int)=(k:Int):=by
  have:IntKind.u64.wrap (k:Int)=(k:Int)%18446744073709551616:=by simp[IntKind.wrap,IntKind.bits,IntKind.signed]
  rw[this];omega
 go_enter Tryz.func217,Tryz.ntmps217;go_wp2_with(first|(go_at_call 202;refine(Ou k (by omega) _).mono ?_;rintro e w1⟨rfl,N⟩;rw[N];clear N w1)|(refine D9 w rfl _ _ 86 rfl 0 88 i0 (.agg #[.int .u8 0,.int .i64 0,.slice none 0 0]) 3 D J X L .i64 .i64 (k:Int) (k:Int) k rfl rfl rfl rfl (by rw[Y];omega) (by unfold maxLen;omega) (AY _) ?_));intro w1 b O;have r:AA [] w w1:=Ci O;obtain⟨a,P⟩:=AQ w.heap.size;rw[<-P]at b⊢;have Q:w.heap.size<=a:=by omega
 have aq:a≠g:=by omega
 clear P O;generalize(madeCells _ _).toList=zs at b;have ar:zs.length=k*3:=b.1;have R:=V.keep r (by simp);have T:∀(W:World)(xs:List Value)(o l:Nat),W.ownsRow 0 88 3 (.slice (some ⟨a,0,none⟩) k k) k xs->o+l<=k*3->W.there a o l:=by
  intro W xs o l Z au q hq;have hl:=Z.1;exact⟨by rw[BX Z (o+q) (by omega),Ax (by omega)];rfl,D8 Z _⟩
 have d:∀q v,cs[q]? =some v->w1.cell? ((⟨g,0,none⟩:Addr).add q)=some v:=Fo R rfl;have E:Nat.min 1 k=1:=by simp[Nat.min_def];omega
 have f:=Gd cs w1 zs 0 b;have s:(over zs 0 cs).take (1*3)=(List.replicate 1 cs).flatten:=by
  have:=KW (vs:=cs) (xs:=zs) (o:=0) (by omega);rw[j,Ba]at this;simpa using this
 have t:AA [] w (w1.setCells a 0 cs):=F4 (by simp;omega) cs w1 0 r;have aa:cs.length=1*3:=by omega
 have x:=T w1 zs 0 cs.length b (by rw[j];omega);clear V R;go_wp2_with(first|(refine Ov rfl (some 33) rfl (.tmp 31) (.tmp 32) 86 86 rfl 88 3 a 0 k k ⟨g,0,none⟩ 1 c 1 cs rfl rfl D M E aa d x I ?_;generalize w1.setCells a 0 cs=w2 at*));go_loopw [8] (fun q wr=>∃(n:Nat)(xs:List Value),1<=n∧n<=k∧q=.int .i64 n∧wr.ownsRow 0 88 3 (.slice (some ⟨a,0,none⟩) k k) k xs∧xs.take (n*3)=(List.replicate n cs).flatten∧AA [] w wr) (fun q _=>k-(intOf q).toNat)
 case atStart=>exact⟨1,_,AP _,U,rfl,f,s,t⟩
 case round=>
  clear f s t b d x;obtain⟨n,xs,ab,y,rfl,z,F,G⟩:=hrel;have aw:xs.length=k*3:=z.1;by_cases hlt:n<k
  ·have ax:(0:Int)<=(n:Int):=by omega
   have ay:(n:Int)<(k:Int):=by omega
   have az:(n:Int)<=(k:Int):=by omega
   have aA:¬k=n:=by omega
   obtain⟨m,hm⟩:=AQ (Nat.min n (k-n));have ac:1<=m∧m<=n∧n+m<=k:=by rw[hm];simp only[Nat.min_def];split<;>omega
   obtain⟨p,A⟩:=AQ (n+m);have aB:IntKind.i64.wrap ((n:Int)+(m:Int))=(p:Int):=by rw[wrap_small (by omega) (by omega)];omega
   have h:(List.replicate m cs).flatten.length=m*3:=by rw[Lq,j]
   have B:∀q v,(List.replicate m cs).flatten[q]? =some v->wr.cell? ((⟨a,0,none⟩:Addr).add q)=some v:=by
    intro q v hv;have hq:q<m*3:=by rw[<-h];exact(BT.1 hv).1
    have e1:(⟨a,0,none⟩:Addr).add q=⟨a,q,none⟩:=by rw[LO,Ba]
    rw[e1,BX z q (by omega)];have h2:xs[q]? =(xs.take (n*3))[q]? :=by rw[Ie (by omega)]
    rw[h2,F];rw[<-Ow cs ac.2.1,j,Ie hq]at hv;exact hv
   have ad:∀u∈(List.replicate m cs).flatten,u.oneCell'=true:=by
    intro u hu;rw[List.mem_flatten]at hu;obtain⟨l,hl,hu⟩:=hu;rw[List.eq_of_mem_replicate hl]at hu;exact I u hu
   have C:=T wr xs (n*3) (List.replicate m cs).flatten.length z (by rw[h];omega);have ae:=Gd (List.replicate m cs).flatten wr xs (n*3) z;have af:(over xs (n*3) (List.replicate m cs).flatten).take (p*3)=(List.replicate p cs).flatten:=by
    have:=KW (vs:=(List.replicate m cs).flatten) (xs:=xs) (o:=n*3) (by rw[h];omega);rw[h,F]at this;rw[A,Lr,<-this];congr 1;omega
   have ag:AA [] w (wr.setCells a (n*3) (List.replicate m cs).flatten):=F4 (by simp;omega) _ wr _ G;have HN:Hid (1<=p∧p<=k∧n<p):=⟨by omega,by omega,by omega⟩;have ah:Nat.min n (k-n)=m:=hm.symm;generalize(List.replicate m cs).flatten=H at*;have ai:AA [] w (wr.drew.setCells a (n*3) H):=F4 (by simp;omega) _ wr.drew _ (G.drewN 1);have i:(wr.drew.setCells a (n*3) H).ownsRow 0 88 3 (.slice (some ⟨a,0,none⟩) k k) k (over xs (n*3) H):=Gd H wr.drew xs (n*3) (World.ownsRow.drew z);clear hm A hlt y ab F z ae ag;go_upto_region 9 with(fail)
   refine Cj (S:=fun _=>True) (by kernel_rfl) ?_;change wpAnyH _ _ _ _ _ _ _ _ (World.drew _);refine AV 0 _ (some 38) (.int .i64 n) rfl trivial ?_;simp only[AM];refine AV 1 _ (some 39) (.slice (some ⟨a,0,none⟩) k k) rfl trivial ?_;simp only[AM];refine AV 2 _ (some 40) (.int .i64 n) rfl trivial ?_;simp only[AM];refine AV 3 _ (some 41) (.slice (some ⟨a,n*3,none⟩) (k-n) (k-n)) rfl trivial ?_;simp only[AM];refine AV 4 _ (some 42) (.slice (some ⟨a,0,none⟩) k k) rfl trivial ?_;simp only[AM];refine AV 5 _ (some 43) (.int .i64 n) rfl trivial ?_;simp only[AM];refine AV 6 _ (some 44) (.slice (some ⟨a,0,none⟩) n k) rfl trivial ?_;simp only[AM];refine A8 7 rfl fun K G=>?_
   rw[AL (by rfl)];refine Lp (some 45) rfl (.tmp 41) (.tmp 44) 86 86 rfl 88 3 a (n*3) (k-n) (k-n) ⟨a,0,none⟩ n k m H rfl rfl D M ah h B C ad (G.out _ _ trivial (fun _=>?_));clear G K;simp only[goInt];simp only[AM];refine AV 8 _ (some 46) (.int .i64 p) rfl trivial ?_;simp only[AM];refine AV 9 _ (some 8) (.int .i64 p) rfl trivial ?_;simp only[AM];refine CE ?_;generalize wr.drew.setCells a (n*3) H=w5 at*;clear B C;go_wp2_with fail;go_roundw
   case rel=>exact⟨p,_,HN.o.1,HN.o.2.1,rfl,i,af,ai⟩
   case measure=>have:=HN.o;simp[intOf];omega
  ·have he:n=k:=by omega
   have aC:¬(n:Int)<(k:Int):=by omega
   have i:wr.ownsRow 0 88 3 (.slice (some ⟨a,0,none⟩) k k) k (List.replicate k cs).flatten:=by
    rw[he,FC (by omega)]at F;rw[<-F];exact z
   clear z F he hlt y;go_wp2_with fail;go_ret;exact⟨a,rfl,i,Q,G⟩
theorem UN:Ot:=fun cs k g c w a b d f e=>UM cs k g c w a b d (by omega) e
theorem trees(s:ByteArray)(N:Nat)(b:Hid (N=s.size+1))(a:s.size<=100):∀n,n<=1000->Lf s N n∧Lg s N n∧Lh s N n∧Li s N n
 |0,_=>⟨fun x c=>by have:=sz_pos x;omega,fun x c=>by have:=sz_pos x;omega,fun x c=>by have:=sz_pos x;omega,fun x c=>by have:=sz_pos x;omega⟩
 |n+1,h=>by
  obtain⟨i1,i2,i3,i4⟩:=trees s N b a n (by omega);have d:=T5 s N a n i1;exact⟨UH s N b a n h i2,UA s N b a n (by omega) i3,T7 s N b a (n+1) d UN,d⟩
theorem Ox{W:Whole}{v a c:Value}{s:ByteArray}(b:v.oneCell'=true)(d:a.oneCell'=true)(e:c.oneCell'=true):Jg s (Bi W v s a c):=⟨⟨_,_,_,_,_,_,rfl,rfl,rfl,b,rfl,d,e⟩⟩
theorem UO(s:ByteArray)(N:Nat)(E:Hid (N=s.size+1))(F:s.size<=100)(W:Whole)(v a c:Value)(G:v.oneCell'=true)(S:Nat->Prop)(w:World)(hm:Mk w S s N .ways W.x [a,c])(o:W.x.sz<=1000)(i j:Nat)(p:i<=j)(H:j<=s.size)(q:Mt s W.x i j):Calls Tryz.prog 42 #[.agg (Bi W v s a c),.int .i64 i,.int .i64 j] w (Hm w s W.x i j):=by
 have d:=hm.form.1;have I:=d a (by simp);have J:=d c (by simp);have K:=Ox (W:=W) (s:=s) G I J;unfold Bi at*;have n:((w.alloc (.cells #[.bool W.bg,.bool W.en,v,.int .i64 (W.g:Int),.string s,a,c] 80)).alloc (.cells #[.int .u8 0,.int .i64 0,.slice none 0 0] 88)).heap[w.heap.size]? =some (.cells #[.bool W.bg,.bool W.en,v,.int .i64 (W.g:Int),.string s,a,c] 80 (0,0)):=C2 w _ _;have r:((w.alloc (.cells #[.bool W.bg,.bool W.en,v,.int .i64 (W.g:Int),.string s,a,c] 80)).alloc (.cells #[.int .u8 0,.int .i64 0,.slice none 0 0] 88)).heap[w.heap.size+1]? =some (.cells #[.int .u8 0,.int .i64 0,.slice none 0 0] 88 (0,0)):=Df w _ _;have b:AA [] w ((w.alloc (.cells #[.bool W.bg,.bool W.en,v,.int .i64 (W.g:Int),.string s,a,c] 80)).alloc (.cells #[.int .u8 0,.int .i64 0,.slice none 0 0] 88)):=((AG [] w).alloc _).alloc _;go_enter Tryz.func42,Tryz.ntmps42;go_upto_region 1 with(fail)
 generalize((w.alloc (.cells #[.bool W.bg,.bool W.en,v,.int .i64 (W.g:Int),.string s,a,c] 80)).alloc (.cells #[.int .u8 0,.int .i64 0,.slice none 0 0] 88))=X at*;obtain⟨g0,A⟩:=AQ w.heap.size;obtain⟨g2,B⟩:=AQ (w.heap.size+1);rw[<-B]at r⊢;rw[<-A]at n⊢;have f:w.heap.size<=g2:=by omega
 have h:g2<X.heap.size:=(AN.1 r).1;have L:=b.size;clear A B;have c5:X.cell? ⟨g0,5,none⟩=some a:=by rw[AU n];rfl
 have c6:X.cell? ⟨g0,6,none⟩=some c:=by rw[AU n];rfl
 have M:=(trees s N E F 1000 (AP _)).1 W.x o X S [a,c] _ i j (hm.keep b (by simp)) K p H q;go_wp2_with(first|(refine As rfl 80 _ rfl g0 rfl _ _ _ _ n Ck rfl (Cq _ _ _ _ _ _ _) ?_));refine M.mono ?_;rintro e w1⟨t,ts,rfl,k,u,l⟩;obtain⟨C,D,va,vn,vc,rfl⟩:=k.form;have m:=(l.block g2 h (by simp)).trans r;have y:AA [g2] w1 (w1.setRow g2 #[.int .u8 C,.int .i64 D,.slice va vn vc]):=(AG [g2] _).setRow (g:=g2) (by simp) _;go_wp2_with(first|(refine Ae rfl 88 _ _ rfl g2 #[.int .u8 C,.int .i64 D,.slice va vn vc] rfl rfl _ _ m (Bs _ _ _) rfl (Dj rfl rfl rfl) ?_));refine Ag (Au rfl _ _ g2 _ _ _ _ rfl (Aa _ _ _ _ _ _ m) DO rfl (Bs _ _ _)) rfl ?_;exact⟨t,_,rfl,(k.keep y (by intro z O;simp;omega)).mono fun z O _=>by omega,u,(b.trans l).setRow (AE f) _⟩
