/-
  DERIVED. The contract of the program's Parse. Conditions: the text is at most 60 bytes long, the variable classNames holds the seven names.
-/
import Derived.Test.YtnfojonmohijpaaGreatDoorJPU
import Derived.Defers
import Derived.Recover
import Derived.Lib.LastIndexByte
import Derived.Laws.BitsAllLaws
set_option linter.all false
set_option maxRecDepth 100000
set_option maxHeartbeats 8000000
namespace Go.Proofs.YtnfojonmohijpaaGreatDoor
open Go.RowKit
variable{w:World}{cap g i j k n r:Nat}{a b c d:Value}
def D8:=@World.ownsRow.frozenAt
def BX:=@World.ownsRow.cellAt
def Es:=@World.ownsRow.stored
def Et:=@Tryz.underlying70
def Hd:=@List.ext_getElem?
theorem Nw(s:ByteArray)(w:World):Calls Tryz.prog 115 #[.string s] w fun e w'=>e=.returned (.agg #[.string s,.int .i64 0])∧AA [] w w':=by
 go_enter Tryz.func115,Tryz.ntmps115;go_wp2_with fail;refine Ag (Au rfl _ _ w.heap.size _ _ _ _ rfl (AS w _) Tryz.underlying198 rfl (by kernel_rfl)) rfl ?_;exact⟨rfl,(AG [] w).alloc _⟩
def SW(s:ByteArray)(w:World)(e:Ending)(w':World):Prop:=
 ∃q,B6 s q∧AA [] w w'∧match q with
  | .ok W _=>∃v,e=.returned (.agg #[.bool W.bg,.bool W.en,v,.int .i64 W.g])∧v.oneCell'=true∧AT w' (fun g=>w.heap.size<=g) .ways W.x [v]
  | .bad j=>e=fault j
def P4(w:World)(r:Nat)(a b c d:Value):Prop:=w.heap[r]? =some (.cells #[a,b,c,d] 70 (0,0))
theorem P4.lt(h:P4 w r a b c d):r<w.heap.size:=(AN.1 h).1
theorem P4.keep{w':World}{S:List Nat}(h:P4 w r a b c d)(e:AA S w w')(hb:r∉S):P4 w' r a b c d:=(e.block r h.lt hb).trans h
theorem P4.main(h:P4 w r a b c d):w.cell? ⟨r,0,none⟩=some a∧w.cell? ⟨r,1,none⟩=some b∧w.cell? ⟨r,2,none⟩=some c∧w.cell? ⟨r,3,none⟩=some d∧w.frozen? ⟨r,0,none⟩=false∧w.frozen? ⟨r,1,none⟩=false∧w.frozen? ⟨r,2,none⟩=false∧w.frozen? ⟨r,3,none⟩=false:=by
 unfold P4 at h;simp[World.cell?,World.frozen?,h]
theorem P4.set0(h:P4 w r a b c d)(v:Value):P4 (w.setCell ⟨r,0,none⟩ v) r v b c d:=by
 unfold P4 at*;simp[World.setCell,Aq,h]
theorem P4.set1(h:P4 w r a b c d)(v:Value):P4 (w.setCell ⟨r,1,none⟩ v) r a v c d:=by
 unfold P4 at*;simp[World.setCell,Aq,h]
theorem P4.set2(h:P4 w r a b c d)(v:Value):P4 (w.setCell ⟨r,2,none⟩ v) r a b v d:=by
 unfold P4 at*;simp[World.setCell,Aq,h]
theorem P4.set3(h:P4 w r a b c d)(v:Value):P4 (w.setCell ⟨r,3,none⟩ v) r a b c v:=by
 unfold P4 at*;simp[World.setCell,Aq,h]
theorem Fy:(Tryz.prog.info? 70).map (·.size)=some (#[a,b,c,d]:Array Value).size:=by kernel_rfl
theorem He{x y:Bool}{v:Value}{n:Int}(a:v.oneCell'=true):(#[.bool x,.bool y,v,.int .i64 n]:Array Value).all (·.oneCell')=true:=by
 have c:∀b,(Value.bool b).oneCell'=true:=fun _=>rfl
 have d:(Value.int .i64 n).oneCell'=true:=rfl;simp[c,d,a]
theorem SX(s:ByteArray)(w:World)(W:GN w)(hs:s.size<=60):Calls Tryz.prog 67 #[.string s] w (SW s w):=by
 go_enter Tryz.func67,Tryz.ntmps67;go_wp2_with fail;have ai:P4 (w.alloc (.cells #[.bool false,.bool false,.slice none 0 0,.int .i64 0] 70)) w.heap.size (.bool false) (.bool false) (.slice none 0 0) (.int .i64 0):=AS w _;have X:AA [] w (w.alloc (.cells #[.bool false,.bool false,.slice none 0 0,.int .i64 0] 70)):=(AG [] w).alloc _;have aj:=W.keep X (by simp);have aM:=W.lt;refine(Nw s _).mono ?_;rintro e w1⟨rfl,M⟩;generalize w.alloc (.cells #[.bool false,.bool false,.slice none 0 0,.int .i64 0] 70)=W0 at*;have Y:=ai.keep M (by simp);have ak:=aj.keep M (by simp);have m:=X.trans M;have al:=Y.lt;clear ai aj X M W;go_wp2_with fail;have Z:QB ((w1.alloc (.cells #[.string s,.int .i64 0,.int .i64 0,.int .i64 0] 201)).alloc (.cells #[.bool false,.bool false,.slice none 0 0,.int .i64 0] 70)) w1.heap.size ⟨s,0,0,0⟩:=C2 w1 _ _;have aa:P4 ((w1.alloc (.cells #[.string s,.int .i64 0,.int .i64 0,.int .i64 0] 201)).alloc (.cells #[.bool false,.bool false,.slice none 0 0,.int .i64 0] 70)) (w1.heap.size+1) (.bool false) (.bool false) (.slice none 0 0) (.int .i64 0):=Df w1 _ _;have N:AA [] w1 ((w1.alloc (.cells #[.string s,.int .i64 0,.int .i64 0,.int .i64 0] 201)).alloc (.cells #[.bool false,.bool false,.slice none 0 0,.int .i64 0] 70)):=((AG [] w1).alloc _).alloc _;generalize(w1.alloc (.cells #[.string s,.int .i64 0,.int .i64 0,.int .i64 0] 201)).alloc (.cells #[.bool false,.bool false,.slice none 0 0,.int .i64 0] 70)=w2 at*;have ab:=Y.keep N (by simp);have am:=ak.keep N (by simp);have an:=m.trans N;have ao:=m.size;obtain⟨b,hb⟩:=An w1.heap.size;obtain⟨g,hg⟩:=An w.heap.size;rw[hb,hg]at ao;rw[hb]at Z aa al⊢;rw[hg]at ab aM al⊢;clear Y ak m N hb;refine(DJ b ⟨s,0,0,0⟩ 94 (by omega) _ Z (AY _) hs).mono ?_;rintro e w3⟨rfl,ac,hk3⟩;have z:QS.took ⟨s,0,0,0⟩ 94=⟨s,wi s,0,0⟩:=by
  unfold QS.took wi;have:QS.cur ⟨s,0,0,0⟩=at' s 0:=rfl;rw[this];by_cases h:at' s 0=94
  ·rw[AL h,AL h]
  ·rw[AK h,AK h]
 rw[z]at ac;have ap:wi s<=s.size:=by
  unfold wi;by_cases h:at' s 0=94
  ·rw[AL h];exact Ap (by omega)
  ·rw[AK h];omega
 have ad:=aa.keep hk3 (by simp);have aq:=ab.keep hk3 (by simp;omega);have ar:=am.keep hk3 (by simp;omega);have au:AA [] w w3:=an.fresh hk3 (by intro x a;simp at a;omega);obtain⟨m0,m1,m2,m3,O,P,Q,n3⟩:=ad.main;have ae:=ad.set0 (.bool (decide (at' s 0=94)));have hk4:AA [b+1] w3 (w3.setCell ⟨b+1,0,none⟩ (.bool (decide (at' s 0=94)))):=(AG [b+1] w3).setCell (by simp) _;have aw:decide (QS.cur ⟨s,0,0,0⟩=94)=decide (at' s 0=94):=rfl;rw[aw];clear aa ab am an Z hk3 z aw;generalize aN:decide (at' s 0=94)=bg at*;go_wp2_with fail;have ax:=ac.keep hk4 (by simp);have ay:=aq.keep hk4 (by simp;omega);have af:=ar.keep hk4 (by simp;omega);have az:AA [] w _:=au.fresh hk4 (by intro x a;simp at a;omega);clear ad aq ar au ac hk4 m0 m1 m2 m3 O P Q n3;generalize w3.setCell ⟨b+1,0,none⟩ (.bool bg)=w4 at*;have aX:g<=w4.heap.size:=by have:=az.size;omega
 refine(SV 61 b ⟨s,wi s,0,0⟩ w4 ax af (by omega) hs ap (by simp) (by simp) (by simp;omega)).mono ?_;rintro e w5⟨q,hG,r,aA⟩;have t:=ae.keep r (by simp);have aB:=ay.keep r (by simp;omega);have a1:=af.keep r (by simp;omega);have A:AA [] w w5:=az.fresh r (by intro x a;simp at a;omega);have aC:=ae;clear ae ay af ax;cases q with
 |bad j=>
  have HP:Hid (B6 s (.bad j)):=⟨_,hG,rfl⟩;rcases aA with rfl|⟨v,g1,rfl,aO,B,l,_⟩
  ·simp only[fault];exact⟨rfl,_,HP.o,A,rfl⟩
  ·obtain⟨va,vn,vc,rfl⟩:=aO;have aP:0<=at' s j:=by unfold Fw at l;simp at l;omega
   have T:j<s.size:=Ap aP;have aQ:¬at' s j=36:=by unfold Fw at l;simp at l;omega
   obtain⟨m0,m1,m2,m3,O,P,Q,n3⟩:=t.main;have R:=t.set2 (.slice va vn vc);have c:AA [b+1] w5 (w5.setCell ⟨b+1,2,none⟩ (.slice va vn vc)):=(AG [b+1] w5).setCell (by simp) _;have S:=B.keep c (by simp);have C:AA [] w (w5.setCell ⟨b+1,2,none⟩ (.slice va vn vc)):=A.fresh c (by intro x a;simp at a;omega);clear r c t A B l hG;go_wp2_with fail;generalize w5.setCell ⟨b+1,2,none⟩ (.slice va vn vc)=w6 at*;refine(DJ b ⟨s,j,0,g1⟩ 36 (by omega) _ S (Dp T) hs).mono ?_;rintro e w7⟨rfl,n,d⟩;obtain⟨e1,e2⟩:=EN (p:=⟨s,j,0,g1⟩) aQ;rw[e1];rw[e2]at n;have u:=R.keep d (by simp);have D:AA [] w w7:=C.fresh d (by intro x a;simp at a;omega);clear m0 m1 m2 m3 O P Q n3;obtain⟨m0,m1,m2,m3,O,P,Q,n3⟩:=u.main;have f:AA [b+1] w7 (w7.setCell ⟨b+1,1,none⟩ (.bool false)):=(AG [b+1] w7).setCell (by simp) _;have E:=n.keep f (by simp);have F:AA [] w (w7.setCell ⟨b+1,1,none⟩ (.bool false)):=D.fresh f (by intro x a;simp at a;omega);clear e1 e2 d f n u D C;go_wp2_with fail;refine(Mn b ⟨s,j,0,g1⟩ _ E T hs).mono ?_;rintro e w9⟨rfl,i⟩;simp only[fault];exact⟨rfl,_,HP.o,F.trans i,rfl⟩
 |ok y j=>
  obtain⟨x,g1⟩:=y;obtain⟨v,rfl,H,B⟩:=aA;obtain⟨va,vn,vc,rfl⟩:Bk v:=by
   cases H with
   |ways _ _ _ _ _ ho _=>exact A6 ho
  have U:=hG.okb x g1 j rfl;have V:j<=s.size:=U.2.1 ap;obtain⟨m0,m1,m2,m3,O,P,Q,n3⟩:=t.main;have R:=t.set2 (.slice va vn vc);have c:AA [b+1] w5 (w5.setCell ⟨b+1,2,none⟩ (.slice va vn vc)):=(AG [b+1] w5).setCell (by simp) _;have S:=B.keep c (by simp);have aD:=aB.keep c (by simp;omega);have C:AA [] w (w5.setCell ⟨b+1,2,none⟩ (.slice va vn vc)):=A.fresh c (by intro x a;simp at a;omega);have aY:b+1<w4.heap.size:=aC.lt;have I:=H.keep c (by intro y hy;simp;omega);have HG:Hid (G s .ways 0 0 (wi s) (.ok (x,g1) j)):=hG;clear r c t A B hG aB H U;go_wp2_with fail;generalize w5.setCell ⟨b+1,2,none⟩ (.slice va vn vc)=w6 at*;refine(DJ b ⟨s,j,0,g1⟩ 36 (by omega) _ S V hs).mono ?_;rintro e w7⟨rfl,n,d⟩;obtain⟨k,hk,aZ,z⟩:∃k,(if at' s j=36 then j+1 else j)=k∧k<=s.size∧QS.took ⟨s,j,0,g1⟩ 36=⟨s,k,0,g1⟩:=by
   by_cases h:at' s j=36
   ·rw[AL h];exact⟨_,rfl,Ap (by omega),(Er (p:=⟨s,j,0,g1⟩) h).2⟩
   ·rw[AK h];exact⟨_,rfl,V,(EN (p:=⟨s,j,0,g1⟩) h).2⟩
  have aE:decide (QS.cur ⟨s,j,0,g1⟩=36)=decide (at' s j=36):=rfl;rw[aE];rw[z]at n;have HP:Hid (B6 s (if 0<=at' s k then .bad k else .ok ⟨bg,decide (at' s j=36),x,g1⟩ k)):=by
   refine⟨_,HG.o,?_⟩;rw[GI,hk,aN]
  generalize decide (at' s j=36)=en at*;have u:=R.keep d (by simp);have aF:=aD.keep d (by simp;omega);have J:=I.keep d (by intro y hy;simp;omega);have D:AA [] w w7:=C.fresh d (by intro x a;simp at a;omega);clear m0 m1 m2 m3 O P Q n3;obtain⟨m0,m1,m2,m3,O,P,Q,n3⟩:=u.main;have f:AA [b+1] w7 (w7.setCell ⟨b+1,1,none⟩ (.bool en)):=(AG [b+1] w7).setCell (by simp) _;have aG:=u.set1 (.bool en);have E:=n.keep f (by simp);have aH:=aF.keep f (by simp;omega);have K:=J.keep f (by intro y hy;simp;omega);have F:AA [] w (w7.setCell ⟨b+1,1,none⟩ (.bool en)):=D.fresh f (by intro x a;simp at a;omega);clear d f n u D C aD aF R I J hk z aE S HG;go_wp2_with fail;generalize w7.setCell ⟨b+1,1,none⟩ (.bool en)=w8 at*;by_cases aI:k<s.size
  ·refine(Mn b ⟨s,k,0,g1⟩ _ E aI hs).mono ?_;rintro e w9⟨rfl,i⟩;simp only[fault];have h:=HP.o;have h0:0<=at' s k:=by rw[Bd aI];omega
   rw[AL h0]at h;exact⟨rfl,_,h,F.trans i,rfl⟩
  ·have aR:k=s.size:=by omega
   have h:=HP.o;have h0:¬0<=at' s k:=by rw[Cu (by omega)];omega
   rw[AK h0]at h;have aS:Hid (B6 s (.ok ⟨bg,en,x,g1⟩ k)):=h;clear h h0 HP;refine(QP b ⟨s,k,0,g1⟩ _ E aR).mono ?_;rintro e w9⟨rfl,aT,i⟩;have ag:=aG.keep i (by simp);have aJ:=aH.keep i (by simp);have L:=K.keep i (by simp);have aK:=F.trans i;clear m0 m1 m2 m3 O P Q n3;obtain⟨m0,m1,m2,m3,O,P,Q,n3⟩:=ag.main;obtain⟨_,_,d2,d3,_,f2,f3⟩:=aT.main;have aU:=ag.set3 (.int .i64 (g1:Int));have m:AA [b+1] w9 (w9.setCell ⟨b+1,3,none⟩ (.int .i64 (g1:Int))):=(AG [b+1] w9).setCell (by simp) _;have aL:=aJ.keep m (by simp;omega);have ah:=L.keep m (by intro y hy;simp;omega);have aV:AA [] w (w9.setCell ⟨b+1,3,none⟩ (.int .i64 (g1:Int))):=aK.fresh m (by intro x a;simp at a;omega);clear i ag aJ L aK F K aH aG E;go_wp2_with(first|(refine As rfl 70 _ rfl (b+1) rfl _ _ _ _ aU Et rfl Fy ?_)|(refine Ae rfl 70 _ _ rfl g _ rfl rfl _ _ aL Fy rfl (He rfl) ?_));refine Ag (Au rfl _ _ g _ _ _ _ rfl (Aa _ _ _ _ _ _ aL) Et rfl Fy) rfl ?_;have aW:=(AG [g] (w9.setCell ⟨b+1,3,none⟩ (.int .i64 (g1:Int)))).setRow (g:=g) (by simp) #[.bool bg,.bool en,.slice va vn vc,.int .i64 (g1:Int)];exact⟨_,aS.o,aV.setRow (AE (by omega)) _,_,rfl,rfl,(ah.keep aW (by intro y hy;simp;omega)).mono (by intro y hy _;omega)⟩
theorem SY(x y z:Value)(w:World):CallsD Tryz.prog 114 #[x,y,z] .returning w fun e a w'=>e=.returned (.tuple #[])∧a=.returning∧w'=w:=by
 refine callsD_of_wpS Tryz.func114 rfl fun b cs hu=>?_
 apply wpS_seq;apply wpS_region;simp[wpOpsS,go_sem,recoverD,hu,Tryz.ntmps114,Exit.thenS];refine wpS_of_wp ?_;have c:(#[x,y,z]++(Array.replicate 12 undef).setIfInBounds 3 Value.nilIface)=#[x,y,z,undef,undef,undef,.nilIface,undef,undef,undef,undef,undef,undef,undef,undef]:=rfl;rw[c];go_wp2_with fail;cases b
 simp_all [bodyPostS,results,Tryz.results114]
theorem Nx(j:Int)(w:World):(Instr.typeAssert (.iface 196 (.agg #[.int .i64 j])) 20 196 true).run Tryz.prog w=.ok (.tuple #[.agg #[.int .i64 j],.bool true]) w:=by kernel_rfl
theorem SZ(j:Nat)(l:Int)(h c d:Addr)(a b:Value)(w:World)(m:w.cell? h=some (.int .i64 l))(i:w.cell? c=some a)(k:w.cell? d=some b)(f2:w.frozen? c=false)(f3:w.frozen? d=false)(g:c≠d):CallsD Tryz.prog 114 #[.pointer (some h),.pointer (some c),.pointer (some d)] (.panicking [{v:=.iface 196 (.agg #[.int .i64 (j:Int)]),recovered:=false}]) w fun e q w'=>
  e=.returned (.tuple #[])∧q=.panicking [{v:=.iface 196 (.agg #[.int .i64 (j:Int)]),recovered:=true}]∧w'=((w.alloc (.cells #[.int .i64 (j:Int)] 196)).setCell c (.int .i64 (j:Int))).setCell d (.int .i64 l):=by
 refine callsD_of_wpS Tryz.func114 rfl fun r cs hu=>?_
 apply wpS_seq;apply wpS_region;simp[wpOpsS,go_sem,recoverD,hu,Tryz.ntmps114,Exit.thenS];refine wpS_of_wp ?_;have n:(#[.pointer (some h),.pointer (some c),.pointer (some d)]++(Array.replicate 12 undef).setIfInBounds 3 (.iface 196 (.agg #[.int .i64 (j:Int)])))=#[.pointer (some h),.pointer (some c),.pointer (some d),undef,undef,undef,.iface 196 (.agg #[.int .i64 (j:Int)]),undef,undef,undef,undef,undef,undef,undef,undef]:=rfl;rw[n];have s:=fun w=>Nx (j:Int) w
 have f:AA [] w (w.alloc (.cells #[.int .i64 (j:Int)] 196)):=(AG [] w).alloc _;have o:=BV w _ i;have p:=BV w _ k;have g1:=Ac f m;have g2:=Ac f i;have g3:=Ac f k;have u:(w.alloc (.cells #[.int .i64 (j:Int)] 196)).frozen? c=false:=(Fi w _ c (Nat.ne_of_lt o)).trans f2;have t:(w.alloc (.cells #[.int .i64 (j:Int)] 196)).frozen? d=false:=(Fi w _ d (Nat.ne_of_lt p)).trans f3;have n3:((w.alloc (.cells #[.int .i64 (j:Int)] 196)).setCell c (.int .i64 (j:Int))).cell? d=some b:=(Dr _ _ _ _ g).trans g3;have m3:((w.alloc (.cells #[.int .i64 (j:Int)] 196)).setCell c (.int .i64 (j:Int))).frozen? d=false:=by rw[World.frozen?_setCell];exact t
 clear n f o p m i k f2 f3 g;go_wp2_with fail;cases r
 simp_all [bodyPostS,results,Tryz.results114]
theorem Sa(args:Array Value)(w:World):(callFunc 67 args).run Tryz.prog w=.ok (.enter 67 args) w:=by kernel_rfl
def z4:Array Value:=#[.bool false,.bool false,.slice none 0 0,.int .i64 0]
def KF(s:ByteArray)(w:World)(e:Ending)(w':World):Prop:=
 AA [] w w'∧((60<s.size∧e=.returned (.tuple #[.agg z4,.int .i64 0,.int .i64 1]))∨(s.size<=60∧∃q,B6 s q∧match q with
  | .ok W _=>∃v,e=.returned (.tuple #[.agg #[.bool W.bg,.bool W.en,v,.int .i64 W.g],.int .i64 0,.int .i64 0])∧v.oneCell'=true∧AT w' (fun g=>w.heap.size<=g) .ways W.x [v]
  | .bad j=>e=.returned (.tuple #[.agg z4,.int .i64 j,.int .i64 2])))
theorem KG(t:TypeId)(b:t=3∨t=22)(a:Addr)(x:Int)(w:World)(h:w.cell? a=some (.int .i64 x)):(loadVar t a).run Tryz.prog w=.ok (.int .i64 x) w:=by
 rcases b with rfl|rfl
 ·simp[loadVar,go_sem,h]
 ·simp[loadVar,go_sem,h]
theorem results_read(tmps:Array Value)(w:World)(g:Nat)(a b c d:Value)(x y:Int)(i:tmps.getD 8 undef=.pointer (some ⟨g+1,0,none⟩))(j:tmps.getD 9 undef=.pointer (some ⟨g+1+1,0,none⟩))(e:tmps.getD 10 undef=.pointer (some ⟨g+1+1+1,0,none⟩))(k:P4 w (g+1) a b c d)(l:w.cell? ⟨g+1+1,0,none⟩=some (.int .i64 x))(m:w.cell? ⟨g+1+1+1,0,none⟩=some (.int .i64 y)):(results Tryz.f66 tmps).run Tryz.prog w=.ok (.tuple #[.agg #[a,b,c,d],.int .i64 x,.int .i64 y]) w:=by
 have h:Tryz.f66.results=#[.cell 8 70,.cell 9 3,.cell 10 22]:=rfl;have n:tmps[8]?.getD undef=.pointer (some ⟨g+1,0,none⟩):=by simpa using i
 have o:tmps[9]?.getD undef=.pointer (some ⟨g+1+1,0,none⟩):=by simpa using j
 have f:tmps[10]?.getD undef=.pointer (some ⟨g+1+1+1,0,none⟩):=by simpa using e
 have p:=run_loadVar_row (P:=Tryz.prog) w (g+1) 70 70 #[a,b,c,d] (0,0) _ k Et rfl Fy;have q:=KG 3 (AH rfl) _ x w l;have r:=KG 22 (AE rfl) _ y w m;simp[results,h,n,o,f,asAddr,p,q,r]
theorem Ny(e:Int)(w:World):∃W,((((w.alloc (.cells #[.int .i64 2] 22)).alloc (.cells #[.bool false,.bool false,.slice none 0 0,.int .i64 0] 70)).alloc (.cells #[.int .i64 0] 3)).alloc (.cells #[.int .i64 e] 22))=W∧W.cell? ⟨w.heap.size,0,none⟩=some (.int .i64 2)∧P4 W (w.heap.size+1) (.bool false) (.bool false) (.slice none 0 0) (.int .i64 0)∧W.cell? ⟨w.heap.size+1+1,0,none⟩=some (.int .i64 0)∧W.cell? ⟨w.heap.size+1+1+1,0,none⟩=some (.int .i64 e)∧W.frozen? ⟨w.heap.size+1+1,0,none⟩=false∧W.frozen? ⟨w.heap.size+1+1+1,0,none⟩=false∧AA [] w W∧W.heap.size=w.heap.size+4:=by
 have g:AA [] w (w.alloc (.cells #[.int .i64 2] 22)):=(AG [] w).alloc _;have c1:(w.alloc (.cells #[.int .i64 2] 22)).cell? ⟨w.heap.size,0,none⟩=some (.int .i64 2):=by simp
 have c:(w.alloc (.cells #[.int .i64 2] 22)).heap.size=w.heap.size+1:=by simp
 generalize w.alloc (.cells #[.int .i64 2] 22)=w1 at*;have f:AA [] w1 (w1.alloc (.cells #[.bool false,.bool false,.slice none 0 0,.int .i64 0] 70)):=(AG [] w1).alloc _;have c2:P4 (w1.alloc (.cells #[.bool false,.bool false,.slice none 0 0,.int .i64 0] 70)) w1.heap.size (.bool false) (.bool false) (.slice none 0 0) (.int .i64 0):=AS w1 _;have z2:(w1.alloc (.cells #[.bool false,.bool false,.slice none 0 0,.int .i64 0] 70)).heap.size=w1.heap.size+1:=by simp
 have c1:=Ac f c1;generalize w1.alloc (.cells #[.bool false,.bool false,.slice none 0 0,.int .i64 0] 70)=w2 at*;have d:AA [] w2 (w2.alloc (.cells #[.int .i64 0] 3)):=(AG [] w2).alloc _;have c3:(w2.alloc (.cells #[.int .i64 0] 3)).cell? ⟨w2.heap.size,0,none⟩=some (.int .i64 0):=by simp
 have f3:(w2.alloc (.cells #[.int .i64 0] 3)).frozen? ⟨w2.heap.size,0,none⟩=false:=by simp
 have z3:(w2.alloc (.cells #[.int .i64 0] 3)).heap.size=w2.heap.size+1:=by simp
 have c1:=Ac d c1;have c2:=c2.keep d (by simp);generalize w2.alloc (.cells #[.int .i64 0] 3)=w3 at*;have b:AA [] w3 (w3.alloc (.cells #[.int .i64 e] 22)):=(AG [] w3).alloc _;have c4:(w3.alloc (.cells #[.int .i64 e] 22)).cell? ⟨w3.heap.size,0,none⟩=some (.int .i64 e):=by simp
 have f4:(w3.alloc (.cells #[.int .i64 e] 22)).frozen? ⟨w3.heap.size,0,none⟩=false:=by simp
 have z4:(w3.alloc (.cells #[.int .i64 e] 22)).heap.size=w3.heap.size+1:=by simp
 have c1:=Ac b c1;have c2:=c2.keep b (by simp);have a:(w3.alloc (.cells #[.int .i64 e] 22)).frozen? ⟨w2.heap.size,0,none⟩=false:=(Fi w3 _ ⟨w2.heap.size,0,none⟩ (by simp;omega)).trans f3;have c3:=Ac b c3;generalize w3.alloc (.cells #[.int .i64 e] 22)=h at*;rw[z3,z2,c]at c4 f4;rw[z2,c]at c3 a;rw[c]at c2;exact⟨h,rfl,c1,c2,c3,c4,a,f4,((g.trans f).trans d).trans b,by omega⟩
theorem Sb(s:ByteArray)(w:World)(a:60<s.size):Calls Tryz.prog 66 #[.string s,.int .i64 60,.func (.func 67) #[] #[],.int .i64 2] w (KF s w):=by
 have b:∀(fn:Fn)(first cap:Array Value)(w:World),(Instr.makeFunc fn first cap).run Tryz.prog w=.ok (.func fn first cap) w:=fun _ _ _ _=>rfl
 have c:(60:Int)<(s.size:Int):=by omega
 obtain⟨W,d,i,e,f,g,g2,g3,h,j⟩:=Ny 1 w
 go_enter_defers Tryz.func66,Tryz.ntmps66
 go_wp2_with fail
 try rw[d]
 exact⟨_,results_read _ _ w.heap.size _ _ _ _ 0 1 rfl rfl rfl e f g,h,AH ⟨a,rfl⟩⟩
theorem Sc(s:ByteArray)(w:World)(m:GN w)(D:s.size<=60):Calls Tryz.prog 66 #[.string s,.int .i64 60,.func (.func 67) #[] #[],.int .i64 2] w (KF s w):=by
 have Q:∀(fn:Fn)(first cap:Array Value)(w:World),(Instr.makeFunc fn first cap).run Tryz.prog w=.ok (.func fn first cap) w:=fun _ _ _ _=>rfl
 have R:¬(60:Int)<(s.size:Int):=by omega
 have S:=Sa;obtain⟨W,L,M,N,E,F,g2,g3,A,hz⟩:=Ny 0 w;have n:=m.keep A (by simp)
 go_enter_defers Tryz.func66,Tryz.ntmps66
 go_wp2_with fail
 try rw[L]
 clear L;refine(SX s W n D).mono ?_;rintro e w5⟨q,O,b,o⟩;have p:=A.trans b;have a0:=Ac b M;have B:=N.keep b (by simp);have a2:=Ac b E;have a3:=Ac b F;have G:w5.frozen? ⟨w.heap.size+1+1,0,none⟩=false:=(Fm (b.block _ (BV W _ E) (by simp))).trans g2;have H:w5.frozen? ⟨w.heap.size+1+1+1,0,none⟩=false:=(Fm (b.block _ (BV W _ F) (by simp))).trans g3;clear M N E F g2 g3 n m;obtain⟨g,T⟩:=An w.heap.size;rw[T]at a0 B a2 a3 G H⊢;have z5:=b.size;cases q with
 |bad j=>
  subst o;simp only[fault];refine leaves_cons (f:=114) (args:=#[.pointer (some ⟨g,0,none⟩),.pointer (some ⟨g+1+1,0,none⟩),.pointer (some ⟨g+1+1+1,0,none⟩)]) (by simp) (by simp[go_sem]) ?_;refine(SZ j 2 _ _ _ _ _ _ a0 a2 a3 G H (by simp)).mono ?_;rintro e U l⟨rfl,rfl,rfl⟩;have C:AA [] w5 (w5.alloc (.cells #[.int .i64 (j:Int)] 196)):=(AG [] w5).alloc _;have V:=Ac C a2;have X:=Ac C a3;have y3:=B.keep C (by simp);have d:=p.trans C;generalize w5.alloc (.cells #[.int .i64 (j:Int)] 196)=w7 at*;have c:AA [g+1+1,g+1+1+1] w7 ((w7.setCell ⟨g+1+1,0,none⟩ (.int .i64 (j:Int))).setCell ⟨g+1+1+1,0,none⟩ (.int .i64 2)):=((AG _ w7).setCell (by simp) _).setCell (by simp) _;have I:=y3.keep c (by simp);have J:((w7.setCell ⟨g+1+1,0,none⟩ (.int .i64 (j:Int))).setCell ⟨g+1+1+1,0,none⟩ (.int .i64 2)).cell? ⟨g+1+1,0,none⟩=some (.int .i64 (j:Int)):=by
   rw[Dr _ _ _ _ (by simp)];exact Ea _ _ _ V
  have K:((w7.setCell ⟨g+1+1,0,none⟩ (.int .i64 (j:Int))).setCell ⟨g+1+1+1,0,none⟩ (.int .i64 2)).cell? ⟨g+1+1+1,0,none⟩=some (.int .i64 2):=by
   refine Ea _ _ _ (u:=.int .i64 0) ?_;rw[Dr _ _ _ _ (by simp)];exact X
  exact⟨_,results_read _ _ g _ _ _ _ j 2 rfl rfl rfl I J K,d.fresh c (by intro x r;simp at r;omega),AE ⟨D,_,O,rfl⟩⟩
 |ok a j=>
  obtain⟨v,rfl,t,z⟩:=o;have Y:(#[.bool a.bg,.bool a.en,v,.int .i64 (a.g:Int)]:Array Value).all (·.oneCell')=true:=He t;have h:=(AG [g+1] w5).setRow (g:=g+1) (by simp) #[.bool a.bg,.bool a.en,v,.int .i64 (a.g:Int)];have hbl:∀k,k<w5.heap.size->k≠g+1->(w5.setRow (g+1) #[.bool a.bg,.bool a.en,v,.int .i64 (a.g:Int)]).heap[k]? =w5.heap[k]? :=fun k A Z=>h.block k A (by simpa using Z)
  have s1:P4 (w5.setRow (g+1) #[.bool a.bg,.bool a.en,v,.int .i64 (a.g:Int)]) (g+1) (.bool a.bg) (.bool a.en) v (.int .i64 (a.g:Int)):=Aa _ _ _ _ _ _ B;have s2:(w5.setRow (g+1) #[.bool a.bg,.bool a.en,v,.int .i64 (a.g:Int)]).cell? ⟨g+1+1,0,none⟩=some (.int .i64 0):=(Ad (hbl _ (BV w5 _ a2) (by simp))).trans a2;have s3:(w5.setRow (g+1) #[.bool a.bg,.bool a.en,v,.int .i64 (a.g:Int)]).cell? ⟨g+1+1+1,0,none⟩=some (.int .i64 0):=(Ad (hbl _ (BV w5 _ a3) (by simp;omega))).trans a3;have t2:(w5.setRow (g+1) #[.bool a.bg,.bool a.en,v,.int .i64 (a.g:Int)]).frozen? ⟨g+1+1,0,none⟩=false:=(Fm (hbl _ (BV w5 _ a2) (by simp))).trans G;have t3:(w5.setRow (g+1) #[.bool a.bg,.bool a.en,v,.int .i64 (a.g:Int)]).frozen? ⟨g+1+1+1,0,none⟩=false:=(Fm (hbl _ (BV w5 _ a3) (by simp;omega))).trans H;have i:=z.keep h (by intro y P;simp;omega);have d:AA [] w (w5.setRow (g+1) #[.bool a.bg,.bool a.en,v,.int .i64 (a.g:Int)]):=p.fresh h (by intro x r;simp at r;omega);clear hbl;go_wp2_with(first|(refine Ae rfl 70 _ _ rfl (g+1) _ rfl rfl _ _ B Fy rfl Y ?_;generalize w5.setRow (g+1) #[.bool a.bg,.bool a.en,v,.int .i64 (a.g:Int)]=l at*));refine leaves_cons (f:=114) (args:=#[.pointer (some ⟨g,0,none⟩),.pointer (some ⟨g+1+1,0,none⟩),.pointer (some ⟨g+1+1+1,0,none⟩)]) (by simp) (by simp[go_sem]) ?_;refine(SY _ _ _ _).mono ?_;rintro e U w7⟨rfl,rfl,rfl⟩;have c:AA [g+1+1,g+1+1+1] l ((l.setCell ⟨g+1+1,0,none⟩ (.int .i64 0)).setCell ⟨g+1+1+1,0,none⟩ (.int .i64 0)):=((AG _ l).setCell (by simp) _).setCell (by simp) _;have I:=s1.keep c (by simp);have J:((l.setCell ⟨g+1+1,0,none⟩ (.int .i64 0)).setCell ⟨g+1+1+1,0,none⟩ (.int .i64 0)).cell? ⟨g+1+1,0,none⟩=some (.int .i64 0):=by
   rw[Dr _ _ _ _ (by simp)];exact Ea _ _ _ s2
  have K:((l.setCell ⟨g+1+1,0,none⟩ (.int .i64 0)).setCell ⟨g+1+1+1,0,none⟩ (.int .i64 0)).cell? ⟨g+1+1+1,0,none⟩=some (.int .i64 0):=by
   refine Ea _ _ _ (u:=.int .i64 0) ?_;rw[Dr _ _ _ _ (by simp)];exact s3
  exact⟨_,results_read _ _ g _ _ _ _ 0 0 rfl rfl rfl I J K,d.fresh c (by intro x r;simp at r;omega),AE ⟨D,_,O,v,rfl,t,(i.keep c (by intro y P;simp;omega)).mono (by intro y P _;omega)⟩⟩
theorem Sd(s:ByteArray)(w:World)(a:GN w):Calls Tryz.prog 66 #[.string s,.int .i64 60,.func (.func 67) #[] #[],.int .i64 2] w (KF s w):=by
 by_cases b:s.size<=60
 ·exact Sc s w a b
 ·exact Sb s w (by omega)
theorem Se(tmps:Array Value)(w:World)(g:Nat)(a b c d v3 v4:Value)(e:tmps.getD 2 undef=.pointer (some ⟨g,0,none⟩))(f:tmps.getD 3 undef=v3)(i:tmps.getD 4 undef=v4)(j:P4 w g a b c d):(results Tryz.f36 tmps).run Tryz.prog w=.ok (.tuple #[.agg #[a,b,c,d],v3,v4]) w:=by
 have h:Tryz.f36.results=#[.cell 2 70,.tmp 3,.tmp 4]:=rfl;have k:tmps[2]?.getD undef=.pointer (some ⟨g,0,none⟩):=by simpa using e
 have l:tmps[3]?.getD undef=v3:=by simpa using f
 have m:tmps[4]?.getD undef=v4:=by simpa using i
 have n:=run_loadVar_row (P:=Tryz.prog) w g 70 70 #[a,b,c,d] (0,0) _ j Et rfl Fy;simp[results,h,k,l,m,asAddr,n]
theorem Sf(s:ByteArray)(w:World)(i:GN w):Calls Tryz.prog 36 #[.string s] w (KF s w):=by
 have k:P4 (w.alloc (.cells #[.bool false,.bool false,.slice none 0 0,.int .i64 0] 70)) w.heap.size (.bool false) (.bool false) (.slice none 0 0) (.int .i64 0):=AS w _;have l:AA [] w (w.alloc (.cells #[.bool false,.bool false,.slice none 0 0,.int .i64 0] 70)):=(AG [] w).alloc _;have m:=i.keep l (by simp);go_enter Tryz.func36,Tryz.ntmps36;go_wp2_with fail;refine(Sd s _ m).mono ?_;generalize w.alloc (.cells #[.bool false,.bool false,.slice none 0 0,.int .i64 0] 70)=z at*;rintro e w1⟨p,f⟩;have r:=k.keep p (by simp);have A:=k.lt;have u:=l.trans p;have B:∃a b c d x y,e=.returned (.tuple #[.agg #[.bool a,.bool b,c,.int .i64 d],.int .i64 x,.int .i64 y])∧c.oneCell'=true:=by
  rcases f with⟨_,h⟩|⟨_,q,_,h⟩
  ·exact⟨_,_,_,_,_,_,h,rfl⟩
  ·cases q with
   |bad j=>exact⟨_,_,_,_,_,_,h,rfl⟩
   |ok W j=>obtain⟨v,h,C,_⟩:=h;exact⟨_,_,_,_,_,_,h,C⟩
 obtain⟨a,b,c,d,x,y,rfl,D⟩:=B;have E:Hid ((60<s.size∧Ending.returned (.tuple #[.agg #[.bool a,.bool b,c,.int .i64 d],.int .i64 x,.int .i64 y])=.returned (.tuple #[.agg z4,.int .i64 0,.int .i64 1]))∨(s.size<=60∧∃q,B6 s q∧match q with
  | .ok W _=>∃v,Ending.returned (.tuple #[.agg #[.bool a,.bool b,c,.int .i64 d],.int .i64 x,.int .i64 y])=.returned (.tuple #[.agg #[.bool W.bg,.bool W.en,v,.int .i64 W.g],.int .i64 0,.int .i64 0])∧v.oneCell'=true∧AT w1 (fun g=>z.heap.size<=g) .ways W.x [v]
  | .bad j=>Ending.returned (.tuple #[.agg #[.bool a,.bool b,c,.int .i64 d],.int .i64 x,.int .i64 y])=.returned (.tuple #[.agg z4,.int .i64 j,.int .i64 2]))):=f
 have F:=He (x:=a) (y:=b) (n:=d) D;clear f i m;go_wp2_with(first|(refine Ae rfl 70 _ _ rfl w.heap.size _ rfl rfl _ _ r Fy rfl F ?_));have t:=(AG [w.heap.size] w1).setRow (g:=w.heap.size) (by simp) #[.bool a,.bool b,c,.int .i64 d];refine Ag (Se _ _ w.heap.size _ _ _ _ _ _ rfl rfl rfl (Aa _ _ _ _ _ _ r)) rfl ?_;refine⟨u.fresh t (by intro x G;simp at G;omega),?_⟩;rcases E.o with h|⟨H,q,I,h⟩
 ·exact AH h
 ·refine AE ⟨H,q,I,?_⟩;cases q with
  |bad j=>exact h
  |ok W j=>
   obtain⟨v,J,K,L⟩:=h;exact⟨v,J,K,(L.keep t (by intro y M;simp;omega)).mono (by intro y M _;omega)⟩
theorem Sh(s:ByteArray)(c:UInt8)(w:World):Calls Tryz.prog 192 #[.string s,.string ⟨#[c]⟩] w fun e w'=>e=.returned (.int .i64 (Lib.countByte s.data.toList c))∧w'=w:=by
 go_enter Tryz.func192,Tryz.ntmps192;go_wp2;rw[run_callFunc_extern Tryz.func231 (by kernel_rfl) (by kernel_rfl) (by kernel_rfl) (e:=Extern.BytealgCount.count) (by kernel_rfl),Lib.run_countString];simp only[Result.andThen];rw[Oper.upon_value];go_wp2;go_ret;exact⟨rfl,rfl⟩
def wd(P:Nat->Bool)(k:Nat):Nat->Nat
 |0=>0
 |n+1=>2^n*(P (64*k+n)).toNat+wd P k n
theorem Nz(P:Nat->Bool)(k n:Nat):wd P k n<2^n:=by
 induction n with
 |zero=>simp[wd]
 |succ n ih=>
  simp only[wd,Nat.pow_succ];cases P (64*k+n)<;>simp<;>omega
theorem GY(P:Nat->Bool)(k:Nat):∀n j,(wd P k n).testBit j=(decide (j<n)&&P (64*k+j)):=by
 intro n
 induction n with
 |zero=>intro j;simp[wd]
 |succ n ih=>
  intro j;have hlt:=Nz P k n;simp only[wd];rcases Nat.lt_trichotomy j n with h|h|h
  ·cases b:P (64*k+n)
   ·simp[ih,h,Nat.lt_succ_of_lt h]
   ·simp only[Bool.toNat_true,Nat.mul_one];rw[Nat.testBit_two_pow_add_gt h,ih];simp[h,Nat.lt_succ_of_lt h]
  ·subst h;have a:(wd P k j).testBit j=false:=Nat.testBit_lt_two_pow hlt;cases b:P (64*k+j)
   ·simp[a]
   ·simp only[Bool.toNat_true,Nat.mul_one];rw[Nat.testBit_two_pow_add_eq,a];simp
  ·have c:2^n*(P (64*k+n)).toNat+wd P k n<2^j:=by
    have:2^(n+1)<=2^j:=Nat.pow_le_pow_right (by omega) h;rw[Nat.pow_succ]at this;cases P (64*k+n)<;>simp<;>omega
   rw[Nat.testBit_lt_two_pow c];have:¬j<n+1:=by omega
   simp[this]
theorem N0{P Q:Nat->Bool}:∀{n:Nat},(∀j,j<n->P (64*k+j)=Q (64*k+j))->wd P k n=wd Q k n:=by
 intro n h;apply Nat.eq_of_testBit_eq;intro j;rw[GY,GY];by_cases a:j<n
 ·rw[h j a]
 ·simp[a]
theorem Si(P Q:Nat->Bool)(k n:Nat):(wd P k n|||wd Q k n)=wd (fun j=>P j||Q j) k n:=by
 apply Nat.eq_of_testBit_eq;intro j;rw[Nat.testBit_or,GY,GY,GY];cases decide (j<n)<;>simp
theorem Sj(P:Nat->Bool)(h:j<n):(wd P k n|||2^j)=wd (fun m=>P m||decide (m=64*k+j)) k n:=by
 apply Nat.eq_of_testBit_eq;intro m;rw[Nat.testBit_or,GY,GY,Nat.testBit_two_pow];by_cases e:m<n
 ·by_cases a:j=m
  ·subst a;simp[e]
  ·have:¬m=j:=fun h=>a h.symm
   simp[e,a,this]
 ·have:¬j=m:=by omega
  simp[e,this]
theorem Sk(P:Nat->Bool)(h:j<n):wd P k n/2^j%2=(P (64*k+j)).toNat:=by
 have:=GY P k n j;rw[Nat.testBit_eq_decide_div_mod_eq]at this;have b:wd P k n/2^j%2<2:=Nat.mod_lt _ (by decide);generalize wd P k n/2^j%2=z at*;cases a:P (64*k+j)
 ·rw[a]at this;simp at this;simp;omega
 ·rw[a]at this;simp[h]at this;simp[this]
theorem N1:∃n:Nat,n=64:=⟨64,rfl⟩
noncomputable def wbits:Nat:=Classical.choose N1
theorem JQ:wbits=64:=Classical.choose_spec N1
noncomputable def wk (P:Nat->Bool) (k:Nat):Nat:=wd P k wbits
theorem KH(P:Nat->Bool)(k:Nat):wk P k<18446744073709551616:=by
 have:=Nz P k wbits;have e:(2:Nat)^wbits=18446744073709551616:=by rw[JQ]
 rw[e]at this;exact this
theorem Sl(P Q:Nat->Bool)(k:Nat):bits .or .u64 (wk P k:Int) (wk Q k:Int)=(wk (fun j=>P j||Q j) k:Nat):=
 (u64_or_nat _ _ (KH P k) (KH Q k)).trans (B4 (fun z:Nat=>(z:Int)) (Si P Q k wbits))
theorem N2(P:Nat->Bool)(h:j<64):bits .or .u64 (wk P k:Int) ((2^j:Nat):Int)=(wk (fun m=>P m||decide (m=64*k+j)) k:Nat):=by
 have a:2^j<18446744073709551616:=BL (Nat.pow_lt_pow_right (by omega) h) (by decide);exact(u64_or_nat _ _ (KH P k) a).trans (B4 (fun z:Nat=>(z:Int)) (Sj P (by rw[JQ];exact h)))
theorem N3(P:Nat->Bool){k':Nat}(h:j<64)(a:k≠k'):wk (fun m=>P m||decide (m=64*k'+j)) k=wk P k:=by
 apply N0;intro m hm;rw[JQ]at hm;have:¬64*k+m=64*k'+j:=by omega
 simp[this]
theorem Ec{P Q:Nat->Bool}(h:∀j,j<64->P (64*k+j)=Q (64*k+j)):wk P k=wk Q k:=N0 fun j a=>h j (by rw[JQ]at a;exact a)
theorem N4(P:Nat->Bool)(h:j<64):(bits .and .u64 ((wk P k:Int)/2^j) 1==1)=P (64*k+j):=by
 have a:((wk P k:Int)/2^j)=((wk P k/2^j:Nat):Int):=by simp
 have b:wk P k/2^j<18446744073709551616:=Nat.lt_of_le_of_lt (Nat.div_le_self _ _) (KH P k);have c:bits .and .u64 ((wk P k/2^j:Nat):Int) 1=((wk P k/2^j%2:Nat):Int):=by
  refine(u64_and_nat _ 1 b (by decide)).trans (B4 (fun z:Nat=>(z:Int)) ?_);exact Nat.and_one_is_mod _
 rw[a,c,show wk P k/2^j%2=(P (64*k+j)).toNat from Sk P (by rw[JQ];exact h)];cases P (64*k+j)<;>rfl
theorem Sm(k:Nat):wk (fun _=>false) k=0:=by
 have:∀n,wd (fun _=>false) k n=0:=by
  intro n
  induction n with
  |zero=>rfl
  |succ n ih=>simp[wd,ih]
 exact this wbits
noncomputable def pv (P:Nat->Bool):Value:=.agg #[.int .u64 (wk P 0),.int .u64 (wk P 1)]
noncomputable def mc (n:Nat) (f:Nat->Nat->Bool):List Value:=(List.range (2*n)).map fun q=> .int .u64 (wk (f (q/2)) (q%2))
theorem KI(n:Nat)(f:Nat->Nat->Bool):(mc n f).length=2*n:=by simp[mc]
theorem JR{q:Nat}(f:Nat->Nat->Bool)(h:q<2*n):(mc n f)[q]? =some (.int .u64 (wk (f (q/2)) (q%2))):=by simp[mc,h]
theorem Sn{f g:Nat->Nat->Bool}(h:∀i j,i<n->j<128->f i j=g i j):mc n f=mc n g:=by
 unfold mc;apply List.map_congr_left;intro q a;simp only[List.mem_range]at a;have:wk (f (q/2)) (q%2)=wk (g (q/2)) (q%2):=Ec fun j b=>h (q/2) _ (by omega) (by omega)
 rw[this]
theorem So(f g:Nat->Nat->Bool)(hi:i<n)(p:k<2)(v:Value)(d:v=.int .u64 (wk (g i) k))(h:∀a,a≠i->∀j,g a j=f a j)(hw:∀k',k'≠k->wk (g i) k'=wk (f i) k'):(mc n f).set (2*i+k) v=mc n g:=by
 apply Hd;intro q;rw[List.getElem?_set];by_cases c:q<2*n
 ·rw[JR g c,JR f c,KI];by_cases e:2*i+k=q
  ·rw[AL e,AL (by omega)];have b:q/2=i:=by omega
   have l:q%2=k:=by omega
   rw[d,b,l]
  ·rw[AK e];by_cases b:q/2=i
   ·rw[b,hw (q%2) (by omega)]
   ·have:wk (f (q/2)) (q%2)=wk (g (q/2)) (q%2):=Ec fun j _=>(h _ b _).symm
    rw[this]
 ·have m:(mc n f)[q]? =none:=by rw[List.getElem?_eq_none_iff,KI];omega
  have o:(mc n g)[q]? =none:=by rw[List.getElem?_eq_none_iff,KI];omega
  have e:¬2*i+k=q:=by omega
  rw[AK e,m,o]
def MV(w:World)(v:Value)(n:Nat)(f:Nat->Nat->Bool):Prop:=w.ownsRow 0 141 2 v n (mc n f)
theorem MV.keep{w':World}{S:List Nat}{v:Value}{f:Nat->Nat->Bool}(h:MV w v n f)(a:AA S w w')(b:∀g,v.ownBlock=some g->g∉S):MV w' v n f:=Ep h a b
theorem MV.ext{v:Value}{f g:Nat->Nat->Bool}(h:MV w v n f)(e:∀i j,i<n->j<128->f i j=g i j):MV w v n g:=by
 unfold MV at*;rw[<-Sn e];exact h
theorem MV.at{f:Nat->Nat->Bool}(h:MV w (.slice (some ⟨g,0,none⟩) n cap) n f)(hi:i<n):w.cell? ⟨g,i*2,none⟩=some (.int .u64 (wk (f i) 0))∧w.cell? ⟨g,i*2+1,none⟩=some (.int .u64 (wk (f i) 1)):=by
 constructor
 ·rw[BX h (i*2) (by omega),JR f (by omega)];rw[show i*2/2=i by omega,show i*2%2=0 by omega]
 ·rw[BX h (i*2+1) (by omega),JR f (by omega)];rw[show(i*2+1)/2=i by omega,show(i*2+1)%2=1 by omega]
theorem MV.frozen{f:Nat->Nat->Bool}(h:MV w (.slice (some ⟨g,0,none⟩) n cap) n f)(j:Nat):w.frozen? ⟨g,j,none⟩=false:=D8 h j
theorem Sp(P:Nat->Bool)(j:Nat)(g:j<128)(w:World):Calls Tryz.prog 73 #[pv P,.int .i64 j] w fun e w'=>e=.returned (.bool (P j))∧AA [] w w':=by
 have f:(0:Int)<=(j:Int):=by omega
 unfold pv;by_cases h:j<64
 ·have b:(j:Int)/64=0:=by omega
  have c:(j:Int)%64=j:=by omega
  have a:Hid ((bits .and .u64 ((wk P 0:Int)/2^j) 1==1)=P j):=by have:=N4 P (k:=0) h;rw[show 64*0+j=j by omega]at this;exact this
  go_enter Tryz.func73,Tryz.ntmps73;go_wp2_with fail;go_ret;exact⟨by rw[a.o];rfl,(AG [] w).alloc _⟩
 ·obtain⟨m,rfl⟩:∃m,j=64+m:=⟨j-64,by omega⟩;have b:((64+m:Nat):Int)/64=1:=by omega
  have c:((64+m:Nat):Int)%64=m:=by omega
  have a:Hid ((bits .and .u64 ((wk P 1:Int)/2^m) 1==1)=P (64+m)):=N4 P (k:=1) (by omega);obtain⟨J,d⟩:∃J:Int,J=((64+m:Nat):Int):=⟨_,rfl⟩;rw[<-d]at f b c⊢;clear d;go_enter Tryz.func73,Tryz.ntmps73;go_wp2_with fail;go_ret;exact⟨by rw[a.o];rfl,(AG [] w).alloc _⟩
theorem N5(h:j<64):IntKind.u64.wrap (2^j)=((2^j:Nat):Int):=by
 have a:2^j<18446744073709551616:=BL (Nat.pow_lt_pow_right (by omega) h) (by decide);have e:(2:Int)^j=((2^j:Nat):Int):=by simp
 rw[e];generalize 2^j=z at*;have:IntKind.u64.wrap (z:Int)=(z:Int)%18446744073709551616:=by simp[IntKind.wrap,IntKind.bits,IntKind.signed]
 rw[this];omega
theorem MV.put{f f':Nat->Nat->Bool}(h:MV w (.slice (some ⟨g,0,none⟩) n cap) n f)(hi:i<n)(b:k<2)(v:Value)(c:v=.int .u64 (wk (f' i) k))(d:∀a,a≠i->∀j,f' a j=f a j)(hw:∀k',k'≠k->wk (f' i) k'=wk (f i) k'):MV (w.setCell ⟨g,i*2+k,none⟩ v) (.slice (some ⟨g,0,none⟩) n cap) n f':=by
 have:=(Es h (i*2+k) v).1;rw[Nat.mul_comm i 2,So f f' hi b v c d hw]at this;rw[Nat.mul_comm i 2];exact this
theorem N6(g cap n i j:Nat)(f:Nat->Nat->Bool)(hi:i<n)(d:j<128)(w:World)(h:MV w (.slice (some ⟨g,0,none⟩) n cap) n f):Calls Tryz.prog 211 #[.pointer (some ⟨g,i*2,none⟩),.int .i64 j] w fun e w'=>e=.returned (.tuple #[])∧MV w' (.slice (some ⟨g,0,none⟩) n cap) n (fun a b=>f a b||(decide (a=i)&&decide (b=j)))∧AA [g] w w':=by
 obtain⟨A,B⟩:=h.at hi;have C:=h.frozen (i*2);have D:=h.frozen (i*2+1);have z:(0:Int)<=(j:Int):=by omega
 by_cases d:j<64
 ·have v:(j:Int)/64=0:=by omega
  have x:(j:Int)%64=j:=by omega
  have l:Hid (bits .or .u64 (wk (f i) 0:Int) (IntKind.u64.wrap (2^j))=(wk (fun m=>f i m||decide (m=j)) 0:Nat)):=by
   have:=N2 (f i) (k:=0) d;rw[show 64*0+j=j by omega]at this;show _=_;rw[N5 d];exact this
  have r:Hid (MV w (.slice (some ⟨g,0,none⟩) n cap) n f):=h;have s:Hid (j<64):=d;have t:Hid (i<n):=hi;clear h d hi;go_enter Tryz.func211,Tryz.ntmps211;go_wp2_with fail
  go_region
  all_goals go_end0
  all_goals
   refine⟨rfl,?_,((AG [g] w).setCell (p:=⟨g,i*2,none⟩) (by simp) _).drewN 1⟩;refine MV.put (f:=f) r.o t.o (k:=0) (by omega) _ ?_ ?_ ?_
   ·rw[l.o];have:wk (fun m=>f i m||decide (m=j)) 0=wk (fun b=>f i b||(decide (i=i)&&decide (b=j))) 0:=Ec fun q _=>by simp
    rw[this]
   ·intro a u q;simp[u]
   ·intro k' c;have:=N3 (f i) (k:=k') (k':=0) s.o c;refine Eq.trans (Ec fun q _=>?_) this;simp
 ·obtain⟨m,rfl⟩:∃m,j=64+m:=⟨j-64,by omega⟩;have v:((64+m:Nat):Int)/64=1:=by omega
  have x:((64+m:Nat):Int)%64=m:=by omega
  have hm:m<64:=by omega
  have l:Hid (bits .or .u64 (wk (f i) 1:Int) (IntKind.u64.wrap (2^m))=(wk (fun q=>f i q||decide (q=64+m)) 1:Nat)):=by
   have:=N2 (f i) (k:=1) hm;show _=_;rw[N5 hm];exact this
  obtain⟨J,y⟩:∃J:Int,J=((64+m:Nat):Int):=⟨_,rfl⟩;rw[<-y]at z v x⊢;have r:Hid (MV w (.slice (some ⟨g,0,none⟩) n cap) n f):=h;have s:Hid (m<64):=hm;have t:Hid (i<n):=hi;clear y h d hm hi;go_enter Tryz.func211,Tryz.ntmps211;go_wp2_with fail
  go_region
  all_goals go_end0
  all_goals
   refine⟨rfl,?_,((AG [g] w).setCell (p:=⟨g,i*2+1,none⟩) (by simp) _).drewN 1⟩;refine MV.put (f:=f) r.o t.o (k:=1) (by omega) _ ?_ ?_ ?_
   ·rw[l.o];have:wk (fun q=>f i q||decide (q=64+m)) 1=wk (fun b=>f i b||(decide (i=i)&&decide (b=64+m))) 1:=Ec fun q _=>by simp
    rw[this]
   ·intro a u q;simp[u]
   ·intro k' c;have:=N3 (f i) (k:=k') (k':=1) s.o c;refine Eq.trans (Ec fun q _=>?_) this;simp
def EO(f:Nat->Nat->Bool)(i:Nat)(Q:Nat->Bool)(k:Nat):Nat->Nat->Bool:=fun a b=>f a b||(decide (a=i)&&(decide (b<64*k)&&Q b))
theorem N7{f:Nat->Nat->Bool}{Q:Nat->Bool}(h:MV w (.slice (some ⟨g,0,none⟩) n cap) n (EO f i Q k))(hi:i<n)(b:k<2):MV (w.setCell ⟨g,i*2+k,none⟩ (.int .u64 (bits .or .u64 (wk (EO f i Q k i) k:Int) (wk Q k:Int)))) (.slice (some ⟨g,0,none⟩) n cap) n (EO f i Q (k+1)):=by
 refine MV.put h hi b _ ?_ ?_ ?_
 ·rw[Sl];have:wk (fun j=>EO f i Q k i j||Q j) k=wk (EO f i Q (k+1) i) k:=Ec fun j c=>by
   have d:¬64*k+j<64*k:=by omega
   have e:64*k+j<64*(k+1):=by omega
   simp[EO,d,e]
  rw[this]
 ·intro a l j;simp[EO,l]
 ·intro k' m;apply Ec;intro j c;have:(64*k'+j<64*(k+1))↔(64*k'+j<64*k):=by omega
  simp[EO,this]
theorem Sq(g cap n i:Nat)(f:Nat->Nat->Bool)(Q:Nat->Bool)(hi:i<n)(w:World)(h:MV w (.slice (some ⟨g,0,none⟩) n cap) n f):Calls Tryz.prog 176 #[.pointer (some ⟨g,i*2,none⟩),pv Q] w fun e w'=>e=.returned (.tuple #[])∧MV w' (.slice (some ⟨g,0,none⟩) n cap) n (fun a b=>f a b||(decide (a=i)&&Q b))∧AA [g] w w':=by
 have d:g<w.heap.size:=(A3 h g rfl).2;have c:=AS w (.cells #[.int .u64 (wk Q 0),.int .u64 (wk Q 1)] 141);have z:=(AG [g] w).alloc (.cells #[.int .u64 (wk Q 0),.int .u64 (wk Q 1)] 141);have A:MV (w.alloc (.cells #[.int .u64 (wk Q 0),.int .u64 (wk Q 1)] 141)) (.slice (some ⟨g,0,none⟩) n cap) n (EO f i Q 0):=
  (h.keep ((AG [] w).alloc _) (by simp)).ext fun a b _ _=>by simp[EO]
 unfold pv;go_enter Tryz.func176,Tryz.ntmps176;go_wp2_with fail;generalize(w.alloc (.cells #[.int .u64 (wk Q 0),.int .u64 (wk Q 1)] 141))=W at*;obtain⟨x,v⟩:=AQ w.heap.size;rw[<-v]at c d⊢;clear v;have B:W.cell? ⟨x,0,none⟩=some (.int .u64 (wk Q 0)):=by simp[World.cell?,c]
 have C:W.cell? ⟨x,1,none⟩=some (.int .u64 (wk Q 1)):=by simp[World.cell?,c]
 have j:x<W.heap.size:=(AN.1 c).1;have l:x≠g:=by omega
 clear c d;go_loopw [4,5] (fun _ q wr=>∃k:Nat,k<=2∧q=.int .i64 k∧MV wr (.slice (some ⟨g,0,none⟩) n cap) n (EO f i Q k)∧AA [g] W wr) (fun _ q _=>2-(intOf q).toNat)
 case atStart=>exact⟨0,by omega,rfl,A,AG _ _⟩
 case round=>
  obtain⟨k,s,rfl,m,r⟩:=hrel;have E:wr.cell? ⟨x,0,none⟩=some (.int .u64 (wk Q 0)):=(Ad (r.block x j (by simp[l]))).trans B;have F:wr.cell? ⟨x,1,none⟩=some (.int .u64 (wk Q 1)):=(Ad (r.block x j (by simp[l]))).trans C;obtain⟨G,H⟩:=m.at hi;have I:=m.frozen (i*2);have J:=m.frozen (i*2+1);have t:Hid (MV wr (.slice (some ⟨g,0,none⟩) n cap) n (EO f i Q k)):=m;have y:Hid (i<n):=hi;have u:Hid (AA [g] W wr):=r;clear m r;have D:k=0∨k=1∨k=2:=by omega
  rcases D with rfl|rfl|rfl
  ·clear hi s;go_wp2_with fail
   go_region
   go_wp2_with fail;go_roundw
   case rel=>exact⟨1,by omega,rfl,N7 t.o y.o (by omega),(u.o.setCell (p:=⟨g,i*2,none⟩) (by simp) _).drewN 1⟩
   case measure=>simp[intOf]
  ·clear hi s;go_wp2_with fail
   go_region
   go_wp2_with fail;go_roundw
   case rel=>exact⟨2,by omega,rfl,N7 t.o y.o (by omega),(u.o.setCell (p:=⟨g,i*2+1,none⟩) (by simp) _).drewN 1⟩
   case measure=>simp[intOf]
  ·clear hi s;go_wp2_with fail;go_end0;exact⟨rfl,t.o.ext fun a b _ hb=>by
    have:b<64*2:=by omega
    simp[EO,this],z.trans u.o⟩
theorem LH(g cap n i:Nat)(f:Nat->Nat->Bool)(Q:Nat->Bool)(hi:i<n)(w:World)(h:MV w (.slice (some ⟨g,0,none⟩) n cap) n f):Calls Tryz.prog 176 #[.pointer (some ⟨g,i*2,none⟩),.agg #[.int .u64 (wk Q 0),.int .u64 (wk Q 1)]] w fun e w'=>e=.returned (.tuple #[])∧MV w' (.slice (some ⟨g,0,none⟩) n cap) n (fun a b=>f a b||(decide (a=i)&&Q b))∧AA [g] w w':=
 Sq g cap n i f Q hi w h
theorem GZ(P:Nat->Bool)(j:Nat)(a:j<128)(w:World):Calls Tryz.prog 73 #[.agg #[.int .u64 (wk P 0),.int .u64 (wk P 1)],.int .i64 j] w fun e w'=>e=.returned (.bool (P j))∧AA [] w w':=Sp P j a w
