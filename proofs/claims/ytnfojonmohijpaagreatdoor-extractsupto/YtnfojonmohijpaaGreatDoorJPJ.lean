/-
  DERIVED. The contract of the program's addRange. Conditions: the text is at most 60 bytes long, the place is within it, the variable classNames holds the seven names, the parser, the set and that variable lie apart.
-/
import Derived.Test.YtnfojonmohijpaaGreatDoorJRS
import Derived.Laws.Tables
import Derived.Great.BuildSlice
import Derived.Deep.RegionWith
import Derived.RegionDies
set_option linter.all false
set_option maxRecDepth 100000
set_option maxHeartbeats 8000000
namespace Go.Proofs.YtnfojonmohijpaaGreatDoor
open Go.RowKit
variable{s:ByteArray}{c:Int}{i least:Nat}{p:QS}{w:World}
def Dr:=@World.cell?_setCell_other
def EM:=@Tryz.underlying206
def Ae:=@wpList_store_row
def Au:=@results_cell_row
def DC:=@Option.some.inj
def C2:=@heap_alloc2_old
def Df:=@heap_alloc2_new
def GV:=@Bool.or_eq_true
def Aa:=@setRow_heap
def EPost(b:Nat)(p:QS)(w:World)(r:R Unit)(e:Ending)(w':World):Prop:=
 AA [b] w w'∧match r with
  | .ok _ j=>e=.returned (.tuple #[])∧QB w' b {p with ix:=j}
  | .bad j=>e=fault j
theorem IK(b:Nat)(p:QS)(c:Int)(d:0<=c)(w:World)(f:QB w b p)(hle:p.ix<=p.s.size)(g:p.s.size<=60):Calls Tryz.prog 221 #[.pointer (some ⟨b,0,none⟩),.int .u8 c] w (EPost b p w (A7 p.s c p.ix)):=by
 by_cases h:p.cur=c
 ·refine(Gx b p c d w f g h).mono ?_;rintro e w'⟨rfl,i,a⟩;refine⟨a,?_⟩;unfold A7;rw[AL (show at' p.s p.ix=c from h)];exact⟨rfl,i⟩
 ·refine(Ky b p c d w f hle g h).mono ?_;rintro e w'⟨rfl,a⟩;refine⟨a,?_⟩;unfold A7;rw[AK (show¬at' p.s p.ix=c from h)]
theorem Nb{j:Nat}{u:Unit}(a:0<=c)(h:A7 s c i=.ok u j):i<j∧j<=s.size:=by
 unfold A7 at h;by_cases e:at' s i=c
 ·rw[AL e]at h;cases h;have:i<s.size:=Ap (by omega);omega
 ·rw[AK e]at h;cases h
def Rr(b h:Nat)(p:QS)(f:Nat->Bool)(w:World)(r:R (Nat->Bool))(e:Ending)(w':World):Prop:=
 AA [b,h] w w'∧match r with
  | .ok r j=>e=.returned (.tuple #[])∧QB w' b {p with ix:=j}∧HQ w' h (fun n=>f n||r n)
  | .bad j=>e=fault j
theorem Er(h:at' p.s p.ix=c):decide (p.cur=c)=true∧p.took c={p with ix:=p.ix+1}:=by
 have a:p.cur=c:=h;exact⟨by simpa using a,by unfold QS.took;rw[AL a]⟩
theorem EN(h:¬at' p.s p.ix=c):decide (p.cur=c)=false∧p.took c=p:=by
 have a:¬p.cur=c:=h;exact⟨by simpa using a,by unfold QS.took;rw[AK a]⟩
theorem Nc(b h:Nat)(p:QS)(f:Nat->Bool)(w:World)(hp:QB w b p)(hh:HQ w h f)(hs:p.s.size<=60)(hle:p.ix<=p.s.size)(hg:GN w)(an:b≠6)(ay:b≠h):Calls Tryz.prog 275 #[.pointer (some ⟨b,0,none⟩),.pointer (some ⟨h,0,none⟩)] w (Rr b h p f w (Am p.s p.ix)):=by
 go_enter Tryz.func275,Tryz.ntmps275;go_wp2_with fail;refine(DJ b p 91 (by omega) _ hp hle hs).mono ?_;rintro e w1⟨rfl,O,aa⟩;have ah:HQ w1 h f:=hh.keep aa (by simp;omega);have ao:GN w1:=hg.keep aa (by simp;omega);have ai:AA [b,h] w w1:=aa.mono (by simp);by_cases t:at' p.s p.ix=91
 ·obtain⟨hd,C⟩:=Er t;rw[C]at O;have hlt:p.ix+1<=p.s.size:=Ap (by omega);have HA:Hid (Am p.s p.ix=((A7 p.s 58 (p.ix+1)).bind fun _ j=>(BR p.s 6 [] j).bind fun k j=>(A7 p.s 58 j).bind fun _ j=>(A7 p.s 93 j).bind fun _ j=> .ok k j).bind fun k j=> .ok (fun n:Nat=>BC k n) j):=by
   show Am p.s p.ix=_;unfold Am;rw[AL t];rfl
  clear t C;rw[hd];go_wp2_with fail;refine(IK b {p with ix:=p.ix+1} 58 (by omega) _ O hlt hs).mono ?_;rintro e w2⟨v,i⟩;have ab:HQ w2 h f:=ah.keep v (by simp;omega);have ap:GN w2:=ao.keep v (by simp;omega);have D:AA [b,h] w w2:=ai.trans (v.mono (by simp));have E:∀r,A7 p.s 58 (p.ix+1)=r->A7 (QS.s {p with ix:=p.ix+1}) 58 (QS.ix {p with ix:=p.ix+1})=r:=fun r h=>h
  cases d:A7 p.s 58 (p.ix+1)with
  |bad j=>
   rw[E _ d]at i;subst i;simp only[fault];exact⟨rfl,D,by rw[HA.o,d];rfl⟩
  |ok u g=>
   rw[E _ d]at i;obtain⟨rfl,ac⟩:=i;have P:=(Nb (by omega) d).2;have HB:Hid (Am p.s p.ix=((BR p.s 6 [] g).bind fun k j=>(A7 p.s 58 j).bind fun _ j=>(A7 p.s 93 j).bind fun _ j=> .ok k j).bind fun k j=> .ok (fun n:Nat=>BC k n) j):=by
    show Am p.s p.ix=_;rw[HA.o,d];rfl
   clear d HA E;go_wp2_with fail;refine(Ri b {p with ix:=g} _ ac hs P ap an).mono ?_;rintro e w3⟨hk3,Q⟩;have F:HQ w3 h f:=ab.keep hk3 (by simp;omega);have G:AA [b,h] w w3:=D.trans (hk3.mono (by simp));have H:∀r,BR p.s 6 [] g=r->BR (QS.s {p with ix:=g}) 6 [] (QS.ix {p with ix:=g})=r:=fun r h=>h
   cases x:BR p.s 6 [] g with
   |bad j=>
    rw[H _ x]at Q;subst Q;simp only[fault];exact⟨rfl,G,by rw[HB.o,x];rfl⟩
   |ok k j3=>
    rw[H _ x]at Q;obtain⟨rfl,q⟩:=Q;have ad:=MX 6 x;have aj:=ad.2.1 P;have T:Hid (Am p.s p.ix=((A7 p.s 58 j3).bind fun _ j=>(A7 p.s 93 j).bind fun _ j=> .ok k j).bind fun k j=> .ok (fun n:Nat=>BC k n) j):=by
     show Am p.s p.ix=_;rw[HB.o,x];rfl
    have AC:=fun w1 h1=>Rq h k ad.2.2 f w1 h1
    clear x HB H ad;generalize AJ (nm k)=S at*;go_wp2_with fail;refine(AC _ F).mono ?_;rintro e w4⟨rfl,ae,hk4⟩;have af:QB w4 b {p with ix:=j3}:=q.keep hk4 (by simp;omega);have U:AA [b,h] w w4:=G.trans (hk4.mono (by simp));clear AC F q hk4;go_wp2_with fail;refine(IK b {p with ix:=j3} 58 (by omega) _ af aj hs).mono ?_;rintro e w5⟨l,V⟩;have I:=ae.keep l (by simp;omega);have y:AA [b,h] w w5:=U.trans (l.mono (by simp));have J:∀r,A7 p.s 58 j3=r->A7 (QS.s {p with ix:=j3}) 58 (QS.ix {p with ix:=j3})=r:=fun r h=>h
    cases z:A7 p.s 58 j3 with
    |bad j=>
     rw[J _ z]at V;subst V;simp only[fault];exact⟨rfl,y,by rw[T.o,z];rfl⟩
    |ok u5 j5=>
     rw[J _ z]at V;obtain⟨rfl,K⟩:=V;have aq:=(Nb (by omega) z).2;have HD:Hid (Am p.s p.ix=((A7 p.s 93 j5).bind fun _ j=>R.ok k j).bind fun k j=> .ok (fun n:Nat=>BC k n) j):=by
      show Am p.s p.ix=_;rw[T.o,z];rfl
     clear z T J;go_wp2_with fail;refine(IK b {p with ix:=j5} 93 (by omega) _ K aq hs).mono ?_;rintro e w6⟨ak,W⟩;have ar:=I.keep ak (by simp;omega);have al:AA [b,h] w w6:=y.trans (ak.mono (by simp));have L:∀r,A7 p.s 93 j5=r->A7 (QS.s {p with ix:=j5}) 93 (QS.ix {p with ix:=j5})=r:=fun r h=>h
     cases M:A7 p.s 93 j5 with
     |bad j=>
      rw[L _ M]at W;subst W;simp only[fault];exact⟨rfl,al,by rw[HD.o,M];rfl⟩
     |ok u6 j6=>
      rw[L _ M]at W;obtain⟨rfl,au⟩:=W;have HE:Hid (Am p.s p.ix=.ok (fun n:Nat=>BC k n) j6):=by
       show Am p.s p.ix=_;rw[HD.o,M];rfl
      clear M HD L;go_wp2_with fail;refine Ag (results_none rfl _ _ _) rfl ?_;refine⟨al,?_⟩;rw[HE.o];exact⟨rfl,au,ar⟩
 ·obtain⟨hd,C⟩:=EN t;rw[C]at O;have HA:Hid (Am p.s p.ix=(Ar p.s 0 p.ix).bind fun a j=>if at' p.s j=45 then(Ar p.s a (j+1)).bind fun c k=> .ok (A0 a c) k else .ok (A0 a a) j):=by
   show Am p.s p.ix=_;unfold Am;rw[AK t]
  clear t C;rw[hd];go_wp2_with fail;refine(Mv b p 0 _ O hs hle (by omega) (by omega)).mono ?_;rintro e w2⟨v,i⟩;have ab:HQ w2 h f:=ah.keep v (by simp;omega);have D:AA [b,h] w w2:=ai.trans (v.mono (by simp));cases d:Ar p.s 0 p.ix with
  |bad j=>
   rw[d]at i;subst i;simp only[fault];exact⟨rfl,D,by rw[HA.o,d];rfl⟩
  |ok a g=>
   rw[d]at i;obtain⟨rfl,ac⟩:=i;obtain⟨_,P,X,Y⟩:=Ix d;have HB:Hid (Am p.s p.ix=if at' p.s g=45 then(Ar p.s a (g+1)).bind fun c k=> .ok (A0 a c) k else .ok (A0 a a) g):=by
    show Am p.s p.ix=_;rw[HA.o,d];rfl
   clear d HA;go_wp2_with fail;refine(DJ b {p with ix:=g} 45 (by omega) _ ac P hs).mono ?_;rintro e w3⟨rfl,q,hk3⟩;have F:HQ w3 h f:=ab.keep hk3 (by simp;omega);have G:AA [b,h] w w3:=D.trans (hk3.mono (by simp));by_cases A:at' p.s g=45
   ·obtain⟨ag,m⟩:=Er (p:={p with ix:=g}) A;rw[m]at q;have am:g+1<=p.s.size:=Ap (by omega);have T:Hid (Am p.s p.ix=(Ar p.s a (g+1)).bind fun c k=> .ok (A0 a c) k):=by
     show Am p.s p.ix=_;rw[HB.o,AL A]
    clear A m HB;rw[ag];go_wp2_with fail;refine(Mv b {p with ix:=g+1} a _ q hs am X Y).mono ?_;rintro e w4⟨hk4,Z⟩;have ae:HQ w4 h f:=F.keep hk4 (by simp;omega);have U:AA [b,h] w w4:=G.trans (hk4.mono (by simp));have N:∀r,Ar p.s a (g+1)=r->Ar (QS.s {p with ix:=g+1}) a (QS.ix {p with ix:=g+1})=r:=fun r h=>h
    cases B:Ar p.s a (g+1)with
    |bad j=>
     rw[N _ B]at Z;subst Z;simp only[fault];exact⟨rfl,U,by rw[T.o,B];rfl⟩
    |ok c j4=>
     rw[N _ B]at Z;obtain⟨rfl,af⟩:=Z;obtain⟨_,az,aw,ax⟩:=Ix B;have HD:Hid (Am p.s p.ix=.ok (A0 a c) j4):=by
      show Am p.s p.ix=_;rw[T.o,B];rfl
     clear B T N;go_wp2_with fail;refine(Dd h f a c _ ae X Y aw ax).mono ?_;rintro e w5⟨rfl,I,l⟩;have K:QB w5 b {p with ix:=j4}:=af.keep l (by simp;omega);have y:AA [b,h] w w5:=U.trans (l.mono (by simp));go_wp2_with fail;go_end0;refine⟨y,?_⟩;rw[HD.o];exact⟨rfl,K,I⟩
   ·obtain⟨ag,m⟩:=EN (p:={p with ix:=g}) A;rw[m]at q;have T:Hid (Am p.s p.ix=.ok (A0 a a) g):=by
     show Am p.s p.ix=_;rw[HB.o,AK A]
    clear A m HB;rw[ag];go_wp2_with fail;refine(Dd h f a a _ F X Y X Y).mono ?_;rintro e w5⟨rfl,I,l⟩;have K:QB w5 b {p with ix:=g}:=q.keep l (by simp;omega);have y:AA [b,h] w w5:=G.trans (l.mono (by simp));go_wp2_with fail;go_end0;refine⟨y,?_⟩;rw[T.o];exact⟨rfl,K,I⟩
theorem AA.setRow{S:List Nat}{a:World}(h:AA S a w){g:Nat}(b:g∈S∨a.heap.size<=g)(cs:Array Value):AA S a (w.setRow g cs):=
 ⟨h.os,h.tape,h.output,by simpa using h.size,fun k d c=>by
  rw[setRow_other]
  ·exact h.block k d c
  ·rintro rfl;rcases b with b|b
   ·exact c b
   ·omega⟩
theorem Rs(w:World):(Instr.alloc 206 true (.tuple #[])).run Tryz.prog w=.ok (.pointer (some ⟨w.heap.size,0,none⟩)) (w.alloc (.cells (AZ fun _=>false) 206)):=by kernel_rfl
theorem G8{ops:Array Oper}{rest:List Oper}{o:Oper}{a:Act}{Q:Exit->Act->World->Prop}(b:o.guard=none)(c:o.op=.alloc 206)(d:Option Tmp)(hd:o.dst=d)(h:wpList Tryz.prog ops Q rest (a.put d (.pointer (some ⟨w.heap.size,0,none⟩))) (w.alloc (.cells (AZ fun _=>false) 206))):wpList Tryz.prog ops Q (o::rest) a w:=by
 subst hd;refine wpList_plain b fun K e=>?_
 unfold Oper.wp execOp;simp only[c,Sem.run_bind,Rs,Sem.run_pure,Result.andThen_ok];exact e _ _ h
theorem G9(f:Nat->Bool):(AZ f).all (·.oneCell')=true:=by
 rw[Array.all_eq_true];intro i hi;have a:i<256:=by rw[Bo]at hi;exact hi
 have:=Ff f a;rw[Array.getElem?_eq_getElem hi]at this;rw[DC this];rfl
theorem Tryz.infoSet:(Tryz.prog.info? 206).map (·.size)=some 256:=by kernel_rfl
theorem C3(f:Nat->Bool):(Tryz.prog.info? 206).map (·.size)=some (AZ f).size:=by rw[Bo];exact Tryz.infoSet
theorem Nf(f:Nat->Bool)(w:World):Calls Tryz.prog 252 #[.agg (AZ f)] w fun e w'=>e=.returned (.agg (AZ fun n=> !f n))∧AA [] w w':=by
 have b:HQ ((w.alloc (.cells (AZ f) 206)).alloc (.cells (AZ fun _=>false) 206)) w.heap.size f:=C2 w _ _;have c:HQ ((w.alloc (.cells (AZ f) 206)).alloc (.cells (AZ fun _=>false) 206)) (w.heap.size+1) (fun _=>false):=Df w _ _;have h:AA [] w ((w.alloc (.cells (AZ f) 206)).alloc (.cells (AZ fun _=>false) 206)):=((AG [] w).alloc _).alloc _;generalize x:AZ f=C at*;go_enter Tryz.func252,Tryz.ntmps252;go_wp2_with(first|(refine G8 rfl rfl (some 2) rfl ?_));generalize(w.alloc (.cells C 206)).alloc (.cells (AZ fun _=>false) 206)=W at*;obtain⟨g,hgq⟩:=An w.heap.size;rw[hgq]at b c⊢;go_loopw [4] (fun q wr=>∃m:Nat,m<=256∧q=.int .i64 m∧HQ wr g (fun n=>if n<m then !f n else f n)∧HQ wr (g+1) (fun _=>false)∧AA [] w wr) (fun q _=>256-(intOf q).toNat)
 case atStart=>exact⟨0,by omega,rfl,b.congr (fun n _=>by simp),c,h⟩
 case round=>
  clear b c h;obtain⟨m,hm,rfl,a,d,k⟩:=hrel;by_cases hlt:m<256
  ·have i:=a.cell hlt;rw[AK (Nat.lt_irrefl m)]at i;have r:=a.frozen m;have s:(0:Int)<=(m:Int):=by omega
   have t:(m:Int)<256:=by omega
   have u:HQ (wr.setCell ⟨g,m,none⟩ (.bool (!f m))) g (fun n=>if n<m+1 then !f n else f n):=(a.set m (!f m)).congr fun n l=>by
    by_cases e:n=m
    ·subst e;simp
    ·by_cases o:n<m
     ·rw[AK e,AL o,AL (by omega)]
     ·rw[AK e,AK o,AK (by omega)]
   have v:HQ (wr.setCell ⟨g,m,none⟩ (.bool (!f m))) (g+1) (fun _=>false):=d.keep ((AG [g] wr).setCell (p:=⟨g,m,none⟩) (by simp) _) (by simp);go_wp2;go_roundw
   case rel=>exact⟨m+1,by omega,by go_num,u,v,k.setCell (AE (by simp;omega)) _⟩
   case measure=>simp[intOf];omega
  ·have e:m=256:=by omega
   subst e;have j:HQ wr g (fun n=> !f n):=a.congr fun n l=>by rw[AL l]
   go_wp2_with(first|(refine As rfl 206 _ rfl g rfl _ _ _ _ j EM rfl (C3 _) ?_)|(refine Ae rfl 206 _ _ rfl (g+1) _ rfl rfl _ _ d (C3 _) (by rw[Bo,Bo]) (G9 _) ?_));refine Ag (Au rfl _ _ (g+1) _ _ _ _ rfl (Aa _ _ _ _ _ _ d) EM rfl (C3 _)) rfl ?_;exact⟨rfl,k.setRow (AE (by omega)) _⟩
theorem Ng(c:Nat)(j:c<256)(w:World):Calls Tryz.prog 249 #[.int .u8 (c:Int)] w fun e w'=>e=.returned (.agg (AZ fun n=>decide (n=c)))∧AA [] w w':=by
 have d:HQ ((w.alloc (.cells (AZ fun _=>false) 206)).alloc (.cells (AZ fun _=>false) 206)) w.heap.size (fun _=>false):=C2 w _ _;have a:HQ ((w.alloc (.cells (AZ fun _=>false) 206)).alloc (.cells (AZ fun _=>false) 206)) (w.heap.size+1) (fun _=>false):=Df w _ _;have f:AA [] w ((w.alloc (.cells (AZ fun _=>false) 206)).alloc (.cells (AZ fun _=>false) 206)):=((AG [] w).alloc _).alloc _;have k:=a.cell j;have l:=a.frozen c;have h:=(a.set c true).congr (g:=fun n=>decide (n=c)) (fun n _=>by by_cases e:n=c<;>simp[e]);have b:=d.keep ((AG [w.heap.size+1] _).setCell (p:=⟨w.heap.size+1,c,none⟩) (by simp) (.bool true)) (by simp);have i:=f.setCell (p:=⟨w.heap.size+1,c,none⟩) (AE (by simp)) (.bool true);have m:(0:Int)<=(c:Int):=by omega
 have o:(c:Int)<256:=by omega
 go_enter Tryz.func249,Tryz.ntmps249;go_wp2_with(first|(refine G8 rfl rfl (some 3) rfl ?_;generalize(w.alloc (.cells (AZ fun _=>false) 206)).alloc (.cells (AZ fun _=>false) 206)=W at*)|(refine G8 rfl rfl (some 2) rfl ?_)|(refine As rfl 206 _ rfl (w.heap.size+1) rfl _ _ _ _ h EM rfl (C3 _) ?_)|(refine Ae rfl 206 _ _ rfl w.heap.size _ rfl rfl _ _ b (C3 _) (by rw[Bo,Bo]) (G9 _) ?_));refine Ag (Au rfl _ _ w.heap.size _ _ _ _ rfl (Aa _ _ _ _ _ _ b) EM rfl (C3 _)) rfl ?_;exact⟨rfl,i.setRow (AE (AP _)) _⟩
theorem Rt:Tryz.prog.built 206 []=some (AZ fun _=>false):=by kernel_rfl
theorem Ru:(AZ fun n=> !(fun _=>false:Nat->Bool) n)=AZ fun _=>true:=rfl
theorem Rv(w:World):Calls Tryz.prog 207 #[] w fun e w'=>e=.returned (.agg (AZ fun _=>true))∧AA [] w w':=by
 have c:HQ (w.alloc (.cells (AZ fun _=>false) 206)) w.heap.size (fun _=>false):=AS w _;have d:AA [] w (w.alloc (.cells (AZ fun _=>false) 206)):=(AG [] w).alloc _;have hlt:w.heap.size<(w.alloc (.cells (AZ fun _=>false) 206)).heap.size:=by simp
 go_enter Tryz.func207,Tryz.ntmps207;go_wp2_with(first|(refine G8 rfl rfl (some 0) rfl ?_;generalize w.alloc (.cells (AZ fun _=>false) 206)=W at*)|(refine Great.wpList_buildTo rfl 206 #[] rfl (some 1) rfl (AZ fun _=>false) Rt ?_)|(go_at_call 252;refine(Nf (fun _=>false) _).mono ?_;rintro e w1⟨rfl,a⟩;rw[Ru];have b:=c.keep a (by simp))|(refine Ae rfl 206 _ _ rfl w.heap.size _ rfl rfl _ _ b (C3 _) (by rw[Bo,Bo]) (G9 _) ?_));refine Ag (Au rfl _ _ w.heap.size _ _ _ _ rfl (Aa _ _ _ _ _ _ b) EM rfl (C3 _)) rfl ?_;exact⟨rfl,(d.trans a).setRow (AE (AP _)) _⟩
def GW(w:World)(b:Nat):Nat:=62-(I8 w b 1).toNat
theorem FM{b:Nat}(a:QB w b p):GW w b=62-p.ix:=by
 have h:=a.main.2.1;simp[GW,I8,h,intOf]
def Rw(b:Nat)(p:QS)(w:World)(e:Ending)(w':World):Prop:=
 ∃q,E9 p.s (p.ix+1) q∧AA [b] w w'∧match q with
  | .ok f j=>e=.returned (.agg (AZ f))∧QB w' b {p with ix:=j}
  | .bad j=>e=fault j
structure SL (p : QS) (b g j0 : Nat) (w wr : World) (f : Nat -> Bool) (i : Nat) : Prop where
 qb : QB wr b { p with ix := i }
 held : HQ wr (g + 1) f
 res : HQ wr g (fun _ => false)
 gn : GN wr
 keep : AA [b] w wr
 ile : i <= p.s.size
 spec : ∀ q, EY p.s f i q -> DH p.s j0 q
theorem SL.next{b g j0 j:Nat}{wr w2:World}{f r:Nat->Bool}(h:SL p b g j0 w wr f i)(hw:w.heap.size=g)(hb:b<g)(o:6<g)(k:b≠6)(a:at' p.s i≠93)(e:Am p.s i=.ok r j)(c:AA [b,g+1] wr w2)(d:QB w2 b {p with ix:=j})(l:HQ w2 (g+1) (fun n=>f n||r n)):SL p b g j0 w w2 (fun n=>f n||r n) j:=
 ⟨d,l,h.res.keep c (by simp;omega),h.gn.keep c (by simp;omega),h.keep.fresh c (by intro x m;simp at m⊢;omega),(Gr e).2,fun q d=>h.spec q (.more f r i j q a e d)⟩
theorem Ry(b:Nat)(p:QS)(w:World)(hp:QB w b p)(S:p.s.size<=60)(T:at' p.s p.ix=91)(hg:GN w)(K:b≠6):Calls Tryz.prog 248 #[.pointer (some ⟨b,0,none⟩)] w (Rw b p w):=by
 have a:HQ ((w.alloc (.cells (AZ fun _=>false) 206)).alloc (.cells (AZ fun _=>false) 206)) w.heap.size (fun _=>false):=C2 w _ _;have c:HQ ((w.alloc (.cells (AZ fun _=>false) 206)).alloc (.cells (AZ fun _=>false) 206)) (w.heap.size+1) (fun _=>false):=Df w _ _;have A:AA [] w ((w.alloc (.cells (AZ fun _=>false) 206)).alloc (.cells (AZ fun _=>false) 206)):=((AG [] w).alloc _).alloc _;have hbl:=hp.lt;have U:=hg.lt;have hlt:p.ix+1<=p.s.size:=Ap (by omega);obtain⟨ob,j0,hd,V,ai,I⟩:∃(ob:Bool)(j0:Nat),decide (QS.cur {p with ix:=p.ix+1}=94)=ob∧QS.took {p with ix:=p.ix+1} 94={p with ix:=j0}∧j0<=p.s.size∧∀B,DH p.s j0 B->E9 p.s (p.ix+1) (B.map fun f n=>if ob then !f n else f n):=by
  by_cases C:at' p.s (p.ix+1)=94
  ·obtain⟨J,D⟩:=Er (p:={p with ix:=p.ix+1}) C;exact⟨true,p.ix+2,J,D,Ap (by omega),fun B Q=>AH ⟨C,B,Q,rfl⟩⟩
  ·obtain⟨J,D⟩:=EN (p:={p with ix:=p.ix+1}) C;refine⟨false,p.ix+1,J,D,hlt,fun B Q=>AE ⟨C,?_⟩⟩;cases B with
   |ok f j=>exact Q
   |bad j=>exact Q
 have HF:Hid (∀B,DH p.s j0 B->E9 p.s (p.ix+1) (B.map fun f n=>if ob then !f n else f n)):=I;have X:=hp.keep A (by simp);have Y:=hg.keep A (by simp);clear I hp hg;go_enter Tryz.func248,Tryz.ntmps248;go_wp2_with(first|(refine G8 rfl rfl (some 3) rfl ?_;generalize(w.alloc (.cells (AZ fun _=>false) 206)).alloc (.cells (AZ fun _=>false) 206)=W at*)|(refine G8 rfl rfl (some 2) rfl ?_));refine(Gx b p 91 (by omega) _ X S T).mono ?_;rintro e w1⟨rfl,Z,t⟩;obtain⟨g,hgq⟩:=An w.heap.size;rw[hgq]at a c hbl U⊢;have a:=a.keep t (by simp;omega);have c:=c.keep t (by simp;omega);have aa:=Y.keep t (by simp;omega);have ab:AA [b] w w1:=(A.mono (by simp)).trans t;clear T X Y A t;go_wp2_with fail;refine(DJ b {p with ix:=p.ix+1} 94 (by omega) _ Z hlt S).mono ?_;rintro e w2⟨rfl,M,u⟩;rw[V]at M;rw[hd];have a:=a.keep u (by simp;omega);have c:=c.keep u (by simp;omega);have N:=aa.keep u (by simp;omega);have ac:AA [b] w w2:=ab.trans u;clear Z aa u ab hd V hlt;go_wp2_with fail;refine(Nc b (g+1) {p with ix:=j0} (fun _=>false) _ M c S ai N K (by omega)).mono ?_;rintro e w3⟨hk3,E⟩;have O:AA [b] w w3:=ac.fresh hk3 (by intro x hx;simp at hx⊢;omega);have v:∀r,Am p.s j0=r->Am (QS.s {p with ix:=j0}) (QS.ix {p with ix:=j0})=r:=fun r h=>h
 cases l:Am p.s j0 with
 |bad j=>
  rw[v _ l]at E;subst E;simp only[fault];exact⟨rfl,_,HF.o _ (.bad _ j l),O,rfl⟩
 |ok r j=>
  rw[v _ l]at E;obtain⟨rfl,ad,ae⟩:=E;have L0:SL p b g j0 w w3 r j:=⟨ad,ae.congr (fun n _=>rfl),a.keep hk3 (by simp;omega),N.keep hk3 (by simp;omega),O,(Gr l).2,fun q Q=> .go r _ j q l Q⟩;clear l v ad ae O hk3 a c N ac M;go_wp2_with fail;go_loopw [19] (fun _ wr=>∃f i,SL p b g j0 w wr f i) (fun _ wr=>GW wr b)
  case atStart=>exact⟨_,_,L0⟩
  case round=>
   clear L0;obtain⟨f,i,L⟩:=hrel;go_wp2_with fail;refine(DJ b {p with ix:=i} 93 (by omega) _ L.qb L.ile S).mono ?_;rintro e w4⟨rfl,m,hk4⟩;have F:=L.held.keep hk4 (by simp;omega);have G:=L.res.keep hk4 (by simp;omega);have af:=L.gn.keep hk4 (by simp;omega);have d:=L.keep.trans hk4;by_cases k:at' p.s i=93
   ·obtain⟨J,D⟩:=Er (p:={p with ix:=i}) k;rw[D]at m;have ag:Hid (E9 p.s (p.ix+1) ((R.ok f (i+1)).map fun f n=>if ob then !f n else f n)):=HF.o _ (L.spec _ (.done f i k));clear k D;rw[J];cases ob
    ·go_wp2_with(first|(refine As rfl 206 _ rfl (g+1) rfl _ _ _ _ F EM rfl (C3 _) ?_)|(refine Ae rfl 206 _ _ rfl g _ rfl rfl _ _ G (C3 _) (by rw[Bo,Bo]) (G9 _) ?_));refine Ag (Au rfl _ _ g _ _ _ _ rfl (Aa _ _ _ _ _ _ G) EM rfl (C3 _)) rfl ?_;exact⟨_,ag.o,d.setRow (AE (by omega)) _,rfl,m.keep ((AG [g] w4).setRow (by simp) _) (by simp;omega)⟩
    ·go_wp2_with(first|(refine As rfl 206 _ rfl (g+1) rfl _ _ _ _ F EM rfl (C3 _) ?_)|(go_at_call 252;refine(Nf f _).mono ?_;rintro e w6⟨rfl,P⟩;have ah:=G.keep P (by simp))|(refine Ae rfl 206 _ _ rfl g _ rfl rfl _ _ ah (C3 _) (by rw[Bo,Bo]) (G9 _) ?_));refine Ag (Au rfl _ _ g _ _ _ _ rfl (Aa _ _ _ _ _ _ ah) EM rfl (C3 _)) rfl ?_;exact⟨_,ag.o,(d.trans (P.mono (by simp))).setRow (AE (by omega)) _,rfl,(m.keep P (by simp)).keep ((AG [g] w6).setRow (by simp) _) (by simp;omega)⟩
   ·obtain⟨J,D⟩:=EN (p:={p with ix:=i}) k;rw[D]at m;rw[J];have L4:SL p b g j0 w w4 f i:=⟨m,F,G,af,d,L.ile,L.spec⟩;have aj:=FM L.qb;clear J D L d;go_wp2_with fail;refine(Nc b (g+1) {p with ix:=i} f _ m F S L4.ile af K (by omega)).mono ?_;rintro e w5⟨d,H⟩;have y:∀r,Am p.s i=r->Am (QS.s {p with ix:=i}) (QS.ix {p with ix:=i})=r:=fun r h=>h
    cases z:Am p.s i with
    |bad j=>
     rw[y _ z]at H;subst H;simp only[fault];exact⟨rfl,_,HF.o _ (L4.spec _ (.bad f i j k z)),L4.keep.fresh d (by intro x hx;simp at hx⊢;omega),rfl⟩
    |ok r j=>
     rw[y _ z]at H;obtain⟨rfl,ak,al⟩:=H;have L5:=L4.next hgq hbl U K k z d ak al;have hj:=Gr z;clear y k;go_wp2_with fail;go_roundw
     case rel=>exact⟨_,_,L5⟩
     case measure=>rw[aj,FM L5.qb];simp;omega
theorem K7(args:Array Value)(w:World):(callFunc 301 args).run Tryz.prog w=.ok (.enter 301 args) w:=by kernel_rfl
theorem Rz(args:Array Value)(w:World):(callFunc 302 args).run Tryz.prog w=.ok (.enter 302 args) w:=by kernel_rfl
theorem K8(c v:Int)(f:48<=c)(g:c<=57)(b:0<=v)(d:v<=5)(a:Nat)(w:World)(h:w.cell? ⟨a,0,none⟩=some (.int .i64 v)):Calls Tryz.prog 301 #[.int .u8 c,.pointer (some ⟨a,0,none⟩)] w fun e w'=>e=.returned (.int .i64 (10*v+(c-48)))∧w'=w:=by
 go_enter Tryz.func301,Tryz.ntmps301;go_wp2;go_ret;exact⟨Eo (by omega),rfl⟩
def C4(v least c:Int):Bool:=At c&&(decide (10*v+(c-48)<=5)&&(decide (10*v+(c-48)=0)||decide (least<=10*v+(c-48))))
theorem R0(c v least:Int)(z:0<=c)(A:c<=255)(g:0<=v)(i:v<=5)(k t lb:Nat)(w:World)(l:w.cell? ⟨k,0,none⟩=some (.int .i64 v))(B:w.cell? ⟨t,0,none⟩=some (.func (.func 301) #[] #[.pointer (some ⟨k,0,none⟩)]))(C:w.cell? ⟨lb,0,none⟩=some (.int .i64 least)):Calls Tryz.prog 302 #[.int .u8 c,.pointer (some ⟨t,0,none⟩),.pointer (some ⟨lb,0,none⟩)] w fun e w'=>e=.returned (.bool (C4 v least c))∧∃n,w'=w.drewN n:=by
 by_cases hd:At c=true
 ·have hb:48<=c∧c<=57:=by simp[At]at hd;exact hd
  have b:=fun w1 h=>K8 c v hb.1 hb.2 g i k w1 h
  have a:=H3 c;rw[hd]at a;have cfg:=K7;have f:Hid (C4 v least c=(decide (10*v+(c-48)<=5)&&(decide (10*v+(c-48)=0)||decide (least<=10*v+(c-48))))):=by show C4 v least c=_;unfold C4;rw[hd,Bool.true_and]
  have u:0<=10*v+(c-48):=by omega
  have y:10*v+(c-48)<=100:=by omega
  obtain⟨m,p⟩:=hb;clear hd;generalize q:10*v+(c-48)=x at*;by_cases j:x<=5
  ·by_cases r:x=0
   ·subst r;go_enter Tryz.func302,Tryz.ntmps302;go_wp2_with fail;go_quiet (first|(go_at_call 236;exact CJ (a _))|(go_at_call 301;exact CJ (b _ l)));go_wp2_with fail;go_ret;exact⟨DB (by rw[f.o];simp),_,rfl⟩
   ·by_cases hle:least<=x
    ·go_enter Tryz.func302,Tryz.ntmps302;go_wp2_with fail;go_quiet (first|(go_at_call 236;exact CJ (a _))|(go_at_call 301;exact CJ (b _ l)));go_wp2_with fail;go_ret;exact⟨DB (by rw[f.o];simp[j,r,hle]),_,rfl⟩
    ·go_enter Tryz.func302,Tryz.ntmps302;go_wp2_with fail;go_quiet (first|(go_at_call 236;exact CJ (a _))|(go_at_call 301;exact CJ (b _ l)));go_wp2_with fail;go_ret;exact⟨DB (by rw[f.o];simp[j,r,hle]),_,rfl⟩
  ·have s:decide (x<=5)=false:=by simpa using j
   have D:Hid (¬x<=5):=j;clear j b;have b:=fun w1 h=>K8 c v m p g i k w1 h
   rw[q]at b;go_enter Tryz.func302,Tryz.ntmps302;go_wp2_with fail;go_quiet (first|(go_at_call 236;exact CJ (a _))|(go_at_call 301;exact CJ (b _ l)));go_wp2_with fail;go_ret;exact⟨DB (by rw[f.o,s];rfl),_,rfl⟩
 ·have d:At c=false:=Bool.eq_false_iff.2 hd;have f:Hid (C4 v least c=false):=by show C4 v least c=_;unfold C4;rw[d,Bool.false_and]
  have a:=H3 c;rw[d]at a;clear hd d;go_enter Tryz.func302,Tryz.ntmps302;go_wp2_with fail;go_quiet (first|(go_at_call 236;exact CJ (a _)));go_wp2_with fail;go_ret;exact⟨DB (by rw[f.o]),_,rfl⟩
theorem BO.total(s:ByteArray)(least:Nat):∀(k n:Nat)(any:Bool)(i:Nat),s.size+1-i<=k->∃q,BO s least n any i q:=by
 intro k
 induction k with
 |zero=>
  intro n any i b;have hd:At (at' s i)=false:=by rw[Cu (by omega)];rfl
  by_cases h:any=false∨n<least
  ·exact⟨_,.short n any i hd h⟩
  ·cases any
   ·exact absurd (AH rfl) h
   ·exact⟨_,.done n i hd (by omega)⟩
 |succ k ih=>
  intro n any i b;cases hd:At (at' s i)with
  |false=>
   by_cases h:any=false∨n<least
   ·exact⟨_,.short n any i hd h⟩
   ·cases any
    ·exact absurd (AH rfl) h
    ·exact⟨_,.done n i hd (by omega)⟩
  |true=>
   have hb:48<=at' s i∧at' s i<=57:=by simp[At]at hd;exact hd
   have hlt:=Ap (s:=s) (i:=i) (by omega);have a:(((10*n+(at' s i-48).toNat:Nat)):Int)=10*n+(at' s i-48):=by omega
   by_cases h:10*n+(at' s i-48).toNat<=5∧(10*n+(at' s i-48).toNat=0∨least<=10*n+(at' s i-48).toNat)
   ·obtain⟨q,c⟩:=ih (10*n+(at' s i-48).toNat) true (i+1) (by omega);exact⟨q,.dig n _ any i q hd a h.1 h.2 c⟩
   ·exact⟨_,.big n _ any i hd a h⟩
theorem BO.some(s:ByteArray)(least n:Nat)(any:Bool)(i:Nat):∃q,BO s least n any i q:=BO.total s least _ n any i (AP _)
theorem Bj.some(s:ByteArray)(j:Nat):∃q,Bj s j q:=by
 by_cases f:at' s j=42
 ·exact⟨_,AE (AH ⟨f,rfl⟩)⟩
 by_cases g:at' s j=43
 ·exact⟨_,AE (AE (AH ⟨g,rfl⟩))⟩
 by_cases h:at' s j=63
 ·exact⟨_,AE (AE (AE (AH ⟨h,rfl⟩)))⟩
 by_cases i:at' s j=123
 ·obtain⟨c,d⟩:=BO.some s 0 0 false (j+1);have:∃q,Gs s c q:=by
   cases c with
   |bad k=>exact⟨_,rfl⟩
   |ok m k=>
    by_cases b:at' s k=44
    ·by_cases e:at' s (k+1)=125
     ·exact⟨_,AH ⟨b,e,rfl⟩⟩
     ·obtain⟨o,a⟩:=BO.some s m 0 false (k+1);cases o with
      |bad l=>exact⟨_,AE (AH ⟨b,e,_,a,rfl⟩)⟩
      |ok n l=>exact⟨_,AE (AH ⟨b,e,_,a,rfl⟩)⟩
    ·exact⟨_,AE (AE ⟨b,rfl⟩)⟩
  obtain⟨q,p⟩:=this;exact⟨q,AE (AE (AE (AE ⟨i,c,d,p⟩)))⟩
 ·exact⟨_,AH ⟨f,g,h,i,rfl⟩⟩
def R3(b:Nat)(p:QS)(w:World)(r:R Int)(e:Ending)(w':World):Prop:=
 AA [b] w w'∧match r with
  | .ok v j=>e=.returned (.int .i64 v)∧QB w' b {p with ix:=j}
  | .bad j=>e=fault j
theorem Nh{v least:Int}(h:0<=c)(i:c<=255)(a:0<=v)(b:v<=5){d f lb:Nat}(j:w.cell? ⟨d,0,none⟩=some (.int .i64 v))(k:w.cell? ⟨f,0,none⟩=some (.func (.func 301) #[] #[.pointer (some ⟨d,0,none⟩)]))(l:w.cell? ⟨lb,0,none⟩=some (.int .i64 least)):DY 302 #[.pointer (some ⟨f,0,none⟩),.pointer (some ⟨lb,0,none⟩)] c (C4 v least c) w:=
 ⟨Rz,fun w1 g=>(R0 c v least h i a b d f lb w1 (Ac g j) (Ac g k) (Ac g l)).mono fun e w2⟨he,n,hw⟩=>⟨he,by rw[hw];exact(AG _ _).drewN n⟩⟩
theorem Ni(v least:Int)(w:World):∃W,(store ⟨w.heap.size+1+1,0,none⟩ (.func (.func 301) #[] #[.pointer (some ⟨w.heap.size,0,none⟩)])).run Tryz.prog (((w.alloc (.cells #[.int .i64 v] 3)).alloc (.cells #[.int .i64 least] 3)).alloc (.cells #[.nilFunc] 356))=.ok () W∧W.cell? ⟨w.heap.size,0,none⟩=some (.int .i64 v)∧W.cell? ⟨w.heap.size+1,0,none⟩=some (.int .i64 least)∧W.cell? ⟨w.heap.size+1+1,0,none⟩=some (.func (.func 301) #[] #[.pointer (some ⟨w.heap.size,0,none⟩)])∧AA [] w W:=by
 have d:AA [] w (w.alloc (.cells #[.int .i64 v] 3)):=(AG [] w).alloc _;have c1:(w.alloc (.cells #[.int .i64 v] 3)).cell? ⟨w.heap.size,0,none⟩=some (.int .i64 v):=by simp
 have b:(w.alloc (.cells #[.int .i64 v] 3)).heap.size=w.heap.size+1:=by simp
 generalize w.alloc (.cells #[.int .i64 v] 3)=w1 at*;have c:AA [] w1 (w1.alloc (.cells #[.int .i64 least] 3)):=(AG [] w1).alloc _;have c2:(w1.alloc (.cells #[.int .i64 least] 3)).cell? ⟨w1.heap.size,0,none⟩=some (.int .i64 least):=by simp
 have z2:(w1.alloc (.cells #[.int .i64 least] 3)).heap.size=w1.heap.size+1:=by simp
 have c1:=Ac c c1;generalize w1.alloc (.cells #[.int .i64 least] 3)=w2 at*;have a:AA [] w2 (w2.alloc (.cells #[.nilFunc] 356)):=(AG [] w2).alloc _;have c3:(w2.alloc (.cells #[.nilFunc] 356)).cell? ⟨w2.heap.size,0,none⟩=some .nilFunc:=by simp
 have f3:(w2.alloc (.cells #[.nilFunc] 356)).frozen? ⟨w2.heap.size,0,none⟩=false:=by simp
 have c1:=Ac a c1;have c2:=Ac a c2;generalize w2.alloc (.cells #[.nilFunc] 356)=w3 at*;rw[z2,b]at c3 f3;rw[b]at c2;refine⟨w3.setCell ⟨w.heap.size+1+1,0,none⟩ (.func (.func 301) #[] #[.pointer (some ⟨w.heap.size,0,none⟩)]),?_,?_,?_,Ea _ _ _ c3,?_⟩
 ·rw[run_store _ _ _ _ _ rfl,c3,f3];rfl
 ·rw[Dr _ _ _ _ (by simp)];exact c1
 ·rw[Dr _ _ _ _ (by simp)];exact c2
 ·exact((d.trans c).trans a).setCell (AE (by show w.heap.size<=w.heap.size+1+1;omega)) _
theorem R4(b:Nat)(p:QS)(v least:Int)(w:World)(B:QB w b p)(E:p.s.size<=60)(f:0<=v)(g:v<=5)(C:0<=p.cur)(hd:C4 v least p.cur=true):Calls Tryz.prog 294 #[.pointer (some ⟨b,0,none⟩),.int .i64 v,.int .i64 least] w fun e w'=>e=.returned (.int .i64 (10*v+(p.cur-48)))∧QB w' b {p with ix:=p.ix+1}∧AA [b] w w':=by
 have F:∀(fn:Fn)(first cap:Array Value)(w:World),(Instr.makeFunc fn first cap).run Tryz.prog w=.ok (.func fn first cap) w:=fun _ _ _ _=>rfl
 have r:p.cur<=255:=(E8 p.s p.ix).2;have hlt:p.ix<p.s.size:=Ap C;have c:At p.cur=true:=by unfold C4 at hd;simp at hd;exact hd.1
 have hb:48<=p.cur∧p.cur<=57:=by simp[At]at c;exact c
 have hbl:=B.lt;clear c;obtain⟨W,t,h,i,j,k⟩:=Ni v least w;have l:=B.keep k (by simp);go_enter Tryz.func294,Tryz.ntmps294;go_wp2_with fail;have cfg:=K7;have u:b≠w.heap.size:=by omega
 have x:b≠w.heap.size+1+1:=by omega
 have a:AA [] W W.drew:=(AG [] W).drewN 1;have m:=Ac a h;have n:=Ac a j;have y:=l.keep a (by simp);have o:=Nh C r f g m n (Ac a i);rw[hd]at o;have z:=k.trans a;clear t hd l h j i a
 go_region_with (first
  |(go_at_call 218;refine(Mo b p 302 _ _ y E hlt o).mono ?_;rintro e w1⟨rfl,A,d⟩;have q:=FG d (Ne.symm u) m;have D:=FG d (Ne.symm x) n)
  |(go_at_call 301;refine(K8 p.cur v hb.1 hb.2 f g _ _ q).mono ?_;rintro e w2⟨rfl,rfl⟩))
 all_goals
  go_wp2_with fail;go_ret;exact⟨rfl,A,(z.mono (by simp)).trans d⟩
theorem R5(b:Nat)(p:QS)(v least:Int)(w:World)(y:QB w b p)(z:p.s.size<=60)(hle:p.ix<=p.s.size)(l:0<=v)(m:v<=5)(hd:¬(0<=p.cur∧C4 v least p.cur=true)):Calls Tryz.prog 294 #[.pointer (some ⟨b,0,none⟩),.int .i64 v,.int .i64 least] w fun e w'=>e=fault p.ix∧AA [b] w w':=by
 have A:∀(fn:Fn)(first cap:Array Value)(w:World),(Instr.makeFunc fn first cap).run Tryz.prog w=.ok (.func fn first cap) w:=fun _ _ _ _=>rfl
 have n:p.cur<=255:=(E8 p.s p.ix).2;have hbl:=y.lt;obtain⟨W,q,c,d,f,g⟩:=Ni v least w;have i:=y.keep g (by simp);have a:AA [] W W.drew:=(AG [] W).drewN 1;have j:=Ac a c;have r:=Ac a f;have k:=i.keep a (by simp);have B:Hid (Calls Tryz.prog 218 #[.pointer (some ⟨b,0,none⟩),.func (.func 302) #[] #[.pointer (some ⟨w.heap.size+1+1,0,none⟩),.pointer (some ⟨w.heap.size+1,0,none⟩)]] W.drew (I6 b p W.drew (.bad p.ix))):=
  H6 b p 302 _ _ W.drew k z hle (fun h=>Nh h n l m j r (Ac a d)) (.bad p.ix) (by rw[AK hd])
 have t:=g.trans a;clear hd i c f d a k j;go_enter Tryz.func294,Tryz.ntmps294;go_wp2_with fail;have cfg:=K7;clear q
 go_region_dies
 all_goals
  refine B.o.mono ?_;rintro e w1⟨u,x⟩;subst x;simp only[fault];exact⟨rfl,rfl,(t.mono (by simp)).trans u⟩
theorem Nj(b:Nat)(p:QS)(v least:Int)(w:World)(f:QB w b p)(g:p.s.size<=60)(hle:p.ix<=p.s.size)(a:0<=v)(c:v<=5):Calls Tryz.prog 294 #[.pointer (some ⟨b,0,none⟩),.int .i64 v,.int .i64 least] w (R3 b p w (if 0<=p.cur∧C4 v least p.cur=true then .ok (10*v+(p.cur-48)) (p.ix+1)else .bad p.ix)):=by
 by_cases h:0<=p.cur∧C4 v least p.cur=true
 ·rw[AL h];exact(R4 b p v least w f g a c h.1 h.2).mono fun e w'⟨he,i,d⟩=>⟨d,he,i⟩
 ·rw[AK h];exact(R5 b p v least w f g hle a c h).mono fun e w'⟨he,d⟩=>⟨d,he⟩
theorem R6(b:Nat)(p:QS)(w:World)(f:QB w b p)(hle:p.ix<=p.s.size)(g:p.s.size<=60):Calls Tryz.prog 295 #[.pointer (some ⟨b,0,none⟩)] w fun e w'=>e=.returned (.bool (At p.cur))∧QB w' b p∧AA [] w w':=by
 by_cases hlt:p.ix<p.s.size
 ·go_enter Tryz.func295,Tryz.ntmps295;go_wp2_with(first|(go_at_call 167;refine(GM b p _ f hlt g).mono ?_;rintro e w1⟨rfl,a,c⟩)|(go_at_call 236;refine(H3 p.cur _).mono ?_;rintro e w2⟨rfl,rfl⟩));go_ret;exact⟨rfl,a,c⟩
 ·have d:p.ix=p.s.size:=by omega
  have h:Hid (At p.cur=false):=by show At (at' p.s p.ix)=false;rw[Cu (by omega)];rfl
  go_enter Tryz.func295,Tryz.ntmps295;go_wp2_with(first|(go_at_call 167;refine(I5 b p _ f d).mono ?_;rintro e w1⟨rfl,a,c⟩));go_ret;exact⟨by rw[h.o];rfl,a,c⟩
theorem BO.step{n:Nat}{any:Bool}{q:R Nat}(h:BO s least n any i q)(hd:0<=at' s i∧C4 n least (at' s i)=true):∃x:Nat,10*(n:Int)+(at' s i-48)=x∧x<=5∧BO s least x true (i+1) q:=by
 have b:=hd.2;unfold C4 at b;simp only[GH,GV,EJ]at b;obtain⟨c,j,k⟩:=b;cases h with
 |dig _ x _ _ _ a d e l f=>exact⟨x,d.symm,e,f⟩
 |big _ x _ _ a d g=>exact absurd ⟨by omega,by omega⟩ g
 |done _ _ a=>rw[c]at a;cases a
 |short _ _ _ a=>rw[c]at a;cases a
theorem BO.stop{n:Nat}{any:Bool}{q:R Nat}(h:BO s least n any i q)(hd:¬(0<=at' s i∧C4 n least (at' s i)=true))(b:any=false∨At (at' s i)=true):q=.bad i:=by
 cases h with
 |dig _ x _ _ _ a c d e f=>
  refine absurd ⟨?_,?_⟩ hd
  ·simp[At]at a;omega
  ·unfold C4;simp only[GH,GV,EJ];exact⟨a,by omega,by omega⟩
 |big=>rfl
 |done _ _ a=>
  rcases b with b|b
  ·cases b
  ·rw[b]at a;cases a
 |short=>rfl
theorem BO.ends{n:Nat}{q:R Nat}(h:BO s least n true i q)(hd:At (at' s i)=false):q=if n<least then .bad i else .ok n i:=by
 cases h with
 |dig _ x _ _ _ a=>rw[hd]at a;cases a
 |big _ x _ _ a=>rw[hd]at a;cases a
 |done _ _ _ c=>rw[AK (by omega)]
 |short _ _ _ _ b=>rw[AL (by rcases b with h|h;(cases h);exact h)]
def R7(b:Nat)(p:QS)(w:World)(q:R Nat)(e:Ending)(w':World):Prop:=
 AA [b] w w'∧match q with
  | .ok v j=>e=.returned (.int .i64 v)∧QB w' b {p with ix:=j}
  | .bad j=>e=fault j
theorem Nk(b:Nat)(p:QS)(least:Nat)(w:World)(K:QB w b p)(E:p.s.size<=60)(hle:p.ix<=p.s.size)(q:R Nat)(F:BO p.s least 0 false p.ix q):Calls Tryz.prog 278 #[.pointer (some ⟨b,0,none⟩),.int .i64 least] w (R7 b p w q):=by
 go_enter Tryz.func278,Tryz.ntmps278;go_wp2_with fail;refine(Nj b p 0 least _ K E hle (by omega) (by omega)).mono ?_;rintro e w1⟨m,f⟩;by_cases h:0<=p.cur∧C4 0 least p.cur=true
 ·rw[AL h]at f;obtain⟨rfl,r⟩:=f;obtain⟨x,J,t,j⟩:=F.step (n:=0) h;have u:(10*0+(p.cur-48):Int)=x:=J;rw[u];have k:p.ix+1<=p.s.size:=Ap h.1;clear F h J u;go_wp2_with fail;go_loopw [5] (fun v wr=>∃(n i:Nat),v=.int .i64 n∧n<=5∧i<=p.s.size∧QB wr b {p with ix:=i}∧BO p.s least n true i q∧AA [b] w wr) (fun _ wr=>GW wr b)
  case atStart=>exact⟨x,p.ix+1,rfl,t,k,r,j,m⟩
  case round=>
   clear j r m t k;obtain⟨n,i,rfl,L,hi,y,j,G⟩:=hrel;have H:=FM y;go_wp2_with fail;refine(R6 b {p with ix:=i} _ y hi E).mono ?_;rintro e w3⟨rfl,o,hk3⟩;have c:=G.trans (hk3.mono (S':=[b]) (by simp));have a:QS.cur {p with ix:=i}=at' p.s i:=rfl;rw[a];cases g:At (at' p.s i)with
   |false=>
    have he:=j.ends g;clear g j a;by_cases z:n<least
    ·rw[AL z]at he;subst he;have A:(n:Int)<(least:Int):=by omega
     go_wp2_with fail;refine(Gw b {p with ix:=i} _ o).mono ?_;rintro e M⟨rfl,rfl⟩;simp only[fault];exact⟨rfl,c,rfl⟩
    ·rw[AK z]at he;subst he;have A:¬(n:Int)<(least:Int):=by omega
     go_wp2_with fail;go_ret;exact⟨c,rfl,o⟩
   |true=>
    go_wp2_with fail;refine(Nj b {p with ix:=i} n least _ o E hi (by omega) (by omega)).mono ?_;rintro e M⟨hk4,d⟩;have l:=c.trans hk4;rw[a]at d;by_cases h:0<=at' p.s i∧C4 n least (at' p.s i)=true
    ·rw[AL h]at d;obtain⟨rfl,B⟩:=d;obtain⟨N,C,D,I⟩:=j.step h;rw[C];have hlt:=Ap h.1;clear h C g j a;go_wp2_with fail;go_roundw
     case rel=>exact⟨N,i+1,rfl,D,hlt,B,I,l⟩
     case measure=>rw[H,FM B];simp;omega
    ·rw[AK h]at d;have he:=j.stop h (AE g);subst he;subst d;simp only[fault];exact⟨rfl,l,rfl⟩
 ·rw[AK h]at f;have he:=F.stop h (AH rfl);subst he;subst f;simp only[fault];exact⟨rfl,m,rfl⟩
