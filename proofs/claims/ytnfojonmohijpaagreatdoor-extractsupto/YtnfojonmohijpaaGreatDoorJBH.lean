/-
  DERIVED. The program's ReadArgs. Conditions: the arguments lie in memory.
-/
import Derived.Test.YtnfojonmohijpaaGreatDoorJNP
set_option linter.all false
set_option maxRecDepth 100000
set_option maxHeartbeats 8000000
namespace Go.Proofs.YtnfojonmohijpaaGreatDoor
open Go.RowKit
def C7:=@Value.slice.injEq
def FU:=@Addr.mk.injEq
theorem Ld(s:ByteArray):(s.toList==[45,45])=decide (s=D1):=by
 rw[show([45,45]:List UInt8)=D1.toList by rw[DW];rfl,LZ]
theorem Le(s:ByteArray):(s.toList==[45,116])=decide (s=Cx):=by
 rw[show([45,116]:List UInt8)=Cx.toList by rw[DW];rfl,LZ]
theorem Tq(a:ByteArray)(j:Nat):at' (a.extract 1 a.size) j=at' a (j+1):=by
 unfold at';by_cases h:j+1<a.size
 ·rw[dif_pos h,dif_pos (by rw[Ef];omega)];rw[ByteArray.getElem_extract];simp only[Nat.add_comm 1 j]
 ·rw[dif_neg h,dif_neg (by rw[Ef];omega)]
theorem Oe(a:ByteArray):∀(f j:Nat)(k:AX),B7 (a.extract 1 a.size) k f j=B7 a k f (j+1)
 |0,_,_=>rfl
 |f+1,j,k=>by
  simp only[B7,Tq];cases k.add (at' a (j+1))with
  |none=>rfl
  |some k'=>exact Oe a f (j+1) k'
def kI:AX:={k0 with tp:=⟨#[92,48]⟩}
def Jc:Value->Nat
 | .slice _ n _=>n
 |_=>0
theorem Gf(tmps:Array Value)(w:World)(g:Nat)(k:AX)(p:ByteArray)(v5:Value)(a:tmps.getD 2 undef=.pointer (some ⟨g,0,none⟩))(b:tmps.getD 3 undef=v5)(c:AB w g k p):(results Tryz.f95 tmps).run Tryz.prog w=.ok (.tuple #[.agg (k.cells p),v5]) w:=by
 have h:Tryz.f95.results=#[.cell 2 173,.tmp 3]:=rfl;have d:tmps[2]?.getD undef=.pointer (some ⟨g,0,none⟩):=by simpa using a
 have e:tmps[3]?.getD undef=v5:=by simpa using b
 have f:=run_loadVar_row (P:=Tryz.prog) w g 173 173 (k.cells p) (0,0) _ c Hi rfl (Du k p);simp[results,h,d,e,asAddr,f]
def Gg:Option (AX×ByteArray)->Ending
 |some (k,p)=> .returned (.tuple #[.agg (k.cells p),.bool true])
 |none=> .returned (.tuple #[.agg (k0.cells ⟨#[]⟩),.bool false])
theorem La.one{k:AX}{l:List ByteArray}{w w':World}{e:Ending}(h:La k l w e w'):AA [] w w'∧∃k' p b,e=.returned (.tuple #[.agg (AX.cells k' p),.bool b])∧Gg (DI k l)=.returned (.tuple #[.agg (AX.cells k' p),.bool b]):=by
 obtain⟨c,h⟩:=h;refine⟨c,?_⟩;cases a:DI k l with
 |none=>rw[a]at h;exact⟨k0,⟨#[]⟩,false,h,rfl⟩
 |some kp=>obtain⟨k',p⟩:=kp;rw[a]at h;exact⟨k',p,true,h,rfl⟩
def Ts(l:List ByteArray)(w:World)(e:Ending)(w':World):Prop:=AA [] w w'∧∃q,BI l kI q∧e=Gg q
structure Hj (w wr : World) (b r : Nat) (l : List ByteArray) (v : Value) (l' : List ByteArray) (k : AX) : Prop where
 args : BB w v l'
 rd : AB wr b k ⟨#[]⟩
 res : AB wr r k0 ⟨#[]⟩
 keep : AA [] w wr
 says : ∀ q, BI l' k q -> BI l kI q
theorem Tt(v:Value)(l:List ByteArray)(w:World)(hl:BB w v l):Calls Tryz.prog 95 #[v] w (Ts l w):=by
 obtain⟨va,vc,hv⟩:=hl.sl;subst hv;have af:AB ((w.alloc (.cells #[.bool false,.bool false,.bool false,.bool false,.bool false,.bool false,.string ⟨#[]⟩,.string ⟨#[]⟩] 173)).alloc (.cells #[.bool false,.bool false,.bool false,.bool false,.bool false,.bool false,.string ⟨#[92,48]⟩,.string ⟨#[]⟩] 173)) w.heap.size k0 ⟨#[]⟩:=by
  have h:=AS w (.cells #[.bool false,.bool false,.bool false,.bool false,.bool false,.bool false,.string ⟨#[]⟩,.string ⟨#[]⟩] 173);exact(((AG [] (w.alloc (.cells #[.bool false,.bool false,.bool false,.bool false,.bool false,.bool false,.string ⟨#[]⟩,.string ⟨#[]⟩] 173))).alloc (.cells #[.bool false,.bool false,.bool false,.bool false,.bool false,.bool false,.string ⟨#[92,48]⟩,.string ⟨#[]⟩] 173)).block _ (AN.1 h).1 (by simp)).trans h
 have ax:AB ((w.alloc (.cells #[.bool false,.bool false,.bool false,.bool false,.bool false,.bool false,.string ⟨#[]⟩,.string ⟨#[]⟩] 173)).alloc (.cells #[.bool false,.bool false,.bool false,.bool false,.bool false,.bool false,.string ⟨#[92,48]⟩,.string ⟨#[]⟩] 173)) (w.heap.size+1) kI ⟨#[]⟩:=by
  have h:=AS (w.alloc (.cells #[.bool false,.bool false,.bool false,.bool false,.bool false,.bool false,.string ⟨#[]⟩,.string ⟨#[]⟩] 173)) (.cells #[.bool false,.bool false,.bool false,.bool false,.bool false,.bool false,.string ⟨#[92,48]⟩,.string ⟨#[]⟩] 173);rw[show(w.alloc (.cells #[.bool false,.bool false,.bool false,.bool false,.bool false,.bool false,.string ⟨#[]⟩,.string ⟨#[]⟩] 173)).heap.size=w.heap.size+1 by simp]at h;exact h
 have ay:AA [] w ((w.alloc (.cells #[.bool false,.bool false,.bool false,.bool false,.bool false,.bool false,.string ⟨#[]⟩,.string ⟨#[]⟩] 173)).alloc (.cells #[.bool false,.bool false,.bool false,.bool false,.bool false,.bool false,.string ⟨#[92,48]⟩,.string ⟨#[]⟩] 173)):=((AG [] w).alloc _).alloc _;have ag:Hj w _ (w.heap.size+1) w.heap.size l (.slice va l.length vc) l kI:=⟨hl,ax,af,ay,fun q h=>h⟩;clear af ax ay hl;go_enter Tryz.func95,Tryz.ntmps95;go_upto_region 2 with(fail)
 generalize(w.alloc (.cells #[.bool false,.bool false,.bool false,.bool false,.bool false,.bool false,.string ⟨#[]⟩,.string ⟨#[]⟩] 173)).alloc (.cells #[.bool false,.bool false,.bool false,.bool false,.bool false,.bool false,.string ⟨#[92,48]⟩,.string ⟨#[]⟩] 173)=W at*;obtain⟨r,aq⟩:=An w.heap.size;have HR:Hid (w.heap.size=r):=aq;rw[aq]at ag⊢;obtain⟨b,ar⟩:=AQ (r+1);have HB:Hid (b=r+1):=ar;rw[<-ar]at ag⊢;clear aq ar;go_loopw [0] (fun q0 wr=>∃(l':List ByteArray)(k:AX),Hj w wr b r l q0 l' k) (fun q _=>Jc q)
 case atStart=>exact⟨l,kI,ag⟩
 case round=>
  clear ag;obtain⟨l',k,L⟩:=hrel;obtain⟨xa,S,hv⟩:=L.args.sl;subst hv;have A:Hid (Hj w wr b r l (.slice xa l'.length S) l' k):=L;have E:=L.rd;have ah:=Du k ⟨#[]⟩;have hlen:=L.args.len;have Q:(l'.length:Int)<=9223372036854775807:=by omega
  by_cases ab:∃a H,l'=a::H∧Co a
  rotate_left
  ·have Z:Hid (BI l kI (DI k l')):=L.says _ (.left l' k fun a H e ho=>ab ⟨a,H,e,ho⟩);have F:=Lb k ⟨#[]⟩ (.slice xa l'.length S) l' wr (L.args.keep L.keep);cases l' with
   |nil=>
    clear L ab;simp only[BJ]at F⊢;go_wp2_with(first|(refine As rfl 173 _ rfl b rfl _ _ _ _ E Hi rfl ah ?_));refine F.mono ?_;rintro e w2 N;obtain⟨j,u,p2,b2,rfl,O⟩:=N.one;have d:=A.o.res.keep j (by simp);have m:=Du u p2;have i:=Eg u p2;have P:(k0.cells ⟨#[]⟩).size=(u.cells p2).size:=rfl;have V:Hid (Gg (DI k [])=.returned (.tuple #[.agg (AX.cells u p2),.bool b2])):=O;have B:AA [] w w2:=A.o.keep.trans j;clear F N O;go_wp2_with(first|(refine Ae rfl 173 _ _ rfl r (u.cells p2) rfl rfl _ _ d m P i ?_));have C:=(AG [r] w2).setRow (g:=r) (by simp) (u.cells p2);refine Ag (Gf _ _ r u p2 _ rfl rfl (Aa _ _ _ _ _ _ d)) rfl ?_;exact⟨B.fresh C (by intro x J;simp at J;have:=HR.o;exact AE (by omega)),_,Z.o,V.o.symm⟩
   |cons a H=>
    have az:decide (Co a)=false:=BS fun ho=>ab ⟨a,H,rfl,ho⟩
    obtain⟨g,o,c,hv,T,ac,ai,aA,G⟩:=L.args.cons;have aI:=Ac L.keep T;rw[Aj]at hv F Q⊢;cases hv;have D:=Od a wr;rw[az]at D;have aj:(0:Int)<((H.length+1:Nat):Int):=by omega
    have aB:decide ((0:Int)<((H.length+1:Nat):Int))=true:=BU aj;obtain⟨n,hn⟩:=AQ (H.length+1);rw[<-hn]at aj aB Q F⊢;clear L ab az G ac ai hn hlen;go_wp2_with(first|(go_at_call 149;refine D.mono ?_;rintro e w1⟨rfl,f⟩;rw[f];clear f)|(refine As rfl 173 _ rfl b rfl _ _ _ _ E Hi rfl ah ?_));refine F.mono ?_;rintro e w2 N;obtain⟨j,u,p2,b2,rfl,O⟩:=N.one;have d:=A.o.res.keep j (by simp);have m:=Du u p2;have i:=Eg u p2;have P:(k0.cells ⟨#[]⟩).size=(u.cells p2).size:=rfl;have V:Hid (Gg (DI k (a::H))=.returned (.tuple #[.agg (AX.cells u p2),.bool b2])):=O;have B:AA [] w w2:=A.o.keep.trans j;clear F N O;go_wp2_with(first|(refine Ae rfl 173 _ _ rfl r (u.cells p2) rfl rfl _ _ d m P i ?_));have C:=(AG [r] w2).setRow (g:=r) (by simp) (u.cells p2);refine Ag (Gf _ _ r u p2 _ rfl rfl (Aa _ _ _ _ _ _ d)) rfl ?_;exact⟨B.fresh C (by intro x J;simp at J;have:=HR.o;exact AE (by omega)),_,Z.o,V.o.symm⟩
  obtain⟨a,H,rfl,ho⟩:=ab;have am:decide (Co a)=true:=BU ho;obtain⟨g,o,c,hv,T,ac,ai,aA,G⟩:=L.args.cons;have aI:=Ac L.keep T;rw[Aj]at hv Q⊢;cases hv;have D:=Od a wr;rw[am]at D;have ak:=Ld a;have aa:=Le a;have HO:Hid (Co a):=ho;obtain⟨n,hn⟩:=AQ (H.length+1);have aC:H.length=n-1:=by omega
  rw[<-hn]at Q ac⊢;rw[aC]at G;have K:Hid (n=H.length+1∧1<=n∧n<=S∧S<=9223372036854775807):=⟨hn,by omega,ac,ai⟩;have aY:(S:Int)<=9223372036854775807:=by omega
  have aQ:(1:Int)<=(a.size:Int):=by have:=ho.1;omega
  have aR:(a.size:Int)<=9223372036854775807:=by omega
  have y:=Tk b k ⟨#[]⟩ (a.extract 1 a.size) (by rw[Ef];omega) wr E;rw[Oe,Ef,Nat.min_self]at y;have HG:Hid (g<w.heap.size):=BV _ _ T;clear L am ho hlen hn aC ac ai;by_cases aJ:S=1
  ·subst aJ;have aD:n=1:=by have:=K.o;omega
   subst aD;have af:H=[]:=KJ (by have:=K.o;omega);subst af;have s:BB w (.slice (some ⟨g,o,none⟩) 0 0) []:=⟨by simp,AH ⟨rfl,_,_,rfl⟩,by simp⟩;clear G;by_cases X:a=D1
   ·rw[BU X]at ak;have Z:Hid (BI l kI (DI k [])):=A.o.says _ (by rw[X];exact .dd [] k);have F:=Lb k ⟨#[]⟩ _ [] wr (s.keep A.o.keep);clear aa X y;go_wp2_with(first|(go_at_call 149;refine D.mono ?_;rintro e w1⟨rfl,f⟩;rw[f];clear f)|(refine As rfl 173 _ rfl b rfl _ _ _ _ E Hi rfl ah ?_));refine F.mono ?_;rintro e w2 N;obtain⟨j,u,p2,b2,rfl,O⟩:=N.one;have d:=A.o.res.keep j (by simp);have m:=Du u p2;have i:=Eg u p2;have P:(k0.cells ⟨#[]⟩).size=(u.cells p2).size:=rfl;have V:Hid (Gg (DI k [])=.returned (.tuple #[.agg (AX.cells u p2),.bool b2])):=O;have B:AA [] w w2:=A.o.keep.trans j;clear F N O;go_wp2_with(first|(refine Ae rfl 173 _ _ rfl r (u.cells p2) rfl rfl _ _ d m P i ?_));have C:=(AG [r] w2).setRow (g:=r) (by simp) (u.cells p2);refine Ag (Gf _ _ r u p2 _ rfl rfl (Aa _ _ _ _ _ _ d)) rfl ?_;exact⟨B.fresh C (by intro x J;simp at J;have:=HR.o;exact AE (by omega)),_,Z.o,V.o.symm⟩
   rw[BS X]at ak;by_cases h2:a=Cx
   ·rw[BU h2]at aa;have H2:Hid (a=Cx):=h2;clear X h2 y;have Z:Hid (BI l kI none):=A.o.says _ (by rw[H2.o];exact .dt0 k);have d:=A.o.res.keep (AG [] wr) (by simp);have m:=Du k0 ⟨#[]⟩;have i:=Eg k0 ⟨#[]⟩;have B:AA [] w wr:=A.o.keep.trans (AG [] wr);go_wp2_with(first|(go_at_call 149;refine D.mono ?_;rintro e w1⟨rfl,f⟩;rw[f];clear f)|(refine Ae rfl 173 _ _ rfl r (k0.cells ⟨#[]⟩) rfl rfl _ _ d m rfl i ?_));have C:=(AG [r] wr).setRow (g:=r) (by simp) (k0.cells ⟨#[]⟩);refine Ag (Gf _ _ r k0 ⟨#[]⟩ _ rfl rfl (Aa _ _ _ _ _ _ d)) rfl ?_;exact⟨B.fresh C (by intro x J;simp at J;have:=HR.o;exact AE (by omega)),none,Z.o,rfl⟩
   rw[BS h2]at aa;have R:Hid (a≠D1∧a≠Cx):=⟨X,h2⟩;clear X h2;cases z:B7 a k (a.size-1) (0+1)with
   |none=>
    rw[z]at y;have Z:Hid (BI l kI none):=A.o.says _ (.bad a [] k HO.o R.o.1 R.o.2 (by rw[Ba]at z;exact z));clear z;go_upto_region 6 with(first|(go_at_call 149;refine D.mono ?_;rintro e w1⟨rfl,f⟩;rw[f];clear f))
    go_wp2_with fail;refine y.mono ?_;rintro e w2⟨j,rfl⟩;have d:=A.o.res.keep j (by simp;have:=HB.o;omega);have m:=Du k0 ⟨#[]⟩;have i:=Eg k0 ⟨#[]⟩;have B:AA [] w w2:=A.o.keep.fresh j (by intro x J;simp at J;have:=HB.o;have:=HR.o;exact AE (by omega));clear y E;go_wp2_with(first|(refine Ae rfl 173 _ _ rfl r (k0.cells ⟨#[]⟩) rfl rfl _ _ d m rfl i ?_));have C:=(AG [r] w2).setRow (g:=r) (by simp) (k0.cells ⟨#[]⟩);refine Ag (Gf _ _ r k0 ⟨#[]⟩ _ rfl rfl (Aa _ _ _ _ _ _ d)) rfl ?_;exact⟨B.fresh C (by intro x J;simp at J;have:=HR.o;exact AE (by omega)),none,Z.o,rfl⟩
   |some u=>
    rw[z]at y;have au:Hid (∀q,BI [] u q->BI l kI q):=fun q hq=>A.o.says q (.let' a [] k u q HO.o R.o.1 R.o.2 (by rw[Ba]at z;exact z) hq)
    clear z;go_upto_region 6 with(first|(go_at_call 149;refine D.mono ?_;rintro e w1⟨rfl,f⟩;rw[f];clear f))
    go_wp2_with fail;refine y.mono ?_;rintro e w2⟨j,rfl,U⟩;have Y:Hid (Hj w w2 b r l (.slice (some ⟨g,o,none⟩) 0 0) [] u):=⟨s,U,A.o.res.keep j (by simp;have:=HB.o;omega),A.o.keep.fresh j (by intro x J;simp at J;have:=HB.o;have:=HR.o;exact AE (by omega)),au.o⟩;clear y E U j;go_wp2_with fail;go_roundw
    case rel=>exact⟨[],u,Y.o⟩
    case measure=>have:=K.o;simp[Jc];try omega
  have aj:(0:Int)<(n:Int):=by have:=K.o;omega
  have aB:decide ((0:Int)<(n:Int))=true:=BU aj;have aZ:(1:Int)<=(n:Int):=by omega
  have a1:(n:Int)<=(S:Int):=by have:=K.o;omega
  have aS:¬(S:Int)=1:=by omega
  have aK:¬S-1=0:=by have:=K.o;omega
  have s:=G;clear G;by_cases X:a=D1
  ·rw[BU X]at ak;have Z:Hid (BI l kI (DI k H)):=A.o.says _ (by rw[X];exact .dd H k);have F:=Lb k ⟨#[]⟩ _ H wr (s.keep A.o.keep);clear aa X y;go_wp2_with(first|(go_at_call 149;refine D.mono ?_;rintro e w1⟨rfl,f⟩;rw[f];clear f)|(refine As rfl 173 _ rfl b rfl _ _ _ _ E Hi rfl ah ?_));refine F.mono ?_;rintro e w2 N;obtain⟨j,u,p2,b2,rfl,O⟩:=N.one;have d:=A.o.res.keep j (by simp);have m:=Du u p2;have i:=Eg u p2;have P:(k0.cells ⟨#[]⟩).size=(u.cells p2).size:=rfl;have V:Hid (Gg (DI k H)=.returned (.tuple #[.agg (AX.cells u p2),.bool b2])):=O;have B:AA [] w w2:=A.o.keep.trans j;clear F N O;go_wp2_with(first|(refine Ae rfl 173 _ _ rfl r (u.cells p2) rfl rfl _ _ d m P i ?_));have C:=(AG [r] w2).setRow (g:=r) (by simp) (u.cells p2);refine Ag (Gf _ _ r u p2 _ rfl rfl (Aa _ _ _ _ _ _ d)) rfl ?_;exact⟨B.fresh C (by intro x J;simp at J;have:=HR.o;exact AE (by omega)),_,Z.o,V.o.symm⟩
  rw[BS X]at ak;by_cases h2:a=Cx
  ·rw[BU h2]at aa;have H2:Hid (a=Cx):=h2;clear X h2 y;by_cases ad:H=[]
   ·subst ad;have aE:n=1:=by have:=K.o.1;simpa using this
    subst aE;have Z:Hid (BI l kI none):=A.o.says _ (by rw[H2.o];exact .dt0 k);have d:=A.o.res.keep (AG [] wr) (by simp);have m:=Du k0 ⟨#[]⟩;have i:=Eg k0 ⟨#[]⟩;have B:AA [] w wr:=A.o.keep.trans (AG [] wr);go_wp2_with(first|(go_at_call 149;refine D.mono ?_;rintro e w1⟨rfl,f⟩;rw[f];clear f)|(refine Ae rfl 173 _ _ rfl r (k0.cells ⟨#[]⟩) rfl rfl _ _ d m rfl i ?_));have C:=(AG [r] wr).setRow (g:=r) (by simp) (k0.cells ⟨#[]⟩);refine Ag (Gf _ _ r k0 ⟨#[]⟩ _ rfl rfl (Aa _ _ _ _ _ _ d)) rfl ?_;exact⟨B.fresh C (by intro x J;simp at J;have:=HR.o;exact AE (by omega)),none,Z.o,rfl⟩
   obtain⟨t,r2,rfl⟩:∃t r2,H=t::r2:=by
    cases H with
    |nil=>exact absurd rfl ad
    |cons t r2=>exact⟨t,r2,rfl⟩
   have an:n=r2.length+2:=by have:=K.o.1;rw[Aj]at this;omega
   obtain⟨g',o',c',ae,ao,aL,aM,aT,M⟩:=s.cons;have aN:g'=g∧o'=o+1∧c'=S-1:=by
    simp only[C7,Ai,FU,CD]at ae;exact⟨ae.1.1.symm,ae.1.2.symm,ae.2.2.symm⟩
   obtain⟨rfl,rfl,rfl⟩:=aN;have a2:=Ac A.o.keep ao;obtain⟨c0,c1,c2,c3,c4,c5,c6,c7⟩:=E.main;have f3:=E.frz 3;have f6:=E.frz 6;have ap:=E.set_t t;have aw:AA [b] wr ((wr.setCell ⟨b,3,none⟩ (.bool true)).setCell ⟨b,6,none⟩ (.string t)):=((AG [b] wr).setCell (p:=⟨b,3,none⟩) (by simp) _).setCell (p:=⟨b,6,none⟩) (by simp) _;have a3:(wr.setCell ⟨b,3,none⟩ (.bool true)).cell? ⟨b,6,none⟩=some (.string k.tp):=(Dr _ _ _ _ (by simp)).trans c6;have I:Hid (AB ((wr.setCell ⟨b,3,none⟩ (.bool true)).setCell ⟨b,6,none⟩ (.string t)) b {k with o:=true,tp:=t} ⟨#[]⟩∧AB ((wr.setCell ⟨b,3,none⟩ (.bool true)).setCell ⟨b,6,none⟩ (.string t)) r k0 ⟨#[]⟩∧AA [] w ((wr.setCell ⟨b,3,none⟩ (.bool true)).setCell ⟨b,6,none⟩ (.string t))∧∀q,BI r2 {k with o:=true,tp:=t} q->BI l kI q):=
    ⟨ap,A.o.res.keep aw (by simp;have:=HB.o;omega),A.o.keep.fresh aw (by intro x J;simp at J;have:=HB.o;have:=HR.o;exact AE (by omega)),fun q hq=>A.o.says q (by rw[H2.o];exact .dt t r2 k q hq)⟩
   have al:Hid (n=r2.length+2):=an;have aU:(2:Int)<=(n:Int):=by omega
   have a4:¬n-1=0:=by omega
   have aV:(((n-1:Nat):Int)==0)=false:=by
    have h:¬((n-1:Nat):Int)=0:=by omega
    simpa using h
   clear ap aw ao c0 c1 c2 c4 c5 c6 c7 T ad an aL aM ae;by_cases aO:S-1=1
   ·have aF:r2=[]:=KJ (by have:=K.o;have:=al.o;omega);subst aF;have aG:n=2:=al.o;subst aG;have aP:S=2:=by omega
    subst aP;have Y:Hid (Hj w ((wr.setCell ⟨b,3,none⟩ (.bool true)).setCell ⟨b,6,none⟩ (.string t)) b r l (.slice (some ⟨g',o+1,none⟩) 0 0) [] {k with o:=true,tp:=t}):=⟨⟨by simp,AH ⟨rfl,_,_,rfl⟩,by simp⟩,I.o.1,I.o.2.1,I.o.2.2.1,I.o.2.2.2⟩;clear s M aO;go_wp2_with(first|(go_at_call 149;refine D.mono ?_;rintro e w1⟨rfl,f⟩;rw[f];clear f));go_roundw
    case rel=>exact⟨[],_,Y.o⟩
    case measure=>simp[Jc]
   ·have aH:r2.length=n-1-1:=by have:=al.o;omega
    rw[aH]at M;have Y:Hid (Hj w ((wr.setCell ⟨b,3,none⟩ (.bool true)).setCell ⟨b,6,none⟩ (.string t)) b r l (.slice (some ⟨g',o+1+1,none⟩) (n-1-1) (S-1-1)) r2 {k with o:=true,tp:=t}):=⟨M,I.o.1,I.o.2.1,I.o.2.2.1,I.o.2.2.2⟩;have aW:¬S-1-1=0:=by have:=K.o;omega
    have aX:¬((S-1:Nat):Int)=1:=by omega
    have a5:(1:Int)<=((n-1:Nat):Int):=by omega
    have a6:((n-1:Nat):Int)<=((S-1:Nat):Int):=by have:=K.o;omega
    have a7:((S-1:Nat):Int)<=9223372036854775807:=by omega
    clear s M;go_wp2_with(first|(go_at_call 149;refine D.mono ?_;rintro e w1⟨rfl,f⟩;rw[f];clear f));go_roundw
    case rel=>exact⟨r2,_,Y.o⟩
    case measure=>have:=al.o;simp[Jc];omega
  rw[BS h2]at aa;have R:Hid (a≠D1∧a≠Cx):=⟨X,h2⟩;clear X h2;cases z:B7 a k (a.size-1) (0+1)with
  |none=>
   rw[z]at y;have Z:Hid (BI l kI none):=A.o.says _ (.bad a H k HO.o R.o.1 R.o.2 (by rw[Ba]at z;exact z));clear z;go_upto_region 6 with(first|(go_at_call 149;refine D.mono ?_;rintro e w1⟨rfl,f⟩;rw[f];clear f))
   go_wp2_with fail;refine y.mono ?_;rintro e w2⟨j,rfl⟩;have d:=A.o.res.keep j (by simp;have:=HB.o;omega);have m:=Du k0 ⟨#[]⟩;have i:=Eg k0 ⟨#[]⟩;have B:AA [] w w2:=A.o.keep.fresh j (by intro x J;simp at J;have:=HB.o;have:=HR.o;exact AE (by omega));clear y E;go_wp2_with(first|(refine Ae rfl 173 _ _ rfl r (k0.cells ⟨#[]⟩) rfl rfl _ _ d m rfl i ?_));have C:=(AG [r] w2).setRow (g:=r) (by simp) (k0.cells ⟨#[]⟩);refine Ag (Gf _ _ r k0 ⟨#[]⟩ _ rfl rfl (Aa _ _ _ _ _ _ d)) rfl ?_;exact⟨B.fresh C (by intro x J;simp at J;have:=HR.o;exact AE (by omega)),none,Z.o,rfl⟩
  |some u=>
   rw[z]at y;have au:Hid (∀q,BI H u q->BI l kI q):=fun q hq=>A.o.says q (.let' a H k u q HO.o R.o.1 R.o.2 (by rw[Ba]at z;exact z) hq)
   clear z;go_upto_region 6 with(first|(go_at_call 149;refine D.mono ?_;rintro e w1⟨rfl,f⟩;rw[f];clear f))
   go_wp2_with fail;refine y.mono ?_;rintro e w2⟨j,rfl,U⟩;have Y:Hid (Hj w w2 b r l (.slice (some ⟨g,o+1,none⟩) (n-1) (S-1)) H u):=⟨s,U,A.o.res.keep j (by simp;have:=HB.o;omega),A.o.keep.fresh j (by intro x J;simp at J;have:=HB.o;have:=HR.o;exact AE (by omega)),au.o⟩;clear y E U j;go_wp2_with fail;go_roundw
   case rel=>exact⟨H,u,Y.o⟩
   case measure=>have:=K.o;simp[Jc];try omega
def evs:List Int->List (Nat×Nat×Nat)->List Int
 |l,[]=>l
 |l,(n,i,j)::ev=>evs ((l.set (2*n-2) i).set (2*n-1) j) ev
theorem Hk:∀(ev fv:List (Nat×Nat×Nat))(l:List Int),evs l (ev++fv)=evs (evs l ev) fv
 |[],fv,l=>rfl
 |(n,i,j)::ev,fv,l=>by rw[DL,evs,evs];exact Hk ev fv _
theorem Jd:∀(ev:List (Nat×Nat×Nat))(l:List Int),(evs l ev).length=l.length
 |[],l=>rfl
 |(n,i,j)::ev,l=>by rw[evs,Jd ev];simp
