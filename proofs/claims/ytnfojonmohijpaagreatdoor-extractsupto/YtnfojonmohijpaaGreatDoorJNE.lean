/-
  DERIVED. The program's Then of rows of sets of places. Conditions: a row has at most 101 places.
-/
import Derived.Test.YtnfojonmohijpaaGreatDoorJRT
import Derived.Deep.CutRange
set_option linter.all false
set_option maxRecDepth 100000
set_option maxHeartbeats 8000000
namespace Go.Proofs.YtnfojonmohijpaaGreatDoor
open Go.RowKit
variable{w w' wr:World}{M N a0 d g i j mn:Nat}{mx:Int}{v v1 v2:Value}
def Eu(f1 f2:Nat->Nat->Bool)(hi a b:Nat):Bool:=(List.range hi).any fun m=>decide (a<=m)&&(f1 a m&&f2 m b)
theorem OD{f1 f2:Nat->Nat->Bool}{hi a b:Nat}:Eu f1 f2 hi a b=true↔∃m,a<=m∧m<hi∧f1 a m=true∧f2 m b=true:=by
 simp only[Eu,List.any_eq_true,List.mem_range,GH,EJ];constructor
 ·rintro⟨m,h,a,b,c⟩;exact⟨m,a,h,b,c⟩
 ·rintro⟨m,a,h,b,c⟩;exact⟨m,h,a,b,c⟩
theorem OE(f1 f2:Nat->Nat->Bool)(hi a b:Nat):Eu f1 f2 (hi+1) a b=(Eu f1 f2 hi a b||(decide (a<=hi)&&(f1 a hi&&f2 hi b))):=by
 simp[Eu,List.range_succ]
theorem KL(f1 f2:Nat->Nat->Bool){hi a:Nat}(b:Nat)(h:hi<=a):Eu f1 f2 hi a b=false:=by
 cases e:Eu f1 f2 hi a b with
 |false=>rfl
 |true=>
  obtain⟨m,c,d,_⟩:=OD.1 e;omega
def F2(f1 f2:Nat->Nat->Bool)(N i m:Nat)(a b:Nat):Bool:=if a<i then Eu f1 f2 N a b else if a=i then Eu f1 f2 m a b else false
theorem MV.range{cap n:Nat}{f:Nat->Nat->Bool}(h:MV w (.slice (some ⟨g,0,none⟩) n cap) n f)(hi:i<n):w.rangeAt g (i*2) [.int .u64 (wk (f i) 0),.int .u64 (wk (f i) 1)]:=KK (h.at hi).1 (h.at hi).2
theorem S6(N:Nat)(hN:N<=101)(g1 c1 g2 c2:Nat)(f1 f2:Nat->Nat->Bool)(w:World)(P:MV w (.slice (some ⟨g1,0,none⟩) N c1) N f1)(y:MV w (.slice (some ⟨g2,0,none⟩) N c2) N f2):Calls Tryz.prog 175 #[.slice (some ⟨g1,0,none⟩) N c1,.slice (some ⟨g2,0,none⟩) N c2] w (Hg w N (Eu f1 f2 N)):=by
 obtain⟨i0,E,F,G,H⟩:=A2 LI;have I:=Tryz.underlying76;go_enter Tryz.func175,Tryz.ntmps175;go_wp2_with(first|(refine D9 w rfl _ _ 76 rfl 0 141 i0 (.agg #[.int .u64 0,.int .u64 0]) 2 I E F G .i64 .i64 (N:Int) (N:Int) N rfl rfl rfl rfl (by rw[H];omega) (by unfold maxLen;omega) (AY _) ?_));intro w1 f z;rw[LJ]at f;have p:AA [] w w1:=Ci z;have Q:g1<w.heap.size:=(A3 P g1 rfl).2;have R:g2<w.heap.size:=(A3 y g2 rfl).2;obtain⟨g,J⟩:=AQ w.heap.size;have A:MV w1 (.slice (some ⟨g,0,none⟩) N N) N (fun _ _=>false):=by rw[J];exact f
 rw[<-J];have K:w.heap.size<=g:=by omega
 have V:(N:Int)<=101:=by omega
 have hu:=IQ;clear f z J;go_wp2_with fail;go_loopw [6,7,13] (fun _ _ q wr=>∃k:Nat,k<=N∧q=.int .i64 k∧MV wr (.slice (some ⟨g,0,none⟩) N N) N (F2 f1 f2 N k 0)∧AA [] w wr) (fun _ _ q _=>N-(intOf q).toNat)
 case atStart=>exact⟨0,by omega,rfl,A.ext (fun a b _ _=>by unfold F2;rw[AK (by omega)];split;rw[KL _ _ _ (by omega)];rfl),p⟩
 case round=>
  clear A p;obtain⟨k,S,rfl,i,l⟩:=hrel;by_cases hlt:k<N
  ·have W:(0:Int)<=(k:Int):=by omega
   have p:(k:Int)<(N:Int):=by omega
   have B:Hid (k<N):=hlt;clear S hlt;go_wp2_with fail;go_loopw [7] (fun q wq=>∃m:Nat,k<=m∧m<=N∧q=.int .i64 m∧MV wq (.slice (some ⟨g,0,none⟩) N N) N (F2 f1 f2 N k m)∧AA [] w wq) (fun q _=>N-(intOf q).toNat)
   case atStart=>exact⟨k,AP _,by have:=B.o;omega,rfl,i.ext (fun a b _ _=>by
    unfold F2;by_cases h:a<k
    ·rw[AL h,AL h]
    ·rw[AK h,AK h];by_cases c:a=k
     ·rw[AL c,AL c,KL _ _ _ (by omega),KL _ _ _ (by omega)]
     ·rw[AK c,AK c]),l⟩
   case round=>
    clear i l;obtain⟨m,r,hm,rfl,i,l⟩:=hrel;by_cases s:m<N
    ·have X:(0:Int)<=(m:Int):=by omega
     have Y:(m:Int)<(N:Int):=by omega
     have v:Hid (m<N):=s;have t:Hid (k<=m):=r;have C:=(P.keep l (by simp)).range B.o;clear hm s r;go_wp2_with(first|(refine ED rfl 141 _ rfl g1 (k*2) rfl _ _ C hu rfl IT ?_));refine(GZ (f1 k) m (by have:=v.o;omega) wr).mono ?_;rintro e w2⟨rfl,u⟩;have d:=i.keep u (by simp);have j:=l.trans u;clear i l u C;cases T:f1 k m
     ·go_wp2_with fail;go_roundw
      case rel=>exact⟨m+1,by have:=t.o;omega,v.o,by go_num,d.ext (fun a b _ _=>by
       unfold F2;by_cases h:a<k
       ·rw[AL h,AL h]
       ·rw[AK h,AK h];by_cases c:a=k
        ·subst c;rw[AL rfl,AL rfl,OE,T];simp
        ·rw[AK c,AK c]),j⟩
      case measure=>have:=v.o;simp[intOf];omega
     ·have n:MV w2.drew (.slice (some ⟨g,0,none⟩) N N) N _:=World.ownsRow.drew d;have L:=(y.keep j (by simp)).at v.o;obtain⟨Z,b1⟩:=L;have U:=LH g N N k _ (f2 m) B.o w2.drew n;go_wp2_with fail
      go_region_with (first|(go_at_call 176;refine U.mono ?_;rintro e w3⟨rfl,M,D⟩))
      have O:AA [] w w3:=BZ j (((AG [g] w2).drewN 1).trans D) (by intro x hx;simp at hx;omega);clear U d n j D Z b1;go_wp2_with fail;go_roundw
      case rel=>exact⟨m+1,by have:=t.o;omega,v.o,by go_num,M.ext (fun a b _ _=>by
       unfold F2;by_cases h:a<k
       ·rw[AL h,AL h];simp[show¬a=k by omega]
       ·rw[AK h,AK h];by_cases c:a=k
        ·subst c;rw[AL rfl,AL rfl,OE,T];simp[t.o]
        ·rw[AK c,AK c];simp[c]),O⟩
      case measure=>have:=v.o;simp[intOf];omega
    ·have he:m=N:=by omega
     have aa:¬(m:Int)<(N:Int):=by omega
     have d:=i.ext (g:=F2 f1 f2 N (k+1) 0) (fun a b ha _=>by
      subst he;unfold F2;by_cases h:a<k
      ·rw[AL h,AL (by omega)]
      ·rw[AK h];by_cases c:a=k
       ·rw[AL c,AL (by omega)]
       ·rw[AK c,AK (by omega)];by_cases y:a=k+1
        ·rw[AL y,KL _ _ _ (by omega)]
        ·rw[AK y])
     clear i hm s he r;go_wp2_with fail;exact⟨⟨k+1,B.o,by go_num,d,l⟩,by have:=B.o;simp[intOf];omega⟩
  ·have he:k=N:=by omega
   have ab:¬(k:Int)<(N:Int):=by omega
   have d:=i.ext (g:=Eu f1 f2 N) (fun a b ha _=>by unfold F2;rw[AL (by omega)]);clear i S he hlt;go_wp2_with fail;go_ret;exact⟨g,rfl,d,l,K⟩
theorem BH.hit{P:Nat->Prop}{c:Nat}(h:BH P i j c)(e:∃m,i<=m∧m<=j∧P m):P c:=by
 by_cases f:i<c
 ·exact h.2.2.1 f
 ·obtain⟨m,a,b,d⟩:=e;have:c=i:=by have:=h.1;omega
  subst this;rcases DU c m with k|k
  ·exact absurd d (h.2.2.2 m k b)
  ·have:m=c:=by omega
   subst this;exact d
theorem BH.exD(P:Nat->Prop):∀(d i:Nat),∃c,BH P i (i+d) c
 |0,i=>⟨i,AP _,AP _,fun h=>absurd h (by omega),fun m a b=>absurd a (by omega)⟩
 |d+1,i=>by
  by_cases h:P (i+(d+1))
  ·exact⟨i+(d+1),by omega,AP _,fun _=>h,fun m a b=>absurd a (by omega)⟩
  ·obtain⟨c,f,k,g,j⟩:=BH.exD P d i;refine⟨c,f,by omega,g,fun m a b=>?_⟩;by_cases e:m=i+(d+1)
   ·subst e;exact h
   ·exact j m a (by omega)
theorem BH.ex(P:Nat->Prop)(h:i<=j):∃c,BH P i j c:=by
 obtain⟨c,a⟩:=BH.exD P (j-i) i;rw[show i+(j-i)=j by omega]at a;exact⟨c,a⟩
theorem JU{n:Nat}(h:mx<0∨((n+1:Nat):Int)<=mx):less mx<0∨(n:Int)<=less mx:=by
 unfold less;split<;>omega
theorem Tm.step{R:Nat->Nat->Prop}(hle:∀i j,R i j->i<=j)(h:Tm R mn mx i j)(c:i<j∨0<mn):∃m,i<=m∧m<=j∧R i m∧Tm R (mn-1) (less mx) m j:=by
 obtain⟨n,a,b,h⟩:=h;cases n with
 |zero=>
  have:i=j:=h;omega
 |succ n=>
  obtain⟨m,r,h⟩:=h;exact⟨m,hle i m r,It.mono hle h,r,n,by omega,JU b,h⟩
theorem Tm.move{R:Nat->Nat->Prop}(hle:∀i j,R i j->i<=j):∀{n i:Nat},It R n i j->i<j->(mx<0∨(n:Int)<=mx)->∃m,i<m∧m<=j∧R i m∧Tm R 0 (less mx) m j
 |0,i,h,a,_=>by have:i=j:=h;omega
 |n+1,i,⟨m,r,h⟩,a,b=>by
  by_cases e:i<m
  ·exact⟨m,e,It.mono hle h,r,n,by omega,JU b,h⟩
  ·have:m=i:=by have:=hle i m r;omega
   subst this;exact Tm.move hle h a (by omega)
theorem Tm.le{R:Nat->Nat->Prop}(hle:∀i j,R i j->i<=j)(h:Tm R mn mx i j):i<=j:=by
 obtain⟨n,_,_,h⟩:=h;exact It.mono hle h
theorem Tm.cut{R:Nat->Nat->Prop}(hle:∀i j,R i j->i<=j){c:Nat}(h:Tm R mn mx i j)(g:i<j∨0<mn)(f:BH (fun m=>R i m∧Tm R (mn-1) (less mx) m j) i j c):(R i c∧Tm R (mn-1) (less mx) c j)∧(mn-1)+(j-c)<mn+(j-i):=by
 obtain⟨m,a,b,d,e⟩:=h.step hle g;refine⟨f.hit ⟨m,a,b,d,e⟩,?_⟩;have l:=f.1;have o:=f.2.1;by_cases p:0<mn
 ·omega
 ·have:mn=0:=by omega
  subst this;obtain⟨n,_,q,h⟩:=h;obtain⟨m,a,b,d,e⟩:=Tm.move hle h (by omega) q;by_cases k:i<c
  ·omega
  ·have:c=i:=by omega
   subst this;exact absurd ⟨d,e⟩ (f.2.2.2 m a b)
def Bu.ok(s:ByteArray):Bu->Nat->Nat->Prop
 | .node x,i,j=>Mt s x i j
 | .kids r,i,j=>Mt s r i j
 | .times mn mx x,i,j=>Tm (Mt s x) mn mx i j
 | .alts _ r,i,j=>Mt s r i j
inductive Tr where
 | tnil
 | tbyte (b : Nat)
 | tgrp (k : Nat) (x : Tr)
 | talt (p : Nat) (x : Tr)
 | tser (l : Tr)
 | trep (l : Tr)
 | lnil
 | lcons (x r : Tr)
def Tr.text:Tr->List UInt8
 | .tnil=>[101]
 | .tbyte b=>[98]++FB b
 | .tgrp k x=>[40,103]++CG k++[32]++x.text++[41]
 | .talt p x=>[40,97]++CG p++[32]++x.text++[41]
 | .tser l=>[40,115]++l.text++[41]
 | .trep l=>[40,114]++l.text++[41]
 | .lnil=>[]
 | .lcons x r=>[32]++x.text++r.text
def Tr.len:Tr->Nat
 | .tnil=>0
 | .tbyte _=>1
 | .tgrp _ x=>x.len
 | .talt _ x=>x.len
 | .tser l=>l.len
 | .trep l=>l.len
 | .lnil=>0
 | .lcons x r=>x.len+r.len
def Tr.evs:Tr->Nat->List (Nat×Nat×Nat)
 | .tnil,_=>[]
 | .tbyte _,_=>[]
 | .tgrp k x,i=>(k,i,i+x.len)::x.evs i
 | .talt _ x,i=>x.evs i
 | .tser l,i=>l.evs i
 | .trep l,i=>l.evs i
 | .lnil,_=>[]
 | .lcons x r,i=>x.evs i++r.evs (i+x.len)
inductive TT (s : ByteArray) : Bu -> Nat -> Nat -> Tr -> Prop
 | byte (f : Nat -> Bool) (i j : Nat) : TT s (.node (.set f)) i j (.tbyte (at' s i).toNat)
 | grp (k : Nat) (x : AD) (i j : Nat) (t : Tr) : k <= 9 -> TT s (.node x) i j t -> TT s (.node (.grp k x)) i j (.tgrp k t)
 | nil (i j : Nat) : TT s (.node .pnil) i j .tnil
 | lone (x : AD) (i j : Nat) (t : Tr) : TT s (.node x) i j t -> TT s (.node (.pcons x .pnil)) i j t
 | row (x y r : AD) (i j : Nat) (l : Tr) : TT s (.kids (.pcons x (.pcons y r))) i j l -> TT s (.node (.pcons x (.pcons y r))) i j (.tser l)
 | kend (i j : Nat) : TT s (.kids .pnil) i j .lnil
 | kgo (x r : AD) (i j c : Nat) (t u : Tr) : BH (fun m => Mt s x i m ∧ Mt s r m j) i j c -> TT s (.node x) i c t -> TT s (.kids r) c j u -> TT s (.kids (.pcons x r)) i j (.lcons t u)
 | rep (mn : Nat) (mx : Int) (x : AD) (i j : Nat) (l : Tr) : TT s (.times mn mx x) i j l -> TT s (.node (.rep mn mx x)) i j (.trep l)
 | tend (mn : Nat) (mx : Int) (x : AD) (i j : Nat) : ¬ (i < j ∨ 0 < mn) -> TT s (.times mn mx x) i j .lnil
 | tgo (mn : Nat) (mx : Int) (x : AD) (i j c : Nat) (t u : Tr) : (i < j ∨ 0 < mn) -> BH (fun m => Mt s x i m ∧ Tm (Mt s x) (mn - 1) (less mx) m j) i j c -> TT s (.node x) i c t -> TT s (.times (mn - 1) (less mx) x) c j u -> TT s (.times mn mx x) i j (.lcons t u)
 | wone (x : AD) (i j : Nat) (t : Tr) : TT s (.node x) i j t -> TT s (.node (.wone x)) i j t
 | wcons (x r : AD) (i j : Nat) (t : Tr) : TT s (.alts 0 (.wcons x r)) i j t -> TT s (.node (.wcons x r)) i j t
 | hit (p : Nat) (x r : AD) (i j : Nat) (t : Tr) : Mt s x i j -> TT s (.node x) i j t -> TT s (.alts p (.wcons x r)) i j (.talt p t)
 | miss (p : Nat) (x r : AD) (i j : Nat) (t : Tr) : ¬ Mt s x i j -> TT s (.alts (p + 1) r) i j t -> TT s (.alts p (.wcons x r)) i j t
 | last (p : Nat) (x : AD) (i j : Nat) (t : Tr) : TT s (.node x) i j t -> TT s (.alts p (.wone x)) i j (.talt p t)
theorem S7{k:Nat}(h:k<=9):CG k=Bh k:=by unfold CG;rw[AL (by omega)]
theorem TT.toTR{s:ByteArray}{J:Bu}{t:Tr}(h:TT s J i j t):J.ok s i j->TR s J i j t.text (t.evs i)∧i+t.len=j:=by
 have hle:∀{x:AD}(i j:Nat),Mt s x i j->i<=j:=fun _ _ h=>h.le
 induction h with
 |byte f i j=>intro h;exact⟨.byte f i j,h.2.2.symm⟩
 |grp k x i j t A _ ih=>
  intro h;obtain⟨a,b⟩:=ih h;refine⟨?_,b⟩;simp only[Tr.text,Tr.evs,b,S7 A];exact .grp k x i j _ _ a
 |nil i j=>intro h;exact⟨.nil i j,h⟩
 |lone x i j t _ ih=>
  rintro⟨m,a,b⟩;have B:m=j:=b;subst B;exact⟨.lone x i m _ _ (ih a).1,(ih a).2⟩
 |row x y r i j l _ ih=>intro h;exact⟨.row x y r i j _ _ (ih h).1,(ih h).2⟩
 |kend i j=>intro h;exact⟨.kend i j,h⟩
 |kgo x r i j c t u g _ _ d e=>
  rintro⟨m,a,b⟩;have n:=g.hit ⟨m,a.le,b.le,a,b⟩;obtain⟨q,v⟩:=d n.1;obtain⟨a2,C⟩:=e n.2;refine⟨?_,by simp only[Tr.len];omega⟩;simp only[Tr.text,Tr.evs,v];exact .kgo x r i j c _ _ _ _ g q a2
 |rep mn mx x i j l _ ih=>intro h;exact⟨.rep mn mx x i j _ _ (ih h).1,(ih h).2⟩
 |tend mn mx x i j o=>
  intro h;have:=Tm.le hle h;exact⟨.tend mn mx x i j o,by simp only[Tr.len];omega⟩
 |tgo mn mx x i j c t u w g _ _ d e=>
  intro h;obtain⟨n,_⟩:=Tm.cut hle h w g;obtain⟨q,v⟩:=d n.1;obtain⟨a2,C⟩:=e n.2;refine⟨?_,by simp only[Tr.len];omega⟩;simp only[Tr.text,Tr.evs,v];exact .tgo mn mx x i j c _ _ _ _ w g q a2
 |wone x i j t _ ih=>intro h;exact⟨.wone x i j _ _ (ih h).1,(ih h).2⟩
 |wcons x r i j t _ ih=>intro h;exact⟨.wcons x r i j _ _ (ih h).1,(ih h).2⟩
 |hit p x r i j t hm _ ih=>intro h;exact⟨.hit p x r i j _ _ hm (ih hm).1,(ih hm).2⟩
 |miss p x r i j t o _ ih=>
  intro h;have z:=Or.resolve_left h o;exact⟨.miss p x r i j _ _ o (ih z).1,(ih z).2⟩
 |last p x i j t _ ih=>intro h;exact⟨.last p x i j _ _ (ih h).1,(ih h).2⟩
theorem It.still{R:Nat->Nat->Prop}(hle:∀i j,R i j->i<=j):∀{n i:Nat},It R n i i->n=0∨R i i
 |0,_,_=>AH rfl
 |n+1,i,⟨m,a,b⟩=>by
  have c:=hle i m a;have d:=It.mono hle b;have:m=i:=by omega
  subst this;exact AE a
theorem It.rest{R:Nat->Nat->Prop}(h:R i i):∀n,It R n i i
 |0=>rfl
 |n+1=>⟨i,h,It.rest h n⟩
theorem Mt.null{s:ByteArray}:∀{x:AD}{i m:Nat},Mt s x i i->Mt s x m m
 | .set _,i,_,h=>by have:=h.2.2;omega
 | .grp _ x,_,_,h=>Mt.null (x:=x) h
 | .rep _ _ x,i,m,⟨n,a,b,h⟩=>by
  rcases It.still (fun _ _=>Mt.le (x:=x)) h with c|c
  ·exact⟨n,a,b,by subst c;rfl⟩
  ·exact⟨n,a,b,It.rest (Mt.null (x:=x) c) n⟩
 | .pnil,_,_,_=>rfl
 | .pcons x r,i,m,⟨q,a,b⟩=>by
  have d:=Mt.le (x:=x) a;have e:=Mt.le (x:=r) b;have:q=i:=by omega
  subst this;exact⟨m,Mt.null (x:=x) a,Mt.null (x:=r) b⟩
 | .wone x,_,_,h=>Mt.null (x:=x) h
 | .wcons x r,_,_,h=>h.elim (fun h=>Or.inl (Mt.null (x:=x) h)) (fun h=>Or.inr (Mt.null (x:=r) h))
theorem It.front{R:Nat->Nat->Prop}(hle:∀i j,R i j->i<=j)(a:∀i m,R i i->R m m):∀{n i:Nat},It R n i j->i<j->∃m k,n=k+1∧i<m∧m<=j∧R i m∧It R k m j
 |0,i,h,b=>by have:i=j:=h;omega
 |n+1,i,⟨m,r,h⟩,b=>by
  by_cases e:i<m
  ·exact⟨m,n,rfl,e,It.mono hle h,r,h⟩
  ·have:m=i:=by have:=hle i m r;omega
   subst this;obtain⟨m',k,l,c,d,f,g⟩:=It.front hle a h b;exact⟨m',k+1,by omega,c,d,f,m',a m m' r,g⟩
theorem Tm.front{R:Nat->Nat->Prop}(hle:∀i j,R i j->i<=j)(c:∀i m,R i i->R m m)(h:Tm R mn mx i j)(d:i<j):∃m,i<m∧m<=j∧R i m∧Tm R (mn-1) (less mx) m j:=by
 obtain⟨n,a,b,h⟩:=h;obtain⟨m,k,rfl,e,f,g,l⟩:=It.front hle c h d;exact⟨m,e,f,g,k,by omega,JU b,l⟩
theorem Tm.cutFront{R:Nat->Nat->Prop}(hle:∀i j,R i j->i<=j)(e:∀i m,R i i->R m m){c:Nat}(h:Tm R mn mx i j)(g:i<j)(k:BH (fun m=>R i m∧Tm R (mn-1) (less mx) m j) i j c):i<c∧R i c∧Tm R (mn-1) (less mx) c j:=by
 obtain⟨m,a,b,d⟩:=h.front hle e g;have f:i<c:=by
  rcases DU i c with h|h
  ·exact h
  ·have:c=i:=by have:=k.1;omega
   subst this;exact absurd d (k.2.2.2 m a b)
 exact⟨f,k.2.2.1 f⟩
def EP(mx:Int):Nat->Int
 |0=>mx
 |d+1=>less (EP mx d)
theorem JV(mx:Int)(h:mx<0):∀d,EP mx d=mx
 |0=>rfl
 |d+1=>by simp only[EP,JV mx h d,less];rw[AK (by omega)]
theorem JW(m:Nat):∀d,EP (m:Int) d=((m-d:Nat):Int)
 |0=>rfl
 |d+1=>by
  simp only[EP,JW m d,less];split<;>omega
def Left(R:Nat->Nat->Prop)(mn:Nat)(mx:Int)(d:Nat)(i j:Nat):Prop:=Tm R (mn-d) (EP mx d) i j
theorem Tm.none{R:Nat->Nat->Prop}:Tm R 0 0 i j↔i=j:=by
 constructor
 ·rintro⟨n,_,b,h⟩;have:n=0:=by omega
  subst this;exact h
 ·intro h;exact⟨0,by omega,by omega,h⟩
theorem Tm.must{R:Nat->Nat->Prop}(hm:0<mn):Tm R mn mx i j↔(mx≠0∧∃m,R i m∧Tm R (mn-1) (less mx) m j):=by
 constructor
 ·rintro⟨n,a,b,h⟩;cases n with
  |zero=>omega
  |succ n=>
   obtain⟨m,r,h⟩:=h;exact⟨by omega,m,r,n,by omega,JU b,h⟩
 ·rintro⟨c,m,r,n,a,b,h⟩;refine⟨n+1,by omega,?_,m,r,h⟩;unfold less at b;split at b<;>omega
theorem Tm.may{R:Nat->Nat->Prop}(hm:0<mx):Tm R 0 mx i j↔(i=j∨∃m,R i m∧Tm R 0 (less mx) m j):=by
 constructor
 ·rintro⟨n,a,b,h⟩;cases n with
  |zero=>exact AH h
  |succ n=>
   obtain⟨m,r,h⟩:=h;exact AE ⟨m,r,n,by omega,JU b,h⟩
 ·rintro(h|⟨m,r,n,a,b,h⟩)
  ·exact⟨0,by omega,by omega,h⟩
  ·refine⟨n+1,by omega,?_,m,r,h⟩;unfold less at b;split at b<;>omega
theorem Left.step{R:Nat->Nat->Prop}(h:mx<0∧d<mn∨(d:Int)<mx):Left R mn mx d i j↔((mn<=d∧i=j)∨∃m,R i m∧Left R mn mx (d+1) m j):=by
 have a:mn-(d+1)=mn-d-1:=by omega
 have b:EP mx (d+1)=less (EP mx d):=rfl;have c:EP mx d≠0∧(0<mn-d∨0<EP mx d):=by
  by_cases e:mx<0
  ·rw[JV mx e];omega
  ·obtain⟨m,rfl⟩:∃m:Nat,mx=m:=⟨mx.toNat,by omega⟩;rw[JW];omega
 unfold Left;rw[a,b];by_cases hm:0<mn-d
 ·rw[Tm.must hm];constructor
  ·rintro⟨_,h⟩;exact AE h
  ·rintro(⟨h,_⟩|h)
   ·omega
   ·exact⟨c.1,h⟩
 ·have f:mn-d=0:=by omega
  rw[f,Tm.may (by omega)];constructor
  ·rintro(h|h)
   ·exact AH ⟨by omega,h⟩
   ·exact AE h
  ·rintro(⟨_,h⟩|h)
   ·exact AH h
   ·exact AE h
theorem Left.past{R:Nat->Nat->Prop}{e:Nat}(hd:d<=e)(h:mx<0∧mn<=d∨0<=mx∧(mn:Int)<=mx∧mx<=d):Left R mn mx e i j↔Left R mn mx d i j:=by
 unfold Left;have b:mn-e=0:=by omega
 have c:mn-d=0:=by omega
 rw[b,c];by_cases a:mx<0
 ·rw[JV mx a,JV mx a]
 ·obtain⟨m,rfl⟩:∃m:Nat,mx=m:=⟨mx.toNat,by omega⟩;rw[JW,JW,show m-e=0 by omega,show m-d=0 by omega]
structure AO (R : Nat -> Nat -> Prop) (f : Nat -> Nat -> Bool) (N k : Nat) (h : Nat -> Nat -> Bool) : Prop where
 done : ∀ a b, k <= a -> a < N -> b < N -> (h a b = true ↔ Tm R 0 (-1) a b)
 rest : ∀ a b, a < k -> b < N -> h a b = decide (a = b)
structure AI (R : Nat -> Nat -> Prop) (f : Nat -> Nat -> Bool) (N a0 m : Nat) (h : Nat -> Nat -> Bool) : Prop where
 done : ∀ a b, a0 < a -> a < N -> b < N -> (h a b = true ↔ Tm R 0 (-1) a b)
 now : ∀ b, b < N -> (h a0 b = true ↔ (a0 = b ∨ ∃ q, a0 < q ∧ q < m ∧ f a0 q = true ∧ Tm R 0 (-1) q b))
 rest : ∀ a b, a < a0 -> b < N -> h a b = decide (a = b)
theorem AO.into{R:Nat->Nat->Prop}{f h:Nat->Nat->Bool}(H:AO R f N (a0+1) h):AI R f N a0 (a0+1) h:=
 ⟨fun a b x y z=>H.done a b (by omega) y z,fun b hb=>by
  rw[H.rest a0 b (by omega) hb,EJ];constructor
  ·exact AH
  ·rintro(e|⟨q,x,y,_⟩)
   ·exact e
   ·omega,fun a b x y=>H.rest a b (by omega) y⟩
theorem AI.skip{R:Nat->Nat->Prop}{f h:Nat->Nat->Bool}{m:Nat}(H:AI R f N a0 m h)(e:f a0 m=false):AI R f N a0 (m+1) h:=
 ⟨H.done,fun b hb=>by
  rw[H.now b hb];constructor
  ·rintro(x|⟨q,x,y,z⟩)
   ·exact AH x
   ·exact AE ⟨q,x,by omega,z⟩
  ·rintro(x|⟨q,x,y,z,u⟩)
   ·exact AH x
   ·refine AE ⟨q,x,?_,z,u⟩;rcases DU q m with h|h
    ·exact h
    ·have:q=m:=by omega
     subst this;rw[e]at z;exact absurd z (by decide),H.rest⟩
theorem AI.more{R:Nat->Nat->Prop}{f h:Nat->Nat->Bool}{m:Nat}(H:AI R f N a0 m h)(hm:a0<m)(c:m<N)(e:f a0 m=true):AI R f N a0 (m+1) (fun a b=>h a b||(decide (a=a0)&&h m b)):=
 ⟨fun a b x y z=>by
  rw[<-H.done a b x y z];simp[show¬a=a0 by omega],fun b hb=>by
  simp only[decide_true,Bool.true_and,GV];rw[H.now b hb,H.done m b hm c hb];constructor
  ·rintro((x|⟨q,x,y,z⟩)|x)
   ·exact AH x
   ·exact AE ⟨q,x,by omega,z⟩
   ·exact AE ⟨m,hm,by omega,e,x⟩
  ·rintro(x|⟨q,x,y,z,u⟩)
   ·exact AH (AH x)
   ·rcases DU q m with h|h
    ·exact AH (AE ⟨q,x,h,z,u⟩)
    ·have:q=m:=by omega
     subst this;exact AE u,fun a b x y=>by
  rw[<-H.rest a b x y];simp[show¬a=a0 by omega]⟩
theorem Tm.star{R:Nat->Nat->Prop}(hle:∀i j,R i j->i<=j){a b:Nat}:Tm R 0 (-1) a b↔(a=b∨∃q,a<q∧R a q∧Tm R 0 (-1) q b):=by
 constructor
 ·rintro⟨n,c,d,h⟩;by_cases e:a<b
  ·obtain⟨m,p,_,r,t⟩:=Tm.move hle (mx:=-1) h e (AH (by omega));exact AE ⟨m,p,r,t⟩
  ·have:=It.mono hle h;exact AH (by omega)
 ·rintro(rfl|⟨q,_,r,n,c,d,h⟩)
  ·exact⟨0,by omega,AH (by omega),rfl⟩
  ·exact⟨n+1,by omega,AH (by omega),q,r,h⟩
theorem AI.out{R:Nat->Nat->Prop}{f h:Nat->Nat->Bool}(l:∀i j,i<N->j<N->(f i j=true↔R i j))(hle:∀i j,R i j->i<=j)(hin:∀i j,R i j->i<N->j<N)(d:a0<N)(H:AI R f N a0 N h):AO R f N a0 h:=
 ⟨fun a b x y z=>by
  rcases DU a0 a with e|e
  ·exact H.done a b e y z
  ·have:a=a0:=by omega
   subst this;rw[H.now b z,Tm.star hle];constructor
   ·rintro(h|⟨q,g,c,k,n⟩)
    ·exact AH h
    ·exact AE ⟨q,g,(l _ _ d c).1 k,n⟩
   ·rintro(h|⟨q,g,c,k⟩)
    ·exact AH h
    ·have m:=hin _ _ c d;exact AE ⟨q,g,m,(l _ _ d m).2 c,k⟩,H.rest⟩
theorem S8(N n:Nat)(H:Hid (N=n+1))(S:n<=100)(g1 c1:Nat)(R:Nat->Nat->Prop)(f:Nat->Nat->Bool)(T:∀i j,i<N->j<N->(f i j=true↔R i j))(hle:∀i j,R i j->i<=j)(hin:∀i j,R i j->i<N->j<N)(w:World)(M:MV w (.slice (some ⟨g1,0,none⟩) N c1) N f):Calls Tryz.prog 255 #[.slice (some ⟨g1,0,none⟩) N c1] w fun e w'=>∃h,Hg w N h e w'∧∀a b,a<N->b<N->(h a b=true↔Tm R 0 (-1) a b):=by
 have U:(N:Int)<=101:=by have:=H.o;omega
 have V:(1:Int)<=(N:Int):=by have:=H.o;omega
 have D:(N:Int)-1=(n:Int):=by have:=H.o;omega
 have W:(n:Int)<=100:=by omega
 have hu:=IQ;have O:g1<w.heap.size:=(A3 M g1 rfl).2;go_enter Tryz.func255,Tryz.ntmps255;go_wp2_with fail;refine(OC n N H S w).mono ?_;rintro e w1⟨g,rfl,E,r,I⟩;go_wp2_with fail;go_loopw [4,5] (fun q _ wr=>∃(k:Nat)(h:Nat->Nat->Bool),k<=N∧q=.int .i64 ((k:Int)-1)∧MV wr (.slice (some ⟨g,0,none⟩) N N) N h∧Hid (AO R f N k h)∧AA [] w wr) (fun q _ _=>(intOf q+1).toNat)
 case atStart=>exact⟨N,_,AP _,by rw[D],E,⟨fun a b _ _ _=>by omega,fun a b _ _=>rfl⟩,r⟩
 case round=>
  clear E r;obtain⟨k,h,P,rfl,s,d,l⟩:=hrel;cases k with
  |zero=>
   have e:(((0:Nat):Int)-1)=-1:=by omega
   rw[e];go_wp2_with fail;go_ret;exact⟨h,⟨g,rfl,s,l,I⟩,fun a b X hb=>d.o.done a b (AY _) X hb⟩
  |succ k=>
   have e:(((k+1:Nat):Int)-1)=(k:Int):=by omega
   rw[e];clear e;have Y:(0:Int)<=(k:Int):=by omega
   have r:(k:Int)<(N:Int):=by omega
   have Z:(k:Int)<=100:=by omega
   have C:Hid (k<N):=P;clear P;go_wp2_with fail;go_loopw [5] (fun q wq=>∃(m:Nat)(h:Nat->Nat->Bool),k<m∧m<=N∧q=.int .i64 m∧MV wq (.slice (some ⟨g,0,none⟩) N N) N h∧Hid (AI R f N k m h)∧AA [] w wq) (fun q _=>N-(intOf q).toNat)
   case atStart=>exact⟨k+1,h,by omega,C.o,by go_num,s,d.o.into,l⟩
   case round=>
    clear s l d;obtain⟨m,h,t,hm,rfl,s,d,l⟩:=hrel;by_cases u:m<N
    ·have aa:(0:Int)<=(m:Int):=by omega
     have ab:(m:Int)<(N:Int):=by omega
     have v:Hid (m<N):=u;have y:Hid (k<m):=t;have F:=(M.keep l (by simp)).range C.o;clear hm u t;go_wp2_with(first|(refine ED rfl 141 _ rfl g1 (k*2) rfl _ _ F hu rfl IT ?_));refine(GZ (f k) m (by have:=v.o;omega) wr).mono ?_;rintro e w2⟨rfl,z⟩;have c:=s.keep z (by simp);have A:=l.trans z;clear s l z F;cases B:f k m
     ·go_wp2_with fail;go_roundw
      case rel=>exact⟨m+1,h,by have:=y.o;omega,v.o,by go_num,c,d.o.skip B,A⟩
      case measure=>have:=v.o;simp[intOf];omega
     ·have p:MV w2.drew (.slice (some ⟨g,0,none⟩) N N) N _:=World.ownsRow.drew c;obtain⟨b0,b1⟩:=c.at v.o;have Q:=LH g N N k _ (h m) C.o w2.drew p;have HF:Hid (f k m=true):=B;clear B;go_wp2_with fail
      go_region_with (first|(go_at_call 176;refine Q.mono ?_;rintro e w3⟨rfl,J,G⟩))
      have K:AA [] w w3:=BZ A (((AG [g] w2).drewN 1).trans G) (by intro x hx;simp at hx;omega);clear Q c p A G b0 b1;go_wp2_with fail;go_roundw
      case rel=>exact⟨m+1,_,by have:=y.o;omega,v.o,by go_num,J,d.o.more y.o v.o HF.o,K⟩
      case measure=>have:=v.o;simp[intOf];omega
    ·have he:m=N:=by omega
     have ac:¬(m:Int)<(N:Int):=by omega
     have L:Hid (AO R f N k h):=AI.out T hle hin C.o (he ▸ d.o);clear hm u he t d;go_wp2_with fail;exact⟨⟨k,h,by have:=C.o;omega,by go_num,s,L,l⟩,by have:=C.o;simp[intOf]⟩
theorem S9(N:Nat)(W:N<=101)(g1 c1 g2 c2:Nat)(f1 f2:Nat->Nat->Bool)(i j:Nat)(v:i<=j)(G:j<N)(w:World)(I:MV w (.slice (some ⟨g1,0,none⟩) N c1) N f1)(H:MV w (.slice (some ⟨g2,0,none⟩) N c2) N f2):Calls Tryz.prog 181 #[.slice (some ⟨g1,0,none⟩) N c1,.slice (some ⟨g2,0,none⟩) N c2,.int .i64 i,.int .i64 j] w fun e w'=>∃c:Nat,e=.returned (.int .i64 c)∧BH (fun m=>f1 i m=true∧f2 m j=true) i j c∧AA [] w w':=by
 have hu:=IQ;have J:(0:Int)<=(i:Int):=by omega
 have K:(i:Int)<(N:Int):=by omega
 have L:Hid (i<=j):=v;have A:Hid (j<N):=G;have C:Hid (i<N):=by show i<N;omega
 have M:(N:Int)<=101:=by omega
 clear v G;go_enter Tryz.func181,Tryz.ntmps181;go_wp2_with fail;go_loopw [9] (fun q wr=>∃m:Nat,q=.int .i64 m∧i<=m∧m<=j∧Hid (∀x,m<x->x<=j->¬(f1 i x=true∧f2 x j=true))∧AA [] w wr) (fun q _=>(intOf q).toNat)
 case atStart=>exact⟨j,rfl,L.o,AP _,fun x a b=>by omega,AG _ _⟩
 case round=>
  obtain⟨m,rfl,y,g,r,k⟩:=hrel;by_cases hlt:i<m
  ·have O:(0:Int)<=(m:Int):=by omega
   have P:(m:Int)<(N:Int):=by have:=A.o;omega
   have z:(i:Int)<(m:Int):=by omega
   have D:decide ((i:Int)<(m:Int))=true:=by simpa using z
   have B:Hid (m<N):=by show m<N;have:=A.o;omega
   have f:Hid (i<m):=hlt;have l:Hid (m<=j):=g;obtain⟨a0,X⟩:=(I.keep k (by simp)).at C.o;have Q:(m:Int)-1=((m-1:Nat):Int):=by omega
   clear hlt y g;cases s:f1 i m
   ·have t:=GZ (f1 i) m (by have:=B.o;omega) wr;rw[s]at t;have n:Hid (∀x,m-1<x->x<=j->¬(f1 i x=true∧f2 x j=true)):=fun x a b=>by
     by_cases h:x=m
     ·subst h;rw[s];rintro⟨h,_⟩;cases h
     ·exact r.o x (by omega) b
    clear s r;go_wp2_with(go_at_call 73;refine t.mono ?_;rintro e w2⟨rfl,d⟩);go_roundw
    case rel=>exact⟨m-1,by go_num,by have:=f.o;omega,by have:=l.o;omega,n,k.trans d⟩
    case measure=>have:=f.o;simp[intOf];omega
   ·have t:=GZ (f1 i) m (by have:=B.o;omega) wr;rw[s]at t;have R:Hid (f1 i m=true):=s;clear s;cases u:f2 m j
    ·have n:Hid (∀x,m-1<x->x<=j->¬(f1 i x=true∧f2 x j=true)):=fun x a b=>by
      by_cases h:x=m
      ·subst h;rw[u];rintro⟨_,h⟩;cases h
      ·exact r.o x (by omega) b
     have E:∀w2,Calls Tryz.prog 73 #[.agg #[.int .u64 (wk (f2 m) 0),.int .u64 (wk (f2 m) 1)],.int .i64 j] w2 fun e w'=>e=.returned (.bool false)∧AA [] w2 w':=fun w2=>by
      have:=GZ (f2 m) j (by have:=A.o;omega) w2;rw[u]at this;exact this
     clear u r;go_wp2_with(first|(go_at_call_of 73 (Value.int IntKind.i64 (j:Int));refine(E _).mono ?_;rintro e w3⟨rfl,p⟩)|(go_at_call_of 73 (Value.int IntKind.i64 (m:Int));refine t.mono ?_;rintro e w2⟨rfl,d⟩;obtain⟨S,T⟩:=(H.keep (k.trans d) (by simp)).at B.o));go_roundw
     case rel=>exact⟨m-1,by go_num,by have:=f.o;omega,by have:=l.o;omega,n,(k.trans d).trans p⟩
     case measure=>have:=f.o;simp[intOf];omega
    ·have U:Hid (f2 m j=true):=u;have E:∀w2,Calls Tryz.prog 73 #[.agg #[.int .u64 (wk (f2 m) 0),.int .u64 (wk (f2 m) 1)],.int .i64 j] w2 fun e w'=>e=.returned (.bool true)∧AA [] w2 w':=fun w2=>by
      have:=GZ (f2 m) j (by have:=A.o;omega) w2;rw[u]at this;exact this
     clear u;go_wp2_with(first|(go_at_call_of 73 (Value.int IntKind.i64 (j:Int));refine(E _).mono ?_;rintro e w3⟨rfl,p⟩)|(go_at_call_of 73 (Value.int IntKind.i64 (m:Int));refine t.mono ?_;rintro e w2⟨rfl,d⟩;obtain⟨S,T⟩:=(H.keep (k.trans d) (by simp)).at B.o));go_ret;exact⟨m,rfl,⟨by have:=f.o;omega,l.o,fun _=>⟨R.out,U.out⟩,r.o⟩,(k.trans d).trans p⟩
  ·have he:m=i:=by omega
   have F:¬(i:Int)<(m:Int):=by omega
   have D:decide ((i:Int)<(m:Int))=false:=by simpa using F
   have V:Hid (m=i):=he;clear he hlt;go_wp2_with fail;go_ret;exact⟨m,rfl,⟨y,g,fun h=>by have:=V.o;omega,r.o⟩,k⟩
def MP(w:World)(S:Nat->Prop)(N:Nat)(v:Value)(R:Nat->Nat->Prop):Prop:=
 ∃g c f,v=.slice (some ⟨g,0,none⟩) N c∧MV w (.slice (some ⟨g,0,none⟩) N c) N f∧S g∧∀i j,i<N->j<N->(f i j=true↔R i j)
theorem MP.keep{S:Nat->Prop}{L:List Nat}{R:Nat->Nat->Prop}(h:MP w S N v R)(d:AA L w w')(i:∀g,S g->g∉L):MP w' S N v R:=by
 obtain⟨g,c,f,e,hm,a,j⟩:=h;exact⟨g,c,f,e,hm.keep d (fun x b=>by simp only[Value.ownBlock,Ai]at b;subst b;exact i _ a),a,j⟩
theorem MP.mono{S S':Nat->Prop}{R:Nat->Nat->Prop}(h:MP w S N v R)(a:∀g,S g->g<w.heap.size->S' g):MP w S' N v R:=by
 obtain⟨g,c,f,e,hm,b,d⟩:=h;exact⟨g,c,f,e,hm,a g b (A3 hm g rfl).2,d⟩
theorem MP.congr{S:Nat->Prop}{R a:Nat->Nat->Prop}(h:MP w S N v R)(e:∀i j,i<N->j<N->(R i j↔a i j)):MP w S N v a:=by
 obtain⟨g,c,f,d,hm,k,l⟩:=h;exact⟨g,c,f,d,hm,k,fun i j hi b=>(l i j hi b).trans (e i j hi b)⟩
theorem MP.one{S:Nat->Prop}{R:Nat->Nat->Prop}(h:MP w S N v R):v.oneCell'=true∧v.cells=#[v]:=by
 obtain⟨g,c,f,rfl,_⟩:=h;exact⟨rfl,rfl⟩
def Hh(w:World)(N:Nat)(R:Nat->Nat->Prop)(e:Ending)(w':World):Prop:=∃v,e=.returned v∧MP w' (fun g=>w.heap.size<=g) N v R∧AA [] w w'
theorem Hg.toMP{f:Nat->Nat->Bool}{R:Nat->Nat->Prop}{e:Ending}(h:Hg w N f e w')(a:∀i j,i<N->j<N->(f i j=true↔R i j)):Hh w N R e w':=by
 obtain⟨g,rfl,hm,b,c⟩:=h;exact⟨_,rfl,⟨g,N,f,rfl,hm,c,a⟩,b⟩
theorem TA(n N:Nat)(a:Hid (N=n+1))(b:n<=100)(w:World):Calls Tryz.prog 124 #[.int .i64 n] w (Hh w N fun _ _=>False):=(LK n N a b w).mono fun e w' h=>h.toMP fun i j _ _=>by simp
theorem OF(n N:Nat)(a:Hid (N=n+1))(b:n<=100)(w:World):Calls Tryz.prog 172 #[.int .i64 n] w (Hh w N fun i j=>i=j):=(OC n N a b w).mono fun e w' h=>h.toMP fun i j _ _=>by simp
theorem OG(N:Nat)(d:N<=101){f g:Nat->Prop}{a b:Nat->Nat->Prop}(w:World)(k:MP w f N v1 a)(l:MP w g N v2 b):Calls Tryz.prog 126 #[v1,v2] w (Hh w N fun i j=>a i j∨b i j):=by
 obtain⟨g1,c1,f1,rfl,m1,_,m⟩:=k;obtain⟨g2,c2,f2,rfl,m2,_,n⟩:=l;exact(S5 N d g1 c1 g2 c2 f1 f2 w m1 m2).mono fun e w' h=>h.toMP fun i j hi c=>by rw[GV,m i j hi c,n i j hi c]
theorem OH(N:Nat)(o:N<=101){p q:Nat->Prop}{f g:Nat->Nat->Prop}(hle:∀i j,f i j->i<=j)(hin:∀i j,f i j->i<N->j<N)(w:World)(r:MP w p N v1 f)(s:MP w q N v2 g):Calls Tryz.prog 175 #[v1,v2] w (Hh w N fun i j=>∃m,f i m∧g m j):=by
 obtain⟨g1,c1,f1,rfl,m1,_,k⟩:=r;obtain⟨g2,c2,f2,rfl,m2,_,l⟩:=s;refine(S6 N o g1 c1 g2 c2 f1 f2 w m1 m2).mono fun e w' h=>h.toMP fun i j hi n=>?_
 rw[OD];constructor
 ·rintro⟨m,a,b,c,d⟩;exact⟨m,(k i m hi b).1 c,(l m j b n).1 d⟩
 ·rintro⟨m,a,b⟩;have hm:=hin i m a hi;exact⟨m,hle i m a,hm,(k i m hi hm).2 a,(l m j hm n).2 b⟩
theorem TB(N n:Nat)(a:Hid (N=n+1))(b:n<=100){S:Nat->Prop}{R:Nat->Nat->Prop}(hle:∀i j,R i j->i<=j)(hin:∀i j,R i j->i<N->j<N)(w:World)(h:MP w S N v R):Calls Tryz.prog 255 #[v] w (Hh w N (Tm R 0 (-1))):=by
 obtain⟨g,c,f,rfl,m,_,r⟩:=h;refine(S8 N n a b g c R f r hle hin w m).mono ?_;rintro e w'⟨h,hm,d⟩;exact hm.toMP d
theorem OI(N:Nat)(q:N<=101){r s:Nat->Prop}{l n:Nat->Nat->Prop}(i j:Nat)(g:i<=j)(k:j<N)(w:World)(t:MP w r N v1 l)(u:MP w s N v2 n):Calls Tryz.prog 181 #[v1,v2,.int .i64 i,.int .i64 j] w fun e w'=>∃c:Nat,e=.returned (.int .i64 c)∧BH (fun m=>l i m∧n m j) i j c∧AA [] w w':=by
 obtain⟨g1,c1,f1,rfl,m1,_,o⟩:=t;obtain⟨g2,c2,f2,rfl,m2,_,p⟩:=u;refine(S9 N q g1 c1 g2 c2 f1 f2 i j g k w m1 m2).mono ?_;rintro e w'⟨c,rfl,d,v⟩;refine⟨c,rfl,⟨d.1,d.2.1,fun h=>?_,fun m a b=>?_⟩,v⟩
 ·have f:c<N:=by have:=d.2.1;omega
  obtain⟨x,y⟩:=d.2.2.1 h;exact⟨(o i c (by omega) f).1 x,(p c j f k).1 y⟩
 ·rintro⟨x,y⟩;exact d.2.2.2 m a b ⟨(o i m (by omega) (by omega)).2 x,(p m j (by omega) k).2 y⟩
theorem OJ(N:Nat)(d:N<=101){S:Nat->Prop}{R:Nat->Nat->Prop}(w:World)(h:MP w S N v R)(i:Nat)(hi:i<N):∃g c f,v=.slice (some ⟨g,0,none⟩) N c∧w.rangeAt g (i*2) [.int .u64 (wk f 0),.int .u64 (wk f 1)]∧(∀j,j<N->(f j=true↔R i j))∧S g∧g<w.heap.size:=by
 obtain⟨g,c,f,rfl,m,a,r⟩:=h;exact⟨g,c,f i,rfl,m.range hi,fun j b=>r i j hi b,a,(A3 m g rfl).2⟩
theorem TC(f:Nat->Bool)(s:ByteArray)(N:Nat)(z:Hid (N=s.size+1))(M:s.size<=100)(w:World):Calls Tryz.prog 254 #[.agg (AZ f),.string s] w (Hh w N (Mt s (.set f))):=by
 have c:HQ (w.alloc (.cells (AZ f) 206)) w.heap.size f:=AS w _;have d:AA [] w (w.alloc (.cells (AZ f) 206)):=(AG [] w).alloc _;generalize AZ f=C at*;go_enter Tryz.func254,Tryz.ntmps254;go_wp2_with fail;generalize w.alloc (.cells C 206)=W at*;obtain⟨g0,p⟩:=An w.heap.size;rw[p]at c⊢;refine(LK s.size N z M W).mono ?_;rintro e w1⟨g,rfl,h,m,X⟩;have r:=c.keep m (by simp);have J:g0<W.heap.size:=c.lt;have B:w.heap.size<=g:=by have:=d.size;omega
 have t:=d.trans m;have O:(N:Int)<=101:=by have:=z.o;omega
 have P:(s.size:Int)<=100:=by omega
 clear c d m p;go_wp2_with fail;go_loopw [6,12] (fun _ q wr=>∃k:Nat,k<=s.size∧q=.int .i64 k∧MV wr (.slice (some ⟨g,0,none⟩) N N) N (fun i j=>decide (i<k)&&(f (at' s i).toNat&&decide (j=i+1)))∧HQ wr g0 f∧AA [] w wr) (fun _ q _=>s.size-(intOf q).toNat)
 case atStart=>exact⟨0,by omega,rfl,h.ext (fun a b _ _=>by simp),r,t⟩
 case round=>
  clear h r t;obtain⟨k,m,rfl,h,D,E⟩:=hrel;by_cases hlt:k<s.size
  ·have d:(0:Int)<=(k:Int):=by omega
   have Q:(k:Int)<(s.size:Int):=by omega
   have R:(k:Int)<(N:Int):=by have:=z.o;omega
   have hb:at' s k=(s[k].toNat:Int):=Bd hlt;have F:s[k].toNat<256:=UInt8.toNat_lt _;have S:(0:Int)<=(s[k].toNat:Int):=by omega
   have T:(s[k].toNat:Int)<256:=by omega
   have u:=D.cell F;have HB:Hid ((at' s k).toNat=s[k].toNat):=by show(at' s k).toNat=s[k].toNat;rw[hb];rfl
   clear hb m;cases n:f s[k].toNat with
   |false=>
    rw[n]at u;have G:Hid (f s[k].toNat=false):=n;have v:Hid (k<s.size):=hlt;clear n;go_wp2_with fail;go_roundw
    case rel=>exact⟨k+1,v.o,by go_num,h.ext (fun a b _ _=>by
     by_cases A:a=k
     ·subst A;rw[HB.o,G.o];simp
     ·have:(a<k+1)↔(a<k):=by omega
      simp[this]),D,E⟩
    case measure=>have:=v.o;simp[intOf];omega
   |true=>
    rw[n]at u;have G:Hid (f s[k].toNat=true):=n;have v:Hid (k<s.size):=hlt;clear n;have K:=N6 g N N k (k+1) _ (by have:=z.o;omega) (by omega) wr h;have L:((k+1:Nat):Int)=(k:Int)+1:=by omega
    rw[L]at K;clear L;go_wp2_with(go_at_call 211;refine K.mono ?_;rintro e w2⟨rfl,l,y⟩);have H:=D.keep y (by simp;omega);have I:AA [] w w2:=BZ E y (by intro x U;simp at U;omega);go_roundw
    case rel=>exact⟨k+1,v.o,by go_num,l.ext (fun a b _ _=>by
     by_cases A:a=k
     ·subst A;rw[HB.o,G.o];simp
     ·have:(a<k+1)↔(a<k):=by omega
      simp[A,this]),H,I⟩
    case measure=>have:=v.o;simp[intOf];omega
  ·have he:k=s.size:=by omega
   have V:¬(k:Int)<(s.size:Int):=by omega
   have l:MP wr (fun x=>w.heap.size<=x) N (.slice (some ⟨g,0,none⟩) N N) (Mt s (.set f)):=⟨g,N,_,rfl,h,B,fun i j hi Y=>by
    simp only[GH,EJ,he];exact Iff.rfl⟩
   clear h m he hlt;go_wp2_with fail;go_ret;exact⟨_,rfl,l,E⟩
def RR(w:World)(S:Nat->Prop)(N M:Nat)(v:Value)(F:Nat->Nat->Nat->Prop):Prop:=
 ∃g c vs,v=.slice (some ⟨g,0,none⟩) M c∧w.ownsRow 0 76 1 (.slice (some ⟨g,0,none⟩) M c) M vs∧S g∧∀d,d<M->∃u,vs[d]? =some u∧MP w S N u (F d)
theorem RR.keep{S:Nat->Prop}{L:List Nat}{F:Nat->Nat->Nat->Prop}(h:RR w S N M v F)(f:AA L w w')(i:∀g,S g->g∉L):RR w' S N M v F:=by
 obtain⟨g,c,vs,e,l,j,m⟩:=h;refine⟨g,c,vs,e,l.keep f (fun x k=>by simp only[Value.ownBlock,Ai]at k;subst k;exact i _ j),j,fun d hd=>?_⟩;obtain⟨u,a,b⟩:=m d hd;exact⟨u,a,b.keep f i⟩
theorem RR.mono{S S':Nat->Prop}{F:Nat->Nat->Nat->Prop}(h:RR w S N M v F)(f:∀g,S g->g<w.heap.size->S' g):RR w S' N M v F:=by
 obtain⟨g,c,vs,e,i,j,k⟩:=h;refine⟨g,c,vs,e,i,f g j (A3 i g rfl).2,fun d hd=>?_⟩;obtain⟨u,a,b⟩:=k d hd;exact⟨u,a,b.mono f⟩
theorem RR.at{S:Nat->Prop}{F:Nat->Nat->Nat->Prop}(h:RR w S N M v F)(hd:d<M):∃g c u,v=.slice (some ⟨g,0,none⟩) M c∧g<w.heap.size∧S g∧w.cell? ⟨g,d,none⟩=some u∧MP w S N u (F d):=by
 obtain⟨g,c,vs,e,f,i,j⟩:=h;obtain⟨u,a,b⟩:=j d hd;exact⟨g,c,u,e,(A3 f g rfl).2,i,(BX f d (by omega)).trans a,b⟩
theorem OK:(Tryz.prog.info? 76).map (fun i=>(i.zero,i.size,i.bytes))=some (some (.slice none 0 0),1,24):=by kernel_rfl
structure FL (w wr : World) (g N M : Nat) (F : Nat -> Nat -> Nat -> Prop) (d : Nat) : Prop where
 own : ∃ vs, wr.ownsRow 0 76 1 (.slice (some ⟨g, 0, none⟩) M M) M vs ∧ ∀ e, d <= e -> e < M -> ∃ u, vs[e]? = some u ∧ MP wr (fun x => w.heap.size <= x ∧ x ≠ g) N u (F e)
 keep : AA [] w wr
 low : w.heap.size <= g
theorem FL.glt{F:Nat->Nat->Nat->Prop}(h:FL w wr g N M F d):g<wr.heap.size:=by
 obtain⟨vs,a,b⟩:=h.own;exact(A3 a g rfl).2
theorem FL.keeps{F:Nat->Nat->Nat->Prop}(h:FL w wr g N M F d)(c:AA [] wr w'):FL w w' g N M F d:=by
 obtain⟨vs,a,b⟩:=h.own;exact⟨⟨vs,a.keep c (by simp),fun e f i=>by
  obtain⟨u,x,y⟩:=b e f i;exact⟨u,x,y.keep c (by simp)⟩⟩,h.keep.trans c,h.low⟩
theorem FL.cell{F:Nat->Nat->Nat->Prop}(h:FL w wr g N M F d){e:Nat}(he:e<M):(∃u,wr.cell? ⟨g,e,none⟩=some u)∧wr.frozen? ⟨g,e,none⟩=false:=by
 obtain⟨vs,a,b⟩:=h.own;have c:vs.length=M:=by have:=a.1;omega
 refine⟨⟨vs[e]'(by omega),?_⟩,D8 a e⟩;rw[BX a e (by omega),Ax]
theorem FL.at{F:Nat->Nat->Nat->Prop}(h:FL w wr g N M F d){e:Nat}(hd:d<=e)(he:e<M):∃u,wr.cell? ⟨g,e,none⟩=some u∧MP wr (fun x=>w.heap.size<=x∧x≠g) N u (F e):=by
 obtain⟨vs,a,b⟩:=h.own;obtain⟨u,x,y⟩:=b e hd he;exact⟨u,(BX a e (by omega)).trans x,y⟩
theorem FL.put{F:Nat->Nat->Nat->Prop}(h:FL w wr g N M F (d+1))(hd:d<M){u:Value}{S:Nat->Prop}(hu:MP wr S N u (F d))(i:∀x,S x->w.heap.size<=x∧x≠g):FL w (wr.setCell ⟨g,d,none⟩ u) g N M F d:=by
 obtain⟨vs,a,b⟩:=h.own;have l:vs.length=M:=by have:=a.1;omega
 have f:AA [g] wr (wr.setCell ⟨g,d,none⟩ u):=(AG [g] wr).setCell (p:=⟨g,d,none⟩) (by simp) _;refine⟨⟨vs.set d u,(Es a d u).1,fun e m j=>?_⟩,BZ h.keep f (by intro x c;simp at c;subst c;exact AE h.low),h.low⟩;by_cases k:e=d
 ·subst k;exact⟨u,by rw[List.getElem?_set_self (by omega)],(hu.mono (S':=fun x=>w.heap.size<=x∧x≠g) fun x c _=>i x c).keep f (by intro x c;simp;exact c.2)⟩
 ·obtain⟨v,x,y⟩:=b e (by omega) j;exact⟨v,by rw[List.getElem?_set_ne (by omega)];exact x,y.keep f (by intro x c;simp;exact c.2)⟩
theorem FL.any{F:Nat->Nat->Nat->Prop}(h:FL w wr g N M F (d+1))(u:Value):FL w (wr.setCell ⟨g,d,none⟩ u) g N M F (d+1):=by
 obtain⟨vs,a,b⟩:=h.own;have f:AA [g] wr (wr.setCell ⟨g,d,none⟩ u):=(AG [g] wr).setCell (p:=⟨g,d,none⟩) (by simp) _;refine⟨⟨vs.set d u,(Es a d u).1,fun e j i=>?_⟩,BZ h.keep f (by intro x c;simp at c;subst c;exact AE h.low),h.low⟩;obtain⟨v,x,y⟩:=b e (by omega) i;exact⟨v,by rw[List.getElem?_set_ne (by omega)];exact x,y.keep f (by intro x c;simp;exact c.2)⟩
theorem FL.done{F:Nat->Nat->Nat->Prop}(h:FL w wr g N M F 0):RR wr (fun x=>w.heap.size<=x) N M (.slice (some ⟨g,0,none⟩) M M) F:=by
 obtain⟨vs,a,b⟩:=h.own;refine⟨g,M,vs,rfl,a,h.low,fun d hd=>?_⟩;obtain⟨u,x,y⟩:=b d (by omega) hd;exact⟨u,x,y.mono fun z c _=>c.1⟩
