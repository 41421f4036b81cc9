/-
  DERIVED. Plain mathematics: how a pattern is read (the document's grammar) and written in one way, as functions on bytes. Nothing of the program stands here; nothing is proved here but small facts on these functions.
-/
import Derived.Below
set_option linter.all false
set_option maxRecDepth 100000
set_option maxHeartbeats 8000000
namespace Go.Proofs.YtnfojonmohijpaaGreatDoor
variable{s:ByteArray}{i j:Nat}{ahead least:Int}
def EJ:=@decide_eq_true_eq
def GH:=@Bool.and_eq_true
def DU:=@Nat.lt_or_ge
def BG:=@Nat.le_trans
def AP:=@Nat.le_refl
def AL:=@if_pos
def AK:=@if_neg
def at'(s:ByteArray)(i:Nat):Int:=if h:i<s.size then(s[i].toNat:Int)else-1
theorem Bd(h:i<s.size):at' s i=(s[i].toNat:Int):=by simp[at',h]
theorem Cu(h:s.size<=i):at' s i=-1:=by simp[at',Nat.not_lt.2 h]
theorem E8(s:ByteArray)(i:Nat):-1<=at' s i∧at' s i<=255:=by
 unfold at';split
 ·rename_i h;have:=s[i].toNat_lt;omega
 ·omega
theorem Ap(h:0<=at' s i):i<s.size:=by
 rcases DU i s.size with a|a
 ·exact a
 ·rw[Cu a]at h;omega
def At(c:Int):Bool:=decide (48<=c)&&decide (c<=57)
def C9(c:Int):Bool:=At c||(decide (97<=c)&&decide (c<=122))||(decide (65<=c)&&decide (c<=90))
inductive R (α : Type) where
 | ok (a : α) (i : Nat)
 | bad (i : Nat)
def R.bind{α β:Type}:R α->(α->Nat->R β)->R β
 | .ok a i,f=>f a i
 | .bad i,_=> .bad i
def A7(s:ByteArray)(c:Int)(i:Nat):R Unit:=if at' s i=c then .ok () (i+1)else .bad i
def Ah(c:Int):Int:=if 48<=c∧c<=57 then c-48 else if 97<=c∧c<=102 then c-87 else-1
theorem Hw(c:Int):-1<=Ah c∧Ah c<=15:=by unfold Ah;split<;>(try split)<;>omega
def Aw(s:ByteArray)(ahead:Int)(last:Bool)(least:Int)(i:Nat):R Int:=
 if Ah (at' s i)<0∨(if last then ahead+Ah (at' s i)else 16*(ahead+Ah (at' s i))+15)<least then .bad i else .ok (Ah (at' s i)) (i+1)
def A9(s:ByteArray)(least:Int)(i:Nat):R Int:=
 if at' s i=120 then(Aw s 0 false least (i+1)).bind fun a j=>(Aw s (16*a) true least j).bind fun b k=> .ok (16*a+b) k
 else if at' s i<0∨C9 (at' s i)=true∨at' s i<least then .bad i else .ok (at' s i) (i+1)
def Ar(s:ByteArray)(least:Int)(i:Nat):R Int:=
 if at' s i=92 then A9 s least (i+1)
 else if at' s i<0∨at' s i=91∨at' s i=93∨at' s i=45∨at' s i=94∨at' s i<least then .bad i else .ok (at' s i) (i+1)
def names:List (List UInt8):=[[100,105,103,105,116],[108,111,119,101,114],[117,112,112,101,114],[97,108,112,104,97],[97,108,110,117,109],[115,112,97,99,101],[112,117,110,99,116]]
def El(c:Int):Bool:=decide (97<=c)&&decide (c<=122)
def Em(c:Int):Bool:=decide (65<=c)&&decide (c<=90)
def BC(n:Nat)(c:Int):Bool:=
 match n with
 |0=>At c
 |1=>El c
 |2=>Em c
 |3=>El c||Em c
 |4=>At c||El c||Em c
 |5=>(decide (9<=c)&&decide (c<=13))||decide (c=32)
 |_=>decide (32<c)&&decide (c<127)&& !At c&& !El c&& !Em c
def DA(word:List UInt8)(c:Int):Bool:=names.any fun n=>decide (word.length<n.length)&&decide (n.take word.length=word)&&decide (((n.getD word.length 0).toNat:Int)=c)
def BR(s:ByteArray):Nat->List UInt8->Nat->R Nat
 |0,_,i=> .bad i
 |f+1,word,i=>
  match names.findIdx? (·=word)with
  |some k=> .ok k i
  |none=>if DA word (at' s i)then BR s f (word++[s.get! i]) (i+1)else .bad i
def CQ(s:ByteArray)(i:Nat):R Nat:=(A7 s 58 (i+1)).bind fun _ j=>(BR s 6 [] j).bind fun k j=>(A7 s 58 j).bind fun _ j=>(A7 s 93 j).bind fun _ j=> .ok k j
def A0(a c:Int):Nat->Bool:=fun n=>decide (a<=(n:Int))&&decide ((n:Int)<=c)
def Am(s:ByteArray)(i:Nat):R (Nat->Bool):=
 if at' s i=91 then(CQ s i).bind fun k j=> .ok (fun n=>BC k n) j
 else(Ar s 0 i).bind fun a j=>if at' s j=45 then(Ar s a (j+1)).bind fun c k=> .ok (A0 a c) k else .ok (A0 a a) j
inductive EY (s : ByteArray) : (Nat -> Bool) -> Nat -> R (Nat -> Bool) -> Prop
 | done (f : Nat -> Bool) (i : Nat) : at' s i = 93 -> EY s f i (.ok f (i + 1))
 | more (f r : Nat -> Bool) (i j : Nat) (q : R (Nat -> Bool)) : at' s i ≠ 93 -> Am s i = .ok r j -> EY s (fun n => f n || r n) j q -> EY s f i q
 | bad (f : Nat -> Bool) (i j : Nat) : at' s i ≠ 93 -> Am s i = .bad j -> EY s f i (.bad j)
theorem EY.det{f:Nat->Bool}{q g:R (Nat->Bool)}(h:EY s f i q)(d:EY s f i g):q=g:=by
 induction h with
 |done f i e=>cases d with
  |done=>rfl
  |more _ _ _ _ _ b=>exact absurd e b
  |bad _ _ _ b=>exact absurd e b
 |more f r i j q e c _ ih=>cases d with
  |done _ _ b=>exact absurd b e
  |more _ l _ m _ _ a k=>
   rw[c]at a;cases a;exact ih k
  |bad _ _ _ _ a=>rw[c]at a;cases a
 |bad f i j e c=>cases d with
  |done _ _ b=>exact absurd b e
  |more _ l _ m _ _ a k=>rw[c]at a;cases a
  |bad _ _ _ _ a=>rw[c]at a;cases a;rfl
inductive DH (s : ByteArray) : Nat -> R (Nat -> Bool) -> Prop
 | go (r : Nat -> Bool) (i j : Nat) (q : R (Nat -> Bool)) : Am s i = .ok r j -> EY s r j q -> DH s i q
 | bad (i j : Nat) : Am s i = .bad j -> DH s i (.bad j)
theorem DH.det{q c:R (Nat->Bool)}(h:DH s i q)(d:DH s i c):q=c:=by
 cases h with
 |go r _ j _ e f=>cases d with
  |go g _ k _ a b=>rw[e]at a;cases a;exact f.det b
  |bad _ _ a=>rw[e]at a;cases a
 |bad _ j e=>cases d with
  |go g _ k _ a b=>rw[e]at a;cases a
  |bad _ _ a=>rw[e]at a;cases a;rfl
def R.map{α β:Type}(f:α->β):R α->R β
 | .ok a i=> .ok (f a) i
 | .bad i=> .bad i
def E9(s:ByteArray)(i:Nat)(q:R (Nat->Bool)):Prop:=
 (at' s i=94∧∃a,DH s (i+1) a∧q=a.map (fun f n=> !f n))∨(at' s i≠94∧DH s i q)
theorem E9.det{q d:R (Nat->Bool)}(h:E9 s i q)(f:E9 s i d):q=d:=by
 rcases h with⟨e,r,b,rfl⟩|⟨e,b⟩<;>rcases f with⟨c,g,a,rfl⟩|⟨c,a⟩
 ·rw[b.det a]
 ·exact absurd e c
 ·exact absurd c e
 ·exact b.det a
theorem Jz{a:Int}{last:Bool}(h:Aw s ahead last least i=.ok a j):j=i+1∧0<=a∧a<=15∧i<s.size∧least<=(if last then ahead+a else 16*(ahead+a)+15):=by
 unfold Aw at h;by_cases b:Ah (at' s i)<0∨(if last then ahead+Ah (at' s i)else 16*(ahead+Ah (at' s i))+15)<least
 ·rw[AL b]at h;cases h
 ·rw[AK b]at h;have hd:=Hw (at' s i)
  injection h with d e
  subst d;have:0<=at' s i:=by
   by_cases c:0<=at' s i
   ·exact c
   ·exfalso;apply b;left;unfold Ah;rw[AK (by omega),AK (by omega)];omega
  have:=Ap this;refine⟨e.symm,?_,hd.2,this,?_⟩
  ·omega
  ·exact Int.not_lt.1 fun c=>b (Or.inr c)
theorem P3{last:Bool}(h:Aw s ahead last least i=.bad j):j=i:=by
 unfold Aw at h;by_cases a:Ah (at' s i)<0∨(if last then ahead+Ah (at' s i)else 16*(ahead+Ah (at' s i))+15)<least
 ·rw[AL a]at h;injection h with h;exact h.symm
 ·rw[AK a]at h;cases h
def Cv(s:ByteArray)(least:Int)(i:Nat):R Int:=(Aw s 0 false least i).bind fun a j=>(Aw s (16*a) true least j).bind fun b k=> .ok (16*a+b) k
theorem Kq(h:at' s i=120):A9 s least i=Cv s least (i+1):=by
 unfold A9 Cv;rw[AL h]
theorem J0{a:Int}(h:A9 s least i=.ok a j):i<j∧j<=s.size∧0<=a∧a<=255:=by
 by_cases g:at' s i=120
 ·rw[Kq g]at h;unfold Cv at h;cases b:Aw s 0 false least (i+1)with
  |bad k=>rw[b]at h;cases h
  |ok x k=>
   rw[b]at h;obtain⟨rfl,m,n,hlt,_⟩:=Jz b;simp only[R.bind]at h;cases c:Aw s (16*x) true least (i+1+1)with
   |bad k=>rw[c]at h;cases h
   |ok y k=>
    rw[c]at h;obtain⟨rfl,o,p,l,_⟩:=Jz c
    injection h with d e
    subst d e;omega
 ·unfold A9 at h;rw[AK g]at h;by_cases f:at' s i<0∨C9 (at' s i)=true∨at' s i<least
  ·rw[AL f]at h;cases h
  ·rw[AK f]at h
   injection h with d e
   subst d e;have q:0<=at' s i:=by
    apply Int.not_lt.1;intro r;exact f (Or.inl r)
   have:=Ap q;have:=E8 s i;omega
theorem Ix{a:Int}(h:Ar s least i=.ok a j):i<j∧j<=s.size∧0<=a∧a<=255:=by
 unfold Ar at h;by_cases b:at' s i=92
 ·rw[AL b]at h;have:=J0 h;omega
 ·rw[AK b]at h;by_cases c:at' s i<0∨at' s i=91∨at' s i=93∨at' s i=45∨at' s i=94∨at' s i<least
  ·rw[AL c]at h;cases h
  ·rw[AK c]at h
   injection h with d e
   subst d e;have f:0<=at' s i:=by omega
   have:=Ap f;have:=E8 s i;omega
theorem P5{word:List UInt8}{c:Int}(h:DA word c=true):0<=c:=by
 unfold DA at h;simp only[List.any_eq_true,GH,EJ]at h;obtain⟨n,_,_,a⟩:=h;omega
theorem MX(f:Nat):∀{word:List UInt8}{i j k:Nat},BR s f word i=.ok k j->i<=j∧(i<=s.size->j<=s.size)∧k<7:=by
 induction f with
 |zero=>intro word i j k h;cases h
 |succ f ih=>
  intro word i j k h;rw[BR]at h;cases a:names.findIdx? (·=word)with
  |some m=>
   rw[a]at h
   injection h with c d
   subst c d;rw[List.findIdx?_eq_some_iff_getElem]at a;obtain⟨hm,_⟩:=a;exact⟨AP _,id,hm⟩
  |none=>
   rw[a]at h;dsimp only at h;by_cases b:DA word (at' s i)=true
   ·rw[AL b]at h;have:=ih h;have:=Ap (P5 b);omega
   ·rw[AK b]at h;cases h
theorem Ks{c:Int}{u:Unit}(h:A7 s c i=.ok u j):j=i+1∧at' s i=c:=by
 unfold A7 at h;by_cases a:at' s i=c
 ·rw[AL a]at h;injection h with d b;exact⟨b.symm,a⟩
 ·rw[AK a]at h;cases h
theorem P6{k:Nat}(h:CQ s i=.ok k j):i<j∧j<=s.size∧k<7:=by
 unfold CQ at h;cases a:A7 s 58 (i+1)with
 |bad x=>rw[a]at h;cases h
 |ok u x=>
  rw[a]at h;obtain⟨rfl,f⟩:=Ks a;have g:=Ap (s:=s) (i:=i+1) (by omega);simp only[R.bind]at h;cases b:BR s 6 [] (i+1+1)with
  |bad x=>rw[b]at h;cases h
  |ok m x=>
   rw[b]at h;have:=MX 6 b;simp only at h;cases c:A7 s 58 x with
   |bad y=>rw[c]at h;cases h
   |ok u y=>
    rw[c]at h;obtain⟨rfl,l⟩:=Ks c;simp only at h;cases d:A7 s 93 (x+1)with
    |bad y=>rw[d]at h;cases h
    |ok u y=>
     rw[d]at h;obtain⟨rfl,n⟩:=Ks d;have o:=Ap (s:=s) (i:=x+1) (by omega);simp only at h
     injection h with e hb
     subst e hb;omega
theorem Gr{r:Nat->Bool}(h:Am s i=.ok r j):i<j∧j<=s.size:=by
 unfold Am at h;by_cases e:at' s i=91
 ·rw[AL e]at h;cases b:CQ s i with
  |bad x=>rw[b]at h;cases h
  |ok k x=>
   rw[b]at h;have:=P6 b
   injection h with f hb
   subst hb;omega
 ·rw[AK e]at h;cases b:Ar s 0 i with
  |bad x=>rw[b]at h;cases h
  |ok a x=>
   rw[b]at h;have:=Ix b;simp only[R.bind]at h;by_cases hd:at' s x=45
   ·rw[AL hd]at h;cases d:Ar s a (x+1)with
    |bad y=>rw[d]at h;cases h
    |ok c y=>
     rw[d]at h;have:=Ix d
     injection h with f hb
     subst hb;omega
   ·rw[AK hd]at h
    injection h with f hb
    subst hb;omega
inductive BO (s : ByteArray) (least : Nat) : Nat -> Bool -> Nat -> R Nat -> Prop
 | dig (n x : Nat) (any : Bool) (i : Nat) (q : R Nat) : At (at' s i) = true -> (x : Int) = 10 * n + (at' s i - 48) -> x <= 5 -> (x = 0 ∨ least <= x) -> BO s least x true (i + 1) q -> BO s least n any i q
 | big (n x : Nat) (any : Bool) (i : Nat) : At (at' s i) = true -> (x : Int) = 10 * n + (at' s i - 48) -> ¬ (x <= 5 ∧ (x = 0 ∨ least <= x)) -> BO s least n any i (.bad i)
 | done (n i : Nat) : At (at' s i) = false -> least <= n -> BO s least n true i (.ok n i)
 | short (n : Nat) (any : Bool) (i : Nat) : At (at' s i) = false -> (any = false ∨ n < least) -> BO s least n any i (.bad i)
theorem BO.det{least n:Nat}{any:Bool}{q k:R Nat}(h:BO s least n any i q)(f:BO s least n any i k):q=k:=by
 induction h with
 |dig n x any i q hd o p l _ ih=>cases f with
  |dig _ b _ _ _ a c e d m=>
   have:x=b:=by omega
   subst this;exact ih m
  |big _ b _ _ a c g=>
   have:x=b:=by omega
   subst this;exact absurd ⟨p,l⟩ g
  |done _ _ a=>rw[hd]at a;cases a
  |short _ _ _ a=>rw[hd]at a;cases a
 |big n x any i hd o g=>cases f with
  |dig _ b _ _ _ a c e d m=>
   have:x=b:=by omega
   subst this;exact absurd ⟨e,d⟩ g
  |big _ b _ _ a c g=>rfl
  |done _ _ a=>rw[hd]at a;cases a
  |short _ _ _ a=>rfl
 |done n i hd l=>cases f with
  |dig _ b _ _ _ a=>rw[hd]at a;cases a
  |big _ b _ _ a=>rw[hd]at a;cases a
  |done _ _ a=>rfl
  |short _ _ _ a j=>(exfalso;simp at j;omega)
 |short n any i hd j=>cases f with
  |dig _ b _ _ _ a=>rw[hd]at a;cases a
  |big _ b _ _ a=>rfl
  |done _ _ a d=>(exfalso;simp at j;omega)
  |short _ _ _ a j=>rfl
theorem BO.ok{least n:Nat}{any:Bool}{q:R Nat}(h:BO s least n any i q):∀m j,q=.ok m j->i<=j∧(i<=s.size->j<=s.size)∧(n<=5->m<=5)∧(any=false->i<j):=by
 induction h with
 |dig n x any i q hd c d b _ ih=>
  intro m j e;have:=ih m j e;have a:0<=at' s i:=by simp[At]at hd;omega
  have:=Ap a;omega
 |big=>intro m j e;cases e
 |done n i hd b=>intro m j e;cases e;simp
 |short=>intro m j e;cases e
inductive AD where
 | set (f : Nat -> Bool)
 | grp (k : Nat) (x : AD)
 | rep (mn : Nat) (mx : Int) (x : AD)
 | pnil
 | pcons (x r : AD)
 | wone (x : AD)
 | wcons (x r : AD)
def FA(s:ByteArray)(m:Nat)(a:R Nat)(q:R (Option (Nat×Int))):Prop:=
 match a with
 | .bad l=>q=.bad l
 | .ok n l=>q=if at' s l=125 then .ok (some (m,(n:Int))) (l+1)else .bad l
def Gs(s:ByteArray)(b:R Nat)(q:R (Option (Nat×Int))):Prop:=
 match b with
 | .bad k=>q=.bad k
 | .ok m k=>(at' s k=44∧at' s (k+1)=125∧q=.ok (some (m,-1)) (k+2))∨(at' s k=44∧at' s (k+1)≠125∧∃a,BO s m 0 false (k+1) a∧FA s m a q)∨
  (at' s k≠44∧q=if at' s k=125 then .ok (some (m,(m:Int))) (k+1)else .bad k)
def Bj(s:ByteArray)(j:Nat)(q:R (Option (Nat×Int))):Prop:=
 (at' s j≠42∧at' s j≠43∧at' s j≠63∧at' s j≠123∧q=.ok none j)∨(at' s j=42∧q=.ok (some (0,-1)) (j+1))∨(at' s j=43∧q=.ok (some (1,-1)) (j+1))∨
 (at' s j=63∧q=.ok (some (0,1)) (j+1))∨(at' s j=123∧∃a,BO s 0 0 false (j+1) a∧Gs s a q)
theorem FA.det{m:Nat}{a:R Nat}{q b:R (Option (Nat×Int))}(h:FA s m a q)(c:FA s m a b):q=b:=by
 cases a<;>exact h.trans c.symm
theorem Gs.det{f:R Nat}{q i:R (Option (Nat×Int))}(h:Gs s f q)(j:Gs s f i):q=i:=by
 cases f with
 |bad k=>exact h.trans j.symm
 |ok m k=>
  rcases h with⟨a,b,e⟩|⟨a,b,p,n,e⟩|⟨a,e⟩<;>rcases j with⟨c,g,d⟩|⟨c,g,l,o,d⟩|⟨c,d⟩
  ·exact e.trans d.symm
  ·exact absurd b g
  ·exact absurd a c
  ·exact absurd g b
  ·have:=n.det o;subst this;exact e.det d
  ·exact absurd a c
  ·exact absurd c a
  ·exact absurd c a
  ·exact e.trans d.symm
theorem Bj.det{q i:R (Option (Nat×Int))}(h:Bj s j q)(k:Bj s j i):q=i:=by
 rcases h with⟨a,b,c,d,e⟩|⟨a,e⟩|⟨a,e⟩|⟨a,e⟩|⟨a,o,n,e⟩<;>rcases k with⟨g,p,r,t,f⟩|⟨g,f⟩|⟨g,f⟩|⟨g,f⟩|⟨g,l,m,f⟩
 all_goals first
  |exact e.trans f.symm
  |(exfalso;omega)
  |skip
 have:=n.det m;subst this;exact e.det f
theorem Bj.ok{k:Nat}{o:Option (Nat×Int)}(h:Bj s j (.ok o k)):j<=k∧(j<=s.size->k<=s.size):=by
 have A:∀i,0<=at' s i->i<s.size:=fun i hi=>Ap hi
 rcases h with⟨a,b,c,d,e⟩|⟨a,e⟩|⟨a,e⟩|⟨a,e⟩|⟨a,g,n,e⟩
 ·cases e;simp
 ·cases e;have:=A j (by omega);omega
 ·cases e;have:=A j (by omega);omega
 ·cases e;have:=A j (by omega);omega
 ·have t:=A j (by omega);cases g with
  |bad l=>cases e
  |ok m l=>
   have u:=n.ok m l rfl;rcases e with⟨a,b,e⟩|⟨a,b,p,q,e⟩|⟨a,e⟩
   ·cases e;have:=A (l+1) (by omega);omega
   ·cases p with
    |bad x=>cases e
    |ok y x=>
     have v:=q.ok y x rfl;have r:=A l (by omega);simp only[FA]at e;by_cases f:at' s x=125
     ·rw[AL f]at e;cases e;have:=A x (by omega);omega
     ·rw[AK f]at e;cases e
   ·by_cases f:at' s l=125
    ·rw[AL f]at e;cases e;have:=A l (by omega);omega
    ·rw[AK f]at e;cases e
inductive Kd where
 | ways | way | piece | single
def Cw(c:Int):Prop:=c<0∨c=124∨c=41∨c=36
def CR(c:Int):Prop:=c=94∨c=36∨c=124∨c=41∨c=42∨c=43∨c=63∨c=123
def Cn(x:AD):Option (Nat×Int)->AD
 |none=>x
 |some (mn,mx)=> .rep mn mx x
inductive G (s : ByteArray) : Kd -> Nat -> Nat -> Nat -> R (AD × Nat) -> Prop
 | one (d g i g1 j : Nat) (x : AD) : G s .way d g i (.ok (x, g1) j) -> at' s j ≠ 124 -> G s .ways d g i (.ok (.wone x, g1) j)
 | more (d g i g1 j : Nat) (x : AD) (q : R (AD × Nat)) : G s .way d g i (.ok (x, g1) j) -> at' s j = 124 -> G s .ways d g1 (j + 1) q -> G s .ways d g i (q.map fun y => (.wcons x y.1, y.2))
 | wbad (d g i j : Nat) : G s .way d g i (.bad j) -> G s .ways d g i (.bad j)
 | nil (d g i : Nat) : Cw (at' s i) -> G s .way d g i (.ok (.pnil, g) i)
 | cons (d g i g1 j : Nat) (x : AD) (q : R (AD × Nat)) : ¬ Cw (at' s i) -> G s .piece d g i (.ok (x, g1) j) -> G s .way d g1 j q -> G s .way d g i (q.map fun y => (.pcons x y.1, y.2))
 | pbad (d g i j : Nat) : ¬ Cw (at' s i) -> G s .piece d g i (.bad j) -> G s .way d g i (.bad j)
 | rep (d g i g1 j : Nat) (x : AD) (q : R (Option (Nat × Int))) : G s .single d g i (.ok (x, g1) j) -> Bj s j q -> G s .piece d g i (q.map fun o => (Cn x o, g1))
 | sbad (d g i j : Nat) : G s .single d g i (.bad j) -> G s .piece d g i (.bad j)
 | deep (d g i : Nat) : at' s i = 40 -> (d = 6 ∨ g = 9) -> G s .single d g i (.bad i)
 | grp (d g i g1 j : Nat) (x : AD) : at' s i = 40 -> ¬ (d = 6 ∨ g = 9) -> G s .ways (d + 1) (g + 1) (i + 1) (.ok (x, g1) j) -> at' s j = 41 -> G s .single d g i (.ok (.grp (g + 1) x, g1) (j + 1))
 | gopen (d g i g1 j : Nat) (x : AD) : at' s i = 40 -> ¬ (d = 6 ∨ g = 9) -> G s .ways (d + 1) (g + 1) (i + 1) (.ok (x, g1) j) -> at' s j ≠ 41 -> G s .single d g i (.bad j)
 | gbad (d g i j : Nat) : at' s i = 40 -> ¬ (d = 6 ∨ g = 9) -> G s .ways (d + 1) (g + 1) (i + 1) (.bad j) -> G s .single d g i (.bad j)
 | set (d g i : Nat) (q : R (Nat -> Bool)) : at' s i = 91 -> E9 s (i + 1) q -> G s .single d g i (q.map fun f => (.set f, g))
 | dot (d g i : Nat) : at' s i = 46 -> G s .single d g i (.ok (.set fun _ => true, g) (i + 1))
 | esc (d g i : Nat) : at' s i = 92 -> G s .single d g i ((A9 s 0 (i + 1)).map fun a => (.set (A0 a a), g))
 | no (d g i : Nat) : CR (at' s i) -> G s .single d g i (.bad i)
 | lit (d g i : Nat) : 0 <= at' s i -> at' s i ≠ 40 -> at' s i ≠ 91 -> at' s i ≠ 46 -> at' s i ≠ 92 -> ¬ CR (at' s i) -> G s .single d g i (.ok (.set (A0 (at' s i) (at' s i)), g) (i + 1))
theorem G.det{k:Kd}{d g:Nat}{q:R (AD×Nat)}(h:G s k d g i q):∀m,G s k d g i m->q=m:=by
 induction h with
 |one d g i g1 j x _ e ih=>
  intro m l;cases l with
  |one _ _ _ n p w a b=>have:=ih _ a;injection this with t u;cases t;cases u;rfl
  |more _ _ _ n p w _ a b=>have:=ih _ a;injection this with t u;cases t;cases u;exact absurd b e
  |wbad _ _ _ p a=>have:=ih _ a;cases this
 |more d g i g1 j x q _ e _ ih v=>
  intro m l;cases l with
  |one _ _ _ n p w a b=>have:=ih _ a;injection this with t u;cases t;cases u;exact absurd e b
  |more _ _ _ n p w _ a b c=>have:=ih _ a;injection this with t u;cases t;cases u;rw[v _ c]
  |wbad _ _ _ p a=>have:=ih _ a;cases this
 |wbad d g i j _ ih=>
  intro m l;cases l with
  |one _ _ _ n p w a b=>have:=ih _ a;cases this
  |more _ _ _ n p w _ a b=>have:=ih _ a;cases this
  |wbad _ _ _ p a=>have:=ih _ a;cases this;rfl
 |nil d g i e=>
  intro m l;cases l with
  |nil=>rfl
  |cons _ _ _ _ _ _ _ a=>exact absurd e a
  |pbad _ _ _ _ a=>exact absurd e a
 |cons d g i g1 j x q e _ _ ih v=>
  intro m l;cases l with
  |nil _ _ _ a=>exact absurd a e
  |cons _ _ _ _ _ _ _ a b c=>have:=ih _ b;injection this with t u;cases t;cases u;rw[v _ c]
  |pbad _ _ _ _ a b=>have:=ih _ b;cases this
 |pbad d g i j e _ ih=>
  intro m l;cases l with
  |nil _ _ _ a=>exact absurd a e
  |cons _ _ _ _ _ _ _ a b c=>have:=ih _ b;cases this
  |pbad _ _ _ _ a b=>have:=ih _ b;cases this;rfl
 |rep d g i g1 j x q _ r ih=>
  intro m l;cases l with
  |rep _ _ _ _ _ _ _ a b=>have:=ih _ a;injection this with t u;cases t;cases u;rw[r.det b]
  |sbad _ _ _ _ a=>have:=ih _ a;cases this
 |sbad d g i j _ ih=>
  intro m l;cases l with
  |rep _ _ _ _ _ _ _ a b=>have:=ih _ a;cases this
  |sbad _ _ _ _ a=>have:=ih _ a;cases this;rfl
 |deep d g i e o=>
  intro m l;cases l with
  |deep=>rfl
  |grp _ _ _ _ _ _ _ a=>exact absurd o a
  |gopen _ _ _ _ _ _ _ a=>exact absurd o a
  |gbad _ _ _ _ _ a=>exact absurd o a
  |set _ _ _ _ a=>omega
  |dot _ _ _ a=>omega
  |esc _ _ _ a=>omega
  |no=>rfl
  |lit _ _ _ _ a=>omega
 |grp d g i g1 j x e o _ c ih=>
  intro m l;cases l with
  |deep _ _ _ _ a=>exact absurd a o
  |grp _ _ _ _ _ _ _ _ a b=>have:=ih _ a;injection this with t u;cases t;cases u;rfl
  |gopen _ _ _ _ _ _ _ _ a b=>have:=ih _ a;injection this with t u;cases t;cases u;exact absurd c b
  |gbad _ _ _ _ _ _ a=>have:=ih _ a;cases this
  |set _ _ _ _ a=>omega
  |dot _ _ _ a=>omega
  |esc _ _ _ a=>omega
  |no _ _ _ a=>unfold CR at a;omega
  |lit _ _ _ _ a=>omega
 |gopen d g i g1 j x e o _ c ih=>
  intro m l;cases l with
  |deep _ _ _ _ a=>exact absurd a o
  |grp _ _ _ _ _ _ _ _ a b=>have:=ih _ a;injection this with t u;cases t;cases u;exact absurd b c
  |gopen _ _ _ _ _ _ _ _ a b=>have:=ih _ a;injection this with t u;cases t;cases u;rfl
  |gbad _ _ _ _ _ _ a=>have:=ih _ a;cases this
  |set _ _ _ _ a=>omega
  |dot _ _ _ a=>omega
  |esc _ _ _ a=>omega
  |no _ _ _ a=>unfold CR at a;omega
  |lit _ _ _ _ a=>omega
 |gbad d g i j e o _ ih=>
  intro m l;cases l with
  |deep _ _ _ _ a=>exact absurd a o
  |grp _ _ _ _ _ _ _ _ a b=>have:=ih _ a;cases this
  |gopen _ _ _ _ _ _ _ _ a b=>have:=ih _ a;cases this
  |gbad _ _ _ _ _ _ a=>have:=ih _ a;cases this;rfl
  |set _ _ _ _ a=>omega
  |dot _ _ _ a=>omega
  |esc _ _ _ a=>omega
  |no _ _ _ a=>unfold CR at a;omega
  |lit _ _ _ _ a=>omega
 |set d g i q e r=>
  intro m l;cases l with
  |deep _ _ _ a=>omega
  |grp _ _ _ _ _ _ a=>omega
  |gopen _ _ _ _ _ _ a=>omega
  |gbad _ _ _ _ a=>omega
  |set _ _ _ _ a b=>rw[r.det b]
  |dot _ _ _ a=>omega
  |esc _ _ _ a=>omega
  |no _ _ _ a=>unfold CR at a;omega
  |lit _ _ _ _ a b=>omega
 |dot d g i e=>
  intro m l;cases l with
  |deep _ _ _ a=>omega
  |grp _ _ _ _ _ _ a=>omega
  |gopen _ _ _ _ _ _ a=>omega
  |gbad _ _ _ _ a=>omega
  |set _ _ _ _ a b=>omega
  |dot _ _ _ a=>rfl
  |esc _ _ _ a=>omega
  |no _ _ _ a=>unfold CR at a;omega
  |lit _ _ _ _ a b c=>omega
 |esc d g i e=>
  intro m l;cases l with
  |deep _ _ _ a=>omega
  |grp _ _ _ _ _ _ a=>omega
  |gopen _ _ _ _ _ _ a=>omega
  |gbad _ _ _ _ a=>omega
  |set _ _ _ _ a b=>omega
  |dot _ _ _ a=>omega
  |esc _ _ _ a=>rfl
  |no _ _ _ a=>unfold CR at a;omega
  |lit _ _ _ _ a b c d=>omega
 |no d g i e=>
  intro m l;unfold CR at e;cases l with
  |deep=>rfl
  |grp _ _ _ _ _ _ a=>omega
  |gopen _ _ _ _ _ _ a=>omega
  |gbad _ _ _ _ a=>omega
  |set _ _ _ _ a b=>omega
  |dot _ _ _ a=>omega
  |esc _ _ _ a=>omega
  |no _ _ _ a=>rfl
  |lit _ _ _ _ a b c d f=>exact absurd e f
 |lit d g i a b c y e f=>
  intro m l;cases l with
  |deep _ _ _ a=>omega
  |grp _ _ _ _ _ _ a=>omega
  |gopen _ _ _ _ _ _ a=>omega
  |gbad _ _ _ _ a=>omega
  |set _ _ _ _ a b=>omega
  |dot _ _ _ a=>omega
  |esc _ _ _ a=>omega
  |no _ _ _ a=>exact absurd a f
  |lit=>rfl
structure Whole where
 bg : Bool
 en : Bool
 x : AD
 g : Nat
def wi(s:ByteArray):Nat:=if at' s 0=94 then 1 else 0
def Dy(s:ByteArray):R (AD×Nat)->R Whole
 | .bad j=> .bad j
 | .ok (x,g) j=>if 0<=at' s (if at' s j=36 then j+1 else j)then .bad (if at' s j=36 then j+1 else j)else .ok ⟨decide (at' s 0=94),decide (at' s j=36),x,g⟩ (if at' s j=36 then j+1 else j)
theorem GI(s:ByteArray)(x:AD)(g j:Nat):Dy s (.ok (x,g) j)=if 0<=at' s (if at' s j=36 then j+1 else j)then .bad (if at' s j=36 then j+1 else j)else .ok ⟨decide (at' s 0=94),decide (at' s j=36),x,g⟩ (if at' s j=36 then j+1 else j):=rfl
def B6(s:ByteArray)(q:R Whole):Prop:=∃a,G s .ways 0 0 (wi s) a∧q=Dy s a
theorem B6.det{q d:R Whole}(h:B6 s q)(c:B6 s d):q=d:=by
 obtain⟨a,h,rfl⟩:=h;obtain⟨b,c,rfl⟩:=c;rw[h.det b c]
def EZ:List UInt8:=[48,49,50,51,52,53,54,55,56,57,97,98,99,100,101,102]
def MY(b:Nat):List UInt8:=if C9 b then[UInt8.ofNat b]else[92,120,EZ.getD (b/16) 0,EZ.getD (b%16) 0]
def MZ(f:Nat->Bool):Nat->Nat->Nat
 |0,m=>m
 |n+1,m=>if m<255∧f (m+1)=true then MZ f n (m+1)else m
def Ma(f:Nat->Bool)(m:Nat):Nat:=MZ f 255 m
def P7(f:Nat->Bool)(m:Nat):List UInt8:=
 if f m=true∧(m=0∨f (m-1)=false)then MY m++(if m<Ma f m then[45]++MY (Ma f m)else[])else[]
def Kt(f:Nat->Bool):Nat->List UInt8
 |0=>[]
 |m+1=>Kt f m++P7 f m
def J1(f:Nat->Bool):Nat->Nat
 |0=>0
 |m+1=>J1 f m+(if f m then 1 else 0)
def P8(f:Nat->Bool):List UInt8:=
 if J1 f 256=0 then[91,94,92,120,48,48,45,92,120,102,102,93]
 else if J1 f 256=1 then Kt f 256
 else if J1 f 256=256 then[46]
 else[91]++Kt f 256++[93]
def Bh(n:Nat):List UInt8:=[UInt8.ofNat (48+n)]
def P9(mn:Nat)(mx:Int):List UInt8:=
 if mx<0∧mn=0 then[42]else if mx<0∧mn=1 then[43]else if mx<0 then[123]++Bh mn++[44,125]
 else if mx=1∧mn=0 then[63]else if mx=(mn:Int)then[123]++Bh mn++[125]else[123]++Bh mn++[44]++Bh mx.toNat++[125]
def Dz:AD->List UInt8
 | .set f=>P8 f
 | .grp _ x=>[40]++Dz x++[41]
 | .rep mn mx x=>Dz x++P9 mn mx
 | .pnil=>[]
 | .pcons x r=>Dz x++Dz r
 | .wone x=>Dz x
 | .wcons x r=>Dz x++([124]++Dz r)
def AD.sz:AD->Nat
 | .set _=>1
 | .grp _ x=>1+x.sz
 | .rep _ _ x=>1+x.sz
 | .pnil=>1
 | .pcons x r=>1+x.sz+r.sz
 | .wone x=>1+x.sz
 | .wcons x r=>1+x.sz+r.sz
def It(R:Nat->Nat->Prop):Nat->Nat->Nat->Prop
 |0,i,j=>i=j
 |n+1,i,j=>∃m,R i m∧It R n m j
def Tm(R:Nat->Nat->Prop)(mn:Nat)(mx:Int)(i j:Nat):Prop:=∃n,mn<=n∧(mx<0∨(n:Int)<=mx)∧It R n i j
def Mt(s:ByteArray):AD->Nat->Nat->Prop
 | .set f=>fun i j=>i<s.size∧f (at' s i).toNat=true∧j=i+1
 | .grp _ x=>Mt s x
 | .rep mn mx x=>Tm (Mt s x) mn mx
 | .pnil=>fun i j=>i=j
 | .pcons x r=>fun i j=>∃m,Mt s x i m∧Mt s r m j
 | .wone x=>Mt s x
 | .wcons x r=>fun i j=>Mt s x i j∨Mt s r i j
theorem It.mono{R:Nat->Nat->Prop}(h:∀i j,R i j->i<=j):∀{n i j:Nat},It R n i j->i<=j
 |0,_,_,e=>Nat.le_of_eq e
 |_+1,i,_,⟨m,a,b⟩=>BG (h i m a) (It.mono h b)
theorem It.inn{R:Nat->Nat->Prop}{L:Nat}(h:∀i j,R i j->i<=L->j<=L):∀{n i j:Nat},It R n i j->i<=L->j<=L
 |0,_,_,e,hi=>by cases e;exact hi
 |_+1,i,_,⟨m,a,b⟩,hi=>It.inn h b (h i m a hi)
theorem Mt.le:∀{x:AD}{i j:Nat},Mt s x i j->i<=j
 | .set _,_,_,h=>by have:=h.2.2;omega
 | .grp _ x,_,_,h=>Mt.le (x:=x) h
 | .rep _ _ x,_,_,⟨_,_,_,h⟩=>It.mono (fun _ _=>Mt.le (x:=x)) h
 | .pnil,_,_,h=>Nat.le_of_eq h
 | .pcons x r,_,_,⟨_,a,b⟩=>BG (Mt.le (x:=x) a) (Mt.le (x:=r) b)
 | .wone x,_,_,h=>Mt.le (x:=x) h
 | .wcons x r,_,_,h=>h.elim (Mt.le (x:=x)) (Mt.le (x:=r))
theorem Mt.inn:∀{x:AD}{i j:Nat},Mt s x i j->i<=s.size->j<=s.size
 | .set _,_,_,h,_=>by have:=h.1;have:=h.2.2;omega
 | .grp _ x,_,_,h,hi=>Mt.inn (x:=x) h hi
 | .rep _ _ x,_,_,⟨_,_,_,h⟩,hi=>It.inn (fun _ _=>Mt.inn (x:=x)) h hi
 | .pnil,_,_,h,hi=>by cases h;exact hi
 | .pcons x r,_,_,⟨_,a,b⟩,hi=>Mt.inn (x:=r) b (Mt.inn (x:=x) a hi)
 | .wone x,_,_,h,hi=>Mt.inn (x:=x) h hi
 | .wcons x r,_,_,h,hi=>h.elim (fun h=>Mt.inn (x:=x) h hi) (fun h=>Mt.inn (x:=r) h hi)
def BH(P:Nat->Prop)(i j c:Nat):Prop:=i<=c∧c<=j∧(i<c->P c)∧∀m,c<m->m<=j->¬P m
theorem BH.one{P:Nat->Prop}{c d:Nat}(h:BH P i j c)(k:BH P i j d):c=d:=by
 rcases Nat.lt_trichotomy c d with e|e|e
 ·exact absurd (k.2.2.1 (by have:=h.1;omega)) (h.2.2.2 d e k.2.1)
 ·exact e
 ·exact absurd (h.2.2.1 (by have:=k.1;omega)) (k.2.2.2 c e h.2.1)
def less(mx:Int):Int:=if 0<mx then mx-1 else mx
def FB(b:Nat):List UInt8:=[EZ.getD (b/16) 0,EZ.getD (b%16) 0]
def CG(n:Nat):List UInt8:=if n<10 then Bh n else Bh (n/10)++Bh (n%10)
inductive Bu where
 | node (x : AD)
 | kids (r : AD)
 | times (mn : Nat) (mx : Int) (x : AD)
 | alts (p : Nat) (r : AD)
inductive TR (s : ByteArray) : Bu -> Nat -> Nat -> List UInt8 -> List (Nat × Nat × Nat) -> Prop
 | byte (f : Nat -> Bool) (i j : Nat) : TR s (.node (.set f)) i j ([98] ++ FB (at' s i).toNat) []
 | grp (k : Nat) (x : AD) (i j : Nat) (t : List UInt8) (ev : List (Nat × Nat × Nat)) : TR s (.node x) i j t ev -> TR s (.node (.grp k x)) i j ([40, 103] ++ Bh k ++ [32] ++ t ++ [41]) ((k, i, j) :: ev)
 | nil (i j : Nat) : TR s (.node .pnil) i j [101] []
 | lone (x : AD) (i j : Nat) (t : List UInt8) (ev : List (Nat × Nat × Nat)) : TR s (.node x) i j t ev -> TR s (.node (.pcons x .pnil)) i j t ev
 | row (x y r : AD) (i j : Nat) (t : List UInt8) (ev : List (Nat × Nat × Nat)) : TR s (.kids (.pcons x (.pcons y r))) i j t ev -> TR s (.node (.pcons x (.pcons y r))) i j ([40, 115] ++ t ++ [41]) ev
 | kend (i j : Nat) : TR s (.kids .pnil) i j [] []
 | kgo (x r : AD) (i j c : Nat) (t u : List UInt8) (ev fv : List (Nat × Nat × Nat)) : BH (fun m => Mt s x i m ∧ Mt s r m j) i j c -> TR s (.node x) i c t ev -> TR s (.kids r) c j u fv -> TR s (.kids (.pcons x r)) i j ([32] ++ t ++ u) (ev ++ fv)
 | rep (mn : Nat) (mx : Int) (x : AD) (i j : Nat) (t : List UInt8) (ev : List (Nat × Nat × Nat)) : TR s (.times mn mx x) i j t ev -> TR s (.node (.rep mn mx x)) i j ([40, 114] ++ t ++ [41]) ev
 | tend (mn : Nat) (mx : Int) (x : AD) (i j : Nat) : ¬ (i < j ∨ 0 < mn) -> TR s (.times mn mx x) i j [] []
 | tgo (mn : Nat) (mx : Int) (x : AD) (i j c : Nat) (t u : List UInt8) (ev fv : List (Nat × Nat × Nat)) : (i < j ∨ 0 < mn) -> BH (fun m => Mt s x i m ∧ Tm (Mt s x) (mn - 1) (less mx) m j) i j c -> TR s (.node x) i c t ev -> TR s (.times (mn - 1) (less mx) x) c j u fv -> TR s (.times mn mx x) i j ([32] ++ t ++ u) (ev ++ fv)
 | wone (x : AD) (i j : Nat) (t : List UInt8) (ev : List (Nat × Nat × Nat)) : TR s (.node x) i j t ev -> TR s (.node (.wone x)) i j t ev
 | wcons (x r : AD) (i j : Nat) (t : List UInt8) (ev : List (Nat × Nat × Nat)) : TR s (.alts 0 (.wcons x r)) i j t ev -> TR s (.node (.wcons x r)) i j t ev
 | hit (p : Nat) (x r : AD) (i j : Nat) (t : List UInt8) (ev : List (Nat × Nat × Nat)) : Mt s x i j -> TR s (.node x) i j t ev -> TR s (.alts p (.wcons x r)) i j ([40, 97] ++ CG p ++ [32] ++ t ++ [41]) ev
 | miss (p : Nat) (x r : AD) (i j : Nat) (t : List UInt8) (ev : List (Nat × Nat × Nat)) : ¬ Mt s x i j -> TR s (.alts (p + 1) r) i j t ev -> TR s (.alts p (.wcons x r)) i j t ev
 | last (p : Nat) (x : AD) (i j : Nat) (t : List UInt8) (ev : List (Nat × Nat × Nat)) : TR s (.node x) i j t ev -> TR s (.alts p (.wone x)) i j ([40, 97] ++ CG p ++ [32] ++ t ++ [41]) ev
theorem TR.det{k:Bu}{t:List UInt8}{ev:List (Nat×Nat×Nat)}(h:TR s k i j t ev):∀u fv,TR s k i j u fv->t=u∧ev=fv:=by
 induction h with
 |byte=>intro u fv h;cases h;exact⟨rfl,rfl⟩
 |grp k x i j t ev _ ih=>intro u fv h;cases h with|grp _ _ _ _ b d a=>obtain⟨rfl,rfl⟩:=ih b d a;exact⟨rfl,rfl⟩
 |nil=>intro u fv h;cases h;exact⟨rfl,rfl⟩
 |lone x i j t ev _ ih=>intro u fv h;cases h with|lone _ _ _ _ _ a=>exact ih u fv a
 |row x y r i j t ev _ ih=>intro u fv h;cases h with|row _ _ _ _ _ b _ a=>obtain⟨rfl,rfl⟩:=ih b fv a;exact⟨rfl,rfl⟩
 |kend=>intro u fv h;cases h;exact⟨rfl,rfl⟩
 |kgo x r i j c t u ev fv n _ _ e f=>
  intro v A h;cases h with
  |kgo _ _ _ _ B b o d g l q w=>
   obtain rfl:=n.one l;obtain⟨rfl,rfl⟩:=e b d q;obtain⟨rfl,rfl⟩:=f o g w;exact⟨rfl,rfl⟩
 |rep mn mx x i j t ev _ ih=>intro u fv h;cases h with|rep _ _ _ _ _ b _ a=>obtain⟨rfl,rfl⟩:=ih b fv a;exact⟨rfl,rfl⟩
 |tend mn mx x i j m=>intro u fv h;cases h with
  |tend=>exact⟨rfl,rfl⟩
  |tgo _ _ _ _ _ _ _ _ _ _ z=>exact absurd z m
 |tgo mn mx x i j c t u ev fv z n _ _ e f=>
  intro v A h;cases h with
  |tend _ _ _ _ _ m=>exact absurd z m
  |tgo _ _ _ _ _ B b o d g _ l q w=>
   obtain rfl:=n.one l;obtain⟨rfl,rfl⟩:=e b d q;obtain⟨rfl,rfl⟩:=f o g w;exact⟨rfl,rfl⟩
 |wone x i j t ev _ ih=>intro u fv h;cases h with|wone _ _ _ _ _ a=>exact ih u fv a
 |wcons x r i j t ev _ ih=>intro u fv h;cases h with|wcons _ _ _ _ _ _ a=>exact ih u fv a
 |hit p x r i j t ev hm _ ih=>intro u fv h;cases h with
  |hit _ _ _ _ _ b _ _ a=>obtain⟨rfl,rfl⟩:=ih b fv a;exact⟨rfl,rfl⟩
  |miss _ _ _ _ _ _ _ m=>exact absurd hm m
 |miss p x r i j t ev m _ ih=>intro u fv h;cases h with
  |hit _ _ _ _ _ _ _ hm=>exact absurd hm m
  |miss _ _ _ _ _ _ _ _ a=>exact ih u fv a
 |last p x i j t ev _ ih=>intro u fv h;cases h with|last _ _ _ _ b _ a=>obtain⟨rfl,rfl⟩:=ih b fv a;exact⟨rfl,rfl⟩
inductive Part where
 | byte (u : UInt8)
 | grp (g : Nat)
def BP(s:ByteArray)(gs i:Nat):Option (Part×Nat):=
 if at' s i=92 then
  if at' s (i+1)=110 then some (.byte 10,i+2)
  else if at' s (i+1)=92 then some (.byte 92,i+2)
  else if 48<=at' s (i+1)∧at' s (i+1)<=57∧at' s (i+1)-48<=(gs:Int)then some (.grp (at' s (i+1)-48).toNat,i+2)
  else none
 else some (.byte (UInt8.ofNat (at' s i).toNat),i+1)
inductive BN (s : ByteArray) (gs : Nat) : Nat -> Option (List Part) -> Prop
 | fin (i : Nat) : s.size <= i -> BN s gs i (some [])
 | bad (i : Nat) : i < s.size -> BP s gs i = none -> BN s gs i none
 | go (i k : Nat) (p : Part) (q : Option (List Part)) : i < s.size -> BP s gs i = some (p, k) -> BN s gs k q -> BN s gs i (q.map (p :: ·))
theorem BN.det{gs:Nat}{q:Option (List Part)}(h:BN s gs i q):∀{a:Option (List Part)},BN s gs i a->q=a:=by
 induction h with
 |fin i h=>
  intro a k;cases k with
  |fin=>rfl
  |bad _ k=>omega
  |go _ _ _ _ k=>omega
 |bad i d b=>
  intro a k;cases k with
  |fin _ k=>omega
  |bad=>rfl
  |go _ _ _ _ _ k=>rw[b]at k;cases k
 |go i k p q d b _ ih=>
  intro a k;cases k with
  |fin _ k=>omega
  |bad _ _ k=>rw[b]at k;cases k
  |go _ k' p' a _ c e=>
   rw[b]at c;cases c;rw[ih e]
theorem J2{gs k:Nat}{p:Part}(h:BP s gs i=some (p,k))(hi:i<s.size):i<k∧k<=s.size∧∀g,p=.grp g->g<=gs∧g<=9:=by
 unfold BP at h;split at h
 ·split at h
  ·rename_i a;cases h;have:=Ap (s:=s) (i:=i+1) (by omega);exact⟨by omega,by omega,fun g e=>by cases e⟩
  ·split at h
   ·cases h;have:=Ap (s:=s) (i:=i+1) (by omega);exact⟨by omega,by omega,fun g e=>by cases e⟩
   ·split at h
    ·cases h;have:=Ap (s:=s) (i:=i+1) (by omega);exact⟨by omega,by omega,fun g e=>by cases e;omega⟩
    ·cases h
 ·cases h;exact⟨by omega,by omega,fun g e=>by cases e⟩
def D0(line:ByteArray)(b e:Int):List UInt8:=(line.extract b.toNat e.toNat).data.toList
def Part.fill(line:ByteArray)(sp:List Int):Part->List UInt8
 | .byte u=>[u]
 | .grp g=>if 0<=sp.getD (2*g) (-1)then D0 line (sp.getD (2*g) (-1)) (sp.getD (2*g+1) (-1))else[]
def BK(ps:List Part)(line:ByteArray)(sp:List Int):List UInt8:=ps.flatMap (·.fill line sp)
structure AX where
 c : Bool
 i : Bool
 n : Bool
 o : Bool
 v : Bool
 x : Bool
 tp : ByteArray
def AX.add(k:AX)(u:Int):Option AX:=
 if u=99 then some {k with c:=true}else if u=105 then some {k with i:=true}else if u=110 then some {k with n:=true}
 else if u=111 then some {k with o:=true}else if u=118 then some {k with v:=true}else if u=120 then some {k with x:=true}else none
def B7(a:ByteArray)(k:AX):Nat->Nat->Option AX
 |0,_=>some k
 |f+1,j=>match k.add (at' a j)with
  |none=>none
  |some k'=>B7 a k' f (j+1)
def D1:ByteArray:=⟨#[45,45]⟩
def Cx:ByteArray:=⟨#[45,116]⟩
def Co(a:ByteArray):Prop:=1<a.size∧at' a 0=45
instance (a:ByteArray):Decidable (Co a):=by unfold Co;infer_instance
def DI(k:AX):List ByteArray->Option (AX×ByteArray)
 |[p]=>some (k,p)
 |_=>none
inductive BI : List ByteArray -> AX -> Option (AX × ByteArray) -> Prop
 | left (l : List ByteArray) (k : AX) : (∀ a r, l = a :: r -> ¬ Co a) -> BI l k (DI k l)
 | dd (r : List ByteArray) (k : AX) : BI (D1 :: r) k (DI k r)
 | dt0 (k : AX) : BI [Cx] k none
 | dt (t : ByteArray) (r : List ByteArray) (k : AX) (q : Option (AX × ByteArray)) : BI r { k with o := true, tp := t } q -> BI (Cx :: t :: r) k q
 | bad (a : ByteArray) (r : List ByteArray) (k : AX) : Co a -> a ≠ D1 -> a ≠ Cx -> B7 a k (a.size - 1) 1 = none -> BI (a :: r) k none
 | let' (a : ByteArray) (r : List ByteArray) (k k' : AX) (q : Option (AX × ByteArray)) : Co a -> a ≠ D1 -> a ≠ Cx -> B7 a k (a.size - 1) 1 = some k' -> BI r k' q -> BI (a :: r) k q
theorem Mb:Co D1:=by decide
theorem J3:Co Cx:=by decide
theorem BI.det{l:List ByteArray}{k:AX}{q:Option (AX×ByteArray)}(h:BI l k q):∀{b:Option (AX×ByteArray)},BI l k b->q=b:=by
 induction h with
 |left l k h=>
  intro b e;cases e with
  |left=>rfl
  |dd=>exact absurd Mb (h _ _ rfl)
  |dt0=>exact absurd J3 (h _ _ rfl)
  |dt=>exact absurd J3 (h _ _ rfl)
  |bad a r _ c=>exact absurd c (h _ _ rfl)
  |let' a r _ _ _ c=>exact absurd c (h _ _ rfl)
 |dd r k=>
  intro b e;cases e with
  |left _ _ h=>exact absurd Mb (h _ _ rfl)
  |dd=>rfl
  |bad _ _ _ _ h=>exact absurd rfl h
  |let' _ _ _ _ _ _ h=>exact absurd rfl h
 |dt0 k=>
  intro b e;cases e with
  |left _ _ h=>exact absurd J3 (h _ _ rfl)
  |dt0=>rfl
  |bad _ _ _ _ _ h=>exact absurd rfl h
  |let' _ _ _ _ _ _ _ h=>exact absurd rfl h
 |dt t r k q _ ih=>
  intro b e;cases e with
  |left _ _ h=>exact absurd J3 (h _ _ rfl)
  |dt _ _ _ _ h=>exact ih h
  |bad _ _ _ _ _ h=>exact absurd rfl h
  |let' _ _ _ _ _ _ _ h=>exact absurd rfl h
 |bad a r k c g d f=>
  intro b e;cases e with
  |left _ _ h=>exact absurd c (h _ _ rfl)
  |dd=>exact absurd rfl g
  |dt0=>exact absurd rfl d
  |dt=>exact absurd rfl d
  |bad=>rfl
  |let' _ _ _ _ _ _ _ _ h=>rw[f]at h;cases h
 |let' a r k k' q c g d f _ ih=>
  intro b e;cases e with
  |left _ _ h=>exact absurd c (h _ _ rfl)
  |dd=>exact absurd rfl g
  |dt0=>exact absurd rfl d
  |dt=>exact absurd rfl d
  |bad _ _ _ _ _ _ h=>rw[f]at h;cases h
  |let' _ _ _ _ _ _ _ _ h i=>
   rw[f]at h;cases h;exact ih i
