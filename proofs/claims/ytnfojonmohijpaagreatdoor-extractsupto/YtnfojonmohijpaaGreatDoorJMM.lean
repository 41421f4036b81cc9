/-
  DERIVED. Plain mathematics: the trees that the reference puts together over its nodes, as a relation, and that each is the tree that is meant of the pattern that the nodes stand for. Nothing of the program stands here.
-/
import Derived.Test.YtnfojonmohijpaaGreatDoorJMS
set_option linter.all false
set_option maxRecDepth 100000
set_option maxHeartbeats 8000000
namespace Go.Proofs.YtnfojonmohijpaaGreatDoor
open Go.RowKit
variable{g i j:Nat}{nds:List Nd}{kd:Kd}{s:ByteArray}{acc t:List UInt8}{sp:Value}{keep:Bool}{kids:List Nat}
def Ey:=@List.length_drop
def Ez:=@Nat.mul_add
def CY(s:ByteArray)(nds:List Nd)(c mn:Nat)(mx:Int)(i j:Nat):Prop:=Tm (fun i j=>MN s nds (.node c) i j) mn mx i j
inductive JT where
 | node (k : Nat)
 | kids (l : List Nat)
 | times (c mn : Nat) (mx : Int)
 | alts (p : Nat) (l : List Nat)
inductive TN (s : ByteArray) (nds : List Nd) (g : Nat) : JT -> Nat -> Nat -> List UInt8 -> List (Nat × Nat × Nat) -> Prop
 | byte (k : Nat) (nd : Nd) (i j : Nat) : nds[k]? = some nd -> nd.kind = 98 -> TN s nds g (.node k) i j ([98] ++ FB (at' s i).toNat) []
 | grp (k : Nat) (nd : Nd) (c i j : Nat) (t : List UInt8) (ev : List (Nat × Nat × Nat)) : nds[k]? = some nd -> nd.kind = 103 -> nd.kids = [c] -> 0 < nd.n ∧ nd.n <= g -> TN s nds g (.node c) i j t ev -> TN s nds g (.node k) i j ([40, 103] ++ Bh nd.n ++ [32] ++ t ++ [41]) ((nd.n, i, j) :: ev)
 | alt (k : Nat) (nd : Nd) (i j : Nat) (t : List UInt8) (ev : List (Nat × Nat × Nat)) : nds[k]? = some nd -> nd.kind = 111 -> TN s nds g (.alts 0 nd.kids) i j t ev -> TN s nds g (.node k) i j t ev
 | none (k : Nat) (nd : Nd) (i j : Nat) : nds[k]? = some nd -> nd.kind = 119 -> nd.kids = [] -> TN s nds g (.node k) i j [101] []
 | way (k : Nat) (nd : Nd) (i j : Nat) (t : List UInt8) (ev : List (Nat × Nat × Nat)) : nds[k]? = some nd -> nd.kind = 119 -> nd.kids ≠ [] -> TN s nds g (.kids nd.kids) i j t ev -> TN s nds g (.node k) i j ([40, 115] ++ t ++ [41]) ev
 | rep (k : Nat) (nd : Nd) (c i j : Nat) (t : List UInt8) (ev : List (Nat × Nat × Nat)) : nds[k]? = some nd -> nd.kind = 114 -> nd.kids = [c] -> TN s nds g (.times c nd.mn nd.mx) i j t ev -> TN s nds g (.node k) i j ([40, 114] ++ t ++ [41]) ev
 | kend (i j : Nat) : TN s nds g (.kids []) i j [] []
 | kgo (c : Nat) (l : List Nat) (i j m : Nat) (t u : List UInt8) (ev fv : List (Nat × Nat × Nat)) : BH (fun m => MN s nds (.node c) i m ∧ MN s nds (.row l) m j) i j m -> TN s nds g (.node c) i m t ev -> TN s nds g (.kids l) m j u fv -> TN s nds g (.kids (c :: l)) i j ([32] ++ t ++ u) (ev ++ fv)
 | tend (c mn : Nat) (mx : Int) (i j : Nat) : ¬ (i < j ∨ 0 < mn) -> TN s nds g (.times c mn mx) i j [] []
 | tgo (c mn : Nat) (mx : Int) (i j m : Nat) (t u : List UInt8) (ev fv : List (Nat × Nat × Nat)) : (i < j ∨ 0 < mn) -> BH (fun m => MN s nds (.node c) i m ∧ CY s nds c (mn - 1) (less mx) m j) i j m -> TN s nds g (.node c) i m t ev -> TN s nds g (.times c (mn - 1) (less mx)) m j u fv -> TN s nds g (.times c mn mx) i j ([32] ++ t ++ u) (ev ++ fv)
 | hit (p c : Nat) (l : List Nat) (i j : Nat) (t : List UInt8) (ev : List (Nat × Nat × Nat)) : MN s nds (.node c) i j -> TN s nds g (.node c) i j t ev -> TN s nds g (.alts p (c :: l)) i j ([40, 97] ++ CG p ++ [32] ++ t ++ [41]) ev
 | miss (p c : Nat) (l : List Nat) (i j : Nat) (t : List UInt8) (ev : List (Nat × Nat × Nat)) : ¬ MN s nds (.node c) i j -> TN s nds g (.alts (p + 1) l) i j t ev -> TN s nds g (.alts p (c :: l)) i j t ev
theorem BH.congr{P Q:Nat->Prop}{c:Nat}(h:BH P i j c)(e:∀m,P m↔Q m):BH Q i j c:=
 ⟨h.1,h.2.1,fun k=>(e c).1 (h.2.2.1 k),fun m a b q=>h.2.2.2 m a b ((e m).2 q)⟩
theorem Ho{k:Nat}{C:AD->Prop}(j:∀y,C y->C (.pcons y .pnil))(l:∀y,C y->C (.wone y))(m:∀{x:AD}{kd:Kd},(kd=.piece∨kd=.single)->rep nds x [k]->shp x kd->C x)(hw:∀{x:AD}{nd:Nd},nds[k]? =some nd->nd.kind=119->nd.kids.length≠1->rep nds x nd.kids->shp x .way->C x)(s:∀{x:AD}{nd:Nd},nds[k]? =some nd->nd.kind=111->nd.kids.length≠1->rep nds x nd.kids->shp x .ways->C x):∀{kd:Kd}{x:AD},C1 nds kd x k->shp x kd->C x:=by
 have b:∀{x:AD},C1 nds .way x k->shp x .way->C x:=by
  intro x h a;obtain⟨lp,d,n⟩:=h;rcases n with rfl|⟨f,nd,e,o,rfl⟩
  ·cases x with
   |pcons y r=>
    obtain⟨k',l',e,g,i⟩:=d;simp only[Bc]at e;obtain⟨rfl,rfl⟩:=e;cases r with
    |pnil=>exact j y (m (AH rfl) g a.1)
    |pcons _ _=>obtain⟨_,_,e,_⟩:=i;cases e
    |_=>exact a.2.elim
   |pnil=>cases d
   |_=>exact a.elim
  ·exact hw e o f d a
 intro kd x h a;cases kd with
 |single=>exact m (AE rfl) h a
 |piece=>exact m (AH rfl) h a
 |way=>exact b h a
 |ways=>
  obtain⟨lw,d,n⟩:=h;rcases n with rfl|⟨f,nd,e,o,rfl⟩
  ·cases x with
   |wone y=>
    obtain⟨c,lp,e,g,i⟩:=d;simp only[Bc,CD]at e;subst e;exact l y (b ⟨lp,g,i⟩ a)
   |wcons y r=>
    obtain⟨c,lp,l',e,⟨g,i⟩,p⟩:=d;simp only[Bc]at e;obtain⟨rfl,rfl⟩:=e;cases r with
    |wone z=>obtain⟨_,_,e,_⟩:=p;cases e
    |wcons z q=>obtain⟨_,_,_,e,_⟩:=p;cases e
    |_=>exact a.2.elim
   |_=>exact a.elim
  ·exact s e o f d a
theorem Hp{x:AD}{k:Nat}{nd:Nd}(b:kd=.piece∨kd=.single)(h:rep nds x [k])(d:shp x kd)(e:nds[k]? =some nd):(nd.kind=98∧∃f,x=.set f)∨(nd.kind=103∧∃y c lw,x=.grp nd.n y∧nd.kids=[c]∧rep nds y lw∧Cz nds 111 lw c∧shp y .ways)∨(nd.kind=114∧∃y c,x=.rep nd.mn nd.mx y∧nd.kids=[c]∧rep nds y [c]∧shp y .single):=by
 cases x with
 |set f=>
  obtain⟨k',g,a,i,j,_⟩:=h;simp only[Bc,CD]at a;subst a;cases e.symm.trans i;exact AH ⟨j,f,rfl⟩
 |grp m y=>
  obtain⟨k',g,c,lw,a,i,j,p,l,o,q⟩:=h;simp only[Bc,CD]at a;subst a;cases e.symm.trans i;subst p;have r:shp y .ways:=by rcases b with rfl|rfl<;>exact d
  exact AE (AH ⟨j,y,c,lw,rfl,l,o,q,r⟩)
 |rep mn mx y=>
  obtain⟨k',g,c,a,i,j,s,t,l,o⟩:=h;simp only[Bc,CD]at a;subst a;cases e.symm.trans i;subst s t;rcases b with rfl|rfl
  ·exact AE (AE ⟨j,y,c,rfl,l,o,d.2.2.2⟩)
  ·exact d.elim
 |pnil=>rcases b with rfl|rfl<;>exact d.elim
 |pcons _ _=>rcases b with rfl|rfl<;>exact d.elim
 |wone _=>rcases b with rfl|rfl<;>exact d.elim
 |wcons _ _=>rcases b with rfl|rfl<;>exact d.elim
def JT.ok(s:ByteArray)(nds:List Nd):JT->Nat->Nat->List UInt8->List (Nat×Nat×Nat)->Prop
 | .node k,i,j,t,ev=>∀{kd:Kd}{x:AD},C1 nds kd x k->shp x kd->TR s (.node x) i j t ev
 | .kids l,i,j,t,ev=>∀{x:AD},rep nds x l->shp x .way->TR s (.kids x) i j t ev
 | .times c mn mx,i,j,t,ev=>∀{x:AD},rep nds x [c]->shp x .single->TR s (.times mn mx x) i j t ev
 | .alts p l,i,j,t,ev=>∀{x:AD},rep nds x l->shp x .ways->TR s (.alts p x) i j t ev
theorem TN.toTR{J:JT}{ev:List (Nat×Nat×Nat)}(h:TN s nds g J i j t ev):J.ok s nds i j t ev:=by
 have G:∀{k:Nat}{nd O:Nd}{a b:Nat}{P:Prop},nds[k]? =some nd->nd.kind=a->nds[k]? =some O->O.kind=b->a≠b->P:=by
  intro k nd O a b P e h A H Z;cases e.symm.trans A;exact absurd (h.symm.trans H) Z
 induction h with
 |byte k nd i j e M=>
  show∀{kd:Kd}{x:AD},C1 nds kd x k->shp x kd->TR s (.node x) i j _ _;intro R Y D E;refine Ho (C:=fun x=>TR s (.node x) i j _ _) (fun y=> .lone y i j _ _) (fun y=> .wone y i j _ _) ?_ (fun A o _ _ _=>G e M A o (by decide)) (fun A o _ _ _=>G e M A o (by decide)) D E;intro x kd F w v;rcases Hp F w v e with⟨_,f,rfl⟩|⟨H,_⟩|⟨H,_⟩
  ·exact .byte f i j
  ·omega
  ·omega
 |grp k nd c i j t ev e M S _ _ ih=>
  show∀{kd:Kd}{x:AD},C1 nds kd x k->shp x kd->TR s (.node x) i j _ _;intro R Y D E;refine Ho (C:=fun x=>TR s (.node x) i j _ _) (fun y=> .lone y i j _ _) (fun y=> .wone y i j _ _) ?_ (fun A o _ _ _=>G e M A o (by decide)) (fun A o _ _ _=>G e M A o (by decide)) D E;intro x kd F w v;rcases Hp F w v e with⟨H,_⟩|⟨_,y,X,lw,rfl,I,T,B,hy⟩|⟨H,_⟩
  ·omega
  ·rw[S]at I;simp only[Bc,CD]at I;subst I;exact .grp _ y i j t ev (ih (kd:=.ways) ⟨lw,T,B⟩ hy)
  ·omega
 |alt k nd i j t ev e M _ ih=>
  show∀{kd:Kd}{x:AD},C1 nds kd x k->shp x kd->TR s (.node x) i j _ _;intro R Y D E;refine Ho (C:=fun x=>TR s (.node x) i j _ _) (fun y=> .lone y i j _ _) (fun y=> .wone y i j _ _) ?_ (fun A o _ _ _=>G e M A o (by decide)) ?_ D E
  ·intro x kd F w v;rcases Hp F w v e with⟨H,_⟩|⟨H,_⟩|⟨H,_⟩<;>omega
  ·intro x O A o Q w v;cases e.symm.trans A;cases x with
   |wone y=>obtain⟨c,lp,B,_⟩:=w;rw[B]at Q;exact absurd rfl Q
   |wcons y r=>exact .wcons y r i j t ev (ih w v)
   |_=>exact v.elim
 |none k nd i j e M K=>
  show∀{kd:Kd}{x:AD},C1 nds kd x k->shp x kd->TR s (.node x) i j _ _;intro R Y D E;refine Ho (C:=fun x=>TR s (.node x) i j _ _) (fun y=> .lone y i j _ _) (fun y=> .wone y i j _ _) ?_ ?_ (fun A o _ _ _=>G e M A o (by decide)) D E
  ·intro x kd F w v;rcases Hp F w v e with⟨H,_⟩|⟨H,_⟩|⟨H,_⟩<;>omega
  ·intro x O A o Q w v;cases e.symm.trans A;rw[K]at w;cases x with
   |pnil=>exact .nil i j
   |pcons y r=>obtain⟨c,lp,B,_⟩:=w;cases B
   |_=>exact v.elim
 |way k nd i j t ev e M K _ ih=>
  show∀{kd:Kd}{x:AD},C1 nds kd x k->shp x kd->TR s (.node x) i j _ _;intro R Y D E;refine Ho (C:=fun x=>TR s (.node x) i j _ _) (fun y=> .lone y i j _ _) (fun y=> .wone y i j _ _) ?_ ?_ (fun A o _ _ _=>G e M A o (by decide)) D E
  ·intro x kd F w v;rcases Hp F w v e with⟨H,_⟩|⟨H,_⟩|⟨H,_⟩<;>omega
  ·intro x O A o Q w v;cases e.symm.trans A;cases x with
   |pnil=>exact absurd w K
   |pcons y r=>
    cases r with
    |pnil=>
     obtain⟨c,lp,B,_,L⟩:=w;cases L;rw[B]at Q;exact absurd rfl Q
    |pcons z q=>exact .row y z q i j t ev (ih w v)
    |_=>exact v.2.elim
   |_=>exact v.elim
 |rep k nd c i j t ev e M S _ ih=>
  show∀{kd:Kd}{x:AD},C1 nds kd x k->shp x kd->TR s (.node x) i j _ _;intro R Y D E;refine Ho (C:=fun x=>TR s (.node x) i j _ _) (fun y=> .lone y i j _ _) (fun y=> .wone y i j _ _) ?_ (fun A o _ _ _=>G e M A o (by decide)) (fun A o _ _ _=>G e M A o (by decide)) D E;intro x kd F w v;rcases Hp F w v e with⟨H,_⟩|⟨H,_⟩|⟨_,y,X,rfl,I,T,hy⟩
  ·omega
  ·omega
  ·rw[S]at I;simp only[Bc,CD]at I;subst I;exact .rep _ _ y i j t ev (ih T hy)
 |kend i j=>
  intro x w v;cases x with
  |pnil=>exact .kend i j
  |pcons y r=>obtain⟨c,lp,B,_⟩:=w;cases B
  |_=>exact v.elim
 |kgo c l i j m t u ev fv S _ _ U V=>
  intro x w v;cases x with
  |pnil=>cases w
  |pcons y r=>
   obtain⟨X,l',B,N,L⟩:=w;simp only[Bc]at B;obtain⟨rfl,rfl⟩:=B;refine .kgo y r i j m t u ev fv (S.congr fun q=>?_) (U (kd:=.piece) N v.1) (V L v.2);rw[show Mt s y i q↔MN s nds (.row [c]) i q from IU v.1 N,MN.row_one,show Mt s r q j↔MN s nds (.row l) q j from IU v.2 L]
  |_=>exact v.elim
 |tend c mn mx i j hn=>intro x _ _;exact .tend mn mx x i j hn
 |tgo c mn mx i j m t u ev fv hg S _ _ U V=>
  intro x w v;have N:∀i j,Mt s x i j↔MN s nds (.node c) i j:=fun i j=>by rw[<-MN.row_one];exact IU v w
  refine .tgo mn mx x i j m t u ev fv hg (S.congr fun q=>?_) (U (kd:=.single) w v) (V w v);have L:∀n i j,It (fun i j=>MN s nds (.node c) i j) n i j↔MN s nds (.it c n) i j:=MN.it_iff fun _ _=>Iff.rfl
  rw[N];constructor
  ·rintro⟨a,n,b,d,e⟩;exact⟨a,n,b,d,(MN.it_iff N n q j).2 ((L n q j).1 e)⟩
  ·rintro⟨a,n,b,d,e⟩;exact⟨a,n,b,d,(L n q j).2 ((MN.it_iff N n q j).1 e)⟩
 |hit p c l i j t ev hm _ ih=>
  intro x w v;cases x with
  |wone y=>
   obtain⟨X,lp,B,N,L⟩:=w;simp only[Bc]at B;obtain⟨rfl,rfl⟩:=B;exact .last p y i j t ev (ih (kd:=.way) ⟨lp,N,L⟩ v)
  |wcons y r=>
   obtain⟨X,lp,l',B,⟨N,L⟩,h3⟩:=w;simp only[Bc]at B;obtain⟨rfl,rfl⟩:=B;refine .hit p y r i j t ev ?_ (ih (kd:=.way) ⟨lp,N,L⟩ v.1);rw[show Mt s y i j↔MN s nds (.row lp) i j from IU v.1 N,L.way_iff];exact hm
  |_=>exact v.elim
 |miss p c l i j t ev hm W ih=>
  intro x w v;cases x with
  |wone y=>
   obtain⟨X,lp,B,N,L⟩:=w;simp only[Bc]at B;obtain⟨rfl,rfl⟩:=B;cases W
  |wcons y r=>
   obtain⟨X,lp,l',B,⟨N,L⟩,h3⟩:=w;simp only[Bc]at B;obtain⟨rfl,rfl⟩:=B;refine .miss p y r i j t ev ?_ (ih h3 v.2);rw[show Mt s y i j↔MN s nds (.row lp) i j from IU v.1 N,L.way_iff];exact hm
  |_=>exact v.elim
theorem MN.le'{J:JN}(h:MN s nds J i j):i<=j:=by
 induction h with
 |byte=>omega
 |grp _ _ _ _ _ _ _ _ _ ih=>exact ih
 |alt _ _ _ _ _ _ _ _ _ ih=>exact ih
 |way _ _ _ _ _ _ _ ih=>exact ih
 |rep _ _ _ _ _ _ _ _ _ _ _ _ ih=>exact ih
 |rnil=>omega
 |rcons _ _ _ _ _ _ _ i1 i2=>omega
 |izero=>omega
 |isucc _ _ _ _ _ _ _ i1 i2=>omega
theorem Uv{c:Nat}(e:∀i j,MN s nds (.node c) i j->∃t ev,TN s nds g (.node c) i j t ev):∀(d mn:Nat)(mx:Int)(i j:Nat),mn+(j-i)<=d->CY s nds c mn mx i j->∃t ev,TN s nds g (.times c mn mx) i j t ev:=by
 have hle:∀i j,MN s nds (.node c) i j->i<=j:=fun _ _ h=>h.le'
 intro d
 induction d with
 |zero=>
  intro mn mx i j hd h;exact⟨_,_,.tend c mn mx i j (by omega)⟩
 |succ d ih=>
  intro mn mx i j hd h;by_cases a:i<j∨0<mn
  ·obtain⟨q,b⟩:=BH.ex (fun m=>MN s nds (.node c) i m∧CY s nds c (mn-1) (less mx) m j) (Tm.le hle h);obtain⟨⟨f,k⟩,n⟩:=Tm.cut hle h a b;obtain⟨t,ev,l⟩:=e i q f;obtain⟨u,fv,hu⟩:=ih (mn-1) (less mx) q j (by omega) k;exact⟨_,_,.tgo c mn mx i j q t u ev fv a b l hu⟩
  ·exact⟨_,_,.tend c mn mx i j a⟩
theorem Uw:∀(n:Nat){kd:Kd}{x:AD}{k i j:Nat},C1 nds kd x k->shp x kd->x.fair g->x.sz<=n->MN s nds (.node k) i j->∃t ev,TN s nds g (.node k) i j t ev:=by
 intro n
 induction n with
 |zero=>intro kd x k i j _ _ _ v;exact absurd v (by cases x<;>simp[AD.sz])
 |succ n ih=>
  intro kd x k i j S w o v hm;have kids:∀(x:AD){l:List Nat}{i j:Nat},rep nds x l->shp x .way->x.fair g->x.sz<=n+1->MN s nds (.row l) i j->∃t ev,TN s nds g (.kids l) i j t ev:=by
   intro x
   induction x with
   |pnil=>intro l i j z _ _ _ _;cases z;exact⟨_,_,.kend i j⟩
   |pcons y r _ E=>
    intro l i j z w o v hm;obtain⟨c,l',rfl,I,J⟩:=z;obtain⟨m0,a,b⟩:=MN.row_cons.1 hm;obtain⟨q,P⟩:=BH.ex (fun m=>MN s nds (.node c) i m∧MN s nds (.row l') m j) hm.le';have Q:=P.hit ⟨m0,a.le',b.le',a,b⟩;simp only[AD.sz]at v;obtain⟨t,ev,F⟩:=ih (kd:=.piece) I w.1 o.1 (by omega) Q.1;obtain⟨u,fv,hu⟩:=E J w.2 o.2 (by omega) Q.2;exact⟨_,_,.kgo c l' i j q t u ev fv P F hu⟩
   |_=>intro l i j _ w;exact w.elim
  have alts:∀(x:AD){p:Nat}{l:List Nat}{i j:Nat},rep nds x l->shp x .ways->x.fair g->x.sz<=n+1->(∃c,c∈l∧MN s nds (.node c) i j)->∃t ev,TN s nds g (.alts p l) i j t ev:=by
   intro x
   induction x with
   |wone y _=>
    intro p l i j z w o v hm;obtain⟨c,lp,rfl,I,J⟩:=z;obtain⟨K,A,hm⟩:=hm;simp only[Dc]at A;subst A;simp only[AD.sz]at v;obtain⟨t,ev,F⟩:=ih (kd:=.way) ⟨lp,I,J⟩ w o (by omega) hm;exact⟨_,_,.hit p K [] i j t ev hm F⟩
   |wcons y r _ E=>
    intro p l i j z w o v hm;obtain⟨c,lp,l',rfl,⟨I,J⟩,T⟩:=z;simp only[AD.sz]at v;by_cases A:MN s nds (.node c) i j
    ·obtain⟨t,ev,F⟩:=ih (kd:=.way) ⟨lp,I,J⟩ w.1 o.1 (by omega) A;exact⟨_,_,.hit p c l' i j t ev A F⟩
    ·obtain⟨K,G,hm⟩:=hm;rcases Az.1 G with rfl|G
     ·exact absurd hm A
     ·obtain⟨t,ev,F⟩:=E (p:=p+1) T w.2 o.2 (by omega) ⟨K,G,hm⟩;exact⟨_,_,.miss p c l' i j t ev A F⟩
   |_=>intro p l i j _ w;exact w.elim
  have go:x.fair g->x.sz<=n+1->∃t ev,TN s nds g (.node k) i j t ev:=by
   refine Ho (C:=fun x=>x.fair g->x.sz<=n+1->∃t ev,TN s nds g (.node k) i j t ev) ?_ ?_ ?_ ?_ ?_ S w
   ·intro y h o v;exact h o.1 (by simp only[AD.sz]at v;omega)
   ·intro y h o v;exact h o (by simp only[AD.sz]at v;omega)
   ·intro x kd L z w o v;obtain⟨nd,e⟩:∃nd,nds[k]? =some nd:=by cases hm<;>exact⟨_,by assumption⟩
    rcases Hp L z w e with⟨M,f,rfl⟩|⟨B,y,c,lw,rfl,A,H,U,N⟩|⟨D,y,c,rfl,A,H,N⟩
    ·exact⟨_,_,.byte k nd i j e M⟩
    ·simp only[AD.sz]at v;obtain⟨t,ev,h⟩:=ih (kd:=.ways) (x:=y) (k:=c) ⟨lw,H,U⟩ N o.2.2 (by omega) ((MN.grp_iff e B A).1 hm);exact⟨_,_,.grp k nd c i j t ev e B A ⟨o.1,o.2.1⟩ h⟩
    ·simp only[AD.sz]at v;obtain⟨q,a,b,hit⟩:=(MN.rep_iff e D A).1 hm;have V:CY s nds c nd.mn nd.mx i j:=⟨q,a,b,(MN.it_iff (fun _ _=>Iff.rfl) q i j).2 hit⟩;obtain⟨t,ev,h⟩:=Uv (g:=g) (fun i j h=>ih (kd:=.single) (x:=y) H N o.2 (by omega) h) _ nd.mn nd.mx i j (AP _) V;exact⟨_,_,.rep k nd c i j t ev e D A h⟩
   ·intro x nd e d O z w o v;by_cases R:nd.kids=[]
    ·exact⟨_,_,.none k nd i j e d R⟩
    ·obtain⟨t,ev,h⟩:=kids x z w o v ((MN.way_iff e d).1 hm);exact⟨_,_,.way k nd i j t ev e d R h⟩
   ·intro x nd e d O z w o v;obtain⟨t,ev,h⟩:=alts x (p:=0) z w o v ((MN.alt_iff e d).1 hm);exact⟨_,_,.alt k nd i j t ev e d h⟩
  exact go o v
def AD.A:AD->Nat
 | .set _=>3
 | .grp _ x=>x.A+5
 | .rep mn _ x=>(mn+2)*(x.A+1)+3
 | .pnil=>1
 | .pcons x r=>x.A+r.A+4
 | .wone x=>x.A+6
 | .wcons x r=>x.A+r.A+6
def Bu.bnd:Bu->Nat->Nat
 | .node x,n=>x.A*(n+1)
 | .kids r,n=>r.A*(n+1)-3
 | .times mn _ x,n=>(x.A+1)*(mn+2*n)
 | .alts _ r,n=>r.A*(n+1)
theorem Ke(p:Nat):(CG p).length<=2:=by unfold CG Bh;split<;>simp
theorem TR.len{J:Bu}{ev:List (Nat×Nat×Nat)}(h:TR s J i j t ev):J.ok s i j->t.length<=J.bnd (j-i):=by
 have hle:∀{x:AD}(i j:Nat),Mt s x i j->i<=j:=fun _ _ h=>h.le
 induction h with
 |byte f i j=>intro _;simp only[Bu.bnd,AD.A,FB,AW,Aj,BJ];omega
 |grp k x i j t ev _ ih=>
  intro hm;have:=ih hm;simp only[Bu.bnd,AD.A,Bh,AW,Aj,BJ,DQ,Ez]at this⊢;omega
 |nil i j=>intro _;simp only[Bu.bnd,AD.A,Aj,BJ];omega
 |lone x i j t ev _ ih=>
  intro hm;obtain⟨m,a,b⟩:=hm;have G:m=j:=b;subst G;have:=ih a;simp only[Bu.bnd,AD.A,DQ,Ez]at this⊢;omega
 |row x y r i j t ev _ ih=>
  intro hm;have:=ih hm;simp only[Bu.bnd,AD.A,AW,Aj,BJ,DQ,Ez]at this⊢;omega
 |kend i j=>intro _;simp
 |kgo x r i j c t u ev fv e _ _ g l=>
  intro hm;obtain⟨m,a,b⟩:=hm;have z:=e.hit ⟨m,a.le,b.le,a,b⟩;have v:=g z.1;have w:=l z.2;have C:=e.1;have D:=e.2.1;obtain⟨p,E⟩:=AQ (c-i);obtain⟨q,F⟩:=AQ (j-c);have o:j-i=p+q:=by omega
  rw[o];simp only[Bu.bnd]at v w⊢;rw[<-E]at v;rw[<-F]at w;simp only[AD.A,AW,Aj,BJ,DQ,Ez]at v w⊢;omega
 |rep mn mx x i j t ev _ ih=>
  intro hm;have:=ih hm;simp only[Bu.bnd]at this⊢;obtain⟨n,B⟩:=AQ (j-i);rw[<-B]at this⊢;have H:(x.A+1)*(mn+2*n)<=(mn+2)*(x.A+1)*(n+1):=by
   rw[Nat.mul_comm (mn+2),Nat.mul_assoc];apply Nat.mul_le_mul_left;have:mn*(n+1)=mn*n+mn:=by rw[Ez];omega
   rw[DQ,this];omega
  simp only[AD.A,AW,Aj,BJ];rw[DQ];omega
 |tend mn mx x i j B=>intro _;simp
 |tgo mn mx x i j c t u ev fv I e _ _ g l=>
  intro hm;obtain⟨z,d⟩:=Tm.cut hle hm I e;have v:=g z.1;have w:=l z.2;have C:=e.1;have D:=e.2.1;obtain⟨p,E⟩:=AQ (c-i);obtain⟨q,F⟩:=AQ (j-c);have o:j-i=p+q:=by omega
  rw[o]at d⊢;simp only[Bu.bnd]at v w⊢;rw[<-E]at v;rw[<-F]at w d;have key:x.A*(p+1)+1+(x.A+1)*(mn-1+2*q)<=(x.A+1)*(mn+2*(p+q)):=by
   by_cases K:p=0
   ·subst K;obtain⟨m',rfl⟩:∃m',mn=m'+1:=⟨mn-1,by omega⟩;have:(x.A+1)*(m'+1+2*(0+q))=(x.A+1)*(m'+2*q)+(x.A+1):=by
     rw[show m'+1+2*(0+q)=(m'+2*q)+1 by omega,Ez,Nat.mul_one]
    rw[this];simp only[Nat.add_sub_cancel,Ba,Nat.mul_one];omega
   ·have H:(x.A+1)*(mn-1+2*q)+(x.A+1)*(2*p)<=(x.A+1)*(mn+2*(p+q)):=by
     rw[<-Ez];apply Nat.mul_le_mul_left;omega
    have L:x.A*(p+1)+1<=(x.A+1)*(2*p):=by
     have:x.A*(p+1)<=x.A*(2*p):=Nat.mul_le_mul_left _ (by omega);rw[DQ];omega
    omega
  simp only[AW,Aj,BJ];omega
 |wone x i j t ev _ ih=>
  intro hm;have:=ih hm;simp only[Bu.bnd,AD.A,DQ,Ez]at this⊢;omega
 |wcons x r i j t ev _ ih=>intro hm;exact ih hm
 |hit p x r i j t ev hm _ ih=>
  intro _;have:=ih hm;have hd:=Ke p;simp only[Bu.bnd,AD.A,AW,Aj,BJ,DQ,Ez]at this⊢;omega
 |miss p x r i j t ev B _ ih=>
  intro hm;have:=ih (hm.elim (fun h=>absurd h B) id);simp only[Bu.bnd,AD.A,DQ,Ez]at this⊢;omega
 |last p x i j t ev _ ih=>
  intro hm;have:=ih hm;have hd:=Ke p;simp only[Bu.bnd,AD.A,AW,Aj,BJ,DQ,Ez]at this⊢;omega
def AD.dep:AD->Nat
 | .set _=>0
 | .grp _ x=>x.dep
 | .rep _ _ x=>x.dep+1
 | .pnil=>0
 | .pcons x r=>max x.dep r.dep
 | .wone x=>x.dep
 | .wcons x r=>max x.dep r.dep
theorem AD.A_pos(x:AD):1<=x.A:=by cases x<;>simp only[AD.A]<;>omega
theorem AD.A_le:∀{x:AD}{kd:Kd},shp x kd->x.A<=6*x.sz*17^x.dep:=by
 have up:∀{a d e:Nat},d<=e->a*17^d<=a*17^e:=fun h=>Nat.mul_le_mul_left _ (Nat.pow_le_pow_right (by omega) h)
 have pos:∀d:Nat,1<=17^d:=fun d=>Nat.one_le_pow _ _ (by omega)
 have two:∀{x r:AD}(n:Nat),n<=6->x.A<=6*x.sz*17^x.dep->r.A<=6*r.sz*17^r.dep->x.A+r.A+n<=6*(1+x.sz+r.sz)*17^(max x.dep r.dep):=by
  intro x r n q j l;have m:=BG j (up (Nat.le_max_left x.dep r.dep));have o:=BG l (up (Nat.le_max_right x.dep r.dep));have:=pos (max x.dep r.dep);rw[Nat.mul_assoc,DQ,DQ];rw[Nat.mul_assoc]at m o;omega
 intro x
 induction x with
 |set f=>intro _ _;simp[AD.A,AD.sz,AD.dep]
 |grp k x ih=>
  intro kd b;have c:shp x .ways:=by cases kd<;>first|exact b|exact b.elim
  have j:=ih c;have l:=pos x.dep;simp only[AD.A,AD.sz,AD.dep];rw[Nat.mul_assoc,DQ];rw[Nat.mul_assoc]at j;omega
 |rep mn mx x ih=>
  intro kd b;have c:mn<=5∧shp x .single:=by cases kd<;>first|exact⟨b.1,b.2.2.2⟩|exact b.elim
  have j:=ih c.2;have l:=x.A_pos;have s:(mn+2)*(x.A+1)<=7*(x.A+1):=Nat.mul_le_mul_right _ (by omega);have p:6*(1+x.sz)*17^(x.dep+1)=17*(6*(1+x.sz)*17^x.dep):=by rw[Nat.pow_succ];ac_rfl
  have t:6*x.sz*17^x.dep<=6*(1+x.sz)*17^x.dep:=Nat.mul_le_mul_right _ (by omega);simp only[AD.A,AD.sz,AD.dep];rw[p];omega
 |pnil=>intro _ _;simp[AD.A,AD.sz,AD.dep]
 |pcons x r g i=>
  intro kd b;have c:shp x .piece∧shp r .way:=by cases kd<;>first|exact b|exact b.elim
  exact two 4 (by omega) (g c.1) (i c.2)
 |wone x ih=>
  intro kd b;have c:shp x .way:=by cases kd<;>first|exact b|exact b.elim
  have j:=ih c;have l:=pos x.dep;simp only[AD.A,AD.sz,AD.dep];rw[Nat.mul_assoc,DQ];rw[Nat.mul_assoc]at j;omega
 |wcons x r g i=>
  intro kd b;have c:shp x .way∧shp r .ways:=by cases kd<;>first|exact b|exact b.elim
  exact two 6 (by omega) (g c.1) (i c.2)
def Eh:Kd->Nat
 | .single=>6
 |_=>7
theorem G.fair{k:Kd}{d:Nat}{q:R (AD×Nat)}(h:G s k d g i q):d<=6->g<=9->∀x g1 j,q=.ok (x,g1) j->g<=g1∧g1<=9∧x.fair g1∧x.dep+d<=Eh k:=by
 induction h with
 |one d g i g1 j x _ e ih=>intro hd m n b p a;cases a;exact ih hd m x g1 j rfl
 |more d g i g1 j x q _ e _ ih t=>
  intro hd m n b p a;cases q with
  |bad l=>cases a
  |ok y l=>
   obtain⟨u,a2,a3,a4⟩:=ih hd m x g1 j rfl;obtain⟨v,w,z,A⟩:=t hd a2 y.1 y.2 l rfl;cases a;refine⟨by omega,w,⟨a3.up v,z⟩,?_⟩;simp only[AD.dep,Eh]at a4 A⊢;omega
 |wbad=>intro _ _ n b p a;cases a
 |nil d g i e=>intro hd m n b p a;cases a;exact⟨AP _,m,trivial,by simp only[AD.dep,Eh];omega⟩
 |cons d g i g1 j x q e _ _ ih t=>
  intro hd m n b p a;cases q with
  |bad l=>cases a
  |ok y l=>
   obtain⟨u,a2,a3,a4⟩:=ih hd m x g1 j rfl;obtain⟨v,w,z,A⟩:=t hd a2 y.1 y.2 l rfl;cases a;refine⟨by omega,w,⟨a3.up v,z⟩,?_⟩;simp only[AD.dep,Eh]at a4 A⊢;omega
 |pbad=>intro _ _ n b p a;cases a
 |rep d g i g1 j x q _ r ih=>
  intro hd m n b p a;obtain⟨u,a2,a3,a4⟩:=ih hd m x g1 j rfl;cases q with
  |bad l=>cases a
  |ok o l=>
   cases o with
   |none=>cases a;exact⟨u,a2,a3,by simp only[Cn,Eh]at a4⊢;omega⟩
   |some C=>
    obtain⟨mn,mx⟩:=C;cases a;exact⟨u,a2,⟨r.fair,a3⟩,by simp only[Cn,AD.dep,Eh]at a4⊢;omega⟩
 |sbad=>intro _ _ n b p a;cases a
 |deep=>intro _ _ n b p a;cases a
 |grp d g i g1 j x e o _ c ih=>
  intro hd m n b p a;cases a;obtain⟨u,a2,a3,a4⟩:=ih (by omega) (by omega) x g1 j rfl;exact⟨by omega,a2,⟨by omega,u,a3⟩,by simp only[AD.dep,Eh]at a4⊢;omega⟩
 |gopen=>intro _ _ n b p a;cases a
 |gbad=>intro _ _ n b p a;cases a
 |set d g i q e r=>
  intro hd m n b p a;cases q with
  |bad l=>cases a
  |ok f l=>cases a;exact⟨AP _,m,trivial,by simp only[AD.dep,Eh];omega⟩
 |dot d g i e=>intro hd m n b p a;cases a;exact⟨AP _,m,trivial,by simp only[AD.dep,Eh];omega⟩
 |esc d g i e=>
  intro hd m n b p a;cases B:A9 s 0 (i+1)with
  |bad l=>rw[B]at a;cases a
  |ok f l=>rw[B]at a;cases a;exact⟨AP _,m,trivial,by simp only[AD.dep,Eh];omega⟩
 |no=>intro _ _ n b p a;cases a
 |lit d g i e=>intro hd m n b p a;cases a;exact⟨AP _,m,trivial,by simp only[AD.dep,Eh];omega⟩
theorem Ux{x:AD}{ev:List (Nat×Nat×Nat)}(h:TR s (.node x) i j t ev)(hm:Mt s x i j)(a:shp x kd)(hd:x.dep<=7)(e:x.sz<=1000)(f:j<=100):t.length<=300000000000000:=by
 have g:t.length<=x.A*(j-i+1):=h.len hm;have b:=AD.A_le (kd:=kd) a;have c:17^x.dep<=17^7:=Nat.pow_le_pow_right (by omega) hd;have d:6*x.sz*17^x.dep<=6*1000*17^7:=Nat.mul_le_mul (by omega) c;have k:x.A*(j-i+1)<=(6*1000*17^7)*101:=Nat.mul_le_mul (BG b d) (by omega);have l:(6*1000*17^7)*101<=300000000000000:=by decide
 omega
theorem Kf{a b:ByteArray}(h:a=b):Ending.returned (.string a)=.returned (.string b):=by rw[h]
theorem Ei(a b:List UInt8):AJ a++AJ b=AJ (a++b):=ByteArray.mk_append_mk a b
theorem Ly(l:List UInt8)(a:Nat)(h:a<l.length):(AJ l).extract a (a+1)=AJ [l.getD a 0]:=by
 apply ByteArray.ext;apply Array.ext';rw[Lib.extract_data,Nat.add_sub_cancel_left,Hz,Hz,GO h,H7,List.take_zero,En,Ax h];rfl
theorem Uy(b:Nat)(hb:b<=255):(AJ EZ).extract (b/16) (b/16+1)++(AJ EZ).extract (b%16) (b%16+1)=AJ [EZ.getD (b/16) 0,EZ.getD (b%16) 0]:=by
 rw[Ly EZ (b/16) (by show b/16<16;omega),Ly EZ (b%16) (by show b%16<16;omega),Ei];rfl
theorem Uz(b:Nat)(hb:b<=255)(w:World):Calls Tryz.prog 140 #[.int .i64 b] w fun e w'=>e=.returned (.string (AJ [EZ.getD (b/16) 0,EZ.getD (b%16) 0]))∧∃n,w'=w.drewN n:=by
 have a:(0:Int)<=(b:Int):=by omega
 have c:(b:Int)<=255:=by omega
 have d:(0:Int)<=(b:Int)/16:=by omega
 have f:(b:Int)/16<=15:=by omega
 have g:(0:Int)<=(b:Int)%16:=by omega
 have h:(b:Int)%16<=15:=by omega
 go_enter Tryz.func140,Tryz.ntmps140;go_wp2_with fail;go_quiet (fail);go_wp2_with fail;go_ret;exact⟨Kf (Uy b hb),_,rfl⟩
def BA(l:List Int):List Value:=l.map fun x=> .int .i64 x
theorem U0(l:List Int)(k:Nat)(x:Int):(BA l).set k (.int .i64 x)=BA (l.set k x):=by
 simp[BA,List.map_set]
def OT(w:World)(b:Nat)(acc:List UInt8)(sp:Value)(keep:Bool):Prop:=
 ∃out,OB w b out acc.length sp keep∧out.size<=20000∧(keep=true->acc.length<=20000->out=AJ acc)
theorem OT.lt{w:World}{b:Nat}(h:OT w b acc sp keep):b<w.heap.size:=by
 obtain⟨out,h,_⟩:=h;exact h.lt
theorem OT.keep'{w w':World}{S:List Nat}{b:Nat}(h:OT w b acc sp keep)(a:AA S w w')(hb:b∉S):OT w' b acc sp keep:=by
 obtain⟨out,h,c⟩:=h;exact⟨out,h.keep' a hb,c⟩
structure TS (w : World) (b bp : Nat) (s : ByteArray) (p : PS) (nds : List Nd) (D : List Nat) (E : Value) (ob : Nat) (sp : Value) (keep : Bool) (g : Nat) (acc : List UInt8) (l : List Int) : Prop where
 tx : TX w b bp s p nds D E (ob :: sp.ownBlock.toList)
 ot : OT w ob acc sp keep
 row : w.ownsRow 0 3 1 sp (2 * g) (BA l)
 ne : sp.ownBlock ≠ some ob
variable{w w':World}{b bp:Nat}{s:ByteArray}{p:PS}{nds:List Nd}{D:List Nat}{E:Value}{ob:Nat}{sp:Value}{keep:Bool}{g:Nat}{acc:List UInt8}{l:List Int}
theorem TS.len(h:TS w b bp s p nds D E ob sp keep g acc l):l.length=2*g:=by
 have:=h.row.1;simpa[BA]using this
theorem TS.zin(h:TS w b bp s p nds D E ob sp keep g acc l):∀x,x∈ob::sp.ownBlock.toList->x<w.heap.size:=by
 intro x a;rcases Az.1 a with rfl|a
 ·exact h.ot.lt
 ·exact(h.row.lt x (by simpa using a)).2
theorem TS.ends(h:TS w b bp s p nds D E ob sp keep g acc l)(c:AA D w w')(a:TX w' b bp s p nds D E (ob::sp.ownBlock.toList)):TS w' b bp s p nds D E ob sp keep g acc l:=by
 refine⟨a,h.ot.keep' c fun hm=>h.tx.dz ob hm (by simp),h.row.keep c fun x a hm=>h.tx.dz x hm (by simp[a]),h.ne⟩
theorem TS.new(h:TS w b bp s p nds D E ob sp keep g acc l)(a:AA [] w w'):TS w' b bp s p nds D E ob sp keep g acc l:=
 h.ends (a.mono (by simp)) (h.tx.keep a (by simp))
theorem OT.said{w':World}{b:Nat}{out:ByteArray}(f:out.size<=20000)(a:keep=true->acc.length<=20000->out=AJ acc)(h:OB w' b (ET out (AJ t) acc.length keep) (acc.length+(AJ t).size) sp keep):OT w' b (acc++t) sp keep:=by
 refine⟨_,by rw[AW,<-Bp t];exact h,?_,?_⟩
 ·unfold ET;split
  ·rename_i c;rw[a c.1 (by omega),Ei,Bp,AW,<-Bp t];exact c.2
  ·exact f
 ·intro d e;rw[AW]at e;unfold ET;rw[AL ⟨d,by rw[Bp];exact e⟩,a d (by omega),Ei]
theorem Dk(h:TS w b bp s p nds D E ob sp keep g acc l)(t:List UInt8)(i:acc.length+t.length<=4611686018427387904):Calls Tryz.prog 139 #[.pointer (some ⟨ob,0,none⟩),.string (AJ t)] w fun e w'=>e=.returned (.tuple #[])∧TS w' b bp s p nds D E ob sp keep g (acc++t) l∧AA [ob] w w':=by
 obtain⟨out,j,f,k⟩:=h.ot;refine(Uu ob out (AJ t) acc.length sp keep w j (by rw[Bp];exact i) f).mono ?_;rintro e w2⟨rfl,c,d⟩;refine⟨rfl,⟨h.tx.keep d (by intro x a;simp at a;exact AH (by simp[a])),OT.said f k c,h.row.keep d ?_,h.ne⟩,d⟩;intro x a hm;simp only[Dc]at hm;subst hm;exact h.ne a
theorem TS.span(h:TS w b bp s p nds D E ob sp keep g acc l){a cap:Nat}(c:sp=.slice (some ⟨a,0,none⟩) (2*g) cap)(k:Nat)(x:Int):TS (w.setCell ⟨a,k,none⟩ (.int .i64 x)) b bp s p nds D E ob sp keep g acc (l.set k x)∧AA [a] w (w.setCell ⟨a,k,none⟩ (.int .i64 x)):=by
 subst c;have d:AA [a] w (w.setCell ⟨a,k,none⟩ (.int .i64 x)):=(AG [a] w).setCell (p:=⟨a,k,none⟩) (by simp) _;have f:a≠ob:=fun e=>h.ne (by simp[Value.ownBlock,e])
 refine⟨⟨h.tx.keep d (by intro x i;simp at i;exact AH (by simp[Value.ownBlock,i])),h.ot.keep' d (by simp;exact fun e=>f e.symm),?_,h.ne⟩,d⟩;have:=(Es h.row k (.int .i64 x)).1;rw[U0]at this;exact this
theorem Kg{z:Int}(a:-1000000<=z)(b:z<=1000000):IntKind.i64.wrap z=z:=by
 have:IntKind.i64.wrap z=if 9223372036854775808<=z%18446744073709551616 then z%18446744073709551616-18446744073709551616 else z%18446744073709551616:=by simp[IntKind.wrap,IntKind.bits,IntKind.signed]
 rw[this];split<;>omega
def Jp:List UInt8:=[48,49,50,51,52,53,54,55,56,57]
theorem Kh(n:Nat)(h:n<=9):(AJ Jp).extract n (n+1)=AJ (Bh n):=by
 rw[Ly Jp n (by show n<10;omega)]
 match n,h with
 |0,_=>rfl
 |1,_=>rfl
 |2,_=>rfl
 |3,_=>rfl
 |4,_=>rfl
 |5,_=>rfl
 |6,_=>rfl
 |7,_=>rfl
 |8,_=>rfl
 |9,_=>rfl
theorem Ki(n:Nat)(h:n<=9)(w:World):Calls Tryz.prog 111 #[.int .i64 n] w fun e w'=>e=.returned (.string (AJ (Bh n)))∧w'=w:=by
 have a:(0:Int)<=(n:Int):=by omega
 have d:(n:Int)<10:=by omega
 have b:(n:Int)%10=(n:Int):=by omega
 have f:(n:Int).tmod 10=(n:Int):=by rw[Int.tmod_eq_emod_of_nonneg a];exact b
 have c:=Kh n h;go_enter Tryz.func111,Tryz.ntmps111;go_wp2_with fail;go_ret;exact⟨Kf c,rfl⟩
theorem U1(n:Nat)(h:n<=99)(w:World):Calls Tryz.prog 111 #[.int .i64 n] w fun e w'=>e=.returned (.string (AJ (CG n)))∧w'=w:=by
 by_cases a:n<=9
 ·have:CG n=Bh n:=by unfold CG;rw[AL (by omega)]
  rw[this];exact Ki n a w
 have g:(0:Int)<=(n:Int):=by omega
 have i:¬(n:Int)<10:=by omega
 have b:(n:Int)<=99:=by omega
 have j:(0:Int)<=(n:Int)%10:=by omega
 have k:(n:Int)%10<=9:=by omega
 have l:(0:Int)<=(n:Int)/10:=by omega
 have m:(n:Int)/10<=9:=by omega
 have c:Hid (CG n=Bh (n/10)++Bh (n%10)):=by show CG n=_;unfold CG;rw[AK (by omega)]
 have d:Hid ((AJ Jp).extract (n%10) (n%10+1)=AJ (Bh (n%10))):=Kh (n%10) (by omega);have hlen:(AJ (Bh (n/10))).size<=1:=AP 1;have f:Hid (n/10<=9):=by show n/10<=9;omega
 clear a h;go_enter Tryz.func111,Tryz.ntmps111;go_wp2_with(first|(go_at_call 111;refine(Ki (n/10) f.o _).mono ?_;rintro e w'⟨rfl,rfl⟩));go_ret;exact⟨Kf (by rw[c.o,<-Ei,<-d.o];rfl),rfl⟩
variable{w:World}{b bp:Nat}{s:ByteArray}{p:PS}{nds:List Nd}{D:List Nat}{E:Value}{ob:Nat}{sp:Value}{keep:Bool}{g:Nat}{acc:List UInt8}{l:List Int}
def Al(ob:Nat)(sp:Value)(D:List Nat):List Nat:=ob::(sp.ownBlock.toList++D)
def FX(w:World)(b bp:Nat)(s:ByteArray)(p:PS)(nds:List Nd)(D:List Nat)(E:Value)(ob:Nat)(sp:Value)(keep:Bool)(g:Nat)(acc:List UInt8)(l:List Int)(t:List UInt8)(ev:List (Nat×Nat×Nat))(e:Ending)(w':World):Prop:=
 e=.returned (.tuple #[])∧TS w' b bp s p nds D E ob sp keep g (acc++t) (evs l ev)∧AA (Al ob sp D) w w'
def F6(s:ByteArray)(nds:List Nd)(n:Nat):Prop:=∀(k:Nat),NK nds n k->∀(w:World)(b bp:Nat)(p:PS)(D:List Nat)(E:Value)(ob:Nat)(sp:Value)(keep:Bool)(g:Nat)(acc:List UInt8)(l:List Int)(i j:Nat)(t:List UInt8)(ev:List (Nat×Nat×Nat)),
 TS w b bp s p nds D E ob sp keep g acc l->TN s nds g (.node k) i j t ev->MN s nds (.node k) i j->j<=s.size->g<=9->acc.length+t.length<=4611686018427387904->
 Calls Tryz.prog 88 #[.pointer (some ⟨b,0,none⟩),.int .i64 k,.int .i64 i,.int .i64 j,.pointer (some ⟨ob,0,none⟩)] w (FX w b bp s p nds D E ob sp keep g acc l t ev)
theorem DK.kv2{v kv:Value}(h:DK w (Bf bp (b::(E.ownBlock.toList++(D++(ob::sp.ownBlock.toList)))) v) kv kids)(k:kids.length<=1000):KV w (Al ob sp D) kv kids:=by
 obtain⟨e,f,rfl,g⟩:=h.form;refine⟨e,f,rfl,by omega,fun t c i=>?_⟩;obtain⟨hlt,j⟩:=BT.1 i;obtain⟨kb,rfl,a⟩:=g t hlt;refine⟨kb,0,rfl,(h.1.lt kb rfl).2,fun d=>h.2 kb rfl ?_,?_⟩
 ·simp only[Al,Az,Bb,Ay]at d;simp only[Bf,Az,Bb,Ay];rcases d with d|d|d<;>simp[d]
 ·rw[Ba,a,j]
theorem DK.cap{av:List Nat}{kv:Value}(h:DK w av kv kids):∃b a,kv=.slice b kids.length a∧kids.length<=a:=by
 rcases h.1.2 with⟨rfl,e⟩|⟨g,cap,cur,rfl,_,_,c,_⟩
 ·exact⟨none,0,by rw[e],by omega⟩
 ·exact⟨_,cap,rfl,c⟩
theorem CZ{q:Nat}{a b c d e f:Value}(h:w.heap[q]? =some (.cells #[a,b,c,d,e,f] 157 (0,0))):w.cell? ⟨q,0,none⟩=some a∧w.cell? ⟨q,1,none⟩=some b∧w.cell? ⟨q,2,none⟩=some c∧w.cell? ⟨q,3,none⟩=some d∧w.cell? ⟨q,4,none⟩=some e∧w.cell? ⟨q,5,none⟩=some f:=by
 refine⟨?_,?_,?_,?_,?_,?_⟩<;>(rw[AU h];rfl)
theorem KV.less{D D':List Nat}{lv:Value}(h:KV w D lv kids)(a:∀x,x∈D'->x∈D):KV w D' lv kids:=by
 obtain⟨b,cap,e,d,f⟩:=h;refine⟨b,cap,e,d,fun t c i=>?_⟩;obtain⟨g,off,j,k,l,m⟩:=f t c i;exact⟨g,off,j,k,fun hm=>l (a g hm),m⟩
theorem EI{x:Nat}(h:x∈D):x∈Al ob sp D:=by simp[Al,h]
theorem Dm{x:Nat}(h:x∈[ob]):x∈Al ob sp D:=by simp at h;simp[Al,h]
theorem KV.cell{S:List Nat}{y off n cap m c:Nat}(h:KV w S (.slice (some ⟨y,off,none⟩) n cap) kids)(f:kids[m]? =some c):w.cell? ⟨y,off+m,none⟩=some (.int .i64 c):=by
 obtain⟨i,j,e,k,a⟩:=h;simp only[C7]at e;obtain⟨rfl,_,rfl⟩:=e;obtain⟨g',b,d,_,_,g⟩:=a m c f;simp only[Ai,FU,CD]at d;obtain⟨rfl,rfl⟩:=d;exact g
theorem KV.cut{S:List Nat}{y off cap m:Nat}(h:KV w S (.slice (some ⟨y,off,none⟩) kids.length cap) kids)(hm:m<=kids.length)(b:kids.length<=cap):KV w S (.slice (if cap=m then some ⟨y,off,none⟩else some ⟨y,off+m,none⟩) (kids.length-m) (cap-m)) (kids.drop m):=by
 obtain⟨l,n,e,o,g⟩:=h;simp only[C7]at e;obtain⟨rfl,_,rfl⟩:=e;refine⟨_,_,by rw[Ey],by rw[Ey];omega,fun t c a=>?_⟩;rw[List.getElem?_drop]at a;have hlt:=(BT.1 a).1;rw[AK (by omega)];obtain⟨g',d,f,i,j,k⟩:=g (m+t) c a;simp only[Ai,FU,CD]at f;obtain⟨rfl,rfl⟩:=f;exact⟨y,off+m,rfl,i,j,by rw[Nat.add_assoc];exact k⟩
theorem U2(s:ByteArray)(N:Nat)(HN:Hid (N=s.size+1))(nds:List Nd)(hn:nds.length<=1000)(n:Nat)(ah:DS s nds n)(ai:F6 s nds n)(k:Nat)(nd:Nd)(S:nds[k]? =some nd)(d:nd.kind=98)(y:nd.kids.length<=1000)(w:World)(b bp:Nat)(p:PS)(D:List Nat)(E:Value)(ob:Nat)(sp:Value)(keep:Bool)(g:Nat)(acc:List UInt8)(l:List Int)(i j:Nat)(v:TS w b bp s p nds D E ob sp keep g acc l)(z:i<=j)(T:j<=s.size)(hg:g<=9)(c:i<s.size)(hlen:acc.length+([98]++FB (at' s i).toNat).length<=4611686018427387904):Calls Tryz.prog 88 #[.pointer (some ⟨b,0,none⟩),.int .i64 k,.int .i64 i,.int .i64 j,.pointer (some ⟨ob,0,none⟩)] w (FX w b bp s p nds D E ob sp keep g acc l ([98]++FB (at' s i).toNat) ([])):=by
 obtain⟨x0,x1,x2,x3⟩:=v.tx.xb.main;obtain⟨g',U,hv,kv,f,L,V,M,X,c1,c2,c3,c4,c5⟩:=v.tx.nodes.node S;rw[d]at X;obtain⟨Y,_⟩:=v.tx.pb.nodes;rw[f]at Y;obtain⟨I,m,q,rfl⟩:=V.1;have O:Hid (KV w (Al ob sp D) kv nd.kids):=M.kv2 y;obtain⟨J,K,rfl,Z⟩:=M.cap;have hs:=v.tx.small;have aa:(0:Int)<=(k:Int):=by omega
 have ab:(k:Int)<(nds.length:Int):=by omega
 have ac:(nds.length:Int)<=1000:=by omega
 have ad:(nd.kids.length:Int)<=1000:=by omega
 have aj:Hid (i<=j∧j<=s.size∧s.size<=100):=⟨z,T,hs⟩;have HS:Hid (TS w b bp s p nds D E ob sp keep g acc l):=v;have r:=(AG [] w).alloc (.cells #[.int .u8 98,.slice I m q,.int .i64 nd.n,.int .i64 nd.mn,.int .i64 nd.mx,.slice J nd.kids.length K] 157);have a:=AS w (.cells #[.int .u8 98,.slice I m q,.int .i64 nd.n,.int .i64 nd.mn,.int .i64 nd.mx,.slice J nd.kids.length K] 157);have HL:Hid (acc.length+([98]++FB (at' s i).toNat).length<=4611686018427387904):=hlen;clear v S z T hs f V M L d hn y x2 x3 hlen;go_enter Tryz.func88,Tryz.ntmps88;go_upto_region 1 with(fail)
 clear X c1 c2 c3 c4 c5 Y x0 x1;generalize w.alloc (.cells #[.int .u8 98,.slice I m q,.int .i64 nd.n,.int .i64 nd.mn,.int .i64 nd.mx,.slice J nd.kids.length K] 157)=W at*;obtain⟨gn,A⟩:=AQ w.heap.size;rw[<-A]at a⊢;have t:=HS.o.new r;have ak:gn∉Al ob sp D:=by
  intro hm;have P:=HS.o;simp only[Al,Az,Bb,Ay]at hm;rcases hm with h|h|h
  ·have:=P.ot.lt;omega
  ·have:=(P.row.lt _ h).2;omega
  ·have:=P.tx.dlt _ h;omega
 clear A;have e0:W.cell? ⟨gn,0,none⟩=some (.int .u8 98):=by rw[AU a];rfl
 have al:Hid (W.heap[gn]? =some (.cells #[.int .u8 98,.slice I m q,.int .i64 nd.n,.int .i64 nd.mn,.int .i64 nd.mx,.slice J nd.kids.length K] 157 (0,0))):=a;have am:Hid (gn<W.heap.size):=(AN.1 a).1;have ae:=O.o.keep (r.mono (by simp));clear a;have af:(i:Int)<(s.size:Int):=by omega
 have ag:(0:Int)<=(i:Int):=by omega
 have an:=(s[i]'c).toNat_lt;obtain⟨y0,y1,_,_⟩:=t.tx.xb.main;have B:(at' s i).toNat=(s[i]'c).toNat:=by rw[Bd c];simp
 have C:Hid ((at' s i).toNat=(s[i]'c).toNat):=B;have ao:(AJ (FB (s[i]'c).toNat)).size<=2:=AP 2;clear B;go_upto_region 3 with(fail)
 clear e0;go_wp2_with fail;refine(Uz (s[i]'c).toNat (by omega) W).mono ?_;rintro e w2⟨rfl,nq,rfl⟩;have F:AA [] W (W.drewN nq):=(AG [] W).drewN nq;have G:=t.new F;have u:=Dk G ([98]++FB (s[i]'c).toNat) (by have:=HL.o;rw[C.o]at this;exact this);rw[<-Ei]at u;clear y0 y1 t;go_wp2_with fail;refine u.mono ?_;rintro e w3⟨rfl,H,hk3⟩;have Q:AA (Al ob sp D) w w3:=((r.trans F).mono (by simp)).trans (hk3.mono fun x hx=>Dm hx);have R:TS w3 b bp s p nds D E ob sp keep g (acc++([98]++FB (at' s i).toNat)) (evs l []):=by rw[C.o];exact H
 clear G H hk3 u;go_wp2_with fail;go_end0;exact⟨rfl,R,Q⟩
