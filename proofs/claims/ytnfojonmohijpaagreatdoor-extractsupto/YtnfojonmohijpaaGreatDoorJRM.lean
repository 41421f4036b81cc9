/-
  DERIVED. How a pattern that has been read lies in the reference's list of nodes, and that list in memory; a node more. Nothing is assumed but what stands in each theorem.
-/
import Derived.Test.YtnfojonmohijpaaGreatDoorJRJ
set_option linter.all false
set_option maxRecDepth 100000
set_option maxHeartbeats 8000000
namespace Go.Proofs.YtnfojonmohijpaaGreatDoor
open Go.RowKit
variable{w w' w0 w9:World}{A S av':List Nat}{b h nb:Nat}{v:Value}{p p9:PS}
def BT:=@List.getElem?_eq_some_iff
def Db:=@List.getElem?_append_left
def Ay:=@Option.mem_toList
def FH:=@World.ownsRow_nil
def CS:=@List.append_assoc
def Bb:=@List.mem_append
def CT:=@List.append_nil
theorem G.okb{s:ByteArray}{k:Kd}{d g i:Nat}{q:R (AD×Nat)}(h:G s k d g i q):∀x g1 j,q=.ok (x,g1) j->i<=j∧(i<=s.size->j<=s.size)∧(k=.piece∨k=.single->i<j)∧g<=g1∧(g<=9->g1<=9):=by
 have A:∀i,0<=at' s i->i<s.size:=fun i hi=>Ap hi
 induction h with
 |one d g i g1 j x _ e ih=>intro p m n b;cases b;have:=ih x g1 j rfl;simp;omega
 |more d g i g1 j x q _ e _ ih t=>
  intro p m n b;cases q with
  |bad l=>cases b
  |ok y l=>
   have u:=ih x g1 j rfl;have z:=t y.1 y.2 l rfl;cases b;have:=A j (by omega);simp;omega
 |wbad=>intro p m n b;cases b
 |nil d g i e=>intro p m n b;cases b;simp
 |cons d g i g1 j x q e _ _ ih t=>
  intro p m n b;cases q with
  |bad l=>cases b
  |ok y l=>
   have u:=ih x g1 j rfl;have z:=t y.1 y.2 l rfl;cases b;simp;omega
 |pbad=>intro p m n b;cases b
 |rep d g i g1 j x q _ r ih=>
  intro p m n b;cases q with
  |bad l=>cases b
  |ok y l=>
   cases b;have u:=ih x g1 j rfl;have z:=r.ok;simp at u⊢;omega
 |sbad=>intro p m n b;cases b
 |deep=>intro p m n b;cases b
 |grp d g i g1 j x e o _ c ih=>intro p m n b;cases b;have:=ih x g1 j rfl;have:=A j (by omega);simp;omega
 |gopen=>intro p m n b;cases b
 |gbad=>intro p m n b;cases b
 |set d g i q e r=>
  intro p m n b;have:=A i (by omega);cases q with
  |bad l=>cases b
  |ok y l=>
   cases b;have B:∀{i f j},DH s i (.ok f j)->i<j∧j<=s.size:=by
    intro i f j hu;have C:∀{f i q},EY s f i q->∀f' j,q=.ok f' j->i<j∧j<=s.size:=by
     intro f i q v
     induction v with
     |done f i e=>intro f' j b;cases b;have:=A i (by omega);omega
     |more f r i j q e D _ ih=>intro f' n b;have:=ih f' n b;have:=Gr D;omega
     |bad=>intro f' j b;cases b
    cases hu with
    |go r _ n _ e v=>have:=Gr e;have:=C v f j rfl;omega
   rcases r with⟨E,F,w,hm⟩|⟨_,w⟩
   ·cases F with
    |bad l=>cases hm
    |ok f l=>cases hm;have:=B w;simp;omega
   ·have:=B w;simp;omega
 |dot d g i e=>intro p m n b;cases b;have:=A i (by omega);simp;omega
 |esc d g i e=>
  intro p m n b;have:=A i (by omega);cases r:A9 s 0 (i+1)with
  |bad l=>rw[r]at b;cases b
  |ok y l=>rw[r]at b;cases b;have:=J0 r;simp;omega
 |no=>intro p m n b;cases b
 |lit d g i a=>intro p m n b;cases b;have:=A i (by omega);simp;omega
structure Nd where
 kind : Nat
 f : Nat -> Bool
 n : Nat
 mn : Nat
 mx : Int
 kids : List Nat
variable{nds:List Nd}{nd:Nd}
def Cz(nds:List Nd)(kind:Nat)(l:List Nat)(c:Nat):Prop:=l=[c]∨(l.length≠1∧∃nd,nds[c]? =some nd∧nd.kind=kind∧nd.kids=l)
def rep(nds:List Nd):AD->List Nat->Prop
 | .set f,l=>∃k nd,l=[k]∧nds[k]? =some nd∧nd.kind=98∧nd.kids=[]∧∀n,n<256->nd.f n=f n
 | .grp j x,l=>∃k nd c lw,l=[k]∧nds[k]? =some nd∧nd.kind=103∧nd.n=j∧nd.kids=[c]∧rep nds x lw∧Cz nds 111 lw c
 | .rep mn mx x,l=>∃k nd c,l=[k]∧nds[k]? =some nd∧nd.kind=114∧nd.mn=mn∧nd.mx=mx∧nd.kids=[c]∧rep nds x [c]
 | .pnil,l=>l=[]
 | .pcons x r,l=>∃k l',l=k::l'∧rep nds x [k]∧rep nds r l'
 | .wone x,l=>∃c lp,l=[c]∧rep nds x lp∧Cz nds 119 lp c
 | .wcons x r,l=>∃c lp l',l=c::l'∧(rep nds x lp∧Cz nds 119 lp c)∧rep nds r l'
theorem KA{ext:List Nd}{k:Nat}(h:nds[k]? =some nd):(nds++ext)[k]? =some nd:=by
 obtain⟨a,e⟩:=BT.1 h;rw[Db a];exact h
theorem Cz.app{kind:Nat}{l:List Nat}{c:Nat}(h:Cz nds kind l c)(ext:List Nd):Cz (nds++ext) kind l c:=by
 rcases h with h|⟨h,nd,e,r⟩
 ·exact AH h
 ·exact AE ⟨h,nd,KA e,r⟩
theorem JB(ext:List Nd):∀{x:AD}{l:List Nat},rep nds x l->rep (nds++ext) x l:=by
 intro x
 induction x with
 |set f=>rintro l⟨k,nd,rfl,e,r⟩;exact⟨k,nd,rfl,KA e,r⟩
 |grp j x ih=>rintro l⟨k,nd,c,lw,rfl,e,a,b,d,r,t⟩;exact⟨k,nd,c,lw,rfl,KA e,a,b,d,ih r,t.app ext⟩
 |rep mn mx x ih=>rintro l⟨k,nd,c,rfl,e,a,b,d,r,t⟩;exact⟨k,nd,c,rfl,KA e,a,b,d,r,ih t⟩
 |pnil=>rintro l h;exact h
 |pcons x r g i=>rintro l⟨k,l',rfl,a,b⟩;exact⟨k,l',rfl,g a,i b⟩
 |wone x ih=>rintro l⟨c,lp,rfl,a,b⟩;exact⟨c,lp,rfl,ih a,b.app ext⟩
 |wcons x r g i=>rintro l⟨c,lp,l',rfl,⟨a,b⟩,d⟩;exact⟨c,lp,l',rfl,⟨g a,b.app ext⟩,i d⟩
def DK(w:World)(av:List Nat)(kv:Value)(kids:List Nat):Prop:=
 w.ownsRow 0 3 1 kv kids.length (kids.map fun(k:Nat)=>Value.int .i64 (k:Int))∧∀g,kv.ownBlock=some g->g∉av
def JC(w:World)(av:List Nat)(b:Value)(nd:Nd):Prop:=
 (∃a n c,b=.slice a n c)∧(nd.kind=98->∃h,b=.slice (some ⟨h,0,none⟩) 256 256∧HB w h nd.f∧h∉av)
def FI(w:World)(av:List Nat)(nd:Nd)(cs:List Value):Prop:=
 ∃a kv,cs=[.int .u8 nd.kind,a,.int .i64 nd.n,.int .i64 nd.mn,.int .i64 nd.mx,kv]∧JC w av a nd∧DK w av kv nd.kids
def JD(b:Nat)(v:Value):List Nat:=b::v.ownBlock.toList
def Bf(b:Nat)(A:List Nat)(v:Value):List Nat:=b::(v.ownBlock.toList++A)
def Bg(w:World)(b:Nat)(A:List Nat)(v:Value)(nds:List Nd):Prop:=
 ∃a:List (List Value),a.length=nds.length∧w.ownsRow 0 157 6 v nds.length a.flatten∧v.ownBlock≠some b∧(∀g,v.ownBlock=some g->g∉A)∧
  ∀(k:Nat)(nd:Nd),nds[k]? =some nd->∃cs,a[k]? =some cs∧FI w (Bf b A v) nd cs
theorem DK.step{av:List Nat}{kv:Value}{kids:List Nat}(h:DK w av kv kids)(c:AA S w w')(d:∀x,x<w.heap.size->x∈S->x∈av)(e:∀x,x<w.heap.size->x∈av'->x∈av):DK w' av' kv kids:=
 ⟨h.1.keep c fun g a b=>h.2 g a (d g (h.1.lt g a).2 b),fun g a b=>h.2 g a (e g (h.1.lt g a).2 b)⟩
theorem JC.step{av:List Nat}{b:Value}(h:JC w av b nd)(d:AA S w w')(f:∀x,x<w.heap.size->x∈S->x∈av)(g:∀x,x<w.heap.size->x∈av'->x∈av):JC w' av' b nd:=by
 refine⟨h.1,fun e=>?_⟩;obtain⟨x,rfl,H,c⟩:=h.2 e;exact⟨x,rfl,H.keep d fun a=>c (f x H.lt a),fun a=>c (g x H.lt a)⟩
theorem FI.step{av:List Nat}{cs:List Value}(h:FI w av nd cs)(a:AA S w w')(b:∀x,x<w.heap.size->x∈S->x∈av)(c:∀x,x<w.heap.size->x∈av'->x∈av):FI w' av' nd cs:=by
 obtain⟨d,kv,e,f,g⟩:=h;exact⟨d,kv,e,f.step a b c,g.step a b c⟩
theorem Bg.keepA(h:Bg w b A v nds)(l:AA S w w')(m:∀x,x∈S->x=b∨x∈A∨w.heap.size<=x):Bg w' b A v nds:=by
 obtain⟨d,o,n,a,c,p⟩:=h;refine⟨d,o,n.keep l ?_,a,c,?_⟩
 ·intro g f i;rcases m g i with rfl|h|h
  ·exact a f
  ·exact c g f h
  ·have:=(n.lt g f).2;omega
 ·intro k nd j;obtain⟨cs,e,q⟩:=p k nd j;refine⟨cs,e,q.step l ?_ fun _ _ h=>h⟩;intro x r i;rcases m x i with rfl|h|h
  ·simp[Bf]
  ·simp[Bf,h]
  ·omega
theorem Bg.keep(h:Bg w b A v nds)(a:AA S w w')(c:∀x,x∈S->x=b∨w.heap.size<=x):Bg w' b A v nds:=
 h.keepA a fun x d=>(c x d).elim AH fun h=>AE (AE h)
theorem Bg.less{A':List Nat}(h:Bg w b A v nds)(i:∀x,x∈A'->x∈A∨w.heap.size<=x):Bg w b A' v nds:=by
 obtain⟨a,m,j,c,d,n⟩:=h;refine⟨a,m,j,c,?_,?_⟩
 ·intro g l hm;rcases i g hm with h|h
  ·exact d g l h
  ·have:=(j.lt g l).2;omega
 ·intro k nd f;obtain⟨cs,e,o⟩:=n k nd f;refine⟨cs,e,o.step (AG [] w) (by simp) ?_⟩;intro x p hm;simp only[Bf,Az,Bb,Ay]at hm⊢;rcases hm with h|h|h
  ·exact AH h
  ·exact AE (AH h)
  ·rcases i x h with h|h
   ·exact AE (AE h)
   ·omega
def Bq(b:Nat)(v a:Value)(w w':World):Prop:=AA (JD b v) w w'∧(a.ownBlock=v.ownBlock∨∃g,a.ownBlock=some g∧w.heap.size<=g)
theorem Bq.refl(b:Nat)(v:Value)(w:World):Bq b v v w w:=⟨AG _ _,AH rfl⟩
theorem Bq.trans{j c:Value}{d:World}(h:Bq b v j w w')(o:Bq b j c w' d):Bq b v c w d:=by
 obtain⟨a,l⟩:=h;obtain⟨f,p⟩:=o;refine⟨⟨f.os.trans a.os,f.tape.trans a.tape,f.output.trans a.output,BG a.size f.size,?_⟩,?_⟩
 ·intro k m i;refine(f.block k (BL m a.size) ?_).trans (a.block k m i);simp only[JD,Az,Ay]at i⊢;rintro(h|h)
  ·exact i (AH h)
  ·rcases l with e|⟨g,e,n⟩
   ·rw[e]at h;exact i (AE h)
   ·rw[e]at h;cases h;omega
 ·rcases p with e|⟨g,e,n⟩
  ·rw[e];exact l
  ·exact AE ⟨g,e,BG a.size n⟩
theorem Bq.of(h:AA S w w')(a:∀x,x∈S->x=b∨w.heap.size<=x):Bq b v v w w':=by
 refine⟨⟨h.os,h.tape,h.output,h.size,fun k c d=>h.block k c fun e=>?_⟩,AH rfl⟩;rcases a k e with rfl|f
 ·exact d (by simp[JD])
 ·omega
theorem KB(b:Nat)(A:List Nat)(p:PS)(w:World)(J:∀x,x∈A->x<w.heap.size)(nds:List Nd)(nd:Nd)(cs:List Value)(E:PB w b p)(hi:Bg w b A p.nodes nds)(q:FI w (Bf b A p.nodes) nd cs)(K:nds.length<=1000):Calls Tryz.prog 136 #[.pointer (some ⟨b,0,none⟩),.agg cs.toArray] w fun e w'=>∃r,e=.returned (.int .i64 nds.length)∧PB w' b {p with nodes:=r}∧Bg w' b A r (nds++[nd])∧Bq b p.nodes r w w':=by
 obtain⟨i,F,L,j,s,t⟩:=hi;obtain⟨m,kv,rfl,G,H⟩:=q;have u:kv.oneCell'=true:=by
  rcases H.1.2 with⟨rfl,_⟩|⟨g,cap,cur,rfl,_⟩<;>rfl
 refine(RM b p w nds.length i.flatten nd.kind nd.n nd.mn nd.mx m kv (by obtain⟨a,n,c,e⟩:=G.1;rw[e];rfl) u E L j K).mono ?_;rintro e w'⟨g,cap,rfl,v,y,o,z⟩;refine⟨_,rfl,v,⟨i++[[.int .u8 nd.kind,m,.int .i64 nd.n,.int .i64 nd.mn,.int .i64 nd.mx,kv]],by simp[F],?_,?_,?_,?_⟩,?_⟩
 ·simpa using y
 ·intro e;have B:g=b:=by simpa[Value.ownBlock]using e
  subst B;rcases o with h|h
  ·exact j h
  ·have:=E.lt;omega
 ·intro g' C hm;have B:g=g':=by simpa[Value.ownBlock]using C
  subst B;rcases o with h|h
  ·exact s _ h hm
  ·have:=J _ hm;omega
 ·have I:∀x,x<w.heap.size->x∈Bf b A (.slice (some ⟨g,0,none⟩) (nds.length+1) cap)->x∈Bf b A p.nodes:=by
   intro x M hm;simp only[Bf,Value.ownBlock,Option.toList_some,Az,Bb,List.not_mem_nil,or_false,Ay]at hm⊢;rcases hm with h|h|h
   ·exact AH h
   ·subst h;rcases o with h|h
    ·exact AE (AH h)
    ·omega
   ·exact AE (AE h)
  have f:∀x,x<w.heap.size->x∈b::p.nodes.ownBlock.toList->x∈Bf b A p.nodes:=by
   intro x _ hm;simp only[Bf,Az,Bb]at hm⊢;rcases hm with h|h
   ·exact AH h
   ·exact AE (AH h)
  intro k l d;by_cases hlt:k<nds.length
  ·rw[Db hlt]at d;obtain⟨cs,e,q⟩:=t k l d;exact⟨cs,by rw[Db (by omega)];exact e,q.step z f I⟩
  ·have D:k=nds.length:=by
    have:=(BT.1 d).1;simp at this;omega
   subst D;have e:nd=l:=by simpa using d
   subst e;refine⟨[.int .u8 nd.kind,m,.int .i64 nd.n,.int .i64 nd.mn,.int .i64 nd.mx,kv],by rw[<-F];simp,?_⟩;exact FI.step ⟨m,kv,rfl,G,H⟩ z f I
 ·refine⟨z,?_⟩;rcases o with h|h
  ·exact AH (by rw[h];rfl)
  ·exact AE ⟨g,rfl,h⟩
def Br{α:Type}(s:ByteArray):R α->Nat
 | .ok _ j=>j
 | .bad _=>s.size
def D4(p:PS)(q:R (AD×Nat))(p':PS):Prop:=
 p'.s=p.s∧p'.root=p.root∧p'.bg=p.bg∧p'.en=p.en∧p'.deep=p.deep∧
 match q with
 | .ok (_,g1) j=>p'.ix=j∧p'.gr=g1∧p'.bad=p.bad
 | .bad j=>p'.bad=(j:Int)
def C1(nds:List Nd):Kd->AD->Nat->Prop
 | .single,x,k=>rep nds x [k]
 | .piece,x,k=>rep nds x [k]
 | .way,x,k=>∃lp,rep nds x lp∧Cz nds 119 lp k
 | .ways,x,k=>∃lw,rep nds x lw∧Cz nds 111 lw k
def CU:Kd->Nat
 | .single=>1
 |_=>0
def B8:Kd->Nat
 | .way=>1
 | .ways=>2
 |_=>0
structure Fj (b : Nat) (A : List Nat) (p : PS) (w : World) (nds : List Nd) : Prop where
 pb : PB w b p
 inv : Bg w b A p.nodes nds
 avl : ∀ x, x ∈ A -> x < w.heap.size
 good : p.bad < 0
 sz : p.s.size <= 60
 ix : p.ix <= p.s.size
 room : nds.length + 4 * (p.s.size - p.ix) + 2 <= 1000
 gr : p.gr <= 9
 deep : p.deep <= 6
def D5(kd:Kd)(b:Nat)(A:List Nat)(p:PS)(w:World)(nds:List Nd)(e:Ending)(w':World):Prop:=
 ∃(q:R (AD×Nat))(k:Nat)(p':PS)(ext:List Nd),e=.returned (.int .i64 k)∧G p.s kd p.deep p.gr p.ix q∧D4 p q p'∧PB w' b p'∧Bg w' b A p'.nodes (nds++ext)∧
  ext.length+CU kd<=4*(Br p.s q-p.ix)+B8 kd∧(∀x g j,q=.ok (x,g) j->C1 (nds++ext) kd x k)∧Bq b p.nodes p'.nodes w w'
theorem PB.gd(h:PB w b p):w.cell? ⟨b,5,none⟩=some (.int .i64 p.gr)∧w.cell? ⟨b,8,none⟩=some (.int .i64 p.deep)∧w.frozen? ⟨b,5,none⟩=false∧w.frozen? ⟨b,8,none⟩=false:=by
 unfold PB at h;simp[World.cell?,World.frozen?,h,PS.cells]
theorem PB.setGr(h:PB w b p)(x:Nat):PB (w.setCell ⟨b,5,none⟩ (.int .i64 x)) b {p with gr:=x}:=by
 unfold PB at*;simp[World.setCell,Aq,h,PS.cells]
theorem PB.setDeep(h:PB w b p)(x:Nat):PB (w.setCell ⟨b,8,none⟩ (.int .i64 x)) b {p with deep:=x}:=by
 unfold PB at*;simp[World.setCell,Aq,h,PS.cells]
theorem AA.setB{a:World}(h:AA [b] a w)(o:Nat)(u:Value):AA [b] a (w.setCell ⟨b,o,none⟩ u):=h.setCell (by simp) u
theorem CM:∀x,x∈[b]->x=b∨w.heap.size<=x:=by simp
theorem EL:∀x,x∈([]:List Nat)->x=b∨w.heap.size<=x:=by simp
theorem M9(k:Nat)(av:List Nat)(a:∀x,x∈av->x<w.heap.size):DK (w.alloc (.cells #[.int .i64 (k:Int)] 3)) av (.slice (some ⟨w.heap.size,0,none⟩) 1 1) [k]:=by
 refine⟨⟨rfl,AE ⟨w.heap.size,1,#[.int .i64 (k:Int)],rfl,AY _,AS w _,AP _,by unfold maxLen;omega,rfl,rfl⟩⟩,?_⟩;intro g b hm;have:g=w.heap.size:=by simpa[Value.ownBlock]using b.symm
 have:=a g hm;omega
theorem kids_nil(w:World)(av:List Nat):DK w av (.slice none 0 0) []:=⟨FH _ _ _ _,by simp[Value.ownBlock]⟩
theorem Bg.av(h:Bg w b A v nds)(hb:b<w.heap.size)(c:∀x,x∈A->x<w.heap.size):∀x,x∈Bf b A v->x<w.heap.size:=by
 obtain⟨d,i,e,f,g,j⟩:=h;intro x a;simp only[Bf,Az,Bb,Ay]at a;rcases a with rfl|h|h
 ·exact hb
 ·exact(e.lt x h).2
 ·exact c x h
theorem KC(p:PS)(c:Int):(p.needed c).deep=p.deep:=by unfold PS.needed PS.failed;split<;>(try split)<;>rfl
theorem JE(p:PS)(c:Int):(p.needed c).nodes=p.nodes:=by unfold PS.needed PS.failed;split<;>(try split)<;>rfl
theorem IA(p:PS)(c:Int):(p.needed c).root=p.root:=by unfold PS.needed PS.failed;split<;>(try split)<;>rfl
theorem IB(p:PS)(c:Int):(p.needed c).bg=p.bg:=by unfold PS.needed PS.failed;split<;>(try split)<;>rfl
theorem IE(p:PS)(c:Int):(p.needed c).en=p.en:=by unfold PS.needed PS.failed;split<;>(try split)<;>rfl
theorem K2(p:PS)(c:Int):(p.needed c).gr=p.gr:=by unfold PS.needed PS.failed;split<;>(try split)<;>rfl
theorem IF{s:ByteArray}{k:Kd}{d g i:Nat}{q:R (AD×Nat)}(h:G s k d g i q)(hi:i<=s.size):Br s q<=s.size:=by
 cases q with
 |bad j=>exact AP _
 |ok x j=>exact(h.okb x.1 x.2 j rfl).2.1 hi
theorem RN(nds:List Nd)(nd:Nd):(nds++[nd])[nds.length]? =some nd:=by simp
theorem K3(nds ext:List Nd)(nd:Nd):(nds++ext++[nd])[nds.length+ext.length]? =some nd:=by rw[<-AW];simp
def IG(n:Nat):Prop:=∀(b:Nat)(A:List Nat)(p:PS)(w:World)(nds:List Nd),Fj b A p w nds->p.s.size-p.ix<n->
 Calls Tryz.prog 82 #[.pointer (some ⟨b,0,none⟩)] w (D5 .ways b A p w nds)
theorem RP(n:Nat)(IH:IG n)(b:Nat)(A:List Nat)(p:PS)(w:World)(nds:List Nd)(h:Fj b A p w nds)(hc:at' p.s p.ix=40)(hn:p.s.size-p.ix<=n):Calls Tryz.prog 261 #[.pointer (some ⟨b,0,none⟩)] w (D5 .single b A p w nds):=by
 obtain⟨N,hinv,C,hb,hs,aj,ab,ak,al⟩:=h;have hlt:=Ap (s:=p.s) (i:=p.ix) (by omega);obtain⟨c0,h6,h7,f6,f7⟩:=N.main;obtain⟨h5,h8,f5,f8⟩:=N.gd;by_cases g:p.deep=6∨p.gr=9
 ·have HG:Hid (G p.s .single p.deep p.gr p.ix (.bad p.ix)):=.deep _ _ _ hc g;have D:∀w',w'=w.setCell ⟨b,6,none⟩ (.int .i64 p.ix)->D5 .single b A p w nds (.returned (.int .i64 0)) w':=by
   rintro w' rfl;refine⟨.bad p.ix,0,{p with bad:=(p.ix:Int)},[],rfl,HG.o,⟨rfl,rfl,rfl,rfl,rfl,rfl⟩,N.setBad _,?_,?_,by simp,Bq.of ((AG [b] w).setB 6 _) CM⟩
   ·rw[CT];exact hinv.keep ((AG [b] w).setB 6 _) CM
   ·simp[Br,CU,B8];omega
  have Q:Hid (∀w',w'=w.setCell ⟨b,6,none⟩ (.int .i64 p.ix)->D5 .single b A p w nds (.returned (.int .i64 0)) w'):=D;clear D HG hc;by_cases hd:p.deep=6
  ·have R:((p.deep:Int)==6)=true:=by simpa using(by omega:(p.deep:Int)=6)
   clear hd g;go_enter Tryz.func261,Tryz.ntmps261;go_wp2_with(first|(go_at_call 84;refine(CI b p _ N hb).mono ?_;rintro e w'⟨rfl,rfl⟩));go_ret;exact Q.out _ rfl
  ·have R:((p.deep:Int)==6)=false:=by simpa using(by omega:¬(p.deep:Int)=6)
   have ac:((p.gr:Int)==9)=true:=by simpa using(by omega:(p.gr:Int)=9)
   clear hd g;go_enter Tryz.func261,Tryz.ntmps261;go_wp2_with(first|(go_at_call 84;refine(CI b p _ N hb).mono ?_;rintro e w'⟨rfl,rfl⟩));go_ret;exact Q.out _ rfl
 ·have R:((p.deep:Int)==6)=false:=by simpa using(by omega:¬(p.deep:Int)=6)
  have ac:((p.gr:Int)==9)=false:=by simpa using(by omega:¬(p.gr:Int)=9)
  have S:=((N.setIx (p.ix+1)).setDeep (p.deep+1)).setGr (p.gr+1);have F:=(((AG [b] w).setB 7 (.int .i64 ((p.ix+1:Nat):Int))).setB 8 (.int .i64 ((p.deep+1:Nat):Int))).setB 5 (.int .i64 ((p.gr+1:Nat):Int));have l:=hinv.keep F CM;have T:=Bq.of (v:=p.nodes) F CM;have ad:(0:Int)<=(p.ix:Int)∧(p.ix:Int)<=60∧(0:Int)<=(p.gr:Int)∧(p.gr:Int)<=9∧(0:Int)<=(p.deep:Int)∧(p.deep:Int)<=6:=by omega
  obtain⟨b1,b2,b3,b4,b5,b6⟩:=ad;have U:=IH b A {p with ix:=p.ix+1,deep:=p.deep+1,gr:=p.gr+1} _ nds ⟨S,l,by simpa using C,hb,hs,hlt,by simp;omega,by simp;omega,by simp;omega⟩ (by simp;omega);have HO:Hid (¬(p.deep=6∨p.gr=9)):=g;have HC:Hid (at' p.s p.ix=40):=hc;clear g hc IH;go_enter Tryz.func261,Tryz.ntmps261;go_wp2_with(first|(go_at_call 82;refine U.mono ?_;rintro e w1⟨q,k,p2,ext,rfl,O,hA,V,m,r,X,t⟩));obtain⟨P,a2,a3,a4,a5,a6⟩:=hA;have ae:p2.s.size<=60:=by rw[P];exact hs
  refine(Fe b p2 41 _ V (by omega) ae).mono ?_;rintro e w2⟨rfl,H,hk3⟩;have af:(p2.needed 41).deep=p.deep+1:=by rw[KC,a5]
  obtain⟨_,x8,_,y8⟩:=H.gd;have z8:w2.cell? ⟨b,8,none⟩=some (.int .i64 ((p.deep:Int)+1)):=by rw[x8,af];rfl
  clear x8;have u:Bg w2 b A (p2.needed 41).nodes (nds++ext):=by rw[JE];exact m.keep hk3 CM
  have I:=H.setDeep p.deep;have hk4:=(AG [b] w2).setB 8 (.int .i64 (p.deep:Int));have d:=u.keep hk4 CM;have J:=(T.trans t).trans ((Bq.of (v:=p2.nodes) hk3 CM).trans (Bq.of (v:=p2.nodes) hk4 CM));clear S F l T U V m t hk3 H u hk4;go_wp2_with fail;generalize hW:w2.setCell ⟨b,8,none⟩ (.int .i64 (p.deep:Int))=W at*;have ag:W.heap.size=w2.heap.size:=by rw[<-hW];simp
  have E:∀x,x∈A->x<W.heap.size:=by
   intro x hx;have:=C x hx;have:=J.1.size;omega
  have y:=(AG [] W).alloc (.cells #[.int .i64 (k:Int)] 3);have Y:=I.keep y (by simp);have z:=d.keep y EL;have K:FI (W.alloc (.cells #[.int .i64 (k:Int)] 3)) (Bf b A (p2.needed 41).nodes) {kind:=103,f:=fun _=>false,n:=p.gr+1,mn:=0,mx:=0,kids:=[k]} [.int .u8 103,.slice none 0 0,.int .i64 ((p.gr+1:Nat):Int),.int .i64 0,.int .i64 0,.slice (some ⟨W.heap.size,0,none⟩) 1 1]:=
   ⟨.slice none 0 0,_,rfl,⟨⟨_,_,_,rfl⟩,by simp⟩,M9 k _ (d.av I.lt E)⟩
  rw[ag]at K;have hlen:(nds++ext).length<=1000:=by
   have:=IF O (show p.ix+1<=p.s.size from hlt);simp only[CU,B8]at r;simp only[AW];omega
  refine(KB b A {p2.needed 41 with deep:=p.deep} _ (fun x hx=>BL (E x hx) y.size) (nds++ext) _ _ Y z K hlen).mono ?_;rintro e w5⟨v',rfl,L,a,Z⟩;have aa:=J.trans ((Bq.of (v:=p2.nodes) y EL));have M:=aa.trans (show Bq b p2.nodes v' _ w5 by rw[<-JE p2 41];exact Z);clear Y z K Z y J aa I d;go_wp2_with fail;go_ret;have hle:=IF O (show p.ix+1<=p.s.size from hlt);rw[CS]at a;simp only[CU,B8]at r;cases q with
  |bad j=>
   have hj:(p2.needed 41).bad=(j:Int):=by
    have:p2.cur=-1:=by unfold PS.cur;rw[AK (by rw[a6];omega)]
    unfold PS.needed PS.failed;rw[AK (by omega),AK (by rw[a6];omega),a6]
   refine⟨.bad j,_,{p2.needed 41 with nodes:=v',deep:=p.deep},ext++[{kind:=103,f:=fun _=>false,n:=p.gr+1,mn:=0,mx:=0,kids:=[k]}],rfl,.gbad _ _ _ _ HC.o HO.o O,⟨?_,?_,?_,?_,rfl,hj⟩,L,a,?_,by simp,M⟩
   ·exact(Gv p2 41).trans P
   ·exact(IA p2 41).trans a2
   ·exact(IB p2 41).trans a3
   ·exact(IE p2 41).trans a4
   ·simp only[Br,CU,B8,AW,CK]at r⊢;omega
  |ok xg j=>
   obtain⟨x,g1⟩:=xg;obtain⟨e1,e2,e3⟩:=a6;have am:=O.okb x g1 j rfl;by_cases B:at' p.s j=41
   ·have c:p2.cur=41:=by unfold PS.cur;rw[e3,AL hb,P,e1];exact B
    refine⟨.ok (.grp (p.gr+1) x,g1) (j+1),_,{p2.needed 41 with nodes:=v',deep:=p.deep},ext++[{kind:=103,f:=fun _=>false,n:=p.gr+1,mn:=0,mx:=0,kids:=[k]}],rfl,.grp _ _ _ _ _ _ HC.o HO.o O B,⟨?_,?_,?_,?_,rfl,?_,?_,?_⟩,L,a,?_,?_,M⟩
    ·exact(Gv p2 41).trans P
    ·exact(IA p2 41).trans a2
    ·exact(IB p2 41).trans a3
    ·exact(IE p2 41).trans a4
    ·simp[PS.needed,c,e1]
    ·simp[PS.needed,c,e2]
    ·simp[PS.needed,c,e3]
    ·simp only[Br,CU,B8,AW,CK]at r⊢;omega
    ·intro x' g' j' e';cases e';obtain⟨lw,ah,ai⟩:=X x g1 j rfl;rw[<-CS];exact⟨_,{kind:=103,f:=fun _=>false,n:=p.gr+1,mn:=0,mx:=0,kids:=[k]},k,lw,rfl,K3 _ _ _,rfl,rfl,rfl,JB _ ah,ai.app _⟩
   ·have c:¬p2.cur=41:=by unfold PS.cur;rw[e3,AL hb,P,e1];exact B
    have hj:(p2.needed 41).bad=(j:Int):=by
     unfold PS.needed PS.failed;rw[AK c,AL (by rw[e3];exact hb)];show(p2.ix:Int)=j;rw[e1]
    refine⟨.bad j,_,{p2.needed 41 with nodes:=v',deep:=p.deep},ext++[{kind:=103,f:=fun _=>false,n:=p.gr+1,mn:=0,mx:=0,kids:=[k]}],rfl,.gopen _ _ _ _ _ _ HC.o HO.o O B,⟨?_,?_,?_,?_,rfl,hj⟩,L,a,?_,by simp,M⟩
    ·exact(Gv p2 41).trans P
    ·exact(IA p2 41).trans a2
    ·exact(IB p2 41).trans a3
    ·exact(IE p2 41).trans a4
    ·simp only[Br,CU,B8,AW,CK]at r⊢;omega
theorem RQ(w:World):(Instr.makeSlice 98 (.int .i64 256) (.int .i64 256)).run Tryz.prog w=.ok (.slice (some ⟨w.heap.size,0,none⟩) 256 256) (w.alloc (.cells (AZ fun _=>false) 4)):=by kernel_rfl
def NV(w:World)(nb h:Nat):Prop:=w.heap[nb]? =some (.cells #[.int .u8 98,.slice (some ⟨h,0,none⟩) 256 256,.int .i64 0,.int .i64 0,.int .i64 0,.slice none 0 0] 157 (0,0))
theorem NV.lt(H:NV w nb h):nb<w.heap.size:=(AN.1 H).1
theorem NV.keep(H:NV w nb h)(a:AA S w w')(hb:nb∉S):NV w' nb h:=(a.block nb H.lt hb).trans H
theorem NV.cells(H:NV w nb h):w.cell? ⟨nb,0,none⟩=some (.int .u8 98)∧w.cell? ⟨nb,1,none⟩=some (.slice (some ⟨h,0,none⟩) 256 256)∧w.cell? ⟨nb,2,none⟩=some (.int .i64 0)∧w.cell? ⟨nb,3,none⟩=some (.int .i64 0)∧w.cell? ⟨nb,4,none⟩=some (.int .i64 0)∧w.cell? ⟨nb,5,none⟩=some (.slice none 0 0):=by
 unfold NV at H;simp[World.cell?,H]
structure CV (b : Nat) (A : List Nat) (p : PS) (nds : List Nd) (w0 : World) (h nb : Nat) (p9 : PS) (F : Nat -> Bool) (w9 : World) : Prop where
 pb : PB w9 b p9
 hb : HB w9 h F
 nv : NV w9 nb h
 nodes : p9.nodes = p.nodes
 fresh : w0.heap.size <= h ∧ w0.heap.size <= nb ∧ h ≠ nb
 kb : AA [b] w0 w9
 old : Bg w0 b A p.nodes nds
 avl : ∀ x, x ∈ A -> x < w0.heap.size
 bl : b < w0.heap.size
theorem CV.inv{F:Nat->Bool}(S:CV b A p nds w0 h nb p9 F w9):Bg w9 b A p9.nodes nds:=by rw[S.nodes];exact S.old.keep S.kb CM
theorem CV.grow{F:Nat->Bool}(S:CV b A p nds w0 h nb p9 F w9):Bq b p.nodes p.nodes w0 w9:=Bq.of S.kb CM
theorem CV.drewN{F:Nat->Bool}(S:CV b A p nds w0 h nb p9 F w9)(n:Nat):CV b A p nds w0 h nb p9 F (w9.drewN n):=
 ⟨S.pb,S.hb,S.nv,S.nodes,S.fresh,S.kb.drewN n,S.old,S.avl,S.bl⟩
theorem CV.set{c:PS}{F g:Nat->Bool}{a:World}(S:CV b A p nds w0 h nb p9 F w9)(i:PB a b c)(j:HB a h g)(d:AA [b,h] w9 a)(l:c.nodes=p9.nodes):CV b A p nds w0 h nb c g a:=by
 have m:nb∉[b,h]:=by have:=S.fresh.2.1;have:=S.fresh.2.2;have:=S.bl;simp;omega
 refine⟨i,j,S.nv.keep d m,l.trans S.nodes,S.fresh,⟨d.os.trans S.kb.os,d.tape.trans S.kb.tape,d.output.trans S.kb.output,BG S.kb.size d.size,?_⟩,S.old,S.avl,S.bl⟩;intro k e f;refine(d.block k (BL e S.kb.size) ?_).trans (S.kb.block k e f);have:=S.fresh.1;simp at f⊢;omega
theorem CV.ix{F:Nat->Bool}(S:CV b A p nds w0 h nb p9 F w9)(x:Nat):CV b A p nds w0 h nb {p9 with ix:=x} F (w9.setCell ⟨b,7,none⟩ (.int .i64 x)):=by
 have a:¬b=h:=by have:=S.fresh.1;have:=S.bl;omega
 exact S.set (S.pb.setIx x) (S.hb.setOther a _) ((AG _ _).setCell (by simp) _) rfl
theorem CV.bad{F:Nat->Bool}(S:CV b A p nds w0 h nb p9 F w9)(x:Int):CV b A p nds w0 h nb {p9 with bad:=x} F (w9.setCell ⟨b,6,none⟩ (.int .i64 x)):=by
 have a:¬b=h:=by have:=S.fresh.1;have:=S.bl;omega
 exact S.set (S.pb.setBad x) (S.hb.setOther a _) ((AG _ _).setCell (by simp) _) rfl
theorem CV.put{F:Nat->Bool}(S:CV b A p nds w0 h nb p9 F w9)(k:Nat):CV b A p nds w0 h nb p9 (fun n=>if n=k then true else F n) (w9.setCell ⟨h,k,none⟩ (.bool true)):=by
 have a:¬h=b:=by have:=S.fresh.1;have:=S.bl;omega
 exact S.set (S.pb.setOther a _) (S.hb.set k true) ((AG _ _).setCell (by simp) _) rfl
theorem JF{F:Nat->Bool}(S:CV b A p nds w0 h nb p9 F w9)(u:nds.length<=1000)(q:R (AD×Nat))(c:G p.s .single p.deep p.gr p.ix q)(v:D4 p q p9)(w:∀x g j,q=.ok (x,g) j->∃f,x=.set f∧∀n,n<256->F n=f n)(d:p.ix<p.s.size):Calls Tryz.prog 136 #[.pointer (some ⟨b,0,none⟩),.agg #[.int .u8 98,.slice (some ⟨h,0,none⟩) 256 256,.int .i64 0,.int .i64 0,.int .i64 0,.slice none 0 0]] w9 (D5 .single b A p w0 nds):=by
 have i:h∉Bf b A p9.nodes:=by
  intro hm;rw[S.nodes]at hm;have:=S.old.av S.bl S.avl h hm;have:=S.fresh.1;omega
 have k:FI w9 (Bf b A p9.nodes) {kind:=98,f:=F,n:=0,mn:=0,mx:=0,kids:=[]} [.int .u8 98,.slice (some ⟨h,0,none⟩) 256 256,.int .i64 0,.int .i64 0,.int .i64 0,.slice none 0 0]:=
  ⟨_,_,rfl,⟨⟨_,_,_,rfl⟩,fun _=>⟨h,rfl,S.hb,i⟩⟩,kids_nil _ _⟩
 refine(KB b A p9 w9 (fun x y=>BL (S.avl x y) S.kb.size) nds _ _ S.pb S.inv k u).mono ?_;rintro e w'⟨r,rfl,l,a,m⟩;have o:Bq b p.nodes r w0 w':=S.grow.trans (by rw[<-S.nodes];exact m);obtain⟨z,a2,a3,a4,a5,t⟩:=v;have hle:=IF c (Dp d);refine⟨q,nds.length,{p9 with nodes:=r},[{kind:=98,f:=F,n:=0,mn:=0,mx:=0,kids:=[]}],rfl,c,⟨z,a2,a3,a4,a5,?_⟩,l,a,?_,?_,o⟩
 ·cases q with
  |ok x j=>exact t
  |bad j=>exact t
 ·cases q with
  |ok x j=>
   have:=(c.okb x.1 x.2 j rfl).2.2.1 (AE rfl);simp only[Br,CU,B8,CK];omega
  |bad j=>simp only[Br,CU,B8,CK];omega
 ·intro x g j e;obtain⟨f,rfl,B⟩:=w x g j e;exact⟨nds.length,_,rfl,RN _ _,rfl,rfl,B⟩
theorem RT(p:PS)(q:R (Nat->Bool)):D4 p (q.map fun f=>(AD.set f,p.gr)) (({p with ix:=p.ix+1}:PS).after q):=by
 cases q<;>exact⟨rfl,rfl,rfl,rfl,rfl,by first|exact⟨rfl,rfl,rfl⟩|rfl⟩
theorem RU{q:R (Nat->Bool)}{f':Nat->Bool}{g0:Nat}(a:∀f j,q=.ok f j->∀n,n<256->f' n=f n):∀x g j,(q.map fun f=>(AD.set f,g0))=.ok (x,g) j->∃f,x=.set f∧∀n,n<256->f' n=f n:=by
 intro x g j e;cases q with
 |ok f b=>cases e;exact⟨f,rfl,a f j rfl⟩
 |bad b=>cases e
theorem NA(n A:Nat):(if n=A then true else(fun _:Nat=>false) n)=A0 (A:Int) (A:Int) n:=by
 unfold A0;by_cases e:n=A
 ·subst e;simp
 ·have:¬((A:Int)<=(n:Int)∧(n:Int)<=(A:Int)):=by omega
  by_cases a:(A:Int)<=(n:Int)
  ·have b:¬(n:Int)<=(A:Int):=by omega
   simp[e,b]
  ·simp[e,a]
theorem RV(p:PS)(q:R Int):D4 p (q.map fun a=>(AD.set (A0 a a),p.gr)) (p.after q):=by
 cases q<;>exact⟨rfl,rfl,rfl,rfl,rfl,by first|exact⟨rfl,rfl,rfl⟩|rfl⟩
theorem RW{q:R Int}{A g0:Nat}(b:∀a j,q=.ok a j->(A:Int)=a):∀x g j,(q.map fun a=>(AD.set (A0 a a),g0))=.ok (x,g) j->∃f,x=.set f∧∀n,n<256->(if n=A then true else(fun _:Nat=>false) n)=f n:=by
 intro x g j e;cases q with
 |ok f c=>cases e;refine⟨_,rfl,fun n _=>?_⟩;rw[<-b f j rfl];exact NA n A
 |bad c=>cases e
theorem NF(c:Int):(hasB ⟨#[94,36,124,41,42,43,63,123]⟩ c (ByteArray.size ⟨#[94,36,124,41,42,43,63,123]⟩)=true)↔CR c:=by
 simp[hasB,ByteArray.size,CR];omega
theorem RX(n:Nat)(IH:IG n)(b:Nat)(A:List Nat)(p:PS)(w:World)(nds:List Nd)(h:Fj b A p w nds)(i:p.ix<p.s.size)(X:p.s.size-p.ix<=n):Calls Tryz.prog 225 #[.pointer (some ⟨b,0,none⟩)] w (D5 .single b A p w nds):=by
 obtain⟨hp,hinv,O,hb,Y,Z,K,aa,ab⟩:=h;have ac:=RQ;go_enter Tryz.func225,Tryz.ntmps225;go_wp2_with fail;have L:=((AG [] w).alloc (.cells (AZ fun _=>false) 4)).alloc (.cells #[.int .u8 98,.slice (some ⟨w.heap.size,0,none⟩) 256 256,.int .i64 0,.int .i64 0,.int .i64 0,.slice none 0 0] 157);have P:=hp.keep L (by simp);have Q:HB ((w.alloc (.cells (AZ fun _=>false) 4)).alloc (.cells #[.int .u8 98,.slice (some ⟨w.heap.size,0,none⟩) 256 256,.int .i64 0,.int .i64 0,.int .i64 0,.slice none 0 0] 157)) w.heap.size (fun _=>false):=HB.keep (w:=w.alloc (.cells (AZ fun _=>false) 4)) (AS w _) ((AG [] _).alloc (.cells #[.int .u8 98,.slice (some ⟨w.heap.size,0,none⟩) 256 256,.int .i64 0,.int .i64 0,.int .i64 0,.slice none 0 0] 157)) (by simp);have R:NV ((w.alloc (.cells (AZ fun _=>false) 4)).alloc (.cells #[.int .u8 98,.slice (some ⟨w.heap.size,0,none⟩) 256 256,.int .i64 0,.int .i64 0,.int .i64 0,.slice none 0 0] 157)) (w.heap.size+1) w.heap.size:=by
  unfold NV;rw[show w.heap.size+1=(w.alloc (.cells (AZ fun _=>false) 4)).heap.size from by simp];exact AS _ _
 have hbl:=hp.lt;have d:CV b A p nds w w.heap.size (w.heap.size+1) p (fun _=>false) _:=⟨P,Q,R,rfl,⟨AP _,by omega,by omega⟩,L.mono (by simp),hinv,O,hbl⟩;clear L P Q R ac;generalize((w.alloc (.cells (AZ fun _=>false) 4)).alloc (.cells #[.int .u8 98,.slice (some ⟨w.heap.size,0,none⟩) 256 256,.int .i64 0,.int .i64 0,.int .i64 0,.slice none 0 0] 157))=W at*;obtain⟨h,hh⟩:=AQ w.heap.size;rw[<-hh]at d⊢;have hlen:nds.length<=1000:=by omega
 have ec:=Bd i;have aC:(p.ix:Int)<(p.s.size:Int):=by omega
 have aD:(0:Int)<=(p.ix:Int):=by omega
 have aE:(p.ix:Int)<=60:=by omega
 have ad:=(p.s[p.ix]).toNat_lt;have S:(0:Int)<=(p.s[p.ix].toNat:Int):=by omega
 have ae:(p.s[p.ix].toNat:Int)<=255:=by omega
 clear ad;obtain⟨c0,h6,h7,f6,f7⟩:=d.pb.main;obtain⟨m0,m1,m2,m3,m4,m5⟩:=d.nv.cells;generalize af:(p.s[p.ix].toNat:Int)=c at*;have B:Hid (at' p.s p.ix=c):=ec;clear ec;have T:¬b=h:=by omega
 have aA:¬b=h+1:=by omega
 have aB:¬h=h+1:=by omega
 clear hh hbl;go_quiet (fail);clear af
 replace d:=d.drewN nq
 by_cases r:c=40
 ·have ag:(c==40)=true:=by simpa using r
  have M:Hid (at' p.s p.ix=40):=by show at' p.s p.ix=40;rw[B.o];exact r
  clear r;go_wp2_with(first|(go_at_call 261;refine(RP n IH b A p _ nds ⟨d.pb,d.inv,fun x hx=>BL (d.avl x hx) d.kb.size,hb,Y,Z,K,aa,ab⟩ M.o X).mono ?_;rintro e w'⟨C,k',p',ext,rfl,a1,a2,a3,a4,a5,a6,a7⟩));go_ret;exact⟨C,k',p',ext,rfl,a1,a2,a3,a4,a5,a6,d.grow.trans a7⟩
 ·have ag:(c==40)=false:=by simpa using r
  have ah:Hid (c≠40):=r;clear r;by_cases t:c=91
  ·have ai:(c==91)=true:=by simpa using t
   have M:Hid (at' p.s p.ix=91):=by show at' p.s p.ix=91;rw[B.o];exact t
   clear t;have J:=d.ix (p.ix+1);go_wp2_with(first|(go_at_call 262;refine(RH b h {p with ix:=p.ix+1} _ J.pb J.hb hb Y i T).mono ?_;rintro e w2⟨rfl,q,hq,F,⟨f',aj,ak⟩,D⟩;have H:=J.set F aj D (by cases q<;>rfl);obtain⟨m0,m1,m2,m3,m4,m5⟩:=H.nv.cells)|(go_at_call 136;refine(JF H hlen (q.map fun f=>(.set f,p.gr)) (.set _ _ _ _ M.o hq) (RT p q) (RU ak) i).mono ?_;rintro e w'⟨C,k',p',ext,rfl,rest⟩))
   skip
   go_ret;exact⟨C,k',p',ext,rfl,rest⟩
  ·have ai:(c==91)=false:=by simpa using t
   have al:Hid (c≠91):=t;clear t;by_cases y:c=46
   ·have am:(c==46)=true:=by simpa using y
    have M:Hid (at' p.s p.ix=46):=by show at' p.s p.ix=46;rw[B.o];exact y
    clear y;have J:=d.ix (p.ix+1);go_wp2_with fail;generalize U:(W.drewN nq).setCell ⟨b,7,none⟩ (.int .i64 ((p.ix:Int)+1))=W9 at*;have I:CV b A p nds w h (h+1) {p with ix:=p.ix+1} (fun _=>false) W9:=by rw[<-U];exact J
    clear J U;go_loopw [5] (fun u wr=>∃m:Nat,m<=256∧u=.int .i64 m∧CV b A p nds w h (h+1) {p with ix:=p.ix+1} (fun n=>decide (n<m)) wr) (fun u _=>256-(intOf u).toNat)
    case atStart=>exact⟨0,by omega,rfl,I.set I.pb (I.hb.congr (by simp)) (AG _ _) rfl⟩
    case round=>
     obtain⟨m,hm,rfl,E⟩:=hrel;clear I c0 h6 h7 f6 f7 m0 m1 m2 m3 m4 m5;obtain⟨m0,m1,m2,m3,m4,m5⟩:=E.nv.cells;by_cases an:m<256
     ·have aF:=E.hb.cell an;have aG:=E.hb.frozen m;have aH:(m:Int)<256:=by omega
      have aI:(0:Int)<=(m:Int):=by omega
      go_wp2_with fail;go_roundw
      case rel=>
       refine⟨m+1,by omega,by go_num,(E.put m).set (E.put m).pb ((E.put m).hb.congr ?_) (AG _ _) rfl⟩;intro n _;by_cases e:n=m
       ·subst e;simp
       ·have:decide (n<m+1)=decide (n<m):=by simp;omega
        simp[e,this]
      case measure=>simp[intOf];omega
     ·have e:m=256:=by omega
      subst e;go_wp2_with(first|(go_at_call 136;refine(JF E hlen (.ok (.set fun _=>true,p.gr) (p.ix+1)) (.dot _ _ _ M.o) ⟨rfl,rfl,rfl,rfl,rfl,rfl,rfl,rfl⟩ (by intro x g j e;cases e;exact⟨_,rfl,by intro n X;simpa using X⟩) i).mono ?_;rintro e w'⟨C,k',p',ext,rfl,rest⟩))
      skip
      go_ret;exact⟨C,k',p',ext,rfl,rest⟩
   ·have am:(c==46)=false:=by simpa using y
    have ao:Hid (c≠46):=y;clear y;by_cases z:c=92
    ·have ap:(c==92)=true:=by simpa using z
     have M:Hid (at' p.s p.ix=92):=by show at' p.s p.ix=92;rw[B.o];exact z
     clear z;go_wp2_with fail;refine(Mh b p _ 0 d.pb hb Y i (by omega) (by omega)).mono ?_;rintro e w2⟨v,rfl,⟨aq,ar,V⟩,F,D⟩;obtain⟨l,rfl,hA⟩:=H9 aq ar;have H:=d.set F (d.hb.keep D (by simp;omega)) (D.mono (by simp)) (by cases A9 p.s 0 (p.ix+1)<;>rfl);clear F D c0 h6 h7 f6 f7 m0 m1 m2 m3 m4 m5;obtain⟨m0,m1,m2,m3,m4,m5⟩:=H.nv.cells;have au:=H.hb.cell (k:=l) (by omega);have aw:=H.hb.frozen l;have aJ:(0:Int)<=(l:Int):=by omega
     have ax:(l:Int)<256:=by omega
     have E:=H.put l;have ay:Hid (∀a j,A9 p.s 0 (p.ix+1)=.ok a j->(l:Int)=a):=V;clear V;go_wp2_with(first|(go_at_call 136;refine(JF E hlen ((A9 p.s 0 (p.ix+1)).map fun a=>(.set (A0 a a),p.gr)) (.esc _ _ _ M.o) (RV p _) (RW ay.o) i).mono ?_;rintro e w'⟨C,k',p',ext,rfl,rest⟩))
     skip
     go_ret;exact⟨C,k',p',ext,rfl,rest⟩
    ·have ap:(c==92)=false:=by simpa using z
     have az:Hid (c≠92):=z;clear z;by_cases N:CR c
     ·have HN:Hid (CR (at' p.s p.ix)):=by show CR (at' p.s p.ix);rw[B.o];exact N
      have HH:=(NF c).2 N;clear N;have J:=d.bad p.ix;go_wp2_with(first|(go_at_call 109;refine(Gu _ c _ (by decide)).mono ?_;rintro e w'⟨rfl,rfl⟩;rw[HH])|(go_at_call 84;refine(CI b p _ d.pb hb).mono ?_;rintro e w'⟨rfl,rfl⟩)|(go_at_call 136;refine(JF J hlen (.bad p.ix) (.no _ _ _ HN.o) ⟨rfl,rfl,rfl,rfl,rfl,rfl⟩ (by intro x g j e;cases e) i).mono ?_;rintro e w'⟨C,k',p',ext,rfl,rest⟩))
      skip
      go_ret;exact⟨C,k',p',ext,rfl,rest⟩
     ·have HN:Hid (¬CR (at' p.s p.ix)):=by show¬CR (at' p.s p.ix);rw[B.o];exact N
      have HH:=Bool.eq_false_iff.2 fun e=>N ((NF c).1 e)
      have HG:Hid (G p.s .single p.deep p.gr p.ix (.ok (.set (A0 c c),p.gr) (p.ix+1))):=by
       show G _ _ _ _ _ _;rw[<-B.o];exact .lit _ _ _ (by rw[B.o];exact S) (by rw[B.o];exact ah.out) (by rw[B.o];exact al.out) (by rw[B.o];exact ao.out) (by rw[B.o];exact az.out) HN.o
      clear N;obtain⟨l,hA,aK⟩:=H9 S ae;subst hA;have ax:(l:Int)<256:=by omega
      have H:=d.ix (p.ix+1);have E:=H.put l;have au:=d.hb.cell (k:=l) (by omega);have aw:=d.hb.frozen l;go_wp2_with(first|(go_at_call 109;refine(Gu _ _ _ (by decide)).mono ?_;rintro e w'⟨rfl,rfl⟩;rw[HH])|(go_at_call 136;refine(JF E hlen (.ok (.set (A0 l l),p.gr) (p.ix+1)) HG.o ⟨rfl,rfl,rfl,rfl,rfl,rfl,rfl,rfl⟩ (by intro x g j e;cases e;exact⟨_,rfl,fun n _=>NA n l⟩) i).mono ?_;rintro e w'⟨C,k',p',ext,rfl,rest⟩))
      skip
      go_ret;exact⟨C,k',p',ext,rfl,rest⟩
