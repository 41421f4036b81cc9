/-
  DERIVED. Plain mathematics: a node that stands for a part of a pattern: its kind, and smaller parts for its kids. Nothing of the program stands here.
-/
import Derived.Test.YtnfojonmohijpaaGreatDoorJNK
set_option linter.all false
set_option maxRecDepth 100000
set_option maxHeartbeats 8000000
namespace Go.Proofs.YtnfojonmohijpaaGreatDoor
open Go.RowKit
variable{nds:List Nd}{w:World}{N:Nat}{cs:List Value}
def FQ:=@Tryz.underlying273
def DN:=@yieldsIf_load_mid
def Aj:=@List.length_cons
def BJ:=@List.length_nil
def Bc:=@List.cons.injEq
def Cj:=@wp_region_held
def DE:=@AllReadyH.cons
def Ev:=@AllReadyH.nil
def Ee:=@wp_store_row
def CD:=@and_true
def AD.fair(g:Nat):AD->Prop
 | .set _=>True
 | .grp k x=>0<k∧k<=g∧x.fair g
 | .rep mn mx x=>(mx<0∨(mn:Int)<=mx)∧x.fair g
 | .pnil=>True
 | .pcons x r=>x.fair g∧r.fair g
 | .wone x=>x.fair g
 | .wcons x r=>x.fair g∧r.fair g
theorem AD.fair.up{g h:Nat}(b:g<=h):∀{x:AD},x.fair g->x.fair h
 | .set _,_=>trivial
 | .grp _ x,a=>⟨a.1,BG a.2.1 b,AD.fair.up b (x:=x) a.2.2⟩
 | .rep _ _ x,a=>⟨a.1,AD.fair.up b (x:=x) a.2⟩
 | .pnil,_=>trivial
 | .pcons x r,a=>⟨AD.fair.up b (x:=x) a.1,AD.fair.up b (x:=r) a.2⟩
 | .wone x,a=>AD.fair.up b (x:=x) a
 | .wcons x r,a=>⟨AD.fair.up b (x:=x) a.1,AD.fair.up b (x:=r) a.2⟩
def AD.wn:AD->Nat
 | .wcons _ r=>r.wn+1
 |_=>1
def AD.thn:AD->Prop
 | .set _=>True
 | .grp _ x=>x.thn
 | .rep _ _ x=>x.thn
 | .pnil=>True
 | .pcons x r=>x.thn∧r.thn
 | .wone x=>x.thn
 | .wcons x r=>r.wn<=98∧x.thn∧r.thn
def NK(nds:List Nd)(n k:Nat):Prop:=∃(kd:Kd)(x:AD),C1 nds kd x k∧shp x kd∧x.sz<n∧x.fair 9∧x.thn
theorem NK.up{n m k:Nat}(h:NK nds n k)(hm:n<=m):NK nds m k:=by
 obtain⟨kd,x,a,b,c,d⟩:=h;exact⟨kd,x,a,b,by omega,d⟩
theorem OS:∀{x:AD}{l:List Nat},rep nds x l->shp x .way->l.length<=x.sz
 | .pnil,l,h,_=>by cases h;simp
 | .pcons x r,l,h,a=>by
  obtain⟨k,l',rfl,c,b⟩:=h;have:=OS b a.2;simp only[AD.sz,Aj];omega
 | .set _,_,_,a=>a.elim
 | .grp _ _,_,_,a=>a.elim
 | .rep _ _ _,_,_,a=>a.elim
 | .wone _,_,_,a=>a.elim
 | .wcons _ _,_,_,a=>a.elim
theorem OU:∀{x:AD}{l:List Nat},rep nds x l->shp x .ways->l.length<=x.sz∧l.length=x.wn
 | .wone x,l,h,a=>by
  obtain⟨b,lp,rfl,c,d⟩:=h;refine⟨?_,rfl⟩;simp only[AD.sz,Aj,BJ];omega
 | .wcons x r,l,h,a=>by
  obtain⟨b,lp,l',rfl,⟨c,d⟩,e⟩:=h;have g:=OU e a.2;have f:(AD.wcons x r).wn=r.wn+1:=rfl;rw[f];simp only[AD.sz,Aj];omega
 | .pnil,_,_,a=>a.elim
 | .pcons _ _,_,_,a=>a.elim
 | .set _,_,_,a=>a.elim
 | .grp _ _,_,_,a=>a.elim
 | .rep _ _ _,_,_,a=>a.elim
def Sub(nds:List Nd)(n:Nat)(nd:Nd):Prop:=
 (nd.kind=98∧nd.kids=[])∨(nd.kind=103∧∃c,nd.kids=[c]∧NK nds n c)∨(nd.kind=114∧nd.mn<=5∧-1<=nd.mx∧(nd.mx<=5∧(nd.mx<0∨(nd.mn:Int)<=nd.mx))∧∃c,nd.kids=[c]∧NK nds n c)∨
 ((nd.kind=119∨(nd.kind=111∧nd.kids.length<=99))∧nd.kids.length<=n∧∀c,c∈nd.kids->NK nds n c)
theorem Sub.up{n m:Nat}{nd:Nd}(h:Sub nds n nd)(hm:n<=m):Sub nds m nd:=by
 rcases h with h|⟨a,c,b,d⟩|⟨a,e,f,g,c,b,d⟩|⟨a,l,b⟩
 ·exact AH h
 ·exact AE (AH ⟨a,c,b,d.up hm⟩)
 ·exact AE (AE (AH ⟨a,e,f,g,c,b,d.up hm⟩))
 ·exact AE (AE (AE ⟨a,BG l hm,fun c i=>(b c i).up hm⟩))
theorem OV:∀{x:AD}{l:List Nat},rep nds x l->shp x .way->x.fair 9->x.thn->∀c,c∈l->NK nds x.sz c
 | .pnil,l,h,_,_,_,c,b=>by cases h;cases b
 | .pcons x r,l,h,a,d,e,c,b=>by
  obtain⟨k,l',rfl,f,g⟩:=h;rcases Az.1 b with rfl|b
  ·exact⟨.piece,x,f,a.1,by simp only[AD.sz];omega,d.1,e.1⟩
  ·exact(OV g a.2 d.2 e.2 c b).up (by simp only[AD.sz];omega)
 | .set _,_,_,a,_,_,_,_=>a.elim
 | .grp _ _,_,_,a,_,_,_,_=>a.elim
 | .rep _ _ _,_,_,a,_,_,_,_=>a.elim
 | .wone _,_,_,a,_,_,_,_=>a.elim
 | .wcons _ _,_,_,a,_,_,_,_=>a.elim
theorem OX:∀{x:AD}{l:List Nat},rep nds x l->shp x .ways->x.fair 9->x.thn->∀c,c∈l->NK nds x.sz c
 | .wone x,l,h,a,d,e,c,b=>by
  obtain⟨i,lp,rfl,f,g⟩:=h;simp only[Dc]at b;subst b;exact⟨.way,x,⟨lp,f,g⟩,a,by simp only[AD.sz];omega,d,e⟩
 | .wcons x r,l,h,a,d,e,c,b=>by
  obtain⟨i,lp,l',rfl,⟨f,g⟩,j⟩:=h;rcases Az.1 b with rfl|b
  ·exact⟨.way,x,⟨lp,f,g⟩,a.1,by simp only[AD.sz];omega,d.1,e.2.1⟩
  ·exact(OX j a.2 d.2 e.2.2 c b).up (by simp only[AD.sz];omega)
 | .pnil,_,_,a,_,_,_,_=>a.elim
 | .pcons _ _,_,_,a,_,_,_,_=>a.elim
 | .set _,_,_,a,_,_,_,_=>a.elim
 | .grp _ _,_,_,a,_,_,_,_=>a.elim
 | .rep _ _ _,_,_,a,_,_,_,_=>a.elim
theorem NK.cases:∀(n:Nat){kd:Kd}{x:AD}{k:Nat},C1 nds kd x k->shp x kd->x.sz<=n->x.fair 9->x.thn->∃nd,nds[k]? =some nd∧Sub nds x.sz nd:=by
 intro n
 induction n with
 |zero=>intro kd x k _ _ w _ _;exact absurd w (by cases x<;>simp[AD.sz])
 |succ n ih=>
  intro kd x k h d w p s;have o:(kd=.piece∨kd=.single)->rep nds x [k]->∃nd,nds[k]? =some nd∧Sub nds x.sz nd:=by
   intro j g;cases x with
   |set f=>
    obtain⟨k',nd,i,e,l,D,_⟩:=g;simp only[Bc,CD]at i;subst i;exact⟨nd,e,AH ⟨l,D⟩⟩
   |grp m y=>
    obtain⟨k',nd,c,lw,i,e,l,_,A,g,t⟩:=g;simp only[Bc,CD]at i;subst i;have u:shp y .ways:=by rcases j with rfl|rfl<;>exact d
    exact⟨nd,e,AE (AH ⟨l,c,A,.ways,y,⟨lw,g,t⟩,u,by simp only[AD.sz];omega,p.2.2,s⟩)⟩
   |rep mn mx y=>
    obtain⟨k',nd,c,i,e,l,rfl,rfl,A,g⟩:=g;simp only[Bc,CD]at i;subst i;rcases j with rfl|rfl
    ·exact⟨nd,e,AE (AE (AH ⟨l,d.1,d.2.1,⟨d.2.2.1,p.1⟩,c,A,.single,y,g,d.2.2.2,by simp only[AD.sz];omega,p.2,s⟩))⟩
    ·exact d.elim
   |pnil=>rcases j with rfl|rfl<;>exact d.elim
   |pcons _ _=>rcases j with rfl|rfl<;>exact d.elim
   |wone _=>rcases j with rfl|rfl<;>exact d.elim
   |wcons _ _=>rcases j with rfl|rfl<;>exact d.elim
  cases kd with
  |single=>exact o (AE rfl) h
  |piece=>exact o (AH rfl) h
  |way=>
   obtain⟨lp,g,t⟩:=h;rcases t with rfl|⟨_,nd,e,l,rfl⟩
   ·cases x with
    |pcons y r=>
     obtain⟨k',l',e,v,B⟩:=g;simp only[Bc]at e;obtain⟨rfl,rfl⟩:=e;have u:y.sz<=n:=by simp only[AD.sz]at w;omega
     obtain⟨nd,a,b⟩:=ih (kd:=.piece) v d.1 u p.1 s.1;exact⟨nd,a,b.up (by simp only[AD.sz];omega)⟩
    |pnil=>cases g
    |_=>exact d.elim
   ·exact⟨nd,e,AE (AE (AE ⟨AH l,OS g d,OV g d p s⟩))⟩
  |ways=>
   obtain⟨lw,g,t⟩:=h;rcases t with rfl|⟨_,nd,e,l,rfl⟩
   ·cases x with
    |wone y=>
     obtain⟨c,lp,e,v,B⟩:=g;simp only[Bc,CD]at e;subst e;have u:y.sz<=n:=by simp only[AD.sz]at w;omega
     obtain⟨nd,a,b⟩:=ih (kd:=.way) ⟨lp,v,B⟩ d u p s;exact⟨nd,a,b.up (by simp only[AD.sz];omega)⟩
    |wcons y r=>
     obtain⟨c,lp,l',e,⟨v,B⟩,C⟩:=g;simp only[Bc]at e;obtain⟨rfl,rfl⟩:=e;cases r with
     |wone z=>obtain⟨_,_,e,_⟩:=C;cases e
     |wcons z q=>obtain⟨_,_,_,e,_⟩:=C;cases e
     |_=>exact d.2.elim
    |_=>exact d.elim
   ·obtain⟨E,G⟩:=OU g d;have F:x.wn<=99:=by
     cases x with
     |wcons y r=>have v:=s.1;have H:(AD.wcons y r).wn=r.wn+1:=rfl;omega
     |wone y=>exact(by decide:1<=99)
     |_=>exact d.elim
    exact⟨nd,e,AE (AE (AE ⟨AE ⟨l,by omega⟩,E,OX g d p s⟩))⟩
def Be:Nat->AD->AD
 |0,x=>x
 |d+1,.pcons _ r=>Be d r
 |_+1,_=> .pnil
inductive Mk (w : World) (S : Nat -> Prop) (s : ByteArray) (N : Nat) : Kr -> AD -> List Value -> Prop
 | set (f : Nat -> Bool) (v : Value) : MP w S N v (Mt s (.set f)) -> Mk w S s N .single (.set f) [.int .i64 0, .slice none 0 0, .slice none 0 0, v]
 | grp (k : Nat) (x : AD) (a c : Value) : 0 < k -> k <= 9 -> Mk w S s N .ways x [a, c] -> Mk w S s N .single (.grp k x) [.int .i64 k, a, c, c]
 | piece (x : AD) (cs : List Value) : Mk w S s N .single x cs -> Mk w S s N .piece x (cs ++ [.bool false, .int .i64 0, .int .i64 0, .slice none 0 0])
 | rep (mn : Nat) (mx : Int) (x : AD) (cs : List Value) (v : Value) : mn <= 5 -> -1 <= mx -> mx <= 5 -> (mx < 0 ∨ (mn : Int) <= mx) -> Mk w S s N .single x cs -> RR w S N (steps mn mx + 1) v (Left (Mt s x) mn mx) ->
  Mk w S s N .piece (.rep mn mx x) (cs ++ [.bool true, .int .i64 mn, .int .i64 mx, v])
 | pnil : Mk w S s N .plist .pnil []
 | pcons (x r : AD) (cs ds : List Value) : Mk w S s N .piece x cs -> Mk w S s N .plist r ds -> Mk w S s N .plist (.pcons x r) (cs ++ ds)
 | way (x : AD) (cs : List Value) (v r : Value) (n : Nat) : Mk w S s N .plist x cs -> w.ownsRow 0 273 8 v n cs -> (∀ g, v.ownBlock = some g -> S g) -> RR w S N (n + 1) r (fun d => Mt s (Be d x)) -> Mk w S s N .way x [v, r]
 | wone (x : AD) (cs : List Value) : Mk w S s N .way x cs -> Mk w S s N .wlist (.wone x) cs
 | wcons (x r : AD) (cs ds : List Value) : Mk w S s N .way x cs -> Mk w S s N .wlist r ds -> Mk w S s N .wlist (.wcons x r) (cs ++ ds)
 | ways (x : AD) (cs : List Value) (v c : Value) (n : Nat) : Mk w S s N .wlist x cs -> w.ownsRow 0 222 2 v n cs -> (∀ g, v.ownBlock = some g -> S g) -> MP w S N c (Mt s x) -> Mk w S s N .ways x [v, c]
theorem Mk.keep{w':World}{S:Nat->Prop}{s:ByteArray}{L:List Nat}(b:AA L w w')(d:∀g,S g->g∉L){k:Kr}{x:AD}(h:Mk w S s N k x cs):Mk w' S s N k x cs:=by
 induction h with
 |set f v hm=>exact .set f v (hm.keep b d)
 |grp k x a c m o _ ih=>exact .grp k x a c m o ih
 |piece x cs _ ih=>exact .piece x cs ih
 |rep mn mx x cs v p q t u _ i ih=>exact .rep mn mx x cs v p q t u ih (i.keep b d)
 |pnil=>exact .pnil
 |pcons x r cs ds _ _ i1 i2=>exact .pcons x r cs ds i1 i2
 |way x cs v r n _ j e i ih=>exact .way x cs v r n ih (j.keep b fun g l=>d g (e g l)) e (i.keep b d)
 |wone x cs _ ih=>exact .wone x cs ih
 |wcons x r cs ds _ _ i1 i2=>exact .wcons x r cs ds i1 i2
 |ways x cs v c n _ j e hm ih=>exact .ways x cs v c n ih (j.keep b fun g l=>d g (e g l)) e (hm.keep b d)
theorem Mk.mono{S S':Nat->Prop}{s:ByteArray}(d:∀g,S g->g<w.heap.size->S' g){k:Kr}{x:AD}(h:Mk w S s N k x cs):Mk w S' s N k x cs:=by
 have hb:∀{e:TypeId}{size:Nat}{v:Value}{n:Nat}{xs:List Value},w.ownsRow 0 e size v n xs->(∀g,v.ownBlock=some g->S g)->∀g,v.ownBlock=some g->S' g:=fun b i g l=>d g (i g l) (b.lt g l).2
 induction h with
 |set f v hm=>exact .set f v (hm.mono d)
 |grp k x a c m o _ ih=>exact .grp k x a c m o ih
 |piece x cs _ ih=>exact .piece x cs ih
 |rep mn mx x cs v p q t u _ j ih=>exact .rep mn mx x cs v p q t u ih (j.mono d)
 |pnil=>exact .pnil
 |pcons x r cs ds _ _ i1 i2=>exact .pcons x r cs ds i1 i2
 |way x cs v r n _ b i j ih=>exact .way x cs v r n ih b (hb b i) (j.mono d)
 |wone x cs _ ih=>exact .wone x cs ih
 |wcons x r cs ds _ _ i1 i2=>exact .wcons x r cs ds i1 i2
 |ways x cs v c n _ b i hm ih=>exact .ways x cs v c n ih b (hb b i) (hm.mono d)
theorem RR.one{S:Nat->Prop}{M:Nat}{v:Value}{F:Nat->Nat->Nat->Prop}(h:RR w S N M v F):v.oneCell'=true:=by
 obtain⟨g,c,vs,rfl,_⟩:=h;rfl
theorem Mk.form{S:Nat->Prop}{s:ByteArray}{k:Kr}{x:AD}(h:Mk w S s N k x cs):(∀u∈cs,u.oneCell'=true)∧(match k with
  | .single=>∃k' a c v,cs=[.int .i64 (k':Nat),a,c,v]∧MP w S N v (Mt s x)
  | .ways=>∃a c,cs=[a,c]∧MP w S N c (Mt s x)
  | .way=>∃a r,cs=[a,r]
  | .piece=>cs.length=8
  |_=>True):=by
 induction h with
 |set f v hm=>exact⟨by intro u hu;simp at hu;rcases hu with rfl|rfl|rfl<;>first|rfl|exact hm.one.1,0,_,_,v,rfl,hm⟩
 |grp k x a c i j _ ih=>
  obtain⟨i1,l,m,e,hm⟩:=ih;simp only[Bc,CD]at e;obtain⟨rfl,rfl⟩:=e;refine⟨?_,k,a,c,c,rfl,hm⟩;intro u hu;simp at hu;rcases hu with rfl|rfl|rfl
  ·rfl
  ·exact i1 _ (by simp)
  ·exact i1 _ (by simp)
 |piece x cs _ ih=>
  obtain⟨i1,k',a,c,v,e,hm⟩:=ih;refine⟨?_,by show(cs++_).length=8;rw[AW,e];rfl⟩;intro u hu;rcases Bb.1 hu with hu|hu
  ·exact i1 u hu
  ·simp at hu;rcases hu with rfl|rfl|rfl<;>rfl
 |rep mn mx x cs v o p q t _ b ih=>
  obtain⟨i1,k',a,c,y,e,hm⟩:=ih;refine⟨?_,by show(cs++_).length=8;rw[AW,e];rfl⟩;intro u hu;rcases Bb.1 hu with hu|hu
  ·exact i1 u hu
  ·simp at hu;rcases hu with rfl|rfl|rfl|rfl<;>first|rfl|exact b.one
 |pnil=>exact⟨by simp,trivial⟩
 |pcons x r cs ds _ _ i1 i2=>
  refine⟨?_,trivial⟩;intro u hu;rcases Bb.1 hu with hu|hu
  ·exact i1.1 u hu
  ·exact i2.1 u hu
 |way x cs v r n _ d g b ih=>exact⟨by intro u hu;simp at hu;rcases hu with rfl|rfl;exact(IM d).1;exact b.one,v,r,rfl⟩
 |wone x cs _ ih=>exact⟨ih.1,trivial⟩
 |wcons x r cs ds _ _ i1 i2=>
  refine⟨?_,trivial⟩;intro u hu;rcases Bb.1 hu with hu|hu
  ·exact i1.1 u hu
  ·exact i2.1 u hu
 |ways x cs v c n _ d g hm ih=>exact⟨by intro u hu;simp at hu;rcases hu with rfl|rfl;exact(IM d).1;exact hm.one.1,v,c,rfl,hm⟩
def JZ(w:World)(s:ByteArray)(N:Nat)(k:Kr)(x:AD)(e:Ending)(w':World):Prop:=∃cs,e=.returned (.agg cs.toArray)∧Mk w' (fun g=>w.heap.size<=g) s N k x cs∧AA [] w w'
def LQ(s:ByteArray)(N n:Nat):Prop:=∀(x:AD),x.sz<=n->x.fair 9->∀(w:World)(S:Nat->Prop)(v:Value),AT w S .ways x [v]->Calls Tryz.prog 72 #[v,.string s] w (JZ w s N .ways x)
def LR(s:ByteArray)(N n:Nat):Prop:=∀(x:AD),x.sz<=n->x.fair 9->∀(w:World)(S:Nat->Prop)(cs:List Value),AT w S .single x cs->Calls Tryz.prog 212 #[.agg cs.toArray,.string s] w (JZ w s N .single x)
def LS(s:ByteArray)(N n:Nat):Prop:=∀(x:AD),x.sz<=n->x.fair 9->∀(w:World)(S:Nat->Prop)(cs:List Value),AT w S .piece x cs->Calls Tryz.prog 173 #[.agg cs.toArray,.string s] w (JZ w s N .piece x)
def LU(s:ByteArray)(N n:Nat):Prop:=∀(x:AD),x.sz<=n->x.fair 9->∀(w:World)(S:Nat->Prop)(v:Value),AT w S .way x [v]->Calls Tryz.prog 125 #[v,.string s] w (JZ w s N .way x)
theorem KN(a b c d:Value):(Tryz.prog.info? 271).map (·.size)=some (#[a,b,c,d]:Array Value).size:=by kernel_rfl
theorem OY{a b c d:Value}(e:a.oneCell'=true)(hb:b.oneCell'=true)(f:c.oneCell'=true)(hd:d.oneCell'=true):(#[a,b,c,d]:Array Value).all (·.oneCell')=true:=by simp[e,hb,f,hd]
theorem Ja(a b:Value):(Tryz.prog.info? 78).map (·.size)=some (#[a,b]:Array Value).size:=by kernel_rfl
theorem Ew{a b:Value}(c:a.oneCell'=true)(hb:b.oneCell'=true):(#[a,b]:Array Value).all (·.oneCell')=true:=by simp[c,hb]
theorem TW(s:ByteArray)(N:Nat)(Z:Hid (N=s.size+1))(hs:s.size<=100)(n:Nat)(IW:LQ s N n):LR s N (n+1):=by
 intro x D j w S cs E;cases E with
 |set f=>
  have h:((w.alloc (.cells (sc (.int .i64 0) (.slice none 0 0) f).toArray 208)).alloc (.cells #[.int .i64 0,.slice none 0 0,.slice none 0 0,.slice none 0 0] 271)).heap[w.heap.size]? =some (.cells (sc (.int .i64 0) (.slice none 0 0) f).toArray 208 (0,0)):=C2 w _ _;have b:((w.alloc (.cells (sc (.int .i64 0) (.slice none 0 0) f).toArray 208)).alloc (.cells #[.int .i64 0,.slice none 0 0,.slice none 0 0,.slice none 0 0] 271)).heap[w.heap.size+1]? =some (.cells #[.int .i64 0,.slice none 0 0,.slice none 0 0,.slice none 0 0] 271 (0,0)):=Df w _ _;have i:AA [] w ((w.alloc (.cells (sc (.int .i64 0) (.slice none 0 0) f).toArray 208)).alloc (.cells #[.int .i64 0,.slice none 0 0,.slice none 0 0,.slice none 0 0] 271)):=((AG [] w).alloc _).alloc _;obtain⟨F,c1,c2⟩:=OQ h;have M:(Tryz.prog.info? 206).map (·.size)=some (AZ f).toList.length:=by rw[Tryz.infoSet];simp[Bo]
  generalize(sc (.int .i64 0) (.slice none 0 0) f).toArray=C at*;go_enter Tryz.func212,Tryz.ntmps212
  go_upto_if 8 with(fail)
  generalize((w.alloc (.cells C 208)).alloc (.cells #[.int .i64 0,.slice none 0 0,.slice none 0 0,.slice none 0 0] 271))=W at*;obtain⟨g0,l⟩:=AQ w.heap.size;obtain⟨g1,m⟩:=AQ (w.heap.size+1);rw[<-m]at b⊢;rw[<-l]at F c1 c2⊢;have O:w.heap.size<=W.heap.size:=i.size;have o:w.heap.size<=g1:=by omega
  have p:g1<W.heap.size:=(AN.1 b).1;clear h l m c1;go_wp2_with(first|(refine LP rfl 206 _ rfl g0 2 rfl (AZ f).toList _ c2 EM rfl M ?_));rw[Array.toArray_toList];refine(TC f s N Z hs W).mono ?_;rintro e w1⟨v,rfl,hm,d⟩;obtain⟨V,cv,fv,rfl,_⟩:=id hm;have q:=(d.block g1 (AN.1 b).1 (by simp)).trans b;have A:=i.trans d;go_wp2_with(first|(refine Ae rfl 271 _ _ rfl g1 #[.int .i64 0,.slice none 0 0,.slice none 0 0,.slice (some ⟨V,0,none⟩) N cv] rfl rfl _ _ q (KN _ _ _ _) rfl (OY rfl rfl rfl rfl) ?_));refine Ag (Au rfl _ _ g1 _ _ _ _ rfl (Aa _ _ _ _ _ _ q) Tryz.underlying271 rfl (KN _ _ _ _)) rfl ?_;refine⟨[.int .i64 0,.slice none 0 0,.slice none 0 0,.slice (some ⟨V,0,none⟩) N cv],rfl,?_,?_⟩
  ·exact .set f _ ((hm.keep ((AG [g1] w1).setRow (g:=g1) (by simp) _) (by intro x D;simp;omega)).mono fun x D _=>by omega)
  ·exact A.setRow (AE o) _
 |grp k y v h0 h9 P=>
  obtain⟨va,vn,vc,rfl⟩:Bk v:=by
   cases P with
   |ways _ _ _ _ _ Q _=>exact A6 Q
  have h:((w.alloc (.cells (sc (.int .i64 k) (.slice va vn vc) fun _=>false).toArray 208)).alloc (.cells #[.int .i64 0,.slice none 0 0,.slice none 0 0,.slice none 0 0] 271)).heap[w.heap.size]? =some (.cells (sc (.int .i64 k) (.slice va vn vc) fun _=>false).toArray 208 (0,0)):=C2 w _ _;have b:((w.alloc (.cells (sc (.int .i64 k) (.slice va vn vc) fun _=>false).toArray 208)).alloc (.cells #[.int .i64 0,.slice none 0 0,.slice none 0 0,.slice none 0 0] 271)).heap[w.heap.size+1]? =some (.cells #[.int .i64 0,.slice none 0 0,.slice none 0 0,.slice none 0 0] 271 (0,0)):=Df w _ _;have i:AA [] w ((w.alloc (.cells (sc (.int .i64 k) (.slice va vn vc) fun _=>false).toArray 208)).alloc (.cells #[.int .i64 0,.slice none 0 0,.slice none 0 0,.slice none 0 0] 271)):=((AG [] w).alloc _).alloc _;obtain⟨F,c1,c2⟩:=OQ h;have G:y.sz<=n:=by simp[AD.sz]at D;omega
  have R:y.fair 9:=j.2.2;have X:((k:Int)==0)=false:=by simpa using(by omega:¬(k:Int)=0)
  have H:=P.keep i (by simp);clear c2;generalize(sc (.int .i64 k) (.slice va vn vc) fun _=>false).toArray=C at*;go_enter Tryz.func212,Tryz.ntmps212
  go_upto_if 8 with(fail)
  generalize((w.alloc (.cells C 208)).alloc (.cells #[.int .i64 0,.slice none 0 0,.slice none 0 0,.slice none 0 0] 271))=W at*;obtain⟨g0,l⟩:=AQ w.heap.size;obtain⟨g1,m⟩:=AQ (w.heap.size+1);rw[<-m]at b⊢;rw[<-l]at F c1 h⊢;have O:w.heap.size<=W.heap.size:=i.size;have o:w.heap.size<=g1:=by omega
  have p:g1<W.heap.size:=(AN.1 b).1;have z:g0<W.heap.size:=(AN.1 h).1;clear l m P D j;go_wp2_with fail;refine(IW y G R W S _ H).mono ?_;rintro e w1⟨cs,rfl,hm,d⟩;obtain⟨Y,a,c,rfl,I⟩:=id hm.form;obtain⟨gc,cc,fc,rfl,_⟩:=id I;obtain⟨r,t,ac,rfl⟩:Bk a:=by
   cases hm with
   |ways _ _ _ _ _ _ Q _ _=>exact A6 Q
  have q:=(d.block g1 p (by simp)).trans b;have J:w1.cell? ⟨g0,0,none⟩=some (.int .i64 k):=(Ad (d.block g0 z (by simp))).trans F;have A:=i.trans d;have K:(w1.alloc (.cells #[.slice none 0 0,.slice none 0 0] 78)).heap[w1.heap.size]? =some (.cells #[.slice none 0 0,.slice none 0 0] 78 (0,0)):=AS w1 _;have u:AA [] w1 ((w1.alloc (.cells #[.slice none 0 0,.slice none 0 0] 78)).setRow w1.heap.size #[.slice r t ac,.slice (some ⟨gc,0,none⟩) N cc]):=((AG [] w1).alloc _).setRow (AE (AP _)) _;have B:((w1.alloc (.cells #[.slice none 0 0,.slice none 0 0] 78)).setRow w1.heap.size #[.slice r t ac,.slice (some ⟨gc,0,none⟩) N cc]).heap[w1.heap.size]? =some (.cells #[.slice r t ac,.slice (some ⟨gc,0,none⟩) N cc] 78 (0,0)):=Aa _ _ _ _ _ _ K;have ab:=(Ad (u.block g0 (BL z d.size) (by simp))).trans J;have L:=(u.block g1 (BL p d.size) (by simp)).trans q;have T:=hm.keep u (by simp);have q0:((w1.alloc (.cells #[.slice none 0 0,.slice none 0 0] 78)).setRow w1.heap.size #[.slice r t ac,.slice (some ⟨gc,0,none⟩) N cc]).cell? ⟨w1.heap.size,0,none⟩=some (.slice r t ac):=by rw[AU B];rfl
  have q1:((w1.alloc (.cells #[.slice none 0 0,.slice none 0 0] 78)).setRow w1.heap.size #[.slice r t ac,.slice (some ⟨gc,0,none⟩) N cc]).cell? ⟨w1.heap.size,1,none⟩=some (.slice (some ⟨gc,0,none⟩) N cc):=by rw[AU B];rfl
  have U:=A.trans u;clear h b F c1 H i B hm I q J;go_wp2_with(first|(refine Ae rfl 271 _ _ rfl g1 #[.int .i64 k,.slice r t ac,.slice (some ⟨gc,0,none⟩) N cc,.slice (some ⟨gc,0,none⟩) N cc] rfl rfl _ _ L (KN _ _ _ _) rfl (OY rfl rfl rfl rfl) ?_)|(refine Ae rfl 78 _ _ rfl w1.heap.size #[.slice r t ac,.slice (some ⟨gc,0,none⟩) N cc] rfl rfl _ _ K (Ja _ _) rfl (Ew rfl rfl) ?_;generalize(w1.alloc (.cells #[.slice none 0 0,.slice none 0 0] 78)).setRow w1.heap.size #[.slice r t ac,.slice (some ⟨gc,0,none⟩) N cc]=W3 at*));refine Ag (Au rfl _ _ g1 _ _ _ _ rfl (Aa _ _ _ _ _ _ L) Tryz.underlying271 rfl (KN _ _ _ _)) rfl ?_;refine⟨[.int .i64 k,.slice r t ac,.slice (some ⟨gc,0,none⟩) N cc,.slice (some ⟨gc,0,none⟩) N cc],rfl,?_,?_⟩
  ·exact .grp k y _ _ h0 h9 ((T.keep ((AG [g1] W3).setRow (g:=g1) (by simp) _) (by intro x D;simp;omega)).mono fun x D _=>by omega)
  ·exact U.setRow (AE o) _
theorem LV(l:List Value)(h:l.length=8):(Tryz.prog.info? 273).map (·.size)=some l.toArray.size:=by
 have:(Tryz.prog.info? 273).map (·.size)=some 8:=by kernel_rfl
 simpa[h]using this
theorem TY{g:Nat}{ds:List Value}{T:TypeId}{fr:Nat×Nat}(h:w.heap[g]? =some (.cells (cs++ds).toArray T fr)):w.rangeAt g 0 cs:=by
 intro j v a;rw[AU h,List.getElem?_toArray,Ba,Db (BT.1 a).1];exact a
theorem TZ{g k:Nat}{ds:List Value}{T:TypeId}{fr:Nat×Nat}(a:cs.length=k)(h:w.heap[g]? =some (.cells (cs++ds).toArray T fr)):w.rangeAt g k ds:=by
 intro j v b;rw[AU h,List.getElem?_toArray,ER (by omega),a,Nat.add_sub_cancel_left];exact b
theorem Ta(o:Option (Nat×Int)):(Tryz.prog.info? 210).map (·.size)=some (Af o).length:=by rw[Fu];kernel_rfl
theorem Tb(h:cs.length=258):(Tryz.prog.info? 208).map (·.size)=some cs.length:=by have:=Dg h;simpa using this
theorem Tc(o:Option (Nat×Int)):∃b m n,Af o=[b,m,n]∧b.oneCell'=true∧m.oneCell'=true∧n.oneCell'=true:=by
 cases o with
 |none=>exact⟨_,_,_,rfl,rfl,rfl,rfl⟩
 |some p=>exact⟨_,_,_,rfl,rfl,rfl,rfl⟩
theorem F3(a b c d e f g h:Value):(Tryz.prog.info? 273).map (·.size)=some (#[a,b,c,d,e,f,g,h]:Array Value).size:=by kernel_rfl
theorem KO{a b c d e f g h:Value}(i:a.oneCell'=true)(hb:b.oneCell'=true)(j:c.oneCell'=true)(hd:d.oneCell'=true)(he:e.oneCell'=true)(k:f.oneCell'=true)(l:g.oneCell'=true)(m:h.oneCell'=true):(#[a,b,c,d,e,f,g,h]:Array Value).all (·.oneCell')=true:=by simp[i,hb,j,hd,he,k,l,m]
theorem Td(s:ByteArray)(N:Nat)(HN:Hid (N=s.size+1))(hs:s.size<=100)(n:Nat)(IS:LR s N n):LS s N n:=by
 intro y r k w S aI ah;cases ah with
 |piece x o cs ho ai=>
 have hx:x.sz<=n:=BG (OP x o) r;have az:x.fair 9:=by cases o with|none=>exact k|some p=>exact k.2
 have hl:cs.length=258:=ai.cells.2;have D:((w.alloc (.cells (cs++Af o).toArray 212)).alloc (.cells #[.int .i64 0,.slice none 0 0,.slice none 0 0,.slice none 0 0,.bool false,.int .i64 0,.int .i64 0,.slice none 0 0] 273)).heap[w.heap.size]? =some (.cells (cs++Af o).toArray 212 (0,0)):=C2 w _ _;have aa:((w.alloc (.cells (cs++Af o).toArray 212)).alloc (.cells #[.int .i64 0,.slice none 0 0,.slice none 0 0,.slice none 0 0,.bool false,.int .i64 0,.int .i64 0,.slice none 0 0] 273)).heap[w.heap.size+1]? =some (.cells #[.int .i64 0,.slice none 0 0,.slice none 0 0,.slice none 0 0,.bool false,.int .i64 0,.int .i64 0,.slice none 0 0] 273 (0,0)):=Df w _ _;have E:AA [] w ((w.alloc (.cells (cs++Af o).toArray 212)).alloc (.cells #[.int .i64 0,.slice none 0 0,.slice none 0 0,.slice none 0 0,.bool false,.int .i64 0,.int .i64 0,.slice none 0 0] 273)):=((AG [] w).alloc _).alloc _;have aj:=ai.keep E (by simp);have ae:∀w':World,w'.heap[w.heap.size]? =some (.cells (cs++Af o).toArray 212 (0,0))->w'.rangeAt w.heap.size 0 cs:=fun w' h=>TY h
 have J:∀w':World,w'.heap[w.heap.size]? =some (.cells (cs++Af o).toArray 212 (0,0))->w'.rangeAt w.heap.size 258 (Af o):=fun w' h=>TZ hl h
 generalize hC:(cs++Af o).toArray=C at*;go_enter Tryz.func173,Tryz.ntmps173;go_upto_region 1 with(fail)
 generalize((w.alloc (.cells C 212)).alloc (.cells #[.int .i64 0,.slice none 0 0,.slice none 0 0,.slice none 0 0,.bool false,.int .i64 0,.int .i64 0,.slice none 0 0] 273))=W at*;obtain⟨g0,ak⟩:=AQ w.heap.size;obtain⟨g1,al⟩:=AQ (w.heap.size+1);rw[<-al]at aa⊢;rw[<-ak]at D ae J⊢;have L:g0<W.heap.size:=(AN.1 D).1;have am:g1<W.heap.size:=(AN.1 aa).1;have ad:w.heap.size<=g1:=by omega
 clear ak al;go_cut [5]from 6 to 12 (fun q5 wx=>∃g2 ds,q5=.pointer (some ⟨g2,0,none⟩)∧Mk wx (fun x=>W.heap.size<=x∧x≠g2) s N .single x ds∧wx.heap[g2]? =some (.cells (ds++Af o++[Value.slice none 0 0]).toArray 273 (0,0))∧W.heap.size<=g2∧AA [] W wx)
 case first=>
  have IC:∀X:World,AA [] W X->Calls Tryz.prog 212 #[.agg cs.toArray,.string s] X (JZ X s N .single x):=fun X hk=>IS x hx az X S cs (aj.keep hk (by simp))
  have l:W.drew.heap[g0]? =some (.cells C 212 (0,0))∧AA [] W W.drew:=⟨D,(AG [] W).drewN 1⟩;clear hC;refine Cj (S:=fun X=>X.heap[g0]? =some (.cells C 212 (0,0))∧AA [] W X) (by kernel_rfl) ?_;change wpAnyH _ _ _ _ _ _ _ _ (World.drew _);refine wpAnyH_take (i:=0) (v:=.pointer (some ⟨g0,0,none⟩)) rfl (by kernel_rfl) (by kernel_rfl) (by kernel_rfl) (fun _ _ _ h=>h) (AH ⟨by rfl,fun w _=>by go_simp⟩) l ?_;refine wpAnyH_take (i:=2) (v:=.string s) rfl (by kernel_rfl) (by kernel_rfl) (by kernel_rfl) (fun _ _ _ h=>h) (AH ⟨by rfl,fun w _=>by go_simp⟩) l ?_;refine wpAnyH_take (i:=4) (v:=.pointer (some ⟨g0,258,none⟩)) rfl (by kernel_rfl) (by kernel_rfl) (by kernel_rfl) (fun _ _ _ h=>h) (AH ⟨by rfl,fun w _=>by go_simp⟩) l ?_;refine wpAnyH_take (i:=1) (v:=.agg cs.toArray) rfl (by kernel_rfl) (by kernel_rfl) (by kernel_rfl) (fun _ _ _ h=>h) (DN (by rfl) 208 _ rfl g0 0 rfl cs _ (fun X hX=>ae X hX.1) Ft rfl (Tb hl)) l ?_;refine wpAnyH_take (i:=5) (v:=.agg (Af o).toArray) rfl (by kernel_rfl) (by kernel_rfl) (by kernel_rfl) (fun _ _ _ h=>h) (DN (by rfl) 210 _ rfl g0 258 rfl (Af o) _ (fun X hX=>J X hX.1) Fs rfl (Ta o)) l ?_;obtain⟨m,t,u,af,o0,o1,o2⟩:=Tc o;rw[af];refine wpAnyH_ready (rs:=[3,7]) (by kernel_rfl) (by simp) ?_;refine DE rfl (fun K z=>?_) (DE rfl (fun K z=>?_) Ev)
  ·go_simp;refine(IC _ l.2).mono ?_;rintro e w1⟨ds,rfl,hm,A⟩;have d:w1.heap[g0]? =some (.cells C 212 (0,0))∧AA [] W w1:=⟨(A.block g0 L (by simp)).trans l.1,l.2.trans A⟩;obtain⟨b,k',a,c,v,rfl,O⟩:=id hm.form;refine z.out _ _ d (fun _=>?_);clear z K;refine wpAnyH_take (i:=6) (v:=.agg #[.int .i64 (k':Nat),a,c,v,m,t,u,.slice none 0 0]) rfl (by kernel_rfl) (by kernel_rfl) (by kernel_rfl) (fun _ _ _ h=>h) (AH ⟨by rfl,fun w _=>by go_simp⟩) d ?_;refine wpAnyH_ready (rs:=[7]) (by kernel_rfl) (by simp) ?_;refine DE rfl (fun K z=>?_) Ev;go_simp;have P:(w1.alloc (.cells #[.int .i64 0,.slice none 0 0,.slice none 0 0,.slice none 0 0,.bool false,.int .i64 0,.int .i64 0,.slice none 0 0] 273)).heap[w1.heap.size]? =some (.cells #[.int .i64 0,.slice none 0 0,.slice none 0 0,.slice none 0 0,.bool false,.int .i64 0,.int .i64 0,.slice none 0 0] 273 (0,0)):=AS w1 _;have F:AA [] w1 (w1.alloc (.cells #[.int .i64 0,.slice none 0 0,.slice none 0 0,.slice none 0 0,.bool false,.int .i64 0,.int .i64 0,.slice none 0 0] 273)):=(AG [] w1).alloc _;have hk3:AA [] w1 ((w1.alloc (.cells #[.int .i64 0,.slice none 0 0,.slice none 0 0,.slice none 0 0,.bool false,.int .i64 0,.int .i64 0,.slice none 0 0] 273)).setRow w1.heap.size #[.int .i64 (k':Nat),a,c,v,m,t,u,.slice none 0 0]):=F.setRow (AE (AP _)) _;have aA:W.heap.size<=w1.heap.size:=d.2.size;have G:(w1.alloc (.cells #[.int .i64 0,.slice none 0 0,.slice none 0 0,.slice none 0 0,.bool false,.int .i64 0,.int .i64 0,.slice none 0 0] 273)).heap[g0]? =some (.cells C 212 (0,0))∧AA [] W (w1.alloc (.cells #[.int .i64 0,.slice none 0 0,.slice none 0 0,.slice none 0 0,.bool false,.int .i64 0,.int .i64 0,.slice none 0 0] 273)):=⟨(F.block g0 (by omega) (by simp)).trans d.1,d.2.trans F⟩;have Q:((w1.alloc (.cells #[.int .i64 0,.slice none 0 0,.slice none 0 0,.slice none 0 0,.bool false,.int .i64 0,.int .i64 0,.slice none 0 0] 273)).setRow w1.heap.size #[.int .i64 (k':Nat),a,c,v,m,t,u,.slice none 0 0]).heap[g0]? =some (.cells C 212 (0,0))∧AA [] W ((w1.alloc (.cells #[.int .i64 0,.slice none 0 0,.slice none 0 0,.slice none 0 0,.bool false,.int .i64 0,.int .i64 0,.slice none 0 0] 273)).setRow w1.heap.size #[.int .i64 (k':Nat),a,c,v,m,t,u,.slice none 0 0]):=⟨(hk3.block g0 (by omega) (by simp)).trans d.1,d.2.trans hk3⟩;refine z.out _ _ G (fun _=>?_);clear z K;refine wpAnyH_ready (rs:=[8]) (by kernel_rfl) (by simp) ?_;refine DE rfl (fun K z=>?_) Ev;rw[AL (by rfl)];refine Ee 273 _ _ rfl w1.heap.size #[.int .i64 (k':Nat),a,c,v,m,t,u,.slice none 0 0] rfl rfl _ _ P (F3 _ _ _ _ _ _ _ _) rfl (KO rfl (b _ (by simp)) (b _ (by simp)) (b _ (by simp)) o0 o1 o2 rfl) (z.out _ _ Q (fun _=>?_));refine wpAnyH_done (by kernel_rfl) ?_ _;have R:((w1.alloc (.cells #[.int .i64 0,.slice none 0 0,.slice none 0 0,.slice none 0 0,.bool false,.int .i64 0,.int .i64 0,.slice none 0 0] 273)).setRow w1.heap.size #[.int .i64 (k':Nat),a,c,v,m,t,u,.slice none 0 0]).heap[w1.heap.size]? =some (.cells #[.int .i64 (k':Nat),a,c,v,m,t,u,.slice none 0 0] 273 (0,0)):=Aa _ _ _ _ _ _ P;have H:=(hm.mono (S':=fun x=>W.heap.size<=x∧x≠w1.heap.size) fun x hx aB=>by simp at hx;omega).keep hk3 (by simp);go_wp2_with fail;go_meet
   case rel=>exact⟨w1.heap.size,[.int .i64 (k':Nat),a,c,v],rfl,H,by rw[R,af];rfl,aA,Q.2⟩
  ·rw[AL (by rfl)];go_simp;have P:(W.alloc (.cells #[.int .i64 0,.slice none 0 0,.slice none 0 0,.slice none 0 0,.bool false,.int .i64 0,.int .i64 0,.slice none 0 0] 273)).drew.heap[W.heap.size]? =some (.cells #[.int .i64 0,.slice none 0 0,.slice none 0 0,.slice none 0 0,.bool false,.int .i64 0,.int .i64 0,.slice none 0 0] 273 (0,0)):=AS W _;have F:AA [] W (W.alloc (.cells #[.int .i64 0,.slice none 0 0,.slice none 0 0,.slice none 0 0,.bool false,.int .i64 0,.int .i64 0,.slice none 0 0] 273)).drew:=((AG [] W).alloc _).drewN 1;have G:(W.alloc (.cells #[.int .i64 0,.slice none 0 0,.slice none 0 0,.slice none 0 0,.bool false,.int .i64 0,.int .i64 0,.slice none 0 0] 273)).drew.heap[g0]? =some (.cells C 212 (0,0))∧AA [] W (W.alloc (.cells #[.int .i64 0,.slice none 0 0,.slice none 0 0,.slice none 0 0,.bool false,.int .i64 0,.int .i64 0,.slice none 0 0] 273)).drew:=⟨(F.block g0 L (by simp)).trans D,F⟩;have hX:(W.alloc (.cells #[.int .i64 0,.slice none 0 0,.slice none 0 0,.slice none 0 0,.bool false,.int .i64 0,.int .i64 0,.slice none 0 0] 273)).drew.heap.size=W.heap.size+1:=by simp
   refine z.out _ _ G (fun _=>?_);clear z K;generalize(W.alloc (.cells #[.int .i64 0,.slice none 0 0,.slice none 0 0,.slice none 0 0,.bool false,.int .i64 0,.int .i64 0,.slice none 0 0] 273)).drew=X at*;refine wpAnyH_ready (rs:=[3]) (by kernel_rfl) (by simp) ?_;refine DE rfl (fun K z=>?_) Ev;obtain⟨g2,an⟩:=AQ W.heap.size;rw[<-an]at P hX⊢;have T:W.heap.size<=g2:=by omega
   clear an;go_simp;refine(IC X G.2).mono ?_;rintro e w1⟨ds,rfl,hm,A⟩;have d:w1.heap[g0]? =some (.cells C 212 (0,0))∧AA [] W w1:=⟨(A.block g0 (by omega) (by simp)).trans G.1,G.2.trans A⟩;obtain⟨b,k',a,c,v,rfl,O⟩:=id hm.form;have B:=(A.block g2 (by omega) (by simp)).trans P;have hk3:AA [g2] w1 (w1.setRow g2 #[.int .i64 (k':Nat),a,c,v,m,t,u,.slice none 0 0]):=(AG [g2] w1).setRow (g:=g2) (by simp) _;have Q:(w1.setRow g2 #[.int .i64 (k':Nat),a,c,v,m,t,u,.slice none 0 0]).heap[g0]? =some (.cells C 212 (0,0))∧AA [] W (w1.setRow g2 #[.int .i64 (k':Nat),a,c,v,m,t,u,.slice none 0 0]):=⟨(hk3.block g0 (by have:=A.size;omega) (by simp;omega)).trans d.1,d.2.setRow (AE T) _⟩;refine z.out _ _ d (fun _=>?_);clear z K;refine wpAnyH_take (i:=6) (v:=.agg #[.int .i64 (k':Nat),a,c,v,m,t,u,.slice none 0 0]) rfl (by kernel_rfl) (by kernel_rfl) (by kernel_rfl) (fun _ _ _ h=>h) (AH ⟨by rfl,fun w _=>by go_simp⟩) d ?_;refine wpAnyH_ready (rs:=[8]) (by kernel_rfl) (by simp) ?_;refine DE rfl (fun K z=>?_) Ev;rw[AL (by rfl)];refine Ee 273 _ _ rfl g2 #[.int .i64 (k':Nat),a,c,v,m,t,u,.slice none 0 0] rfl rfl _ _ B (F3 _ _ _ _ _ _ _ _) rfl (KO rfl (b _ (by simp)) (b _ (by simp)) (b _ (by simp)) o0 o1 o2 rfl) (z.out _ _ Q (fun _=>?_));refine wpAnyH_done (by kernel_rfl) ?_ _;have R:(w1.setRow g2 #[.int .i64 (k':Nat),a,c,v,m,t,u,.slice none 0 0]).heap[g2]? =some (.cells #[.int .i64 (k':Nat),a,c,v,m,t,u,.slice none 0 0] 273 (0,0)):=Aa _ _ _ _ _ _ B;have H:=(hm.mono (S':=fun x=>W.heap.size<=x∧x≠g2) fun x hx aB=>by omega).keep hk3 (by intro x hx;simp;exact hx.2);go_wp2_with fail;go_meet
   case rel=>exact⟨g2,[.int .i64 (k':Nat),a,c,v],rfl,H,by rw[R,af];rfl,T,Q.2⟩
 case rest=>
  obtain⟨g2,ds,rfl,hm,B,T,U⟩:=hcut;obtain⟨w2,aC⟩:∃w2:World,w2=wc:=⟨_,rfl⟩;subst aC;obtain⟨b,k',a,c,v,rfl,O⟩:=id hm.form;have ao:=(U.block g0 L (by simp)).trans D;have V:=(U.block g1 am (by simp)).trans aa;have ap:=E.trans U;have I:=J _ ao;clear D aa ae aj;obtain⟨Z,cv,fv,rfl,_⟩:=id O;cases o with
  |none=>
   have m:w2.cell? ⟨g0,258,none⟩=some (.bool false):=I 0 _ rfl;have f:w2.heap[g2]? =some (.cells #[.int .i64 (k':Nat),a,c,.slice (some ⟨Z,0,none⟩) N cv,.bool false,.int .i64 0,.int .i64 0,.slice none 0 0] 273 (0,0)):=B;clear B I J;go_wp2_with(first|(refine As rfl 273 _ rfl g2 rfl _ _ _ _ f FQ rfl (F3 _ _ _ _ _ _ _ _) ?_)|(refine Ae rfl 273 _ _ rfl g1 #[.int .i64 (k':Nat),a,c,.slice (some ⟨Z,0,none⟩) N cv,.bool false,.int .i64 0,.int .i64 0,.slice none 0 0] rfl rfl _ _ V (F3 _ _ _ _ _ _ _ _) rfl (KO rfl (b _ (by simp)) (b _ (by simp)) rfl rfl rfl rfl rfl) ?_));refine Ag (Au rfl _ _ g1 _ _ _ _ rfl (Aa _ _ _ _ _ _ V) FQ rfl (F3 _ _ _ _ _ _ _ _)) rfl ?_;refine⟨[.int .i64 (k':Nat),a,c,.slice (some ⟨Z,0,none⟩) N cv]++[.bool false,.int .i64 0,.int .i64 0,.slice none 0 0],rfl,?_,ap.setRow (AE ad) _⟩;exact .piece x _ ((hm.keep ((AG [g1] w2).setRow (g:=g1) (by simp) _) (by intro y r;simp;omega)).mono fun y r _=>by have:=E.size;omega)
  |some p=>
   obtain⟨mn,mx⟩:=p;have m:w2.cell? ⟨g0,258,none⟩=some (.bool true):=I 0 _ rfl;have t:w2.cell? ⟨g0,259,none⟩=some (.int .i64 mn):=I 1 _ rfl;have u:w2.cell? ⟨g0,260,none⟩=some (.int .i64 mx):=I 2 _ rfl;have f:w2.heap[g2]? =some (.cells #[.int .i64 (k':Nat),a,c,.slice (some ⟨Z,0,none⟩) N cv,.bool true,.int .i64 mn,.int .i64 mx,.slice none 0 0] 273 (0,0)):=B;have aD:w2.cell? ⟨g2,3,none⟩=some (.slice (some ⟨Z,0,none⟩) N cv):=by rw[AU f];rfl
   have aq:mn<=5:=ho.1;have ab:-1<=mx∧mx<=5:=by rcases ho.2 with h|⟨q,h,h'⟩<;>omega
   have ar:mx<0∨(mn:Int)<=mx:=k.1;obtain⟨K,HK⟩:∃K,Hid (K=steps mn mx):=⟨_,rfl⟩;obtain⟨M,HM⟩:∃M,Hid (M=K+1):=⟨_,rfl⟩;have hC:=TD s.size N HN hs mn mx aq ab.1 ab.2 ar K M HK HM Z cv (fun _ _=>Mt.le (x:=x)) (fun i j h hi=>by have:=HN.o;have:=Mt.inn (x:=x) h (by omega);omega) w2 O;clear B I J ho r k;go_wp2_with fail;refine hC.mono ?_;rintro e w3⟨gr,rfl,hR,hk3⟩;have ac:=(hk3.block g2 (AN.1 f).1 (by simp)).trans f;have au:=(hk3.block g1 (AN.1 V).1 (by simp)).trans V;have H:=hm.keep hk3 (by simp);have aH:g2<w2.heap.size:=(AN.1 f).1;have f7:w3.frozen? ⟨g2,7,none⟩=false:=by simp[World.frozen?,ac]
   have c7:w3.cell? ⟨g2,7,none⟩=some (.slice none 0 0):=by rw[AU ac];rfl
   have Y:AA [g2] w3 (w3.setCell ⟨g2,7,none⟩ (.slice (some ⟨gr,0,none⟩) M M)):=(AG [g2] w3).setCell (p:=⟨g2,7,none⟩) (by simp) _;have aE:(w3.setCell ⟨g2,7,none⟩ (.slice (some ⟨gr,0,none⟩) M M)).heap[g2]? =some (.cells #[.int .i64 (k':Nat),a,c,.slice (some ⟨Z,0,none⟩) N cv,.bool true,.int .i64 mn,.int .i64 mx,.slice (some ⟨gr,0,none⟩) M M] 273 (0,0)):=by simp[World.setCell,Aq,ac]
   have aw:=(Y.block g1 (by have:=hk3.size;have:=U.size;omega) (by simp;omega)).trans au;have ax:=H.keep Y (by intro y r;simp;exact r.2);have ay:=(hR.mono (S':=fun y=>W.heap.size<=y∧y≠g2) fun y r _=>by have:=U.size;omega).keep Y (by intro y r;simp;exact r.2);have aF:AA [] w (w3.setCell ⟨g2,7,none⟩ (.slice (some ⟨gr,0,none⟩) M M)):=BZ (ap.trans hk3) Y (by intro y r;simp at r;subst r;right;have:=E.size;omega);clear hC hR hk3 ac au H Y hm O f m t u aD V ao;go_wp2_with(first|(refine As rfl 273 _ rfl g2 rfl _ _ _ _ aE FQ rfl (F3 _ _ _ _ _ _ _ _) ?_)|(refine Ae rfl 273 _ _ rfl g1 #[.int .i64 (k':Nat),a,c,.slice (some ⟨Z,0,none⟩) N cv,.bool true,.int .i64 mn,.int .i64 mx,.slice (some ⟨gr,0,none⟩) M M] rfl rfl _ _ aw (F3 _ _ _ _ _ _ _ _) rfl (KO rfl (b _ (by simp)) (b _ (by simp)) rfl rfl rfl rfl rfl) ?_));refine Ag (Au rfl _ _ g1 _ _ _ _ rfl (Aa _ _ _ _ _ _ aw) FQ rfl (F3 _ _ _ _ _ _ _ _)) rfl ?_;refine⟨[.int .i64 (k':Nat),a,c,.slice (some ⟨Z,0,none⟩) N cv]++[.bool true,.int .i64 mn,.int .i64 mx,.slice (some ⟨gr,0,none⟩) M M],rfl,?_,aF.setRow (AE ad) _⟩;have ag:=(AG [g1] (w3.setCell ⟨g2,7,none⟩ (.slice (some ⟨gr,0,none⟩) M M))).setRow (g:=g1) (by simp) #[.int .i64 (k':Nat),a,c,.slice (some ⟨Z,0,none⟩) N cv,.bool true,.int .i64 mn,.int .i64 mx,.slice (some ⟨gr,0,none⟩) M M];have aG:M=steps mn mx+1:=by rw[HM.o,HK.o]
   rw[aG]at ay ag ax⊢;exact .rep mn mx x _ _ aq ab.1 ab.2 ar ((ax.keep ag (by intro y r;simp;omega)).mono fun y r _=>by have:=E.size;omega) ((ay.keep ag (by intro y r;simp;omega)).mono fun y r _=>by have:=E.size;omega)
