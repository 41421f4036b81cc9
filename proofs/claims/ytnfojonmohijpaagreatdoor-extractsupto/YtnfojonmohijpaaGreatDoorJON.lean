/-
  DERIVED. Plain mathematics: patterns that are read have no more than 61 ways side by side; so have the trees' places two digits at most; what Match answers. Nothing of the program stands here.
-/
import Derived.Test.YtnfojonmohijpaaGreatDoorJNS
import Derived.Test.YtnfojonmohijpaaGreatDoorJBH
set_option linter.all false
set_option maxRecDepth 100000
set_option maxHeartbeats 8000000
namespace Go.Proofs.YtnfojonmohijpaaGreatDoor
open Go.RowKit
variable{s:ByteArray}{g i j mn:Nat}{J:Bu}{t:Tr}{w:World}{cs:List Value}{ts:List Tr}{y:AD}{mx:Int}
def DO:=@Tryz.underlying88
def Di:=@Nat.add_zero
def AD.thin:AD->Prop
 | .set _=>True
 | .grp _ x=>x.thin
 | .rep _ _ x=>x.thin
 | .pnil=>True
 | .pcons x r=>x.thin∧r.thin
 | .wone x=>x.thin
 | .wcons x r=>(wl r).length<=98∧x.thin∧r.thin
theorem G.thin{k:Kd}{d:Nat}{q:R (AD×Nat)}(h:G s k d g i q):d<=6->g<=9->i<=s.size->s.size<=60->∀x g1 j,q=.ok (x,g1) j->g<=g1∧g1<=9∧x.fair g1∧x.thin∧(k=.ways->(wl x).length<=j-i+1):=by
 induction h with
 |one d g i g1 j x _ e ih=>
  intro hd m hi n p b t a;cases a;obtain⟨u,a2,a3,a4,_⟩:=ih hd m hi n x g1 j rfl;exact⟨u,a2,a3,a4,fun _=>by simp[wl]⟩
 |more d g i g1 j x q z e w ih v=>
  intro hd m hi n p b t a;cases q with
  |bad l=>cases a
  |ok y l=>
   obtain⟨u,a2,a3,a4,_⟩:=ih hd m hi n x g1 j rfl;have E:=z.okb x g1 j rfl;have L:j<s.size:=Ap (by omega);obtain⟨A,B,C,D,F⟩:=v hd a2 (by omega) n y.1 y.2 l rfl;have H:=w.okb y.1 y.2 l rfl;have I:=F rfl;have M:=H.2.1 (by omega);cases a;refine⟨by omega,B,⟨a3.up A,C⟩,⟨by omega,a4,D⟩,fun _=>?_⟩;simp only[wl,Aj];omega
 |wbad=>intro _ _ _ _ p b t a;cases a
 |nil d g i e=>intro hd m hi n p b t a;cases a;exact⟨AP _,m,trivial,trivial,fun h=>by cases h⟩
 |cons d g i g1 j x q e z w ih v=>
  intro hd m hi n p b t a;cases q with
  |bad l=>cases a
  |ok y l=>
   obtain⟨u,a2,a3,a4,_⟩:=ih hd m hi n x g1 j rfl;have E:=z.okb x g1 j rfl;obtain⟨A,B,C,D,_⟩:=v hd a2 (E.2.1 hi) n y.1 y.2 l rfl;cases a;exact⟨by omega,B,⟨a3.up A,C⟩,⟨a4,D⟩,fun h=>by cases h⟩
 |pbad=>intro _ _ _ _ p b t a;cases a
 |rep d g i g1 j x q _ r ih=>
  intro hd m hi n p b t a;obtain⟨u,a2,a3,a4,_⟩:=ih hd m hi n x g1 j rfl;cases q with
  |bad l=>cases a
  |ok o l=>
   cases o with
   |none=>cases a;exact⟨u,a2,a3,a4,fun h=>by cases h⟩
   |some J=>
    obtain⟨mn,mx⟩:=J;cases a;exact⟨u,a2,⟨r.fair,a3⟩,a4,fun h=>by cases h⟩
 |sbad=>intro _ _ _ _ p b t a;cases a
 |deep=>intro _ _ _ _ p b t a;cases a
 |grp d g i g1 j x e o _ c ih=>
  intro hd m hi n p b t a;cases a;have K:i<s.size:=Ap (by omega);obtain⟨u,a2,a3,a4,_⟩:=ih (by omega) (by omega) (by omega) n x g1 j rfl;exact⟨by omega,a2,⟨by omega,u,a3⟩,a4,fun h=>by cases h⟩
 |gopen=>intro _ _ _ _ p b t a;cases a
 |gbad=>intro _ _ _ _ p b t a;cases a
 |set d g i q e r=>
  intro hd m hi n p b t a;cases q with
  |bad l=>cases a
  |ok f l=>cases a;exact⟨AP _,m,trivial,trivial,fun h=>by cases h⟩
 |dot d g i e=>intro hd m hi n p b t a;cases a;exact⟨AP _,m,trivial,trivial,fun h=>by cases h⟩
 |esc d g i e=>
  intro hd m hi n p b t a;cases w:A9 s 0 (i+1)with
  |bad l=>rw[w]at a;cases a
  |ok f l=>rw[w]at a;cases a;exact⟨AP _,m,trivial,trivial,fun h=>by cases h⟩
 |no=>intro _ _ _ _ p b t a;cases a
 |lit d g i e=>intro hd m hi n p b t a;cases a;exact⟨AP _,m,trivial,trivial,fun h=>by cases h⟩
theorem B6.good{W:Whole}(e:s.size<=60)(h:B6 s (.ok W j)):W.x.fair 9∧W.x.thin∧W.g<=9:=by
 obtain⟨f,i,a⟩:=h;cases f with
 |bad l=>cases a
 |ok k l=>
  obtain⟨x,g⟩:=k;have b:wi s<=s.size:=by
   unfold wi;by_cases h:at' s 0=94
   ·rw[AL h];exact Ap (by omega)
   ·rw[AK h];exact AY _
  obtain⟨_,c,m,n,_⟩:=i.thin (by omega) (by omega) b e x g l rfl;rw[GI]at a;by_cases d:0<=at' s (if at' s l=36 then l+1 else l)
  ·rw[AL d]at a;cases a
  ·rw[AK d]at a;cases a;exact⟨m.up c,n,c⟩
def B9:List (Nat×Nat×Nat)->Nat->Option (Nat×Nat)
 |[],_=>none
 |e::ev,k=>(B9 ev k).orElse fun _=>if e.1=k then some e.2 else none
theorem IY(ev fv:List (Nat×Nat×Nat))(k:Nat):B9 (ev++fv) k=(B9 fv k).orElse fun _=>B9 ev k:=by
 induction ev with
 |nil=>simp[B9]
 |cons e ev ih=>
  rw[DL,B9,ih,B9];cases B9 fv k<;>simp
theorem Lj:∀(ev:List (Nat×Nat×Nat))(l:List Int)(q:Nat),(∀e,e∈ev->1<=e.1)->(evs l ev)[q]? =match B9 ev (q/2+1)with|some (i,j)=>if q<l.length then some (if q%2=0 then(i:Int)else(j:Int))else none|none=>l[q]?
 |[],l,q,_=>rfl
 |(n,i,j)::ev,l,q,h=>by
  have d:=h (n,i,j) (by simp);simp only at d;rw[evs,Lj ev _ q (fun e he=>h e (by simp[he]))];cases b:B9 ev (q/2+1)with
  |some p=>simp[B9,b]
  |none=>
   simp only[B9,b,Option.orElse_none];by_cases he:n=q/2+1
   ·rw[AL he];simp only[List.getElem?_set,List.length_set];by_cases c:q%2=0
    ·have a:¬2*n-1=q:=by omega
     have f:2*n-2=q:=by omega
     rw[AK a,AL f,AL c];by_cases hlt:q<l.length
     ·rw[AL hlt,AL (by omega)]
     ·rw[AK hlt,AK (by omega)]
    ·have a:2*n-1=q:=by omega
     rw[AL a,AK c];by_cases hlt:q<l.length
     ·rw[AL hlt,AL (by omega)]
     ·rw[AK hlt,AK (by omega)]
   ·rw[AK he];simp only[List.getElem?_set,List.length_set];rw[AK (by omega),AK (by omega)]
theorem T1{ev fv:List (Nat×Nat×Nat)}(a:∀e,e∈ev->1<=e.1)(b:∀e,e∈fv->1<=e.1)(h:∀k,B9 ev k=B9 fv k)(l:List Int):evs l ev=evs l fv:=by
 apply Hd;intro q;rw[Lj ev l q a,Lj fv l q b,h]
def Tr.pevs:Tr->Nat->List (Nat×Nat×Nat)
 | .tnil,_=>[]
 | .tbyte _,_=>[]
 | .tgrp k x,i=>x.pevs i++[(k,i,i+x.len)]
 | .talt _ x,i=>x.pevs i
 | .tser l,i=>l.pevs i
 | .trep l,i=>l.pevs i
 | .lnil,_=>[]
 | .lcons x r,i=>x.pevs i++r.pevs (i+x.len)
def Tr.has(k:Nat):Tr->Prop
 | .tnil=>False
 | .tbyte _=>False
 | .tgrp n x=>n=k∨x.has k
 | .talt _ x=>x.has k
 | .tser l=>l.has k
 | .trep l=>l.has k
 | .lnil=>False
 | .lcons x r=>x.has k∨r.has k
def AD.has(k:Nat):AD->Prop
 | .set _=>False
 | .grp n x=>n=k∨x.has k
 | .rep _ _ x=>x.has k
 | .pnil=>False
 | .pcons x r=>x.has k∨r.has k
 | .wone x=>x.has k
 | .wcons x r=>x.has k∨r.has k
def AD.nest:AD->Prop
 | .set _=>True
 | .grp n x=>1<=n∧¬x.has n∧x.nest
 | .rep _ _ x=>x.nest
 | .pnil=>True
 | .pcons x r=>x.nest∧r.nest
 | .wone x=>x.nest
 | .wcons x r=>x.nest∧r.nest
def Tr.nest:Tr->Prop
 | .tnil=>True
 | .tbyte _=>True
 | .tgrp n x=>1<=n∧¬x.has n∧x.nest
 | .talt _ x=>x.nest
 | .tser l=>l.nest
 | .trep l=>l.nest
 | .lnil=>True
 | .lcons x r=>x.nest∧r.nest
def Bu.has(k:Nat):Bu->Prop
 | .node x=>x.has k
 | .kids r=>r.has k
 | .times _ _ x=>x.has k
 | .alts _ r=>r.has k
def Bu.nest:Bu->Prop
 | .node x=>x.nest
 | .kids r=>r.nest
 | .times _ _ x=>x.nest
 | .alts _ r=>r.nest
theorem TT.has(h:TT s J i j t)(k:Nat):t.has k->J.has k:=by
 induction h with
 |byte=>exact id
 |grp n x i j t _ _ ih=>exact fun h=>h.elim Or.inl fun h=>Or.inr (ih h)
 |nil=>exact id
 |lone x i j t _ ih=>exact fun h=>AH (ih h)
 |row x y r i j l _ ih=>exact ih
 |kend=>exact fun h=>h.elim
 |kgo x r i j c t u _ _ _ a b=>exact fun h=>h.elim (fun h=>Or.inl (a h)) (fun h=>Or.inr (b h))
 |rep mn mx x i j l _ ih=>exact ih
 |tend=>exact fun h=>h.elim
 |tgo mn mx x i j c t u _ _ _ _ a b=>exact fun h=>h.elim a b
 |wone x i j t _ ih=>exact ih
 |wcons x r i j t _ ih=>exact ih
 |hit p x r i j t _ _ ih=>exact fun h=>AH (ih h)
 |miss p x r i j t _ _ ih=>exact fun h=>AE (ih h)
 |last p x i j t _ ih=>exact ih
theorem TT.nest(h:TT s J i j t):J.nest->t.nest:=by
 induction h with
 |byte=>exact id
 |grp n x i j t _ d ih=>exact fun h=>⟨h.1,fun e=>h.2.1 (d.has n e),ih h.2.2⟩
 |nil=>exact id
 |lone x i j t _ ih=>exact fun h=>ih h.1
 |row x y r i j l _ ih=>exact ih
 |kend=>exact fun _=>trivial
 |kgo x r i j c t u _ _ _ a b=>exact fun h=>⟨a h.1,b h.2⟩
 |rep mn mx x i j l _ ih=>exact ih
 |tend=>exact fun _=>trivial
 |tgo mn mx x i j c t u _ _ _ _ a b=>exact fun h=>⟨a h,b h⟩
 |wone x i j t _ ih=>exact ih
 |wcons x r i j t _ ih=>exact ih
 |hit p x r i j t _ _ ih=>exact fun h=>ih h.1
 |miss p x r i j t _ _ ih=>exact fun h=>ih h.2
 |last p x i j t _ ih=>exact ih
theorem Tr.evs_has{k:Nat}:∀{t:Tr}{i:Nat},¬t.has k->B9 (t.evs i) k=none
 | .tnil,_,_=>rfl
 | .tbyte _,_,_=>rfl
 | .tgrp n x,i,h=>by
  rw[Tr.evs,B9,Tr.evs_has (t:=x) fun a=>h (AE a),AK fun e=>h (AH e)];rfl
 | .talt _ x,i,h=>Tr.evs_has (t:=x) (i:=i) h
 | .tser l,i,h=>Tr.evs_has (t:=l) (i:=i) h
 | .trep l,i,h=>Tr.evs_has (t:=l) (i:=i) h
 | .lnil,_,_=>rfl
 | .lcons x r,i,h=>by
  rw[Tr.evs,IY,Tr.evs_has (t:=x) fun a=>h (AH a),Tr.evs_has (t:=r) fun a=>h (AE a)];rfl
theorem Tr.evs_pos:∀{t:Tr}{i:Nat},t.nest->∀e,e∈t.evs i->1<=e.1
 | .tnil,_,_,e,he=>by cases he
 | .tbyte _,_,_,e,he=>by cases he
 | .tgrp n x,i,h,e,he=>by
  rcases Az.1 he with rfl|he
  ·exact h.1
  ·exact Tr.evs_pos h.2.2 e he
 | .talt _ x,i,h,e,he=>Tr.evs_pos (t:=x) (i:=i) h e he
 | .tser l,i,h,e,he=>Tr.evs_pos (t:=l) (i:=i) h e he
 | .trep l,i,h,e,he=>Tr.evs_pos (t:=l) (i:=i) h e he
 | .lnil,_,_,e,he=>by cases he
 | .lcons x r,i,h,e,he=>by
  rcases Bb.1 he with he|he
  ·exact Tr.evs_pos h.1 e he
  ·exact Tr.evs_pos h.2 e he
def Tr.alike:Tr->Nat->List (Nat×Nat×Nat)->Prop
 | .lcons y r,i,e=>y.len=0∧y.evs i=e∧r.alike i e
 |_,_,_=>True
def Tr.still:Tr->Nat->Prop
 | .lcons x r,i=>(x.len=0->r.alike i (x.evs i))∧r.still (i+x.len)
 |_,_=>True
def Tr.calm:Tr->Nat->Prop
 | .tnil,_=>True
 | .tbyte _,_=>True
 | .tgrp _ x,i=>x.calm i
 | .talt _ x,i=>x.calm i
 | .tser l,i=>l.calm i
 | .trep l,i=>l.calm i∧l.still i
 | .lnil,_=>True
 | .lcons x r,i=>x.calm i∧r.calm (i+x.len)
def Bu.still:Bu->Tr->Nat->Prop
 | .times _ _ _,t,i=>t.still i
 |_,_,_=>True
theorem T2{x:AD}{e:List (Nat×Nat×Nat)}{u:Tr}(h:TT s J i j u):∀(mn:Nat)(mx:Int),J=.times mn mx x->i=j->Tm (Mt s x) mn mx i j->(∀t,TT s (.node x) i i t->Mt s x i i->t.evs i=e)->u.alike i e:=by
 induction h with
 |tend=>intro _ _ _ _ _ _;trivial
 |tgo m n v i j c t u o a k hu _ b=>
  intro mn mx d f p he;cases d;subst f;obtain⟨⟨l,q⟩,_⟩:=Tm.cut (fun _ _ h=>h.le) p o a;have g:c=i:=by have r:=a.1;have w:=a.2.1;omega
  subst g;have r:=(k.toTR l).2;exact⟨by omega,he t k l,b _ _ rfl rfl q he⟩
 |_=>intro _ _ d;cases d
theorem TT.calm(h:TT s J i j t):J.ok s i j->t.calm i∧J.still t i:=by
 have hle:∀{x:AD}(i j:Nat),Mt s x i j->i<=j:=fun _ _ h=>h.le
 induction h with
 |byte=>intro _;exact⟨trivial,trivial⟩
 |grp n x i j t _ _ ih=>intro h;exact⟨(ih h).1,trivial⟩
 |nil=>intro _;exact⟨trivial,trivial⟩
 |lone x i j t _ ih=>
  rintro⟨m,a,b⟩;have A:m=j:=b;subst A;exact⟨(ih a).1,trivial⟩
 |row x y r i j l _ ih=>intro h;exact⟨(ih h).1,trivial⟩
 |kend=>intro _;exact⟨trivial,trivial⟩
 |kgo x r i j c t u k o hu g f=>
  rintro⟨m,a,b⟩;have d:=k.hit ⟨m,a.le,b.le,a,b⟩;have e:=(o.toTR d.1).2;exact⟨⟨(g d.1).1,by rw[e];exact(f d.2).1⟩,trivial⟩
 |rep mn mx x i j l _ ih=>intro h;exact⟨⟨(ih h).1,(ih h).2⟩,trivial⟩
 |tend=>intro _;exact⟨trivial,trivial⟩
 |tgo mn mx x i j c t u B k o hu g f=>
  intro h;obtain⟨d,_⟩:=Tm.cut hle h B k;have e:=(o.toTR d.1).2;refine⟨⟨(g d.1).1,by rw[e];exact(f d.2).1⟩,?_,by rw[e];exact(f d.2).2⟩;intro E;have q:c=i:=by omega
  subst q;have v:c=j:=by
   rcases DU c j with hlt|C
   ·exact absurd (Tm.cutFront hle (fun i m h=>Mt.null h) h hlt k).1 (by omega)
   ·have:=k.2.1;omega
  subst v;exact T2 hu _ _ rfl rfl d.2 fun F w z=>((w.toTR z).1.det _ _ (o.toTR d.1).1).2
 |wone x i j t _ ih=>intro h;exact⟨(ih h).1,trivial⟩
 |wcons x r i j t _ ih=>intro h;exact⟨(ih h).1,trivial⟩
 |hit p x r i j t hm _ ih=>intro _;exact⟨(ih hm).1,trivial⟩
 |miss p x r i j t D _ ih=>intro h;exact⟨(ih (Or.resolve_left h D)).1,trivial⟩
 |last p x i j t _ ih=>intro h;exact⟨(ih h).1,trivial⟩
theorem G.nest{k:Kd}{d:Nat}{q:R (AD×Nat)}(h:G s k d g i q):∀x g1 j,q=.ok (x,g1) j->g<=g1∧x.nest∧∀m,x.has m->g<m∧m<=g1:=by
 induction h with
 |one d g i g1 j x _ e ih=>intro n b p a;cases a;exact ih x g1 j rfl
 |more d g i g1 j x q _ e _ ih t=>
  intro n b p a;cases q with
  |bad l=>cases a
  |ok y l=>
   obtain⟨u,a2,a3⟩:=ih x g1 j rfl;obtain⟨A,v,w⟩:=t y.1 y.2 l rfl;cases a;exact⟨by omega,⟨a2,v⟩,fun m hm=>hm.elim (fun h=>by have:=a3 m h;omega) (fun h=>by have:=w m h;omega)⟩
 |wbad=>intro n b p a;cases a
 |nil d g i e=>intro n b p a;cases a;exact⟨AP _,trivial,fun m h=>h.elim⟩
 |cons d g i g1 j x q e _ _ ih t=>
  intro n b p a;cases q with
  |bad l=>cases a
  |ok y l=>
   obtain⟨u,a2,a3⟩:=ih x g1 j rfl;obtain⟨A,v,w⟩:=t y.1 y.2 l rfl;cases a;exact⟨by omega,⟨a2,v⟩,fun m hm=>hm.elim (fun h=>by have:=a3 m h;omega) (fun h=>by have:=w m h;omega)⟩
 |pbad=>intro n b p a;cases a
 |rep d g i g1 j x q _ r ih=>
  intro n b p a;obtain⟨u,a2,a3⟩:=ih x g1 j rfl;cases q with
  |bad l=>cases a
  |ok o l=>
   cases o with
   |none=>cases a;exact⟨u,a2,a3⟩
   |some B=>obtain⟨mn,mx⟩:=B;cases a;exact⟨u,a2,a3⟩
 |sbad=>intro n b p a;cases a
 |deep=>intro n b p a;cases a
 |grp d g i g1 j x e o _ c ih=>
  intro n b p a;cases a;obtain⟨u,a2,a3⟩:=ih x g1 j rfl;refine⟨by omega,⟨by omega,fun h=>by have:=a3 _ h;omega,a2⟩,fun m hm=>?_⟩;rcases hm with h|h
  ·omega
  ·have:=a3 m h;omega
 |gopen=>intro n b p a;cases a
 |gbad=>intro n b p a;cases a
 |set d g i q e r=>
  intro n b p a;cases q with
  |bad l=>cases a
  |ok f l=>cases a;exact⟨AP _,trivial,fun m h=>h.elim⟩
 |dot d g i e=>intro n b p a;cases a;exact⟨AP _,trivial,fun m h=>h.elim⟩
 |esc d g i e=>
  intro n b p a;cases z:A9 s 0 (i+1)with
  |bad l=>rw[z]at a;cases a
  |ok f l=>rw[z]at a;cases a;exact⟨AP _,trivial,fun m h=>h.elim⟩
 |no=>intro n b p a;cases a
 |lit d g i e=>intro n b p a;cases a;exact⟨AP _,trivial,fun m h=>h.elim⟩
def Tr.bev:Tr->Bool->Nat->List (Nat×Nat×Nat)
 | .tnil,_,_=>[]
 | .tbyte _,_,_=>[]
 | .tgrp k x,_,i=>x.bev false i++[(k,i,i+x.len)]
 | .talt _ x,_,i=>x.bev false i
 | .tser l,_,i=>l.bev false i
 | .trep l,_,i=>l.bev true i
 | .lnil,_,_=>[]
 | .lcons x r,b,i=>x.bev false i++(if b=true∧x.len=0 then[]else r.bev b (i+x.len))
def Tr.isR:Tr->Prop
 | .lnil=>True
 | .lcons _ r=>r.isR
 |_=>False
def Tr.fit:Tr->Prop
 | .tnil=>True
 | .tbyte _=>True
 | .tgrp _ x=>x.fit
 | .talt _ x=>x.fit
 | .tser l=>l.isR∧l.fit
 | .trep l=>l.isR∧l.fit
 | .lnil=>True
 | .lcons x r=>x.fit∧r.fit
theorem Lk{e:List (Nat×Nat×Nat)}{k:Nat}:∀{r:Tr}{i:Nat},r.isR->r.alike i e->r.len=0∧(B9 (r.evs i) k=none∨B9 (r.evs i) k=B9 e k)
 | .lnil,_,_,_=>⟨rfl,AH rfl⟩
 | .lcons y r,i,c,h=>by
  obtain⟨d,f,g⟩:=h;obtain⟨a,b⟩:=Lk (k:=k) (r:=r) (i:=i) c g;refine⟨by simp only[Tr.len];omega,AE ?_⟩;rw[Tr.evs,d,Di,IY,f];rcases b with b|b
  ·rw[b];rfl
  ·rw[b];cases B9 e k<;>rfl
 | .tnil,_,h,_=>h.elim
 | .tbyte _,_,h,_=>h.elim
 | .tgrp _ _,_,h,_=>h.elim
 | .talt _ _,_,h,_=>h.elim
 | .tser _,_,h,_=>h.elim
 | .trep _,_,h,_=>h.elim
theorem Tr.bev_last{k:Nat}:∀{t:Tr}{b:Bool}{i:Nat},t.nest->t.fit->t.calm i->(b=true->t.isR∧t.still i)->B9 (t.bev b i) k=B9 (t.evs i) k
 | .tnil,_,_,_,_,_,_=>rfl
 | .tbyte _,_,_,_,_,_,_=>rfl
 | .tgrp n x,_,i,h,a,c,_=>by
  have ih:=Tr.bev_last (k:=k) (t:=x) (b:=false) (i:=i) h.2.2 a c (fun h=>by cases h);rw[Tr.bev,Tr.evs,IY,ih,B9,B9,B9];by_cases he:n=k
  ·subst he;rw[Tr.evs_has h.2.1];simp
  ·simp only[AK he];cases B9 (x.evs i) k<;>rfl
 | .talt _ x,_,i,h,a,c,_=>Tr.bev_last (t:=x) (b:=false) (i:=i) h a c (fun h=>by cases h)
 | .tser l,_,i,h,a,c,_=>Tr.bev_last (t:=l) (b:=false) (i:=i) h a.2 c (fun h=>by cases h)
 | .trep l,_,i,h,a,c,_=>Tr.bev_last (t:=l) (b:=true) (i:=i) h a.2 c.1 (fun _=>⟨a.1,c.2⟩)
 | .lnil,_,_,_,_,_,_=>rfl
 | .lcons x r,b,i,h,a,c,f=>by
  have j:=Tr.bev_last (k:=k) (t:=x) (b:=false) (i:=i) h.1 a.1 c.1 (fun h=>by cases h);rw[Tr.bev,Tr.evs];by_cases hb:b=true∧x.len=0
  ·rw[AL hb,CT,j,hb.2,Di,IY];obtain⟨m,g⟩:=f hb.1;obtain⟨_,d⟩:=Lk (k:=k) (r:=r) (i:=i) m (g.1 hb.2);rcases d with d|d
   ·rw[d];rfl
   ·rw[d];cases B9 (x.evs i) k<;>rfl
  ·rw[AK hb,IY,IY,j];rw[Tr.bev_last (k:=k) (t:=r) (b:=b) (i:=i+x.len) h.2 a.2 c.2 (fun e=>⟨(f e).1,(f e).2.2⟩)]
theorem Tr.bev_pos:∀{t:Tr}{b:Bool}{i:Nat},t.nest->∀e,e∈t.bev b i->1<=e.1
 | .tnil,_,_,_,e,he=>by cases he
 | .tbyte _,_,_,_,e,he=>by cases he
 | .tgrp n x,_,i,h,e,he=>by
  rcases Bb.1 he with he|he
  ·exact Tr.bev_pos h.2.2 e he
  ·simp only[Dc]at he;subst he;exact h.1
 | .talt _ x,_,i,h,e,he=>Tr.bev_pos (t:=x) (b:=false) (i:=i) h e he
 | .tser l,_,i,h,e,he=>Tr.bev_pos (t:=l) (b:=false) (i:=i) h e he
 | .trep l,_,i,h,e,he=>Tr.bev_pos (t:=l) (b:=true) (i:=i) h e he
 | .lnil,_,_,_,e,he=>by cases he
 | .lcons x r,b,i,h,e,he=>by
  rcases Bb.1 he with he|he
  ·exact Tr.bev_pos h.1 e he
  ·by_cases hb:b=true∧x.len=0
   ·rw[AL hb]at he;cases he
   ·rw[AK hb]at he;exact Tr.bev_pos h.2 e he
theorem T3(h:t.nest)(a:t.fit)(b:t.calm i)(l:List Int):evs l (t.bev false i)=evs l (t.evs i):=
 T1 (Tr.bev_pos h) (Tr.evs_pos h) (fun _=>Tr.bev_last h a b (fun hb=>by cases hb)) l
def Cf:List Int->List (Nat×Nat×Nat)->List Int
 |L,[]=>L
 |L,(n,i,j)::ev=>Cf ((L.set (2*n) i).set (2*n+1) j) ev
theorem KR:∀(ev fv:List (Nat×Nat×Nat))(L:List Int),Cf L (ev++fv)=Cf (Cf L ev) fv
 |[],fv,L=>rfl
 |(n,i,j)::ev,fv,L=>by rw[DL,Cf,Cf];exact KR ev fv _
theorem Ol(a b:Int):∀(ev:List (Nat×Nat×Nat))(l:List Int),(∀e,e∈ev->1<=e.1)->Cf (a::b::l) ev=a::b::evs l ev
 |[],l,_=>rfl
 |(n,i,j)::ev,l,h=>by
  have c:=h (n,i,j) (by simp);simp only at c;obtain⟨m,rfl⟩:∃m,n=m+1:=⟨n-1,by omega⟩;rw[Cf,evs];have d:2*(m+1)=2*m+1+1:=by omega
  have f:2*(m+1)-2=2*m:=by omega
  have g:2*(m+1)-1=2*m+1:=by omega
  rw[f,g,d,List.set_cons_succ,List.set_cons_succ,List.set_cons_succ,List.set_cons_succ];exact Ol a b ev _ fun e he=>h e (by simp[he])
def DP:Nat->Tr->Tr
 |0,r=>r
 |m+1,.lcons _ r=>DP m r
 |_+1,_=> .lnil
theorem Om:∀{r:Tr}{m:Nat}{x:Tr},r.isR->(tl r)[m]? =some x->DP m r=.lcons x (DP (m+1) r)
 | .lcons y r,0,x,_,h=>by
  simp[tl]at h;subst h;cases r<;>rfl
 | .lcons y r,m+1,x,a,h=>by
  have b:(tl r)[m]? =some x:=by simpa[tl]using h
  have:=Om (r:=r) a b;exact this
 | .lnil,m,x,_,h=>by simp[tl]at h
 | .tnil,_,_,h,_=>h.elim
 | .tbyte _,_,_,h,_=>h.elim
 | .tgrp _ _,_,_,h,_=>h.elim
 | .talt _ _,_,_,h,_=>h.elim
 | .tser _,_,_,h,_=>h.elim
 | .trep _,_,_,h,_=>h.elim
theorem On:∀{r:Tr},r.isR->DP (tl r).length r=.lnil
 | .lcons y r,a=>by
  have:=On (r:=r) a;exact this
 | .lnil,_=>rfl
 | .tnil,h=>h.elim
 | .tbyte _,h=>h.elim
 | .tgrp _ _,h=>h.elim
 | .talt _ _,h=>h.elim
 | .tser _,h=>h.elim
 | .trep _,h=>h.elim
theorem Oo:∀{r:Tr}{m:Nat},r.isR->(DP m r).isR
 |r,0,h=>by cases r<;>exact h
 | .lcons y r,m+1,h=>Oo (r:=r) (m:=m) h
 | .lnil,m+1,_=>trivial
 | .tnil,_+1,h=>h.elim
 | .tbyte _,_+1,h=>h.elim
 | .tgrp _ _,_+1,h=>h.elim
 | .talt _ _,_+1,h=>h.elim
 | .tser _,_+1,h=>h.elim
 | .trep _,_+1,h=>h.elim
theorem Bs(a b c:Value):(Tryz.prog.info? 88).map (·.size)=some (#[a,b,c]:Array Value).size:=by kernel_rfl
theorem Dj{a b c:Value}(d:a.oneCell'=true)(hb:b.oneCell'=true)(e:c.oneCell'=true):(#[a,b,c]:Array Value).all (·.oneCell')=true:=by simp[d,hb,e]
theorem IZ(w:World)(x y z:Obj):(((w.alloc x).alloc y).alloc z).heap[w.heap.size]? =some x:=by
 have a:=C2 w x y;have b:AA [] ((w.alloc x).alloc y) (((w.alloc x).alloc y).alloc z):=(AG [] _).alloc _;exact(b.block _ (by simp;omega) (by simp)).trans a
theorem Ia(w:World)(x y z:Obj):(((w.alloc x).alloc y).alloc z).heap[w.heap.size+1]? =some y:=by
 have a:=Df w x y;have b:AA [] ((w.alloc x).alloc y) (((w.alloc x).alloc y).alloc z):=(AG [] _).alloc _;exact(b.block _ (by simp) (by simp)).trans a
theorem Ib(w:World)(x y z:Obj):(((w.alloc x).alloc y).alloc z).heap[w.heap.size+2]? =some z:=by
 have:=AS ((w.alloc x).alloc y) z;simpa using this
theorem Ic(w:World)(x y z:Obj):AA [] w (((w.alloc x).alloc y).alloc z):=(((AG [] w).alloc _).alloc _).alloc _
theorem T4{a b c d e f:Value}(h:w.heap[g]? =some (.cells #[a,b,c,d,.string s,e,f] 80 (0,0))):w.cell? ⟨g,4,none⟩=some (.string s):=by rw[AU h];rfl
theorem Ll(a:cs.length=3):(w.alloc (.cells cs.toArray 88)).ownsRow 0 88 3 (.slice (some ⟨w.heap.size,0,none⟩) 1 1) 1 cs:=
 ⟨by omega,.inr ⟨w.heap.size,1,cs.toArray,rfl,AY _,AS w _,AP _,by decide,by simpa using a,by simp[<-a]⟩⟩
theorem T5(s:ByteArray)(N:Nat)(hs:s.size<=100)(n:Nat)(IW:Lf s N n):Li s N (n+1):=by
 intro x hx w S cs m i j hm hM aa hj F;obtain⟨m0,m1,m2,m3,m5,m6,rfl,o0,o1,o2,o3,o5,o6⟩:=hM.ok;cases hm with
 |set f v ab=>
  have b:=Ic w (.cells #[m0,m1,m2,m3,.string s,m5,m6] 80) (.cells #[.int .i64 0,.slice none 0 0,.slice none 0 0,v] 271) (.cells #[.int .u8 0,.int .i64 0,.slice none 0 0] 88);have E:=IZ w (.cells #[m0,m1,m2,m3,.string s,m5,m6] 80) (.cells #[.int .i64 0,.slice none 0 0,.slice none 0 0,v] 271) (.cells #[.int .u8 0,.int .i64 0,.slice none 0 0] 88);have r:=Ia w (.cells #[m0,m1,m2,m3,.string s,m5,m6] 80) (.cells #[.int .i64 0,.slice none 0 0,.slice none 0 0,v] 271) (.cells #[.int .u8 0,.int .i64 0,.slice none 0 0] 88);have A:=Ib w (.cells #[m0,m1,m2,m3,.string s,m5,m6] 80) (.cells #[.int .i64 0,.slice none 0 0,.slice none 0 0,v] 271) (.cells #[.int .u8 0,.int .i64 0,.slice none 0 0] 88);obtain⟨hlt,hf,ac⟩:=F;go_enter Tryz.func215,Tryz.ntmps215;go_upto_region 1 with(fail)
  generalize(((w.alloc (.cells #[m0,m1,m2,m3,.string s,m5,m6] 80)).alloc (.cells #[.int .i64 0,.slice none 0 0,.slice none 0 0,v] 271)).alloc (.cells #[.int .u8 0,.int .i64 0,.slice none 0 0] 88))=X at*;obtain⟨g0,G⟩:=AQ w.heap.size;obtain⟨g1,H⟩:=AQ (w.heap.size+1);obtain⟨g2,I⟩:=AQ (w.heap.size+2);rw[<-I]at A⊢;rw[<-H]at r⊢;rw[<-G]at E⊢;have d:w.heap.size<=g2:=by omega
  clear G H I;have c4:=T4 E;have d0:X.cell? ⟨g1,0,none⟩=some (.int .i64 0):=by rw[AU r];rfl
  have aj:(0:Int)<=(i:Int):=by omega
  have ak:(i:Int)<(s.size:Int):=by omega
  have hb:at' s i=(s[i].toNat:Int):=Bd hlt;have ad:s[i].toNat<256:=UInt8.toNat_lt _;have HT:Hid (TT s (.node (.set f)) i j (.tbyte s[i].toNat)):=by
   have h:(at' s i).toNat=s[i].toNat:=by rw[hb];rfl
   have:=TT.byte (s:=s) f i j;rw[h]at this;exact this
  clear hb hf ac;go_wp2_with(first|(refine Ae rfl 88 _ _ rfl g2 #[.int .u8 98,.int .i64 (s[i].toNat:Int),.slice none 0 0] rfl rfl _ _ A (Bs _ _ _) rfl (Dj rfl rfl rfl) ?_));refine Ag (Au rfl _ _ g2 _ _ _ _ rfl (Aa _ _ _ _ _ _ A) DO rfl (Bs _ _ _)) rfl ?_;exact⟨.tbyte s[i].toNat,[.int .u8 98,.int .i64 (s[i].toNat:Int),.slice none 0 0],rfl,.tbyte _ ad,HT.o,b.setRow (AE d) _⟩
 |grp k y a c al h9 J=>
  obtain⟨ag,a',c',e',ab⟩:=J.form;simp only[Bc,CD]at e';obtain⟨rfl,rfl⟩:=e';have b:=Ic w (.cells #[m0,m1,m2,m3,.string s,m5,m6] 80) (.cells #[.int .i64 k,a,c,c] 271) (.cells #[.int .u8 0,.int .i64 0,.slice none 0 0] 88);have E:=IZ w (.cells #[m0,m1,m2,m3,.string s,m5,m6] 80) (.cells #[.int .i64 k,a,c,c] 271) (.cells #[.int .u8 0,.int .i64 0,.slice none 0 0] 88);have r:=Ia w (.cells #[m0,m1,m2,m3,.string s,m5,m6] 80) (.cells #[.int .i64 k,a,c,c] 271) (.cells #[.int .u8 0,.int .i64 0,.slice none 0 0] 88);have A:=Ib w (.cells #[m0,m1,m2,m3,.string s,m5,m6] 80) (.cells #[.int .i64 k,a,c,c] 271) (.cells #[.int .u8 0,.int .i64 0,.slice none 0 0] 88);have ah:((k:Int)==0)=false:=by simpa using(by omega:¬(k:Int)=0)
  go_enter Tryz.func215,Tryz.ntmps215;go_upto_region 1 with(fail)
  generalize(((w.alloc (.cells #[m0,m1,m2,m3,.string s,m5,m6] 80)).alloc (.cells #[.int .i64 k,a,c,c] 271)).alloc (.cells #[.int .u8 0,.int .i64 0,.slice none 0 0] 88))=X at*;obtain⟨g0,G⟩:=AQ w.heap.size;obtain⟨g1,H⟩:=AQ (w.heap.size+1);obtain⟨g2,I⟩:=AQ (w.heap.size+2);rw[<-I]at A⊢;rw[<-H]at r⊢;rw[<-G]at E⊢;have d:w.heap.size<=g2:=by omega
  have K:g2<X.heap.size:=(AN.1 A).1;have L:g1<X.heap.size:=(AN.1 r).1;clear G H I;have d0:X.cell? ⟨g1,0,none⟩=some (.int .i64 k):=by rw[AU r];rfl
  have d1:X.cell? ⟨g1,1,none⟩=some a:=by rw[AU r];rfl
  have d2:X.cell? ⟨g1,2,none⟩=some c:=by rw[AU r];rfl
  have M:y.sz<=n:=by simp[AD.sz]at hx;omega
  have hC:=IW y M X S [a,c] #[m0,m1,m2,m3,.string s,m5,m6] i j (J.keep b (by simp)) hM aa hj F;go_wp2_with(first|(refine As rfl 80 _ rfl g0 rfl _ _ _ _ E Ck rfl (Cq _ _ _ _ _ _ _) ?_));refine hC.mono ?_;rintro e w1⟨t,cs,rfl,B,ae,l⟩;obtain⟨p,q,va,vn,vc,rfl⟩:=B.form;have O:=(l.block g2 K (by simp)).trans A;have P:=(Ad (l.block g1 L (by simp))).trans d0;have C:(w1.alloc (.cells #[.int .u8 0,.int .i64 0,.slice none 0 0] 88)).heap[w1.heap.size]? =some (.cells #[.int .u8 0,.int .i64 0,.slice none 0 0] 88 (0,0)):=AS w1 _;have u:AA [] w1 ((w1.alloc (.cells #[.int .u8 0,.int .i64 0,.slice none 0 0] 88)).setRow w1.heap.size #[.int .u8 p,.int .i64 q,.slice va vn vc]):=((AG [] w1).alloc _).setRow (AE (AP _)) _;have Q:((w1.alloc (.cells #[.int .u8 0,.int .i64 0,.slice none 0 0] 88)).setRow w1.heap.size #[.int .u8 p,.int .i64 q,.slice va vn vc]).heap[w1.heap.size]? =some (.cells #[.int .u8 p,.int .i64 q,.slice va vn vc] 88 (0,0)):=Aa _ _ _ _ _ _ C;have D:=(u.block g2 (by have:=l.size;omega) (by simp)).trans O;have am:=(Ad (u.block g1 (by have:=l.size;omega) (by simp))).trans P;have R:=B.keep u (by simp);have T:=(b.trans l).trans u;clear hC E r A d0 d1 d2 b O P B;go_upto_region 4 with(first|(refine Ae rfl 88 _ _ rfl w1.heap.size #[.int .u8 p,.int .i64 q,.slice va vn vc] rfl rfl _ _ C (Bs _ _ _) rfl (Dj rfl rfl rfl) ?_;generalize(w1.alloc (.cells #[.int .u8 0,.int .i64 0,.slice none 0 0] 88)).setRow w1.heap.size #[.int .u8 p,.int .i64 q,.slice va vn vc]=w2 at*))
  obtain⟨gt,U⟩:=AQ w1.heap.size;rw[<-U]at Q⊢;clear U C;have hk3:AA [] w2 (w2.alloc (.cells #[.int .u8 p,.int .i64 q,.slice va vn vc] 88)):=(AG [] w2).alloc _;have V:(w2.alloc (.cells #[.int .u8 p,.int .i64 q,.slice va vn vc] 88)).ownsRow 0 88 3 (.slice (some ⟨w2.heap.size,0,none⟩) 1 1) 1 [.int .u8 p,.int .i64 q,.slice va vn vc]:=Ll rfl;have W:=(hk3.block g2 (AN.1 D).1 (by simp)).trans D;have Y:=R.keep hk3 (by simp);have af:=T.trans hk3;have Z:AA [g2] (w2.alloc (.cells #[.int .u8 p,.int .i64 q,.slice va vn vc] 88)) ((w2.alloc (.cells #[.int .u8 p,.int .i64 q,.slice va vn vc] 88)).setRow g2 #[.int .u8 103,.int .i64 k,.slice (some ⟨w2.heap.size,0,none⟩) 1 1]):=(AG [g2] _).setRow (g:=g2) (by simp) _;have ai:g2<w2.heap.size:=(AN.1 D).1;go_wp2_with(first|(refine As rfl 88 _ rfl gt rfl _ _ _ _ Q DO rfl (Bs _ _ _) ?_)|(refine Ae rfl 88 _ _ rfl g2 #[.int .u8 103,.int .i64 k,.slice (some ⟨w2.heap.size,0,none⟩) 1 1] rfl rfl _ _ W (Bs _ _ _) rfl (Dj rfl rfl rfl) ?_));refine Ag (Au rfl _ _ g2 _ _ _ _ rfl (Aa _ _ _ _ _ _ W) DO rfl (Bs _ _ _)) rfl ?_;refine⟨.tgrp k t,[.int .u8 103,.int .i64 k,.slice (some ⟨w2.heap.size,0,none⟩) 1 1],rfl,?_,.grp k y i j t h9 ae,af.setRow (AE d) _⟩;have an:w.heap.size<=w2.heap.size:=T.size;refine .tgrp k t _ [.int .u8 p,.int .i64 q,.slice va vn vc] h9 ((Y.keep Z (by intro z hz;simp;omega)).mono fun z hz _=>by omega) (V.keep Z (by intro z hz;simp only[Value.ownBlock,Ai]at hz;simp;omega)) ?_;intro z hz;simp only[Value.ownBlock,Ai]at hz;omega
theorem infoTree:(Tryz.prog.info? 88).map (fun i=>(i.zero,i.size,i.bytes))=some (some (.agg #[.int .u8 0,.int .i64 0,.slice none 0 0]),3,40):=by kernel_rfl
structure GL (X wr : World) (v : Value) (ts : List Tr) (cs : List Value) : Prop where
 own : wr.ownsRow 0 88 3 v ts.length cs
 fresh : ∀ g, v.ownBlock = some g -> X.heap.size <= g
 tv : TV wr (fun g => X.heap.size <= g ∧ v.ownBlock ≠ some g) false (B0 ts .lnil) cs
 keep : AA [] X wr
theorem GL.start(X:World):GL X X (.slice none 0 0) [] []:=⟨FH _ _ _ _,by simp[Value.ownBlock],.lnil,AG _ _⟩
theorem GL.keeps{X wr w':World}{v:Value}(h:GL X wr v ts cs)(a:AA [] wr w'):GL X w' v ts cs:=⟨h.own.keep a (by simp),h.fresh,h.tv.keep a (by simp),h.keep.trans a⟩
theorem GL.add{X w0 w2 w3 m:World}{v:Value}{ms:List Tr}{ds:List Value}{g' cap:Nat}(h:GL X w2 v ts cs)(hm:TV w3 (fun z=>w0.heap.size<=z) false (B0 ms .lnil) ds)(s:X.heap.size<=w0.heap.size)(o:∀g,v.ownBlock=some g->g<w0.heap.size)(n:AA [] w2 w3)(j:m.ownsRow 0 88 3 (.slice (some ⟨g',0,none⟩) (ts.length+ms.length) cap) (ts.length+ms.length) (cs++ds))(f:w3.grownBy m v.ownBlock)(k:v.ownBlock=some g'∨g'=w3.heap.size):GL X m (.slice (some ⟨g',0,none⟩) (ts.length+ms.length) cap) (ts++ms) (cs++ds):=by
 have hk4:AA v.ownBlock.toList w3 m:=De f;have c:∀z,v.ownBlock≠some z->z<w3.heap.size->(Value.slice (some ⟨g',0,none⟩) (ts.length+ms.length) cap).ownBlock≠some z:=by
  intro z b p e;simp only[Value.ownBlock,Ai]at e;subst e;rcases k with e|e
  ·exact b e
  ·omega
 have d:∀z,v.ownBlock≠some z->z∉v.ownBlock.toList:=by
  intro z b hm;rw[Ay]at hm;exact b hm
 have l:∀q,w0.heap.size<=q->v.ownBlock≠some q:=by
  intro q a e;have:=o q e;omega
 have t:=h.keep.size;have r:=n.size;refine⟨by rw[AW];exact j,?_,?_,?_⟩
 ·intro z b;simp only[Value.ownBlock,Ai]at b;subst b;rcases k with e|e
  ·exact h.fresh _ e
  ·omega
 ·refine TV.app ?_ ?_
  ·exact((hm.mono (S':=fun q=>w0.heap.size<=q∧q<w3.heap.size) fun q a i=>⟨a,i⟩).keep hk4 fun q a=>d q (l q a.1)).mono fun q a _=>⟨by omega,c q (l q a.1) a.2⟩
  ·exact(((h.tv.keep n (by simp)).mono (S':=fun q=>(X.heap.size<=q∧v.ownBlock≠some q)∧q<w3.heap.size) fun q a i=>⟨a,i⟩).keep hk4 fun q a=>d q a.1.2).mono fun q a _=>⟨a.1.1,c q a.1.2 a.2⟩
 ·exact BZ (h.keep.trans n) hk4 (by intro z b;rw[Ay]at b;exact AE (h.fresh z b))
theorem GL.row{X wr:World}{v:Value}(h:GL X wr v ts cs):TV wr (fun g=>X.heap.size<=g) false (B0 ts .lnil) cs:=h.tv.mono fun z a _=>a.1
structure PL (s : ByteArray) (y : AD) (mn : Nat) (mx : Int) (i j c : Nat) (ts : List Tr) : Prop where
 left : Left (Mt s y) mn mx ts.length c j
 lo : i + ts.length <= c
 hi : c <= j
 spec : ∀ u, TT s (.times (mn - ts.length) (EP mx ts.length) y) c j u -> TT s (.times mn mx y) i j (B0 ts u)
theorem PL.start(h:Mt s (.rep mn mx y) i j):PL s y mn mx i j i []:=⟨h,by simp,Mt.le h,fun u h=>h⟩
theorem PL.mid{c e:Nat}(L:PL s y mn mx i j c ts)(a:c<j)(b:BH (fun m=>Mt s y c m∧Left (Mt s y) mn mx (ts.length+1) m j) c j e):c<e∧Mt s y c e:=by
 have f:mn-(ts.length+1)=mn-ts.length-1:=by omega
 have d:BH (fun m=>Mt s y c m∧Tm (Mt s y) (mn-ts.length-1) (less (EP mx ts.length)) m j) c j e:=by
  unfold Left at b;rw[f]at b;exact b
 obtain⟨g,h,k⟩:=Tm.cutFront (fun _ _=>Mt.le (x:=y)) (fun _ _=>Mt.null (x:=y)) L.left a d;exact⟨g,h⟩
theorem PL.next{c e:Nat}(L:PL s y mn mx i j c ts)(a:c<j)(d:BH (fun m=>Mt s y c m∧Left (Mt s y) mn mx (ts.length+1) m j) c j e)(h:Mt s y c e->TT s (.node y) c e t):c<e∧Mt s y c e∧PL s y mn mx i j e (ts++[t]):=by
 have f:mn-(ts.length+1)=mn-ts.length-1:=by omega
 have b:BH (fun m=>Mt s y c m∧Tm (Mt s y) (mn-ts.length-1) (less (EP mx ts.length)) m j) c j e:=by
  unfold Left at d;rw[f]at d;exact d
 obtain⟨k,g,l⟩:=Tm.cutFront (fun _ _=>Mt.le (x:=y)) (fun _ _=>Mt.null (x:=y)) L.left a b;refine⟨k,g,⟨?_,?_,d.2.1,?_⟩⟩
 ·rw[AW,CK];unfold Left;rw[f];exact l
 ·have:=L.lo;rw[AW,CK];omega
 ·intro u hu;rw[Oi];refine L.spec _ (.tgo _ _ y c j e t u (AH a) b (h g) ?_);rw[AW,CK,f]at hu;exact hu
theorem PL.done(L:PL s y mn mx i j j ts)(h:mn<=ts.length):TT s (.times mn mx y) i j (B0 ts .lnil):=L.spec _ (.tend _ _ y j j (by omega))
theorem PL.null(L:PL s y mn mx i j j ts)(h:ts.length<mn):Mt s y j j:=by
 obtain⟨n,a,b,d⟩:=L.left;rcases It.still (fun _ _=>Mt.le (x:=y)) d with c|c
 ·omega
 ·exact c
theorem PL.owe(L:PL s y mn mx i j j ts)(a:TT s (.node y) j j t)(k:Nat)(b:k=mn-ts.length):TT s (.times mn mx y) i j (B0 (ts++List.replicate k t) .lnil):=by
 rw[Tz];refine L.spec _ ?_;rw[<-b];exact TT.owed a k _
theorem KS{T:TypeId}{fr:Nat×Nat}(h:w.heap[g]? =some (.cells cs.toArray T fr)):w.rangeAt g 0 cs:=by
 intro j v a;rw[AU h,List.getElem?_toArray,Ba];exact a
theorem Gh{e:TypeId}{size n:Nat}{va:Option Addr}{vn vc:Nat}(h:w.ownsRow 0 e size (.slice va vn vc) n cs):vn=n:=by
 rcases h.2 with⟨e,a⟩|⟨g,cap,cur,e,_⟩
 ·cases e;exact a.symm
 ·cases e;rfl
theorem TV.lone{S:Nat->Prop}(h:TV w S true t cs):TV w S false (B0 [t] .lnil) cs:=by
 have:=TV.lcons t .lnil cs [] h .lnil;simpa[B0]using this
