/-
  DERIVED. Values of many cells put together: a single, a piece, a slice of one piece. No conditions but the numbers of cells.
-/
import Derived.Test.YtnfojonmohijpaaGreatDoorJPJ
set_option linter.all false
set_option maxRecDepth 100000
set_option maxHeartbeats 8000000
namespace Go.Proofs.YtnfojonmohijpaaGreatDoor
open Go.RowKit
variable{w w':World}{cs:List Value}{v:Value}{a:Act}{ops:Array Oper}{rest:List Oper}{o:Oper}
def Fs:=@Tryz.underlying210
def Ft:=@Tryz.underlying208
def FN:=@List.nil_append
theorem R8:∀(l A B C:List Value)(off k:Nat),B.length=l.length->off+k=A.length->List.foldl (fun(cs:Array Value)(p:Value×Nat)=>cs.setIfInBounds (off+p.2) p.1) (A++B++C).toArray (l.zipIdx k)=(A++l++C).toArray:=by
 intro l
 induction l with
 |nil=>
  intro A B C off k a _;have:B=[]:=FK.1 (by simpa using a);subst this;rfl
 |cons c l ih=>
  intro A B C off k a d;cases B with
  |nil=>simp at a
  |cons b B=>
   rw[List.zipIdx_cons,List.foldl_cons];have e:(A++b::B++C).toArray.setIfInBounds (off+k) c=((A++[c])++B++C).toArray:=by
    rw[d];apply Array.ext';simp
   show List.foldl _ ((A++b::B++C).toArray.setIfInBounds (off+k) c) _=_;rw[e,ih (A++[c]) B C off (k+1) (by simpa using a) (by simp;omega)];simp
theorem R9(vs:Array Value)(A B C:List Value)(h:B.length=vs.size):vs.zipIdx.foldl (fun(cs:Array Value)(p:Value×Nat)=>cs.setIfInBounds (A.length+p.2) p.1) (A++B++C).toArray=(A++vs.toList++C).toArray:=by
 have e:=R8 vs.toList A B C A.length 0 (by simpa using h) (by omega);rw[<-e,<-Array.foldl_toList,Array.toList_zipIdx]
theorem Ha(place:Nat->Option (Nat×Nat))(i:Nat)(v:Value)(rest:List (Nat×Value))(A B C:List Value)(b:place i=some (A.length,B.length))(a:v.cells.size=B.length):Instr.fill place (A++B++C).toArray ((i,v)::rest)=Instr.fill place (A++v.cells.toList++C).toArray rest:=by
 conv=>lhs;unfold Instr.fill
 rw[b];have c:(decide (v.cells.size≠B.length)||decide (A.length+v.cells.size>(A++B++C).toArray.size))=false:=by
  rw[a];simp
 show(if(decide (v.cells.size≠B.length)||decide (A.length+v.cells.size>(A++B++C).toArray.size))=true then none else _)=_;rw[c,AK (by simp)];have:=R9 v.cells A B C a.symm;exact B4 (fun x=>Instr.fill place x rest) this
def sc(k:Value)(v:Value)(f:Nat->Bool):List Value:=k::v::(AZ f).toList
theorem Cp(k v:Value)(f:Nat->Bool):(sc k v f).length=258:=by simp[sc,Bo]
def pz:List Value:=sc (.int .i64 0) (.slice none 0 0) (fun _=>false)++[Value.bool false,Value.int .i64 0,Value.int .i64 0]
theorem Hb:pz.length=261:=by simp[pz,Cp]
def JJ:Nat->Option (Nat×Nat):=fun i=>(#[(0,1),(1,1),(2,256)]:Array (Nat×Nat))[i]?
def K9:Nat->Option (Nat×Nat):=fun i=>(#[(0,258),(258,3)]:Array (Nat×Nat))[i]?
theorem Nl(parts:List (Nat×Value)):Tryz.prog.built 208 parts=Instr.fill JJ (sc (.int .i64 0) (.slice none 0 0) fun _=>false).toArray parts:=by kernel_rfl
theorem SA(parts:List (Nat×Value)):Tryz.prog.built 212 parts=Instr.fill K9 pz.toArray parts:=by kernel_rfl
theorem JK:(Tryz.prog.info? 212).map (fun i=>(i.zero,i.size,i.bytes))=some (some (.agg pz.toArray),261,312):=by kernel_rfl
theorem LA:(Tryz.prog.info? 204).map (fun i=>(i.zero,i.size,i.bytes))=some (some (.slice none 0 0),1,24):=by kernel_rfl
theorem SB:((Array.range (1*261)).map (pz.toArray[·%261]!))=pz.toArray:=by kernel_rfl
theorem SC(a:List Value)(h:a.length=261):Instr.fill (fun i=>some (i*261,261)) ((Array.range (1*261)).map (pz.toArray[·%261]!)) [(0,.agg a.toArray)]=some a.toArray:=by
 rw[SB];have b:=Ha (fun i=>some (i*261,261)) 0 (.agg a.toArray) [] [] pz [] (by simp[Hb]) (by simp[Hb,Value.cells,h]);simp only[CT,FN,Value.cells]at b;exact b.trans rfl
theorem SD:((Array.range (1*1)).map ((#[Value.slice none 0 0]:Array Value)[·%1]!))=#[Value.slice none 0 0]:=by kernel_rfl
theorem SE(v:Value)(a:v.cells=#[v]):Instr.fill (fun i=>some (i*1,1)) ((Array.range (1*1)).map ((#[Value.slice none 0 0]:Array Value)[·%1]!)) [(0,v)]=some #[v]:=by
 rw[SD];have b:=Ha (fun i=>some (i*1,1)) 0 v [] [] [.slice none 0 0] [] rfl (by rw[a];rfl);rw[a]at b;exact b.trans rfl
theorem SF(w:World):(Instr.alloc 208 true (.tuple #[])).run Tryz.prog w=.ok (.pointer (some ⟨w.heap.size,0,none⟩)) (w.alloc (.cells (sc (.int .i64 0) (.slice none 0 0) fun _=>false).toArray 208)):=by kernel_rfl
inductive Kr where
 | single | piece | plist | way | wlist | ways
def Af:Option (Nat×Int)->List Value
 |none=>[.bool false,.int .i64 0,.int .i64 0]
 |some (m,n)=>[.bool true,.int .i64 m,.int .i64 n]
theorem Fu(o:Option (Nat×Int)):(Af o).length=3:=by cases o<;>rfl
def okRep:Option (Nat×Int)->Prop
 |none=>True
 |some (m,n)=>m<=5∧(n=-1∨∃k:Nat,n=k∧k<=5)
theorem Bj.okRep{s:ByteArray}{j k:Nat}{o:Option (Nat×Int)}(h:Bj s j (.ok o k)):okRep o:=by
 rcases h with⟨a,b,c,d,e⟩|⟨a,e⟩|⟨a,e⟩|⟨a,e⟩|⟨a,i,n,e⟩
 ·cases e;trivial
 ·cases e;exact⟨by omega,AH rfl⟩
 ·cases e;exact⟨by omega,AH rfl⟩
 ·cases e;exact⟨by omega,AE ⟨1,rfl,by omega⟩⟩
 ·cases i with
  |bad l=>cases e
  |ok m l=>
   have g:=(n.ok m l rfl).2.2.1 (by omega);rcases e with⟨a,b,e⟩|⟨a,b,p,q,e⟩|⟨a,e⟩
   ·cases e;exact⟨g,AH rfl⟩
   ·cases p with
    |bad x=>cases e
    |ok y x=>
     have r:=(q.ok y x rfl).2.2.1 (by omega);simp only[FA]at e;by_cases f:at' s x=125
     ·rw[AL f]at e;cases e;exact⟨g,AE ⟨y,rfl,r⟩⟩
     ·rw[AK f]at e;cases e
   ·by_cases f:at' s l=125
    ·rw[AL f]at e;cases e;exact⟨g,AE ⟨m,rfl,g⟩⟩
    ·rw[AK f]at e;cases e
inductive AT (w : World) (S : Nat -> Prop) : Kr -> AD -> List Value -> Prop
 | set (f : Nat -> Bool) : AT w S .single (.set f) (sc (.int .i64 0) (.slice none 0 0) f)
 | grp (k : Nat) (x : AD) (v : Value) : 0 < k -> k <= 9 -> AT w S .ways x [v] -> AT w S .single (.grp k x) (sc (.int .i64 k) v fun _ => false)
 | piece (x : AD) (o : Option (Nat × Int)) (cs : List Value) : okRep o -> AT w S .single x cs -> AT w S .piece (Cn x o) (cs ++ Af o)
 | pnil : AT w S .plist .pnil []
 | pcons (x r : AD) (cs ds : List Value) : AT w S .piece x cs -> AT w S .plist r ds -> AT w S .plist (.pcons x r) (cs ++ ds)
 | way (x : AD) (cs : List Value) (v : Value) (n : Nat) : AT w S .plist x cs -> w.ownsRow 0 212 261 v n cs -> (∀ g, v.ownBlock = some g -> S g) -> AT w S .way x [v]
 | wone (x : AD) (v : Value) : AT w S .way x [v] -> AT w S .wlist (.wone x) [v]
 | wcons (x r : AD) (v : Value) (vs : List Value) : AT w S .way x [v] -> AT w S .wlist r vs -> AT w S .wlist (.wcons x r) (v :: vs)
 | ways (x : AD) (vs : List Value) (v : Value) (n : Nat) : AT w S .wlist x vs -> w.ownsRow 0 204 1 v n vs -> (∀ g, v.ownBlock = some g -> S g) -> AT w S .ways x [v]
theorem AT.keep{S:Nat->Prop}{L:List Nat}(d:AA L w w')(e:∀g,S g->g∉L){k:Kr}{x:AD}(h:AT w S k x cs):AT w' S k x cs:=by
 induction h with
 |set f=>exact .set f
 |grp k x v i j _ ih=>exact .grp k x v i j ih
 |piece x o cs a _ ih=>exact .piece x o cs a ih
 |pnil=>exact .pnil
 |pcons x r cs ds _ _ i1 i2=>exact .pcons x r cs ds i1 i2
 |way x cs v n _ a b ih=>exact .way x cs v n ih (a.keep d fun g c=>e g (b g c)) b
 |wone x v _ ih=>exact .wone x v ih
 |wcons x r v vs _ _ i1 i2=>exact .wcons x r v vs i1 i2
 |ways x vs v n _ a b ih=>exact .ways x vs v n ih (a.keep d fun g c=>e g (b g c)) b
theorem AT.mono{S S':Nat->Prop}(d:∀g,S g->g<w.heap.size->S' g){k:Kr}{x:AD}(h:AT w S k x cs):AT w S' k x cs:=by
 have hb:∀{e:TypeId}{size:Nat}{v:Value}{n:Nat}{xs:List Value},w.ownsRow 0 e size v n xs->(∀g,v.ownBlock=some g->S g)->∀g,v.ownBlock=some g->S' g:=fun a b g c=>d g (b g c) (a.lt g c).2
 induction h with
 |set f=>exact .set f
 |grp k x v i j _ ih=>exact .grp k x v i j ih
 |piece x o cs a _ ih=>exact .piece x o cs a ih
 |pnil=>exact .pnil
 |pcons x r cs ds _ _ i1 i2=>exact .pcons x r cs ds i1 i2
 |way x cs v n _ a b ih=>exact .way x cs v n ih a (hb a b)
 |wone x v _ ih=>exact .wone x v ih
 |wcons x r v vs _ _ i1 i2=>exact .wcons x r v vs i1 i2
 |ways x vs v n _ a b ih=>exact .ways x vs v n ih a (hb a b)
theorem IM{e:TypeId}{size:Nat}{n:Nat}{xs:List Value}(h:w.ownsRow 0 e size v n xs):v.oneCell'=true∧v.cells=#[v]:=by
 rcases h.2 with⟨rfl,_⟩|⟨g,cap,cur,rfl,_⟩<;>exact⟨rfl,rfl⟩
theorem AT.cells{S:Nat->Prop}{k:Kr}{x:AD}(h:AT w S k x cs):(∀u∈cs,u.oneCell'=true)∧(match k with| .single=>cs.length=258| .piece=>cs.length=261| .way=>∃v,cs=[v]∧v.cells=#[v]| .ways=>∃v,cs=[v]∧v.cells=#[v]|_=>True):=by
 have b:∀f:Nat->Bool,∀u∈(AZ f).toList,u.oneCell'=true:=by
  intro f u hu;rw[AZ,Array.toList_ofFn,List.mem_ofFn]at hu;obtain⟨i,rfl⟩:=hu;rfl
 induction h with
 |set f=>
  refine⟨?_,Cp _ _ _⟩;intro u hu;simp only[sc,Az]at hu;rcases hu with rfl|rfl|hu
  ·rfl
  ·rfl
  ·exact b f u hu
 |grp k x v _ _ _ ih=>
  refine⟨?_,Cp _ _ _⟩;intro u hu;simp only[sc,Az]at hu;rcases hu with rfl|rfl|hu
  ·rfl
  ·exact ih.1 _ (by simp)
  ·exact b _ u hu
 |piece x o cs _ _ ih=>
  refine⟨?_,?_⟩
  ·intro u hu;rcases Bb.1 hu with hu|hu
   ·exact ih.1 u hu
   ·cases o with
    |none=>simp[Af]at hu;rcases hu with rfl|rfl<;>rfl
    |some p=>simp[Af]at hu;rcases hu with rfl|rfl|rfl<;>rfl
  ·have:=ih.2;simp only[AW,Fu]at this⊢;omega
 |pnil=>exact⟨by simp,trivial⟩
 |pcons x r cs ds _ _ i1 i2=>
  refine⟨?_,trivial⟩;intro u hu;rcases Bb.1 hu with hu|hu
  ·exact i1.1 u hu
  ·exact i2.1 u hu
 |way x cs v n _ a c ih=>exact⟨by simpa using(IM a).1,v,rfl,(IM a).2⟩
 |wone x v _ ih=>exact⟨ih.1,trivial⟩
 |wcons x r v vs _ _ i1 i2=>
  refine⟨?_,trivial⟩;intro u hu;rcases Az.1 hu with rfl|hu
  ·exact i1.1 _ (by simp)
  ·exact i2.1 u hu
 |ways x vs v n _ a c ih=>exact⟨by simpa using(IM a).1,v,rfl,(IM a).2⟩
def GX(w:World)(g:Nat)(cs:List Value):Prop:=w.heap[g]? =some (.cells cs.toArray 210 (0,0))
theorem GX.keep{g:Nat}{S:List Nat}(h:GX w g cs)(a:AA S w w')(hb:g∉S):GX w' g cs:=(a.block g (AN.1 h).1 hb).trans h
theorem D7{a b c:Value}:(Tryz.prog.info? 210).map (·.size)=some (#[a,b,c]:Array Value).size:=by kernel_rfl
theorem Hc(o:Bool)(m n:Int):(#[Value.bool o,Value.int .i64 m,Value.int .i64 n]:Array Value).all (·.oneCell')=true:=by simp[Value.oneCell']
theorem LB(o:Option (Nat×Int)):(Af o).toArray.size=3:=by simp[Fu]
theorem Nn(o:Option (Nat×Int)):(Tryz.prog.info? 210).map (·.size)=some (Af o).toArray.size:=by rw[LB];kernel_rfl
theorem SH(o:Option (Nat×Int)):(Af o).toArray.all (·.oneCell')=true:=by cases o<;>simp[Af,Value.oneCell']
theorem SI(w:World):(Instr.alloc 210 true (.tuple #[])).run Tryz.prog w=.ok (.pointer (some ⟨w.heap.size,0,none⟩)) (w.alloc (.cells (Af none).toArray 210)):=by kernel_rfl
theorem No{Q:Exit->Act->World->Prop}(b:o.guard=none)(c:o.op=.alloc 210)(d:Option Tmp)(hd:o.dst=d)(h:wpList Tryz.prog ops Q rest (a.put d (.pointer (some ⟨w.heap.size,0,none⟩))) (w.alloc (.cells (Af none).toArray 210))):wpList Tryz.prog ops Q (o::rest) a w:=by
 subst hd;refine wpList_plain b fun K e=>?_
 unfold Oper.wp execOp;simp only[c,Sem.run_bind,SI,Sem.run_pure,Result.andThen_ok];exact e _ _ h
def Np(b:Nat)(p:QS)(w:World)(q:R (Option (Nat×Int)))(e:Ending)(w':World):Prop:=
 AA [b] w w'∧match q with
  | .ok o j=>e=.returned (.agg (Af o).toArray)∧QB w' b {p with ix:=j}
  | .bad j=>e=fault j
theorem SJ(b:Nat)(p:QS)(w:World)(hp:QB w b p)(y:p.s.size<=60)(hle:p.ix<=p.s.size)(q1:R Nat)(z:BO p.s 0 0 false p.ix q1)(q:R (Option (Nat×Int)))(A:Gs p.s q1 q):Calls Tryz.prog 251 #[.pointer (some ⟨b,0,none⟩)] w (Np b p w q):=by
 have hbl:=hp.lt;have B:GX (w.alloc (.cells (Af none).toArray 210)) w.heap.size (Af none):=AS w _;have K:AA [b] w (w.alloc (.cells (Af none).toArray 210)):=(AG [b] w).alloc _;have L:QB (w.alloc (.cells (Af none).toArray 210)) b p:=hp.keep ((AG [] w).alloc _) (by simp);obtain⟨g,hg⟩:=An w.heap.size;clear hp;go_enter Tryz.func251,Tryz.ntmps251;go_wp2_with(first|(refine No rfl rfl (some 2) rfl ?_;generalize w.alloc (.cells (Af none).toArray 210)=W at*));rw[hg]at B hbl;refine(Nk b p 0 _ L y hle q1 z).mono ?_;rintro e w1⟨C,M⟩;have D:AA [b] w w1:=K.trans C;have N:=B.keep C (by simp;omega);cases q1 with
 |bad k=>
  subst M;have E:q=.bad k:=A;subst E;simp only[fault];exact⟨rfl,D,rfl⟩
 |ok m k=>
  obtain⟨rfl,O⟩:=M;have F:=z.ok m k rfl;have x:k<=p.s.size:=F.2.1 hle;have ae:m<=5:=F.2.2.1 (by omega);clear z L B K C F;go_wp2_with fail;refine(DJ b {p with ix:=k} 44 (by omega) _ O x y).mono ?_;rintro e w2⟨rfl,v,G⟩;have P:AA [b] w w2:=D.trans G;have Q:=N.keep G (by simp;omega);clear O D N G;by_cases t:at' p.s k=44
  ·obtain⟨S,T⟩:=Er (p:={p with ix:=k}) t;rw[S];rw[T]at v;have d:k+1<=p.s.size:=Ap (by omega);clear S T;go_wp2_with fail;refine(J5 b {p with ix:=k+1} 125 (by omega) _ v d y).mono ?_;rintro e w3⟨rfl,U,hk3⟩;have V:AA [b] w w3:=P.trans (hk3.mono (by simp));have X:=Q.keep hk3 (by simp);by_cases c:at' p.s (k+1)=125
   ·have hd:decide (QS.cur {p with ix:=k+1}=125)=true:=by simpa using(show QS.cur {p with ix:=k+1}=125 from c)
    rw[hd];have he:q=.ok (some (m,-1)) (k+2):=by
     rcases A with⟨_,_,e⟩|⟨_,h,_⟩|⟨h,_⟩
     ·exact e
     ·exact absurd c h
     ·exact absurd t h
    subst he;have Y:at' p.s (k+1)=125:=c;clear A c hd;have HX:Hid (at' p.s (k+1)=125):=Y;go_wp2_with fail;refine(IK b {p with ix:=(k+1)} 125 (by omega) _ U d y).mono ?_;rintro e wf⟨f,a⟩;have r:AA [b] w wf:=V.trans f;have i:GX wf g (Af none):=X.keep f (by simp;omega);by_cases j:at' p.s (k+1)=125
    ·rw[show A7 (QS.s {p with ix:=(k+1)}) 125 (QS.ix {p with ix:=(k+1)})=.ok () ((k+1)+1)from AL j]at a;obtain⟨rfl,u⟩:=a
     skip
     clear j;go_wp2_with(first|(refine Ae rfl 210 _ _ rfl g _ rfl rfl _ _ i D7 rfl (Hc _ _ _) ?_));refine Ag (Au rfl _ _ g _ _ _ _ rfl (Aa _ _ _ _ _ _ i) Fs rfl D7) rfl ?_;exact⟨r.setRow (AE (by omega)) _,rfl,u.keep ((AG [g] wf).setRow (by simp) _) (by simp;omega)⟩
    ·rw[show A7 (QS.s {p with ix:=(k+1)}) 125 (QS.ix {p with ix:=(k+1)})=.bad (k+1)from AK j]at a;subst a;exact absurd HX.o j
   ·have hd:decide (QS.cur {p with ix:=k+1}=125)=false:=by simpa using(show¬QS.cur {p with ix:=k+1}=125 from c)
    rw[hd];obtain⟨H,I,J⟩:∃H,BO p.s m 0 false (k+1) H∧FA p.s m H q:=by
     rcases A with⟨_,h,_⟩|⟨_,_,H,h1,h2⟩|⟨h,_⟩
     ·exact absurd h c
     ·exact⟨H,h1,h2⟩
     ·exact absurd t h
    clear A c hd;go_wp2_with fail;refine(Nk b {p with ix:=k+1} m _ U y d H I).mono ?_;rintro e w4⟨hk4,Z⟩;have aa:AA [b] w w4:=V.trans hk4;have ac:=X.keep hk4 (by simp;omega);cases H with
    |bad l=>
     subst Z;have E:q=.bad l:=J;subst E;simp only[fault];exact⟨rfl,aa,rfl⟩
    |ok n l=>
     obtain⟨rfl,ad⟩:=Z;have ab:l<=p.s.size:=(I.ok n l rfl).2.1 d;have HE:Hid (q=if at' p.s l=125 then .ok (some (m,(n:Int))) (l+1)else .bad l):=J;clear I J;go_wp2_with fail;refine(IK b {p with ix:=l} 125 (by omega) _ ad ab y).mono ?_;rintro e wf⟨f,a⟩;have r:AA [b] w wf:=aa.trans f;have i:GX wf g (Af none):=ac.keep f (by simp;omega);by_cases j:at' p.s l=125
     ·rw[show A7 (QS.s {p with ix:=l}) 125 (QS.ix {p with ix:=l})=.ok () (l+1)from AL j]at a;obtain⟨rfl,u⟩:=a;have he:=HE.o;rw[AL j]at he;subst he;clear j;go_wp2_with(first|(refine Ae rfl 210 _ _ rfl g _ rfl rfl _ _ i D7 rfl (Hc _ _ _) ?_));refine Ag (Au rfl _ _ g _ _ _ _ rfl (Aa _ _ _ _ _ _ i) Fs rfl D7) rfl ?_;exact⟨r.setRow (AE (by omega)) _,rfl,u.keep ((AG [g] wf).setRow (by simp) _) (by simp;omega)⟩
     ·rw[show A7 (QS.s {p with ix:=l}) 125 (QS.ix {p with ix:=l})=.bad l from AK j]at a;subst a;have he:=HE.o;rw[AK j]at he;subst he;simp only[fault];exact⟨rfl,r,rfl⟩
  ·obtain⟨S,T⟩:=EN (p:={p with ix:=k}) t;rw[S];rw[T]at v;have HE:Hid (q=if at' p.s k=125 then .ok (some (m,(m:Int))) (k+1)else .bad k):=by
    show q=if at' p.s k=125 then .ok (some (m,(m:Int))) (k+1)else .bad k
    rcases A with⟨h,_⟩|⟨h,_⟩|⟨_,h⟩
    ·exact absurd h t
    ·exact absurd h t
    ·exact h
   clear S T A;go_wp2_with fail;refine(IK b {p with ix:=k} 125 (by omega) _ v x y).mono ?_;rintro e wf⟨f,a⟩;have r:AA [b] w wf:=P.trans f;have i:GX wf g (Af none):=Q.keep f (by simp;omega);by_cases j:at' p.s k=125
   ·rw[show A7 (QS.s {p with ix:=k}) 125 (QS.ix {p with ix:=k})=.ok () (k+1)from AL j]at a;obtain⟨rfl,u⟩:=a;have he:=HE.o;rw[AL j]at he;subst he;clear j;go_wp2_with(first|(refine Ae rfl 210 _ _ rfl g _ rfl rfl _ _ i D7 rfl (Hc _ _ _) ?_));refine Ag (Au rfl _ _ g _ _ _ _ rfl (Aa _ _ _ _ _ _ i) Fs rfl D7) rfl ?_;exact⟨r.setRow (AE (by omega)) _,rfl,u.keep ((AG [g] wf).setRow (by simp) _) (by simp;omega)⟩
   ·rw[show A7 (QS.s {p with ix:=k}) 125 (QS.ix {p with ix:=k})=.bad k from AK j]at a;subst a;have he:=HE.o;rw[AK j]at he;subst he;simp only[fault];exact⟨rfl,r,rfl⟩
theorem Nq(b:Nat)(p:QS)(w:World)(N:QB w b p)(F:p.s.size<=60)(hle:p.ix<=p.s.size)(q:R (Option (Nat×Int)))(t:Bj p.s p.ix q):Calls Tryz.prog 205 #[.pointer (some ⟨b,0,none⟩)] w (Np b p w q):=by
 have hbl:=N.lt;have G:GX (w.alloc (.cells (Af none).toArray 210)) w.heap.size (Af none):=AS w _;have O:AA [b] w (w.alloc (.cells (Af none).toArray 210)):=(AG [b] w).alloc _;have P:QB (w.alloc (.cells (Af none).toArray 210)) b p:=N.keep ((AG [] w).alloc _) (by simp);obtain⟨g,X⟩:=An w.heap.size;clear N;go_enter Tryz.func205,Tryz.ntmps205;go_wp2_with(first|(refine No rfl rfl (some 2) rfl ?_;generalize w.alloc (.cells (Af none).toArray 210)=W at*));rw[X]at G hbl;refine(DJ b p 42 (by omega) _ P hle F).mono ?_;rintro e w1⟨rfl,i,H⟩;have u:AA [b] w w1:=O.trans H;have A:=G.keep H (by simp;omega);by_cases m:at' p.s p.ix=42
 ·obtain⟨a,c⟩:=Er (p:=p) m;rw[a];rw[c]at i;have he:q=.ok (some (0,-1)) (p.ix+1):=Bj.det t (AE (AH ⟨m,rfl⟩));subst he;clear t m a c;go_wp2_with(first|(refine Ae rfl 210 _ _ rfl g _ rfl rfl _ _ A D7 rfl (Hc _ _ _) ?_));refine Ag (Au rfl _ _ g _ _ _ _ rfl (Aa _ _ _ _ _ _ A) Fs rfl D7) rfl ?_;exact⟨u.setRow (AE (by omega)) _,rfl,i.keep ((AG [g] _).setRow (by simp) _) (by simp;omega)⟩
 ·obtain⟨a,c⟩:=EN (p:=p) m;rw[a];rw[c]at i;have Q:=i;clear a c;go_wp2_with fail;refine(DJ b p 43 (by omega) _ Q hle F).mono ?_;rintro e w2⟨rfl,k,I⟩;have v:AA [b] w w2:=u.trans I;have B:=A.keep I (by simp;omega);by_cases n:at' p.s p.ix=43
  ·obtain⟨a,c⟩:=Er (p:=p) n;rw[a];rw[c]at k;have he:q=.ok (some (1,-1)) (p.ix+1):=Bj.det t (AE (AE (AH ⟨n,rfl⟩)));subst he;clear t n a c;go_wp2_with(first|(refine Ae rfl 210 _ _ rfl g _ rfl rfl _ _ B D7 rfl (Hc _ _ _) ?_));refine Ag (Au rfl _ _ g _ _ _ _ rfl (Aa _ _ _ _ _ _ B) Fs rfl D7) rfl ?_;exact⟨v.setRow (AE (by omega)) _,rfl,k.keep ((AG [g] _).setRow (by simp) _) (by simp;omega)⟩
  ·obtain⟨a,c⟩:=EN (p:=p) n;rw[a];rw[c]at k;have S:=k;clear a c;go_wp2_with fail;refine(DJ b p 63 (by omega) _ S hle F).mono ?_;rintro e w3⟨rfl,l,hk3⟩;have x:AA [b] w w3:=v.trans hk3;have C:=B.keep hk3 (by simp;omega);by_cases r:at' p.s p.ix=63
   ·obtain⟨a,c⟩:=Er (p:=p) r;rw[a];rw[c]at l;have he:q=.ok (some (0,1)) (p.ix+1):=Bj.det t (AE (AE (AE (AH ⟨r,rfl⟩))));subst he;clear t r a c;go_wp2_with(first|(refine Ae rfl 210 _ _ rfl g _ rfl rfl _ _ C D7 rfl (Hc _ _ _) ?_));refine Ag (Au rfl _ _ g _ _ _ _ rfl (Aa _ _ _ _ _ _ C) Fs rfl D7) rfl ?_;exact⟨x.setRow (AE (by omega)) _,rfl,l.keep ((AG [g] _).setRow (by simp) _) (by simp;omega)⟩
   ·obtain⟨a,c⟩:=EN (p:=p) r;rw[a];rw[c]at l;have T:=l;clear a c;go_wp2_with fail;refine(DJ b p 123 (by omega) _ T hle F).mono ?_;rintro e Y⟨rfl,f,hk4⟩;have y:AA [b] w Y:=x.trans hk4;have D:=C.keep hk4 (by simp;omega);by_cases d:at' p.s p.ix=123
    ·obtain⟨a,c⟩:=Er (p:=p) d;rw[a];rw[c]at f;obtain⟨E,Z,U⟩:∃E,BO p.s 0 0 false (p.ix+1) E∧Gs p.s E q:=by
      rcases t with⟨_,_,_,h,_⟩|⟨h,_⟩|⟨h,_⟩|⟨h,_⟩|⟨_,E,h1,h2⟩
      ·exact absurd d h
      ·omega
      ·omega
      ·omega
      ·exact⟨E,h1,h2⟩
     have J:p.ix+1<=p.s.size:=Ap (by omega);clear t d a c;go_wp2_with fail;refine(SJ b {p with ix:=p.ix+1} _ f F J E Z q U).mono ?_;rintro e w5⟨K,L⟩;have z:AA [b] w w5:=y.trans K;have M:=D.keep K (by simp;omega);cases q with
     |bad j=>
      subst L;simp only[fault];exact⟨rfl,z,rfl⟩
     |ok o j=>
      obtain⟨rfl,V⟩:=L;go_wp2_with(first|(refine Ae rfl 210 _ _ rfl g _ rfl rfl _ _ M (Nn o) (by rw[LB,LB]) (SH o) ?_));refine Ag (Au rfl _ _ g _ _ _ _ rfl (Aa _ _ _ _ _ _ M) Fs rfl (Nn o)) rfl ?_;exact⟨z.setRow (AE (by omega)) _,rfl,V.keep ((AG [g] _).setRow (by simp) _) (by simp;omega)⟩
    ·obtain⟨a,c⟩:=EN (p:=p) d;rw[a];rw[c]at f;have aa:=f;clear a c;have he:q=.ok none p.ix:=Bj.det t (AH ⟨m,n,r,d,rfl⟩);subst he;clear t m n r d;go_wp2_with(first|(refine Ae rfl 210 _ _ rfl g _ rfl rfl _ _ D D7 rfl (Hc _ _ _) ?_));refine Ag (Au rfl _ _ g _ _ _ _ rfl (Aa _ _ _ _ _ _ D) Fs rfl D7) rfl ?_;exact⟨y.setRow (AE (by omega)) _,rfl,f.keep ((AG [g] _).setRow (by simp) _) (by simp;omega)⟩
def SK(c:Int):Decidable (0<=c∧¬CR c):=inferInstanceAs (Decidable (0<=c∧¬(c=94∨c=36∨c=124∨c=41∨c=42∨c=43∨c=63∨c=123)))
def Fv(c:Int):Bool:=@decide (0<=c∧¬CR c) (SK c)
theorem SM(c:Int)(b:0<=c)(d:c<=255):decide (Lib.indexByte (ByteArray.data ⟨#[94,36,124,41,42,43,63,123]⟩).toList c.toNat.toUInt8<0)=Fv c:=by
 obtain⟨n,rfl⟩:∃n:Nat,c=n:=⟨c.toNat,by omega⟩;have a:n<256:=by omega
 have key:∀m:Fin 256,decide (Lib.indexByte (ByteArray.data ⟨#[94,36,124,41,42,43,63,123]⟩).toList ((m.val:Int)).toNat.toUInt8<0)=Fv (m.val:Int):=by decide
 exact key ⟨n,a⟩
theorem SN(b:Nat)(p:QS)(w:World)(f:QB w b p)(hle:p.ix<=p.s.size)(h:p.s.size<=60):Calls Tryz.prog 203 #[.pointer (some ⟨b,0,none⟩)] w fun e w'=>e=.returned (.bool (Fv p.cur))∧QB w' b p∧AA [] w w':=by
 by_cases hlt:p.ix<p.s.size
 ·have j:0<=p.cur:=by show 0<=at' p.s p.ix;rw[Bd hlt];omega
  have k:p.cur<=255:=(E8 p.s p.ix).2;have hi:=SM p.cur j k;by_cases i:Lib.indexByte (ByteArray.data ⟨#[94,36,124,41,42,43,63,123]⟩).toList p.cur.toNat.toUInt8<0
  ·rw[BU i]at hi;rw[<-hi];clear hi;generalize d:Lib.indexByte (ByteArray.data ⟨#[94,36,124,41,42,43,63,123]⟩).toList p.cur.toNat.toUInt8=x at*;go_enter Tryz.func203,Tryz.ntmps203;go_wp2_with(first|(go_at_call 167;refine(GM b p _ f hlt h).mono ?_;rintro e w1⟨rfl,a,c⟩)|(go_at_call 246;refine(H4 _ p.cur _).mono ?_;rintro e w2⟨rfl,rfl⟩;rw[d]));go_ret;exact⟨DB (by simp),a,c⟩
  ·rw[BS i]at hi;rw[<-hi];clear hi;generalize d:Lib.indexByte (ByteArray.data ⟨#[94,36,124,41,42,43,63,123]⟩).toList p.cur.toNat.toUInt8=x at*;go_enter Tryz.func203,Tryz.ntmps203;go_wp2_with(first|(go_at_call 167;refine(GM b p _ f hlt h).mono ?_;rintro e w1⟨rfl,a,c⟩)|(go_at_call 246;refine(H4 _ p.cur _).mono ?_;rintro e w2⟨rfl,rfl⟩;rw[d]));go_ret;exact⟨DB (by simp;omega),a,c⟩
 ·have g:p.ix=p.s.size:=by omega
  have l:Hid (Fv p.cur=false):=by
   show Fv (at' p.s p.ix)=false;rw[Cu (by omega)];rfl
  go_enter Tryz.func203,Tryz.ntmps203;go_wp2_with(first|(go_at_call 167;refine(I5 b p _ f g).mono ?_;rintro e w1⟨rfl,a,c⟩));go_ret;exact⟨by rw[l.o];rfl,a,c⟩
def Fw(c:Int):Prop:=c=94∨c=42∨c=43∨c=63∨c=123
def Bk(v:Value):Prop:=∃a n c,v=.slice a n c
theorem Bk.cells(h:Bk v):v.cells=#[v]:=by obtain⟨a,n,c,rfl⟩:=h;rfl
theorem Bk.one(h:Bk v):v.oneCell'=true:=by obtain⟨a,n,c,rfl⟩:=h;rfl
theorem A6{e:TypeId}{size:Nat}{n:Nat}{xs:List Value}(h:w.ownsRow 0 e size v n xs):Bk v:=by
 rcases h.2 with⟨rfl,_⟩|⟨g,cap,cur,rfl,_⟩<;>exact⟨_,_,_,rfl⟩
def JM(kd:Kd)(a:Kr)(b:Nat)(p:QS)(w:World)(e:Ending)(w':World):Prop:=
 ∃q,G p.s kd p.op p.gr p.ix q∧AA [b] w w'∧match q with
  | .ok (x,g1) j=>∃v,e=.returned v∧AT w' (fun g=>w.heap.size<=g) a x [v]∧QB w' b {p with ix:=j,gr:=g1}
  | .bad j=>e=fault j∨∃v g1,e=.returned v∧Bk v∧QB w' b {p with ix:=j,gr:=g1}∧Fw (at' p.s j)∧p.ix<=j
def LC(b:Nat)(p:QS)(w:World)(e:Ending)(w':World):Prop:=
 ∃q,G p.s .single p.op p.gr p.ix q∧AA [b] w w'∧match q with
  | .ok (x,g1) j=>∃cs,e=.returned (.agg cs.toArray)∧AT w' (fun g=>w.heap.size<=g) .single x cs∧QB w' b {p with ix:=j,gr:=g1}
  | .bad j=>e=fault j
def IN(n:Nat):Prop:=∀(b:Nat)(p:QS)(w:World),QB w b p->GN w->b≠6->p.s.size<=60->p.ix<=p.s.size->p.op<=6->p.gr<=9->p.s.size-p.ix<n->
 Calls Tryz.prog 117 #[.pointer (some ⟨b,0,none⟩)] w (JM .ways .ways b p w)
def Fx(w:World)(g:Nat)(cs:List Value):Prop:=w.heap[g]? =some (.cells cs.toArray 208 (0,0))
theorem Fx.lt{g:Nat}(h:Fx w g cs):g<w.heap.size:=(AN.1 h).1
theorem Fx.keep{g:Nat}{S:List Nat}(h:Fx w g cs)(a:AA S w w')(hb:g∉S):Fx w' g cs:=(a.block g h.lt hb).trans h
def sz:List Value:=sc (.int .i64 0) (.slice none 0 0) fun _=>false
theorem SO:(Tryz.prog.info? 208).map (·.size)=some 258:=by kernel_rfl
theorem Dg(h:cs.length=258):(Tryz.prog.info? 208).map (·.size)=some cs.toArray.size:=by rw[SO];simp[h]
theorem FO(h:∀u∈cs,u.oneCell'=true):cs.toArray.all (·.oneCell')=true:=by simpa using h
theorem JO{Q:Exit->Act->World->Prop}(b:o.guard=none)(c:o.op=.alloc 208)(d:Option Tmp)(hd:o.dst=d)(h:wpList Tryz.prog ops Q rest (a.put d (.pointer (some ⟨w.heap.size,0,none⟩))) (w.alloc (.cells sz.toArray 208))):wpList Tryz.prog ops Q (o::rest) a w:=by
 subst hd;refine wpList_plain b fun K e=>?_
 unfold Oper.wp execOp;simp only[c,Sem.run_bind,SF,Sem.run_pure,Result.andThen_ok];exact e _ _ h
theorem LD:sz.length=258:=Cp _ _ _
theorem KD(f:Nat->Bool):Tryz.prog.built 208 [(2,.agg (AZ f))]=some (sc (.int .i64 0) (.slice none 0 0) f).toArray:=by
 rw[Nl];have:=Ha JJ 2 (.agg (AZ f)) [] [.int .i64 0,.slice none 0 0] (AZ fun _=>false).toList [] (by simp[JJ,Bo]) (by simp[Value.cells,Bo]);simp only[CT]at this;exact this.trans rfl
theorem SP(k:Int)(v:Value)(a:v.cells=#[v]):Tryz.prog.built 208 [(0,.int .i64 k),(1,v)]=some (sc (.int .i64 k) v fun _=>false).toArray:=by
 rw[Nl];have c:=Ha JJ 0 (.int .i64 k) [(1,v)] [] [.int .i64 0] (.slice none 0 0::(AZ fun _=>false).toList) rfl rfl;have b:=Ha JJ 1 v [] [.int .i64 k] [.slice none 0 0] (AZ fun _=>false).toList rfl (by rw[a];rfl);rw[a]at b;exact c.trans (b.trans rfl)
theorem KE{Q:Exit->Act->World->Prop}(c:o.guard=none)(t i0:Nat)(b:Operand)(e:o.op=.build t #[(i0,b)])(d:Option Tmp)(hd:o.dst=d)(v0:Value)(f:a.eval b=v0)(cells:Array Value)(g:Tryz.prog.built t [(i0,v0)]=some cells)(h:wpList Tryz.prog ops Q rest (a.put d (.agg cells)) w):wpList Tryz.prog ops Q (o::rest) a w:=by
 refine wpList_buildTo c t _ e d hd cells ?_ h;subst f;simpa using g
theorem SQ{Q:Exit->Act->World->Prop}(e:o.guard=none)(t i0 i1:Nat)(b c:Operand)(f:o.op=.build t #[(i0,b),(i1,c)])(d:Option Tmp)(hd:o.dst=d)(v0 v1:Value)(g:a.eval b=v0)(i:a.eval c=v1)(cells:Array Value)(j:Tryz.prog.built t [(i0,v0),(i1,v1)]=some cells)(h:wpList Tryz.prog ops Q rest (a.put d (.agg cells)) w):wpList Tryz.prog ops Q (o::rest) a w:=by
 refine wpList_buildTo e t _ f d hd cells ?_ h;subst g i;simpa using j
theorem JP{k:Value}{f:Nat->Bool}:sz.toArray.size=(sc k v f).toArray.size:=by simp[LD,Cp]
theorem SR(n:Nat)(IH:IN n)(b:Nat)(p:QS)(w:World)(hp:QB w b p)(D:GN w)(ah:b≠6)(O:p.s.size<=60)(d:at' p.s p.ix=40)(ar:p.op<=6)(au:p.gr<=9)(hn:p.s.size-p.ix<=n):Calls Tryz.prog 247 #[.pointer (some ⟨b,0,none⟩)] w (LC b p w):=by
 have hbl:=hp.lt;have ai:=D.lt;have hlt:p.ix<p.s.size:=Ap (by omega);have E:Fx (w.alloc (.cells sz.toArray 208)) w.heap.size sz:=AS w _;have F:AA [b] w (w.alloc (.cells sz.toArray 208)):=(AG [b] w).alloc _;have f:QB (w.alloc (.cells sz.toArray 208)) b p:=hp.keep ((AG [] w).alloc _) (by simp);have P:GN (w.alloc (.cells sz.toArray 208)):=D.keep ((AG [] w).alloc _) (by simp);obtain⟨g,hg⟩:=An w.heap.size;obtain⟨_,_,c2,c3,_,f2,f3⟩:=f.main;clear hp D;by_cases a:p.op=6∨p.gr=9
 ·have H:Hid (LC b p w (fault p.ix) (w.alloc (.cells sz.toArray 208))):=⟨.bad p.ix,.deep _ _ _ d a,F,rfl⟩;by_cases h6:p.op=6
  ·have I:((p.op:Int)==6)=true:=by simpa using(by omega:(p.op:Int)=6)
   clear a h6;go_enter Tryz.func247,Tryz.ntmps247;go_wp2_with(first|(refine JO rfl rfl (some 2) rfl ?_;generalize w.alloc (.cells sz.toArray 208)=W at*));refine(Gw b p _ f).mono ?_;rintro e B⟨rfl,rfl⟩;have hd:=H.o;simp only[fault]at hd⊢;exact⟨rfl,hd⟩
  ·have I:((p.op:Int)==6)=false:=by simpa using(by omega:¬(p.op:Int)=6)
   have Q:((p.gr:Int)==9)=true:=by simpa using(by omega:(p.gr:Int)=9)
   clear a h6;go_enter Tryz.func247,Tryz.ntmps247;go_wp2_with(first|(refine JO rfl rfl (some 2) rfl ?_;generalize w.alloc (.cells sz.toArray 208)=W at*));refine(Gw b p _ f).mono ?_;rintro e B⟨rfl,rfl⟩;have hd:=H.o;simp only[fault]at hd⊢;exact⟨rfl,hd⟩
 ·have I:((p.op:Int)==6)=false:=by simpa using(by omega:¬(p.op:Int)=6)
  have Q:((p.gr:Int)==9)=false:=by simpa using(by omega:¬(p.gr:Int)=9)
  have H:Hid (¬(p.op=6∨p.gr=9)):=a;have aw:p.op<=5:=by omega
  have ax:p.gr<=8:=by omega
  clear a;go_enter Tryz.func247,Tryz.ntmps247;go_wp2_with(first|(refine JO rfl rfl (some 2) rfl ?_;generalize w.alloc (.cells sz.toArray 208)=W at*));refine(Gx b p 40 (by omega) _ f O d).mono ?_;rintro e w1⟨rfl,J,z⟩;rw[hg]at E hbl ai;have R:=E.keep z (by simp;omega);have S:=P.keep z (by simp;omega);have T:AA [b] w w1:=F.trans z;obtain⟨_,_,d2,d3,_,k2,k3⟩:=J.main;have K:=(J.setOp (p.op+1)).setGr (p.gr+1);have h:AA [b] w1 ((w1.setCell ⟨b,2,none⟩ (.int .i64 ((p.op+1:Nat):Int))).setCell ⟨b,3,none⟩ (.int .i64 ((p.gr+1:Nat):Int))):=((AG [b] w1).setCell (by simp) _).setCell (by simp) _;have e1:((p.op+1:Nat):Int)=(p.op:Int)+1:=by omega
  have e2:((p.gr+1:Nat):Int)=(p.gr:Int)+1:=by omega
  rw[e1,e2]at K h;have L:=R.keep h (by simp;omega);have U:=S.keep h (by simp;omega);have V:=T.trans h;have ap:((p.op:Int)+1)-1=p.op:=by omega
  clear c2 c3 f2 f3 F f P E z I Q R S T e1 e2;go_wp2_with fail;generalize(w1.setCell ⟨b,2,none⟩ (.int .i64 ((p.op:Int)+1))).setCell ⟨b,3,none⟩ (.int .i64 ((p.gr:Int)+1))=w2 at*;refine(IH b {p with ix:=p.ix+1,op:=p.op+1,gr:=p.gr+1} w2 K U ah O hlt (by simp;omega) (by simp;omega) (by simp;omega)).mono ?_;rintro e w3⟨q,C,hk3,X⟩;have i:=V.trans hk3;have Y:=L.keep hk3 (by simp;omega);have aq:g<w2.heap.size:=L.lt;clear K U V L d2 d3 k2 k3 J h;cases q with
  |bad j=>
   rcases X with rfl|⟨v,g1,rfl,ay,k,c,_⟩
   ·simp only[fault];exact⟨rfl,.bad j,.gbad _ _ _ _ d H.o C,i,rfl⟩
   ·have aj:0<=at' p.s j:=by unfold Fw at c;simp at c;omega
    have l:j<=p.s.size:=Dp (Ap aj);have Z:at' p.s j≠41:=by unfold Fw at c;simp at c;omega
    have HB:Hid (G p.s .single p.op p.gr p.ix (.bad j)):=.gbad _ _ _ _ d H.o C;clear c C;go_wp2_with fail;refine(Ky b {p with ix:=j,op:=p.op+1,gr:=g1} 41 (by omega) _ k l O Z).mono ?_;rintro e B⟨rfl,hk4⟩;simp only[fault];exact⟨rfl,.bad j,HB.o,i.trans hk4,rfl⟩
  |ok y j=>
   obtain⟨x,g1⟩:=y;obtain⟨v,rfl,m,k⟩:=X;have aa:=C.okb x g1 j rfl;have l:j<=p.s.size:=aa.2.1 hlt;by_cases A:at' p.s j=41
   ·have HB:Hid (G p.s .single p.op p.gr p.ix (.ok (.grp (p.gr+1) x,g1) (j+1))):=.grp _ _ _ _ _ _ d H.o C A;have ak:v.cells=#[v]:=by
     obtain⟨u,hu,al⟩:=m.cells.2;cases hu;exact al
    clear C;go_wp2_with fail;refine(Gx b {p with ix:=j,op:=p.op+1,gr:=g1} 41 (by omega) _ k O A).mono ?_;rintro e B⟨rfl,M,hk4⟩;have ab:=i.trans hk4;have ac:=Y.keep hk4 (by simp;omega);have r:=m.keep hk4 (by intro x hx;simp;omega);obtain⟨_,_,d2,d3,_,k2,k3⟩:=M.main;have am:=M.setOp p.op;have N:AA [b] B (B.setCell ⟨b,2,none⟩ (.int .i64 (p.op:Int))):=(AG [b] B).setCell (by simp) _;have ad:=ac.keep N (by simp;omega);have an:=ab.trans N;have t:=r.keep N (by intro x hx;simp;omega);have ae:=SP ((p.gr:Int)+1) v ak;have af:(((p.op+1:Nat):Int))=(p.op:Int)+1:=by omega
    simp only[af]at d2;have ao:∀u∈sc (.int .i64 ((p.gr:Int)+1)) v (fun _=>false),u.oneCell'=true:=by
     have:=(AT.grp (p.gr+1) x v (by omega) (by omega) t).cells.1;simpa using this
    clear M k Y ac m r i ab hk4 af;go_wp2_with(first|(refine SQ rfl 208 0 1 _ _ rfl (some 58) rfl _ _ rfl rfl _ ae ?_)|(refine Ae rfl 208 _ _ rfl g _ rfl rfl _ _ ad (Dg (Cp _ _ _)) JP (FO ao) ?_));refine Ag (Au rfl _ _ g _ _ _ _ rfl (Aa _ _ _ _ _ _ ad) Ft rfl (Dg (Cp _ _ _))) rfl ?_;have ag:=(AG [g] (B.setCell ⟨b,2,none⟩ (.int .i64 (p.op:Int)))).setRow (g:=g) (by simp) (sc (.int .i64 ((p.gr:Int)+1)) v fun _=>false).toArray;refine⟨_,HB.o,an.setRow (AE (by omega)) _,_,rfl,?_,am.keep ag (by simp;omega)⟩;exact AT.grp (p.gr+1) x v (by omega) (by omega) ((t.keep ag (by intro x hx;simp;omega)).mono (by intro x hx _;omega))
   ·have HB:Hid (G p.s .single p.op p.gr p.ix (.bad j)):=.gopen _ _ _ _ _ _ d H.o C A;clear C;go_wp2_with fail;refine(Ky b {p with ix:=j,op:=p.op+1,gr:=g1} 41 (by omega) _ k l O A).mono ?_;rintro e B⟨rfl,hk4⟩;simp only[fault];exact⟨rfl,.bad j,HB.o,i.trans hk4,rfl⟩
