/-
  DERIVED. The contract of the program's single, over a contract of ways for what is shorter. Conditions: the text is at most 60 bytes long, the place is within it, a single is ahead, the variable classNames holds the seven names.
-/
import Derived.Test.YtnfojonmohijpaaGreatDoorJPO
set_option linter.all false
set_option maxRecDepth 100000
set_option maxHeartbeats 8000000
namespace Go.Proofs.YtnfojonmohijpaaGreatDoor
open Go.RowKit
variable{w w1 wr:World}{p:QS}{b g1 i j:Nat}{v:Value}{cs:List Value}{x:AD}
def Dh:=@AllReady.cons
def Ds:=@AllReady.nil
def Dt:=@wpAny_ready
def DD:=@wpAny_take
theorem Nr{c:Nat}{a:Int}(h:a=c):AZ (fun n=>decide (n=c))=AZ (A0 a a):=by
 subst h;refine Na fun n _=>?_
 by_cases e:n=c
 ·subst e;simp[A0]
 ·have:¬((c:Int)<=(n:Int)∧(n:Int)<=(c:Int)):=by omega
  simp only[A0,e,decide_false];rw[eq_comm,Bool.and_eq_false_iff];simp only[I7];omega
theorem SS(n:Nat)(IH:IN n)(b:Nat)(p:QS)(w:World)(hp:QB w b p)(O:GN w)(X:b≠6)(V:p.s.size<=60)(J:0<=at' p.s p.ix∧¬CR (at' p.s p.ix))(ak:p.op<=6)(al:p.gr<=9)(hn:p.s.size-p.ix<=n):Calls Tryz.prog 204 #[.pointer (some ⟨b,0,none⟩)] w (LC b p w):=by
 have hbl:=hp.lt;have am:=O.lt;have hlt:p.ix<p.s.size:=Ap J.1;have P:Fx (w.alloc (.cells sz.toArray 208)) w.heap.size sz:=AS w _;have Y:AA [b] w (w.alloc (.cells sz.toArray 208)):=(AG [b] w).alloc _;have Z:QB (w.alloc (.cells sz.toArray 208)) b p:=hp.keep ((AG [] w).alloc _) (by simp);have aa:GN (w.alloc (.cells sz.toArray 208)):=O.keep ((AG [] w).alloc _) (by simp);obtain⟨g,hg⟩:=An w.heap.size;clear hp O;go_enter Tryz.func204,Tryz.ntmps204;go_wp2_with(first|(refine JO rfl rfl (some 2) rfl ?_;generalize w.alloc (.cells sz.toArray 208)=W at*));rw[hg]at P hbl am;refine(GM b p _ Z hlt V).mono ?_;rintro e w1⟨rfl,C,K⟩;have z:=P.keep K (by simp);have ab:=aa.keep K (by simp);have D:AA [b] w w1:=Y.trans (K.mono (by simp));have ap:g<w1.heap.size:=z.lt;clear Z P aa Y K;have aq:=(E8 p.s p.ix).2;obtain⟨c,N⟩:∃c:Nat,p.cur=c:=⟨p.cur.toNat,by have:0<=p.cur:=J.1;omega⟩;have A:at' p.s p.ix=c:=N;have Q:c<256:=by omega
 rw[N];by_cases E:c=40
 ·have an:Hid (at' p.s p.ix=40):=by show at' p.s p.ix=40;omega
  have ac:((c:Int)==40)=true:=by simpa using(by omega:(c:Int)=40)
  clear E N A;go_wp2_with fail;refine(SR n IH b p _ C ab X V an.o ak al hn).mono ?_;rintro e w2⟨q,B,d,k⟩;have h:=D.trans d;have i:=z.keep d (by simp;omega);cases q with
  |bad j=>
   subst k;simp only[fault];exact⟨rfl,_,B,h,rfl⟩
  |ok y j=>
   obtain⟨x,g1⟩:=y;obtain⟨cs,rfl,F,r⟩:=k;have R:cs.length=258:=F.cells.2;have ao:sz.toArray.size=cs.toArray.size:=by simp[LD,R]
   have t:=F.cells.1;go_wp2_with(first|(refine Ae rfl 208 _ _ rfl g _ rfl rfl _ _ i (Dg R) ao (FO t) ?_));refine Ag (Au rfl _ _ g _ _ _ _ rfl (Aa _ _ _ _ _ _ i) Ft rfl (Dg R)) rfl ?_;have l:=(AG [g] w2).setRow (g:=g) (by simp) cs.toArray;exact⟨_,B,h.setRow (AE (by omega)) _,_,rfl,(F.keep l (by intro x hx;simp;omega)).mono (by intro x hx _;omega),r.keep l (by simp;omega)⟩
 have ac:((c:Int)==40)=false:=by simpa using(by omega:¬(c:Int)=40)
 by_cases L:c=91
 ·have ad:Hid (at' p.s p.ix=91):=by show at' p.s p.ix=91;omega
  have ae:((c:Int)==91)=true:=by simpa using(by omega:(c:Int)=91)
  clear E L N A;go_wp2_with fail;refine(Ry b p _ C V ad.o ab X).mono ?_;rintro e w2⟨q,hS,d,k⟩;have h:=D.trans d;have i:=z.keep d (by simp;omega);have B:G p.s .single p.op p.gr p.ix (q.map fun f=>(.set f,p.gr)):=.set _ _ _ _ ad.o hS;cases q with
  |bad j=>
   subst k;simp only[fault];exact⟨rfl,_,B,h,rfl⟩
  |ok f j=>
   obtain⟨rfl,r⟩:=k;have T:Hid (G p.s .single p.op p.gr p.ix (.ok (.set f,p.gr) j)):=B;clear B hS;have v:=KD f;have t:=(AT.set (w:=w2) (S:=fun x=>w.heap.size<=x) f).cells.1;go_wp2_with(first|(refine KE rfl 208 2 (.tmp 28) rfl (some 29) rfl (.agg (AZ f)) rfl _ v ?_)|(refine Ae rfl 208 _ _ rfl g _ rfl rfl _ _ i (Dg (Cp _ _ _)) JP (FO t) ?_));refine Ag (Au rfl _ _ g _ _ _ _ rfl (Aa _ _ _ _ _ _ i) Ft rfl (Dg (Cp _ _ _))) rfl ?_;have l:=(AG [g] w2).setRow (g:=g) (by simp) (sc (.int .i64 0) (.slice none 0 0) f).toArray;exact⟨_,T.o,h.setRow (AE (by omega)) _,_,rfl,AT.set f,r.keep l (by simp;omega)⟩
 have ae:((c:Int)==91)=false:=by simpa using(by omega:¬(c:Int)=91)
 by_cases U:c=92
 ·have af:Hid (at' p.s p.ix=92):=by show at' p.s p.ix=92;omega
  have ag:((c:Int)==92)=true:=by simpa using(by omega:(c:Int)=92)
  clear E L U N A;go_wp2_with fail;refine(Mu b p 0 _ C V (by omega) (by omega) af.o).mono ?_;rintro e w2⟨d,k⟩;have h:=D.trans d;have i:=z.keep d (by simp;omega);have B:G p.s .single p.op p.gr p.ix ((A9 p.s 0 (p.ix+1)).map fun a=>(.set (A0 a a),p.gr)):=.esc _ _ _ af.o;cases M:A9 p.s 0 (p.ix+1)with
  |bad j=>
   rw[M]at k B;subst k;simp only[fault];exact⟨rfl,_,B,h,rfl⟩
  |ok a j=>
   rw[M]at k B;obtain⟨rfl,r⟩:=k;have ar:=J0 M;obtain⟨m,hm⟩:∃m:Nat,a=m:=⟨a.toNat,by omega⟩;have T:Hid (G p.s .single p.op p.gr p.ix (.ok (.set (A0 a a),p.gr) j)):=B;have ho:=Nr hm;clear B M;subst hm;go_wp2_with fail;refine(Ng m (by omega) _).mono ?_;rintro e w3⟨rfl,hk3⟩;rw[ho];have H:=h.trans (hk3.mono (by simp));have u:=i.keep hk3 (by simp);have I:=r.keep hk3 (by simp);clear ho;have v:=KD (A0 (m:Int) (m:Int));have t:=(AT.set (w:=w3) (S:=fun x=>w.heap.size<=x) (A0 (m:Int) (m:Int))).cells.1;go_wp2_with(first|(refine KE rfl 208 2 (.tmp 34) rfl (some 35) rfl (.agg (AZ (A0 (m:Int) (m:Int)))) rfl _ v ?_)|(refine Ae rfl 208 _ _ rfl g _ rfl rfl _ _ u (Dg (Cp _ _ _)) JP (FO t) ?_));refine Ag (Au rfl _ _ g _ _ _ _ rfl (Aa _ _ _ _ _ _ u) Ft rfl (Dg (Cp _ _ _))) rfl ?_;have l:=(AG [g] w3).setRow (g:=g) (by simp) (sc (.int .i64 0) (.slice none 0 0) (A0 (m:Int) (m:Int))).toArray;exact⟨_,T.o,H.setRow (AE (by omega)) _,_,rfl,AT.set (A0 (m:Int) (m:Int)),I.keep l (by simp;omega)⟩
 have ag:((c:Int)==92)=false:=by simpa using(by omega:¬(c:Int)=92)
 by_cases ah:c=46
 ·have ai:Hid (at' p.s p.ix=46):=by show at' p.s p.ix=46;omega
  have aj:((c:Int)==46)=true:=by simpa using(by omega:(c:Int)=46)
  clear E L U ah N A;go_wp2_with fail;refine(Gx b p 46 (by omega) _ C V ai.o).mono ?_;rintro e w2⟨rfl,r,d⟩;have h:=D.trans d;have i:=z.keep d (by simp;omega);have T:Hid (G p.s .single p.op p.gr p.ix (.ok (.set fun _=>true,p.gr) (p.ix+1))):=.dot _ _ _ ai.o;go_wp2_with fail;refine(Rv _).mono ?_;rintro e w3⟨rfl,hk3⟩;have H:=h.trans (hk3.mono (by simp));have u:=i.keep hk3 (by simp);have I:=r.keep hk3 (by simp);have v:=KD (fun _=>true);have t:=(AT.set (w:=w3) (S:=fun x=>w.heap.size<=x) (fun _=>true)).cells.1;go_wp2_with(first|(refine KE rfl 208 2 (.tmp 42) rfl (some 43) rfl (.agg (AZ (fun _=>true))) rfl _ v ?_)|(refine Ae rfl 208 _ _ rfl g _ rfl rfl _ _ u (Dg (Cp _ _ _)) JP (FO t) ?_));refine Ag (Au rfl _ _ g _ _ _ _ rfl (Aa _ _ _ _ _ _ u) Ft rfl (Dg (Cp _ _ _))) rfl ?_;have l:=(AG [g] w3).setRow (g:=g) (by simp) (sc (.int .i64 0) (.slice none 0 0) (fun _=>true)).toArray;exact⟨_,T.o,H.setRow (AE (by omega)) _,_,rfl,AT.set (fun _=>true),I.keep l (by simp;omega)⟩
 have aj:((c:Int)==46)=false:=by simpa using(by omega:¬(c:Int)=46)
 have T:Hid (G p.s .single p.op p.gr p.ix (.ok (.set (A0 (c:Int) (c:Int)),p.gr) (p.ix+1))):=by
  have:=G.lit (s:=p.s) p.op p.gr p.ix J.1 (by omega) (by omega) (by omega) (by omega) J.2;rw[A]at this;exact this
 have ho:=Nr (c:=c) (a:=c) rfl;clear E L U ah A;go_wp2_with fail;refine(Gx b p c (by omega) _ C V N).mono ?_;rintro e w2⟨rfl,r,d⟩;have h:=D.trans d;have i:=z.keep d (by simp;omega);clear N;go_wp2_with fail;refine(Ng c Q _).mono ?_;rintro e w3⟨rfl,hk3⟩;rw[ho];have H:=h.trans (hk3.mono (by simp));have u:=i.keep hk3 (by simp);have I:=r.keep hk3 (by simp);clear ho;have v:=KD (A0 (c:Int) (c:Int));have t:=(AT.set (w:=w3) (S:=fun x=>w.heap.size<=x) (A0 (c:Int) (c:Int))).cells.1;go_wp2_with(first|(refine KE rfl 208 2 (.tmp 19) rfl (some 20) rfl (.agg (AZ (A0 (c:Int) (c:Int)))) rfl _ v ?_)|(refine Ae rfl 208 _ _ rfl g _ rfl rfl _ _ u (Dg (Cp _ _ _)) JP (FO t) ?_));refine Ag (Au rfl _ _ g _ _ _ _ rfl (Aa _ _ _ _ _ _ u) Ft rfl (Dg (Cp _ _ _))) rfl ?_;have l:=(AG [g] w3).setRow (g:=g) (by simp) (sc (.int .i64 0) (.slice none 0 0) (A0 (c:Int) (c:Int))).toArray;exact⟨_,T.o,H.setRow (AE (by omega)) _,_,rfl,AT.set (A0 (c:Int) (c:Int)),I.keep l (by simp;omega)⟩
theorem AT.snocP{S:Nat->Prop}{y:AD}{ds:List Value}(c:AT w S .piece y ds):∀{xs:List AD}{cs:List Value},AT w S .plist (app xs .pnil) cs->AT w S .plist (app (xs++[y]) .pnil) (cs++ds)
 |[],cs,h=>by
  cases h with
  |pnil=>
   have:=AT.pcons y .pnil ds [] c .pnil;simpa[app]using this
 |x::xs,cs,h=>by
  cases h with
  |pcons _ _ a b d e=>
   rw[CS];exact .pcons x _ a _ d (AT.snocP c e)
structure YL (p : QS) (b : Nat) (w wr : World) (v : Value) (xs : List AD) (cs : List Value) (i g1 : Nat) : Prop where
 qb : QB wr b { p with ix := i, gr := g1 }
 own : wr.ownsRow 0 212 261 v xs.length cs
 fresh : ∀ g, v.ownBlock = some g -> w.heap.size <= g
 rep : AT wr (fun g => w.heap.size <= g ∧ v.ownBlock ≠ some g) .plist (app xs .pnil) cs
 gn : GN wr
 keep : AA [b] w wr
 ile : i <= p.s.size
 len : p.ix + xs.length <= i
 gle : g1 <= 9
 spec : ∀ q, G p.s .way p.op g1 i q -> G p.s .way p.op p.gr p.ix (q.map fun y => (app xs y.1, y.2))
theorem YL.start(d:QB w b p)(a:GN w)(hle:p.ix<=p.s.size)(c:p.gr<=9):YL p b w w (.slice none 0 0) [] [] p.ix p.gr:=by
 refine⟨d,⟨rfl,.inl ⟨rfl,rfl⟩⟩,?_,.pnil,a,AG _ _,hle,by simp,c,?_⟩
 ·intro g h;simp[Value.ownBlock]at h
 ·intro q e;have:(q.map fun y=>(app [] y.1,y.2))=q:=by cases q<;>rfl
  rw[this];exact e
theorem YL.done{xs:List AD}(L:YL p b w wr v xs cs i g1)(h:Fv (at' p.s i)=false):JM .way .way b p w (.returned v) wr:=by
 by_cases a:Cw (at' p.s i)
 ·refine⟨_,L.spec _ (.nil _ _ _ a),L.keep,v,rfl,?_,L.qb⟩;exact .way _ cs v xs.length (L.rep.mono fun g h _=>h.1) L.own fun g d=>L.fresh g d
 ·have c:CR (at' p.s i):=by
   unfold Fv at h;simp only[I7]at h;unfold Cw at a;refine Classical.byContradiction fun e=>h ⟨by omega,e⟩
  refine⟨_,L.spec _ (.pbad _ _ _ _ a (.sbad _ _ _ _ (.no _ _ _ c))),L.keep,AE ⟨v,g1,rfl,A6 L.own,L.qb,?_,by have:=L.len;omega⟩⟩;unfold CR at c;unfold Cw at a;unfold Fw;omega
theorem Ns(cs:List Value)(o:Option (Nat×Int))(h:cs.length=258):Tryz.prog.built 212 [(0,.agg cs.toArray),(1,.agg (Af o).toArray)]=some (cs++Af o).toArray:=by
 rw[SA];have a:=Ha K9 0 (.agg cs.toArray) [(1,.agg (Af o).toArray)] [] (sc (.int .i64 0) (.slice none 0 0) (fun _=>false)) [Value.bool false,Value.int .i64 0,Value.int .i64 0] (by rw[Cp];rfl) (by rw[Cp];simpa[Value.cells]using h);have b:=Ha K9 1 (.agg (Af o).toArray) [] cs [.bool false,.int .i64 0,.int .i64 0] [] (by rw[h];rfl) (by simp[Value.cells,Fu]);simp only[CT,FN,Value.cells]at a b;exact a.trans (b.trans rfl)
theorem Nt{o:Oper}{a:Act}{K:Act->World->Prop}{Q:Exit->Act->World->Prop}(t i0 i1:Nat)(c d:Operand)(e:o.op=.build t #[(i0,c),(i1,d)])(v0 v1:Value)(f:a.eval c=v0)(g:a.eval d=v1)(cells:Array Value)(j:Tryz.prog.built t [(i0,v0),(i1,v1)]=some cells)(h:K (a.put o.dst (.agg cells)) w):o.wp Tryz.prog a w K Q:=by
 subst f g;have b:Tryz.prog.built t ((#[(i0,c),(i1,d)]:Array (Nat×Operand)).map fun(i,x)=>(i,a.eval x)).toList=some cells:=by simpa using j
 refine wp_build t _ e (by rw[b];rfl) ?_;rw[b];exact h
theorem LF{o:Oper}{a:Act}{K:Act->World->Prop}{Q:Exit->Act->World->Prop}(x:Operand)(g:o.op=.buildSlice 204 1 #[(0,x)])(c:List Value)(j:a.eval x=.agg c.toArray)(k:c.length=261)(h:K (a.put o.dst (.slice (some ⟨w.heap.size,0,none⟩) 1 1)) (w.alloc (.cells c.toArray 212))):o.wp Tryz.prog a w K Q:=by
 obtain⟨i0,d,f,b,l⟩:=A2 JK;refine wp_buildSlice 204 212 1 #[(0,x)] g c.toArray i0 _ Tryz.underlying204 d f (by rw[b];decide) (by rw[b];decide) ?_ h;rw[b];have:=SC c k;have e:(Value.agg pz.toArray).cells.size=261:=by simp[Value.cells,Hb]
 have m:((#[(0,x)]:Array (Nat×Operand)).map fun(i,x)=>(i,a.eval x)).toList=[(0,.agg c.toArray)]:=by simp[j]
 rw[e,m];exact this
theorem Nu{α β γ:Type}(q:R α)(f:α->β)(g:β->γ):(q.map f).map g=q.map fun x=>g (f x):=by cases q<;>rfl
theorem YL.next{X w5 w7:World}{xs:List AD}{c1:List Value}{k g2 g g' cap:Nat}{o:Option (Nat×Int)}(L:YL p b w w1 v xs cs i g1)(hbl:b<w.heap.size)(J:6<w.heap.size)(K:b≠6)(B:¬Cw (at' p.s i))(M:G p.s .single p.op g1 i (.ok (x,g2) j))(C:Bj p.s j (.ok o k))(D:AA [b] w1 X)(l:AT X (fun y=>w1.heap.size<=y∧y<g) .single x c1)(N:g<X.heap.size)(m:AA [b] X w5)(E:QB w5 b {p with ix:=k,gr:=g2})(O:i<j)(t:j<=p.s.size)(F:g2<=9)(u:w7.ownsRow 0 212 261 (.slice (some ⟨g',0,none⟩) (xs.length+1) cap) (xs.length+1) (cs++(c1++Af o)))(n:(w5.alloc (.cells (c1++Af o).toArray 212)).grownBy w7 v.ownBlock)(q:v.ownBlock=some g'∨g'=w5.heap.size+1):YL p b w w7 (.slice (some ⟨g',0,none⟩) (xs.length+1) cap) (xs++[Cn x o]) (cs++(c1++Af o)) k g2:=by
 have d:AA v.ownBlock.toList w5 w7:=((AG v.ownBlock.toList w5).alloc _).trans (De n);have r:∀y,y∈v.ownBlock.toList->w.heap.size<=y:=by
  intro y a;rw[Ay]at a;exact L.fresh y a
 have z:=A3 L.own;have c:AA [b] w1 w5:=D.trans m;have s1:=L.keep.size;have Q:=m.size;have P:=c.size;have f:=C.ok;refine⟨E.keep d ?_,?_,?_,?_,(L.gn.keep c ?_).keep d ?_,(L.keep.trans c).fresh d ?_,f.2 t,?_,F,?_⟩
 ·intro h;have:=r b h;omega
 ·rw[AW,CK];exact u
 ·intro y a;cases a;rcases q with h|h
  ·exact L.fresh _ h
  ·show w.heap.size<=g';omega
 ·refine AT.snocP (.piece x o c1 C.okRep ?_) ?_
  ·refine((l.keep m (by intro y a;simp;have:=L.qb.lt;omega)).keep d ?_).mono ?_
   ·intro y a hm;rw[Ay]at hm;have:=(z y hm).2;omega
   ·intro y a _;refine⟨by omega,?_⟩;intro e;cases e;rcases q with h|h
    ·have:=(z _ h).2;have:=a.1;simp at this;omega
    ·have:=a.2;simp at this;omega
  ·refine(((L.rep.mono (S':=fun y=>(w.heap.size<=y∧v.ownBlock≠some y)∧y<w1.heap.size) fun y H A=>⟨H,A⟩).keep c ?_).keep d ?_).mono ?_
   ·intro y a;have:=a.1.1;simp;omega
   ·intro y a hm;rw[Ay]at hm;exact a.1.2 hm
   ·intro y a _;refine⟨a.1.1,?_⟩;intro e;cases e;rcases q with h|h
    ·exact a.1.2 h
    ·have:=a.2;simp at this;omega
 ·simp;omega
 ·intro h;have:=r _ h;omega
 ·intro y a;right;exact r y a
 ·rw[AW,CK];have:=L.len;have:=f.1;omega
 ·intro R I;have H:G p.s .piece p.op g1 i (.ok (Cn x o,g2) k):=.rep _ _ _ _ _ _ _ M C;have A:=L.spec _ (.cons _ _ _ _ _ _ _ B H I);rw[Nu]at A;have e:(fun y:AD×Nat=>(app (xs++[Cn x o]) y.1,y.2))=fun y=>(app xs (AD.pcons (Cn x o) y.1),y.2):=by
   funext y;rw[NH]
  rw[e];exact A
theorem Nv(n:Nat)(IH:IN n)(b:Nat)(p:QS)(w:World)(hp:QB w b p)(ab:GN w)(ac:b≠6)(hs:p.s.size<=60)(hle:p.ix<=p.s.size)(aC:p.op<=6)(aD:p.gr<=9)(hn:p.s.size-p.ix<=n):Calls Tryz.prog 166 #[.pointer (some ⟨b,0,none⟩)] w (JM .way .way b p w):=by
 have hbl:=hp.lt;have an:=ab.lt;go_enter Tryz.func166,Tryz.ntmps166;go_wp2_with fail;go_loopw [3] (fun v wr=>∃xs cs i g1,YL p b w wr v xs cs i g1) (fun _ wr=>GW wr b)
 case atStart=>exact⟨[],[],p.ix,p.gr,YL.start hp ab hle aD⟩
 case round=>
  obtain⟨xs,cs,i,g1,L⟩:=hrel;clear hp ab;have ao:=FM L.qb;go_wp2_with fail;refine(SN b {p with ix:=i,gr:=g1} _ L.qb L.ile hs).mono ?_;rintro e w1⟨rfl,ap,E⟩;have c:YL p b w w1 u3 xs cs i g1:=⟨ap,L.own.keep E (by simp),L.fresh,L.rep.keep E (by simp),L.gn.keep E (by simp),L.keep.trans (E.mono (by simp)),L.ile,L.len,L.gle,L.spec⟩;have Z:QS.cur {p with ix:=i,gr:=g1}=at' p.s i:=rfl;rw[Z];clear L E ap Z;cases T:Fv (at' p.s i)with
  |false=>
   go_wp2_with fail;go_ret;exact c.done T
  |true=>
   have F:0<=at' p.s i∧¬CR (at' p.s i):=by unfold Fv at T;simpa using T
   have H:¬Cw (at' p.s i):=by
    have:=F.2;unfold CR at this;unfold Cw;omega
   have hlen:=c.len;go_wp2_with fail;refine(SS n IH b {p with ix:=i,gr:=g1} _ c.qb c.gn ac hs F aC c.gle (by simp;omega)).mono ?_;rintro e w2⟨q,hG,I,aq⟩;have aH:=c.qb.lt;cases q with
   |bad j=>
    subst aq;simp only[fault];exact⟨rfl,_,c.spec _ (.pbad _ _ _ _ H (.sbad _ _ _ _ hG)),c.keep.trans I,AH rfl⟩
   |ok y j=>
    obtain⟨x,g2⟩:=y;obtain⟨c1,rfl,A,U⟩:=aq;have B:=hG.okb x g2 j rfl;have ar:i<j:=B.2.2.1 (AE rfl);have C:j<=p.s.size:=B.2.1 c.ile;have au:g2<=9:=B.2.2.2.2 c.gle;have f:c1.length=258:=A.cells.2;have aE:sz.toArray.size=c1.toArray.size:=by simp[LD,f]
    have aF:=A.cells.1;have Y:Fx (w2.alloc (.cells sz.toArray 208)) w2.heap.size sz:=AS w2 _;have hk3:AA [] w2 (w2.alloc (.cells sz.toArray 208)):=(AG [] w2).alloc _;have HG:Hid (G p.s .single p.op g1 i (.ok (x,g2) j)):=hG;clear B hG T F;go_wp2_with(first|(refine JO rfl rfl (some 4) rfl ?_;generalize w2.alloc (.cells sz.toArray 208)=W at*)|(refine Ae rfl 208 _ _ rfl w2.heap.size _ rfl rfl _ _ Y (Dg f) aE (FO aF) ?_));obtain⟨q,R⟩:=Bj.some p.s j;obtain⟨g,hg⟩:=An w2.heap.size;rw[hg]at Y⊢;have ad:=(AG [g] W).setRow (g:=g) (by simp) c1.toArray;have ae:Fx (W.setRow g c1.toArray) g c1:=Aa _ _ _ _ _ _ Y;have aw:AA [b] w1 (W.setRow g c1.toArray):=((I.trans (hk3.mono (by simp)))).setRow (AE (by have:=I.size;omega)) _;have ax:QB (W.setRow g c1.toArray) b {p with ix:=j,gr:=g2}:=(U.keep hk3 (by simp)).keep ad (by have:=U.lt;simp;omega);have J:AT (W.setRow g c1.toArray) (fun y=>w1.heap.size<=y∧y<g) .single x c1:=((A.mono (S':=fun y=>w1.heap.size<=y∧y<g) (by intro y S aJ;exact⟨S,by omega⟩)).keep hk3 (by simp)).keep ad (by intro y S;simp;omega);have aa:g<(W.setRow g c1.toArray).heap.size:=ae.lt;have aI:b<g:=by have:=U.lt;omega
    have aK:w1.heap.size<=g:=by have:=I.size;omega
    clear Y hk3 ad I U A;generalize W.setRow g c1.toArray=V at*;have M:AA [] V V.drew:=(AG [] V).drewN 1;have D:AA [b] w1 V.drew:=aw.trans (M.mono (by simp));have ay:=ae.keep M (by simp);have az:=ax.keep M (by simp);have d:=J.keep M (by simp);have aA:g<V.drew.heap.size:=aa;clear aw ae ax J aa M;refine wp_region_any (by kernel_rfl) ?_;change wpAny _ _ _ _ _ _ _ (World.drew _);generalize V.drew=X at*;refine DD (i:=0) (v:=u3) rfl (by kernel_rfl) (by kernel_rfl) (by kernel_rfl) (fun _ _ _ h=>h) (AH ⟨by rfl,fun w=>by go_simp⟩) ?_;refine DD (i:=2) (v:=.pointer (some ⟨b,0,none⟩)) rfl (by kernel_rfl) (by kernel_rfl) (by kernel_rfl) (fun _ _ _ h=>h) (AH ⟨by rfl,fun w=>by go_simp⟩) ?_;refine Dt (rs:=[1,3]) (by kernel_rfl) (by simp) ?_;refine Dh rfl (fun K a=>?_) (Dh rfl (fun K a=>?_) Ds)
    ·rw[AL (by rfl)];refine wp_load_row 208 _ rfl g rfl _ _ _ _ ay Ft rfl (Dg f) (a _ _ ?_);clear a K;refine Dt (rs:=[3]) (by kernel_rfl) (by simp) ?_;refine Dh rfl (fun K a=>?_) Ds;go_simp;refine(Nq b {p with ix:=j,gr:=g2} X az hs C q R).mono ?_;rintro e w5⟨l,N⟩;cases q with
     |bad k=>
      subst N;simp only[fault];refine⟨rfl,_,c.spec _ (.pbad _ _ _ _ H (.rep _ _ _ _ _ _ _ HG.o R)),(c.keep.trans D).trans l,AH rfl⟩
     |ok o k=>
     obtain⟨rfl,af⟩:=N;refine a _ _ ?_;clear a K;have ag:=Ns c1 o f;have O:(c1++Af o).length=261:=by simp[f,Fu]
     have P:∀u∈c1++Af o,u.oneCell'=true:=(AT.piece x o c1 R.okRep d).cells.1;obtain⟨i0,ah,ai,aj,ak⟩:=A2 JK;have al:xs.length+1<=maxLen:=by unfold maxLen;have:=c.ile;omega
     have Q:u3.ownBlock≠some b:=by intro e;have:=c.fresh b e;omega
     have m:=(c.own.keep D (by intro y S hm;simp at hm;subst hm;exact Q S)).keep l (by intro y S hm;simp at hm;subst hm;exact Q S);refine Dt (rs:=[4]) (by kernel_rfl) (by simp) ?_;refine Dh rfl (fun K a=>?_) Ds;rw[AL (by rfl)];refine Nt 212 0 1 _ _ rfl (.agg c1.toArray) (.agg (Af o).toArray) rfl rfl _ ag (a _ _ ?_);clear a K;refine Dt (rs:=[5]) (by kernel_rfl) (by simp) ?_;refine Dh rfl (fun K a=>?_) Ds;rw[AL (by rfl)];refine LF _ rfl (c1++Af o) rfl O (a _ _ ?_);clear a K;refine Dt (rs:=[6]) (by kernel_rfl) (by simp) ?_;refine Dh rfl (fun K a=>?_) Ds;refine step_append_lies _ rfl _ _ _ rfl 0 212 i0 _ 261 312 Tryz.underlying204 ah ai aj ak (by simp[Value.cells,Hb]) (by omega) u3 xs.length cs rfl (m.alloc _) ⟨w5.heap.size,0,none⟩ 1 1 (c1++Af o) rfl (by rw[O]) (Dq (cs:=(c1++Af o).toArray) (t:=212) (fr:=(0,0)) (AS w5 _)) P (by omega) al (by omega) (by simp) (w5.heap.size+1) (by simp) ?_;intro g' cap w7 r z am aB;refine a _ _ ?_;clear a K;have L7:=c.next hbl an ac H HG.o R D d aA l af ar C au r z am;refine Dt (rs:=[7]) (by kernel_rfl) (by simp) ?_;refine Dh rfl (fun K a=>?_) Ds;go_simp;refine a _ _ ?_;clear a K;refine wpAny_done (by kernel_rfl) ?_ _;go_wp2_with fail;go_roundw
     case rel=>exact⟨_,_,_,_,L7⟩
     case measure=>rw[ao,FM L7.qb];have:=R.ok;simp;omega
    ·go_simp;refine(Nq b {p with ix:=j,gr:=g2} X az hs C q R).mono ?_;rintro e w5⟨l,N⟩;cases q with
     |bad k=>
      subst N;simp only[fault];refine⟨rfl,_,c.spec _ (.pbad _ _ _ _ H (.rep _ _ _ _ _ _ _ HG.o R)),(c.keep.trans D).trans l,AH rfl⟩
     |ok o k=>
     obtain⟨rfl,af⟩:=N;refine a _ _ ?_;clear a K;have ag:=Ns c1 o f;have O:(c1++Af o).length=261:=by simp[f,Fu]
     have P:∀u∈c1++Af o,u.oneCell'=true:=(AT.piece x o c1 R.okRep d).cells.1;obtain⟨i0,ah,ai,aj,ak⟩:=A2 JK;have al:xs.length+1<=maxLen:=by unfold maxLen;have:=c.ile;omega
     have Q:u3.ownBlock≠some b:=by intro e;have:=c.fresh b e;omega
     have m:=(c.own.keep D (by intro y S hm;simp at hm;subst hm;exact Q S)).keep l (by intro y S hm;simp at hm;subst hm;exact Q S);have aG:=ay.keep l (by simp;omega);refine Dt (rs:=[1]) (by kernel_rfl) (by simp) ?_;refine Dh rfl (fun K a=>?_) Ds;rw[AL (by rfl)];refine wp_load_row 208 _ rfl g rfl _ _ _ _ aG Ft rfl (Dg f) (a _ _ ?_);clear a K;refine Dt (rs:=[4]) (by kernel_rfl) (by simp) ?_;refine Dh rfl (fun K a=>?_) Ds;rw[AL (by rfl)];refine Nt 212 0 1 _ _ rfl (.agg c1.toArray) (.agg (Af o).toArray) rfl rfl _ ag (a _ _ ?_);clear a K;refine Dt (rs:=[5]) (by kernel_rfl) (by simp) ?_;refine Dh rfl (fun K a=>?_) Ds;rw[AL (by rfl)];refine LF _ rfl (c1++Af o) rfl O (a _ _ ?_);clear a K;refine Dt (rs:=[6]) (by kernel_rfl) (by simp) ?_;refine Dh rfl (fun K a=>?_) Ds;refine step_append_lies _ rfl _ _ _ rfl 0 212 i0 _ 261 312 Tryz.underlying204 ah ai aj ak (by simp[Value.cells,Hb]) (by omega) u3 xs.length cs rfl (m.alloc _) ⟨w5.heap.size,0,none⟩ 1 1 (c1++Af o) rfl (by rw[O]) (Dq (cs:=(c1++Af o).toArray) (t:=212) (fr:=(0,0)) (AS w5 _)) P (by omega) al (by omega) (by simp) (w5.heap.size+1) (by simp) ?_;intro g' cap w7 r z am aB;refine a _ _ ?_;clear a K;have L7:=c.next hbl an ac H HG.o R D d aA l af ar C au r z am;refine Dt (rs:=[7]) (by kernel_rfl) (by simp) ?_;refine Dh rfl (fun K a=>?_) Ds;go_simp;refine a _ _ ?_;clear a K;refine wpAny_done (by kernel_rfl) ?_ _;go_wp2_with fail;go_roundw
     case rel=>exact⟨_,_,_,_,L7⟩
     case measure=>rw[ao,FM L7.qb];have:=R.ok;simp;omega
theorem AT.snocW{S:Nat->Prop}{y:AD}{u:Value}(b:AT w S .way y [u]):∀{ys:List AD}{cs:List Value},AT w S .wlist (DM ys (.wone x)) cs->AT w S .wlist (DM (ys++[x]) (.wone y)) (cs++[u])
 |[],cs,h=>by
  cases h with
  |wone _ v a=>exact .wcons x _ v [u] a (.wone y u b)
 |z::ys,cs,h=>by
  cases h with
  |wcons _ _ v vs a c=>exact .wcons z _ v _ a (AT.snocW b c)
structure ZL (p : QS) (b : Nat) (w wr : World) (v : Value) (ys : List AD) (x : AD) (cs : List Value) (i g1 i0 g0 : Nat) : Prop where
 qb : QB wr b { p with ix := i, gr := g1 }
 own : wr.ownsRow 0 204 1 v (ys.length + 1) cs
 fresh : ∀ g, v.ownBlock = some g -> w.heap.size <= g
 rep : AT wr (fun g => w.heap.size <= g ∧ v.ownBlock ≠ some g) .wlist (DM ys (.wone x)) cs
 gn : GN wr
 keep : AA [b] w wr
 ile : i <= p.s.size
 len : p.ix + ys.length <= i
 gle : g1 <= 9
 last : G p.s .way p.op g0 i0 (.ok (x, g1) i)
 spec : ∀ q, G p.s .ways p.op g0 i0 q -> G p.s .ways p.op p.gr p.ix (q.map fun y => (DM ys y.1, y.2))
structure ZO (p : QS) (b : Nat) (w wr : World) (v : Value) (j g1 : Nat) : Prop where
 qb : QB wr b { p with ix := j, gr := g1 }
 sl : Bk v
 keep : AA [b] w wr
 odd : Fw (at' p.s j)
 ge : p.ix <= j
 spec : G p.s .ways p.op p.gr p.ix (.bad j)
theorem ZL.done{ys:List AD}{i0 g0:Nat}(L:ZL p b w wr v ys x cs i g1 i0 g0)(h:at' p.s i≠124):JM .ways .ways b p w (.returned v) wr:=by
 refine⟨_,L.spec _ (.one _ _ _ _ _ _ L.last h),L.keep,v,rfl,?_,L.qb⟩;exact .ways _ cs v _ (L.rep.mono fun g h _=>h.1) L.own fun g a=>L.fresh g a
theorem ZO.done(L:ZO p b w wr v j g1):JM .ways .ways b p w (.returned v) wr:=
 ⟨_,L.spec,L.keep,AE ⟨v,g1,rfl,L.sl,L.qb,L.odd,L.ge⟩⟩
theorem ZL.first(l:G p.s .way p.op p.gr p.ix (.ok (x,g1) j))(m:AA [b] w w1)(d:AT w1 (fun g=>w.heap.size<=g) .way x [v])(f:QB w1 b {p with ix:=j,gr:=g1})(i:GN w1)(hle:p.ix<=p.s.size)(k:p.gr<=9):ZL p b w (w1.alloc (.cells #[v] 204)) (.slice (some ⟨w1.heap.size,0,none⟩) 1 1) [] x [v] j g1 p.ix p.gr:=by
 have c:=l.okb x g1 j rfl;have a:AA [] w1 (w1.alloc (.cells #[v] 204)):=(AG [] w1).alloc _;refine⟨f.keep a (by simp),⟨rfl,.inr ⟨w1.heap.size,1,#[v],rfl,AY _,AS w1 _,AP _,by decide,rfl,rfl⟩⟩,?_,?_,i.keep a (by simp),m.trans (a.mono (by simp)),c.2.1 hle,by simp;exact c.1,c.2.2.2.2 k,l,?_⟩
 ·intro g h;cases h;exact m.size
 ·refine .wone x v ((d.mono (S':=fun g=>w.heap.size<=g∧g<w1.heap.size) fun g o r=>⟨o,r⟩).keep a (by simp) |>.mono ?_);intro g n _;refine⟨n.1,?_⟩;intro e;cases e;exact Nat.lt_irrefl _ n.2
 ·intro q f;have:(q.map fun y=>(DM [] y.1,y.2))=q:=by cases q<;>rfl
  rw[this];exact f
theorem ZL.next{w2 w5 w7:World}{u:Value}{ys:List AD}{y:AD}{g2 i0 g0 g' cap:Nat}(L:ZL p b w w1 v ys x cs i g1 i0 g0)(hbl:b<w.heap.size)(I:6<w.heap.size)(J:b≠6)(o:at' p.s i=124)(H:G p.s .way p.op g1 (i+1) (.ok (y,g2) j))(q:AA [b] w1 w2)(r:AA [b] w2 w5)(t:AT w5 (fun g=>w2.heap.size<=g) .way y [u])(D:QB w5 b {p with ix:=j,gr:=g2})(A:w7.ownsRow 0 204 1 (.slice (some ⟨g',0,none⟩) (ys.length+1+1) cap) (ys.length+1+1) (cs++[u]))(f:(w5.alloc (.cells #[u] 204)).grownBy w7 v.ownBlock)(k:v.ownBlock=some g'∨g'=w5.heap.size+1):ZL p b w w7 (.slice (some ⟨g',0,none⟩) (ys.length+1+1) cap) (ys++[x]) y (cs++[u]) j g2 (i+1) g1:=by
 have c:AA v.ownBlock.toList w5 w7:=((AG v.ownBlock.toList w5).alloc _).trans (De f);have l:∀y,y∈v.ownBlock.toList->w.heap.size<=y:=by
  intro y a;rw[Ay]at a;exact L.fresh y a
 have B:=A3 L.own;have d:AA [b] w1 w5:=q.trans r;have s1:=L.keep.size;have s2:=q.size;have K:=r.size;have m:=H.okb y g2 j rfl;have C:i+1<=p.s.size:=Ap (by omega);refine⟨D.keep c ?_,?_,?_,?_,(L.gn.keep d ?_).keep c ?_,(L.keep.trans d).fresh c ?_,m.2.1 C,?_,m.2.2.2.2 L.gle,H,?_⟩
 ·intro h;have:=l b h;omega
 ·rw[AW,CK];exact A
 ·intro y a;cases a;rcases k with h|h
  ·exact L.fresh _ h
  ·show w.heap.size<=g';omega
 ·refine AT.snocW ?_ ?_
  ·refine((t.mono (S':=fun y=>w2.heap.size<=y∧y<w5.heap.size) fun y E n=>⟨E,n⟩).keep c ?_).mono ?_
   ·intro y a hm;rw[Ay]at hm;have:=(B y hm).2;have:=a.1;omega
   ·intro y a _;refine⟨by have:=a.1;omega,?_⟩;intro e;cases e;rcases k with h|h
    ·have:=(B _ h).2;have:=a.1;simp at this;omega
    ·have:=a.2;simp at this;omega
  ·refine(((L.rep.mono (S':=fun y=>(w.heap.size<=y∧v.ownBlock≠some y)∧y<w1.heap.size) fun y E n=>⟨E,n⟩).keep d ?_).keep c ?_).mono ?_
   ·intro y a;have:=a.1.1;simp;omega
   ·intro y a hm;rw[Ay]at hm;exact a.1.2 hm
   ·intro y a _;refine⟨a.1.1,?_⟩;intro e;cases e;rcases k with h|h
    ·exact a.1.2 h
    ·have:=a.2;simp at this;omega
 ·simp;omega
 ·intro h;have:=l _ h;omega
 ·intro y a;right;exact l y a
 ·rw[AW,CK];have:=L.len;have:=m.1;omega
 ·intro M F;have n:=L.spec _ (.more _ _ _ _ _ _ _ L.last o F);rw[Nu]at n;have e:(fun z:AD×Nat=>(DM (ys++[x]) z.1,z.2))=fun z=>(DM ys (AD.wcons x z.1),z.2):=by
   funext z;rw[NN]
  rw[e];exact n
theorem LG{ops:Array Oper}{rest:List Oper}{o:Oper}{a:Act}{Q:Exit->Act->World->Prop}(f:o.guard=none)(x:Operand)(g:o.op=.buildSlice 68 1 #[(0,x)])(d:Option Tmp)(hd:o.dst=d)(v:Value)(j:a.eval x=v)(k:v.cells=#[v])(h:wpList Tryz.prog ops Q rest (a.put d (.slice (some ⟨w.heap.size,0,none⟩) 1 1)) (w.alloc (.cells #[v] 204))):wpList Tryz.prog ops Q (o::rest) a w:=by
 subst hd;obtain⟨i0,c,e,b,l⟩:=A2 LA;refine wpList_buildSlice f 68 204 1 #[(0,x)] g #[v] i0 _ Tryz.underlying68 c e (by rw[b];decide) (by rw[b];decide) ?_ h;rw[b];have:=SE v k;have m:((#[(0,x)]:Array (Nat×Operand)).map fun(i,x)=>(i,a.eval x)).toList=[(0,v)]:=by simp[j]
 rw[m];exact this
theorem SU(n:Nat)(IH:IN n):IN (n+1):=by
 intro b p w Z r C X hle K M hn;have hbl:=Z.lt;have aa:=r.lt;go_enter Tryz.func117,Tryz.ntmps117;go_wp2_with fail;refine(Nv n IH b p _ Z r C X hle K M (by omega)).mono ?_;rintro e w1⟨q,o,l,D⟩;have N:=r.keep l (by simp;omega);have hS:(∃j,e=fault j∧q=.bad j)∨∃v,e=.returned v∧v.cells=#[v]∧v.oneCell'=true∧((∃x i g1,ZL p b w (w1.alloc (.cells #[v] 204)) (.slice (some ⟨w1.heap.size,0,none⟩) 1 1) [] x [v] i g1 p.ix p.gr)∨∃j g1,ZO p b w (w1.alloc (.cells #[v] 204)) (.slice (some ⟨w1.heap.size,0,none⟩) 1 1) j g1):=by
  cases q with
  |bad j=>
   rcases D with h|⟨v,g1,E,O,F,h5,h6⟩
   ·exact AH ⟨j,h,rfl⟩
   ·exact AE ⟨v,E,O.cells,O.one,AE ⟨j,g1,F.keep ((AG [] w1).alloc _) (by simp),⟨_,_,_,rfl⟩,l.trans ((AG [b] w1).alloc _),h5,h6,.wbad _ _ _ _ o⟩⟩
  |ok y j=>
   obtain⟨x,g1⟩:=y;obtain⟨v,E,f,F⟩:=D;have P:=f.cells;obtain⟨u,hu,G⟩:=P.2;cases hu;exact AE ⟨v,E,G,P.1 v (by simp),AH ⟨x,j,g1,ZL.first o l f F N hle M⟩⟩
 rcases hS with⟨j,rfl,rfl⟩|⟨v,rfl,Q,ab,Y⟩
 ·simp only[fault];exact⟨rfl,_,.wbad _ _ _ _ o,l,AH rfl⟩
 ·clear D o;go_wp2_with(first|(refine LG rfl (.tmp 5) rfl (some 6) rfl v rfl Q ?_));go_loopw [3] (fun z wr=>(∃ys x cs i g1 i0 g0,ZL p b w wr z ys x cs i g1 i0 g0)∨∃j g1,ZO p b w wr z j g1) (fun _ wr=>GW wr b)
  case atStart=>
   rcases Y with⟨x,i,g1,L⟩|⟨j,g1,L⟩
   ·exact AH ⟨[],x,[v],i,g1,p.ix,p.gr,L⟩
   ·exact AE ⟨j,g1,L⟩
  case round=>
   clear Y Q ab N l Z r;rcases hrel with⟨ys,x,cs,i,g1,i0,g0,L⟩|⟨j,g1,L⟩
   ·have R:=FM L.qb;go_wp2_with fail;refine(DJ b {p with ix:=i,gr:=g1} 124 (by omega) _ L.qb L.ile X).mono ?_;rintro e w2⟨rfl,g,c⟩;by_cases a:at' p.s i=124
    ·obtain⟨t,A⟩:=Er (p:={p with ix:=i,gr:=g1}) a;rw[t];rw[A]at g;clear t A;have S:i+1<=p.s.size:=Ap (by omega);have hlen:=L.len;have ac:=L.gn.keep c (by simp;omega);go_wp2_with fail;refine(Nv n IH b {p with ix:=i+1,gr:=g1} _ g ac C X S K L.gle (by simp;omega)).mono ?_;rintro e w3⟨q,o,hk3,H⟩;have T:u3.ownBlock≠some b:=by intro e;have:=L.fresh b e;omega
     have I:w3.ownsRow 0 204 1 u3 (ys.length+1) cs:=(L.own.keep c (by intro y m hm;simp at hm;subst hm;exact T m)).keep hk3 (by intro y m hm;simp at hm;subst hm;exact T m);have hS:(∃j,e=fault j∧q=.bad j)∨∃u,e=.returned u∧u.cells=#[u]∧u.oneCell'=true∧∀w7 g' cap,w7.ownsRow 0 204 1 (.slice (some ⟨g',0,none⟩) (ys.length+1+1) cap) (ys.length+1+1) (cs++[u])->(w3.alloc (.cells #[u] 204)).grownBy w7 u3.ownBlock->(u3.ownBlock=some g'∨g'=w3.heap.size+1)->
      ((∃ad x cs i g1 i0 g0,ZL p b w w7 (.slice (some ⟨g',0,none⟩) (ys.length+1+1) cap) ad x cs i g1 i0 g0)∨∃j g1,ZO p b w w7 (.slice (some ⟨g',0,none⟩) (ys.length+1+1) cap) j g1)∧GW w7 b<GW wr b:=by
      cases q with
      |bad j=>
       rcases H with h|⟨u,g2,E,O,F,h5,h6⟩
       ·exact AH ⟨j,h,rfl⟩
       ·refine AE ⟨u,E,O.cells,O.one,?_⟩;intro w7 g' cap _ d _;have U:AA u3.ownBlock.toList w3 w7:=((AG u3.ownBlock.toList w3).alloc _).trans (De d);have V:∀y,y∈u3.ownBlock.toList->w.heap.size<=y:=by
         intro y m;rw[Ay]at m;exact L.fresh y m
        have W:QB w7 b {p with ix:=j,gr:=g2}:=F.keep U (by intro h;have:=V b h;omega);have aq:i+1<=j:=h6;refine⟨AE ⟨j,g2,W,⟨_,_,_,rfl⟩,((L.keep.trans c).trans hk3).fresh U (fun y m=>AE (V y m)),h5,by omega,?_⟩,?_⟩
        ·exact L.spec _ (.more _ _ _ _ _ _ _ L.last a (.wbad _ _ _ _ o))
        ·rw[R,FM W];simp;omega
      |ok y j=>
       obtain⟨y,g2⟩:=y;obtain⟨u,E,f,F⟩:=H;have P:=f.cells;obtain⟨u',hu,G⟩:=P.2;cases hu;refine AE ⟨u,E,G,P.1 u (by simp),?_⟩;intro w7 g' cap k d J;have L7:=L.next hbl aa C a o c hk3 f F k d J;have ae:=(o.okb y g2 j rfl).1;refine⟨AH ⟨_,_,_,_,_,_,_,L7⟩,?_⟩;rw[R,FM L7.qb];simp;simp at ae;omega
     rcases hS with⟨j,rfl,rfl⟩|⟨u,rfl,af,ag,Y⟩
     ·simp only[fault];exact⟨rfl,_,L.spec _ (.more _ _ _ _ _ _ _ L.last a (.wbad _ _ _ _ o)),(L.keep.trans c).trans hk3,AH rfl⟩
     ·obtain⟨ah,ai,aj,ak,al⟩:=A2 LA;have am:ys.length+1+1<=maxLen:=by unfold maxLen;omega
      have an:=Tryz.underlying68;clear H o;go_wp2_with(first|(refine LG rfl (.tmp 13) rfl (some 14) rfl u rfl af ?_)|(at_builtin;refine CC _ rfl _ _ _ rfl 0 204 ah (.slice none 0 0) 1 24 an ai aj ak al rfl (by decide) u3 (ys.length+1) cs rfl (I.alloc _) ⟨w3.heap.size,0,none⟩ 1 1 [u] rfl rfl (cell_one_new _ _ _) (by simpa using ag) (by omega) am (by omega) (by simp) (w3.heap.size+1) (by simp) ?_;intro g' cap w7 k d J ap));exact Y _ _ _ k d J
    ·obtain⟨t,A⟩:=EN (p:={p with ix:=i,gr:=g1}) a;rw[t];rw[A]at g;have L2:ZL p b w w2 u3 ys x cs i g1 i0 g0:=⟨g,L.own.keep c (by intro y m hm;simp at hm;subst hm;have:=L.fresh _ m;omega),L.fresh,L.rep.keep c (by intro y m;simp;omega),L.gn.keep c (by simp;omega),L.keep.trans c,L.ile,L.len,L.gle,L.last,L.spec⟩;clear t A;go_wp2_with fail;go_ret;exact L2.done a
   ·have B:=L.odd;have ao:0<=at' p.s j:=by unfold Fw at B;omega
    have a:¬at' p.s j=124:=by unfold Fw at B;omega
    go_wp2_with fail;refine(DJ b {p with ix:=j,gr:=g1} 124 (by omega) _ L.qb (Dp (Ap ao)) X).mono ?_;rintro e w2⟨rfl,g,c⟩;obtain⟨t,A⟩:=EN (p:={p with ix:=j,gr:=g1}) a;rw[t];rw[A]at g;have L2:ZO p b w w2 u3 j g1:=⟨g,L.sl,L.keep.trans c,L.odd,L.ge,L.spec⟩;clear t A;go_wp2_with fail;go_ret;exact L2.done
theorem SV(n:Nat):IN n:=by
 induction n with
 |zero=>intro b p w _ _ _ _ _ _ _ h;omega
 |succ n ih=>exact SU n ih
