/-
  DERIVED. What the program's newWays has in its loop; plain lists of ways. No conditions.
-/
import Derived.Test.YtnfojonmohijpaaGreatDoorJNR
set_option linter.all false
set_option maxRecDepth 100000
set_option maxHeartbeats 8000000
namespace Go.Proofs.YtnfojonmohijpaaGreatDoor
open Go.RowKit
variable{x y:AD}{W w w' wr:World}{s:ByteArray}{cs vs:List Value}{N gm i j k:Nat}{a c v:Value}{t:Tr}
def IV:=@List.replicate_succ
def Ck:=@Tryz.underlying80
theorem KQ:∀(x:AD),(wl x).length<=x.sz
 | .wcons x r=>by have:=KQ r;simp only[wl,Aj,AD.sz];omega
 | .wone x=>by simp only[wl,Aj,BJ,AD.sz];omega
 | .set _=>AY _
 | .grp _ _=>AY _
 | .rep _ _ _=>AY _
 | .pnil=>AY _
 | .pcons _ _=>AY _
theorem Tv:∀{i:Nat}{y:AD},x.fair 9->(wl x)[i]? =some y->y.fair 9:=by
 induction x with
 |wcons x r _ ih=>
  intro i y h a;cases i with
  |zero=>simp[wl]at a;subst a;exact h.1
  |succ i=>exact ih h.2 (by simpa[wl]using a)
 |wone x _=>
  intro i y h a;cases i with
  |zero=>simp[wl]at a;subst a;exact h
  |succ i=>simp[wl]at a
 |_=>intro i y _ a;simp[wl]at a
theorem Mt.ways{S:Nat->Prop}(h:AT w S .wlist x vs)(a b:Nat):Mt s x a b↔∃(j:Nat)(y:AD),(wl x)[j]? =some y∧Mt s y a b:=by
 generalize d:Kr.wlist=e at h
 induction h with
 |wone x v _ _=>
  constructor
  ·intro h;exact⟨0,x,rfl,h⟩
  ·rintro⟨j,y,c,h⟩;cases j with
   |zero=>simp[wl]at c;subst c;exact h
   |succ j=>simp[wl]at c
 |wcons x r v vs _ _ _ ih=>
  constructor
  ·rintro(h|h)
   ·exact⟨0,x,rfl,h⟩
   ·obtain⟨j,y,c,h⟩:=(ih rfl).1 h;exact⟨j+1,y,by simpa[wl]using c,h⟩
  ·rintro⟨j,y,c,h⟩;cases j with
   |zero=>simp[wl]at c;subst c;exact AH h
   |succ j=>exact AE ((ih rfl).2 ⟨j,y,by simpa[wl]using c,h⟩)
 |_=>cases d
theorem Mk.wlist{S':Nat->Prop}{S:Nat->Prop}(h:AT w S .wlist x vs):∀{cs:List Value},cs.length=(wl x).length*2->(∀(j:Nat)(y:AD),(wl x)[j]? =some y->∃a r,cs[j*2]? =some a∧cs[j*2+1]? =some r∧Mk w' S' s N .way y [a,r])->Mk w' S' s N .wlist x cs:=by
 generalize n:Kr.wlist=q at h
 induction h with
 |wone x v _ _=>
  intro cs i g;obtain⟨a,r,e,f,k⟩:=g 0 x rfl
  match cs,i,e,f with
  |[c,d],_,e,f=>
   simp at e f;subst e f;exact .wone x _ k
 |wcons x r v vs _ _ _ ih=>
  intro cs i g;obtain⟨a,b,e,f,k⟩:=g 0 x rfl
  match cs,i,e,f,g with
  |c::d::ds,i,e,f,g=>
   simp at e f;subst e f;refine .wcons x r [c,d] ds k (ih rfl (by simp[wl]at i⊢;omega) fun j y o=>?_);obtain⟨a,b,l,m,p⟩:=g (j+1) y (by simpa[wl]using o);refine⟨a,b,?_,?_,p⟩
   ·rw[show(j+1)*2=j*2+1+1 by omega]at l;simpa using l
   ·rw[show(j+1)*2+1=j*2+1+1+1 by omega]at m;simpa using m
 |_=>cases n
structure YM (W wr : World) (s : ByteArray) (N : Nat) (x : AD) (i k gm : Nat) (v : Value) (cs : List Value) (c : Value) : Prop where
 made : wr.heap[gm]? = some (.cells #[v, c] 78 (0, 0))
 own : wr.ownsRow 0 222 2 v i cs
 fresh : ∀ g, v.ownBlock = some g -> W.heap.size <= g ∧ g ≠ gm
 parts : ∀ (j : Nat) (y : AD), j < i -> (wl x)[j]? = some y -> ∃ a r, cs[j * 2]? = some a ∧ cs[j * 2 + 1]? = some r ∧ Mk wr (fun z => W.heap.size <= z ∧ z ≠ gm ∧ v.ownBlock ≠ some z) s N .way y [a, r]
 can : MP wr (fun z => W.heap.size <= z ∧ z ≠ gm ∧ v.ownBlock ≠ some z) N c (fun a b => ∃ (j : Nat) (y : AD), j < k ∧ (wl x)[j]? = some y ∧ Mt s y a b)
 keep : AA [] W wr
 low : W.heap.size <= gm
theorem YM.glt(h:YM W wr s N x i k gm v cs c):gm<wr.heap.size:=(AN.1 h.made).1
theorem YM.keeps(h:YM W wr s N x i k gm v cs c)(b:AA [] wr w'):YM W w' s N x i k gm v cs c:=by
 refine⟨(b.block gm h.glt (by simp)).trans h.made,h.own.keep b (by simp),h.fresh,fun j y d e=>?_,h.can.keep b (by simp),h.keep.trans b,h.low⟩;obtain⟨a,r,f,g,l⟩:=h.parts j y d e;exact⟨a,r,f,g,l.keep b (by simp)⟩
theorem YM.done{w0:World}{S:Nat->Prop}(f:AT w0 S .wlist x vs)(hi:i=(wl x).length)(h:YM W wr s N x i i gm v cs c):Mk wr (fun z=>W.heap.size<=z) s N .ways x [v,c]:=by
 subst hi;have k:cs.length=(wl x).length*2:=h.own.1;refine .ways x cs v c _ (Mk.wlist f k fun j y d=>?_) h.own (fun g l=>(h.fresh g l).1) ((h.can.mono fun z e _=>e.1).congr fun a b _ _=>?_)
 ·obtain⟨a,r,m,n,o⟩:=h.parts j y (BT.1 d).1 d;exact⟨a,r,m,n,o.mono fun z e _=>e.1⟩
 ·rw[Mt.ways f];constructor
  ·rintro⟨j,y,_,h⟩;exact⟨j,y,h⟩
  ·rintro⟨j,y,d,h⟩;exact⟨j,y,(BT.1 d).1,d,h⟩
theorem YM.add{w0 w2 o:World}{g' cap:Nat}{r:Value}(h:YM W w2 s N x i k gm v cs c)(G:(wl x)[i]? =some y)(hm:Mk w2 (fun z=>w0.heap.size<=z) s N .way y [a,r])(H:gm<w0.heap.size)(Q:W.heap.size<=w0.heap.size)(I:∀g,v.ownBlock=some g->g<w0.heap.size)(u:o.ownsRow 0 222 2 (.slice (some ⟨g',0,none⟩) (i+1) cap) (i+1) (cs++[a,r]))(t:(w2.alloc (.cells #[a,r] 222)).grownBy o v.ownBlock)(w:v.ownBlock=some g'∨g'=w2.heap.size+1):YM W (o.setCell ⟨gm,0,none⟩ (.slice (some ⟨g',0,none⟩) (i+1) cap)) s N x (i+1) k gm (.slice (some ⟨g',0,none⟩) (i+1) cap) (cs++[a,r]) c:=by
 have hk4:AA v.ownBlock.toList w2 o:=((AG v.ownBlock.toList w2).alloc _).trans (De t);have f:AA [gm] o (o.setCell ⟨gm,0,none⟩ (.slice (some ⟨g',0,none⟩) (i+1) cap)):=(AG [gm] o).setCell (p:=⟨gm,0,none⟩) (by simp) _;have C:=h.glt;have D:gm∉v.ownBlock.toList:=by
  intro hm;rw[Ay]at hm;exact(h.fresh gm hm).2 rfl
 have E:=(hk4.block gm C D).trans h.made;have A:W.heap.size<=g'∧g'≠gm:=by
  rcases w with e|e
  ·exact h.fresh g' e
  ·have:=h.keep.size;omega
 have l:∀z,v.ownBlock≠some z->z<w2.heap.size->(Value.slice (some ⟨g',0,none⟩) (i+1) cap).ownBlock≠some z:=by
  intro z d J e;simp only[Value.ownBlock,Ai]at e;subst e;rcases w with e|e
  ·exact d e
  ·omega
 have m:∀z,v.ownBlock≠some z->z∉v.ownBlock.toList:=by
  intro z d hm;rw[Ay]at hm;exact d hm
 have F:cs.length=i*2:=h.own.1;refine⟨?_,u.keep f ?_,?_,?_,?_,?_,h.low⟩
 ·simp[World.setCell,Aq,E]
 ·intro z d;simp only[Value.ownBlock,Ai]at d;subst d;simp;exact A.2
 ·intro z d;simp only[Value.ownBlock,Ai]at d;subst d;exact A
 ·intro j z R d;by_cases e:j<i
  ·obtain⟨K,L,M,O,P⟩:=h.parts j z e d;refine⟨K,L,by rw[Db (by omega)];exact M,by rw[Db (by omega)];exact O,?_⟩;refine(((P.mono (S':=fun q=>(W.heap.size<=q∧q≠gm∧v.ownBlock≠some q)∧q<w2.heap.size) fun q b n=>⟨b,n⟩).keep hk4 fun q b=>m q b.1.2.2).keep f fun q b=>by simp;exact b.1.2.1).mono fun q b _=>⟨b.1.1,b.1.2.1,l q b.1.2.2 b.2⟩
  ·have:j=i:=by omega
   subst this;rw[G]at d;cases d;refine⟨a,r,by rw[ER (by omega),F];simp,by rw[ER (by omega),F,show j*2+1-j*2=1 by omega];rfl,?_⟩;have B:∀q,w0.heap.size<=q->v.ownBlock≠some q:=by
    intro q b e;have:=I q e;omega
   refine(((hm.mono (S':=fun q=>w0.heap.size<=q∧q<w2.heap.size) fun q b n=>⟨b,n⟩).keep hk4 fun q b=>m q (B q b.1)).keep f fun q b=>by simp;omega).mono fun q b _=>⟨by omega,by omega,l q (B q b.1) b.2⟩
 ·exact(((h.can.mono (S':=fun q=>(W.heap.size<=q∧q≠gm∧v.ownBlock≠some q)∧q<w2.heap.size) fun q b n=>⟨b,n⟩).keep hk4 fun q b=>m q b.1.2.2).keep f fun q b=>by simp;exact b.1.2.1).mono fun q b _=>⟨b.1.1,b.1.2.1,l q b.1.2.2 b.2⟩
 ·exact BZ (BZ h.keep hk4 (by intro z d;rw[Ay]at d;exact AE (h.fresh z d).1)) f (by intro z d;simp at d;subst d;exact AE h.low)
theorem YM.or{l:World}{S:Nat->Prop}{m:Value}(h:YM W l s N x i k gm v cs c)(u:(wl x)[k]? =some y)(hm:MP l S N m (fun a b=>(∃(j:Nat)(y:AD),j<k∧(wl x)[j]? =some y∧Mt s y a b)∨Mt s y a b))(w:∀z,S z->W.heap.size<=z∧z≠gm∧v.ownBlock≠some z):YM W (l.setCell ⟨gm,1,none⟩ m) s N x i (k+1) gm v cs m:=by
 have n:AA [gm] l (l.setCell ⟨gm,1,none⟩ m):=(AG [gm] l).setCell (p:=⟨gm,1,none⟩) (by simp) _;have o:=h.made;refine⟨?_,h.own.keep n ?_,h.fresh,?_,?_,BZ h.keep n (by intro z d;simp at d;subst d;exact AE h.low),h.low⟩
 ·simp[World.setCell,Aq,o]
 ·intro z d;simp;exact(h.fresh z d).2
 ·intro j z A d;obtain⟨B,C,r,g,f⟩:=h.parts j z A d;exact⟨B,C,r,g,f.keep n fun q t=>by simp;exact t.2.1⟩
 ·refine(((hm.mono (S':=fun z=>W.heap.size<=z∧z≠gm∧v.ownBlock≠some z) fun z d _=>w z d).keep n fun q t=>by simp;exact t.2.1)).congr fun a b _ _=>?_
  constructor
  ·rintro(⟨j,z,r,g,f⟩|f)
   ·exact⟨j,z,by omega,g,f⟩
   ·exact⟨k,y,by omega,u,f⟩
  ·rintro⟨j,z,r,g,f⟩;by_cases e:j<k
   ·exact AH ⟨j,z,e,g,f⟩
   ·have:j=k:=by omega
    subst this;rw[u]at g;cases g;exact AE f
theorem Tw:(Tryz.prog.info? 222).map (fun i=>(i.zero,i.size,i.bytes))=some (some (.agg #[.slice none 0 0,.slice none 0 0]),2,48):=by kernel_rfl
theorem YM.start{w1:World}(i:MP w1 (fun g=>W.heap.size<=g) N c (fun _ _=>False))(d:AA [] W w1):YM W ((w1.alloc (.cells #[.slice none 0 0,.slice none 0 0] 78)).setRow w1.heap.size #[.slice none 0 0,c]) s N x 0 0 w1.heap.size (.slice none 0 0) [] c:=by
 have f:(w1.alloc (.cells #[.slice none 0 0,.slice none 0 0] 78)).heap[w1.heap.size]? =some (.cells #[.slice none 0 0,.slice none 0 0] 78 (0,0)):=AS w1 _;have e:AA [] w1 ((w1.alloc (.cells #[.slice none 0 0,.slice none 0 0] 78)).setRow w1.heap.size #[.slice none 0 0,c]):=((AG [] w1).alloc _).setRow (AE (AP _)) _;refine⟨Aa _ _ _ _ _ _ f,FH _ _ _ _,by simp[Value.ownBlock],fun j y m=>by omega,?_,d.trans e,d.size⟩;exact((i.mono (S':=fun z=>W.heap.size<=z∧z≠w1.heap.size∧(Value.slice none 0 0).ownBlock≠some z) fun z k l=>⟨k,by omega,by simp[Value.ownBlock]⟩).keep e (by simp)).congr fun a b _ _=>by
  constructor
  ·intro h;exact h.elim
  ·rintro⟨j,y,h,_⟩;omega
theorem Je{g:Nat}{b:Value}(h:w.heap[g]? =some (.cells #[a,b] 78 (0,0))):w.cell? ⟨g,0,none⟩=some a∧w.cell? ⟨g,1,none⟩=some b∧w.frozen? ⟨g,0,none⟩=false∧w.frozen? ⟨g,1,none⟩=false:=by
 refine⟨?_,?_,?_,?_⟩
 ·rw[AU h];rfl
 ·rw[AU h];rfl
 ·simp[World.frozen?,h]
 ·simp[World.frozen?,h]
theorem Mk.way_form{S:Nat->Prop}{r:Value}(h:Mk w S s N .way y [a,r]):Bk a∧∃M,RR w S N (M+1) r (fun d=>Mt s (Be d y)):=by
 cases h with
 |way _ _ _ _ n _ b _ c=>exact⟨A6 b,n,c⟩
theorem Tx(s:ByteArray)(N:Nat)(HN:Hid (N=s.size+1))(hs:s.size<=100)(k:Nat)(a8:k+1<=1000)(IW:LU s N k):LQ s N (k+1):=by
 intro x hx V w S v ah;cases ah with
 |ways _ vs _ n hr b _=>
 obtain⟨va,vn,vc,rfl⟩:=A6 b;have aI:vn=n:=by
  rcases b.2 with⟨e,e2⟩|⟨g,cap,cur,e,_⟩
  ·cases e;exact e2.symm
  ·cases e;rfl
 subst aI;have X:Hid (vn=(wl x).length):=by
  have h1:=b.1;have h2:=hr.wl_text.2.1;show vn=(wl x).length;omega
 have a9:(vn:Int)<=1000:=by have:=X.o;have:=KQ x;omega
 have Z:(w.alloc (.cells #[.slice none 0 0,.slice none 0 0] 78)).heap[w.heap.size]? =some (.cells #[.slice none 0 0,.slice none 0 0] 78 (0,0)):=AS w _;have ab:AA [] w (w.alloc (.cells #[.slice none 0 0,.slice none 0 0] 78)):=(AG [] w).alloc _;go_enter Tryz.func72,Tryz.ntmps72;go_upto_region 1 with(fail)
 generalize(w.alloc (.cells #[.slice none 0 0,.slice none 0 0] 78))=W at*;obtain⟨g1,ai⟩:=AQ w.heap.size;rw[<-ai]at Z⊢;have aj:g1<W.heap.size:=(AN.1 Z).1;have ak:w.heap.size<=g1:=by omega
 clear ai;go_wp2_with fail;refine(TA s.size N HN hs W).mono ?_;rintro e w1⟨c0,rfl,H,al⟩;obtain⟨gc,cc,rfl⟩:=H.slice;have Y0:=YM.start (s:=s) (x:=x) H al;have m:(w1.alloc (.cells #[.slice none 0 0,.slice none 0 0] 78)).heap[w1.heap.size]? =some (.cells #[.slice none 0 0,.slice none 0 0] 78 (0,0)):=AS w1 _;go_wp2_with(first|(refine Ae rfl 78 _ _ rfl w1.heap.size #[.slice none 0 0,.slice (some ⟨gc,0,none⟩) N cc] rfl rfl _ _ m (Ja _ _) rfl (Ew rfl rfl) ?_;generalize(w1.alloc (.cells #[.slice none 0 0,.slice none 0 0] 78)).setRow w1.heap.size #[.slice none 0 0,.slice (some ⟨gc,0,none⟩) N cc]=w2 at*;clear m));obtain⟨gm,am⟩:=AQ w1.heap.size;rw[<-am]at Y0⊢;clear am H al;go_loopw [7,8,15] (fun _ _ q wr=>∃(i:Nat)(v:Value)(cs:List Value)(c:Value),i<=vn∧q=.int .i64 i∧YM W wr s N x i i gm v cs c) (fun _ _ q _=>vn-(intOf q).toNat)
 case atStart=>exact⟨0,_,_,_,AY _,rfl,Y0⟩
 case round=>
  clear Y0;obtain⟨i,v,cs,c,hi,rfl,Y⟩:=hrel;have ba:=ab.size;obtain⟨I,J,rfl⟩:=Y.can.slice;obtain⟨K,L,O,rfl⟩:=A6 Y.own;by_cases hlt:i<vn
  ·obtain⟨y,hy⟩:∃y,(wl x)[i]? =some y:=⟨_,Ax (by have:=X.o;omega)⟩;obtain⟨u,hu,aJ,a2⟩:=hr.wl_text.2.2 i y hy;have aK:=Tv V hy;obtain⟨gv,bc,hv,_,aL⟩:=b.form (by omega);cases hv;have ao:gv<w.heap.size:=aL;have ap:AA [] w wr:=ab.trans Y.keep;have aM:wr.cell? ⟨gv,i,none⟩=some u:=(Ad (ap.block gv ao (by simp))).trans ((BX b i (by omega)).trans hu);have ad:AT wr S .way y [u]:=aJ.keep ap (by simp);have aq:(0:Int)<=(i:Int):=by omega
   have hin:(i:Int)<(vn:Int):=by omega
   have HI:Hid (i<vn):=hlt;obtain⟨ua,un,uc,rfl⟩:Bk u:=by
    cases ad with
    |way _ _ _ _ _ ho _=>exact A6 ho
   clear hi hlt hu;go_wp2_with fail;refine(IW y (by omega) aK wr S _ ad).mono ?_;rintro e w3⟨ds,rfl,hm,hk3⟩;obtain⟨a3,a,r,rfl⟩:=id hm.form;obtain⟨aN,Mr,ar⟩:=hm.way_form;obtain⟨E,F,ac,rfl⟩:=aN;obtain⟨gr,G,ur,rfl,aO,aP,au,ae⟩:=ar.at (d:=0) (by omega);obtain⟨gu,cu,rfl⟩:=ae.slice;obtain⟨M,HM⟩:∃M,Hid (M=Mr+1):=⟨_,rfl⟩;have aw:=HM.o;rw[<-aw]at hm⊢;have H:(0:Int)<(M:Int):=by omega
   clear aw ar;have m:(w3.alloc (.cells #[.slice none 0 0,.slice none 0 0] 222)).heap[w3.heap.size]? =some (.cells #[.slice none 0 0,.slice none 0 0] 222 (0,0)):=AS w3 _;have hk4:AA [] w3 ((w3.alloc (.cells #[.slice none 0 0,.slice none 0 0] 222)).setRow w3.heap.size #[.slice E F ac,.slice (some ⟨gr,0,none⟩) M G]):=((AG [] w3).alloc _).setRow (AE (AP _)) _;have t:((w3.alloc (.cells #[.slice none 0 0,.slice none 0 0] 222)).setRow w3.heap.size #[.slice E F ac,.slice (some ⟨gr,0,none⟩) M G]).heap[w3.heap.size]? =some (.cells #[.slice E F ac,.slice (some ⟨gr,0,none⟩) M G] 222 (0,0)):=Aa _ _ _ _ _ _ m;have ax:=hm.keep hk4 (by simp);have Q:=ae.keep hk4 (by simp);have A:=(Ad (hk4.block gr aO (by simp))).trans au;have Y4:=Y.keeps (hk3.trans hk4);have ay:∀g,(Value.slice K L O).ownBlock=some g->g<wr.heap.size:=fun g hg=>(A3 Y.own g hg).2
   have az:=Y.glt;have aQ:=Y.keep.size;have a4:=hk3.size;clear au ae hm aM ad;go_upto_region 6 with(first|(refine Ae rfl 222 _ _ rfl w3.heap.size #[.slice E F ac,.slice (some ⟨gr,0,none⟩) M G] rfl rfl _ _ m (FT _ _) rfl (Ew rfl rfl) ?_;generalize(w3.alloc (.cells #[.slice none 0 0,.slice none 0 0] 222)).setRow w3.heap.size #[.slice E F ac,.slice (some ⟨gr,0,none⟩) M G]=B at*))
   obtain⟨gw,aA⟩:=AQ w3.heap.size;rw[<-aA]at t⊢;have aB:wr.heap.size<=gw:=by omega
   have aC:gw<B.heap.size:=(AN.1 t).1;clear aA m hk4 hk3;obtain⟨b0,b1⟩:=Ge t;obtain⟨d0,d1,z0,z1⟩:=Je Y4.made;obtain⟨i0,aq,aR,aS,aT⟩:=A2 Tw;have aU:=Tryz.underlying74;have aV:i+1<=maxLen:=by unfold maxLen;have:=HI.o;omega
   have hH:(B.alloc (.cells #[.slice E F ac,.slice (some ⟨gr,0,none⟩) M G] 222)).heap.size=B.heap.size+1:=by simp
   have C:∀j u,[Value.slice E F ac,.slice (some ⟨gr,0,none⟩) M G][j]? =some u->(B.alloc (.cells #[.slice E F ac,.slice (some ⟨gr,0,none⟩) M G] 222)).cell? ((⟨B.heap.size,0,none⟩:Addr).add j)=some u:=Dq (cs:=#[.slice E F ac,.slice (some ⟨gr,0,none⟩) M G]) (AS B _);go_wp2_with(first|(at_builtin;refine CC _ rfl _ _ _ rfl 0 222 i0 _ 2 48 aU aq aR aS aT rfl (by decide) (.slice K L O) i cs rfl (Y4.own.alloc _) ⟨B.heap.size,0,none⟩ 1 1 [.slice E F ac,.slice (some ⟨gr,0,none⟩) M G] rfl rfl C (by intro u hu;simp at hu;rcases hu with rfl|rfl<;>rfl) (by omega) aV (by have:=HI.o;omega) (AY _) (B.heap.size+1) hH ?_));intro g' cap w5 D f aW a5;have h:AA (Value.slice K L O).ownBlock.toList B w5:=((AG _ B).alloc _).trans (De f);have af:∀z,wr.heap.size<=z->z∉(Value.slice K L O).ownBlock.toList:=by
    intro z hz hm;rw[Ay]at hm;have:=ay z hm;omega
   have aD:gm∉(Value.slice K L O).ownBlock.toList:=by
    intro hm;rw[Ay]at hm;exact(Y4.fresh gm hm).2 rfl
   have R:=(h.block gm Y4.glt aD).trans Y4.made;obtain⟨e0,e1,f0,f1⟩:=Je R;have T:=Y4.add (w0:=wr) hy ax az aQ ay D f aW;have l:AA [gm] w5 (w5.setCell ⟨gm,0,none⟩ (.slice (some ⟨g',0,none⟩) (i+1) cap)):=(AG [gm] w5).setCell (p:=⟨gm,0,none⟩) (by simp) _;have aX:=(l.block gw (by have:=h.size;omega) (by simp;omega)).trans ((h.block gw aC (af gw aB)).trans t);have aE:gr<B.heap.size:=BV _ _ A;have a6:=(Ad (l.block gr (by have:=h.size;omega) (by simp;omega))).trans ((Ad (h.block gr aE (af gr aP))).trans A);have U:=(Q.keep h (by intro z hz;exact af z hz)).keep l (by intro z hz;simp;omega);clear D f h C hH A Q t b0 b1 d0 d1 z0 z1 ax Y4;go_wp2_with fail;generalize w5.setCell ⟨gm,0,none⟩ (.slice (some ⟨g',0,none⟩) (i+1) cap)=w6 at*;clear e0 e1 f0 f1 R l;obtain⟨b0,b1⟩:=Ge aX;obtain⟨d0,d1,z0,z1⟩:=Je T.made;have P:AA [] w6 w6.drew:=(AG [] w6).drewN 1;have hC:=OG N (by have:=HN.o;omega) w6.drew (T.can.keep P (by simp)) (U.keep P (by simp))
   go_region_with (first|(go_at_call 126;refine hC.mono ?_;rintro e w7⟨vo,rfl,hO,ag⟩;obtain⟨go,co,rfl⟩:=hO.slice;obtain⟨bf,d17,bh,bi⟩:=Je (T.keeps (P.trans ag)).made))
   all_goals
    have bj:g'<w6.heap.size:=(A3 T.own g' rfl).2;have a7:=T.glt;have bk:=T.keep.size;have Y8:=(T.keeps (P.trans ag)).or hy hO (by
     intro z hz;have bm:w6.heap.size<=z:=hz;refine⟨by omega,by omega,?_⟩;simp only[Value.ownBlock,ne_eq,Ai];omega)
    clear T hO ag hC U;go_wp2_with fail;go_roundw
    case rel=>exact⟨i+1,_,_,_,HI.o,by go_num,Y8⟩
    case measure=>have:=HI.o;simp[intOf];omega
  ·have he:i=vn:=by omega
   have bn:¬(i:Int)<(vn:Int):=by omega
   have aF:wr.heap[g1]? =some (.cells #[.slice none 0 0,.slice none 0 0] 78 (0,0)):=(Y.keep.block g1 aj (by simp)).trans Z;have aG:=Y.done hr (by have:=X.o;omega);have aY:=Y.made;have aZ:AA [g1] wr (wr.setRow g1 #[.slice K L O,.slice (some ⟨I,0,none⟩) N J]):=(AG [g1] wr).setRow (g:=g1) (by simp) _;have aH:=(aG.keep aZ (by intro z hz;simp;omega)).mono (S':=fun z=>w.heap.size<=z) fun z hz _=>by omega
   have a1:AA [] w (wr.setRow g1 #[.slice K L O,.slice (some ⟨I,0,none⟩) N J]):=(ab.trans Y.keep).setRow (AE ak) _;clear aG Y he hi hlt;go_wp2_with(first|(refine As rfl 78 _ rfl gm rfl _ _ _ _ aY Tryz.underlying78 rfl (Ja _ _) ?_)|(refine Ae rfl 78 _ _ rfl g1 #[.slice K L O,.slice (some ⟨I,0,none⟩) N J] rfl rfl _ _ aF (Ja _ _) rfl (Ew rfl rfl) ?_));refine Ag (Au rfl _ _ g1 _ _ _ _ rfl (Aa _ _ _ _ _ _ aF) Tryz.underlying78 rfl (Ja _ _)) rfl ?_;exact⟨[.slice K L O,.slice (some ⟨I,0,none⟩) N J],rfl,aH,a1⟩
theorem news(s:ByteArray)(N:Nat)(a:Hid (N=s.size+1))(b:s.size<=100):∀n,n<=1000->LQ s N n∧LU s N n∧LS s N n∧LR s N n
 |0,_=>⟨fun x c=>by have:=sz_pos x;omega,fun x c=>by have:=sz_pos x;omega,fun x c=>by have:=sz_pos x;omega,fun x c=>by have:=sz_pos x;omega⟩
 |n+1,h=>by
  obtain⟨i1,i2,i3,i4⟩:=news s N a b n (by omega);have d:=TW s N a b n i1;exact⟨Tx s N a b n h i2,Tu s N a b n h i3,Td s N a b (n+1) d,d⟩
theorem Cq(a b c d e f g:Value):(Tryz.prog.info? 80).map (·.size)=some (#[a,b,c,d,e,f,g]:Array Value).size:=by kernel_rfl
theorem Of{b d e f g:Value}(h:a.oneCell'=true)(hb:b.oneCell'=true)(i:c.oneCell'=true)(hd:d.oneCell'=true)(he:e.oneCell'=true)(j:f.oneCell'=true)(k:g.oneCell'=true):(#[a,b,c,d,e,f,g]:Array Value).all (·.oneCell')=true:=by simp[h,hb,i,hd,he,j,k]
theorem Og{g:Nat}{b d:Value}(h:w.heap[g]? =some (.cells #[a,b,c,d] 70 (0,0))):w.cell? ⟨g,0,none⟩=some a∧w.cell? ⟨g,1,none⟩=some b∧w.cell? ⟨g,2,none⟩=some c∧w.cell? ⟨g,3,none⟩=some d:=by
 refine⟨?_,?_,?_,?_⟩<;>(rw[AU h];rfl)
def Bi(W:Whole)(v:Value)(s:ByteArray)(a c:Value):Array Value:=#[.bool W.bg,.bool W.en,v,.int .i64 (W.g:Int),.string s,a,c]
theorem Ty(s:ByteArray)(N:Nat)(I:Hid (N=s.size+1))(J:s.size<=100)(W:Whole)(v:Value)(S:Nat->Prop)(w:World)(h:AT w S .ways W.x [v])(D:W.x.sz<=1000)(j:W.x.fair 9):Calls Tryz.prog 39 #[.agg #[.bool W.bg,.bool W.en,v,.int .i64 (W.g:Int)],.string s] w fun e w'=>∃a c,e=.returned (.agg (Bi W v s a c))∧Mk w' (fun g=>w.heap.size<=g) s N .ways W.x [a,c]∧AA [] w w':=by
 unfold Bi;obtain⟨va,vn,vc,rfl⟩:Bk v:=by
  cases h with
  |ways _ _ _ _ _ L _=>exact A6 L
 have d:((w.alloc (.cells #[.bool W.bg,.bool W.en,.slice va vn vc,.int .i64 (W.g:Int)] 70)).alloc (.cells #[.bool false,.bool false,.slice none 0 0,.int .i64 0,.string ⟨#[]⟩,.slice none 0 0,.slice none 0 0] 80)).heap[w.heap.size]? =some (.cells #[.bool W.bg,.bool W.en,.slice va vn vc,.int .i64 (W.g:Int)] 70 (0,0)):=C2 w _ _;have k:((w.alloc (.cells #[.bool W.bg,.bool W.en,.slice va vn vc,.int .i64 (W.g:Int)] 70)).alloc (.cells #[.bool false,.bool false,.slice none 0 0,.int .i64 0,.string ⟨#[]⟩,.slice none 0 0,.slice none 0 0] 80)).heap[w.heap.size+1]? =some (.cells #[.bool false,.bool false,.slice none 0 0,.int .i64 0,.string ⟨#[]⟩,.slice none 0 0,.slice none 0 0] 80 (0,0)):=Df w _ _;have l:AA [] w ((w.alloc (.cells #[.bool W.bg,.bool W.en,.slice va vn vc,.int .i64 (W.g:Int)] 70)).alloc (.cells #[.bool false,.bool false,.slice none 0 0,.int .i64 0,.string ⟨#[]⟩,.slice none 0 0,.slice none 0 0] 80)):=((AG [] w).alloc _).alloc _;go_enter Tryz.func39,Tryz.ntmps39;go_upto_region 1 with(fail)
 generalize((w.alloc (.cells #[.bool W.bg,.bool W.en,.slice va vn vc,.int .i64 (W.g:Int)] 70)).alloc (.cells #[.bool false,.bool false,.slice none 0 0,.int .i64 0,.string ⟨#[]⟩,.slice none 0 0,.slice none 0 0] 80))=X at*;obtain⟨g0,o⟩:=AQ w.heap.size;obtain⟨g1,p⟩:=AQ (w.heap.size+1);rw[<-p]at k⊢;rw[<-o]at d⊢;have q:g0<X.heap.size:=(AN.1 d).1;have r:g1<X.heap.size:=(AN.1 k).1;have t:w.heap.size<=g1:=by omega
 have M:=l.size;have u:g0≠g1:=by omega
 clear o p;have m:AA [] X X.drew:=(AG [] X).drewN 1;have O:=(news s N I J 1000 (AP _)).1 W.x D j X.drew S _ (h.keep (l.trans m) (by simp));have b:X.drew.heap[g0]? =some (.cells #[.bool W.bg,.bool W.en,.slice va vn vc,.int .i64 (W.g:Int)] 70 (0,0)):=d;refine Cj (S:=fun P=>P.heap[g0]? =some (.cells #[.bool W.bg,.bool W.en,.slice va vn vc,.int .i64 (W.g:Int)] 70 (0,0))) (by kernel_rfl) ?_;change wpAnyH _ _ _ _ _ _ _ _ (World.drew _);generalize X.drew=X0 at*;refine Ak 0 _ (some 5) (.agg #[.bool W.bg,.bool W.en,.slice va vn vc,.int .i64 (W.g:Int)]) rfl (AH ⟨by rfl,fun X E=>by(obtain⟨Q,R,T,U⟩:=Og E;go_simp)⟩) b ?_;simp only[AM];refine AV 1 _ (some 6) (.string s) rfl b ?_;simp only[AM];refine AV 2 _ (some 7) (.pointer (some ⟨g0,2,none⟩)) rfl b ?_;simp only[AM];refine Ak 3 _ (some 8) (.slice va vn vc) rfl (AH ⟨by rfl,fun X E=>by(obtain⟨Q,R,T,U⟩:=Og E;go_simp)⟩) b ?_;simp only[AM];refine AV 4 _ (some 9) (.string s) rfl b ?_;simp only[AM];refine A8 5 rfl fun K C=>?_
 go_simp;refine O.mono ?_;rintro e w1⟨cs,rfl,hm,F⟩;obtain⟨i,a,c,rfl,V⟩:=id hm.form;have f:=m.trans F;have n:=(f.block g0 q (by simp)).trans d;have y:=(f.block g1 r (by simp)).trans k;refine C.out _ _ n (fun _=>?_);clear C K;refine AV 6 _ (some 11) (.agg #[.bool W.bg,.bool W.en,.slice va vn vc,.int .i64 (W.g:Int),.string s,a,c]) rfl n ?_;simp only[AM];refine A8 7 rfl fun K C=>?_
 rw[AL (by rfl)];have A:AA [g1] w1 (w1.setRow g1 #[.bool W.bg,.bool W.en,.slice va vn vc,.int .i64 (W.g:Int),.string s,a,c]):=(AG [g1] w1).setRow (g:=g1) (by simp) _;have Y:=m.size;have G:=(A.block g0 (by have:=f.size;omega) (by simp;exact u)).trans n;refine Ee 80 _ _ rfl g1 #[.bool W.bg,.bool W.en,.slice va vn vc,.int .i64 (W.g:Int),.string s,a,c] rfl rfl _ _ y (Cq _ _ _ _ _ _ _) rfl (Of rfl rfl rfl rfl rfl (i _ (by simp)) (i _ (by simp))) (C.out _ _ G (fun _=>?_));refine CE ?_;have B:=(hm.keep A (by intro z Z;simp;omega)).mono (S':=fun g=>w.heap.size<=g) fun z Z _=>by omega
 have H:AA [] w (w1.setRow g1 #[.bool W.bg,.bool W.en,.slice va vn vc,.int .i64 (W.g:Int),.string s,a,c]):=(l.trans f).setRow (AE t) _;go_wp2_with fail;refine Ag (Au rfl _ _ g1 _ _ _ _ rfl (Aa _ _ _ _ _ _ y) Ck rfl (Cq _ _ _ _ _ _ _)) rfl ?_;exact⟨a,c,rfl,B,H⟩
theorem Oh(s:ByteArray)(N:Nat)(k:Hid (N=s.size+1))(y:s.size<=100)(W:Whole)(v a c:Value)(S:Nat->Prop)(w:World)(hm:Mk w S s N .ways W.x [a,c])(i j:Nat)(hi:i<=s.size)(z:j<=s.size):Calls Tryz.prog 40 #[.agg (Bi W v s a c),.int .i64 i,.int .i64 j] w fun e w'=>∃b,e=.returned (.bool b)∧(b=true↔Mt s W.x i j)∧AA [] w w':=by
 unfold Bi;obtain⟨p,A,B,e,l⟩:=hm.form;simp only[Bc,CD]at e;obtain⟨rfl,rfl⟩:=e;have d:(w.alloc (.cells #[.bool W.bg,.bool W.en,v,.int .i64 (W.g:Int),.string s,a,c] 80)).heap[w.heap.size]? =some (.cells #[.bool W.bg,.bool W.en,v,.int .i64 (W.g:Int),.string s,a,c] 80 (0,0)):=AS w _;have h:AA [] w (w.alloc (.cells #[.bool W.bg,.bool W.en,v,.int .i64 (W.g:Int),.string s,a,c] 80)):=(AG [] w).alloc _;have c6:(w.alloc (.cells #[.bool W.bg,.bool W.en,v,.int .i64 (W.g:Int),.string s,a,c] 80)).cell? ⟨w.heap.size,6,none⟩=some c:=by rw[AU d];rfl
 obtain⟨g,cap,f,rfl,m,q,C,r⟩:=OJ N (by have:=k.o;omega) _ (l.keep h (by simp)) i (by have:=k.o;omega);have t:(0:Int)<=(i:Int):=by omega
 have u:(i:Int)<(N:Int):=by have:=k.o;omega
 have hu:=IQ;clear d;go_enter Tryz.func40,Tryz.ntmps40;go_wp2_with(first|(refine ED rfl 141 _ rfl g (i*2) rfl _ _ m hu rfl IT ?_));refine(GZ f j (by omega) _).mono ?_;rintro e w1⟨rfl,n⟩;go_wp2_with fail;go_ret;exact⟨f j,rfl,q j (by have:=k.o;omega),h.trans n⟩
inductive TV (w : World) (S : Nat -> Prop) : Bool -> Tr -> List Value -> Prop
 | tnil : TV w S true .tnil [.int .u8 101, .int .i64 0, .slice none 0 0]
 | tbyte (b : Nat) : b < 256 -> TV w S true (.tbyte b) [.int .u8 98, .int .i64 b, .slice none 0 0]
 | tgrp (k : Nat) (x : Tr) (v : Value) (cs : List Value) : k <= 9 -> TV w S true x cs -> w.ownsRow 0 88 3 v 1 cs -> (∀ g, v.ownBlock = some g -> S g) -> TV w S true (.tgrp k x) [.int .u8 103, .int .i64 k, v]
 | talt (p : Nat) (x : Tr) (v : Value) (cs : List Value) : TV w S true x cs -> w.ownsRow 0 88 3 v 1 cs -> (∀ g, v.ownBlock = some g -> S g) -> TV w S true (.talt p x) [.int .u8 97, .int .i64 p, v]
 | tser (l : Tr) (v : Value) (n : Nat) (cs : List Value) : TV w S false l cs -> w.ownsRow 0 88 3 v n cs -> (∀ g, v.ownBlock = some g -> S g) -> TV w S true (.tser l) [.int .u8 115, .int .i64 0, v]
 | trep (l : Tr) (v : Value) (n : Nat) (cs : List Value) : TV w S false l cs -> w.ownsRow 0 88 3 v n cs -> (∀ g, v.ownBlock = some g -> S g) -> TV w S true (.trep l) [.int .u8 114, .int .i64 0, v]
 | lnil : TV w S false .lnil []
 | lcons (x r : Tr) (cs ds : List Value) : TV w S true x cs -> TV w S false r ds -> TV w S false (.lcons x r) (cs ++ ds)
theorem TV.keep{S:Nat->Prop}{L:List Nat}{b:Bool}(h:TV w S b t cs)(e:AA L w w')(f:∀g,S g->g∉L):TV w' S b t cs:=by
 induction h with
 |tnil=>exact .tnil
 |tbyte b hb=>exact .tbyte b hb
 |tgrp k x v cs i _ c a ih=>exact .tgrp k x v cs i ih (c.keep e fun g d=>f g (a g d)) a
 |talt p x v cs _ c a ih=>exact .talt p x v cs ih (c.keep e fun g d=>f g (a g d)) a
 |tser l v n cs _ c a ih=>exact .tser l v n cs ih (c.keep e fun g d=>f g (a g d)) a
 |trep l v n cs _ c a ih=>exact .trep l v n cs ih (c.keep e fun g d=>f g (a g d)) a
 |lnil=>exact .lnil
 |lcons x r cs ds _ _ i1 i2=>exact .lcons x r cs ds i1 i2
theorem TV.mono{S S':Nat->Prop}{b:Bool}(h:TV w S b t cs)(f:∀g,S g->g<w.heap.size->S' g):TV w S' b t cs:=by
 have hb:∀{e:TypeId}{size:Nat}{v:Value}{n:Nat}{xs:List Value},w.ownsRow 0 e size v n xs->(∀g,v.ownBlock=some g->S g)->∀g,v.ownBlock=some g->S' g:=fun a c g d=>f g (c g d) (a.lt g d).2
 induction h with
 |tnil=>exact .tnil
 |tbyte b hb=>exact .tbyte b hb
 |tgrp k x v cs i _ a c ih=>exact .tgrp k x v cs i ih a (hb a c)
 |talt p x v cs _ a c ih=>exact .talt p x v cs ih a (hb a c)
 |tser l v n cs _ a c ih=>exact .tser l v n cs ih a (hb a c)
 |trep l v n cs _ a c ih=>exact .trep l v n cs ih a (hb a c)
 |lnil=>exact .lnil
 |lcons x r cs ds _ _ i1 i2=>exact .lcons x r cs ds i1 i2
theorem TV.form{S:Nat->Prop}(h:TV w S true t cs):∃(k n:Nat)(va:Option Addr)(vn vc:Nat),cs=[.int .u8 k,.int .i64 n,.slice va vn vc]:=by
 cases h with
 |tnil=>exact⟨101,0,none,0,0,rfl⟩
 |tbyte b hb=>exact⟨98,b,none,0,0,rfl⟩
 |tgrp k x v cs _ _ d=>obtain⟨a,b,c,rfl⟩:=A6 d;exact⟨103,k,a,b,c,rfl⟩
 |talt p x v cs _ d=>obtain⟨a,b,c,rfl⟩:=A6 d;exact⟨97,p,a,b,c,rfl⟩
 |tser l v n cs _ d=>obtain⟨a,b,c,rfl⟩:=A6 d;exact⟨115,0,a,b,c,rfl⟩
 |trep l v n cs _ d=>obtain⟨a,b,c,rfl⟩:=A6 d;exact⟨114,0,a,b,c,rfl⟩
def B0:List Tr->Tr->Tr
 |[],u=>u
 |t::l,u=> .lcons t (B0 l u)
theorem Oi(l:List Tr)(t u:Tr):B0 (l++[t]) u=B0 l (.lcons t u):=by
 induction l with
 |nil=>rfl
 |cons a l ih=>simp only[DL,B0,ih]
theorem Tz(l m:List Tr)(u:Tr):B0 (l++m) u=B0 l (B0 m u):=by
 induction l with
 |nil=>rfl
 |cons a l ih=>simp only[DL,B0,ih]
theorem TV.snoc{S:Nat->Prop}{ds:List Value}(c:TV w S true t ds):∀{l:List Tr}{cs:List Value},TV w S false (B0 l .lnil) cs->TV w S false (B0 (l++[t]) .lnil) (cs++ds)
 |[],cs,h=>by
  cases h with
  |lnil=>
   have:=TV.lcons t .lnil ds [] c .lnil;simpa[B0]using this
 |x::l,cs,h=>by
  cases h with
  |lcons _ _ a b d e=>
   rw[CS];exact .lcons x _ a _ d (TV.snoc c e)
theorem TV.app{S:Nat->Prop}{m:List Tr}{ds:List Value}(hm:TV w S false (B0 m .lnil) ds):∀{l:List Tr}{cs:List Value},TV w S false (B0 l .lnil) cs->TV w S false (B0 (l++m) .lnil) (cs++ds)
 |[],cs,h=>by
  cases h with
  |lnil=>simpa using hm
 |x::l,cs,h=>by
  cases h with
  |lcons _ _ a b c d=>
   rw[CS];exact .lcons x _ a _ c (TV.app hm d)
theorem TV.times{S:Nat->Prop}(h:TV w S true t cs):∀n,TV w S false (B0 (List.replicate n t) .lnil) (List.replicate n cs).flatten
 |0=> .lnil
 |n+1=>by
  simp only[IV,B0,List.flatten_cons];exact .lcons _ _ _ _ h (TV.times h n)
def Hl:AD->Prop
 | .wone _=>True
 | .wcons _ r=>Hl r
 |_=>False
def IX:AD->Prop
 | .pnil=>True
 | .pcons _ r=>IX r
 |_=>False
theorem Mk.isWP{S:Nat->Prop}{k:Kr}(h:Mk w S s N k x cs):(match k with| .wlist=>Hl x| .ways=>Hl x| .plist=>IX x| .way=>IX x|_=>True):=by
 induction h with
 |pcons _ _ _ _ _ _ _ ih=>exact ih
 |way _ _ _ _ _ _ _ _ _ ih=>exact ih
 |wcons _ _ _ _ _ _ _ ih=>exact ih
 |ways _ _ _ _ _ _ _ _ _ ih=>exact ih
 |_=>trivial
theorem TT.alts:∀{x:AD}{p q:Nat}{y:AD},Hl x->(wl x)[p]? =some y->Mt s y i j->(∀(k:Nat)(z:AD),k<p->(wl x)[k]? =some z->¬Mt s z i j)->TT s (.node y) i j t->TT s (.alts q x) i j (.talt (q+p) t)
 | .wone x,p,q,y,_,a,hm,c,b=>by
  cases p with
  |zero=>simp[wl]at a;subst a;exact .last q x i j t b
  |succ p=>simp[wl]at a
 | .wcons x r,p,q,y,h,a,hm,c,b=>by
  cases p with
  |zero=>simp[wl]at a;subst a;exact .hit q x r i j t hm b
  |succ p=>
   refine .miss q x r i j _ (c 0 x (by omega) rfl) ?_;have:=TT.alts (x:=r) (p:=p) (q:=q+1) (y:=y) h (by simpa[wl]using a) hm (fun k z e d=>c (k+1) z (by omega) (by simpa[wl]using d)) b;rw[show q+1+p=q+(p+1) by omega]at this;exact this
theorem Mt.waysW(a b:Nat):∀{x:AD},Hl x->(Mt s x a b↔∃(j:Nat)(y:AD),(wl x)[j]? =some y∧Mt s y a b)
 | .wone x,_=>by
  constructor
  ·intro h;exact⟨0,x,rfl,h⟩
  ·rintro⟨j,y,c,h⟩;cases j with
   |zero=>simp[wl]at c;subst c;exact h
   |succ j=>simp[wl]at c
 | .wcons x r,hw=>by
  constructor
  ·rintro(h|h)
   ·exact⟨0,x,rfl,h⟩
   ·obtain⟨j,y,c,h⟩:=(Mt.waysW a b (x:=r) hw).1 h;exact⟨j+1,y,by simpa[wl]using c,h⟩
  ·rintro⟨j,y,c,h⟩;cases j with
   |zero=>simp[wl]at c;subst c;exact AH h
   |succ j=>exact AE ((Mt.waysW a b (x:=r) hw).2 ⟨j,y,by simpa[wl]using c,h⟩)
theorem Jf:∀{x:AD},IX x->Be (pl x).length x=.pnil∧∀(i:Nat)(y:AD),(pl x)[i]? =some y->Be i x=.pcons y (Be (i+1) x)
 | .pnil,_=>⟨rfl,by intro i y c;simp[pl]at c⟩
 | .pcons x r,h=>by
  obtain⟨a,b⟩:=Jf (x:=r) h;refine⟨by simp only[pl,Aj,Be];exact a,?_⟩;intro i y c;cases i with
  |zero=>simp[pl]at c;subst c;rfl
  |succ i=>simp only[Be];exact b i y (by simpa[pl]using c)
theorem Mk.wl_at{S:Nat->Prop}(h:Mk w S s N .wlist x cs):cs.length=(wl x).length*2∧∀(i:Nat)(y:AD),(wl x)[i]? =some y->∃a r,cs[i*2]? =some a∧cs[i*2+1]? =some r∧Mk w S s N .way y [a,r]∧y.sz<x.sz:=by
 generalize e:Kr.wlist=n at h
 induction h with
 |wone x cs d _=>
  obtain⟨_,a,r,rfl⟩:=d.form;refine⟨rfl,?_⟩;intro i y b
  match i,b with
  |0,b=>simp[wl]at b;subst b;exact⟨a,r,rfl,rfl,d,by simp[AD.sz]⟩
 |wcons x q cs ds d _ _ ih=>
  obtain⟨l,c⟩:=ih rfl;obtain⟨_,a,r,rfl⟩:=d.form;refine⟨by simp[wl,l];omega,?_⟩;intro i y b
  match i,b with
  |0,b=>simp[wl]at b;subst b;exact⟨a,r,rfl,rfl,d,by simp[AD.sz];omega⟩
  |i+1,b=>
   obtain⟨f,g,j,k,m,o⟩:=c i y (by simpa[wl]using b);refine⟨f,g,?_,?_,m,by simp[AD.sz];omega⟩
   ·rw[show(i+1)*2=i*2+1+1 by omega];simpa using j
   ·rw[show(i+1)*2+1=i*2+1+1+1 by omega];simpa using k
 |_=>cases e
theorem Mk.pl_at{S:Nat->Prop}(h:Mk w S s N .plist x cs):cs.length=(pl x).length*8∧∀(i:Nat)(y:AD),(pl x)[i]? =some y->∃ds,Mk w S s N .piece y ds∧(∀(j:Nat)(u:Value),ds[j]? =some u->cs[i*8+j]? =some u)∧y.sz<x.sz:=by
 generalize g:Kr.plist=m at h
 induction h with
 |pnil=>exact⟨rfl,by intro i y a;simp[pl]at a⟩
 |pcons x r cs ds d _ _ ih=>
  obtain⟨b,c⟩:=ih rfl;have f:cs.length=8:=d.form.2;refine⟨by simp[pl,b,f];omega,?_⟩;intro i y a
  match i,a with
  |0,a=>
   simp[pl]at a;subst a;refine⟨cs,d,?_,by simp[AD.sz];omega⟩;intro j u hu;rw[Nat.zero_mul,Ba,Db (BT.1 hu).1];exact hu
  |i+1,a=>
   obtain⟨es,k,l,n⟩:=c i y (by simpa[pl]using a);refine⟨es,k,?_,by simp[AD.sz];omega⟩;intro j u hu;have:=l j u hu;rw[ER (by omega),f];have e:(i+1)*8+j-8=i*8+j:=by omega
   rw[e];exact this
 |_=>cases g
theorem TT.owed(h:TT s (.node y) j j t):∀(n:Nat)(mx:Int),TT s (.times n mx y) j j (B0 (List.replicate n t) .lnil)
 |0,mx=> .tend 0 mx y j j (by omega)
 |n+1,mx=>by
  have ih:=TT.owed h n (less mx);exact .tgo (n+1) mx y j j j t _ (AE (by omega)) ⟨AP _,AP _,fun h=>absurd h (by omega),fun m a b=>absurd a (by omega)⟩ h ih
def Hm(w:World)(s:ByteArray)(x:AD)(i j:Nat)(e:Ending)(w':World):Prop:=∃t cs,e=.returned (.agg cs.toArray)∧TV w' (fun g=>w.heap.size<=g) true t cs∧TT s (.node x) i j t∧AA [] w w'
structure Jg (s : ByteArray) (m : Array Value) : Prop where
 ok : ∃ a b c d e f, m = #[a, b, c, d, .string s, e, f] ∧ a.oneCell' = true ∧ b.oneCell' = true ∧ c.oneCell' = true ∧ d.oneCell' = true ∧ e.oneCell' = true ∧ f.oneCell' = true
def Lf(s:ByteArray)(N n:Nat):Prop:=∀(x:AD),x.sz<=n->∀(w:World)(S:Nat->Prop)(cs:List Value)(m:Array Value)(i j:Nat),Mk w S s N .ways x cs->Jg s m->i<=j->j<=s.size->Mt s x i j->Calls Tryz.prog 76 #[.agg m,.agg cs.toArray,.int .i64 i,.int .i64 j] w (Hm w s x i j)
def Lg(s:ByteArray)(N n:Nat):Prop:=∀(x:AD),x.sz<=n->∀(w:World)(S:Nat->Prop)(cs:List Value)(m:Array Value)(i j:Nat),Mk w S s N .way x cs->Jg s m->i<=j->j<=s.size->Mt s x i j->Calls Tryz.prog 130 #[.agg m,.agg cs.toArray,.int .i64 i,.int .i64 j] w (Hm w s x i j)
def Lh(s:ByteArray)(N n:Nat):Prop:=∀(x:AD),x.sz<=n->∀(w:World)(S:Nat->Prop)(cs:List Value)(m:Array Value)(i j:Nat),Mk w S s N .piece x cs->Jg s m->i<=j->j<=s.size->Mt s x i j->Calls Tryz.prog 180 #[.agg m,.agg cs.toArray,.int .i64 i,.int .i64 j] w (Hm w s x i j)
def Li(s:ByteArray)(N n:Nat):Prop:=∀(x:AD),x.sz<=n->∀(w:World)(S:Nat->Prop)(cs:List Value)(m:Array Value)(i j:Nat),Mk w S s N .single x cs->Jg s m->i<=j->j<=s.size->Mt s x i j->Calls Tryz.prog 215 #[.agg m,.agg cs.toArray,.int .i64 i,.int .i64 j] w (Hm w s x i j)
def tl:Tr->List Tr
 | .lcons x r=>x::tl r
 |_=>[]
def Tr.sz:Tr->Nat
 | .tnil=>1
 | .tbyte _=>1
 | .tgrp _ x=>3+x.sz
 | .talt _ x=>3+x.sz
 | .tser l=>1+l.sz
 | .trep l=>1+l.sz
 | .lnil=>1
 | .lcons x r=>1+x.sz+r.sz
def Tr.thin:Tr->Prop
 | .tnil=>True
 | .tbyte _=>True
 | .tgrp _ x=>x.thin
 | .talt p x=>p<100∧x.thin
 | .tser l=>l.thin
 | .trep l=>l.thin
 | .lnil=>True
 | .lcons x r=>x.thin∧r.thin
theorem Tr.sz_pos(t:Tr):0<t.sz:=by cases t<;>simp[Tr.sz]<;>omega
def Oj(l:List Tr):List UInt8:=l.flatMap fun t=>[32]++t.text
theorem TV.tl_at{S:Nat->Prop}(h:TV w S false t cs):cs.length=(tl t).length*3∧t.text=Oj (tl t)∧∀(i:Nat)(x:Tr),(tl t)[i]? =some x->∃ds,TV w S true x ds∧(∀(j:Nat)(u:Value),ds[j]? =some u->cs[i*3+j]? =some u)∧x.sz<t.sz∧(t.thin->x.thin):=by
 generalize k:false=b at h
 induction h with
 |lnil=>exact⟨rfl,rfl,by intro i x m;simp[tl]at m⟩
 |lcons x r cs ds f _ _ ih=>
  obtain⟨l,e,c⟩:=ih rfl;obtain⟨q,s,va,vn,vc,d⟩:=f.form;have g:cs.length=3:=by rw[d];rfl
  refine⟨by simp[tl,l,g];omega,by simp[Tr.text,tl,Oj,e],?_⟩;intro i y a
  match i,a with
  |0,a=>
   simp[tl]at a;subst a;refine⟨cs,f,?_,by simp[Tr.sz];omega,fun h=>h.1⟩;intro j u hu;rw[Nat.zero_mul,Ba,Db (BT.1 hu).1];exact hu
  |i+1,a=>
   obtain⟨es,n,o,v,p⟩:=c i y (by simpa[tl]using a);refine⟨es,n,?_,by simp[Tr.sz];omega,fun h=>p h.2⟩;intro j u hu;have:=o j u hu;rw[ER (by omega),g];have e:(i+1)*3+j-3=i*3+j:=by omega
   rw[e];exact this
 |_=>cases k
theorem BO.least{least n:Nat}{any:Bool}{q:R Nat}(h:BO s least n any i q):∀m j,q=.ok m j->least<=m:=by
 induction h with
 |dig n x any i q hd b c a _ ih=>exact ih
 |big=>intro m j e;cases e
 |done n i hd a=>intro m j e;cases e;exact a
 |short=>intro m j e;cases e
theorem Bj.fair{mn:Nat}{mx:Int}(h:Bj s j (.ok (Option.some (mn,mx)) k)):mx<0∨(mn:Int)<=mx:=by
 rcases h with⟨a,b,c,d,e⟩|⟨a,e⟩|⟨a,e⟩|⟨a,e⟩|⟨a,g,n,e⟩
 ·cases e
 ·cases e;omega
 ·cases e;omega
 ·cases e;omega
 ·cases g with
  |bad l=>cases e
  |ok m l=>
   rcases e with⟨a,b,e⟩|⟨a,b,i,o,e⟩|⟨a,e⟩
   ·cases e;omega
   ·cases i with
    |bad x=>cases e
    |ok y x=>
     have p:=o.least y x rfl;simp only[FA]at e;by_cases f:at' s x=125
     ·rw[AL f]at e;cases e;omega
     ·rw[AK f]at e;cases e
   ·by_cases f:at' s l=125
    ·rw[AL f]at e;cases e;omega
    ·rw[AK f]at e;cases e
theorem Ok{W:Whole}(m:s.size<=60)(h:B6 s (.ok W j)):W.x.sz<=1000:=by
 obtain⟨d,b,a⟩:=h;cases d with
 |bad l=>cases a
 |ok e l=>
  obtain⟨x,g⟩:=e;have f:=b.shp x g l rfl;have i:=IF b (by unfold wi;by_cases h:at' s 0=94;(rw[AL h];exact Ap (by omega));(rw[AK h];exact AY _));rw[GI]at a;have k:W.x=x:=by
   by_cases c:0<=at' s (if at' s l=36 then l+1 else l)
   ·rw[AL c]at a;cases a
   ·rw[AK c]at a;cases a;rfl
  rw[k];simp only[EE,EF,Br]at f i;omega
theorem T0(a b c d:Value):(Tryz.prog.info? 70).map (·.size)=some [a,b,c,d].length:=by kernel_rfl
