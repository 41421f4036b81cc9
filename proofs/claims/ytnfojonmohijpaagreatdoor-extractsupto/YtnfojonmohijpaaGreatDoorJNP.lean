/-
  DERIVED. The program's methods can and rest of a piece. No conditions.
-/
import Derived.Test.YtnfojonmohijpaaGreatDoorJMD
set_option linter.all false
set_option maxRecDepth 100000
set_option maxHeartbeats 8000000
namespace Go.Proofs.YtnfojonmohijpaaGreatDoor
open Go.RowKit
variable{V W w w' wr:World}{M N b dp dr fuel gm gp gr n:Nat}{v:Value}{p s:ByteArray}{cs:List Value}{P:Program}{a:Act}{ops:Array Oper}{md:Region.Mode}{listed:Array Bool}{x:AD}{k:AX}
def Ef:=@ByteArray.size_extract
def Hi:=@Tryz.underlying173
theorem MP.slice{S:Nat->Prop}{R:Nat->Nat->Prop}(h:MP w S N v R):∃g c,v=.slice (some ⟨g,0,none⟩) N c:=by
 obtain⟨g,c,f,e,_⟩:=h;exact⟨g,c,e⟩
theorem Mk.piece_cells{S:Nat->Prop}{y:AD}(h:Mk w S s N .piece y cs):(∃k a c g cv,cs=[.int .i64 (k:Nat),a,c,.slice (some ⟨g,0,none⟩) N cv,.bool false,.int .i64 0,.int .i64 0,.slice none 0 0]∧MP w S N (.slice (some ⟨g,0,none⟩) N cv) (Mt s y)∧∀mn mx x,y≠.rep mn mx x)∨(∃k a c g cv,∃(mn:Nat)(mx:Int)(x:AD)(r:Value),y=.rep mn mx x∧mn<=5∧-1<=mx∧mx<=5∧(mx<0∨(mn:Int)<=mx)∧cs=[.int .i64 (k:Nat),a,c,.slice (some ⟨g,0,none⟩) N cv,.bool true,.int .i64 mn,.int .i64 mx,r]∧MP w S N (.slice (some ⟨g,0,none⟩) N cv) (Mt s x)∧RR w S N (steps mn mx+1) r (Left (Mt s x) mn mx)):=by
 cases h with
 |piece _ cs h=>
  obtain⟨_,k,a,c,v,rfl,hm⟩:=h.form;obtain⟨g,cv,rfl⟩:=hm.slice;exact AH ⟨k,a,c,g,cv,rfl,hm,by intro mn mx x e;subst e;cases h⟩
 |rep mn mx x cs r b d f i h j=>
  obtain⟨_,k,a,c,v,rfl,hm⟩:=h.form;obtain⟨g,cv,rfl⟩:=hm.slice;exact AE ⟨k,a,c,g,cv,mn,mx,x,r,rfl,b,d,f,i,rfl,hm,j⟩
theorem OZ(s:ByteArray)(N:Nat)(y:AD)(cs:List Value)(S:Nat->Prop)(w:World)(h:Mk w S s N .piece y cs):Calls Tryz.prog 174 #[.agg cs.toArray] w fun e w'=>∃g c,e=.returned (.slice (some ⟨g,0,none⟩) N c)∧MP w' S N (.slice (some ⟨g,0,none⟩) N c) (Mt s y)∧AA [] w w':=by
 rcases h.piece_cells with⟨k,a,c,g,cv,rfl,hm,v⟩|⟨k,a,c,g,cv,mn,mx,x,r,rfl,C,D,E,F,rfl,hm,o⟩
 ·have b:(w.alloc (.cells #[.int .i64 (k:Nat),a,c,.slice (some ⟨g,0,none⟩) N cv,.bool false,.int .i64 0,.int .i64 0,.slice none 0 0] 273)).heap[w.heap.size]? =some (.cells #[.int .i64 (k:Nat),a,c,.slice (some ⟨g,0,none⟩) N cv,.bool false,.int .i64 0,.int .i64 0,.slice none 0 0] 273 (0,0)):=AS w _;have f:AA [] w (w.alloc (.cells #[.int .i64 (k:Nat),a,c,.slice (some ⟨g,0,none⟩) N cv,.bool false,.int .i64 0,.int .i64 0,.slice none 0 0] 273)):=(AG [] w).alloc _;have c4:(w.alloc (.cells #[.int .i64 (k:Nat),a,c,.slice (some ⟨g,0,none⟩) N cv,.bool false,.int .i64 0,.int .i64 0,.slice none 0 0] 273)).cell? ⟨w.heap.size,4,none⟩=some (.bool false):=by rw[AU b];rfl
  have c3:(w.alloc (.cells #[.int .i64 (k:Nat),a,c,.slice (some ⟨g,0,none⟩) N cv,.bool false,.int .i64 0,.int .i64 0,.slice none 0 0] 273)).cell? ⟨w.heap.size,3,none⟩=some (.slice (some ⟨g,0,none⟩) N cv):=by rw[AU b];rfl
  have i:=hm.keep f (by simp);clear b hm h;go_enter Tryz.func174,Tryz.ntmps174;go_wp2_with fail;go_ret;exact⟨g,cv,rfl,i,f⟩
 ·obtain⟨gr,j,u,rfl,n,z,l,hu⟩:=o.at (d:=0) (by omega);obtain⟨p,q,rfl⟩:=hu.slice;have b:(w.alloc (.cells #[.int .i64 (k:Nat),a,c,.slice (some ⟨g,0,none⟩) N cv,.bool true,.int .i64 mn,.int .i64 mx,.slice (some ⟨gr,0,none⟩) (steps mn mx+1) j] 273)).heap[w.heap.size]? =some (.cells #[.int .i64 (k:Nat),a,c,.slice (some ⟨g,0,none⟩) N cv,.bool true,.int .i64 mn,.int .i64 mx,.slice (some ⟨gr,0,none⟩) (steps mn mx+1) j] 273 (0,0)):=AS w _;have f:AA [] w (w.alloc (.cells #[.int .i64 (k:Nat),a,c,.slice (some ⟨g,0,none⟩) N cv,.bool true,.int .i64 mn,.int .i64 mx,.slice (some ⟨gr,0,none⟩) (steps mn mx+1) j] 273)):=(AG [] w).alloc _;have c4:(w.alloc (.cells #[.int .i64 (k:Nat),a,c,.slice (some ⟨g,0,none⟩) N cv,.bool true,.int .i64 mn,.int .i64 mx,.slice (some ⟨gr,0,none⟩) (steps mn mx+1) j] 273)).cell? ⟨w.heap.size,4,none⟩=some (.bool true):=by rw[AU b];rfl
  have A:(w.alloc (.cells #[.int .i64 (k:Nat),a,c,.slice (some ⟨g,0,none⟩) N cv,.bool true,.int .i64 mn,.int .i64 mx,.slice (some ⟨gr,0,none⟩) (steps mn mx+1) j] 273)).cell? ⟨w.heap.size,7,none⟩=some (.slice (some ⟨gr,0,none⟩) (steps mn mx+1) j):=by rw[AU b];rfl
  have m:=(Ad (f.block gr n (by simp))).trans l;have i:MP (w.alloc (.cells #[.int .i64 (k:Nat),a,c,.slice (some ⟨g,0,none⟩) N cv,.bool true,.int .i64 mn,.int .i64 mx,.slice (some ⟨gr,0,none⟩) (steps mn mx+1) j] 273)) S N (.slice (some ⟨p,0,none⟩) N q) (Mt s (.rep mn mx x)):=hu.keep f (by simp);obtain⟨M,t⟩:=AQ (steps mn mx+1);have B:(0:Int)<(M:Int):=by omega
  clear b hm h o l hu;rw[<-t]at c4 A m i f⊢;clear t;go_enter Tryz.func174,Tryz.ntmps174;go_wp2_with fail;go_ret;exact⟨p,q,rfl,i,f⟩
theorem Te(s:ByteArray)(N:Nat)(mn:Nat)(mx:Int)(x:AD)(cs:List Value)(S:Nat->Prop)(w:World)(h:Mk w S s N .piece (.rep mn mx x) cs)(d:Nat)(hd:d<=200):Calls Tryz.prog 216 #[.agg cs.toArray,.int .i64 d] w fun e w'=>∃g c,e=.returned (.slice (some ⟨g,0,none⟩) N c)∧MP w' S N (.slice (some ⟨g,0,none⟩) N c) (Left (Mt s x) mn mx d)∧AA [] w w':=by
 rcases h.piece_cells with⟨k,a,c,g,cv,rfl,hm,p⟩|⟨k,a,c,g,cv,E,F,P,r,e,Q,R,T,U,rfl,hm,y⟩
 ·exact absurd rfl (p mn mx x)
 ·cases e;obtain⟨t,z⟩:=AQ (min d (steps mn mx));obtain⟨gr,f,u,rfl,q,G,l,hu⟩:=y.at (d:=t) (by omega);obtain⟨A,B,rfl⟩:=hu.slice;have m:(w.alloc (.cells #[.int .i64 (k:Nat),a,c,.slice (some ⟨g,0,none⟩) N cv,.bool true,.int .i64 mn,.int .i64 mx,.slice (some ⟨gr,0,none⟩) (steps mn mx+1) f] 273)).heap[w.heap.size]? =some (.cells #[.int .i64 (k:Nat),a,c,.slice (some ⟨g,0,none⟩) N cv,.bool true,.int .i64 mn,.int .i64 mx,.slice (some ⟨gr,0,none⟩) (steps mn mx+1) f] 273 (0,0)):=AS w _;have b:AA [] w (w.alloc (.cells #[.int .i64 (k:Nat),a,c,.slice (some ⟨g,0,none⟩) N cv,.bool true,.int .i64 mn,.int .i64 mx,.slice (some ⟨gr,0,none⟩) (steps mn mx+1) f] 273)):=(AG [] w).alloc _;have H:(w.alloc (.cells #[.int .i64 (k:Nat),a,c,.slice (some ⟨g,0,none⟩) N cv,.bool true,.int .i64 mn,.int .i64 mx,.slice (some ⟨gr,0,none⟩) (steps mn mx+1) f] 273)).cell? ⟨w.heap.size,7,none⟩=some (.slice (some ⟨gr,0,none⟩) (steps mn mx+1) f):=by rw[AU m];rfl
  have n:=(Ad (b.block gr q (by simp))).trans l;have o:MP (w.alloc (.cells #[.int .i64 (k:Nat),a,c,.slice (some ⟨g,0,none⟩) N cv,.bool true,.int .i64 mn,.int .i64 mx,.slice (some ⟨gr,0,none⟩) (steps mn mx+1) f] 273)) S N (.slice (some ⟨A,0,none⟩) N B) (Left (Mt s x) mn mx d):=by
   refine(hu.keep b (by simp)).congr fun i j _ _=>?_
   rw[z];rcases Nat.le_total d (steps mn mx)with h|h
   ·rw[Nat.min_eq_left h]
   ·rw[Nat.min_eq_right h];refine(Left.past h ?_).symm;unfold steps;split<;>omega
  obtain⟨M,C⟩:=AQ (steps mn mx+1);have v:steps mn mx<=5:=by unfold steps;split<;>omega
  have I:(M:Int)<=6:=by omega
  have J:(1:Int)<=(M:Int):=by omega
  have K:(0:Int)<=(d:Int):=by omega
  have L:(0:Int)<=(t:Int):=by omega
  have O:(t:Int)<(M:Int):=by omega
  have D:min (d:Int) ((M:Int)-1)=(t:Int):=by omega
  clear m hm h y l hu z v;rw[<-C]at H n o b⊢;clear C;go_enter Tryz.func216,Tryz.ntmps216;go_wp2_with fail;go_ret;exact⟨A,B,rfl,o,b⟩
theorem FR(w:World){o:Oper}{K:Act->World->Prop}{Q:Exit->Act->World->Prop}(d:Option Tmp)(hd:o.dst=d)(l c:Operand)(t:TypeId)(f:o.op=Op.makeSlice t l c)(base:Nat)(e:TypeId)(i:TypeInfo)(z:Value)(size:Nat)(j:P.underlying t=some (.slice e))(k:P.info? e=some i)(m:i.zero=some z)(p:i.size=size)(g h:IntKind)(L C:Int)(n:Nat)(q:a.eval l=.int g L)(r:a.eval c=.int h C)(s:L=(n:Int))(u:C=(n:Int))(v:i.bytes*n<=281474976710656)(x:n<=maxLen)(y:base<=w.heap.size)(A:∀w',w'.ownsRow base e size (.slice (some ⟨w.heap.size,0,none⟩) n n) n (madeCells z.cells (n*size)).toList->w.grownBy w' none->K (a.put d (.slice (some ⟨w.heap.size,0,none⟩) n n)) w'):o.wp P a w K Q:=by
 subst hd;obtain⟨w',b,B,D⟩:=run_make_full (P:=P) w base t e i z size j k m p g h n v x y;subst s;subst u;unfold Oper.wp;simp[execOp,f,q,r,b,Result.andThen];exact A w' B D
theorem Ak{Q:Exit->Act->World->Prop}{S:World->Prop}(i:Nat)(b:Oper)(d:Option Tmp)(v:Value)(hi:ops[i]? =some b)(e:YieldsIf P ops S b v a)(f:S w)(h:wpAnyH P md ops Q S fuel (listed.setIfInBounds i true) (a.put d v) w)(hd:b.dst=d:=by rfl)(g:Region.noSelect ops=true:=by kernel_rfl)(j:Region.free md ops listed i=true:=by kernel_rfl)(k:(Region.ready md ops listed).contains i=true:=by kernel_rfl)(l:∀c a w,Q (.panic c) (a.put d v) w->Q (.panic c) a w:=by exact fun _ _ _ h=>h):wpAnyH P md ops Q S (fuel+1) listed a w:=by
 subst hd;exact wpAnyH_take hi g j k l e f h
theorem AV{Q:Exit->Act->World->Prop}{S:World->Prop}(i:Nat)(b:Oper)(d:Option Tmp)(v:Value)(hi:ops[i]? =some b)(e:S w)(h:wpAnyH P md ops Q S fuel (listed.setIfInBounds i true) (a.put d v) w)(f:YieldsIf P ops S b v a:=by exact AH ⟨by rfl,fun X m=>by go_simp⟩)(hd:b.dst=d:=by rfl)(g:Region.noSelect ops=true:=by kernel_rfl)(j:Region.free md ops listed i=true:=by kernel_rfl)(k:(Region.ready md ops listed).contains i=true:=by kernel_rfl)(l:∀c a w,Q (.panic c) (a.put d v) w->Q (.panic c) a w:=by exact fun _ _ _ h=>h):wpAnyH P md ops Q S (fuel+1) listed a w:=Ak i b d v hi f e h hd g j k l
theorem Jb{Q:Exit->Act->World->Prop}{S:World->Prop}(rs:List Nat)(h:AllReadyH P md ops Q S fuel listed a w rs)(b:Region.ready md ops listed=rs:=by kernel_rfl)(c:rs≠[]:=by simp):wpAnyH P md ops Q S (fuel+1) listed a w:=wpAnyH_ready b c h
theorem A8{Q:Exit->Act->World->Prop}{S:World->Prop}{o:Oper}(i:Nat)(hi:ops[i]? =some o)(h:∀b:Act->World->Prop,Shut (∀a w,S w->(S w->wpAnyH P md ops Q S fuel (listed.setIfInBounds i true) a w)->b a w)->if Region.wanted o (yielded ops a.tmps)=true then Oper.wp P o a w b Q else b (a.put o.dst undef) w)(c:Region.ready md ops listed=[i]:=by kernel_rfl):wpAnyH P md ops Q S (fuel+1) listed a w:=wpAnyH_ready c (by simp) (DE hi h Ev)
theorem CE{Q:Exit->Act->World->Prop}{S:World->Prop}(h:Q .normal a w)(b:Region.ready md ops listed=[]:=by kernel_rfl):wpAnyH P md ops Q S fuel listed a w:=wpAnyH_done b h fuel
theorem Tf{op:Oper}{K:Act->World->Prop}{Q:Exit->Act->World->Prop}(hd:op.dst=none)(ty:TypeId)(x y:Operand)(c:op.op=.store ty x y)(b o:Nat)(cells:Array Value)(d:a.eval x=.pointer (some ⟨b,o,none⟩))(e:a.eval y=.agg cells)(f:w.there b o cells.size)(hi:(P.info? ty).map (·.size)=some cells.size)(g:cells.all (·.oneCell')=true)(h:K (a.put none undef) (w.setCells b o cells.toList)):op.wp P a w K Q:=by
 rw[<-hd]at h;exact wp_store_mid ty x y c b o cells d e f hi g h
theorem wrap_small{z:Int}(b:0<=z)(c:z<=1000000):IntKind.i64.wrap z=z:=by
 have a:z%18446744073709551616=z:=by omega
 have:IntKind.i64.wrap z=if 9223372036854775808<=z%18446744073709551616 then z%18446744073709551616-18446744073709551616 else z%18446744073709551616:=by simp[IntKind.wrap,IntKind.bits,IntKind.signed]
 rw[this,a,AK (by omega)]
theorem Tg:(Tryz.prog.info? 273).map (fun i=>(i.zero,i.size,i.bytes))=some (some (.agg #[.int .i64 0,.slice none 0 0,.slice none 0 0,.slice none 0 0,.bool false,.int .i64 0,.int .i64 0,.slice none 0 0]),8,128):=by kernel_rfl
theorem FT(a b:Value):(Tryz.prog.info? 222).map (·.size)=some (#[a,b]:Array Value).size:=by kernel_rfl
structure WM (W wx : World) (n M gm gp gr : Nat) : Prop where
 made : wx.heap[gm]? = some (.cells #[.slice (some ⟨gp, 0, none⟩) n n, .slice (some ⟨gr, 0, none⟩) M M] 222 (0, 0))
 prow : ∃ zs, wx.ownsRow 0 273 8 (.slice (some ⟨gp, 0, none⟩) n n) n zs
 rrow : ∃ zs, wx.ownsRow 0 76 1 (.slice (some ⟨gr, 0, none⟩) M M) M zs
 mp : gm ≠ gp
 mr : gm ≠ gr
 pr : gp ≠ gr
 lm : W.heap.size <= gm
 lp : W.heap.size <= gp
 lr : W.heap.size <= gr
 keep : AA [] W wx
def Th(w:World)(S:Nat->Prop)(x:AD)(v:Value):Prop:=
 ∃cs,AT w S .plist x cs∧∃va n vc,v=.slice va n vc∧n=(pl x).length∧n<=1000∧w.ownsRow 0 212 261 v n cs
theorem LW:∀(x:AD),(pl x).length<=x.sz
 | .pcons x r=>by have:=LW r;simp only[pl,Aj,AD.sz];omega
 | .set _=>AY _
 | .grp _ _=>AY _
 | .rep _ _ _=>AY _
 | .pnil=>AY _
 | .wone _=>AY _
 | .wcons _ _=>AY _
theorem AT.wayIn{S:Nat->Prop}(h:AT w S .way x [v])(f:x.sz<=1000):Th w S x v:=by
 cases h with
 |way _ cs _ n b a _=>
  obtain⟨va,vn,vc,rfl⟩:=A6 a;have i:=a.1;have j:=b.pl_text.2.1;have k:=LW x;have c:vn=n:=by
   rcases a.2 with⟨e,d⟩|⟨g,cap,cur,e,_⟩
   ·cases e;exact d.symm
   ·cases e;rfl
  subst c;exact⟨cs,b,va,vn,vc,rfl,by omega,by omega,a⟩
theorem LX{S:Nat->Prop}(h:AT w S .plist x cs):Be (pl x).length x=.pnil∧∀(i:Nat)(y:AD),(pl x)[i]? =some y->Be i x=.pcons y (Be (i+1) x):=by
 generalize d:Kr.plist=e at h
 induction h with
 |pnil=>exact⟨rfl,by intro i y c;simp[pl]at c⟩
 |pcons x r cs ds _ _ _ ih=>
  obtain⟨a,b⟩:=ih rfl;refine⟨by simp only[pl,Aj,Be];exact a,?_⟩;intro i y c;cases i with
  |zero=>simp[pl]at c;subst c;rfl
  |succ i=>simp only[Be];exact b i y (by simpa[pl]using c)
 |_=>cases d
theorem Ti:∀{i:Nat}{y:AD},x.fair 9->(pl x)[i]? =some y->y.fair 9:=by
 induction x with
 |pcons x r _ ih=>
  intro i y h a;cases i with
  |zero=>simp[pl]at a;subst a;exact h.1
  |succ i=>exact ih h.2 (by simpa[pl]using a)
 |_=>intro i y _ a;simp[pl]at a
def over:List Value->Nat->List Value->List Value
 |xs,_,[]=>xs
 |xs,o,v::r=>over (xs.set o v) (o+1) r
theorem Oa:∀(vs xs:List Value)(o:Nat),(over xs o vs).length=xs.length
 |[],_,_=>rfl
 |v::r,xs,o=>by simp only[over];rw[Oa];simp
theorem LY:∀(vs xs:List Value)(o:Nat),o+vs.length<=xs.length->(over xs o vs).drop o=vs++xs.drop (o+vs.length)
 |[],xs,o,_=>by simp[over]
 |v::r,xs,o,h=>by
  simp only[over,Aj]at*;have ih:=LY r (xs.set o v) (o+1) (by simp;omega);have d:(over (xs.set o v) (o+1) r).length=xs.length:=by rw[Oa];simp
  have a:(over (xs.set o v) (o+1) r)[o]? =some v:=by
   have:∀(vs xs:List Value)(p q:Nat),q<p->(over xs p vs)[q]? =xs[q]? :=by
    intro vs
    induction vs with
    |nil=>intro xs p q _;rfl
    |cons u vs ih=>intro xs p q e;simp only[over];rw[ih _ _ _ (by omega),List.getElem?_set_ne (by omega)]
   rw[this _ _ _ _ (by omega),List.getElem?_set_self (by omega)]
  rw[GO (by omega)];have b:(over (xs.set o v) (o+1) r)[o]'(by omega)=v:=by
   have:=Ax (l:=over (xs.set o v) (o+1) r) (i:=o) (by omega);rw[a]at this;exact(DC this).symm
  rw[b,ih,List.drop_set_of_lt (by omega)];have c:o+1+r.length=o+(r.length+1):=by omega
  rw[c];rfl
theorem Gd{g cap size:Nat}{e:TypeId}:∀(vs:List Value)(w:World)(xs:List Value)(o:Nat),w.ownsRow 0 e size (.slice (some ⟨g,0,none⟩) n cap) n xs->(w.setCells g o vs).ownsRow 0 e size (.slice (some ⟨g,0,none⟩) n cap) n (over xs o vs)
 |[],_,_,_,h=>h
 |v::r,w,xs,o,h=>by
  simp only[World.setCells,over];exact Gd r _ _ _ (Es h o v).1
theorem AA.setCells{S:List Nat}{a:World}{g:Nat}(b:g∈S∨a.heap.size<=g):∀(vs:List Value)(w:World)(o:Nat),AA S a w->AA S a (w.setCells g o vs)
 |[],_,_,h=>h
 |v::r,w,o,h=>by
  simp only[World.setCells];exact AA.setCells b r _ _ (h.setCell (p:=⟨g,o,none⟩) b v)
theorem WM.of{X:World}{c d:List Value}(hm:X.heap[gm]? =some (.cells #[.slice none 0 0,.slice none 0 0] 222 (0,0)))(f:X.ownsRow 0 273 8 (.slice (some ⟨gp,0,none⟩) n n) n c)(h:X.ownsRow 0 76 1 (.slice (some ⟨gr,0,none⟩) M M) M d)(i:gm≠gp)(j:gm≠gr)(k:gp≠gr)(e:W.heap.size<=gm)(l:W.heap.size<=gp)(m:W.heap.size<=gr)(o:AA [] W X):WM W (X.setRow gm #[.slice (some ⟨gp,0,none⟩) n n,.slice (some ⟨gr,0,none⟩) M M]) n M gm gp gr:=by
 have a:AA [gm] X (X.setRow gm #[.slice (some ⟨gp,0,none⟩) n n,.slice (some ⟨gr,0,none⟩) M M]):=(AG [gm] X).setRow (g:=gm) (by simp) _;exact⟨Aa _ _ _ _ _ _ hm,⟨c,f.keep a (by intro x b;simp only[Value.ownBlock,Ai]at b;simp;omega)⟩,⟨d,h.keep a (by intro x b;simp only[Value.ownBlock,Ai]at b;simp;omega)⟩,i,j,k,e,l,m,o.setRow (AE e) _⟩
theorem Ge{g:Nat}{a b:Value}(h:w.heap[g]? =some (.cells #[a,b] 222 (0,0))):w.cell? ⟨g,0,none⟩=some a∧w.cell? ⟨g,1,none⟩=some b:=by
 constructor<;>(rw[AU h];rfl)
theorem WM.rlt(h:WM W V n M gm gp gr):gr<V.heap.size:=by
 obtain⟨zs,a⟩:=h.rrow;exact(A3 a gr rfl).2
theorem WM.plt(h:WM W V n M gm gp gr):gp<V.heap.size:=by
 obtain⟨zs,a⟩:=h.prow;exact(A3 a gp rfl).2
structure WL (V wr : World) (s : ByteArray) (N : Nat) (x : AD) (n M gp gr dp dr : Nat) : Prop where
 keep : AA [gp, gr] V wr
 prow : ∃ zs, wr.ownsRow 0 273 8 (.slice (some ⟨gp, 0, none⟩) n n) n zs ∧ Mk wr (fun y => V.heap.size <= y) s N .plist (Be dp x) (zs.drop (dp * 8))
 rrow : ∃ vs, wr.ownsRow 0 76 1 (.slice (some ⟨gr, 0, none⟩) M M) M vs ∧ ∀ e, dr <= e -> e < M -> ∃ u, vs[e]? = some u ∧ MP wr (fun y => V.heap.size <= y) N u (Mt s (Be e x))
theorem WL.start{S:Nat->Prop}(g:Hid (N=s.size+1))(i:Hid (M=n+1))(a:Hid (n=(pl x).length))(b:AT w S .plist x cs)(h:WM W V n M gm gp gr):WL V V s N x n M gp gr n M:=by
 obtain⟨zs,c⟩:=h.prow;obtain⟨vs,f⟩:=h.rrow;refine⟨AG _ _,⟨zs,c,?_⟩,⟨vs,f,fun e d j=>by omega⟩⟩;have d:zs.length=n*8:=c.1;rw[a.o,(LX b).1,<-a.o,<-d,List.drop_length];exact .pnil
theorem WL.keeps(h:WL V wr s N x n M gp gr dp dr)(c:AA [] wr w'):WL V w' s N x n M gp gr dp dr:=by
 obtain⟨zs,d,hm⟩:=h.prow;obtain⟨vs,f,g⟩:=h.rrow;refine⟨h.keep.trans (c.mono (by simp)),⟨zs,d.keep c (by simp),hm.keep c (by simp)⟩,⟨vs,f.keep c (by simp),fun e i j=>?_⟩⟩;obtain⟨u,a,b⟩:=g e i j;exact⟨u,a,b.keep c (by simp)⟩
theorem WL.rcell(h:WL V wr s N x n M gp gr dp dr){e:Nat}(he:e<M):(∃u,wr.cell? ⟨gr,e,none⟩=some u)∧wr.frozen? ⟨gr,e,none⟩=false:=by
 obtain⟨vs,a,_⟩:=h.rrow;have b:vs.length=M:=by have:=a.1;omega
 exact⟨⟨vs[e]'(by omega),by rw[BX a e (by omega),Ax]⟩,D8 a e⟩
theorem WL.rat(h:WL V wr s N x n M gp gr dp dr){e:Nat}(hd:dr<=e)(he:e<M):∃u,wr.cell? ⟨gr,e,none⟩=some u∧MP wr (fun y=>V.heap.size<=y) N u (Mt s (Be e x)):=by
 obtain⟨vs,a,b⟩:=h.rrow;obtain⟨u,x,y⟩:=b e hd he;exact⟨u,(BX a e (by omega)).trans x,y⟩
theorem WL.pthere(h:WL V wr s N x n M gp gr dp dr){i:Nat}(hi:i<n):wr.there gp (i*8) 8:=by
 obtain⟨zs,a,_⟩:=h.prow;have b:zs.length=n*8:=a.1;intro j c;exact⟨by rw[BX a (i*8+j) (by omega),Ax (by omega)];rfl,D8 a _⟩
theorem WL.putR{D d:Nat}(h:WL V wr s N x n M gp gr dp D)(l:D<=d+1)(hd:d<M){u:Value}(hu:MP wr (fun y=>V.heap.size<=y) N u (Mt s (Be d x)))(m:gr<V.heap.size)(g:gp≠gr):WL V (wr.setCell ⟨gr,d,none⟩ u) s N x n M gp gr dp d:=by
 obtain⟨zs,i,hm⟩:=h.prow;obtain⟨vs,f,hb⟩:=h.rrow;have o:vs.length=M:=by have:=f.1;omega
 have a:AA [gr] wr (wr.setCell ⟨gr,d,none⟩ u):=(AG [gr] wr).setCell (p:=⟨gr,d,none⟩) (by simp) _;have b:∀y,(fun y=>V.heap.size<=y) y->y∉[gr]:=by intro y c;simp at c⊢;omega
 refine⟨h.keep.trans (a.mono (by simp)),⟨zs,i.keep a (by intro y c;simp only[Value.ownBlock,Ai]at c;simp;omega),hm.keep a b⟩,⟨vs.set d u,(Es f d u).1,fun e q j=>?_⟩⟩;by_cases k:e=d
 ·subst k;exact⟨u,by rw[List.getElem?_set_self (by omega)],hu.keep a b⟩
 ·obtain⟨v,x,y⟩:=hb e (by omega) j;exact⟨v,by rw[List.getElem?_set_ne (by omega)];exact x,y.keep a b⟩
theorem WL.putP{d:Nat}{y:AD}{ds:List Value}(h:WL V wr s N x n M gp gr (d+1) dr)(hd:d<n)(a:Mk wr (fun z=>V.heap.size<=z) s N .piece y ds)(i:Be d x=.pcons y (Be (d+1) x))(o:gp<V.heap.size)(j:gp≠gr):WL V (wr.setCells gp (d*8) ds) s N x n M gp gr d dr:=by
 obtain⟨zs,g,hm⟩:=h.prow;obtain⟨vs,k,hb⟩:=h.rrow;have c:ds.length=8:=a.form.2;have p:zs.length=n*8:=g.1;have b:AA [gp] wr (wr.setCells gp (d*8) ds):=AA.setCells (by simp) ds wr _ (AG [gp] wr);have f:∀y,(fun y=>V.heap.size<=y) y->y∉[gp]:=by intro y a;simp at a⊢;omega
 refine⟨h.keep.trans (b.mono (by simp)),⟨over zs (d*8) ds,Gd ds _ _ _ g,?_⟩,⟨vs,k.keep b (by intro y a;simp only[Value.ownBlock,Ai]at a;simp;omega),fun e l m=>?_⟩⟩
 ·rw[LY _ _ _ (by omega),i,c,show d*8+8=(d+1)*8 by omega];exact .pcons _ _ _ _ (a.keep b f) (hm.keep b f)
 ·obtain⟨v,x,y⟩:=hb e l m;exact⟨v,x,y.keep b f⟩
theorem LZ(a b:ByteArray):(a.toList==b.toList)=decide (a=b):=by
 rw[DW,DW];by_cases h:a=b
 ·subst h;simp
 ·have c:¬a.data=b.data:=fun e=>h (ByteArray.ext e)
  simp[h,c]
def AX.cells(k:AX)(p:ByteArray):Array Value:=#[.bool k.c,.bool k.i,.bool k.n,.bool k.o,.bool k.v,.bool k.x,.string k.tp,.string p]
def AB(w:World)(b:Nat)(k:AX)(p:ByteArray):Prop:=w.heap[b]? =some (.cells (k.cells p) 173 (0,0))
theorem AB.lt(h:AB w b k p):b<w.heap.size:=(AN.1 h).1
theorem AB.keep{S:List Nat}(h:AB w b k p)(a:AA S w w')(hb:b∉S):AB w' b k p:=(a.block b h.lt hb).trans h
theorem AB.main(h:AB w b k p):w.cell? ⟨b,0,none⟩=some (.bool k.c)∧w.cell? ⟨b,1,none⟩=some (.bool k.i)∧w.cell? ⟨b,2,none⟩=some (.bool k.n)∧w.cell? ⟨b,3,none⟩=some (.bool k.o)∧w.cell? ⟨b,4,none⟩=some (.bool k.v)∧w.cell? ⟨b,5,none⟩=some (.bool k.x)∧w.cell? ⟨b,6,none⟩=some (.string k.tp)∧w.cell? ⟨b,7,none⟩=some (.string p):=by
 unfold AB at h;simp[World.cell?,h,AX.cells]
theorem AB.frz(h:AB w b k p)(j:Nat):w.frozen? ⟨b,j,none⟩=false:=by
 unfold AB at h;simp[World.frozen?,h]
theorem AB.set_c(h:AB w b k p):AB (w.setCell ⟨b,0,none⟩ (.bool true)) b {k with c:=true} p:=by
 unfold AB at*;simp[World.setCell,Aq,h,AX.cells]
theorem AB.set_i(h:AB w b k p):AB (w.setCell ⟨b,1,none⟩ (.bool true)) b {k with i:=true} p:=by
 unfold AB at*;simp[World.setCell,Aq,h,AX.cells]
theorem AB.set_n(h:AB w b k p):AB (w.setCell ⟨b,2,none⟩ (.bool true)) b {k with n:=true} p:=by
 unfold AB at*;simp[World.setCell,Aq,h,AX.cells]
theorem AB.set_o(h:AB w b k p):AB (w.setCell ⟨b,3,none⟩ (.bool true)) b {k with o:=true} p:=by
 unfold AB at*;simp[World.setCell,Aq,h,AX.cells]
theorem AB.set_v(h:AB w b k p):AB (w.setCell ⟨b,4,none⟩ (.bool true)) b {k with v:=true} p:=by
 unfold AB at*;simp[World.setCell,Aq,h,AX.cells]
theorem AB.set_x(h:AB w b k p):AB (w.setCell ⟨b,5,none⟩ (.bool true)) b {k with x:=true} p:=by
 unfold AB at*;simp[World.setCell,Aq,h,AX.cells]
theorem AB.set_t(h:AB w b k p)(t:ByteArray):AB ((w.setCell ⟨b,3,none⟩ (.bool true)).setCell ⟨b,6,none⟩ (.string t)) b {k with o:=true,tp:=t} p:=by
 unfold AB at*;simp[World.setCell,Aq,h,AX.cells]
theorem AB.set_p(h:AB w b k p)(t:ByteArray):AB (w.setCell ⟨b,7,none⟩ (.string t)) b k t:=by
 unfold AB at*;simp[World.setCell,Aq,h,AX.cells]
def Ob(b:Nat)(k:AX)(p:ByteArray)(r:Option AX)(w:World)(e:Ending)(w':World):Prop:=
 AA [b] w w'∧match r with
  |some k'=>e=.returned (.bool true)∧AB w' b k' p
  |none=>e=.returned (.bool false)
theorem Tj(b:Nat)(k:AX)(p:ByteArray)(u:Int)(w:World)(h:AB w b k p):Calls Tryz.prog 195 #[.pointer (some ⟨b,0,none⟩),.int .u8 u] w (Ob b k p (k.add u) w):=by
 obtain⟨C,c1,c2,c3,c4,c5,_,_⟩:=h.main;by_cases f:u=99
 ·have l:Hid (k.add u=some {k with c:=true}):=by show k.add u=_;unfold AX.add;rw[AL f]
  have B:(u==99)=true:=by simpa using f
  have r:=h.frz 0;have m:=h.set_c;have q:=(AG [b] w).setCell (p:=⟨b,0,none⟩) (by simp) (.bool true);clear f;go_enter Tryz.func195,Tryz.ntmps195;go_wp2_with fail;go_ret;refine⟨q,?_⟩;rw[l.o];exact⟨rfl,m⟩
 have B:(u==99)=false:=by simpa using f
 by_cases a:u=105
 ·have l:Hid (k.add u=some {k with i:=true}):=by show k.add u=_;unfold AX.add;rw[AK f,AL a]
  have s:(u==105)=true:=by simpa using a
  have r:=h.frz 1;have m:=h.set_i;have q:=(AG [b] w).setCell (p:=⟨b,1,none⟩) (by simp) (.bool true);clear a;go_enter Tryz.func195,Tryz.ntmps195;go_wp2_with fail;go_ret;refine⟨q,?_⟩;rw[l.o];exact⟨rfl,m⟩
 have s:(u==105)=false:=by simpa using a
 by_cases d:u=110
 ·have l:Hid (k.add u=some {k with n:=true}):=by show k.add u=_;unfold AX.add;rw[AK f,AK a,AL d]
  have t:(u==110)=true:=by simpa using d
  have r:=h.frz 2;have m:=h.set_n;have q:=(AG [b] w).setCell (p:=⟨b,2,none⟩) (by simp) (.bool true);clear d;go_enter Tryz.func195,Tryz.ntmps195;go_wp2_with fail;go_ret;refine⟨q,?_⟩;rw[l.o];exact⟨rfl,m⟩
 have t:(u==110)=false:=by simpa using d
 by_cases e:u=111
 ·have l:Hid (k.add u=some {k with o:=true}):=by show k.add u=_;unfold AX.add;rw[AK f,AK a,AK d,AL e]
  have y:(u==111)=true:=by simpa using e
  have r:=h.frz 3;have m:=h.set_o;have q:=(AG [b] w).setCell (p:=⟨b,3,none⟩) (by simp) (.bool true);clear e;go_enter Tryz.func195,Tryz.ntmps195;go_wp2_with fail;go_ret;refine⟨q,?_⟩;rw[l.o];exact⟨rfl,m⟩
 have y:(u==111)=false:=by simpa using e
 by_cases g:u=118
 ·have l:Hid (k.add u=some {k with v:=true}):=by show k.add u=_;unfold AX.add;rw[AK f,AK a,AK d,AK e,AL g]
  have z:(u==118)=true:=by simpa using g
  have r:=h.frz 4;have m:=h.set_v;have q:=(AG [b] w).setCell (p:=⟨b,4,none⟩) (by simp) (.bool true);clear g;go_enter Tryz.func195,Tryz.ntmps195;go_wp2_with fail;go_ret;refine⟨q,?_⟩;rw[l.o];exact⟨rfl,m⟩
 have z:(u==118)=false:=by simpa using g
 by_cases j:u=120
 ·have l:Hid (k.add u=some {k with x:=true}):=by show k.add u=_;unfold AX.add;rw[AK f,AK a,AK d,AK e,AK g,AL j]
  have A:(u==120)=true:=by simpa using j
  have r:=h.frz 5;have m:=h.set_x;have q:=(AG [b] w).setCell (p:=⟨b,5,none⟩) (by simp) (.bool true);clear j;go_enter Tryz.func195,Tryz.ntmps195;go_wp2_with fail;go_ret;refine⟨q,?_⟩;rw[l.o];exact⟨rfl,m⟩
 have A:(u==120)=false:=by simpa using j
 have l:Hid (k.add u=none):=by show k.add u=_;unfold AX.add;rw[AK f,AK a,AK d,AK e,AK g,AK j]
 clear f a d e g j;go_enter Tryz.func195,Tryz.ntmps195;go_wp2_with fail;go_ret;refine⟨AG _ _,?_⟩;rw[l.o];rfl
theorem Tk(b:Nat)(k:AX)(p s:ByteArray)(D:s.size<=9223372036854775807)(w:World)(h:AB w b k p):Calls Tryz.prog 151 #[.pointer (some ⟨b,0,none⟩),.string s] w (Ob b k p (B7 s k s.size 0) w):=by
 have B:(s.size:Int)<=9223372036854775807:=by omega
 go_enter Tryz.func151,Tryz.ntmps151;go_wp2_with fail;go_loopw [8] (fun q wr=>∃(j:Nat)(k':AX),q=.int .i64 j∧j<=s.size∧AB wr b k' p∧Hid (B7 s k s.size 0=B7 s k' (s.size-j) j)∧AA [b] w wr) (fun q _=>s.size-(intOf q).toNat)
 case atStart=>exact⟨0,k,rfl,AY _,h,rfl,AG _ _⟩
 case round=>
  clear h;obtain⟨j,k',rfl,x,y,n,z⟩:=hrel;have C:(0:Int)<=(j:Int):=by omega
  by_cases hlt:j<s.size
  rotate_left
  ·have d:j=s.size:=by omega
   have f:¬(j:Int)<(s.size:Int):=by omega
   have g:Hid (B7 s k s.size 0=some k'):=by
    show B7 s k s.size 0=_;rw[n.o,d,Nat.sub_self];rfl
   clear hlt x d;go_wp2_with fail;go_ret;refine⟨z,?_⟩;rw[g.o];exact⟨rfl,y⟩
  have f:(j:Int)<(s.size:Int):=by omega
  have A:Hid (j<s.size):=hlt;have i:=Bd hlt;have r:=Tj b k' p ((s[j]'hlt).toNat:Int) wr y;have t:Hid (B7 s k' (s.size-j) j=match k'.add (at' s j)with|none=>none|some m=>B7 s m (s.size-(j+1)) (j+1)):=by
   show B7 s k' (s.size-j) j=_;rw[show s.size-j=(s.size-(j+1))+1 by omega];rfl
  rw[i]at t;clear x i;go_wp2_with fail;refine r.mono ?_;rintro e w2⟨u,c⟩;have l:=z.trans u;cases a:k'.add ((s[j]'hlt).toNat:Int)with
  |none=>
   rw[a]at c;obtain rfl:=c;have g:Hid (B7 s k s.size 0=none):=by show B7 s k s.size 0=_;rw[n.o,t.o,a]
   clear r a;go_wp2_with fail;go_ret;refine⟨l,?_⟩;rw[g.o];rfl
  |some m=>
   rw[a]at c;obtain⟨rfl,v⟩:=c;have g:Hid (B7 s k s.size 0=B7 s m (s.size-(j+1)) (j+1)):=by show B7 s k s.size 0=_;rw[n.o,t.o,a]
   clear r a;go_wp2_with fail;go_roundw
   case rel=>exact⟨j+1,m,by go_num,A.o,v,g,l⟩
   case measure=>have:=A.o;simp[intOf];omega
structure BB (w : World) (v : Value) (l : List ByteArray) : Prop where
 len : l.length <= 9223372036854775807
 rd : (l = [] ∧ ∃ a c, v = .slice a 0 c) ∨ ∃ g o c, v = .slice (some ⟨g, o, none⟩) l.length c ∧ (∀ (k : Nat) (a : ByteArray), l[k]? = some a -> w.cell? ⟨g, o + k, none⟩ = some (.string a)) ∧ l.length <= c ∧ c <= 9223372036854775807
 sz : ∀ a ∈ l, a.size <= 9223372036854775807
theorem BB.keep{l:List ByteArray}(h:BB w v l)(b:AA [] w w'):BB w' v l:=by
 refine⟨h.len,?_,h.sz⟩;rcases h.rd with h|⟨g,o,c,d,e,f⟩
 ·exact AH h
 ·exact AE ⟨g,o,c,d,fun k a i=>Ac b (e k a i),f⟩
theorem BB.sl{l:List ByteArray}(h:BB w v l):∃a c,v=.slice a l.length c:=by
 rcases h.rd with⟨rfl,a,c,h⟩|⟨g,o,c,h,_⟩
 ·exact⟨a,c,h⟩
 ·exact⟨_,c,h⟩
theorem BB.cons{a:ByteArray}{l:List ByteArray}(h:BB w v (a::l)):∃g o c,v=.slice (some ⟨g,o,none⟩) (l.length+1) c∧w.cell? ⟨g,o,none⟩=some (.string a)∧l.length+1<=c∧c<=9223372036854775807∧a.size<=9223372036854775807∧BB w (.slice (some ⟨g,o+1,none⟩) l.length (c-1)) l:=by
 rcases h.rd with⟨i,_⟩|⟨g,o,c,d,e,f,j⟩
 ·cases i
 ·rw[Aj]at d f;have m:=h.len;rw[Aj]at m;refine⟨g,o,c,d,e 0 a rfl,f,j,h.sz a (by simp),by omega,AE ⟨g,o+1,c-1,rfl,fun k x b=>?_,by omega,by omega⟩,fun x b=>h.sz x (by simp[b])⟩;have:=e (k+1) x (by simpa using b);rw[show o+1+k=o+(k+1) by omega];exact this
theorem Du(k:AX)(p:ByteArray):(Tryz.prog.info? 173).map (·.size)=some (k.cells p).size:=by kernel_rfl
theorem Eg(k:AX)(p:ByteArray):(k.cells p).all (·.oneCell')=true:=by
 have a:∀b,(Value.bool b).oneCell'=true:=fun _=>rfl
 have c:∀b,(Value.string b).oneCell'=true:=fun _=>rfl
 simp[AX.cells,a,c]
def k0:AX:=⟨false,false,false,false,false,false,⟨#[]⟩⟩
theorem Oc(tmps:Array Value)(w:World)(g:Nat)(k:AX)(p:ByteArray)(v5:Value)(a:tmps.getD 4 undef=.pointer (some ⟨g,0,none⟩))(b:tmps.getD 5 undef=v5)(c:AB w g k p):(results Tryz.f150 tmps).run Tryz.prog w=.ok (.tuple #[.agg (k.cells p),v5]) w:=by
 have h:Tryz.f150.results=#[.cell 4 173,.tmp 5]:=rfl;have d:tmps[4]?.getD undef=.pointer (some ⟨g,0,none⟩):=by simpa using a
 have e:tmps[5]?.getD undef=v5:=by simpa using b
 have f:=run_loadVar_row (P:=Tryz.prog) w g 173 173 (k.cells p) (0,0) _ c Hi rfl (Du k p);simp[results,h,d,e,asAddr,f]
theorem Tl(k:AX):∀{l:List ByteArray},¬l.length=1->DI k l=none
 |[],_=>rfl
 |[a],b=>absurd rfl b
 |_::_::_,_=>rfl
def La(k:AX)(l:List ByteArray)(w:World)(e:Ending)(w':World):Prop:=
 AA [] w w'∧match DI k l with
  |some (k',p)=>e=.returned (.tuple #[.agg (k'.cells p),.bool true])
  |none=>e=.returned (.tuple #[.agg (k0.cells ⟨#[]⟩),.bool false])
theorem Lb(k:AX)(p:ByteArray)(v:Value)(l:List ByteArray)(w:World)(y:BB w v l):Calls Tryz.prog 150 #[.agg (k.cells p),v] w (La k l w):=by
 have d:AB ((w.alloc (.cells (k.cells p) 173)).alloc (.cells #[.bool false,.bool false,.bool false,.bool false,.bool false,.bool false,.string ⟨#[]⟩,.string ⟨#[]⟩] 173)) w.heap.size k p:=by
  have h:=AS w (.cells (k.cells p) 173);exact(((AG [] (w.alloc (.cells (k.cells p) 173))).alloc (.cells #[.bool false,.bool false,.bool false,.bool false,.bool false,.bool false,.string ⟨#[]⟩,.string ⟨#[]⟩] 173)).block _ (AN.1 h).1 (by simp)).trans h
 have e:AB ((w.alloc (.cells (k.cells p) 173)).alloc (.cells #[.bool false,.bool false,.bool false,.bool false,.bool false,.bool false,.string ⟨#[]⟩,.string ⟨#[]⟩] 173)) (w.heap.size+1) k0 ⟨#[]⟩:=by
  have h:=AS (w.alloc (.cells (k.cells p) 173)) (.cells #[.bool false,.bool false,.bool false,.bool false,.bool false,.bool false,.string ⟨#[]⟩,.string ⟨#[]⟩] 173);rw[show(w.alloc (.cells (k.cells p) 173)).heap.size=w.heap.size+1 by simp]at h;exact h
 have i:AA [] w ((w.alloc (.cells (k.cells p) 173)).alloc (.cells #[.bool false,.bool false,.bool false,.bool false,.bool false,.bool false,.string ⟨#[]⟩,.string ⟨#[]⟩] 173)):=((AG [] w).alloc _).alloc _;have m:=y.keep i;obtain⟨va,vc,z⟩:=y.sl;subst z;have hlen:=y.len;have n:(l.length:Int)<=9223372036854775807:=by omega
 go_enter Tryz.func150,Tryz.ntmps150;go_upto_region 1 with(fail)
 generalize(w.alloc (.cells (k.cells p) 173)).alloc (.cells #[.bool false,.bool false,.bool false,.bool false,.bool false,.bool false,.string ⟨#[]⟩,.string ⟨#[]⟩] 173)=W at*;obtain⟨b,q⟩:=An w.heap.size;have HB:Hid (w.heap.size=b):=q;rw[q]at d e⊢;clear q y;by_cases A:l.length=1
 ·obtain⟨a,rfl⟩:=JH.1 A;obtain⟨g,o,c,z,G,_,_,_,_⟩:=m.cons;simp only[Aj,BJ,Ba]at z⊢;cases z;have J:=d.main.2.2.2.2.2.2.2;have f7:=d.frz 7;have B:=d.set_p a;have r:AA [b] W (W.setCell ⟨b,7,none⟩ (.string a)):=(AG [b] W).setCell (p:=⟨b,7,none⟩) (by simp) _;have C:=e.keep r (by simp);have D:AA [] w (W.setCell ⟨b,7,none⟩ (.string a)):=i.fresh r (by intro x t;simp at t;have:=HB.o;exact AE (by omega));have j:=Du k a;have f:=Eg k a;have u:Hid (AB (W.setCell ⟨b,7,none⟩ (.string a)) (b+1) k0 ⟨#[]⟩):=C;have E:(k0.cells ⟨#[]⟩).size=(k.cells a).size:=rfl;clear d e r m i A hlen n;go_wp2_with(first|(refine As rfl 173 _ rfl b rfl _ _ _ _ B Hi rfl j ?_)|(refine Ae rfl 173 _ _ rfl (b+1) (k.cells a) rfl rfl _ _ u.o j E f ?_));have s:=(AG [b+1] (W.setCell ⟨b,7,none⟩ (.string a))).setRow (g:=b+1) (by simp) (k.cells a);refine Ag (Oc _ _ (b+1) k a _ rfl rfl (Aa _ _ _ _ _ _ u.o)) rfl ?_;exact⟨D.fresh s (by intro x t;simp at t;have:=HB.o;exact AE (by omega)),rfl⟩
 ·have H:((l.length:Int)!=1)=true:=by simp;omega
  have F:¬(l.length:Int)=1:=by omega
  have I:Hid (DI k l=none):=Tl k A;have j:=Du k0 ⟨#[]⟩;have f:=Eg k0 ⟨#[]⟩;have u:Hid (AB W (b+1) k0 ⟨#[]⟩):=e;clear d e m A hlen;go_wp2_with(first|(refine Ae rfl 173 _ _ rfl (b+1) (k0.cells ⟨#[]⟩) rfl rfl _ _ u.o j rfl f ?_));have s:=(AG [b+1] W).setRow (g:=b+1) (by simp) (k0.cells ⟨#[]⟩);refine Ag (Oc _ _ (b+1) k0 ⟨#[]⟩ _ rfl rfl (Aa _ _ _ _ _ _ u.o)) rfl ?_;refine⟨i.fresh s (by intro x t;simp at t;have:=HB.o;exact AE (by omega)),?_⟩;rw[I.o];rfl
theorem Tn(s:ByteArray)(h:1<=s.size):((s.extract 0 1).toList==[45])=decide (at' s 0=45):=by
 rw[DW];have e:(s.extract 0 1).data.toList=[s[0]'h]:=by
  apply List.ext_getElem
  ·have:(s.extract 0 1).data.toList.length=(s.extract 0 1).size:=Array.length_toList;rw[this,Ef];simp;omega
  ·intro i d a;have hi:i=0:=by simpa using a
   subst hi;simp only[List.getElem_cons_zero];show(s.extract 0 1).data[0]=_;have:=ByteArray.getElem_extract (b:=s) (start:=0) (stop:=1) (i:=0) (h:=by rw[Ef];omega);exact this
 rw[e,Bd h];by_cases c:s[0]'h=45
 ·rw[c];rfl
 ·have a:¬((s[0]'h).toNat:Int)=45:=fun f=>c (Fg.1 (by have:(45:UInt8).toNat=45:=rfl;omega))
  rw[BS a];simp[c]
theorem To(s:ByteArray):(s.toList==[45])=decide (s.size=1∧at' s 0=45):=by
 rw[show([45]:List UInt8)=(⟨#[45]⟩:ByteArray).toList by rw[DW],LZ];by_cases h:s=⟨#[45]⟩
 ·subst h
  decide
 ·rw[BS h,BS];rintro⟨a,b⟩;apply h;obtain⟨⟨l⟩⟩:=s
  match l,a with
  |[u],_=>
   have:(u.toNat:Int)=45:=b;have hu:u=45:=Fg.1 (by have:(45:UInt8).toNat=45:=rfl;omega);rw[hu]
theorem Tp(s:ByteArray)(w:World):Calls Tryz.prog 194 #[.string s,.string ⟨#[45]⟩] w fun e w'=>e=.returned (.bool (decide (at' s 0=45)))∧w'=w:=by
 have hin:Calls Tryz.prog 233 #[.string s,.string ⟨#[45]⟩] w fun e w'=>e=.returned (.bool (decide (at' s 0=45)))∧w'=w:=by
  by_cases h:1<=s.size
  ·have he:=Tn s h;have a:(1:Int)<=(s.size:Int):=by omega
   have hd:decide ((1:Int)<=(s.size:Int))=true:=by simpa using a
   obtain⟨q,b⟩:∃q,decide (at' s 0=45)=q:=⟨_,rfl⟩;rw[b]at he⊢;clear b;go_enter Tryz.func233,Tryz.ntmps233;go_wp2_with fail;go_ret;exact⟨rfl,rfl⟩
  ·have c:decide (at' s 0=45)=false:=by
    have:at' s 0=-1:=by unfold at';rw[dif_neg (by omega)]
    rw[this];decide
   have a:¬(1:Int)<=(s.size:Int):=by omega
   have hd:decide ((1:Int)<=(s.size:Int))=false:=by simpa using a
   rw[c];go_enter Tryz.func233,Tryz.ntmps233;go_wp2_with fail;go_ret;exact⟨rfl,rfl⟩
 go_enter Tryz.func194,Tryz.ntmps194;go_wp2_with fail;refine hin.mono ?_;rintro e w1⟨rfl,rfl⟩;go_wp2_with fail;go_ret;exact⟨rfl,rfl⟩
theorem Od(s:ByteArray)(w:World):Calls Tryz.prog 149 #[.string s] w fun e w'=>e=.returned (.bool (decide (Co s)))∧w'=w:=by
 have b:=Tp s w;have c:=To s;by_cases h:at' s 0=45
 ·have hlt:0<s.size:=Ap (by omega);rw[BU h]at b;obtain⟨q,a⟩:=An (decide (Co s));have g:(s.toList==[45])= !q:=by
   rw[c,<-a];by_cases d:s.size=1
   ·rw[BU ⟨d,h⟩,BS]
    ·rfl
    ·unfold Co;omega
   ·rw[BS (by omega),BU]
    ·rfl
    ·exact⟨by omega,h⟩
  rw[a];clear c a h;cases q
  all_goals
   go_enter Tryz.func149,Tryz.ntmps149;go_wp2_with(first|(go_at_call 194;refine b.mono ?_;rintro e w1⟨rfl,rfl⟩));go_ret;exact⟨rfl,rfl⟩
 ·rw[BS h]at b;have a:decide (Co s)=false:=BS fun f=>h f.2
  rw[a];clear c a h;go_enter Tryz.func149,Tryz.ntmps149;go_wp2_with(first|(go_at_call 194;refine b.mono ?_;rintro e w1⟨rfl,rfl⟩));go_ret;exact⟨rfl,rfl⟩
def F4:=@AA.setCells
