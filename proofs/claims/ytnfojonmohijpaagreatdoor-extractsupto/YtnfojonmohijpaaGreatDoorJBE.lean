/-
  DERIVED. Contracts of the program's read of a template, of the closure that it defers, and of readTemplate. No conditions.
-/
import Derived.Test.YtnfojonmohijpaaGreatDoorJBS
import Derived.Test.YtnfojonmohijpaaGreatDoorJED
set_option linter.all false
set_option maxRecDepth 100000
set_option maxHeartbeats 8000000
namespace Go.Proofs.YtnfojonmohijpaaGreatDoor
open Go.RowKit
variable{s:ByteArray}{nds:List Nd}{W:Whole}
theorem WJ(x y z:Value)(w:World):CallsD Tryz.prog 197 #[x,y,z] .returning w fun e a w'=>e=.returned (.tuple #[])∧a=.returning∧w'=w:=by
 refine callsD_of_wpS Tryz.func197 rfl fun b cs hu=>?_
 apply wpS_seq;apply wpS_region;simp[wpOpsS,go_sem,recoverD,hu,Tryz.ntmps197,Exit.thenS];refine wpS_of_wp ?_;have c:(#[x,y,z]++(Array.replicate 12 undef).setIfInBounds 3 Value.nilIface)=#[x,y,z,undef,undef,undef,.nilIface,undef,undef,undef,undef,undef,undef,undef,undef]:=rfl;rw[c];go_wp2_with fail;cases b
 simp_all [bodyPostS,results,Tryz.results197]
theorem WK(j:Nat)(l:Int)(h c d:Addr)(a b:Value)(w:World)(m:w.cell? h=some (.int .i64 l))(i:w.cell? c=some a)(k:w.cell? d=some b)(f2:w.frozen? c=false)(f3:w.frozen? d=false)(g:c≠d):CallsD Tryz.prog 197 #[.pointer (some h),.pointer (some c),.pointer (some d)] (.panicking [{v:=.iface 196 (.agg #[.int .i64 (j:Int)]),recovered:=false}]) w fun e q w'=>
  e=.returned (.tuple #[])∧q=.panicking [{v:=.iface 196 (.agg #[.int .i64 (j:Int)]),recovered:=true}]∧w'=((w.alloc (.cells #[.int .i64 (j:Int)] 196)).setCell c (.int .i64 (j:Int))).setCell d (.int .i64 l):=by
 refine callsD_of_wpS Tryz.func197 rfl fun r cs hu=>?_
 apply wpS_seq;apply wpS_region;simp[wpOpsS,go_sem,recoverD,hu,Tryz.ntmps197,Exit.thenS];refine wpS_of_wp ?_;have n:(#[.pointer (some h),.pointer (some c),.pointer (some d)]++(Array.replicate 12 undef).setIfInBounds 3 (.iface 196 (.agg #[.int .i64 (j:Int)])))=#[.pointer (some h),.pointer (some c),.pointer (some d),undef,undef,undef,.iface 196 (.agg #[.int .i64 (j:Int)]),undef,undef,undef,undef,undef,undef,undef,undef]:=rfl;rw[n];have s:=fun w=>Nx (j:Int) w
 have f:AA [] w (w.alloc (.cells #[.int .i64 (j:Int)] 196)):=(AG [] w).alloc _;have o:=BV w _ i;have p:=BV w _ k;have g1:=Ac f m;have g2:=Ac f i;have g3:=Ac f k;have u:(w.alloc (.cells #[.int .i64 (j:Int)] 196)).frozen? c=false:=(Fi w _ c (Nat.ne_of_lt o)).trans f2;have t:(w.alloc (.cells #[.int .i64 (j:Int)] 196)).frozen? d=false:=(Fi w _ d (Nat.ne_of_lt p)).trans f3;have n3:((w.alloc (.cells #[.int .i64 (j:Int)] 196)).setCell c (.int .i64 (j:Int))).cell? d=some b:=(Dr _ _ _ _ g).trans g3;have m3:((w.alloc (.cells #[.int .i64 (j:Int)] 196)).setCell c (.int .i64 (j:Int))).frozen? d=false:=by rw[World.frozen?_setCell];exact t
 clear n f o p m i k f2 f3 g;go_wp2_with fail;cases r
 simp_all [bodyPostS,results,Tryz.results197]
theorem WN(args:Array Value)(w:World):(callFunc 152 args).run Tryz.prog w=.ok (.enter 152 args) w:=by kernel_rfl
theorem WO(s:ByteArray)(gs b:Nat)(g:s.size<=100)(w:World)(l:w.cell? ⟨b,0,none⟩=some (.int .i64 gs)):Calls Tryz.prog 152 #[.string s,.pointer (some ⟨b,0,none⟩)] w (O6 s gs w):=by
 have c:=Uf s gs g w;go_enter Tryz.func152,Tryz.ntmps152;go_wp2_with fail;refine c.mono ?_;rintro e w1⟨d,h⟩;rcases h with⟨v,ps,rfl,a,f,i⟩|⟨j,rfl,a⟩
 ·obtain⟨m,n,p,rfl⟩:=A6 f;have k:Hid (BN s gs 0 (some ps)):=a;clear c a;go_wp2_with fail;go_ret;exact⟨d,AH ⟨_,ps,rfl,k.o,f,i⟩⟩
 ·simp only[fault];exact⟨rfl,d,AE ⟨j,rfl,a⟩⟩
theorem MK(tmps:Array Value)(w:World)(g:Nat)(v:Value)(x y:Int)(c:tmps.getD 8 undef=v)(d:tmps.getD 9 undef=.pointer (some ⟨g+1,0,none⟩))(a:tmps.getD 10 undef=.pointer (some ⟨g+1+1,0,none⟩))(e:w.cell? ⟨g+1,0,none⟩=some (.int .i64 x))(f:w.cell? ⟨g+1+1,0,none⟩=some (.int .i64 y)):(results Tryz.f154 tmps).run Tryz.prog w=.ok (.tuple #[v,.int .i64 x,.int .i64 y]) w:=by
 have h:Tryz.f154.results=#[.tmp 8,.cell 9 3,.cell 10 22]:=rfl;have i:tmps[8]?.getD undef=v:=by simpa using c
 have j:tmps[9]?.getD undef=.pointer (some ⟨g+1,0,none⟩):=by simpa using d
 have b:tmps[10]?.getD undef=.pointer (some ⟨g+1+1,0,none⟩):=by simpa using a
 have k:=KG 3 (AH rfl) _ x w e;have l:=KG 22 (AE rfl) _ y w f;simp[results,h,i,j,b,asAddr,k,l]
theorem Pg(e:Int)(w:World):∃W,(((w.alloc (.cells #[.int .i64 4] 22)).alloc (.cells #[.int .i64 0] 3)).alloc (.cells #[.int .i64 e] 22))=W∧W.cell? ⟨w.heap.size,0,none⟩=some (.int .i64 4)∧W.cell? ⟨w.heap.size+1,0,none⟩=some (.int .i64 0)∧W.cell? ⟨w.heap.size+1+1,0,none⟩=some (.int .i64 e)∧W.frozen? ⟨w.heap.size+1,0,none⟩=false∧W.frozen? ⟨w.heap.size+1+1,0,none⟩=false∧AA [] w W∧W.heap.size=w.heap.size+3:=by
 have f:AA [] w (w.alloc (.cells #[.int .i64 4] 22)):=(AG [] w).alloc _;have c1:(w.alloc (.cells #[.int .i64 4] 22)).cell? ⟨w.heap.size,0,none⟩=some (.int .i64 4):=by simp
 have c:(w.alloc (.cells #[.int .i64 4] 22)).heap.size=w.heap.size+1:=by simp
 generalize w.alloc (.cells #[.int .i64 4] 22)=w2 at*;have d:AA [] w2 (w2.alloc (.cells #[.int .i64 0] 3)):=(AG [] w2).alloc _;have c3:(w2.alloc (.cells #[.int .i64 0] 3)).cell? ⟨w2.heap.size,0,none⟩=some (.int .i64 0):=by simp
 have f3:(w2.alloc (.cells #[.int .i64 0] 3)).frozen? ⟨w2.heap.size,0,none⟩=false:=by simp
 have z3:(w2.alloc (.cells #[.int .i64 0] 3)).heap.size=w2.heap.size+1:=by simp
 have c1:=Ac d c1;generalize w2.alloc (.cells #[.int .i64 0] 3)=w3 at*;have b:AA [] w3 (w3.alloc (.cells #[.int .i64 e] 22)):=(AG [] w3).alloc _;have c4:(w3.alloc (.cells #[.int .i64 e] 22)).cell? ⟨w3.heap.size,0,none⟩=some (.int .i64 e):=by simp
 have f4:(w3.alloc (.cells #[.int .i64 e] 22)).frozen? ⟨w3.heap.size,0,none⟩=false:=by simp
 have z4:(w3.alloc (.cells #[.int .i64 e] 22)).heap.size=w3.heap.size+1:=by simp
 have c1:=Ac b c1;have a:(w3.alloc (.cells #[.int .i64 e] 22)).frozen? ⟨w2.heap.size,0,none⟩=false:=(Fi w3 _ ⟨w2.heap.size,0,none⟩ (by simp;omega)).trans f3;have c3:=Ac b c3;generalize w3.alloc (.cells #[.int .i64 e] 22)=g at*;rw[z3,c]at c4 f4;rw[c]at c3 a;exact⟨g,rfl,c1,c3,c4,a,f4,(f.trans d).trans b,by omega⟩
def WR(s:ByteArray)(gs:Nat)(w:World)(e:Ending)(w':World):Prop:=
 AA [] w w'∧((∃v ps,e=.returned (.tuple #[v,.int .i64 0,.int .i64 0])∧s.size<=100∧BN s gs 0 (some ps)∧CX w' v ps∧(∀g,v.ownBlock=some g->w.heap.size<=g))∨(∃x y:Int,e=.returned (.tuple #[.slice none 0 0,.int .i64 x,.int .i64 y])∧y≠0∧(100<s.size∨BN s gs 0 none)))
theorem WS(s:ByteArray)(gs m:Nat)(w:World)(n:w.cell? ⟨m,0,none⟩=some (.int .i64 gs)):Calls Tryz.prog 154 #[.string s,.int .i64 100,.func (.func 152) #[] #[.pointer (some ⟨m,0,none⟩)],.int .i64 4] w (WR s gs w):=by
 have K:∀(fn:Fn)(first cap:Array Value)(w:World),(Instr.makeFunc fn first cap).run Tryz.prog w=.ok (.func fn first cap) w:=fun _ _ _ _=>rfl
 by_cases G:s.size<=100
 rotate_left
 ·have p:(100:Int)<(s.size:Int):=by omega
  obtain⟨W,i,q,c,d,g2,g3,k,L⟩:=Pg 1 w
  go_enter_defers Tryz.func154,Tryz.ntmps154
  go_wp2_with fail
  try rw[i]
  exact⟨_,MK _ _ w.heap.size _ 0 1 rfl rfl rfl c d,k,AE ⟨0,1,rfl,by decide,AH (by omega)⟩⟩
 have p:¬(100:Int)<(s.size:Int):=by omega
 have M:=WN;obtain⟨W,i,q,c,d,g2,g3,k,L⟩:=Pg 0 w;have r:=Ac k n
 go_enter_defers Tryz.func154,Tryz.ntmps154
 go_wp2_with fail
 try rw[i]
 clear i;refine(WO s gs m G W r).mono ?_;rintro e w5⟨a,t⟩;have h:=k.trans a;have a0:=Ac a q;have a2:=Ac a c;have a3:=Ac a d;have H:w5.frozen? ⟨w.heap.size+1,0,none⟩=false:=(Fm (a.block _ (BV W _ c) (by simp))).trans g2;have I:w5.frozen? ⟨w.heap.size+1+1,0,none⟩=false:=(Fm (a.block _ (BV W _ d) (by simp))).trans g3;clear q c d g2 g3;obtain⟨g,N⟩:=An w.heap.size;rw[N]at a0 a2 a3 H I⊢;have z5:=a.size;rcases t with⟨v,ps,rfl,l,z,J⟩|⟨j,rfl,l⟩
 ·obtain⟨O,P,Q,rfl⟩:=A6 z;have R:Hid (BN s gs 0 (some ps)):=l;have S:Hid (CX w5 (.slice O P Q) ps):=z;clear l z;go_wp2_with fail;refine leaves_cons (f:=197) (args:=#[.pointer (some ⟨g,0,none⟩),.pointer (some ⟨g+1,0,none⟩),.pointer (some ⟨g+1+1,0,none⟩)]) (by simp) (by simp[go_sem]) ?_;refine(WJ _ _ _ _).mono ?_;rintro e T w7⟨rfl,rfl,rfl⟩;have b:AA [g+1,g+1+1] w5 ((w5.setCell ⟨g+1,0,none⟩ (.int .i64 0)).setCell ⟨g+1+1,0,none⟩ (.int .i64 0)):=((AG _ w5).setCell (by simp) _).setCell (by simp) _;have A:((w5.setCell ⟨g+1,0,none⟩ (.int .i64 0)).setCell ⟨g+1+1,0,none⟩ (.int .i64 0)).cell? ⟨g+1,0,none⟩=some (.int .i64 0):=by
   rw[Dr _ _ _ _ (by simp)];exact Ea _ _ _ a2
  have B:((w5.setCell ⟨g+1,0,none⟩ (.int .i64 0)).setCell ⟨g+1+1,0,none⟩ (.int .i64 0)).cell? ⟨g+1+1,0,none⟩=some (.int .i64 0):=by
   refine Ea _ _ _ (u:=.int .i64 0) ?_;rw[Dr _ _ _ _ (by simp)];exact a3
  exact⟨_,MK _ _ g _ 0 0 rfl rfl rfl A B,h.fresh b (by intro x C;simp at C;omega),AH ⟨_,ps,rfl,G,R.o,S.o.keep b (by intro y D;have:=J y D;simp;omega),fun y D=>by have:=J y D;omega⟩⟩
 ·simp only[fault];refine leaves_cons (f:=197) (args:=#[.pointer (some ⟨g,0,none⟩),.pointer (some ⟨g+1,0,none⟩),.pointer (some ⟨g+1+1,0,none⟩)]) (by simp) (by simp[go_sem]) ?_;refine(WK j 4 _ _ _ _ _ _ a0 a2 a3 H I (by simp)).mono ?_;rintro e T X⟨rfl,rfl,rfl⟩;have E:AA [] w5 (w5.alloc (.cells #[.int .i64 (j:Int)] 196)):=(AG [] w5).alloc _;have U:=Ac E a2;have V:=Ac E a3;have F:=h.trans E;generalize w5.alloc (.cells #[.int .i64 (j:Int)] 196)=w7 at*;have b:AA [g+1,g+1+1] w7 ((w7.setCell ⟨g+1,0,none⟩ (.int .i64 (j:Int))).setCell ⟨g+1+1,0,none⟩ (.int .i64 4)):=((AG _ w7).setCell (by simp) _).setCell (by simp) _;have A:((w7.setCell ⟨g+1,0,none⟩ (.int .i64 (j:Int))).setCell ⟨g+1+1,0,none⟩ (.int .i64 4)).cell? ⟨g+1,0,none⟩=some (.int .i64 (j:Int)):=by
   rw[Dr _ _ _ _ (by simp)];exact Ea _ _ _ U
  have B:((w7.setCell ⟨g+1,0,none⟩ (.int .i64 (j:Int))).setCell ⟨g+1+1,0,none⟩ (.int .i64 4)).cell? ⟨g+1+1,0,none⟩=some (.int .i64 4):=by
   refine Ea _ _ _ (u:=.int .i64 0) ?_;rw[Dr _ _ _ _ (by simp)];exact V
  exact⟨_,MK _ _ g _ j 4 rfl rfl rfl A B,F.fresh b (by intro x C;simp at C;omega),AE ⟨j,4,rfl,by decide,AE l⟩⟩
def WT(s:ByteArray)(gs:Nat)(w:World)(e:Ending)(w':World):Prop:=
 AA [] w w'∧((∃v ps,e=.returned (.tuple #[v,.bool true])∧s.size<=100∧BN s gs 0 (some ps)∧CX w' v ps∧(∀g,v.ownBlock=some g->w.heap.size<=g))∨(e=.returned (.tuple #[.slice none 0 0,.bool false])∧(100<s.size∨BN s gs 0 none)))
theorem WU(s:ByteArray)(gs:Nat)(w:World):Calls Tryz.prog 96 #[.string s,.int .i64 gs] w (WT s gs w):=by
 have m:∀(fn:Fn)(first cap:Array Value)(w:World),(Instr.makeFunc fn first cap).run Tryz.prog w=.ok (.func fn first cap) w:=fun _ _ _ _=>rfl
 have b:AA [] w (w.alloc (.cells #[.int .i64 gs] 3)):=(AG [] w).alloc _;have c:(w.alloc (.cells #[.int .i64 gs] 3)).cell? ⟨w.heap.size,0,none⟩=some (.int .i64 gs):=by simp
 go_enter Tryz.func96,Tryz.ntmps96;go_upto_region 1 with(fail)
 generalize w.alloc (.cells #[.int .i64 gs] 3)=W at*;have h:=WS s gs _ W c;obtain⟨n,a⟩:=An w.heap.size;rw[a]at h⊢;have p:Hid (w.heap.size=n):=a;clear c a;go_wp2_with fail;refine h.mono ?_;rintro e w1⟨i,q⟩;have d:=b.trans i;have r:=b.size;rcases q with⟨v,ps,rfl,t,f,l,u⟩|⟨x,y,rfl,j,f⟩
 ·obtain⟨C,D,E,rfl⟩:=A6 l;have k:Hid (BN s gs 0 (some ps)):=f;clear h f;go_wp2_with fail;go_ret2;exact⟨d,AH ⟨_,ps,rfl,t,k.o,l,fun g z=>by have:=u g z;omega⟩⟩
 ·have A:(y==0)=false:=by simpa using j
  have B:¬y=0:=j;have k:Hid (100<s.size∨BN s gs 0 none):=f;clear h f j;go_wp2_with fail;go_ret2;exact⟨d,AE ⟨rfl,k.o⟩⟩
inductive Cb (l : List ByteArray) : Option (AX × Whole × List Part) -> Prop
 | args : BI l kI none -> Cb l none
 | long (k : AX) (p : ByteArray) : BI l kI (some (k, p)) -> 60 < p.size -> Cb l none
 | bad (k : AX) (p : ByteArray) (j : Nat) : BI l kI (some (k, p)) -> p.size <= 60 -> B6 p (.bad j) -> Cb l none
 | tpl (k : AX) (p : ByteArray) (W : Whole) (j : Nat) : BI l kI (some (k, p)) -> p.size <= 60 -> B6 p (.ok W j) -> (100 < k.tp.size ∨ BN k.tp W.g 0 none) -> Cb l none
 | ok (k : AX) (p : ByteArray) (W : Whole) (j : Nat) (ps : List Part) : BI l kI (some (k, p)) -> p.size <= 60 -> B6 p (.ok W j) -> k.tp.size <= 100 -> BN k.tp W.g 0 (some ps) -> Cb l (some (k, k.w W, ps))
theorem Cb.det{l:List ByteArray}{a b:Option (AX×Whole×List Part)}(h:Cb l a)(c:Cb l b):a=b:=by
 cases h with
 |args h=>
  cases c with
  |args=>rfl
  |long k p c=>cases h.det c
  |bad k p j c=>rfl
  |tpl k p W j c=>rfl
  |ok k p W j ps c=>cases h.det c
 |long k p h m=>
  cases c with
  |args=>rfl
  |long=>rfl
  |bad=>rfl
  |tpl=>rfl
  |ok k' p' W j ps c g=>cases h.det c;omega
 |bad k p j h m e=>
  cases c with
  |args=>rfl
  |long=>rfl
  |bad=>rfl
  |tpl=>rfl
  |ok k' p' W j ps c g d=>cases h.det c;cases e.det d
 |tpl k p W j h m e i=>
  cases c with
  |args=>rfl
  |long=>rfl
  |bad=>rfl
  |tpl=>rfl
  |ok k' p' W j ps c g d n f=>
   cases h.det c;cases e.det d;rcases i with i|i
   ·omega
   ·cases i.det f
 |ok k p W j ps h m e i n=>
  cases c with
  |args c=>cases h.det c
  |long k' p' c g=>cases h.det c;omega
  |bad k' p' o c g d=>cases h.det c;cases e.det d
  |tpl k' p' q o c g d f=>
   cases h.det c;cases e.det d;rcases f with f|f
   ·omega
   ·cases n.det f
  |ok k' p' q o r c g d f s=>
   cases h.det c;cases e.det d;cases n.det s;rfl
def zc:Array Value:=#[.bool false,.bool false,.bool false,.bool false,.bool false,.bool false,.bool false,.bool false,.slice none 0 0,.int .i64 0,.slice none 0 0]
def WV(l:List ByteArray)(w:World)(e:Ending)(w':World):Prop:=
 AA [] w w'∧((Cb l none∧e=.returned (.tuple #[.agg zc,.bool false]))∨∃k W ps v tv,Cb l (some (k,W,ps))∧e=.returned (.tuple #[.agg (Av k W v tv),.bool true])∧Bk v∧Bk tv∧AT w' (fun g=>w.heap.size<=g) .ways W.x [v]∧CX w' tv ps)
theorem Km(tmps:Array Value)(w:World)(g:Nat)(cs:Array Value)(a:cs.size=11)(v5:Value)(b:tmps.getD 2 undef=.pointer (some ⟨g,0,none⟩))(c:tmps.getD 3 undef=v5)(d:w.heap[g]? =some (.cells cs 117 (0,0))):(results Tryz.f56 tmps).run Tryz.prog w=.ok (.tuple #[.agg cs,v5]) w:=by
 have e:=run_loadVar_row (P:=Tryz.prog) w g 117 117 cs (0,0) _ d Hq rfl (by rw[a];kernel_rfl);have h:Tryz.f56.results=#[.cell 2 117,.tmp 3]:=rfl;have f:tmps[2]?.getD undef=.pointer (some ⟨g,0,none⟩):=by simpa using b
 have i:tmps[3]?.getD undef=v5:=by simpa using c
 simp[results,h,f,i,asAddr,e]
theorem MM:(Tryz.prog.info? 117).map (·.size)=some zc.size:=by kernel_rfl
theorem WW(v:Value)(l:List ByteArray)(w:World)(aa:GN w)(hl:BB w v l):Calls Tryz.prog 56 #[v] w (WV l w):=by
 have R:AA [] w (w.alloc (.cells zc 117)):=(AG [] w).alloc _;have h0:(w.alloc (.cells zc 117)).heap[w.heap.size]? =some (.cells zc 117 (0,0)):=AS w _;have ab:=Tt v l (w.alloc (.cells zc 117)) (hl.keep R);obtain⟨va,vc,hv⟩:=hl.sl;subst hv;have S:zc.all (·.oneCell')=true:=Ir rfl rfl rfl rfl rfl rfl rfl rfl rfl rfl rfl;go_enter Tryz.func56,Tryz.ntmps56;go_upto_region 1 with(fail)
 change Code.wp _ _ _ _ (w.alloc (.cells zc 117));generalize w.alloc (.cells zc 117)=X at*;obtain⟨r,hr⟩:=AQ w.heap.size;rw[<-hr]at h0⊢;have HR:Hid (r=w.heap.size):=hr;clear hr;go_wp2_with fail;refine ab.mono ?_;rintro e w1⟨T,q,J,rfl⟩;have f:=R.trans T;have h1:=(T.block r (AN.1 h0).1 (by simp)).trans h0;clear ab R h0 T;cases q with
 |none=>
  have HA:Hid (Cb l none):=.args J;have hz:(w1.alloc (.cells #[.bool false,.bool false,.bool false,.bool false,.bool false,.bool false,.string ⟨#[]⟩,.string ⟨#[]⟩] 173)).heap[w1.heap.size]? =some (.cells #[.bool false,.bool false,.bool false,.bool false,.bool false,.bool false,.string ⟨#[]⟩,.string ⟨#[]⟩] 173 (0,0)):=AS w1 _;have a:AA [] w1 ((w1.alloc (.cells #[.bool false,.bool false,.bool false,.bool false,.bool false,.bool false,.string ⟨#[]⟩,.string ⟨#[]⟩] 173)).setRow w1.heap.size (k0.cells ⟨#[]⟩)):=((AG [] w1).alloc _).setRow (AE (AP _)) _;have U:=(a.block r (AN.1 h1).1 (by simp)).trans h1;have b:=f.trans a;have B:=Eg k0 ⟨#[]⟩;unfold Gg;clear a h1 f J aa hl;go_wp2_with(first|(refine Ae rfl 173 _ _ rfl w1.heap.size (k0.cells ⟨#[]⟩) rfl rfl _ _ hz (Du k0 ⟨#[]⟩) rfl B ?_;generalize(w1.alloc (.cells #[.bool false,.bool false,.bool false,.bool false,.bool false,.bool false,.string ⟨#[]⟩,.string ⟨#[]⟩] 173)).setRow w1.heap.size (k0.cells ⟨#[]⟩)=W2 at*)|(refine Ae rfl 117 _ _ rfl r zc rfl rfl _ _ U MM rfl S ?_));refine Ag (Km _ _ r zc rfl _ rfl rfl (Aa _ _ _ _ _ _ U)) rfl ?_;exact⟨b.setRow (AE (by have:=HR.o;omega)) _,AH ⟨HA.o,rfl⟩⟩
 |some kp=>
  obtain⟨k,p⟩:=kp;have HQ:Hid (BI l kI (some (k,p))):=J;have hz:(w1.alloc (.cells #[.bool false,.bool false,.bool false,.bool false,.bool false,.bool false,.string ⟨#[]⟩,.string ⟨#[]⟩] 173)).heap[w1.heap.size]? =some (.cells #[.bool false,.bool false,.bool false,.bool false,.bool false,.bool false,.string ⟨#[]⟩,.string ⟨#[]⟩] 173 (0,0)):=AS w1 _;have a:AA [] w1 ((w1.alloc (.cells #[.bool false,.bool false,.bool false,.bool false,.bool false,.bool false,.string ⟨#[]⟩,.string ⟨#[]⟩] 173)).setRow w1.heap.size (k.cells p)):=((AG [] w1).alloc _).setRow (AE (AP _)) _;have K:AB ((w1.alloc (.cells #[.bool false,.bool false,.bool false,.bool false,.bool false,.bool false,.string ⟨#[]⟩,.string ⟨#[]⟩] 173)).setRow w1.heap.size (k.cells p)) w1.heap.size k p:=Aa _ _ _ _ _ _ hz;have U:=(a.block r (AN.1 h1).1 (by simp)).trans h1;have b:=f.trans a;have B:=Eg k p;have an:Hid (w.heap.size<=w1.heap.size):=f.size;unfold Gg;clear a h1 f J hl;go_upto_region 2 with(first|(refine Ae rfl 173 _ _ rfl w1.heap.size (k.cells p) rfl rfl _ _ hz (Du k p) rfl B ?_))
  generalize(w1.alloc (.cells #[.bool false,.bool false,.bool false,.bool false,.bool false,.bool false,.string ⟨#[]⟩,.string ⟨#[]⟩] 173)).setRow w1.heap.size (k.cells p)=W2 at*;obtain⟨ga,ac⟩:=AQ w1.heap.size;rw[<-ac]at K an⊢;clear hz B ac;obtain⟨_,_,_,_,_,_,a6,a7⟩:=K.main;have ad:=Sf p W2 (aa.keep b (by simp));go_wp2_with fail;refine ad.mono ?_;rintro e w3⟨hk3,ae⟩;have h3:=(hk3.block r (AN.1 U).1 (by simp)).trans U;have E:=K.keep hk3 (by simp);have m:=b.trans hk3;have L:P4 (w3.alloc (.cells #[.bool false,.bool false,.slice none 0 0,.int .i64 0] 70)) w3.heap.size (.bool false) (.bool false) (.slice none 0 0) (.int .i64 0):=AS w3 _;have hC:(∃x y:Int,y≠0∧e=.returned (.tuple #[.agg #[.bool false,.bool false,.slice none 0 0,.int .i64 0],.int .i64 x,.int .i64 y])∧Cb l none)∨
   ∃W j v,p.size<=60∧B6 p (.ok W j)∧e=.returned (.tuple #[.agg #[.bool W.bg,.bool W.en,v,.int .i64 W.g],.int .i64 0,.int .i64 0])∧v.oneCell'=true∧AT w3 (fun g=>W2.heap.size<=g) .ways W.x [v]:=by
   rcases ae with⟨hl,he⟩|⟨hs,q,J,h⟩
   ·exact AH ⟨0,1,by decide,he,.long k p HQ.o hl⟩
   ·cases q with
    |bad j=>exact AH ⟨j,2,by decide,h,.bad k p j HQ.o hs J⟩
    |ok W j=>
     obtain⟨v,he,hv,s⟩:=h;exact AE ⟨W,j,v,hs,J,he,hv,s⟩
  have af:Hid (w.heap.size<=w3.heap.size∧w.heap.size<=W2.heap.size∧r<W2.heap.size):=⟨m.size,b.size,(AN.1 U).1⟩;clear ae ad K U hk3 b a6 a7;rcases hC with⟨x,y,ay,rfl,hp⟩|⟨W,j,v,hs,J,rfl,hv,s⟩
  ·have o4:=He (x:=false) (y:=false) (n:=0) (v:=.slice none 0 0) rfl;have hk4:AA [] w3 ((w3.alloc (.cells #[.bool false,.bool false,.slice none 0 0,.int .i64 0] 70)).setRow w3.heap.size #[.bool false,.bool false,.slice none 0 0,.int .i64 0]):=((AG [] w3).alloc _).setRow (AE (AP _)) _;have a:=m.trans hk4;have O:=(hk4.block r (AN.1 h3).1 (by simp)).trans h3;have HP:Hid (Cb l none):=hp;clear hk4 hp h3 E m;go_wp2_with(first|(refine Ae rfl 70 _ _ rfl w3.heap.size _ rfl rfl _ _ L Fy rfl o4 ?_;generalize(w3.alloc (.cells #[.bool false,.bool false,.slice none 0 0,.int .i64 0] 70)).setRow w3.heap.size #[.bool false,.bool false,.slice none 0 0,.int .i64 0]=W3 at*)|(refine Ae rfl 117 _ _ rfl r zc rfl rfl _ _ O MM rfl S ?_));refine Ag (Km _ _ r zc rfl _ rfl rfl (Aa _ _ _ _ _ _ O)) rfl ?_;exact⟨a.setRow (AE (by have:=HR.o;omega)) _,AH ⟨HP.o,rfl⟩⟩
  ·have az:Bk v:=by
    cases s with
    |ways _ _ _ _ _ ho _=>exact A6 ho
   have o4:=He (x:=W.bg) (y:=W.en) (n:=(W.g:Int)) hv;have hk4:AA [] w3 ((w3.alloc (.cells #[.bool false,.bool false,.slice none 0 0,.int .i64 0] 70)).setRow w3.heap.size #[.bool W.bg,.bool W.en,v,.int .i64 (W.g:Int)]):=((AG [] w3).alloc _).setRow (AE (AP _)) _;have d:((w3.alloc (.cells #[.bool false,.bool false,.slice none 0 0,.int .i64 0] 70)).setRow w3.heap.size #[.bool W.bg,.bool W.en,v,.int .i64 (W.g:Int)]).heap[w3.heap.size]? =some (.cells #[.bool W.bg,.bool W.en,v,.int .i64 (W.g:Int)] 70 (0,0)):=Aa _ _ _ _ _ _ L;have a:=m.trans hk4;have O:=(hk4.block r (AN.1 h3).1 (by simp)).trans h3;have C:=E.keep hk4 (by simp);have z:=s.keep hk4 (by simp);have D:Hid (p.size<=60∧B6 p (.ok W j)):=⟨hs,J⟩;clear hk4 h3 E m s hs J;go_upto_region 5 with(first|(refine Ae rfl 70 _ _ rfl w3.heap.size _ rfl rfl _ _ L Fy rfl o4 ?_))
   generalize(w3.alloc (.cells #[.bool false,.bool false,.slice none 0 0,.int .i64 0] 70)).setRow w3.heap.size #[.bool W.bg,.bool W.en,v,.int .i64 (W.g:Int)]=W3 at*;obtain⟨gp,ag⟩:=AQ w3.heap.size;rw[<-ag]at d⊢;clear L o4 ag;obtain⟨_,_,_,_,_,_,a6,a7⟩:=C.main;have ah:W3.cell? ⟨gp,3,none⟩=some (.int .i64 (W.g:Int)):=by rw[AU d];rfl
   have V:=WU k.tp W.g W3;go_wp2_with fail;refine V.mono ?_;rintro e w5⟨A,ao⟩;have h5:=(A.block r (AN.1 O).1 (by simp)).trans O;have M:=a.trans A;have aA:r<W3.heap.size:=(AN.1 O).1;rcases ao with⟨tv,ps,rfl,ai,aj,Y,ak⟩|⟨rfl,ht⟩
   ·obtain⟨F,tn,G,rfl⟩:=A6 Y;have ap:Hid (∀g,(Value.slice F tn G).ownBlock=some g->r<g):=fun g hg=>by have:=ak g hg;omega
    clear ak;have HP:Hid (Cb l (some (k,k.w W,ps))):=.ok k p W j ps HQ.o D.o.1 D.o.2 ai aj;have P:=C.keep A (by simp);have H:=(A.block gp (AN.1 d).1 (by simp)).trans d;have I:=z.keep A (by simp);have Q:∀t u,[Value.bool k.c,.bool k.i,.bool k.n,.bool k.o,.bool k.v,.bool k.x][t]? =some u->w5.cell? ⟨ga,0+t,none⟩=some u:=by
     intro t u hu;rw[AU P,Ba]
     match t,hu with
     |0,hu=>exact hu
     |1,hu=>exact hu
     |2,hu=>exact hu
     |3,hu=>exact hu
     |4,hu=>exact hu
     |5,hu=>exact hu
    have aq:(Tryz.prog.info? 113).map (·.size)=some ([Value.bool k.c,.bool k.i,.bool k.n,.bool k.o,.bool k.v,.bool k.x]:List Value).length:=by kernel_rfl
    have hN:=WI k W v (.slice F tn G) _ (Ok D.o.1 D.o.2) ⟨F,tn,G,rfl⟩ w5 I;clear V O a C d a6 a7 ah A z P ai aj;go_wp2_with(first|(refine LP rfl 113 _ rfl ga 0 rfl [.bool k.c,.bool k.i,.bool k.n,.bool k.o,.bool k.v,.bool k.x] _ Q Tryz.underlying113 rfl aq ?_)|(refine As rfl 70 _ rfl gp rfl _ _ _ _ H Et rfl (Gp _ _ _ _) ?_));refine hN.mono ?_;rintro e w6⟨r6,rfl,ar,Z,N⟩;obtain⟨qa,qn,qc,rfl⟩:=ar;have au:(Av k (k.w W) (.slice qa qn qc) (.slice F tn G)).all (·.oneCell')=true:=Ir rfl rfl rfl rfl rfl rfl rfl rfl rfl rfl rfl;have h6:=(N.block r (AN.1 h5).1 (by simp)).trans h5;have aw:=M.trans N;have al:Hid (w.heap.size<=w5.heap.size∧r<w5.heap.size):=⟨M.size,(AN.1 h5).1⟩;have ax:CX w6 (.slice F tn G) ps:=CX.keep Y N (by simp);clear hN Q H I Y h5 M N;go_wp2_with(first|(refine Ae rfl 117 _ _ rfl r (Av k (k.w W) (.slice qa qn qc) (.slice F tn G)) rfl rfl _ _ h6 (Hs k (k.w W) (.slice qa qn qc) (.slice F tn G)) rfl au ?_));refine Ag (Km _ _ r (Av k (k.w W) (.slice qa qn qc) (.slice F tn G)) rfl _ rfl rfl (Aa _ _ _ _ _ _ h6)) rfl ?_;have am:AA [r] w6 (w6.setRow r (Av k (k.w W) (.slice qa qn qc) (.slice F tn G))):=(AG [r] w6).setRow (AH (by simp)) _;refine⟨aw.setRow (AE (by have:=HR.o;omega)) _,AE ⟨k,k.w W,ps,.slice qa qn qc,.slice F tn G,HP.o,rfl,⟨qa,qn,qc,rfl⟩,⟨F,tn,G,rfl⟩,?_,?_⟩⟩
    ·exact AT.mono (fun g hg _=>by have:=af.o;have:=al.o;omega) (Z.keep am (fun g hg=>by have:=af.o;have:=al.o;simp;omega))
    ·exact CX.keep ax am (fun g hg=>by have:=ap.o g hg;simp;omega)
   ·have HP:Hid (Cb l none):=.tpl k p W j HQ.o D.o.1 D.o.2 ht;clear V O a C d a6 a7 ah A z ht;go_wp2_with(first|(refine Ae rfl 117 _ _ rfl r zc rfl rfl _ _ h5 MM rfl S ?_));refine Ag (Km _ _ r zc rfl _ rfl rfl (Aa _ _ _ _ _ _ h5)) rfl ?_;exact⟨M.setRow (AE (by have:=HR.o;omega)) _,AH ⟨HP.o,rfl⟩⟩
theorem Ph(b:Bool)(x:AD):(x.fo b).sz=x.sz:=by
 induction x with
 |set f=>rfl
 |grp k x ih=>simp only[AD.fo,AD.sz,ih]
 |rep mn mx x ih=>simp only[AD.fo,AD.sz,ih]
 |pnil=>rfl
 |pcons x r a c=>simp only[AD.fo,AD.sz,a,c]
 |wone x ih=>simp only[AD.fo,AD.sz,ih]
 |wcons x r a c=>simp only[AD.fo,AD.sz,a,c]
theorem Kn(b:Bool)(n:Nat)(x:AD):(x.fo b).has n↔x.has n:=by
 induction x with
 |set f=>exact Iff.rfl
 |grp k x ih=>simp only[AD.fo,AD.has,ih]
 |rep mn mx x ih=>simp only[AD.fo,AD.has,ih]
 |pnil=>exact Iff.rfl
 |pcons x r a c=>simp only[AD.fo,AD.has,a,c]
 |wone x ih=>simp only[AD.fo,AD.has,ih]
 |wcons x r a c=>simp only[AD.fo,AD.has,a,c]
theorem WX(b:Bool)(x:AD):(x.fo b).nest↔x.nest:=by
 induction x with
 |set f=>exact Iff.rfl
 |grp k x ih=>simp only[AD.fo,AD.nest,ih,Kn]
 |rep mn mx x ih=>simp only[AD.fo,AD.nest,ih]
 |pnil=>exact Iff.rfl
 |pcons x r a c=>simp only[AD.fo,AD.nest,a,c]
 |wone x ih=>simp only[AD.fo,AD.nest,ih]
 |wcons x r a c=>simp only[AD.fo,AD.nest,a,c]
theorem MO(b:Bool)(g:Nat)(x:AD):(x.fo b).fair g↔x.fair g:=by
 induction x with
 |set f=>exact Iff.rfl
 |grp k x ih=>simp only[AD.fo,AD.fair,ih]
 |rep mn mx x ih=>simp only[AD.fo,AD.fair,ih]
 |pnil=>exact Iff.rfl
 |pcons x r a c=>simp only[AD.fo,AD.fair,a,c]
 |wone x ih=>simp only[AD.fo,AD.fair,ih]
 |wcons x r a c=>simp only[AD.fo,AD.fair,a,c]
theorem BN.ok{gs i:Nat}{q:Option (List Part)}(h:BN s gs i q):∀ps,q=some ps->ps.length<=s.size-i∧Ii gs ps:=by
 induction h with
 |fin i h=>intro ps e;cases e;exact⟨AY _,fun p c=>by cases c⟩
 |bad=>intro ps e;cases e
 |go i k p q d f _ ih=>
  intro ps e;cases q with
  |none=>cases e
  |some l=>
   cases e;obtain⟨m,a2⟩:=ih l rfl;obtain⟨n,o,j⟩:=J2 f d;refine⟨by simp only[Aj];omega,fun p' a g b=>?_⟩;rcases Az.1 a with rfl|a
   ·exact j g b
   ·exact a2 p' a g b
inductive Cc (l : List ByteArray) (s : ByteArray) : Ending -> Prop
 | args : Cb l none -> Cc l s (.returned (.tuple #[.string ⟨#[]⟩, .int .i64 2]))
 | long (k : AX) (W : Whole) (ps : List Part) : Cb l (some (k, W, ps)) -> (2000 < s.size ∨ ∃ a ∈ By s, 100 < a.size) -> Cc l s (.returned (.tuple #[.string ⟨#[]⟩, .int .i64 2]))
 | run (k : AX) (W : Whole) (ps : List Part) (o : List UInt8) (m : Nat) : Cb l (some (k, W, ps)) -> s.size <= 2000 -> (∀ a ∈ By s, a.size <= 100) -> Ct k W ps 0 (By s) o m -> Cc l s (E6 k o m)
theorem WY:(Tryz.prog.info? 117).map (·.size)=some zc.size:=by kernel_rfl
theorem Pj:∀l:List UInt8,((Bx l).map fun a=>a.length+1).sum<=l.length+1
 |[]=>by simp[Bx]
 |b::l=>by
  have ih:=Pj l;rw[Bx];split
  ·simp only[D6,List.sum_cons,BJ,Aj];omega
  ·split
   ·simp
   ·rename_i h t e;rw[e]at ih;simp only[D6,List.sum_cons,Aj]at*;omega
theorem Pk(s:ByteArray):DT (By s)<=s.size+1:=by
 have h:=Pj s.data.toList;have e:s.data.toList.length=s.size:=rfl;unfold DT By;rw[List.map_map];have b:((fun a:ByteArray=>a.size+1)∘AJ)=fun a=>a.length+1:=by funext a;simp[Bp]
 rw[b];omega
theorem GT.at{w w':World}(h:GT w.heap.size w)(a:AA [] w w'):GT w'.heap.size w':=fun X b=>h X (C6 (Ed a (AP _) (by simp)) (GD b a.size))
theorem Pm(v:Value)(l:List ByteArray)(s:ByteArray)(w:World)(M:GN w)(Y:BB w v l)(N:GT w.heap.size w):Calls Tryz.prog 26 #[v,.string s] w fun e w'=>Cc l s e∧AA [] w w':=by
 have F:=WW v l w M Y;obtain⟨va,vc,hv⟩:=Y.sl;subst hv;go_enter Tryz.func26,Tryz.ntmps26;go_wp2_with fail;refine F.mono ?_;rintro e w1⟨q,Z⟩;have U:(w1.alloc (.cells zc 117)).heap[w1.heap.size]? =some (.cells zc 117 (0,0)):=AS w1 _;unfold zc at U;rcases Z with⟨K,rfl⟩|⟨k,W,ps,u,tv,K,rfl,hu,aa,E,O⟩
 ·have n:AA [] w ((w1.alloc (.cells zc 117)).setRow w1.heap.size zc):=(q.alloc _).setRow (AE q.size) _;unfold zc at n;have ab:zc.all (·.oneCell')=true:=Ir rfl rfl rfl rfl rfl rfl rfl rfl rfl rfl rfl;have V:Hid (Cc l s (.returned (.tuple #[.string ⟨#[]⟩,.int .i64 2]))):=.args K;clear F K q;go_wp2_with(first|(refine Ae rfl 117 _ _ rfl w1.heap.size zc rfl rfl _ _ U WY rfl ab ?_));go_ret2;exact⟨V.o,n⟩
 ·obtain⟨r,un,t,rfl⟩:=hu;obtain⟨y,tn,z,rfl⟩:=aa;have ac:(Av k W (.slice r un t) (.slice y tn z)).all (·.oneCell')=true:=Ir rfl rfl rfl rfl rfl rfl rfl rfl rfl rfl rfl;have A:AA [] w1 ((w1.alloc (.cells zc 117)).setRow w1.heap.size (Av k W (.slice r un t) (.slice y tn z))):=((AG [] w1).alloc _).setRow (AE (AP _)) _;have f:((w1.alloc (.cells zc 117)).setRow w1.heap.size (Av k W (.slice r un t) (.slice y tn z))).heap[w1.heap.size]? =some (.cells (Av k W (.slice r un t) (.slice y tn z)) 117 (0,0)):=Aa _ _ _ _ _ _ (AS w1 _);have G:Hr ((w1.alloc (.cells zc 117)).setRow w1.heap.size (Av k W (.slice r un t) (.slice y tn z))) k W (.slice r un t) (.slice y tn z) ps:=by
   obtain⟨p,j,H,hs,hq,ah,ad,rfl⟩:∃p j H,p.size<=60∧B6 p (.ok H j)∧k.tp.size<=100∧BN k.tp H.g 0 (some ps)∧W=k.w H:=by
    cases K with
    |ok _ p H j _ a b c d e=>exact⟨p,j,H,b,c,d,e,rfl⟩
   obtain⟨g1,_,g3⟩:=hq.good hs;obtain⟨t1,t2⟩:=ad.ok ps rfl;obtain⟨n1,n2⟩:=hq.nest;exact⟨g3,⟨(WX _ _).2 n1,fun m hm=>n2 m ((Kn _ _ _).1 hm)⟩,rfl,by show(H.x.fo k.i).sz<=1000;rw[Ph];exact Ok hs hq,(MO _ _ _).2 g1,⟨_,E.keep A (by simp)⟩,CX.keep O A (by simp),by omega,t2⟩
  have I:=q.trans A;have V:Hid (Cb l (some (k,W,ps))):=K;have ae:Hid (GT w.heap.size w):=N;unfold zc at A f G I;clear F K q N M Y E O A;go_upto_region 2 with(first|(refine Ae rfl 117 _ _ rfl w1.heap.size (Av k W (.slice r un t) (.slice y tn z)) rfl rfl _ _ U (Hs k W (.slice r un t) (.slice y tn z)) rfl ac ?_))
  generalize(w1.alloc (.cells #[.bool false,.bool false,.bool false,.bool false,.bool false,.bool false,.bool false,.bool false,.slice none 0 0,.int .i64 0,.slice none 0 0] 117)).setRow w1.heap.size (Av k W (.slice r un t) (.slice y tn z))=X at*;obtain⟨gc,P⟩:=AQ w1.heap.size;rw[<-P]at f⊢;clear U P;go_wp2_with fail;refine(V4 s X).mono ?_;rintro e w2⟨n,af⟩;have B:=I.trans n;have h:=(n.block gc (AN.1 f).1 (by simp)).trans f;have C:=G.keep n;clear f G I;rcases af with⟨gl,cl,rfl,Q,J,ag,hL,_,R⟩|⟨rfl,D⟩
  ·have S:=WD k W (.slice r un t) (.slice y tn z) ps (By s) gl cl w2 C hL R (by omega) (by have:=Pk s;omega) J (ae.o.at B);have HS:Hid (s.size<=2000∧∀a∈By s,a.size<=100):=⟨Q,J⟩;clear Q J hL R C ag;go_wp2_with(first|(refine As rfl 117 _ rfl gc rfl _ _ _ _ h Hq rfl (Hs k W (.slice r un t) (.slice y tn z)) ?_));refine S.mono ?_;rintro e w3⟨o,m,hR,he,hk3⟩;have L:Hid (Cc l s (E6 k o m)):=.run k W ps o m V.o HS.o.1 HS.o.2 hR;have T:=B.trans hk3;unfold E6 at he L;generalize(AJ (o++if k.c=true then Bz m++[10]else[]))=q1 at he L;generalize(if m=0 then(1:Int)else 0)=q2 at he L;subst he;clear S hR hk3 h;go_wp2_with fail;go_ret2;exact⟨L.o,T⟩
  ·have L:Hid (Cc l s (.returned (.tuple #[.string ⟨#[]⟩,.int .i64 2]))):=.long k W ps V.o D;clear D C h;go_wp2_with fail;go_ret2;exact⟨L.o,B⟩
theorem Pn:∀(f n:Nat),f<=3->n<10^(f+1)->∀w:World,Calls Tryz.prog 111 #[.int .i64 n] w fun e w'=>e=.returned (.string (AJ (DG f n)))∧w'=w
 |0,n,_,h,w=>by
  have b:n<10:=by simpa using h
  have e:DG 0 n=Bh n:=by rw[DG,Nat.mod_eq_of_lt b];rfl
  rw[e];exact Ki n (by omega) w
 |f+1,n,c,h,w=>by
  by_cases a:n<10
  ·have e:DG (f+1) n=Bh n:=by rw[DG,AL a];rfl
   rw[e];exact Ki n (by omega) w
  have hb:10^(f+1+1)<=10000:=by
   match f,c with
   |0,_=>decide
   |1,_=>decide
   |2,_=>decide
  have k:(0:Int)<=(n:Int):=by omega
  have l:¬(n:Int)<10:=by omega
  have d:(n:Int)<=9999:=by omega
  have m:(0:Int)<=(n:Int)%10:=by omega
  have p:(n:Int)%10<=9:=by omega
  have q:(0:Int)<=(n:Int)/10:=by omega
  have r:(n:Int)/10<=999:=by omega
  have g:Hid (DG (f+1) n=DG f (n/10)++Bh (n%10)):=by show DG (f+1) n=_;rw[DG,AK a];rfl
  have i:Hid ((AJ Jp).extract (n%10) (n%10+1)=AJ (Bh (n%10))):=Kh (n%10) (by omega);have hlen:(AJ (DG f (n/10))).size<=4:=by rw[Bp];have:=MG f (n/10);omega
  have j:=Pn f (n/10) (by omega) (by rw[Nat.pow_succ]at h;omega);clear a h hb;go_enter Tryz.func111,Tryz.ntmps111;go_wp2_with(first|(go_at_call 111;refine(j _).mono ?_;rintro e w'⟨rfl,rfl⟩));go_ret;exact⟨Kf (by rw[g.o,<-Ei,<-i.o];rfl),rfl⟩
theorem Po(n:Nat)(h:n<10000)(w:World):Calls Tryz.prog 111 #[.int .i64 n] w fun e w'=>e=.returned (.string (AJ (Bz n)))∧w'=w:=Pn 3 n (AP _) h w
theorem WZ(s:ByteArray)(c:Int)(w:World)(h:s.size<=1048576):Calls Tryz.prog 109 #[.string s,.int .u8 c] w fun e w'=>e=.returned (.bool (hasB s c s.size))∧w'=w:=by
 go_enter Tryz.func109,Tryz.ntmps109;go_wp2
 go_loop [5] (fun i=>∃k:Nat,k<=s.size∧i=.int .i64 k∧Hid (hasB s c k=false)) (fun i=>s.size-(intOf i).toNat)
 case atStart=>exact⟨0,AY _,rfl,rfl⟩
 case round=>
  obtain⟨k,j,rfl,f⟩:=hrel;by_cases hlt:k<s.size
  ·have g:Hid (hasB s c (k+1)=decide ((s[k].toNat:Int)=c)):=by
    show hasB s c (k+1)=decide ((s[k].toNat:Int)=c);rw[Me s c k hlt,f.out,Bool.false_or]
   by_cases a:(s[k].toNat:Int)=c
   ·have b:((s[k].toNat:Int)==c)=true:=by simpa using a
    have d:Hid (hasB s c s.size=true):=Mf s c (k+1) (by rw[g.o];simpa using a);clear a;go_wp2;go_ret;exact⟨by rw[d.o];rfl,rfl⟩
   ·have b:((s[k].toNat:Int)==c)=false:=by simpa using a
    have d:Hid (hasB s c (k+1)=false):=by show hasB s c (k+1)=false;rw[g.o];simpa using a
    clear a;go_wp2
    go_round
    case rel=>exact⟨k+1,by omega,by go_num,d⟩
    case measure=>simp[intOf];omega
  ·have e:k=s.size:=by omega
   subst e;go_wp2;go_ret;exact⟨by rw[f.out];rfl,rfl⟩
theorem Is(L:List UInt8)(u:UInt8)(c:Int)(b:c=(u.toNat:Int))(w:World)(d:L.length<=1048576):Calls Tryz.prog 109 #[.string (AJ L),.int .u8 c] w fun e w'=>e=.returned (.bool (L.contains u))∧w'=w:=by
 subst b;have h:=WZ (AJ L) (u.toNat:Int) w (by rw[Bp];exact d);have e:hasB (AJ L) (u.toNat:Int) (AJ L).size=L.contains u:=by
  unfold hasB;have f:(AJ L).data.toList=L:=by simp[AJ]
  rw[f,Bp,List.take_length,Bool.eq_iff_iff];simp only[List.any_eq_true,EJ,List.contains_iff_mem];constructor
  ·rintro⟨x,a,b⟩;have:x=u:=Fg.1 (by omega);exact this ▸ a
  ·intro a;exact⟨u,a,rfl⟩
 rw[e]at h;exact h
theorem Cz.fo{fo:Bool}{kind:Nat}{l:List Nat}{c:Nat}(h:Cz nds kind l c):Cz (nds.map (Nd.fo fo)) kind l c:=by
 rcases h with h|⟨h,nd,e,a,b⟩
 ·exact AH h
 ·exact AE ⟨h,nd.fo fo,by rw[FV,e];rfl,a,b⟩
theorem Wa{fo:Bool}:∀{x:AD}{l:List Nat},rep nds x l->rep (nds.map (Nd.fo fo)) (x.fo fo) l:=by
 have key:∀{k:Nat}{nd:Nd},nds[k]? =some nd->(nds.map (Nd.fo fo))[k]? =some (nd.fo fo):=fun e=>by rw[FV,e];rfl
 intro x
 induction x with
 |set f=>
  rintro l⟨k,nd,a,b,d,g,o⟩;refine⟨k,_,a,key b,d,g,fun n s=>?_⟩;show Bw fo nd.f n=Bw fo f n;unfold Bw;rw[o n s,o (DR n) (PG s)]
 |grp j x ih=>
  rintro l⟨k,nd,c,lw,a,b,d,g,o,p,q⟩;exact⟨k,_,c,lw,a,key b,d,g,o,ih p,q.fo⟩
 |rep mn mx x ih=>
  rintro l⟨k,nd,c,a,b,d,g,o,p,q⟩;exact⟨k,_,c,a,key b,d,g,o,p,ih q⟩
 |pnil=>intro l h;exact h
 |pcons x r i m=>
  rintro l⟨k,l',a,b,d⟩;exact⟨k,l',a,i b,m d⟩
 |wone x ih=>
  rintro l⟨c,lp,a,b,d⟩;exact⟨c,lp,a,ih b,d.fo⟩
 |wcons x r i m=>
  rintro l⟨c,lp,l',a,⟨b,d⟩,g⟩;exact⟨c,lp,l',a,⟨i b,d.fo⟩,m g⟩
theorem Wb(b:Bool):∀(x:AD)(kd:Kd),shp x kd->shp (x.fo b) kd:=by
 intro x
 induction x with
 |set f=>intro kd h;cases kd<;>first|exact h|exact h.elim
 |grp k x ih=>intro kd h;cases kd<;>first|exact ih _ h|exact h.elim
 |rep mn mx x ih=>intro kd h;cases kd<;>first|exact⟨h.1,h.2.1,h.2.2.1,ih _ h.2.2.2⟩|exact h.elim
 |pnil=>intro kd h;cases kd<;>first|exact h|exact h.elim
 |pcons x r a c=>intro kd h;cases kd<;>first|exact⟨a _ h.1,c _ h.2⟩|exact h.elim
 |wone x ih=>intro kd h;cases kd<;>first|exact ih _ h|exact h.elim
 |wcons x r a c=>intro kd h;cases kd<;>first|exact⟨a _ h.1,c _ h.2⟩|exact h.elim
theorem Wc(b:Bool):∀x:AD,(x.fo b).wn=x.wn:=by
 intro x
 induction x<;>simp_all [AD.fo,AD.wn]
theorem Wd(b:Bool):∀x:AD,x.thn->(x.fo b).thn:=by
 intro x
 induction x with
 |set f=>intro h;exact h
 |grp k x ih=>intro h;exact ih h
 |rep mn mx x ih=>intro h;exact ih h
 |pnil=>intro h;exact h
 |pcons x r a c=>intro h;exact⟨a h.1,c h.2⟩
 |wone x ih=>intro h;exact ih h
 |wcons x r a c=>intro h;exact⟨by rw[Wc];exact h.1,a h.2.1,c h.2.2⟩
theorem We(b:Bool):∀x:AD,(x.fo b).dep=x.dep:=by
 intro x
 induction x<;>simp_all [AD.fo,AD.dep]
theorem KP.fo{p:PS}(h:KP nds p W)(b:Bool):KP (nds.map (Nd.fo b)) p (W.fo b):=
 ⟨Wb b _ _ h.shp,by show(W.x.fo b).sz<1000;rw[Ph];exact h.sz,(MO b _ _).2 h.fair,(MO b _ _).2 h.fair9,Wd b _ h.thn,h.g9,by show(W.x.fo b).dep<=7;rw[We];exact h.dep,h.bg,h.en,h.gr,by
  obtain⟨lw,a,c⟩:=h.rep;exact⟨lw,Wa a,c.fo⟩⟩
theorem Wf(gs:Nat):BN kI.tp gs 0 (some [.grp 0]):=by
 have h:BP kI.tp gs 0=some (.grp 0,2):=by
  unfold BP;rw[AL (by decide),AK (by decide),AK (by decide),AL ⟨by decide,by decide,by show(48:Int)-48<=gs;omega⟩];rfl
 exact .go 0 2 _ (some []) (by decide) h (.fin 2 (by decide))
theorem Wg(s:ByteArray)(i j:Nat)(r:List Int):AJ (BK [.grp 0] s ((i:Int)::(j:Int)::r))=s.extract i j:=by
 have e:BK [.grp 0] s ((i:Int)::(j:Int)::r)=D0 s (i:Int) (j:Int):=by
  have a:(0:Int)<=(i:Int):=by omega
  unfold BK;rw[List.flatMap_cons,List.flatMap_nil,CT];show(if(0:Int)<=(i:Int)then D0 s (i:Int) (j:Int)else[])=_;rw[AL a]
 rw[e];unfold D0;rw[Jm];rfl
theorem CP.det'{x:Bool}{a b:Option (List Int)}(h:CP s W x a)(c:CP s W x b):a=b:=by
 unfold CP at h c;split at h
 ·rename_i d;rw[AL d]at c;exact h.det c
 ·rename_i d;rw[AK d]at c;exact h.det c
theorem Bm.det'{k:AX}{ps:List Part}{a b:List ByteArray}(h:Bm k s W ps a)(c:Bm k s W ps b):a=b:=by
 unfold Bm at h c;split at h
 ·rename_i d;rw[AL d]at c;rw[h,c]
 ·rename_i d;rw[AK d]at c;split at h
  ·rename_i e;rw[AL e]at c;rw[h,c]
  ·rename_i e;rw[AK e]at c;split at h
   ·rename_i f;rw[AL f]at c;obtain⟨sp,g,rfl⟩:=h;obtain⟨j,i,rfl⟩:=c;cases g.det i;rfl
   ·rename_i f;rw[AK f]at c;obtain⟨fs,g,rfl⟩:=h;obtain⟨l,i,rfl⟩:=c;rw[g.det i]
theorem Ct.det'{k:AX}{ps:List Part}{i:Nat}{ls:List ByteArray}{o:List UInt8}{m:Nat}(h:Ct k W ps i ls o m):∀{o':List UInt8}{m':Nat},Ct k W ps i ls o' m'->o=o'∧m=m':=by
 induction h with
 |nil i=>intro o' m' e;cases e;exact⟨rfl,rfl⟩
 |skip i s ls o m ans j f _ ih=>
  intro o' m' e;cases e with
  |skip _ _ _ _ _ _ _ _ l=>exact ih l
  |take _ _ _ _ _ _ d a b=>
   rw[j.det' a]at f;exact absurd f b
 |take i s ls o p m ans j f n q _ ih=>
  intro o' m' e;cases e with
  |skip _ _ _ _ _ d a b=>
   rw[j.det' a]at f;exact absurd b f
  |take _ _ _ x p2 m2 d a b r t l=>
   obtain⟨rfl,rfl⟩:=ih l;refine⟨?_,rfl⟩;cases g:k.c with
   |true=>rw[n g,r g]
   |false=>
    obtain⟨ts,u,rfl⟩:=q g;obtain⟨v,w,rfl⟩:=t g;rw[u.det' w]
theorem Cc.det{l:List ByteArray}{e j:Ending}(h:Cc l s e)(f:Cc l s j):e=j:=by
 cases h with
 |args h=>
  cases f with
  |args=>rfl
  |long=>rfl
  |run _ _ _ _ _ g=>cases h.det g
 |long k W ps h d=>
  cases f with
  |args=>rfl
  |long=>rfl
  |run _ _ _ _ _ _ n b=>
   rcases d with d|⟨a,i,d⟩
   ·omega
   ·have:=b a i;omega
 |run k W ps o m h d g n=>
  cases f with
  |args b=>cases h.det b
  |long _ _ _ _ c=>
   rcases c with c|⟨a,i,c⟩
   ·omega
   ·have:=g a i;omega
  |run _ _ _ _ _ b _ _ c=>
   cases h.det b;obtain⟨rfl,rfl⟩:=n.det' c;rfl
