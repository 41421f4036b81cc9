/-
  DERIVED. The program's Run: what it answers, as a relation; its round up to the finding. Conditions: fewer than 10000 lines, all of them not longer than an input; the variable uint64pow10 holds what it is laid with.
-/
import Derived.Test.YtnfojonmohijpaaGreatDoorJBK
set_option linter.all false
set_option maxRecDepth 100000
set_option maxHeartbeats 8000000
namespace Go.Proofs.YtnfojonmohijpaaGreatDoor
open Go.RowKit
variable{k:AX}{W:Whole}{ps:List Part}{s:ByteArray}
def Hq:=@Tryz.underlying117
inductive Ct (k : AX) (W : Whole) (ps : List Part) : Nat -> List ByteArray -> List UInt8 -> Nat -> Prop
 | nil (i : Nat) : Ct k W ps i [] [] 0
 | skip (i : Nat) (s : ByteArray) (ls : List ByteArray) (o : List UInt8) (m : Nat) (ans : Option (List Int)) : CP s W k.x ans -> ans.isSome = k.v -> Ct k W ps (i + 1) ls o m -> Ct k W ps i (s :: ls) o m
 | take (i : Nat) (s : ByteArray) (ls : List ByteArray) (o p : List UInt8) (m : Nat) (ans : Option (List Int)) : CP s W k.x ans -> ¬ ans.isSome = k.v -> (k.c = true -> p = []) -> (k.c = false -> ∃ ts, Bm k s W ps ts ∧ p = BQ k (i + 1) ts) -> Ct k W ps (i + 1) ls o m -> Ct k W ps i (s :: ls) (p ++ o) (m + 1)
def E6(k:AX)(o:List UInt8)(m:Nat):Ending:=.returned (.tuple #[.string (AJ (o++if k.c=true then Bz m++[10]else[])),.int .i64 (if m=0 then 1 else 0)])
structure Hr (w : World) (k : AX) (W : Whole) (v tv : Value) (ps : List Part) : Prop where
 g9 : W.g <= 9
 nest : W.x.nest ∧ ∀ m, W.x.has m -> 0 < m ∧ m <= W.g
 one : v.oneCell' = true
 sz : W.x.sz <= 1000
 fair : W.x.fair 9
 rep : ∃ S, AT w S .ways W.x [v]
 tpl : CX w tv ps
 tln : ps.length <= 100
 grs : Ii W.g ps
theorem Hr.keep{w w':World}{v tv:Value}(h:Hr w k W v tv ps)(a:AA [] w w'):Hr w' k W v tv ps:=
 ⟨h.g9,h.nest,h.one,h.sz,h.fair,by obtain⟨S,b⟩:=h.rep;exact⟨S,b.keep a (by simp)⟩,h.tpl.keep a (by simp),h.tln,h.grs⟩
theorem Hs(k:AX)(W:Whole)(v tv:Value):(Tryz.prog.info? 117).map (·.size)=some (Av k W v tv).size:=by kernel_rfl
theorem WB{w:World}{g:Nat}{v tv:Value}(h:w.heap[g]? =some (.cells (Av k W v tv) 117 (0,0))):∀t u,[Value.bool W.bg,.bool W.en,v,.int .i64 (W.g:Int)][t]? =some u->w.cell? ⟨g,6+t,none⟩=some u:=by
 intro t u hu;rw[AU h]
 match t,hu with
 |0,hu=>exact hu
 |1,hu=>exact hu
 |2,hu=>exact hu
 |3,hu=>exact hu
theorem GD{B a:Nat}{w w':World}(h:Below B w w')(hle:a<=B):Below a w w':={h with block:=fun j b=>h.block j (BL b hle)}
theorem MI(k:AX)(W:Whole)(v tv:Value):(Tryz.prog.info? 117).map (·.size)=some ([.bool k.c,.bool k.i,.bool k.n,.bool k.o,.bool k.v,.bool k.x,.bool W.bg,.bool W.en,v,.int .i64 (W.g:Int),tv]:List Value).length:=by kernel_rfl
theorem CP.sl{x:Bool}{ans:Option (List Int)}{w:World}{lo:Nat}{r:Value}(h:CP s W x ans)(a:IW w lo r ans)(b:∀m,W.x.has m->0<m∧m<=W.g):∃d f rc,r=.slice d f rc∧(!d.isNone)=ans.isSome:=by
 cases ans with
 |none=>exact⟨none,0,0,a,rfl⟩
 |some l=>
  have k:l≠[]:=by
   unfold CP at h;split at h
   ·obtain⟨_,r,e⟩:=h.sp b;rw[e];simp
   ·obtain⟨_,i,j,r,e,_⟩:=h.sp b;rw[e];simp
  obtain⟨_,g,c,rfl,_⟩:=a.fnd k;exact⟨some ⟨g,0,none⟩,_,c,rfl,rfl⟩
theorem Bm.sz{ts:List ByteArray}(h:Bm k s W ps ts)(c:s.size<=100)(d:ps.length<=100):∀t∈ts,t.size<=10000:=by
 have b:∀sp,(AJ (BK ps s sp)).size<=10000:=fun sp=>by
  rw[Bp];have:=Ka (sp:=sp) c ps;omega
 unfold Bm at h;intro t a;split at h
 ·subst h;simp at a;subst a;omega
 ·split at h
  ·subst h;simp at a
  ·split at h
   ·obtain⟨sp,_,rfl⟩:=h;simp at a;subst a;exact b sp
   ·obtain⟨fs,_,rfl⟩:=h;obtain⟨sp,_,rfl⟩:=List.mem_map.1 a;exact b sp
def DT(ls:List ByteArray):Nat:=(ls.map fun a=>a.size+1).sum
theorem MJ:∀(ls:List ByteArray)(i:Nat),DT (ls.take i)<=DT ls
 |[],i=>by simp[DT]
 |a::ls,0=>by simp[DT]
 |a::ls,i+1=>by
  have:=MJ ls i;unfold DT at*;simp only[H7,D6,List.sum_cons];omega
theorem Pe{ls:List ByteArray}{i:Nat}(h:ls[i]? =some s):DT (ls.take (i+1))=DT (ls.take i)+(s.size+1):=by
 rw[Gj,h];simp[DT]
theorem Bm.len{ts:List ByteArray}(h:Bm k s W ps ts)(a:∀m,W.x.has m->0<m∧m<=W.g):ts.length<=s.size+1:=by
 unfold Bm at h;split at h
 ·subst h;simp
 ·split at h
  ·subst h;simp
  ·split at h
   ·obtain⟨sp,_,rfl⟩:=h;simp
   ·obtain⟨fs,b,rfl⟩:=h;have:=(b.sp a).2.1 (AY _);rw[Ce];omega
theorem CP.mt{x v:Bool}{ans:Option (List Int)}(h:CP s W x ans)(b:v=false)(c:x=true)(a:¬ans.isSome=v):Mt s W.x 0 s.size:=by
 unfold CP at h;rw[AL c]at h;rcases h with⟨rfl,_⟩|⟨h,_⟩
 ·exact absurd b.symm a
 ·exact h
structure Gn (w wr : World) (B b : Nat) (k : AX) (W : Whole) (ps : List Part) (ls : List ByteArray) (i m : Nat) (o : List UInt8) : Prop where
 bd : BD wr B b o
 len : o.length <= DT (ls.take i) * 10006
 mle : m <= i
 ile : i <= ls.length
 below : Below B w wr
 says : ∀ o' m', Ct k W ps i (ls.drop i) o' m' -> Ct k W ps 0 ls (o ++ o') (m + m')
theorem WD(k:AX)(W:Whole)(v tv:Value)(ps:List Part)(ls:List ByteArray)(gl cl:Nat)(w:World)(hC:Hr w k W v tv ps)(hL:Ek w gl ls)(bs:gl<w.heap.size)(aI:ls.length<10000)(a1:DT ls<=2001)(a2:∀a∈ls,a.size<=100)(a3:GT w.heap.size w):Calls Tryz.prog 58 #[.agg (Av k W v tv),.slice (some ⟨gl,0,none⟩) ls.length cl] w fun e w'=>∃o m,Ct k W ps 0 ls o m∧e=E6 k o m∧AA [] w w':=by
 obtain⟨n,hn⟩:=An ls.length;rw[hn]at aI⊢;have f:Hid (ls.length=n∧n<10000∧∀a∈ls,a.size<=100):=⟨hn,aI,a2⟩;have a4:Hid (DT ls<=2001):=a1;have bI:(n:Int)<10000:=by omega
 have h0:((w.alloc (.cells (Av k W v tv) 117)).alloc (.cells #[.pointer none,.slice none 0 0] 133)).heap[w.heap.size]? =some (.cells (Av k W v tv) 117 (0,0)):=C2 w _ _;have ax:(w.alloc (.cells (Av k W v tv) 117)).heap.size=w.heap.size+1:=by simp
 have aJ:AA [] w ((w.alloc (.cells (Av k W v tv) 117)).alloc (.cells #[.pointer none,.slice none 0 0] 133)):=((AG [] w).alloc _).alloc _;have ao:BD ((w.alloc (.cells (Av k W v tv) 117)).alloc (.cells #[.pointer none,.slice none 0 0] 133)) (w.heap.size+1) (w.heap.size+1) []:=by
  rw[<-ax];exact⟨AP _,_,_,AH rfl,AS _ _,FH _ _ _ _,by simp[Value.ownBlock],fun _=>rfl⟩
 obtain⟨l,tn,p,rfl⟩:=A6 hC.tpl;obtain⟨va,vn,vc,rfl⟩:Bk v:=by
  obtain⟨S,hr⟩:=hC.rep;cases hr with
  |ways _ _ _ _ _ ho _=>exact A6 ho
 have bu:Hid (Av k W (.slice va vn vc) (.slice l tn p)=#[.bool k.c,.bool k.i,.bool k.n,.bool k.o,.bool k.v,.bool k.x,.bool W.bg,.bool W.en,.slice va vn vc,.int .i64 (W.g:Int),.slice l tn p]):=rfl;rw[bu.o]at h0 aJ ao⊢;have HC:Hid (Hr w k W (.slice va vn vc) (.slice l tn p) ps):=hC;have bv:Hid (Ek w gl ls):=hL;clear hC hL aI hn a2 ax a1;go_enter Tryz.func58,Tryz.ntmps58;go_upto_region 2 with(fail)
 generalize(w.alloc (.cells #[.bool k.c,.bool k.i,.bool k.n,.bool k.o,.bool k.v,.bool k.x,.bool W.bg,.bool W.en,.slice va vn vc,.int .i64 (W.g:Int),.slice l tn p] 117)).alloc (.cells #[.pointer none,.slice none 0 0] 133)=X at*;obtain⟨g0,e0⟩:=AQ w.heap.size;obtain⟨b,e1⟩:=AQ (w.heap.size+1);rw[<-e1]at ao⊢;rw[<-e0]at h0⊢;have y:Hid (g0<b∧gl<b∧g0=w.heap.size):=⟨by omega,by omega,e0⟩;have a5:Hid (∀Y,Below b X Y->GT b Y):=fun Y hY X' bw=>a3 X' (C6 (C6 (Ed aJ (AP _) (by simp)) (GD hY (by have:=y.o;omega))) (GD bw (by have:=y.o;omega)))
 clear e0 e1 bs a3;go_wp2_with fail;go_loopw [7,13] (fun q7 q wr=>∃(i m:Nat)(o:List UInt8),q=.int .i64 i∧q7=.int .i64 m∧Gn X wr b b k W ps ls i m o) (fun _ q _=>n-(intOf q).toNat)
 case atStart=>exact⟨0,0,[],rfl,rfl,⟨ao,AY _,AP _,AY _,Below.refl _ _,fun o' m' h=>by simpa using h⟩⟩
 case round=>
  clear ao;obtain⟨i,m,o,rfl,rfl,L⟩:=hrel;have HL:Hid (Gn X wr b b k W ps ls i m o):=L;have aK:b<wr.heap.size:=L.bd.lt;have ap:∀g,g<b->wr.heap[g]? =X.heap[g]? :=fun g hg=>L.below.block g hg
  have R:=(ap g0 y.o.1).trans h0;obtain⟨q0,q2,q3,q4,q5,aL⟩:=If R;have T:Below w.heap.size w wr:=C6 (Ed aJ (AP _) (by simp)) (GD L.below (by have:=y.o;omega));have U:AA [] w wr:=AA.ofBel T;have a6:m<=i:=L.mle;have V:=L.len;have aM:i<=n:=by have:=L.ile;have:=f.o;omega
  by_cases hlt:i<n
  rotate_left
  ·have a7:¬(i:Int)<(n:Int):=by omega
   have a8:i=n:=by omega
   have a9:Hid (Ct k W ps 0 ls o m):=by
    show Ct k W ps 0 ls o m;have h:=L.says [] 0 (by rw[List.drop_eq_nil_of_le (by have:=f.o;omega)];exact .nil i);rw[CT,Di]at h;exact h
   have ba:(Hid (m=0)∧((m:Int)==0)=true)∨(Hid (¬m=0)∧((m:Int)==0)=false):=by
    by_cases h:m=0
    ·exact AH ⟨h,by simpa using(by omega:(m:Int)=0)⟩
    ·exact AE ⟨h,by simpa using(by omega:¬(m:Int)=0)⟩
   have aq:=L.bd;have aN:m<10000:=by have:=f.o;omega
   have bx:Hid (o.length<=1000000000):=BG L.len (BG (Nat.mul_le_mul_right 10006 (BG (MJ ls i) a4.o)) (by decide));cases j:k.c
   ·rw[j]at q0;have aO:=LM b b o wr aq;have aP:Hid (∀z,z=(if m=0 then(1:Int)else 0)->Ending.returned (.tuple #[.string (AJ o),.int .i64 z])=E6 k o m):=fun z hz=>by
     unfold E6;rw[AK (by rw[j];decide),CT,hz]
    clear hlt a8 aM V a6 j R ap L q2 q3 q4 q5 aL;rcases ba with⟨HZ,hz⟩|⟨HZ,hz⟩
    all_goals
     go_wp2_with(first|(go_at_call 70;refine aO.mono ?_;rintro e w2⟨rfl,bz⟩));have aQ:AA [] w w2:=AA.ofBel (C6 T (GD bz (by have:=y.o;omega)));go_ret2;exact⟨o,m,a9.o,aP.o _ (by have:=HZ.o;simp[this]),aQ⟩
   ·rw[j]at q0;have hit:=Pd m aN b wr (Dp aK) (a5.o wr L.below);have bA:=Jw m;have bJ:¬9223372036854775807<(AJ (Bz m)).size+1:=by rw[Bp];omega
    have e3:AJ (Bz m++[10])=AJ (Bz m)++⟨#[10]⟩:=by rw[<-Eb];rfl
    have HD:Hid ((Bz m++[10]).length<=5):=by show _<=_;rw[AW];show _+1<=5;omega
    have aP:Hid (∀z,z=(if m=0 then(1:Int)else 0)->Ending.returned (.tuple #[.string (AJ (o++(Bz m++[10]))),.int .i64 z])=E6 k o m):=fun z hz=>by
     unfold E6;rw[AL j,hz]
    clear hlt a8 aM V a6 j R ap L q2 q3 q4 q5 aL bA;go_wp2_with(first|(go_at_call 105;refine hit.mono ?_;rintro e w2⟨rfl,ar⟩));have aR:=JY b b o (Bz m++[10]) w2 (aq.keep ar) bx.o (by have:=HD.o;omega) (by have:=(aq.keep ar).lt;omega);rw[e3]at aR;have ay:=C6 T (GD (Ed ar (Dp aK) (by simp):Below b wr w2) (by have:=y.o;omega));clear hit aq ar;refine aR.mono ?_;rintro e w3⟨⟨ev,rfl⟩,bc,bf,_⟩;have aO:=LM b b _ w3 bc;have bh:=C6 ay (GD bf (by have:=y.o;omega));clear aR ay bf e3;rcases ba with⟨HZ,hz⟩|⟨HZ,hz⟩
    all_goals
     go_wp2_with(first|(go_at_call 70;refine aO.mono ?_;rintro e D⟨rfl,bB⟩));have aQ:AA [] w D:=AA.ofBel (C6 bh (GD bB (by have:=y.o;omega)));go_ret2;exact⟨o,m,a9.o,aP.o _ (by have:=HZ.o;simp[this]),aQ⟩
  have a7:(i:Int)<(n:Int):=by omega
  have bK:(0:Int)<=(i:Int):=by omega
  have Z:Hid (i<n):=hlt;obtain⟨s,hs⟩:∃s,ls[i]? =some s:=⟨_,Ax (by have:=f.o;omega)⟩;have bC:=(bv.o.keep U (by simp)) i s hs;have aa:Hid (ls[i]? =some s∧s.size<=100):=⟨hs,f.o.2.2 s (C8 hs)⟩;have az:=WB R;obtain⟨S,aA⟩:=(HC.o.keep U).rep;have aB:=Ty s (s.size+1) rfl aa.o.2 W (.slice va vn vc) S wr aA HC.o.sz HC.o.fair;have bi:=T0 (.bool W.bg) (.bool W.en) (.slice va vn vc) (.int .i64 (W.g:Int));clear hlt aM V hs aA q0 q2 q3 q4 q5 aL ap L;go_wp2_with(first|(refine LP rfl 70 _ rfl g0 6 rfl [.bool W.bg,.bool W.en,.slice va vn vc,.int .i64 (W.g:Int)] _ az Et rfl bi ?_));refine aB.mono ?_;rintro e D⟨a,c,rfl,hm,hk4⟩;have ad:EH D s W (.slice va vn vc) a c:=⟨aa.o.2,HC.o.g9,HC.o.nest,rfl,⟨_,hm⟩,HC.o.sz⟩;obtain⟨_,ha,hc⟩:=ad.cells;have aS:(D.alloc (.cells #[.bool false,.bool false,.slice none 0 0,.int .i64 0,.string ⟨#[]⟩,.slice none 0 0,.slice none 0 0] 80)).heap[D.heap.size]? =some (.cells #[.bool false,.bool false,.slice none 0 0,.int .i64 0,.string ⟨#[]⟩,.slice none 0 0,.slice none 0 0] 80 (0,0)):=AS D _;have aT:AA [] D ((D.alloc (.cells #[.bool false,.bool false,.slice none 0 0,.int .i64 0,.string ⟨#[]⟩,.slice none 0 0,.slice none 0 0] 80)).setRow D.heap.size #[.bool W.bg,.bool W.en,.slice va vn vc,.int .i64 (W.g:Int),.string s,a,c]):=((AG [] D).alloc _).setRow (AE (AP _)) _;have J:((D.alloc (.cells #[.bool false,.bool false,.slice none 0 0,.int .i64 0,.string ⟨#[]⟩,.slice none 0 0,.slice none 0 0] 80)).setRow D.heap.size #[.bool W.bg,.bool W.en,.slice va vn vc,.int .i64 (W.g:Int),.string s,a,c]).heap[D.heap.size]? =some (.cells #[.bool W.bg,.bool W.en,.slice va vn vc,.int .i64 (W.g:Int),.string s,a,c] 80 (0,0)):=Aa _ _ _ _ _ _ aS;have aC:(#[.bool W.bg,.bool W.en,.slice va vn vc,.int .i64 (W.g:Int),.string s,a,c]:Array Value).all (·.oneCell')=true:=Of rfl rfl rfl rfl rfl ha hc;have M:=hk4.trans aT;have aD:wr.heap.size<=D.heap.size:=hk4.size;unfold Bi;clear aB az bi hk4 hm bC;go_wp2_with(first|(refine Ae rfl 80 _ _ rfl D.heap.size _ rfl rfl _ _ aS (Cq _ _ _ _ _ _ _) rfl aC ?_));have ae:=(M.block g0 (by have:=y.o;omega) (by simp)).trans R;obtain⟨gm,aU⟩:=AQ D.heap.size;have af:=ad.keep aT;rw[<-aU]at J ae M af⊢;generalize(D.alloc (.cells #[.bool false,.bool false,.slice none 0 0,.int .i64 0,.string ⟨#[]⟩,.slice none 0 0,.slice none 0 0] 80)).setRow gm #[.bool W.bg,.bool W.en,.slice va vn vc,.int .i64 (W.g:Int),.string s,a,c]=Y at*;have bL:wr.heap.size<=gm:=by rw[aU];exact aD
  clear aT aS ad aU aC aD;have bj:AA [] wr Y.drew:=M.drewN 1;have d:Y.drew.heap[g0]? =some (.cells #[.bool k.c,.bool k.i,.bool k.n,.bool k.o,.bool k.v,.bool k.x,.bool W.bg,.bool W.en,.slice va vn vc,.int .i64 (W.g:Int),.slice l tn p] 117 (0,0))∧Y.drew.heap[gm]? =some (.cells #[.bool W.bg,.bool W.en,.slice va vn vc,.int .i64 (W.g:Int),.string s,a,c] 80 (0,0)):=⟨ae,J⟩;have ab:EH Y.drew s W (.slice va vn vc) a c:=af.keep ((AG [] Y).drewN 1);refine Cj (S:=fun A=>A.heap[g0]? =some (.cells #[.bool k.c,.bool k.i,.bool k.n,.bool k.o,.bool k.v,.bool k.x,.bool W.bg,.bool W.en,.slice va vn vc,.int .i64 (W.g:Int),.slice l tn p] 117 (0,0))∧A.heap[gm]? =some (.cells #[.bool W.bg,.bool W.en,.slice va vn vc,.int .i64 (W.g:Int),.string s,a,c] 80 (0,0))) (by kernel_rfl) ?_;change wpAnyH _ _ _ _ _ _ _ _ (World.drew _);generalize Y.drew=Y0 at*;clear M ae J af;refine Ak 0 _ (some 22) (.agg #[.bool k.c,.bool k.i,.bool k.n,.bool k.o,.bool k.v,.bool k.x,.bool W.bg,.bool W.en,.slice va vn vc,.int .i64 (W.g:Int),.slice l tn p]) rfl (DN (by rfl) 117 _ rfl g0 0 rfl [.bool k.c,.bool k.i,.bool k.n,.bool k.o,.bool k.v,.bool k.x,.bool W.bg,.bool W.en,.slice va vn vc,.int .i64 (W.g:Int),.slice l tn p] _ (fun X hX=>Iq hX.1) Hq rfl (MI k W _ _)) d ?_;simp only[AM];refine Ak 1 _ (some 23) (.agg #[.bool W.bg,.bool W.en,.slice va vn vc,.int .i64 (W.g:Int),.string s,a,c]) rfl (DN (by rfl) 80 _ rfl gm 0 rfl [.bool W.bg,.bool W.en,.slice va vn vc,.int .i64 (W.g:Int),.string s,a,c] _ (fun X hX=>Iq hX.2) Ck rfl (MF _ _ _ _ _ _ _)) d ?_;simp only[AM];refine AV 4 _ (some 26) (.pointer (some ⟨g0,0,none⟩)) rfl d ?_;simp only[AM];refine AV 5 _ (some 27) (.pointer (some ⟨g0,4,none⟩)) rfl d ?_;simp only[AM];refine Ak 6 _ (some 28) (.bool k.v) rfl (AH ⟨by rfl,fun X hX=>by(obtain⟨_,_,_,q4,_,_⟩:=If (k:=k) (W:=W) (v:=.slice va vn vc) (tv:=.slice l tn p) hX.1;go_simp)⟩) d ?_;simp only[AM];refine A8 2 rfl fun K hK=>?_
  go_simp;refine(UU k (.slice l tn p) rfl s W (.slice va vn vc) a c Y0 ab).mono ?_;rintro e E⟨r,ans,rfl,ag,bk,ah⟩;have F:E.heap[g0]? =some (.cells #[.bool k.c,.bool k.i,.bool k.n,.bool k.o,.bool k.v,.bool k.x,.bool W.bg,.bool W.en,.slice va vn vc,.int .i64 (W.g:Int),.slice l tn p] 117 (0,0))∧E.heap[gm]? =some (.cells #[.bool W.bg,.bool W.en,.slice va vn vc,.int .i64 (W.g:Int),.string s,a,c] 80 (0,0)):=⟨(ah.block g0 (AN.1 d.1).1 (by simp)).trans d.1,(ah.block gm (AN.1 d.2).1 (by simp)).trans d.2⟩;refine hK.out _ _ F (fun _=>?_);clear hK K;obtain⟨ra,rn,rc,rfl,aV⟩:=ag.sl bk HC.o.nest.2;obtain⟨B1,aW⟩:=An ans.isSome;rw[aW]at aV;have bD:∀w:World,(binOp .neq 32 (.slice ra rn rc) (.slice none 0 0)).run Tryz.prog w=.ok (.bool B1) w:=fun w=>by rw[<-aV];exact run_neq_slice_nil (P:=Tryz.prog) w _ _ ra rn rc Fp
  refine AV 3 _ (some 25) (.bool B1) rfl F ?_;simp only[AM];refine AV 7 _ (some 29) (.bool (B1==k.v)) rfl F ?_;simp only[AM];refine CE ?_;have B:=bj.trans ah;have N:=ab.keep ah;have ac:Hid (CP s W k.x ans∧ans.isSome=B1):=⟨ag,aW⟩;clear bD aV d ab ag bk aW bj ah R;have u:=HL.o.bd.keep B;have C:Below b X E:=C6 HL.o.below (Ed B (Dp aK) (by simp));have aX:Hid (ls.drop i=s::ls.drop (i+1)):=by
   show ls.drop i=s::ls.drop (i+1);have h1:i<ls.length:=by have:=f.o;have:=Z.o;omega
   rw[GO h1];have h2:=aa.o.1;rw[Ax h1]at h2;rw[DC h2]
  have bM:(m:Int)<=10000:=by have:=f.o;have:=Z.o;omega
  have bN:(0:Int)<=(m:Int):=by omega
  have ai:o.length<=DT (ls.take (i+1))*10006:=BG HL.o.len (Nat.mul_le_mul_right _ (by rw[Pe aa.o.1];omega));cases G:(B1==k.v)
  rotate_left
  ·have L5:Gn X E b b k W ps ls (i+1) m o:=⟨u,ai,by have:=HL.o.mle;omega,by have:=f.o;have:=Z.o;omega,C,fun o' m' h=>HL.o.says o' m' (by rw[aX.o];exact .skip i s _ o' m' ans ac.o.1 (by rw[ac.o.2];exact beq_iff_eq.1 G) h)⟩;have H:Hid (Gn X E b b k W ps ls (i+1) m o):=L5;clear L5 ai;clear G u C N F B T U;go_wp2_with fail
   first
    |exact⟨⟨i+1,m,o,by go_num,by go_num,H.o⟩,by have:=Z.o;simp[intOf];omega⟩
    |(
     go_roundw
     case rel=>exact⟨i+1,m,o,by go_num,by go_num,H.o⟩
     case measure=>have:=Z.o;simp[intOf];omega)
  have aY:Hid (¬ans.isSome=k.v):=by
   show¬ans.isSome=k.v;rw[ac.o.2];exact fun e=>by rw[e]at G;simp at G
  clear G;obtain⟨p0,p2,p3,p4,p5,bm⟩:=If (k:=k) (W:=W) (v:=.slice va vn vc) (tv:=.slice l tn p) F.1;by_cases j:k.c=true
  ·rw[j]at p0;have L5:Gn X E b b k W ps ls (i+1) (m+1) o:=⟨u,ai,by have:=HL.o.mle;omega,by have:=f.o;have:=Z.o;omega,C,fun o' m' h=>by
    have h2:=HL.o.says ([]++o') (m'+1) (by rw[aX.o];exact .take i s _ o' [] m' ans ac.o.1 aY.o (fun _=>rfl) (fun e=>by rw[j]at e;cases e) h);rw[FN]at h2;rw[show m+1+m'=m+(m'+1) by omega];exact h2⟩
   have H:Hid (Gn X E b b k W ps ls (i+1) (m+1) o):=L5;clear L5 ai;clear j u C N F B T U p2 p3 p4 p5 bm;go_wp2_with fail
   first
    |exact⟨⟨i+1,(m+1),o,by go_num,by go_num,H.o⟩,by have:=Z.o;simp[intOf];omega⟩
    |(
     go_roundw
     case rel=>exact⟨i+1,(m+1),o,by go_num,by go_num,H.o⟩
     case measure=>have:=Z.o;simp[intOf];omega)
  ·have aZ:k.c=false:=by simpa using j
   rw[aZ]at p0;have bE:Hid (k.c=false):=aZ;clear j aZ;have bO:(i:Int)+1<=10000:=by have:=f.o;have:=Z.o;omega
   go_upto_region 10 with(fail)
   obtain⟨i1,aE⟩:=AQ (i+1);have I:Hid (i1=i+1):=aE;have bP:IntKind.i64.wrap ((i:Int)+1)=(i1:Int):=by rw[wrap_small (by omega) (by omega)];omega
   clear p0 p2 p3 p4 p5 bm aE;have ab:EH E.drew s W (.slice va vn vc) a c:=N.keep ((AG [] E).drewN 1);have O:Hr E.drew k W (.slice va vn vc) (.slice l tn p) ps:=HC.o.keep (U.trans (B.drewN 1));have aj:BD E.drew b b o:=u.keep ((AG [] E).drewN 1);have aF:Below b X E.drew:=C6 C (Ed ((AG [] E).drewN 1) (by have:=u.lt;omega) (by simp));have d:E.drew.heap[g0]? =some (.cells #[.bool k.c,.bool k.i,.bool k.n,.bool k.o,.bool k.v,.bool k.x,.bool W.bg,.bool W.en,.slice va vn vc,.int .i64 (W.g:Int),.slice l tn p] 117 (0,0))∧E.drew.heap[gm]? =some (.cells #[.bool W.bg,.bool W.en,.slice va vn vc,.int .i64 (W.g:Int),.string s,a,c] 80 (0,0)):=F;refine Cj (S:=fun A=>A.heap[g0]? =some (.cells #[.bool k.c,.bool k.i,.bool k.n,.bool k.o,.bool k.v,.bool k.x,.bool W.bg,.bool W.en,.slice va vn vc,.int .i64 (W.g:Int),.slice l tn p] 117 (0,0))∧A.heap[gm]? =some (.cells #[.bool W.bg,.bool W.en,.slice va vn vc,.int .i64 (W.g:Int),.string s,a,c] 80 (0,0))) (by kernel_rfl) ?_;change wpAnyH _ _ _ _ _ _ _ _ (World.drew _);generalize E.drew=Y1 at*;clear F N u C B T U;refine Ak 0 _ (some 36) (.agg #[.bool k.c,.bool k.i,.bool k.n,.bool k.o,.bool k.v,.bool k.x,.bool W.bg,.bool W.en,.slice va vn vc,.int .i64 (W.g:Int),.slice l tn p]) rfl (DN (by rfl) 117 _ rfl g0 0 rfl [.bool k.c,.bool k.i,.bool k.n,.bool k.o,.bool k.v,.bool k.x,.bool W.bg,.bool W.en,.slice va vn vc,.int .i64 (W.g:Int),.slice l tn p] _ (fun X hX=>Iq hX.1) Hq rfl (MI k W _ _)) d ?_;simp only[AM];refine AV 1 _ (some 37) (.int .i64 (i:Int)) rfl d ?_;simp only[AM];refine AV 2 _ (some 38) (.int .i64 (i1:Int)) rfl d ?_;simp only[AM];refine Ak 3 _ (some 39) (.agg #[.bool k.c,.bool k.i,.bool k.n,.bool k.o,.bool k.v,.bool k.x,.bool W.bg,.bool W.en,.slice va vn vc,.int .i64 (W.g:Int),.slice l tn p]) rfl (DN (by rfl) 117 _ rfl g0 0 rfl [.bool k.c,.bool k.i,.bool k.n,.bool k.o,.bool k.v,.bool k.x,.bool W.bg,.bool W.en,.slice va vn vc,.int .i64 (W.g:Int),.slice l tn p] _ (fun X hX=>Iq hX.1) Hq rfl (MI k W _ _)) d ?_;simp only[AM];refine AV 4 _ (some 40) (.string s) rfl d ?_;simp only[AM];refine Ak 5 _ (some 41) (.agg #[.bool W.bg,.bool W.en,.slice va vn vc,.int .i64 (W.g:Int),.string s,a,c]) rfl (DN (by rfl) 80 _ rfl gm 0 rfl [.bool W.bg,.bool W.en,.slice va vn vc,.int .i64 (W.g:Int),.string s,a,c] _ (fun X hX=>Iq hX.2) Ck rfl (MF _ _ _ _ _ _ _)) d ?_;simp only[AM];refine A8 6 rfl fun K hK=>?_
   go_simp;refine(V5 k (.slice l tn p) ps s W (.slice va vn vc) a c Y1 ab O.tpl O.tln O.grs (fun _ hv hx=>ac.o.1.mt hv hx aY.o)).mono ?_;rintro e w7⟨r,ts,rfl,au,ak,_,bn,al⟩;have aw:w7.heap[g0]? =some (.cells #[.bool k.c,.bool k.i,.bool k.n,.bool k.o,.bool k.v,.bool k.x,.bool W.bg,.bool W.en,.slice va vn vc,.int .i64 (W.g:Int),.slice l tn p] 117 (0,0))∧w7.heap[gm]? =some (.cells #[.bool W.bg,.bool W.en,.slice va vn vc,.int .i64 (W.g:Int),.string s,a,c] 80 (0,0)):=⟨(al.block g0 (AN.1 d.1).1 (by simp)).trans d.1,(al.block gm (AN.1 d.2).1 (by simp)).trans d.2⟩;obtain⟨bF,bG,bH,rfl⟩:=A6 ak;refine hK.out _ _ aw (fun _=>?_);clear hK K;refine A8 7 rfl fun K hK=>?_
   go_simp;have am:∀t∈ts,t.size<=10000:=au.sz aa.o.2 HC.o.tln;have V:o.length<=900000000:=by
    exact BG HL.o.len (BG (Nat.mul_le_mul_right 10006 (BG (MJ ls i) a4.o)) (by decide))
   have aG:=aj.keep al;have an:Below b X w7:=C6 aF (Ed al (by have:=aj.lt;omega) (by simp));refine(WA k W (.slice va vn vc) (.slice l tn p) rfl rfl b b o i1 (by have:=I.o;have:=Z.o;have:=f.o;omega) (.slice bF bG bH) ts w7 aG (a5.o w7 an) V ak bn am).mono ?_;rintro e w8⟨rfl,aH,Q⟩;have bo:w8.heap[g0]? =some (.cells #[.bool k.c,.bool k.i,.bool k.n,.bool k.o,.bool k.v,.bool k.x,.bool W.bg,.bool W.en,.slice va vn vc,.int .i64 (W.g:Int),.slice l tn p] 117 (0,0))∧w8.heap[gm]? =some (.cells #[.bool W.bg,.bool W.en,.slice va vn vc,.int .i64 (W.g:Int),.string s,a,c] 80 (0,0)):=⟨KM aw.1 (by decide) (by have:=y.o;omega) Q,KM aw.2 (by decide) (by omega) Q⟩;refine hK.out _ _ bo (fun _=>?_);clear hK K;refine CE ?_;have bq:(o++BQ k i1 ts).length<=DT (ls.take i1)*10006:=by
    rw[AW,I.o,Pe aa.o.1,DQ];have h1:=Jx k (i+1) ts am;have h2:ts.length*10006<=(s.size+1)*10006:=Nat.mul_le_mul_right _ (au.len HC.o.nest.2);exact Nat.add_le_add HL.o.len (BG h1 h2)
   have L5:Gn X w8 b b k W ps ls i1 (m+1) (o++BQ k i1 ts):=⟨aH,bq,by have:=HL.o.mle;have:=I.o;omega,by have:=f.o;have:=Z.o;have:=I.o;omega,C6 an Q.below,fun o' m' h=>by
    rw[I.o]at h;have h2:=HL.o.says (BQ k i1 ts++o') (m'+1) (by rw[aX.o];exact .take i s _ o' _ m' ans ac.o.1 aY.o (fun e=>by rw[bE.o]at e;cases e) (fun _=>⟨ts,au,by rw[I.o]⟩) h);rw[show m+1+m'=m+(m'+1) by omega,CS];exact h2⟩
   have H:Hid (Gn X w8 b b k W ps ls i1 (m+1) (o++BQ k i1 ts)):=L5;clear L5 ai bq aH Q bo aw d aG an aj aF O ab au ak bn am V al;go_wp2_with fail
   first
    |exact⟨⟨i1,(m+1),_,rfl,by go_num,H.o⟩,by have:=Z.o;have:=I.o;simp[intOf];omega⟩
    |(
     go_roundw
     case rel=>exact⟨i1,(m+1),_,rfl,by go_num,H.o⟩
     case measure=>have:=Z.o;have:=I.o;simp[intOf];omega)
theorem Pf(a b c d e f:Value):(Tryz.prog.info? 113).map (·.size)=some (#[a,b,c,d,e,f]:Array Value).size:=by kernel_rfl
theorem Gp(a b c d:Value):(Tryz.prog.info? 70).map (·.size)=some (#[a,b,c,d]:Array Value).size:=by kernel_rfl
theorem Ir{a b c d e f g h i j k:Value}(n:a.oneCell'=true)(o:b.oneCell'=true)(p:c.oneCell'=true)(q:d.oneCell'=true)(r:e.oneCell'=true)(s:f.oneCell'=true)(t:g.oneCell'=true)(u:h.oneCell'=true)(v:i.oneCell'=true)(l:j.oneCell'=true)(m:k.oneCell'=true):(#[a,b,c,d,e,f,g,h,i,j,k]:Array Value).all (·.oneCell')=true:=by simp[n,o,p,q,r,s,t,u,v,l,m]
theorem WE(k:AX)(d:k.i=false)(W:Whole)(v tv:Value)(F:v.oneCell'=true)(m:Bk tv)(w:World):Calls Tryz.prog 97 #[.agg #[.bool k.c,.bool k.i,.bool k.n,.bool k.o,.bool k.v,.bool k.x],.agg #[.bool W.bg,.bool W.en,v,.int .i64 (W.g:Int)],tv] w fun e w'=>e=.returned (.agg (Av k W v tv))∧AA [] w w':=by
 obtain⟨a,tn,b,rfl⟩:=m;have p:Hid (k.i=false):=d;clear d
 let A:=(.cells #[.bool k.c,.bool k.i,.bool k.n,.bool k.o,.bool k.v,.bool k.x] 113:Obj)
 let P:=(.cells #[.bool W.bg,.bool W.en,v,.int .i64 (W.g:Int)] 70:Obj)
 let C:=(.cells #[.bool false,.bool false,.bool false,.bool false,.bool false,.bool false,.bool false,.bool false,.slice none 0 0,.int .i64 0,.slice none 0 0] 117:Obj)
 have q:(w.alloc A).heap.size=w.heap.size+1:=by simp
 have r:((w.alloc A).alloc P).heap.size=w.heap.size+1+1:=by simp
 have s:AA [] w (((w.alloc A).alloc P).alloc C):=(((AG [] w).alloc _).alloc _).alloc _;have B:AA [] (w.alloc A) (((w.alloc A).alloc P).alloc C):=((AG [] _).alloc _).alloc _;have D:AA [] ((w.alloc A).alloc P) (((w.alloc A).alloc P).alloc C):=(AG [] _).alloc _;have t:(((w.alloc A).alloc P).alloc C).heap[w.heap.size]? =some (.cells #[.bool k.c,.bool k.i,.bool k.n,.bool k.o,.bool k.v,.bool k.x] 113 (0,0)):=(B.block w.heap.size (by rw[q];omega) (by simp)).trans (AS w A);have E:(((w.alloc A).alloc P).alloc C).heap[w.heap.size+1]? =some (.cells #[.bool W.bg,.bool W.en,v,.int .i64 (W.g:Int)] 70 (0,0)):=(D.block _ (by rw[r];omega) (by simp)).trans (by rw[<-q];exact AS (w.alloc A) P);have u:(((w.alloc A).alloc P).alloc C).heap[w.heap.size+1+1]? =some (.cells #[.bool false,.bool false,.bool false,.bool false,.bool false,.bool false,.bool false,.bool false,.slice none 0 0,.int .i64 0,.slice none 0 0] 117 (0,0)):=by rw[<-r];exact AS _ C
 have c1:(((w.alloc A).alloc P).alloc C).cell? ⟨w.heap.size,1,none⟩=some (.bool false):=by rw[AU t,<-p.o];rfl
 have f:(Av k W v (.slice a tn b)).all (·.oneCell')=true:=Ir rfl rfl rfl rfl rfl rfl rfl rfl F rfl rfl;show Calls Tryz.prog 97 #[.agg #[.bool k.c,.bool k.i,.bool k.n,.bool k.o,.bool k.v,.bool k.x],.agg #[.bool W.bg,.bool W.en,v,.int .i64 (W.g:Int)],.slice a tn b] w _;clear q r B D;go_enter Tryz.func97,Tryz.ntmps97;go_upto_region 1 with(fail)
 change Code.wp _ _ _ _ (((w.alloc A).alloc P).alloc C);generalize((w.alloc A).alloc P).alloc C=X at*;clear A P C;obtain⟨g0,h⟩:=AQ w.heap.size;obtain⟨g1,j⟩:=AQ (w.heap.size+1);obtain⟨g2,l⟩:=AQ (w.heap.size+1+1);rw[<-l]at u⊢;rw[<-j]at E⊢;rw[<-h]at t c1⊢;have y:Hid (w.heap.size<=g2):=by show _<=_;omega
 clear h j l;have z:Hid ((Av k W v (.slice a tn b)).all (·.oneCell')=true):=f;clear f;go_upto_region 3 with(fail)
 go_wp2_with(first|(refine As rfl 113 _ rfl g0 rfl _ _ _ _ t Tryz.underlying113 rfl (Pf _ _ _ _ _ _) ?_)|(refine As rfl 70 _ rfl g1 rfl _ _ _ _ E Et rfl (Gp _ _ _ _) ?_)|(refine Ae rfl 117 _ _ rfl g2 (Av k W v (.slice a tn b)) rfl rfl _ _ u (Hs k W v (.slice a tn b)) rfl z.o ?_));refine Ag (Au rfl _ _ g2 _ _ _ _ rfl (Aa _ _ _ _ _ _ u) Hq rfl (Hs k W v (.slice a tn b))) rfl ?_;exact⟨rfl,s.setRow (AE y.o) _⟩
theorem WG(W:Whole)(v:Value)(S:Nat->Prop)(w:World)(F:W.x.sz<=1000)(t:AT w S .ways W.x [v]):Calls Tryz.prog 155 #[.agg #[.bool W.bg,.bool W.en,v,.int .i64 (W.g:Int)]] w fun e w'=>∃r,e=.returned (.agg #[.bool W.bg,.bool W.en,r,.int .i64 (W.g:Int)])∧Bk r∧AT w' (fun g=>w.heap.size<=g) .ways (W.x.fo true) [r]∧AA [] w w':=by
 obtain⟨va,vn,vc,rfl⟩:=t.wsl;have f:AA [] w ((w.alloc (.cells #[.bool W.bg,.bool W.en,.slice va vn vc,.int .i64 (W.g:Int)] 70)).alloc (.cells #[.bool false,.bool false,.slice none 0 0,.int .i64 0] 70)):=((AG [] w).alloc _).alloc _;have s:((w.alloc (.cells #[.bool W.bg,.bool W.en,.slice va vn vc,.int .i64 (W.g:Int)] 70)).alloc (.cells #[.bool false,.bool false,.slice none 0 0,.int .i64 0] 70)).heap[w.heap.size]? =some (.cells #[.bool W.bg,.bool W.en,.slice va vn vc,.int .i64 (W.g:Int)] 70 (0,0)):=C2 w _ _;have u:((w.alloc (.cells #[.bool W.bg,.bool W.en,.slice va vn vc,.int .i64 (W.g:Int)] 70)).alloc (.cells #[.bool false,.bool false,.slice none 0 0,.int .i64 0] 70)).heap[w.heap.size+1]? =some (.cells #[.bool false,.bool false,.slice none 0 0,.int .i64 0] 70 (0,0)):=Df w _ _;have m:=t.keep f (by simp);clear t;go_enter Tryz.func155,Tryz.ntmps155;go_upto_region 1 with(fail)
 have z:((w.alloc (.cells #[.bool W.bg,.bool W.en,.slice va vn vc,.int .i64 (W.g:Int)] 70)).alloc (.cells #[.bool false,.bool false,.slice none 0 0,.int .i64 0] 70)).heap.size=w.heap.size+2:=by simp
 generalize(w.alloc (.cells #[.bool W.bg,.bool W.en,.slice va vn vc,.int .i64 (W.g:Int)] 70)).alloc (.cells #[.bool false,.bool false,.slice none 0 0,.int .i64 0] 70)=X at*;obtain⟨g0,C⟩:=AQ w.heap.size;obtain⟨g1,D⟩:=AQ (w.heap.size+1);rw[<-D]at u⊢;rw[<-C]at s⊢;have c:Hid (w.heap.size<=g0∧g0<g1∧g1<X.heap.size∧w.heap.size<=X.heap.size):=⟨by omega,by omega,by omega,by omega⟩;have c2:X.cell? ⟨g0,2,none⟩=some (.slice va vn vc):=by rw[AU s];rfl
 clear C D z;have E:=PR 1001 W.x (.slice va vn vc) S X (by omega) F m;go_wp2_with fail;refine E.mono ?_;rintro e w2⟨r,rfl,A,d,a⟩;obtain⟨i,j,rc,rfl⟩:=A;have k:=(a.block g0 (by have:=c.o;omega) (by simp)).trans s;have p:=(a.block g1 (by have:=c.o;omega) (by simp)).trans u;have G:=Ac a c2;have H:w2.frozen? ⟨g0,2,none⟩=false:=by simp[World.frozen?,k]
 have b:AA [g0] w2 (w2.setCell ⟨g0,2,none⟩ (.slice i j rc)):=(AG [g0] w2).setCell (AH (by simp)) _;have B:(w2.setCell ⟨g0,2,none⟩ (.slice i j rc)).heap[g0]? =some (.cells #[.bool W.bg,.bool W.en,.slice i j rc,.int .i64 (W.g:Int)] 70 (0,0)):=by simp[World.setCell,Aq,k]
 have q:=(b.block g1 (by have:=c.o;have:=a.size;omega) (by have:=c.o;simp;omega)).trans p;have l:=d.keep b (fun y I=>by have:=c.o;simp;omega);have hk3:AA [] w (w2.setCell ⟨g0,2,none⟩ (.slice i j rc)):=(f.trans a).setCell (AE c.o.1) _;clear E s u c2 m a k p b d f;go_upto_region 2 with(fail)
 generalize w2.setCell ⟨g0,2,none⟩ (.slice i j rc)=Z at*;have J:=He (x:=W.bg) (y:=W.en) (n:=(W.g:Int)) (v:=.slice i j rc) rfl;go_wp2_with(first|(refine As rfl 70 _ rfl g0 rfl _ _ _ _ B Et rfl (Gp _ _ _ _) ?_)|(refine Ae rfl 70 _ _ rfl g1 _ rfl rfl _ _ q (Gp _ _ _ _) rfl J ?_));refine Ag (Au rfl _ _ g1 _ _ _ _ rfl (Aa _ _ _ _ _ _ q) Et rfl (Gp _ _ _ _)) rfl ?_;have b:AA [g1] Z (Z.setRow g1 #[.bool W.bg,.bool W.en,.slice i j rc,.int .i64 (W.g:Int)]):=(AG [g1] Z).setRow (AH (by simp)) _;exact⟨_,rfl,⟨_,_,_,rfl⟩,(l.keep b (fun y I=>by have:=c.o;simp;omega)).mono fun y h _=>by have:=c.o;omega,hk3.setRow (AE (by have:=c.o;omega)) _⟩
theorem WH(k:AX)(t:k.i=true)(W:Whole)(v tv:Value)(S:Nat->Prop)(h9:W.x.sz<=1000)(L:Bk tv)(w:World)(M:AT w S .ways W.x [v]):Calls Tryz.prog 97 #[.agg #[.bool k.c,.bool k.i,.bool k.n,.bool k.o,.bool k.v,.bool k.x],.agg #[.bool W.bg,.bool W.en,v,.int .i64 (W.g:Int)],tv] w fun e w'=>∃r,e=.returned (.agg (Av k W r tv))∧Bk r∧AT w' (fun g=>w.heap.size<=g) .ways (W.x.fo true) [r]∧AA [] w w':=by
 obtain⟨q,tn,s,rfl⟩:=L;obtain⟨va,vn,vc,rfl⟩:=M.wsl;have N:Hid (k.i=true):=t;clear t
 let A:=(.cells #[.bool k.c,.bool k.i,.bool k.n,.bool k.o,.bool k.v,.bool k.x] 113:Obj)
 let P:=(.cells #[.bool W.bg,.bool W.en,.slice va vn vc,.int .i64 (W.g:Int)] 70:Obj)
 let C:=(.cells #[.bool false,.bool false,.bool false,.bool false,.bool false,.bool false,.bool false,.bool false,.slice none 0 0,.int .i64 0,.slice none 0 0] 117:Obj)
 have O:(w.alloc A).heap.size=w.heap.size+1:=by simp
 have Q:((w.alloc A).alloc P).heap.size=w.heap.size+1+1:=by simp
 have m:AA [] w (((w.alloc A).alloc P).alloc C):=(((AG [] w).alloc _).alloc _).alloc _;have k1:AA [] (w.alloc A) (((w.alloc A).alloc P).alloc C):=((AG [] _).alloc _).alloc _;have k2:AA [] ((w.alloc A).alloc P) (((w.alloc A).alloc P).alloc C):=(AG [] _).alloc _;have J:(((w.alloc A).alloc P).alloc C).heap[w.heap.size]? =some (.cells #[.bool k.c,.bool k.i,.bool k.n,.bool k.o,.bool k.v,.bool k.x] 113 (0,0)):=(k1.block w.heap.size (by rw[O];omega) (by simp)).trans (AS w A);have K:(((w.alloc A).alloc P).alloc C).heap[w.heap.size+1]? =some (.cells #[.bool W.bg,.bool W.en,.slice va vn vc,.int .i64 (W.g:Int)] 70 (0,0)):=(k2.block _ (by rw[Q];omega) (by simp)).trans (by rw[<-O];exact AS (w.alloc A) P);have R:(((w.alloc A).alloc P).alloc C).heap[w.heap.size+1+1]? =some (.cells #[.bool false,.bool false,.bool false,.bool false,.bool false,.bool false,.bool false,.bool false,.slice none 0 0,.int .i64 0,.slice none 0 0] 117 (0,0)):=by rw[<-Q];exact AS _ C
 have c1:(((w.alloc A).alloc P).alloc C).cell? ⟨w.heap.size,1,none⟩=some (.bool true):=by rw[AU J,<-N.o];rfl
 have u:=M.keep m (by simp);show Calls Tryz.prog 97 #[.agg #[.bool k.c,.bool k.i,.bool k.n,.bool k.o,.bool k.v,.bool k.x],.agg #[.bool W.bg,.bool W.en,.slice va vn vc,.int .i64 (W.g:Int)],.slice q tn s] w _;have e3:(((w.alloc A).alloc P).alloc C).heap.size=w.heap.size+3:=by simp
 clear O Q k1 k2 M;go_enter Tryz.func97,Tryz.ntmps97;go_upto_region 1 with(fail)
 change Code.wp _ _ _ _ (((w.alloc A).alloc P).alloc C);generalize((w.alloc A).alloc P).alloc C=X at*;clear A P C;obtain⟨g0,z⟩:=AQ w.heap.size;obtain⟨g1,B⟩:=AQ (w.heap.size+1);obtain⟨g2,D⟩:=AQ (w.heap.size+1+1);rw[<-D]at R⊢;rw[<-B]at K⊢;rw[<-z]at J c1⊢;have d:Hid (w.heap.size<=g0∧g0<g1∧g1<g2∧g2<X.heap.size):=⟨by omega,by omega,by omega,by omega⟩;clear z B D e3;have E:=WG W (.slice va vn vc) S X h9 u;clear u;go_wp2_with(first|(refine As rfl 70 _ rfl g1 rfl _ _ _ _ K Et rfl (Gp _ _ _ _) ?_));refine E.mono ?_;rintro e w2⟨r,rfl,T,l,a⟩;obtain⟨f,j,rc,rfl⟩:=T;have F:=(a.block g0 (by have:=d.o;omega) (by simp)).trans J;have G:=(a.block g1 (by have:=d.o;omega) (by simp)).trans K;have H:=(a.block g2 (by have:=d.o;omega) (by simp)).trans R;have o4:=He (x:=W.bg) (y:=W.en) (n:=(W.g:Int)) (v:=.slice f j rc) rfl;have b:AA [g1] w2 (w2.setRow g1 #[.bool W.bg,.bool W.en,.slice f j rc,.int .i64 (W.g:Int)]):=(AG [g1] w2).setRow (AH (by simp)) _;have U:=(b.block g0 (by have:=d.o;have:=a.size;omega) (by have:=d.o;simp;omega)).trans F;have V:(w2.setRow g1 #[.bool W.bg,.bool W.en,.slice f j rc,.int .i64 (W.g:Int)]).heap[g1]? =some (.cells #[.bool W.bg,.bool W.en,.slice f j rc,.int .i64 (W.g:Int)] 70 (0,0)):=Aa _ _ _ _ _ _ G;have I:=(b.block g2 (by have:=d.o;have:=a.size;omega) (by have:=d.o;simp;omega)).trans H;have p:=l.keep b (fun y hy=>by have:=d.o;simp;omega);have hk3:AA [] w (w2.setRow g1 #[.bool W.bg,.bool W.en,.slice f j rc,.int .i64 (W.g:Int)]):=(m.trans a).setRow (AE (by have:=d.o;omega)) _;have aa:Hid (X.heap.size<=w2.heap.size):=a.size;have Y:Hid ((Av k W (.slice f j rc) (.slice q tn s)).all (·.oneCell')=true):=Ir rfl rfl rfl rfl rfl rfl rfl rfl rfl rfl rfl;clear E J K R c1 a F H b l m;go_upto_region 3 with(first|(refine Ae rfl 70 _ _ rfl g1 _ rfl rfl _ _ G (Gp _ _ _ _) rfl o4 ?_))
 generalize w2.setRow g1 #[.bool W.bg,.bool W.en,.slice f j rc,.int .i64 (W.g:Int)]=Z at*;go_wp2_with(first|(refine As rfl 113 _ rfl g0 rfl _ _ _ _ U Tryz.underlying113 rfl (Pf _ _ _ _ _ _) ?_)|(refine As rfl 70 _ rfl g1 rfl _ _ _ _ V Et rfl (Gp _ _ _ _) ?_)|(refine Ae rfl 117 _ _ rfl g2 (Av k W (.slice f j rc) (.slice q tn s)) rfl rfl _ _ I (Hs k W (.slice f j rc) (.slice q tn s)) rfl Y.o ?_));refine Ag (Au rfl _ _ g2 _ _ _ _ rfl (Aa _ _ _ _ _ _ I) Hq rfl (Hs k W (.slice f j rc) (.slice q tn s))) rfl ?_;have b:AA [g2] Z (Z.setRow g2 (Av k W (.slice f j rc) (.slice q tn s))):=(AG [g2] Z).setRow (AH (by simp)) _;exact⟨_,rfl,⟨_,_,_,rfl⟩,(p.keep b (fun y hy=>by have:=d.o;simp;omega)).mono fun y h _=>by have:=d.o;omega,hk3.setRow (AE (by have:=d.o;omega)) _⟩
def AX.w(k:AX)(W:Whole):Whole:=W.fo k.i
theorem WI(k:AX)(W:Whole)(v tv:Value)(S:Nat->Prop)(m:W.x.sz<=1000)(d:Bk tv)(w:World)(f:AT w S .ways W.x [v]):Calls Tryz.prog 97 #[.agg #[.bool k.c,.bool k.i,.bool k.n,.bool k.o,.bool k.v,.bool k.x],.agg #[.bool W.bg,.bool W.en,v,.int .i64 (W.g:Int)],tv] w fun e w'=>∃r,e=.returned (.agg (Av k (k.w W) r tv))∧Bk r∧AT w' (fun g=>S g∨w.heap.size<=g) .ways (k.w W).x [r]∧AA [] w w':=by
 cases b:k.i with
 |false=>
  have p:v.oneCell'=true:=by obtain⟨a,n,c,rfl⟩:=f.wsl;rfl
  have h:=WE k b W v tv p d w;rw[b]at h;refine h.mono ?_;rintro e w'⟨rfl,j⟩;refine⟨v,rfl,f.wsl,?_,j⟩;have e:(k.w W).x=W.x:=by unfold AX.w Whole.fo;rw[b];exact AD.fo_false _
  rw[e];exact(f.keep j (by simp)).mono fun g h _=>AH h
 |true=>
  have h:=WH k b W v tv S m d w f;rw[b]at h;refine h.mono ?_;rintro e w'⟨r,rfl,q,l,j⟩;refine⟨r,rfl,q,?_,j⟩;have e:(k.w W).x=W.x.fo true:=by unfold AX.w Whole.fo;rw[b]
  rw[e];exact l.mono fun g h _=>AE h
