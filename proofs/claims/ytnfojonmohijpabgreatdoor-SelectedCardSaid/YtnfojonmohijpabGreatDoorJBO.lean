/-
  DERIVED. What is found lies in the line; the stretches of a line, one behind another. Nothing of the program stands here but how a list of numbers lies in memory.
-/
import Derived.Test.YtnfojonmohijpabGreatDoorJOF
import Derived.Test.YtnfojonmohijpabGreatDoorJBA
import Derived.Test.YtnfojonmohijpabGreatDoorJKB
import Derived.Lib.Split
import Derived.Lib.SplitLaws
import Derived.Laws.Strings3
import Derived.Deep.OwnRows
import Derived.Deep.LoopGhost
import Derived.Deep.Light
set_option linter.unusedSimpArgs false
set_option linter.unusedVariables false
namespace Go.Proofs.YtnfojonmohijpabGreatDoor
open Go.RowKit
def Job.holds (k : Nat) : Job → Prop
 | .node x => x.has k
 | .kids x => x.has k
 | .times _ _ x => x.has k
 | .alts _ x => x.has k
theorem TR.bd {s : ByteArray} {J : Job} {i j : Nat} {t : List UInt8} {ev : List (Nat × Nat × Nat)} (h : TR s J i j t ev) : i ≤ j → ∀ e, e ∈ ev → J.holds e.1 ∧ i ≤ e.2.1 ∧ e.2.1 ≤ e.2.2 ∧ e.2.2 ≤ j := by
 induction h with
 | byte => intro _ e he; cases he
 | grp k x i j t ev _ ih =>
  intro hij e he
  rcases List.mem_cons.1 he with rfl | he
  ·exact ⟨Or.inl rfl, Nat.le_refl _, hij, Nat.le_refl _⟩
  ·obtain ⟨h1, h2⟩ := ih hij e he
   exact ⟨Or.inr h1, h2⟩
 | nil => intro _ e he; cases he
 | lone x i j t ev _ ih => intro hij e he; obtain ⟨h1, h2⟩ := ih hij e he; exact ⟨Or.inl h1, h2⟩
 | row x y r i j t ev _ ih => intro hij e he; exact ih hij e he
 | kend => intro _ e he; cases he
 | kgo x r i j c t u ev fv hc _ _ ih1 ih2 =>
  intro hij e he
  have h3 := hc.1
  have h4 := hc.2.1
  rcases List.mem_append.1 he with he | he
  ·obtain ⟨h1, h2, h5, h6⟩ := ih1 h3 e he
   exact ⟨Or.inl h1, h2, h5, by omega⟩
  ·obtain ⟨h1, h2, h5, h6⟩ := ih2 h4 e he
   exact ⟨Or.inr h1, by omega, h5, h6⟩
 | rep mn mx x i j t ev _ ih => intro hij e he; exact ih hij e he
 | tend => intro _ e he; cases he
 | tgo mn mx x i j c t u ev fv _ hc _ _ ih1 ih2 =>
  intro hij e he
  have h3 := hc.1
  have h4 := hc.2.1
  rcases List.mem_append.1 he with he | he
  ·obtain ⟨h1, h2, h5, h6⟩ := ih1 h3 e he
   exact ⟨h1, h2, h5, by omega⟩
  ·obtain ⟨h1, h2, h5, h6⟩ := ih2 h4 e he
   exact ⟨h1, by omega, h5, h6⟩
 | wone x i j t ev _ ih => intro hij e he; exact ih hij e he
 | wcons x r i j t ev _ ih => intro hij e he; exact ih hij e he
 | hit p x r i j t ev _ _ ih => intro hij e he; obtain ⟨h1, h2⟩ := ih hij e he; exact ⟨Or.inl h1, h2⟩
 | miss p x r i j t ev _ _ ih => intro hij e he; obtain ⟨h1, h2⟩ := ih hij e he; exact ⟨Or.inr h1, h2⟩
 | last p x i j t ev _ ih => intro hij e he; exact ih hij e he
def PrOk (n : Nat) (l : List Int) : Prop := ∀ q, 0 ≤ l.getD (2 * q) (-1) → l.getD (2 * q) (-1) ≤ l.getD (2 * q + 1) (-1) ∧ l.getD (2 * q + 1) (-1) ≤ (n : Int)
theorem setD (l : List Int) (k q : Nat) (x : Int) : (l.set k x).getD q (-1) = if k = q ∧ k < l.length then x else l.getD q (-1) := by
 rw [List.getD_eq_getElem?_getD, List.getD_eq_getElem?_getD, List.getElem?_set]
 by_cases h : k = q
 ·subst h
  by_cases h2 : k < l.length
  ·simp [h2]
  ·simp [h2]
 ·simp [h]
theorem evs_ok {n : Nat} : ∀ (ev : List (Nat × Nat × Nat)) (l : List Int), (∀ e, e ∈ ev → 1 ≤ e.1 ∧ e.2.1 ≤ e.2.2 ∧ e.2.2 ≤ n) → l.length % 2 = 0 → PrOk n l → PrOk n (evs l ev)
 | [], l, _, _, h => h
 | (m, i, j) :: ev, l, he, hl, h => by
  obtain ⟨e1, e2, e3⟩ := he (m, i, j) (List.mem_cons_self ..)
  refine evs_ok ev _ (fun e h' => he e (List.mem_cons_of_mem _ h')) (by simp [hl]) ?_
  intro q
  simp only [setD, List.length_set]
  have hq := h q
  simp only at e1 e2 e3
  by_cases c : 2 * m - 2 = 2 * q ∧ 2 * m - 2 < l.length
  ·have c2 : 2 * m - 1 = 2 * q + 1 ∧ 2 * m - 1 < l.length := by omega
   have c3 : ¬ (2 * m - 1 = 2 * q ∧ 2 * m - 1 < l.length) := by omega
   rw [if_neg c3, if_pos c, if_pos c2]
   intro _
   omega
  ·have c2 : ¬ (2 * m - 1 = 2 * q + 1 ∧ 2 * m - 1 < l.length) := by omega
   have c3 : ¬ (2 * m - 1 = 2 * q ∧ 2 * m - 1 < l.length) := by omega
   have c4 : ¬ (2 * m - 2 = 2 * q + 1 ∧ 2 * m - 2 < l.length) := by omega
   rw [if_neg c3, if_neg c, if_neg c2, if_neg c4]
   exact hq
theorem TR.sp {s : ByteArray} {W : Whole} {i j : Nat} {t : List UInt8} {ev : List (Nat × Nat × Nat)} (h : TR s (.node W.x) i j t ev) (hij : i ≤ j) (hj : j ≤ s.size) (hg : ∀ m, W.x.has m → 0 < m ∧ m ≤ W.g) :
    SpOk s ([(i : Int), (j : Int)] ++ evs (List.replicate (2 * W.g) (-1)) ev) W.g := by
 refine ⟨by rw [List.length_append, evs_len, List.length_replicate]; rfl, ?_⟩
 have hP : PrOk s.size (evs (List.replicate (2 * W.g) (-1)) ev) := evs_ok ev _ (fun e he => by
   obtain ⟨h1, h2, h3, h4⟩ := h.bd hij e he
   have := hg _ h1
   exact ⟨by omega, h3, by omega⟩) (by simp) (fun q hq => by
   exfalso
   have : (List.replicate (2 * W.g) (-1 : Int)).getD (2 * q) (-1) = -1 := by
     rw [List.getD_eq_getElem?_getD, List.getElem?_replicate]
     split <;> rfl
   omega)
 intro g _
 cases g with
 | zero =>
  intro _
  show (i : Int) ≤ (j : Int) ∧ (j : Int) ≤ (s.size : Int)
  omega
 | succ g => exact hP g
theorem FindA.sp {s : ByteArray} {W : Whole} {fr : Nat} {l : List Int} (h : FindA s W fr (some l)) (hg : ∀ m, W.x.has m → 0 < m ∧ m ≤ W.g) :
    SpOk s l W.g ∧ ∃ (i j : Nat) (r : List Int), l = (i : Int) :: (j : Int) :: r ∧ fr ≤ i ∧ i ≤ j ∧ j ≤ s.size := by
 rcases h with ⟨h, _⟩ | ⟨i, j, t, ev, hF, hT, h⟩
 ·cases h
 ·cases h
  exact ⟨hT.sp hF.2.1 hF.2.2.1 hg, i, j, _, rfl, hF.1, hF.2.1, hF.2.2.1⟩
theorem WholeA.sp {s : ByteArray} {W : Whole} {l : List Int} (h : WholeA s W (some l)) (hg : ∀ m, W.x.has m → 0 < m ∧ m ≤ W.g) :
    SpOk s l W.g ∧ ∃ r, l = 0 :: (s.size : Int) :: r := by
 rcases h with ⟨h, _⟩ | ⟨t, ev, hT, h⟩
 ·cases h
 ·cases h
  exact ⟨hT.sp (Nat.zero_le _) (Nat.le_refl _) hg, _, rfl⟩
inductive SinA (s : ByteArray) (W : Whole) : Nat → List (List Int) → Prop
 | fin (fr : Nat) : s.size ≤ fr → SinA s W fr []
 | none (fr : Nat) : fr < s.size → FindA s W fr none → SinA s W fr []
 | hit (fr i j : Nat) (r : List Int) (fs : List (List Int)) : fr < s.size → FindA s W fr (some ((i : Int) :: (j : Int) :: r)) → i < j → SinA s W j fs → SinA s W fr (((i : Int) :: (j : Int) :: r) :: fs)
 | empty (fr i j : Nat) (r : List Int) (fs : List (List Int)) : fr < s.size → FindA s W fr (some ((i : Int) :: (j : Int) :: r)) → ¬ i < j → SinA s W (j + 1) fs → SinA s W fr fs
theorem SinA.det {s : ByteArray} {W : Whole} {fr : Nat} {a : List (List Int)} (h : SinA s W fr a) : ∀ {b : List (List Int)}, SinA s W fr b → a = b := by
 induction h with
 | fin fr h =>
  intro b k
  cases k with
  | fin => rfl
  | none _ k => omega
  | hit _ _ _ _ _ k => omega
  | empty _ _ _ _ _ k => omega
 | none fr h h2 =>
  intro b k
  cases k with
  | fin => rfl
  | none => rfl
  | hit _ _ _ _ _ _ k => cases h2.det k
  | empty _ _ _ _ _ _ k => cases h2.det k
 | hit fr i j r fs h h2 h3 _ ih =>
  intro b k
  cases k with
  | fin _ k => omega
  | none _ _ k => cases h2.det k
  | hit _ i' j' r' fs' _ k k2 k3 =>
   have e := h2.det k
   simp only [Option.some.injEq, List.cons.injEq] at e
   obtain ⟨e1, e2, rfl⟩ := e
   have : i = i' := by omega
   have : j = j' := by omega
   subst i'; subst j'
   rw [ih k3]
  | empty _ i' j' r' fs' _ k k2 k3 =>
   have e := h2.det k
   simp only [Option.some.injEq, List.cons.injEq] at e
   omega
 | empty fr i j r fs h h2 h3 _ ih =>
  intro b k
  cases k with
  | fin _ k => omega
  | none _ _ k => cases h2.det k
  | hit _ i' j' r' fs' _ k k2 k3 =>
   have e := h2.det k
   simp only [Option.some.injEq, List.cons.injEq] at e
   omega
  | empty _ i' j' r' fs' _ k k2 k3 =>
   have e := h2.det k
   simp only [Option.some.injEq, List.cons.injEq] at e
   obtain ⟨e1, e2, rfl⟩ := e
   have : j = j' := by omega
   subst j'
   exact ih k3
theorem IW.fnd {w : World} {lo : Nat} {v : Value} {l : List Int} (h : IW w lo v (some l)) (hl : l ≠ []) : Fnd w v l ∧ ∃ g c, v = .slice (some ⟨g, 0, none⟩) l.length c ∧ lo ≤ g := by
 have h' : w.ownsRow lo 3 1 v l.length (spW l) := h
 rcases h'.2 with ⟨_, e⟩ | ⟨g, cap, cur, e, h2, h3⟩
 ·exact absurd (List.length_eq_zero_iff.1 e) hl
 ·subst e
  have hg : ∀ (k : Nat) (z : Int), l[k]? = some z → w.cell? ⟨g, k, none⟩ = some (.int .i64 z) := fun k z hz => by
   have hk := (List.getElem?_eq_some_iff.1 hz).1
   rw [World.ownsRow.cellAt h' k (by omega)]
   simp [spW, hz]
  refine ⟨⟨g, cap, rfl, ?_, hg⟩, g, cap, rfl, h2⟩
  have h0 := hg 0 (l[0]'(List.length_pos_iff.2 hl)) (List.getElem?_eq_getElem _)
  exact World.block_lt_of_cell? _ _ h0
end Go.Proofs.YtnfojonmohijpabGreatDoor
namespace Go.Proofs.YtnfojonmohijpabGreatDoor
open Go.RowKit
structure FsR (w : World) (v : Value) (fs : List (List Int)) : Prop where
 row : ∃ cs, w.ownsRow 0 22 1 v fs.length cs ∧ ∀ (k : Nat) (sp : List Int), fs[k]? = some sp → ∃ g c, cs[k]? = some (.slice (some ⟨g, 0, none⟩) sp.length c) ∧ Fnd w (.slice (some ⟨g, 0, none⟩) sp.length c) sp ∧ v.ownBlock ≠ some g
theorem FsR.keep {w w' : World} {v : Value} {fs : List (List Int)} (h : FsR w v fs) (hk : Keeps [] w w') : FsR w' v fs := by
 obtain ⟨cs, h1, h2⟩ := h.row
 refine ⟨cs, World.ownsRow.keep h1 hk (by simp), fun k sp hs => ?_⟩
 obtain ⟨g, c, a1, a2, a3⟩ := h2 k sp hs
 exact ⟨g, c, a1, a2.keep hk, a3⟩
theorem infoInts : (Tryz.prog.info? 22).map (fun i => (i.zero, i.size, i.bytes)) = some (some (.slice none 0 0), 1, 24) := by kernel_rfl
structure SiL (w wr : World) (b : Nat) (s : ByteArray) (W : Whole) (i : Nat) (v : Value) (fs : List (List Int)) : Prop where
 row : FsR wr v fs
 fresh : ∀ g, v.ownBlock = some g → w.heap.size ≤ g ∧ g ≠ b
 len : fs.length ≤ i
 ile : i ≤ s.size + 1
 keep : Keeps [] w wr
 says : ∀ l, SinA s W i l → SinA s W 0 (fs ++ l)
set_option maxRecDepth 100000 in
set_option maxHeartbeats 4000000 in
theorem stretchesIn_any (s : ByteArray) (W : Whole) (v a c : Value) (w : World) (h : MaI w s W v a c) :
    Calls Tryz.prog 87 #[.string s, .agg (mat W v s a c)] w fun e w' => ∃ r fs, e = .returned r ∧ SinA s W 0 fs ∧ FsR w' r fs ∧ Keeps [] w w' := by
 obtain ⟨i0, hi0, hz0, hz1, hz2⟩ := info_parts infoInts
 have hun := Tryz.underlying170
 have q32 : ∀ (w : World) (a : Option Addr) (n c n' c' : Nat), (binOp .eql 22 (.slice a n c) (.slice none n' c')).run Tryz.prog w = .ok (.bool a.isNone) w := fun w a n c n' c' => Lib.run_eql_slice_nil w _ _ a n c n' c' Tryz.underlying22
 have hs' : (s.size : Int) ≤ 100 := by have := h.len; omega
 have HS : Hid (s.size ≤ 100) := h.len
 have HG : Hid (∀ m, W.x.has m → 0 < m ∧ m ≤ W.g) := h.nest.2
 have HM : Hid (MaI w s W v a c) := h
 have h0 : (w.alloc (.cells (mat W v s a c) 67)).heap[w.heap.size]? = some (.cells (mat W v s a c) 67 (0, 0)) := heap_alloc_new w _
 have hk0 : Keeps [] w (w.alloc (.cells (mat W v s a c) 67)) := (Keeps.refl [] w).alloc _
 have HSR : Hid (∀ (X : World) (fr : Nat), Keeps [] w X → fr ≤ s.size → Calls Tryz.prog 24 #[.agg #[.bool W.bg, .bool W.en, v, .int .i64 (W.g : Int), .string s, a, c], .int .i64 fr] X fun e w' => ∃ r ans, e = .returned r ∧ FindA s W fr ans ∧ IW w' X.heap.size r ans ∧ Keeps [] X w') := fun X fr hk hf => srch_any s W v a c X (HM.out.keep hk) fr hf
 unfold mat at *
 clear h
 go_enter Tryz.func87, Tryz.ntmps87
 go_upto_region 3 with (fail)
 have hX0 : (w.alloc (.cells #[.bool W.bg, .bool W.en, v, .int .i64 (W.g : Int), .string s, a, c] 67)).heap.size = w.heap.size + 1 := by simp
 generalize w.alloc (.cells #[.bool W.bg, .bool W.en, v, .int .i64 (W.g : Int), .string s, a, c] 67) = X at *
 obtain ⟨b, hb⟩ : ∃ b, w.heap.size = b := ⟨_, rfl⟩
 have HB : Hid (w.heap.size = b) := hb
 rw [hb] at h0 ⊢
 have hbX : b < X.heap.size := by omega
 clear hb hX0
 go_loopw [5, 6] (fun q5 q6 wr => ∃ (i : Nat) (fs : List (List Int)), q6 = .int .i64 i ∧ SiL X wr b s W i q5 fs) (fun _ q6 _ => s.size + 1 - (intOf q6).toNat)
 case atStart => exact ⟨0, [], rfl, ⟨⟨[], ⟨rfl, .inl ⟨rfl, rfl⟩⟩, fun k sp hk => by simp at hk⟩, (fun g h => by cases h), Nat.le_refl _, Nat.zero_le _, Keeps.refl _ _, fun l h => h⟩⟩
 case round =>
  obtain ⟨i, fs, rfl, L⟩ := hrel
  obtain ⟨cs, hown, hfs⟩ := L.row.row
  obtain ⟨xa, xn, xc, rfl⟩ := ownsRow_sl hown
  have HL : Hid (SiL X wr b s W i (.slice xa xn xc) fs) := L
  have hgr := (L.keep.block b hbX (by simp)).trans h0
  have hkw := hk0.trans L.keep
  have HI : Hid (i ≤ s.size + 1) := L.ile
  by_cases hlt : i < s.size
  rotate_left
  ·have hlt' : ¬ (i : Int) < (s.size : Int) := by omega
   have HE : Hid (SinA s W 0 fs) := by show SinA s W 0 fs; have := HL.out.says [] (.fin i (by omega)); rw [List.append_nil] at this; exact this
   clear L hlt hown hfs hgr
   go_wp2_with fail
   go_ret
   first | exact ⟨_, fs, rfl, HE.out, HL.out.row, hkw⟩ | exact ⟨_, rfl, fs, HE.out, HL.out.row, hkw⟩
  have hlt' : (i : Int) < (s.size : Int) := by omega
  have HLT : Hid (i < s.size) := hlt
  clear L hlt
  go_wp2_with (first | (refine wpList_load_row rfl 67 _ rfl b rfl _ _ _ _ hgr Tryz.underlying67 rfl (info7 _ _ _ _ _ _ _) ?_))
  refine (HSR.out wr i hkw (by have := HLT.out; omega)).mono ?_
  rintro e w2 ⟨r, ans, rfl, hF, hI, hk2⟩
  cases ans with
  | none =>
   have hr : r = .slice none 0 0 := hI
   subst hr
   have HE : Hid (SinA s W 0 fs) := by show SinA s W 0 fs; have := HL.out.says [] (.none i HLT.out hF); rw [List.append_nil] at this; exact this
   have hrow := HL.out.row.keep hk2
   have hkE := hkw.trans hk2
   clear hF hI hown hfs hgr hk2
   go_wp2_with fail
   go_ret
   first | exact ⟨_, fs, rfl, HE.out, hrow, hkE⟩ | exact ⟨_, rfl, fs, HE.out, hrow, hkE⟩
  | some l =>
   obtain ⟨_, ix, jx, rr, hl, hf1, hf2, hf3⟩ := hF.sp HG.out
   obtain ⟨hfn, g, cg, rfl, hlo⟩ := hI.fnd (by rw [hl]; simp)
   obtain ⟨_, _, he, hglt, hcel⟩ := hfn.sl
   cases he
   have cc0 := hcel 0 ix (by rw [hl]; rfl)
   have cc1 := hcel 1 jx (by rw [hl]; rfl)
   have hkX2 : Keeps [] X w2 := HL.out.keep.trans hk2
   obtain ⟨ln, hln⟩ : ∃ ln, l.length = ln := ⟨_, rfl⟩
   have HLN : Hid (l.length = ln) := hln
   have hl2 : (1 : Int) < (ln : Int) := by rw [← hln, hl]; simp; omega
   have hl3 : (0 : Int) < (ln : Int) := by omega
   have HLL : Hid (l = (ix : Int) :: (jx : Int) :: rr) := hl
   have HF : Hid (FindA s W i (some l)) := hF
   have HXY : Hid (i ≤ ix ∧ ix ≤ jx ∧ jx ≤ s.size) := ⟨hf1, hf2, hf3⟩
   have hj1 : (jx : Int) ≤ 100 := by omega
   have hj0 : (0 : Int) ≤ (jx : Int) := by omega
   rw [hln] at hfn ⊢
   have hown2 := World.ownsRow.keep hown hk2 (by simp)
   have hfs2 : ∀ (k : Nat) (sp : List Int), fs[k]? = some sp → ∃ g c, cs[k]? = some (.slice (some ⟨g, 0, none⟩) sp.length c) ∧ Fnd w2 (.slice (some ⟨g, 0, none⟩) sp.length c) sp ∧ (Value.slice xa xn xc).ownBlock ≠ some g := fun k sp hs => by
    obtain ⟨g, c, a1, a2, a3⟩ := hfs k sp hs
    exact ⟨g, c, a1, a2.keep hk2, a3⟩
   clear hF hI hl hcel hln hgr hf1 hf2 hf3 hkw hown hfs
   go_upto_region 6 with (fail)
   go_quiet (fail)
   have hkD : Keeps [] w2 (w2.drewN nq) := (Keeps.refl [] w2).drewN nq
   have hk3 := hk2.trans hkD
   have hkX3 := hkX2.trans hkD
   have hfn3 := hfn.keep hkD
   have hglt3 : g < (w2.drewN nq).heap.size := Nat.lt_of_lt_of_le hglt hkD.size
   have hown3 := World.ownsRow.keep hown2 hkD (by simp)
   have hfs3 : ∀ (k : Nat) (sp : List Int), fs[k]? = some sp → ∃ g c, cs[k]? = some (.slice (some ⟨g, 0, none⟩) sp.length c) ∧ Fnd (w2.drewN nq) (.slice (some ⟨g, 0, none⟩) sp.length c) sp ∧ (Value.slice xa xn xc).ownBlock ≠ some g := fun k sp hs => by
    obtain ⟨g, c, a1, a2, a3⟩ := hfs2 k sp hs
    exact ⟨g, c, a1, a2.keep hkD, a3⟩
   generalize w2.drewN nq = Y at *
   clear hkD hk2 hkX2 hfn hown2 hfs2 cc0 cc1 hglt
   by_cases hij : ix < jx
   ·have hij' : (ix : Int) < (jx : Int) := by omega
    have HIJ : Hid (ix < jx) := hij
    have hpl := HL.out.len
    obtain ⟨n, hn⟩ : ∃ n, fs.length = n := ⟨_, rfl⟩
    rw [hn] at hown3 hpl
    have HNL : Hid (fs.length = n ∧ n ≤ i) := ⟨hn, hpl⟩
    have hlm : n + 1 ≤ maxLen := by unfold maxLen; have := HLT.out; have := HS.out; omega
    have hbt : (n + 1) * 24 ≤ 140737488355328 := by have := HLT.out; have := HS.out; omega
    have hH : (Y.alloc (.cells #[.slice (some ⟨g, 0, none⟩) ln cg] 22)).heap.size = Y.heap.size + 1 := by simp
    have hnews : ∀ q x, ([.slice (some ⟨g, 0, none⟩) ln cg] : List Value)[q]? = some x → (Y.alloc (.cells #[.slice (some ⟨g, 0, none⟩) ln cg] 22)).cell? ((⟨Y.heap.size, 0, none⟩ : Addr).add q) = some x := World.news_of_block (cs := #[.slice (some ⟨g, 0, none⟩) ln cg]) (heap_alloc_new Y _)
    have h1c : ∀ x ∈ ([.slice (some ⟨g, 0, none⟩) ln cg] : List Value), x.oneCell' = true := by simp [Value.oneCell']
    have HFS3 : Hid (∀ (k : Nat) (sp : List Int), fs[k]? = some sp → ∃ g c, cs[k]? = some (.slice (some ⟨g, 0, none⟩) sp.length c) ∧ Fnd Y (.slice (some ⟨g, 0, none⟩) sp.length c) sp ∧ (Value.slice xa xn xc).ownBlock ≠ some g) := hfs3
    clear hij hn hpl hfs3
    go_wp2_with (first | (at_builtin; refine wpList_append_lies _ rfl _ _ _ rfl 0 22 i0 _ 1 24 hun hi0 hz0 hz1 hz2 rfl (by decide) (.slice xa xn xc) n _ rfl (hown3.alloc _) ⟨Y.heap.size, 0, none⟩ 1 1 [.slice (some ⟨g, 0, none⟩) ln cg] rfl rfl hnews h1c (by omega) hlm hbt (Nat.zero_le _) (Y.heap.size + 1) hH ?_))
    intro g' cap w5 hown5 hgrow hat hlt5
    have hk5 : Keeps (Value.slice xa xn xc).ownBlock.toList Y w5 := ((Keeps.refl _ Y).alloc _).trans (Keeps.ofGrown hgrow)
    have hfr := HL.out.fresh
    have hg4 : (Value.slice xa xn xc).ownBlock = some g' ∨ Y.heap.size ≤ g' := hat.imp id fun h => by omega
    have hold : ∀ x, (Value.slice xa xn xc).ownBlock = some x → x < wr.heap.size := fun x hx => by
     obtain ⟨cs', ho, _⟩ := HL.out.row.row
     exact (World.ownsRow.lt ho x hx).2
    have hcl : cs.length = n := by have := hown3.1; omega
    have hmv : ∀ (gk ck : Nat) (sp : List Int), Fnd Y (.slice (some ⟨gk, 0, none⟩) sp.length ck) sp → (Value.slice xa xn xc).ownBlock ≠ some gk → Fnd w5 (.slice (some ⟨gk, 0, none⟩) sp.length ck) sp ∧ (Value.slice (some ⟨g', 0, none⟩) (n + 1) cap).ownBlock ≠ some gk := fun gk ck sp hF hne => by
     obtain ⟨_, _, he, hl1, hl2⟩ := hF.sl
     cases he
     refine ⟨⟨gk, ck, rfl, Nat.lt_of_lt_of_le hl1 hk5.size, fun k z hz => (World.cell?_of_block (hk5.block gk hl1 (by rw [Option.mem_toList]; exact hne))).trans (hl2 k z hz)⟩, fun e => ?_⟩
     have e' : g' = gk := Option.some.inj e
     rcases hg4 with h | h
     ·exact hne (by rw [h, e'])
     ·omega
    have L5 : SiL X w5 b s W jx (.slice (some ⟨g', 0, none⟩) (n + 1) cap) (fs ++ [l]) := by
     refine ⟨⟨_, by rw [List.length_append, HNL.out.1]; exact hown5, ?_⟩, ?_, ?_, ?_, ?_, ?_⟩
     ·intro k sp hk
      rw [List.getElem?_append] at hk
      split at hk
      ·rename_i hkl
       obtain ⟨gk, ck, a1, a2, a3⟩ := HFS3.out k sp hk
       obtain ⟨m1, m2⟩ := hmv gk ck sp a2 a3
       exact ⟨gk, ck, by rw [List.getElem?_append_left (by have := HNL.out; omega)]; exact a1, m1, m2⟩
      ·rename_i hkl
       have hk0 : k - fs.length = 0 := by
        rcases Nat.eq_zero_or_pos (k - fs.length) with h | h
        ·exact h
        ·rw [List.getElem?_eq_none (by simp; omega)] at hk; cases hk
       rw [hk0] at hk
       cases hk
       have hkn : k = n := by have := HNL.out; omega
       rw [← HLN.out] at hfn3
       obtain ⟨m1, m2⟩ := hmv g cg l hfn3 (fun e => by have := hold g e; omega)
       refine ⟨g, cg, ?_, m1, m2⟩
       rw [List.getElem?_append_right (by omega), hcl, hkn, Nat.sub_self, HLN.out]
       rfl
     ·intro y hy
      cases hy
      rcases hg4 with h | h
      ·exact hfr _ h
      ·have := hkX3.size
       exact ⟨by show X.heap.size ≤ g'; omega, by show g' ≠ b; omega⟩
     ·rw [List.length_append, HNL.out.1]
      have := HNL.out.2
      have := HXY.out
      have := HIJ.out
      simp
      omega
     ·have := HXY.out; omega
     ·exact hkX3.fresh hk5 (by
        intro y hy
        rw [Option.mem_toList] at hy
        exact Or.inr (hfr y hy).1)
     ·intro q hq
      have h := HL.out.says _ (.hit i ix jx rr q HLT.out (by rw [← HLL.out]; exact HF.out) HIJ.out hq)
      rw [List.append_assoc]
      rw [← HLL.out] at h
      exact h
    have HL5 : Hid (SiL X w5 b s W jx (.slice (some ⟨g', 0, none⟩) (n + 1) cap) (fs ++ [l])) := L5
    clear hown5 hgrow hnews hH h1c hk5 hown3 hat hg4 L5 hlt5 hfr hold hcl hmv
    go_wp2_with fail
    first
     | exact ⟨⟨jx, _, rfl, HL5.out⟩, by have := HXY.out; have := HIJ.out; have := HLT.out; simp [intOf]; omega⟩
     | (go_roundw
        case rel => exact ⟨jx, _, rfl, HL5.out⟩
        case measure => have := HXY.out; have := HIJ.out; have := HLT.out; simp [intOf]; omega)
   ·have hij' : ¬ (ix : Int) < (jx : Int) := by omega
    have HIJ : Hid (¬ ix < jx) := hij
    have L5 : SiL X Y b s W (jx + 1) (.slice xa xn xc) fs := ⟨HL.out.row.keep hk3, HL.out.fresh, by have := HL.out.len; have := HXY.out; omega, by have := HXY.out; omega, hkX3, fun l' h' => HL.out.says l' (.empty i ix jx rr l' HLT.out (by rw [← HLL.out]; exact HF.out) HIJ.out h')⟩
    have HL5 : Hid (SiL X Y b s W (jx + 1) (.slice xa xn xc) fs) := L5
    clear hij L5 hown3 hfs3
    go_wp2_with fail
    first
     | exact ⟨⟨jx + 1, fs, by go_num, HL5.out⟩, by have := HXY.out; have := HLT.out; simp [intOf]; omega⟩
     | (go_roundw
        case rel => exact ⟨jx + 1, fs, by go_num, HL5.out⟩
        case measure => have := HXY.out; have := HLT.out; simp [intOf]; omega)
end Go.Proofs.YtnfojonmohijpabGreatDoor
namespace Go.Proofs.YtnfojonmohijpabGreatDoor
open Go.RowKit
def nlS : ByteArray := ⟨#[10]⟩
theorem strEqB (a b : ByteArray) : (a.toList == b.toList) = decide (a = b) := by
 rw [ByteArray.toList_eq, ByteArray.toList_eq]
 by_cases h : a = b
 ·subst h; simp
 ·have h2 : ¬ a.data = b.data := fun e => h (ByteArray.ext e)
  simp [h, h2]
theorem nlEq (s : ByteArray) : (([10] : List UInt8) == s.toList) = decide (s = nlS) := by
 rw [show ([10] : List UInt8) = nlS.toList by rw [ByteArray.toList_eq]; rfl, strEqB]
 by_cases h : s = nlS
 ·rw [decide_eq_true h, decide_eq_true h.symm]
 ·rw [decide_eq_false h, decide_eq_false (fun e => h e.symm)]
set_option maxHeartbeats 1000000 in
set_option maxRecDepth 100000 in
theorem liteIndex_nl (s : ByteArray) (w : World) : Calls Tryz.prog 122 #[.string s, .string ⟨#[10]⟩] w fun e w' => e = .returned (.int .i64 (Lib.indexByte s.data.toList 10)) ∧ w' = w := by
 have hle := lite_any s 10 w
 have hse := nlEq s
 by_cases h : s = nlS
 ·rw [decide_eq_true h] at hse
  have HI : Hid (Lib.indexByte s.data.toList 10 = 0) := by show Lib.indexByte s.data.toList 10 = 0; rw [h]; rfl
  clear h hle
  go_enter Tryz.func122, Tryz.ntmps122
  go_wp2_with fail
  go_ret
  exact ⟨by rw [HI.out]; rfl, rfl⟩
 ·rw [decide_eq_false h] at hse
  clear h
  go_enter Tryz.func122, Tryz.ntmps122
  go_wp2_with (first | (go_at_call 150; refine hle.mono ?_; rintro e w1 ⟨rfl, rfl⟩))
  go_ret
  exact ⟨rfl, rfl⟩
set_option maxHeartbeats 1000000 in
theorem index_nl (s : ByteArray) (w : World) : Calls Tryz.prog 96 #[.string s, .string ⟨#[10]⟩] w fun e w' => e = .returned (.int .i64 (Lib.indexB s nlS)) ∧ w' = w := by
 have hle := liteIndex_nl s w
 rw [← Lib.index_one] at hle
 go_enter Tryz.func96, Tryz.ntmps96
 go_wp2_with fail
 refine hle.mono ?_
 rintro e w1 ⟨rfl, rfl⟩
 go_wp2_with fail
 go_ret
 exact ⟨rfl, rfl⟩
theorem infoStrJ : (Tryz.prog.info? 9).map (fun i => (i.zero, i.size, i.bytes)) = some (some (.string ByteArray.empty), 1, 16) := by kernel_rfl
set_option maxHeartbeats 4000000 in
set_option maxRecDepth 1000000 in
theorem genSplit_nl (s : ByteArray) (w : World) (hs : s.size ≤ 2000) :
    Calls Tryz.prog 83 #[.string s, .string ⟨#[10]⟩, .int .i64 0, .int .i64 (-1)] w fun e w' =>
     e = .returned (.slice (some ⟨w.heap.size, 0, none⟩) (Lib.countB s nlS + 1) (Lib.countB s nlS + 1)) ∧ w' = w.alloc (.cells ((Lib.splitB nlS 0 (Lib.countB s nlS) s).map Value.string).toArray 9) := by
 have h1 : 1 ≤ nlS.size := by decide
 have hlen := Lib.splitB_all nlS h1 0 _ s rfl
 have hle := Lib.countB_le nlS h1 s.size s (Nat.le_refl _)
 have hC := count_any s 10 w
 rw [show Lib.countByte s.data.toList 10 = Lib.countB s nlS from (Lib.count_one 10 s.data.toList).symm] at hC
 obtain ⟨cn, hcn⟩ : ∃ cn : Nat, Lib.countB s nlS = cn := ⟨_, rfl⟩
 rw [hcn] at hC hlen hle ⊢
 clear hcn
 obtain ⟨N, hN⟩ : ∃ N, N = cn + 1 := ⟨_, rfl⟩
 have eN' : min ((cn : Int) + 1) ((s.size : Int) + 1) = (N : Int) := by omega
 have hNs : (N : Int) ≤ (s.size : Int) + 1 := by omega
 have hN1 : (1 : Int) ≤ (N : Int) := by omega
 have hN2 : (N : Int) ≤ 2001 := by omega
 have HN : Hid (N = cn + 1) := hN
 rw [← hN]
 have hfull : Lib.cellsOf (Lib.splitB nlS 0 cn s) N = ((Lib.splitB nlS 0 cn s).map Value.string).toArray := by rw [hN, ← hlen]; exact Lib.cellsOf_full _
 rw [← hfull]
 have HLEN : Hid ((Lib.splitB nlS 0 cn s).length = N) := by show (Lib.splitB nlS 0 cn s).length = N; omega
 have hc1 : (cn : Int) + 1 ≤ 9223372036854775807 := by omega
 have hse : (⟨#[10]⟩ : ByteArray).toList.isEmpty = false := by rw [ByteArray.toList_eq]; rfl
 have hmk := run_make_row' (P := Tryz.prog) 26 9 (.string ByteArray.empty) 16 Tryz.underlying26 infoStrJ rfl .i64 .i64 N (by omega) (by omega)
 rw [show (N : Int) = (cn : Int) + 1 by omega] at hmk
 have hsI : (s.size : Int) ≤ 2000 := by omega
 have hcs : (cn : Int) ≤ (s.size : Int) := by omega
 have hm1 : min (cn : Int) (s.size : Int) = (cn : Int) := by omega
 clear hfull hN hlen hle eN' hNs hN1 hN2
 go_enter Tryz.func83, Tryz.ntmps83
 go_wp2_with (first | (go_at_call 60; refine hC.mono ?_; rintro e w' ⟨rfl, hw⟩; rw [hw]; clear hw))
 clear hmk hC
 go_loopw [0, 10] (fun s0 s10 wr => ∃ (done : List ByteArray) (rest : ByteArray), s0 = .string rest ∧ s10 = .int .i64 done.length ∧ done.length ≤ cn ∧ rest.size ≤ s.size ∧ wr = w.alloc (.cells (Lib.cellsOf done N) 9) ∧ Hid (done ++ Lib.splitB nlS 0 (cn - done.length) rest = Lib.splitB nlS 0 cn s)) (fun _ q _ => cn - (intOf q).toNat)
 case atStart => exact ⟨[], s, rfl, rfl, Nat.zero_le _, Nat.le_refl _, by rw [Lib.cellsOf_nil], rfl⟩
 case round =>
  obtain ⟨done, rest, rfl, rfl, hd, hrs, rfl, HS⟩ := hrel
  have hnext : (Lib.cellsOf done N)[done.length]? = some (.string ByteArray.empty) := Lib.cellsOf_next (by have := HN.out; omega)
  have hI := index_nl rest (w.alloc (.cells (Lib.cellsOf done N) 9))
  have hd0 : (0 : Int) ≤ (done.length : Int) := by omega
  have hdN : (done.length : Int) < (N : Int) := by have := HN.out; omega
  obtain ⟨m, hm⟩ : ∃ m, done.length = m := ⟨_, rfl⟩
  have HM : Hid (done.length = m) := hm
  rw [hm] at hd hnext hd0 hdN ⊢
  have hcell : (w.alloc (.cells (Lib.cellsOf done N) 9)).cell? ⟨w.heap.size, m, none⟩ = some (.string ByteArray.empty) := by
   rw [Lib.cell_of_heap (heap_alloc_new w _)]; exact hnext
  have hfrz : (w.alloc (.cells (Lib.cellsOf done N) 9)).frozen? ⟨w.heap.size, m, none⟩ = false := by simp
  have FIN : Hid (Lib.splitB nlS 0 (cn - m) rest = [rest] → m + 1 = N ∧ (Lib.cellsOf done N).setIfInBounds m (.string rest) = Lib.cellsOf (Lib.splitB nlS 0 cn s) N) := fun h => by
   have e := HS.out
   rw [HM.out, h] at e
   have hl := HLEN.out
   rw [← e, List.length_append, HM.out] at hl
   rw [← e, ← HM.out]
   exact ⟨by rw [HM.out]; exact hl, Lib.cellsOf_set (by have := HM.out; have := HN.out; omega) rest⟩
  have hm1 : (m : Int) + 1 ≤ 9223372036854775807 := by omega
  have hmN1 : (m : Int) + 1 ≤ (N : Int) := by omega
  have hm10 : (0 : Int) ≤ (m : Int) + 1 := by omega
  by_cases hlt : m < cn
  ·have hltz : (m : Int) < (cn : Int) := by omega
   have HLT : Hid (m < cn) := hlt
   rcases Lib.indexB_cases rest nlS with hix | ⟨i, hix, hroom⟩
   ·rw [hix] at hI
    obtain ⟨f1, f2⟩ := FIN.out (Lib.splitB_miss nlS 0 _ rest hix)
    have HF : Hid (m + 1 = N) := f1
    clear hlt hix f1 hrs hm
    go_wp2_with (first | (go_at_call 96; refine hI.mono ?_; rintro e w' ⟨rfl, hw⟩; rw [hw]; clear hw))
    go_ret
    exact ⟨congrArg (fun z => Ending.returned (Value.slice (some ⟨w.heap.size, 0, none⟩) z N)) HF.out, rfl⟩
   ·rw [hix] at hI
    have hr1 : i + 1 ≤ rest.size := hroom
    have c0 : ¬ ((i : Int) < 0) := by omega
    have c1 : (i : Int) ≤ (rest.size : Int) := by omega
    have c4 : (i : Int) + 1 ≤ (rest.size : Int) := by omega
    have c5 : (rest.size : Int) ≤ 2000 := by omega
    have c6 : (0 : Int) ≤ (i : Int) + 1 := by omega
    have c7 : (i : Int) ≤ 2000 := by omega
    have c8 : (0 : Int) ≤ (i : Int) := by omega
    have c9 : decide ((i : Int) < 0) = false := by simp
    have hm2 : (m : Int) ≤ 2000 := by omega
    have HST : Hid ((done ++ [rest.extract 0 i]) ++ Lib.splitB nlS 0 (cn - (m + 1)) (rest.extract (i + 1) rest.size) = Lib.splitB nlS 0 cn s) := by
     show (done ++ [rest.extract 0 i]) ++ Lib.splitB nlS 0 (cn - (m + 1)) (rest.extract (i + 1) rest.size) = Lib.splitB nlS 0 cn s
     rw [← HS.out, HM.out, show cn - m = (cn - (m + 1)) + 1 by omega, Lib.splitB_hit nlS 0 _ rest i hix, List.append_assoc]
     rfl
    have HCS : Hid ((Lib.cellsOf done N).setIfInBounds m (.string (rest.extract 0 i)) = Lib.cellsOf (done ++ [rest.extract 0 i]) N) := by
     show (Lib.cellsOf done N).setIfInBounds m (.string (rest.extract 0 i)) = _
     rw [← HM.out]
     exact Lib.cellsOf_set (by have := HM.out; have := HN.out; omega) _
    have HRS : Hid ((rest.extract (i + 1) rest.size).size ≤ s.size) := by show _ ≤ _; rw [ByteArray.size_extract]; omega
    clear hlt hix hrs hm hr1 hroom FIN
    go_wp2_with (first | (go_at_call 96; refine hI.mono ?_; rintro e w' ⟨rfl, hw⟩; rw [hw]; clear hw))
    go_roundw
    case rel =>
     have hl1 : (done ++ [rest.extract 0 i]).length = m + 1 := by rw [List.length_append, HM.out]; rfl
     refine ⟨done ++ [rest.extract 0 i], rest.extract (i + 1) rest.size, rfl, by rw [hl1]; rfl, by rw [hl1]; exact HLT.out, HRS.out, by rw [HCS.out], ?_⟩
     rw [hl1]
     exact HST
    case measure => have := HLT.out; simp [intOf]; omega
  ·have hltz : ¬ (m : Int) < (cn : Int) := by omega
   obtain ⟨f1, f2⟩ := FIN.out (by rw [show cn - m = 0 by omega]; rfl)
   have HF : Hid (m + 1 = N) := f1
   clear hlt hrs hm f1 hI
   go_wp2_with fail
   go_ret
   exact ⟨congrArg (fun z => Ending.returned (Value.slice (some ⟨w.heap.size, 0, none⟩) z N)) HF.out, rfl⟩
set_option maxHeartbeats 1000000 in
theorem split_nl (s : ByteArray) (w : World) (hs : s.size ≤ 2000) :
    Calls Tryz.prog 44 #[.string s, .string ⟨#[10]⟩] w fun e w' =>
     e = .returned (.slice (some ⟨w.heap.size, 0, none⟩) (Lib.countB s nlS + 1) (Lib.countB s nlS + 1)) ∧ w' = w.alloc (.cells ((Lib.splitB nlS 0 (Lib.countB s nlS) s).map Value.string).toArray 9) := by
 have hg := genSplit_nl s w hs
 go_enter Tryz.func44, Tryz.ntmps44
 go_wp2_with fail
 refine hg.mono ?_
 rintro e w1 ⟨rfl, hw⟩
 have HW : Hid (w1 = w.alloc (.cells ((Lib.splitB nlS 0 (Lib.countB s nlS) s).map Value.string).toArray 9)) := hw
 clear hw
 go_wp2_with fail
 go_ret
 exact ⟨rfl, HW.out⟩
def linesF : List UInt8 → List (List UInt8)
 | [] => []
 | b :: l => if b = 10 then [] :: linesF l else match linesF l with
  | [] => [[b]]
  | h :: t => (b :: h) :: t
def pcsF : List UInt8 → List (List UInt8)
 | [] => [[]]
 | b :: l => if b = 10 then [] :: pcsF l else match pcsF l with
  | [] => [[b]]
  | h :: t => (b :: h) :: t
theorem pcsF_ne (l : List UInt8) : pcsF l ≠ [] := by
 cases l with
 | nil => simp [pcsF]
 | cons b l =>
  simp only [pcsF]
  split
  ·simp
  ·split <;> simp
theorem pcsF_miss : ∀ {l : List UInt8}, 10 ∉ l → pcsF l = [l]
 | [], _ => rfl
 | b :: l, h => by
  simp only [List.mem_cons, not_or] at h
  simp only [pcsF]
  rw [if_neg (fun e => h.1 e.symm), pcsF_miss h.2]
theorem pcsF_hit : ∀ {l r : List UInt8}, 10 ∉ l → pcsF (l ++ 10 :: r) = l :: pcsF r
 | [], r, _ => by simp [pcsF]
 | b :: l, r, h => by
  simp only [List.mem_cons, not_or] at h
  simp only [List.cons_append, pcsF]
  rw [if_neg (fun e => h.1 e.symm), pcsF_hit h.2]
theorem lines_pcs : ∀ l : List UInt8, linesF l = if (pcsF l).getLast? = some [] then (pcsF l).dropLast else pcsF l
 | [] => by simp [linesF, pcsF]
 | b :: l => by
  have ih := lines_pcs l
  have hne := pcsF_ne l
  by_cases hb : b = 10
  ·have e1 : linesF (b :: l) = [] :: linesF l := by simp only [linesF, if_pos hb]
   have e2 : pcsF (b :: l) = [] :: pcsF l := by simp only [pcsF, if_pos hb]
   rw [e1, e2, List.getLast?_cons, List.dropLast_cons_of_ne_nil hne, ih]
   cases hp : (pcsF l).getLast? with
   | none => exact absurd (List.getLast?_eq_none_iff.1 hp) hne
   | some x =>
    simp only [Option.getD_some]
    by_cases hx : x = []
    ·rw [if_pos (by rw [hx]), if_pos (by rw [hx])]
    ·rw [if_neg (by simpa using hx), if_neg (by simpa using hx)]
  ·have e1 : linesF (b :: l) = match linesF l with | [] => [[b]] | h :: t => (b :: h) :: t := by simp only [linesF, if_neg hb]
   have e2 : pcsF (b :: l) = match pcsF l with | [] => [[b]] | h :: t => (b :: h) :: t := by simp only [pcsF, if_neg hb]
   rw [e1, e2, ih]
   cases hp : pcsF l with
   | nil => exact absurd hp hne
   | cons h t =>
    cases t with
    | nil =>
     by_cases hh : h = []
     ·subst hh; simp
     ·simp [hh]
    | cons h2 t =>
     by_cases hc : (h2 :: t).getLast? = some []
     ·rw [if_pos (by rw [List.getLast?_cons_cons]; exact hc), List.dropLast_cons_cons]
      show (b :: h) :: _ = if ((b :: h) :: h2 :: t).getLast? = some [] then ((b :: h) :: h2 :: t).dropLast else (b :: h) :: h2 :: t
      rw [if_pos (by rw [List.getLast?_cons_cons]; exact hc), List.dropLast_cons_cons]
     ·rw [if_neg (by rw [List.getLast?_cons_cons]; exact hc)]
      show (b :: h) :: _ = if ((b :: h) :: h2 :: t).getLast? = some [] then ((b :: h) :: h2 :: t).dropLast else (b :: h) :: h2 :: t
      rw [if_neg (by rw [List.getLast?_cons_cons]; exact hc)]
end Go.Proofs.YtnfojonmohijpabGreatDoor
