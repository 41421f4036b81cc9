/-
  DERIVED. Plain mathematics: a set as stretches, and what is written of it. Nothing of the program stands here.
-/
import Derived.Test.YtnfojonmohijpabGreatDoorJSpec
import Derived.Test.YtnfojonmohijpabGreatDoorJPW
import Derived.Test.YtnfojonmohijpabGreatDoorJNH
import Derived.Deep.CutRange
set_option linter.unusedSimpArgs false
set_option linter.unusedVariables false
namespace Go.Proofs.YtnfojonmohijpabGreatDoor
def strT (a b : Nat) : List UInt8 := if a = b then oneT a else oneT a ++ [45] ++ oneT b
def setLast (l : List (Nat × Nat)) (m : Nat) : List (Nat × Nat) :=
 match l.getLast? with
 | none => l
 | some (a, _) => l.dropLast ++ [(a, m)]
def strs (f : Nat → Bool) : Nat → List (Nat × Nat)
 | 0 => []
 | m + 1 => if f m = true then (if 0 < m ∧ f (m - 1) = true then setLast (strs f m) m else strs f m ++ [(m, m)]) else strs f m
def outS (l : List (Nat × Nat)) : List UInt8 := l.flatMap fun p => strT p.1 p.2
def lens (l : List (Nat × Nat)) : Nat := (l.map fun p => p.2 - p.1 + 1).sum
theorem setLast_snoc (l : List (Nat × Nat)) (a b m : Nat) : setLast (l ++ [(a, b)]) m = l ++ [(a, m)] := by
 simp [setLast]
theorem runE_fuel (f : Nat → Bool) : ∀ (n m : Nat), 255 - m ≤ n → runE f (n + 1) m = runE f n m := by
 intro n
 induction n with
 | zero =>
  intro m h
  unfold runE
  rw [if_neg (by omega)]
 | succ n ih =>
  intro m h
  show (if m < 255 ∧ f (m + 1) = true then runE f (n + 1) (m + 1) else m) = (if m < 255 ∧ f (m + 1) = true then runE f n (m + 1) else m)
  by_cases hc : m < 255 ∧ f (m + 1) = true
  ·rw [if_pos hc, if_pos hc, ih (m + 1) (by omega)]
  ·rw [if_neg hc, if_neg hc]
theorem runEnd_step (f : Nat → Bool) (m : Nat) (h : m < 255) (hf : f (m + 1) = true) : runEnd f m = runEnd f (m + 1) := by
 unfold runEnd
 show (if m < 255 ∧ f (m + 1) = true then runE f 254 (m + 1) else m) = _
 rw [if_pos ⟨h, hf⟩]
 exact (runE_fuel f 254 (m + 1) (by omega)).symm
theorem runEnd_stop (f : Nat → Bool) (m : Nat) (h : ¬ (m < 255 ∧ f (m + 1) = true)) : runEnd f m = m := by
 unfold runEnd
 show (if m < 255 ∧ f (m + 1) = true then runE f 254 (m + 1) else m) = _
 rw [if_neg h]
def StrInv (f : Nat → Bool) (m : Nat) : Prop :=
 (∃ pre a, 0 < m ∧ f (m - 1) = true ∧ strs f m = pre ++ [(a, m - 1)] ∧ a ≤ m - 1 ∧ f a = true ∧ (a = 0 ∨ f (a - 1) = false) ∧ runEnd f a = runEnd f (m - 1) ∧ outTo f m = outS pre ++ outAt f a) ∨
 ((m = 0 ∨ f (m - 1) = false) ∧ outTo f m = outS (strs f m))
theorem outS_snoc (l : List (Nat × Nat)) (a b : Nat) : outS (l ++ [(a, b)]) = outS l ++ strT a b := by simp [outS]
theorem outAt_end (f : Nat → Bool) (a b : Nat) (hab : a ≤ b) (hfa : f a = true) (h0 : a = 0 ∨ f (a - 1) = false) (hr : runEnd f a = b) : outAt f a = strT a b := by
 unfold outAt strT
 rw [if_pos ⟨hfa, h0⟩, hr]
 by_cases h : a = b
 ·rw [if_pos h, if_neg (by omega)]; simp
 ·rw [if_neg h, if_pos (by omega)]; simp
theorem StrInv.all (f : Nat → Bool) : ∀ m, m ≤ 256 → StrInv f m := by
 intro m
 induction m with
 | zero => intro _; exact Or.inr ⟨Or.inl rfl, rfl⟩
 | succ m ih =>
  intro hm
  rcases ih (by omega) with ⟨pre, a, h0, hf, hs, ham, hfa, ha0, hr, ho⟩ | ⟨hc, ho⟩
  ·have hz : outAt f m = [] := by
      unfold outAt
      rw [if_neg]
      rintro ⟨_, h | h⟩
      ·omega
      ·rw [hf] at h; cases h
   cases hfm : f m with
   | true =>
    refine Or.inl ⟨pre, a, by omega, by simpa using hfm, ?_, by simp; omega, hfa, ha0, ?_, ?_⟩
    ·show (if f m = true then (if 0 < m ∧ f (m - 1) = true then setLast (strs f m) m else strs f m ++ [(m, m)]) else strs f m) = _
     rw [if_pos hfm, if_pos ⟨h0, hf⟩, hs, setLast_snoc]
     simp
    ·rw [hr]
     have := runEnd_step f (m - 1) (by omega) (by rw [show m - 1 + 1 = m by omega]; exact hfm)
     rw [this, show m - 1 + 1 = m by omega]
     simp
    ·show outTo f m ++ outAt f m = _
     rw [hz, ho]; simp
   | false =>
    refine Or.inr ⟨Or.inr (by simpa using hfm), ?_⟩
    show outTo f m ++ outAt f m = outS (if f m = true then (if 0 < m ∧ f (m - 1) = true then setLast (strs f m) m else strs f m ++ [(m, m)]) else strs f m)
    rw [if_neg (by rw [hfm]; simp), hz, ho, hs, outS_snoc]
    have hend : runEnd f (m - 1) = m - 1 := runEnd_stop f (m - 1) (by rw [show m - 1 + 1 = m by omega, hfm]; simp)
    rw [outAt_end f a (m - 1) ham hfa ha0 (hr.trans hend)]
    simp
  ·cases hfm : f m with
   | true =>
    refine Or.inl ⟨strs f m, m, by omega, by simpa using hfm, ?_, by simp, hfm, ?_, by simp, ?_⟩
    ·show (if f m = true then (if 0 < m ∧ f (m - 1) = true then setLast (strs f m) m else strs f m ++ [(m, m)]) else strs f m) = _
     rw [if_pos hfm, if_neg]
     ·simp
     ·rintro ⟨h1, h2⟩
      rcases hc with h | h
      ·omega
      ·rw [h2] at h; cases h
    ·rcases hc with h | h
     ·exact Or.inl h
     ·exact Or.inr h
    ·show outTo f m ++ outAt f m = _
     rw [ho]
   | false =>
    refine Or.inr ⟨Or.inr (by simpa using hfm), ?_⟩
    show outTo f m ++ outAt f m = outS (if f m = true then (if 0 < m ∧ f (m - 1) = true then setLast (strs f m) m else strs f m ++ [(m, m)]) else strs f m)
    rw [if_neg (by rw [hfm]; simp), ho]
    have hz : outAt f m = [] := by unfold outAt; rw [if_neg]; rintro ⟨h, _⟩; rw [hfm] at h; cases h
    rw [hz]; simp
theorem out_strs (f : Nat → Bool) : outTo f 256 = outS (strs f 256) := by
 rcases StrInv.all f 256 (by omega) with ⟨pre, a, h0, hf, hs, ham, hfa, ha0, hr, ho⟩ | ⟨hc, ho⟩
 ·have hend : runEnd f 255 = 255 := runEnd_stop f 255 (by omega)
  rw [ho, hs, outS_snoc, outAt_end f a 255 (by simpa using ham) hfa ha0 (by rw [hr]; exact hend)]
 ·exact ho
theorem lens_snoc (l : List (Nat × Nat)) (a b : Nat) : lens (l ++ [(a, b)]) = lens l + (b - a + 1) := by simp [lens]
theorem cnt_lens (f : Nat → Bool) : ∀ m, m ≤ 256 → cntTo f m = lens (strs f m) ∧ ∀ p ∈ strs f m, p.1 ≤ p.2 ∧ p.2 < m := by
 intro m
 induction m with
 | zero => intro _; exact ⟨rfl, by simp [strs]⟩
 | succ m ih =>
  intro hm
  obtain ⟨h1, h2⟩ := ih (by omega)
  have hI := StrInv.all f m (by omega)
  show cntTo f m + (if f m then 1 else 0) = lens (if f m = true then (if 0 < m ∧ f (m - 1) = true then setLast (strs f m) m else strs f m ++ [(m, m)]) else strs f m) ∧ ∀ p ∈ (if f m = true then (if 0 < m ∧ f (m - 1) = true then setLast (strs f m) m else strs f m ++ [(m, m)]) else strs f m), p.1 ≤ p.2 ∧ p.2 < m + 1
  by_cases hfm : f m = true
  ·rw [if_pos hfm, if_pos hfm]
   rcases hI with ⟨pre, a, h0, hf, hs, ham, hfa, ha0, hr, ho⟩ | ⟨hc, ho⟩
   ·rw [if_pos ⟨h0, hf⟩, hs, setLast_snoc, h1, hs, lens_snoc, lens_snoc]
    refine ⟨by omega, ?_⟩
    intro p hp
    rcases List.mem_append.1 hp with hp | hp
    ·have := h2 p (by rw [hs]; exact List.mem_append_left _ hp)
     exact ⟨this.1, by omega⟩
    ·simp at hp; subst hp; exact ⟨by simp; omega, by simp⟩
   ·rw [if_neg (by rintro ⟨h3, h4⟩; rcases hc with h | h; omega; rw [h4] at h; cases h), lens_snoc, h1]
    refine ⟨by omega, ?_⟩
    intro p hp
    rcases List.mem_append.1 hp with hp | hp
    ·have := h2 p hp; exact ⟨this.1, by omega⟩
    ·simp at hp; subst hp; exact ⟨by simp, by simp⟩
  ·rw [if_neg hfm, if_neg hfm]
   refine ⟨by omega, ?_⟩
   intro p hp
   have := h2 p hp
   exact ⟨this.1, by omega⟩
theorem cnt_all (f : Nat → Bool) : ∀ m, (cntTo f m = m ↔ ∀ n, n < m → f n = true) := by
 intro m
 induction m with
 | zero => simp [cntTo]
 | succ m ih =>
  have hle := cntTo_le f m
  show cntTo f m + (if f m then 1 else 0) = m + 1 ↔ _
  constructor
  ·intro h n hn
   by_cases hfm : f m = true
   ·rw [if_pos hfm] at h
    by_cases e : n = m
    ·subst e; exact hfm
    ·exact ih.1 (by omega) n (by omega)
   ·rw [if_neg hfm] at h; omega
  ·intro h
   rw [if_pos (h m (by omega)), ih.2 (fun n hn => h n (by omega))]
open Classical in
theorem setT_strs (f : Nat → Bool) : setT f = if (strs f 256).length = 0 then [91, 94, 92, 120, 48, 48, 45, 92, 120, 102, 102, 93] else if ∀ n, n < 256 → f n = true then [46] else if ∃ a, strs f 256 = [(a, a)] then outS (strs f 256) else [91] ++ outS (strs f 256) ++ [93] := by
 obtain ⟨hl, hp⟩ := cnt_lens f 256 (by omega)
 have hall := cnt_all f 256
 have hpos : ∀ l : List (Nat × Nat), l.length ≤ lens l := by
  intro l
  induction l with
  | nil => simp [lens]
  | cons p l ih => simp only [lens, List.map_cons, List.sum_cons, List.length_cons] at ih ⊢; omega
 unfold setT
 by_cases h0 : (strs f 256).length = 0
 ·rw [if_pos h0]
  have : strs f 256 = [] := List.length_eq_zero_iff.1 h0
  rw [this] at hl
  rw [if_pos (by rw [hl]; rfl)]
 ·rw [if_neg h0]
  have hz : cntTo f 256 ≠ 0 := by have := hpos (strs f 256); omega
  rw [if_neg hz]
  by_cases ha : ∀ n, n < 256 → f n = true
  ·rw [if_pos ha]
   have := hall.2 ha
   rw [if_neg (by omega), if_pos this]
  ·rw [if_neg ha]
   have hn : cntTo f 256 ≠ 256 := fun h => ha (hall.1 h)
   by_cases h1 : ∃ a, strs f 256 = [(a, a)]
   ·rw [if_pos h1]
    obtain ⟨a, h1⟩ := h1
    have : cntTo f 256 = 1 := by rw [hl, h1]; simp [lens]
    rw [if_pos this, out_strs]
   ·rw [if_neg h1]
    have h2 : cntTo f 256 ≠ 1 := by
     intro h
     apply h1
     rw [hl] at h
     match hst : strs f 256 with
     | [] => rw [hst] at h0; simp at h0
     | [(a, b)] =>
      rw [hst] at h
      have := (hp (a, b) (by rw [hst]; simp)).1
      simp [lens] at h this
      exact ⟨a, by congr 2; omega⟩
     | p :: q :: l =>
      rw [hst] at h
      have := hpos (p :: q :: l)
      simp at this
      omega
    rw [if_neg h2, if_neg hn, out_strs]
end Go.Proofs.YtnfojonmohijpabGreatDoor
namespace Go.Proofs.YtnfojonmohijpabGreatDoor
open Go.RowKit
def strC (l : List (Nat × Nat)) : List Value := l.flatMap fun p => [.int .u8 (p.1 : Int), .int .u8 (p.2 : Int)]
theorem strC_snoc (l : List (Nat × Nat)) (a b : Nat) : strC (l ++ [(a, b)]) = strC l ++ [.int .u8 (a : Int), .int .u8 (b : Int)] := by simp [strC]
theorem strC_len (l : List (Nat × Nat)) : (strC l).length = l.length * 2 := by
 induction l with
 | nil => rfl
 | cons p l ih => simp only [strC, List.flatMap_cons, List.length_append, List.length_cons, List.length_nil] at ih ⊢; omega
theorem idx_set (f : Nat → Bool) (m : Nat) (h : m < 256) (w : World) : (Instr.index 174 (.agg (hcells f)) (.int .i64 (m : Int))).run Tryz.prog w = .ok (.bool (f m)) w := by
 have hu := Tryz.underlying174
 have h1 : (0 : Int) ≤ (m : Int) := by omega
 have h2 : (m : Int) < 256 := by omega
 have hc := hcells_get f h
 have hz : (Go.sizeOf 4).run Tryz.prog w = .ok 1 w := by kernel_rfl
 have hp : (part 4 (hcells f) m).run Tryz.prog w = .ok (.bool (f m)) w := by
  unfold part
  have ha : (isAgg 4).run Tryz.prog w = .ok false w := by kernel_rfl
  simp [ha, hz, hc]
 simp [Instr.index, run_underlying hu, asIntOf, h1, h2, hz, hp]
 intro hc'
 omega
theorem ownsRow_set {w : World} {base : Nat} {e : TypeId} {size : Nat} {n cap g : Nat} {xs : List Value} (h : w.ownsRow base e size (.slice (some ⟨g, 0, none⟩) n cap) n xs) (k : Nat) (hk : k < n * size) (v : Value) :
    (w.setCell ⟨g, k, none⟩ v).ownsRow base e size (.slice (some ⟨g, 0, none⟩) n cap) n (xs.set k v) ∧ w.cell? ⟨g, k, none⟩ = xs[k]? ∧ w.frozen? ⟨g, k, none⟩ = false := by
 obtain ⟨hl, h2⟩ := h
 rcases h2 with ⟨hv, _⟩ | ⟨g', cap', cur, hv, hb, hg, hnc, hcm, hcs, htk⟩
 ·cases hv
 ·cases hv
  have hkc : k < cur.size := by
   rw [hcs]
   exact Nat.lt_of_lt_of_le hk (Nat.mul_le_mul_right _ hnc)
  refine ⟨⟨by simp [hl], Or.inr ⟨g, cap, cur.setIfInBounds k v, rfl, hb, ?_, hnc, hcm, by simp [hcs], ?_⟩⟩, ?_, ?_⟩
  ·simp [World.setCell, Array.getElem?_modify, hg]
  ·rw [← htk]
   simp [List.take_set]
  ·rw [← htk, List.getElem?_take_of_lt hk]
   simp [World.cell?, hg]
  ·simp [World.frozen?, hg]
structure SL2 (f : Nat → Bool) (g0 : Nat) (w wr : World) (v : Value) (m : Nat) : Prop where
 set : HQ wr g0 f
 own : wr.ownsRow 0 244 2 v (strs f m).length (strC (strs f m))
 fresh : ∀ g, v.ownBlock = some g → g0 < g
 keep : Keeps [] w wr
 mle : m ≤ 256
set_option maxRecDepth 100000 in
theorem wrap_byte (m : Nat) (h : m < 256) : IntKind.u8.wrap (m : Int) = (m : Int) := by
 have key : ∀ k : Fin 256, IntKind.u8.wrap ((k.val : Nat) : Int) = ((k.val : Nat) : Int) := by decide
 exact key ⟨m, h⟩
theorem strs_len (f : Nat → Bool) (m : Nat) (h : m ≤ 256) : (strs f m).length ≤ m := by
 have h1 := (cnt_lens f m h).1
 have h2 := cntTo_le f m
 have hpos : ∀ l : List (Nat × Nat), l.length ≤ lens l := by
  intro l
  induction l with
  | nil => simp [lens]
  | cons p l ih => simp only [lens, List.map_cons, List.sum_cons, List.length_cons] at ih ⊢; omega
 have := hpos (strs f m)
 omega
theorem infoStr : (Tryz.prog.info? 244).map (fun i => (i.zero, i.size, i.bytes)) = some (some (.agg #[.int .u8 0, .int .u8 0]), 2, 2) := by kernel_rfl
set_option maxRecDepth 100000 in
set_option maxHeartbeats 2000000 in
theorem stretches_prog (f : Nat → Bool) (w : World) :
    Calls Tryz.prog 146 #[.agg (hcells f)] w fun e w' => ∃ v, e = .returned v ∧ w'.ownsRow 0 244 2 v (strs f 256).length (strC (strs f 256)) ∧ (∀ g, v.ownBlock = some g → w.heap.size ≤ g) ∧ Keeps [] w w' := by
 have hz0 : HQ (w.alloc (.cells (hcells f) 174)) w.heap.size f := heap_alloc_new w _
 have hk0 : Keeps [] w (w.alloc (.cells (hcells f) 174)) := (Keeps.refl [] w).alloc _
 obtain ⟨i0, hi0, hy0, hy1, hy2⟩ := info_parts infoStr
 have hix := idx_set f
 generalize hC : hcells f = C at *
 go_enter Tryz.func146, Tryz.ntmps146
 go_wp2_with (first | (refine wpList_load_row rfl 174 _ rfl w.heap.size rfl _ _ _ _ hz0 Tryz.underlying174 rfl (infoSetC _) ?_))
 generalize w.alloc (.cells C 174) = W at *
 obtain ⟨g0, hg0⟩ : ∃ g0, w.heap.size = g0 := ⟨_, rfl⟩
 rw [hg0] at hz0 ⊢
 go_loopw [3, 7] (fun v q wr => ∃ m : Nat, q = .int .i64 m ∧ SL2 f g0 w wr v m) (fun _ q _ => 256 - (intOf q).toNat)
 case atStart => exact ⟨0, rfl, hz0, ⟨rfl, Or.inl ⟨rfl, rfl⟩⟩, by intro g h; simp [Value.ownBlock] at h, hk0, by omega⟩
 case round =>
  clear hz0 hk0
  obtain ⟨m, rfl, L⟩ := hrel
  by_cases hlt : m < 256
  ·have hm0 : (0 : Int) ≤ (m : Int) := by omega
   have hm1 : (m : Int) < 256 := by omega
   have hixm := hix m hlt
   have hstep : strs f (m + 1) = if f m = true then (if 0 < m ∧ f (m - 1) = true then setLast (strs f m) m else strs f m ++ [(m, m)]) else strs f m := rfl
   have HS : Hid (strs f (m + 1) = if f m = true then (if 0 < m ∧ f (m - 1) = true then setLast (strs f m) m else strs f m ++ [(m, m)]) else strs f m) := hstep
   clear hstep hix
   cases hfm : f m with
   | false =>
    have L2 : SL2 f g0 w wr u3 (m + 1) := ⟨L.set, by have h := HS.out; rw [if_neg (by rw [hfm]; simp)] at h; rw [h]; exact L.own, L.fresh, L.keep, by omega⟩
    rw [hfm] at hixm
    clear HS
    go_wp2_with fail
    go_roundw
    case rel => exact ⟨m + 1, by go_num, L2⟩
    case measure => simp [intOf]; omega
   | true =>
    rw [hfm] at hixm
    have hwm := wrap_byte m hlt
    have hsl := strs_len f m (by omega)
    by_cases hop : 0 < m ∧ f (m - 1) = true
    ·have hstrs : strs f (m + 1) = setLast (strs f m) m := by have h := HS.out; rw [if_pos hfm, if_pos hop] at h; exact h
     obtain ⟨pre, a, hs⟩ : ∃ pre a, strs f m = pre ++ [(a, m - 1)] := by
      rcases StrInv.all f m (by omega) with ⟨pre, a, _, _, hs, _⟩ | ⟨hc, _⟩
      ·exact ⟨pre, a, hs⟩
      ·rcases hc with h | h
       ·omega
       ·rw [hop.2] at h; cases h
     have hown := L.own
     rw [hs] at hown
     obtain ⟨g, cap, hv, _, _⟩ := hown.form (by simp)
     have hfr := L.fresh
     rw [hv] at hown hfr
     have hlen : (pre ++ [(a, m - 1)]).length = pre.length + 1 := by simp
     rw [hlen] at hown hv hfr
     have hcp := L.set.cell (k := m - 1) (by omega)
     rw [hop.2] at hcp
     have hi1 : (m : Int) - 1 = ((m - 1 : Nat) : Int) := by omega
     obtain ⟨ho2, hc2, hf2⟩ := ownsRow_set hown (pre.length * 2 + 1) (by omega) (.int .u8 (m : Int))
     have hcell : wr.cell? ⟨g, pre.length * 2 + 1, none⟩ = some (.int .u8 ((m - 1 : Nat) : Int)) := by
      rw [hc2, strC_snoc, List.getElem?_append_right (by rw [strC_len]; omega), strC_len]
      simp
     have hset : (strC (pre ++ [(a, m - 1)])).set (pre.length * 2 + 1) (.int .u8 (m : Int)) = strC (pre ++ [(a, m)]) := by
      rw [strC_snoc, strC_snoc, List.set_append_right _ _ (by rw [strC_len]; omega), strC_len]
      simp
     rw [hset] at ho2
     have hgg : g0 < g := hfr g rfl
     have L2 : SL2 f g0 w (wr.setCell ⟨g, pre.length * 2 + 1, none⟩ (.int .u8 (m : Int))) (.slice (some ⟨g, 0, none⟩) (pre.length + 1) cap) (m + 1) := by
      refine ⟨L.set.keep ((Keeps.refl [g] wr).setCell (by simp) _) (by simp; omega), ?_, hfr, L.keep.setCell (Or.inr (by show w.heap.size ≤ g; omega)) _, by omega⟩
      rw [hstrs, hs, setLast_snoc]
      simpa using ho2
     have hpl : pre.length ≤ 255 := by rw [hs] at hsl; simp at hsl; omega
     have hp0 : (0 : Int) ≤ (pre.length : Int) := by omega
     have hp1 : (pre.length : Int) ≤ 255 := by omega
     subst hv
     clear HS hstrs hs L hown ho2 hc2 hset hfr hlen hsl hpl
     go_wp2_with fail
     go_roundw
     case rel => exact ⟨m + 1, by go_num, L2⟩
     case measure => simp [intOf]; omega
    ·have hstrs : strs f (m + 1) = strs f m ++ [(m, m)] := by have h := HS.out; rw [if_pos hfm, if_neg hop] at h; exact h
     have hlm : (strs f m).length + 1 ≤ maxLen := by unfold maxLen; omega
     have hun := Tryz.underlying240
     have hown := L.own
     have hNX : ∀ g cap w4, w4.ownsRow 0 244 2 (.slice (some ⟨g, 0, none⟩) ((strs f m).length + 1) cap) ((strs f m).length + 1) (strC (strs f m) ++ [.int .u8 (m : Int), .int .u8 (m : Int)]) → (wr.alloc (.cells #[.int .u8 (m : Int), .int .u8 (m : Int)] 244)).grownBy w4 u3.ownBlock → (u3.ownBlock = some g ∨ g = wr.heap.size + 1) → SL2 f g0 w w4 (.slice (some ⟨g, 0, none⟩) ((strs f m).length + 1) cap) (m + 1) := by
      intro g cap w4 h1 h2 h3
      have hk4 : Keeps u3.ownBlock.toList wr w4 := ((Keeps.refl u3.ownBlock.toList wr).alloc _).trans (Keeps.ofGrown h2)
      have hfr : ∀ y, y ∈ u3.ownBlock.toList → g0 < y := by
       intro y hy
       rw [Option.mem_toList] at hy
       exact L.fresh y hy
      have hsz := L.keep.size
      have hgl := L.set.lt
      refine ⟨L.set.keep hk4 (fun h => by have := hfr _ h; omega), ?_, ?_, L.keep.fresh hk4 (fun y hy => Or.inr (by have := hfr y hy; omega)), by omega⟩
      ·rw [hstrs, strC_snoc, List.length_append, List.length_singleton]; exact h1
      ·intro y hy
       cases hy
       rcases h3 with h | h
       ·exact L.fresh _ h
       ·show g0 < g; omega
     have HN : Hid (∀ g cap w4, w4.ownsRow 0 244 2 (.slice (some ⟨g, 0, none⟩) ((strs f m).length + 1) cap) ((strs f m).length + 1) (strC (strs f m) ++ [.int .u8 (m : Int), .int .u8 (m : Int)]) → (wr.alloc (.cells #[.int .u8 (m : Int), .int .u8 (m : Int)] 244)).grownBy w4 u3.ownBlock → (u3.ownBlock = some g ∨ g = wr.heap.size + 1) → SL2 f g0 w w4 (.slice (some ⟨g, 0, none⟩) ((strs f m).length + 1) cap) (m + 1)) := hNX
     clear hNX HS hstrs
     have hcp : 0 < m → wr.cell? ⟨g0, m - 1, none⟩ = some (.bool false) := fun h => by
      have := L.set.cell (k := m - 1) (by omega)
      have hff : f (m - 1) = false := by cases hq : f (m - 1); rfl; exact absurd ⟨h, hq⟩ hop
      rw [hff] at this; exact this
     have HL : Hid (m < 256) := hlt
     have HB : Hid ((strs f m).length ≤ 256) := by show (strs f m).length ≤ 256; omega
     by_cases hmz : m = 0
     ·have hmi : ¬ (0 : Int) < (m : Int) := by omega
      clear hcp hop hsl L hmz
      go_wp2_with (at_builtin; refine wpList_append_lies _ rfl _ _ _ rfl 0 244 i0 _ 2 2 hun hi0 hy0 hy1 hy2 rfl (by decide) u3 (strs f m).length _ rfl (hown.alloc _) ⟨wr.heap.size, 0, none⟩ 1 1 [.int .u8 (m : Int), .int .u8 (m : Int)] rfl rfl ?c1 ?c2 ?c3 hlm ?c4 ?c5 (wr.heap.size + 1) ?c6 ?_)
      case c2 => first | rfl | (intro u hu; simp at hu; subst hu; rfl)
      case c4 => have := HB.out; omega
      intro g cap w4 hown4 hgrow hat hlt4
      have L2 := HN.out g cap w4 hown4 hgrow hat
      clear hown4 hgrow hat HN
      go_wp2_with fail
      go_roundw
      case rel => exact ⟨m + 1, by go_num, L2⟩
      case measure => have := HL.out; simp [intOf]; omega
     ·have hmi : (0 : Int) < (m : Int) := by omega
      have hcp' := hcp (by omega)
      have hm' : 0 < m := by omega
      have hi1 : (m : Int) - 1 = ((m - 1 : Nat) : Int) := by omega
      clear hcp hop hsl L
      go_wp2_with (at_builtin; refine wpList_append_lies _ rfl _ _ _ rfl 0 244 i0 _ 2 2 hun hi0 hy0 hy1 hy2 rfl (by decide) u3 (strs f m).length _ rfl (hown.alloc _) ⟨wr.heap.size, 0, none⟩ 1 1 [.int .u8 (m : Int), .int .u8 (m : Int)] rfl rfl ?c1 ?c2 ?c3 hlm ?c4 ?c5 (wr.heap.size + 1) ?c6 ?_)
      case c2 => first | rfl | (intro u hu; simp at hu; subst hu; rfl)
      case c4 => have := HB.out; omega
      intro g cap w4 hown4 hgrow hat hlt4
      have L2 := HN.out g cap w4 hown4 hgrow hat
      clear hown4 hgrow hat HN
      go_wp2_with fail
      go_roundw
      case rel => exact ⟨m + 1, by go_num, L2⟩
      case measure => have := HL.out; simp [intOf]; omega
  ·have e : m = 256 := by have := L.mle; omega
   subst e
   go_wp2_with fail
   go_ret
   exact ⟨_, rfl, L.own, fun g hg => by have := L.fresh g hg; omega, L.keep⟩
end Go.Proofs.YtnfojonmohijpabGreatDoor
namespace Go.Proofs.YtnfojonmohijpabGreatDoor
open Go.RowKit
set_option maxRecDepth 100000 in
set_option maxHeartbeats 2000000 in
theorem bytesOf_any (f : Nat → Bool) (s : ByteArray) (N : Nat) (HN : Hid (N = s.size + 1)) (hs : s.size ≤ 100) (w : World) : Calls Tryz.prog 161 #[.agg (hcells f), .string s] w (NewMP w N (Mt s (.set f))) := by
 have hz0 : HQ (w.alloc (.cells (hcells f) 174)) w.heap.size f := heap_alloc_new w _
 have hk0 : Keeps [] w (w.alloc (.cells (hcells f) 174)) := (Keeps.refl [] w).alloc _
 generalize hcells f = C at *
 go_enter Tryz.func161, Tryz.ntmps161
 go_wp2_with fail
 generalize w.alloc (.cells C 174) = W at *
 obtain ⟨g0, hg0⟩ : ∃ g0, w.heap.size = g0 := ⟨_, rfl⟩
 rw [hg0] at hz0 ⊢
 refine (none_any s.size N HN hs W).mono ?_
 rintro e w1 ⟨g, rfl, hM, hk, hg⟩
 have hz1 := hz0.keep hk (by simp)
 have hg0l : g0 < W.heap.size := hz0.lt
 have hgw : w.heap.size ≤ g := by have := hk0.size; omega
 have hkA := hk0.trans hk
 have hNm : (N : Int) ≤ 101 := by have := HN.out; omega
 have hsm : (s.size : Int) ≤ 100 := by omega
 clear hz0 hk0 hk hg0
 go_wp2_with fail
 go_loopw [6, 12] (fun _ q wr => ∃ k : Nat, k ≤ s.size ∧ q = .int .i64 k ∧ MV wr (.slice (some ⟨g, 0, none⟩) N N) N (fun i j => decide (i < k) && (f (at' s i).toNat && decide (j = i + 1))) ∧ HQ wr g0 f ∧ Keeps [] w wr) (fun _ q _ => s.size - (intOf q).toNat)
 case atStart => exact ⟨0, by omega, rfl, hM.ext (fun a b _ _ => by simp), hz1, hkA⟩
 case round =>
  clear hM hz1 hkA
  obtain ⟨k, hk, rfl, hM, hz, hK⟩ := hrel
  by_cases hlt : k < s.size
  ·have hk0 : (0 : Int) ≤ (k : Int) := by omega
   have hk1 : (k : Int) < (s.size : Int) := by omega
   have hk2 : (k : Int) < (N : Int) := by have := HN.out; omega
   have hb : at' s k = (s[k].toNat : Int) := at'_lt hlt
   have hb2 : s[k].toNat < 256 := UInt8.toNat_lt _
   have hb3 : (0 : Int) ≤ (s[k].toNat : Int) := by omega
   have hb4 : (s[k].toNat : Int) < 256 := by omega
   have hcl := hz.cell hb2
   have HB : Hid ((at' s k).toNat = s[k].toNat) := by show (at' s k).toNat = s[k].toNat; rw [hb]; rfl
   clear hb hk
   cases hf : f s[k].toNat with
   | false =>
    rw [hf] at hcl
    have HF : Hid (f s[k].toNat = false) := hf
    have HK : Hid (k < s.size) := hlt
    clear hf
    go_wp2_with fail
    go_roundw
    case rel => exact ⟨k + 1, HK.out, by go_num, hM.ext (fun a b _ _ => by
      by_cases e1 : a = k
      · subst e1; rw [HB.out, HF.out]; simp
      · have : (a < k + 1) ↔ (a < k) := by omega
        simp [this]), hz, hK⟩
    case measure => have := HK.out; simp [intOf]; omega
   | true =>
    rw [hf] at hcl
    have HF : Hid (f s[k].toNat = true) := hf
    have HK : Hid (k < s.size) := hlt
    clear hf
    have hC := padd_any g N N k (k + 1) _ (by have := HN.out; omega) (by omega) wr hM
    have e9 : ((k + 1 : Nat) : Int) = (k : Int) + 1 := by omega
    rw [e9] at hC
    clear e9
    go_wp2_with (go_at_call 126; refine hC.mono ?_; rintro e w2 ⟨rfl, hM2, hK2⟩)
    have hz2 := hz.keep hK2 (by simp; omega)
    have hK3 : Keeps [] w w2 := keepsM hK hK2 (by intro x hx; simp at hx; omega)
    go_roundw
    case rel => exact ⟨k + 1, HK.out, by go_num, hM2.ext (fun a b _ _ => by
      by_cases e1 : a = k
      · subst e1; rw [HB.out, HF.out]; simp
      · have : (a < k + 1) ↔ (a < k) := by omega
        simp [e1, this]), hz2, hK3⟩
    case measure => have := HK.out; simp [intOf]; omega
  ·have he : k = s.size := by omega
   have hnk : ¬ (k : Int) < (s.size : Int) := by omega
   have hM2 : MP wr (fun x => w.heap.size ≤ x) N (.slice (some ⟨g, 0, none⟩) N N) (Mt s (.set f)) := ⟨g, N, _, rfl, hM, hgw, fun i j hi hj => by
     simp only [Bool.and_eq_true, decide_eq_true_eq, he]
     exact Iff.rfl⟩
   clear hM hk he hlt
   go_wp2_with fail
   go_ret
   exact ⟨_, rfl, hM2, hK⟩
end Go.Proofs.YtnfojonmohijpabGreatDoor
namespace Go.Proofs.YtnfojonmohijpabGreatDoor
open Go.RowKit
def RR (w : World) (S : Nat → Prop) (N M : Nat) (v : Value) (F : Nat → Nat → Nat → Prop) : Prop :=
 ∃ g c vs, v = .slice (some ⟨g, 0, none⟩) M c ∧ w.ownsRow 0 63 1 (.slice (some ⟨g, 0, none⟩) M c) M vs ∧ S g ∧ ∀ d, d < M → ∃ u, vs[d]? = some u ∧ MP w S N u (F d)
theorem RR.keep {w w' : World} {S : Nat → Prop} {L : List Nat} {N M : Nat} {v : Value} {F : Nat → Nat → Nat → Prop} (h : RR w S N M v F) (hk : Keeps L w w') (hs : ∀ g, S g → g ∉ L) : RR w' S N M v F := by
 obtain ⟨g, c, vs, e, ho, hg, hr⟩ := h
 refine ⟨g, c, vs, e, ho.keep hk (fun x hx => by simp only [Value.ownBlock, Option.some.injEq] at hx; subst hx; exact hs _ hg), hg, fun d hd => ?_⟩
 obtain ⟨u, a, b⟩ := hr d hd
 exact ⟨u, a, b.keep hk hs⟩
theorem RR.mono {w : World} {S S' : Nat → Prop} {N M : Nat} {v : Value} {F : Nat → Nat → Nat → Prop} (h : RR w S N M v F) (hs : ∀ g, S g → g < w.heap.size → S' g) : RR w S' N M v F := by
 obtain ⟨g, c, vs, e, ho, hg, hr⟩ := h
 refine ⟨g, c, vs, e, ho, hs g hg (World.ownsRow.lt ho g rfl).2, fun d hd => ?_⟩
 obtain ⟨u, a, b⟩ := hr d hd
 exact ⟨u, a, b.mono hs⟩
theorem RR.at {w : World} {S : Nat → Prop} {N M : Nat} {v : Value} {F : Nat → Nat → Nat → Prop} (h : RR w S N M v F) {d : Nat} (hd : d < M) : ∃ g c u, v = .slice (some ⟨g, 0, none⟩) M c ∧ g < w.heap.size ∧ S g ∧ w.cell? ⟨g, d, none⟩ = some u ∧ MP w S N u (F d) := by
 obtain ⟨g, c, vs, e, ho, hg, hr⟩ := h
 obtain ⟨u, a, b⟩ := hr d hd
 exact ⟨g, c, u, e, (World.ownsRow.lt ho g rfl).2, hg, (World.ownsRow.cellAt ho d (by omega)).trans a, b⟩
theorem infoMap : (Tryz.prog.info? 63).map (fun i => (i.zero, i.size, i.bytes)) = some (some (.slice none 0 0), 1, 24) := by kernel_rfl
structure FL (w wr : World) (g N M : Nat) (F : Nat → Nat → Nat → Prop) (d : Nat) : Prop where
 own : ∃ vs, wr.ownsRow 0 63 1 (.slice (some ⟨g, 0, none⟩) M M) M vs ∧ ∀ e, d ≤ e → e < M → ∃ u, vs[e]? = some u ∧ MP wr (fun x => w.heap.size ≤ x ∧ x ≠ g) N u (F e)
 keep : Keeps [] w wr
 low : w.heap.size ≤ g
theorem FL.glt {w wr : World} {g N M d : Nat} {F : Nat → Nat → Nat → Prop} (h : FL w wr g N M F d) : g < wr.heap.size := by
 obtain ⟨vs, a, b⟩ := h.own
 exact (World.ownsRow.lt a g rfl).2
theorem FL.keeps {w wr w' : World} {g N M d : Nat} {F : Nat → Nat → Nat → Prop} (h : FL w wr g N M F d) (hk : Keeps [] wr w') : FL w w' g N M F d := by
 obtain ⟨vs, a, b⟩ := h.own
 exact ⟨⟨vs, a.keep hk (by simp), fun e h1 h2 => by
   obtain ⟨u, x, y⟩ := b e h1 h2
   exact ⟨u, x, y.keep hk (by simp)⟩⟩, h.keep.trans hk, h.low⟩
theorem FL.cell {w wr : World} {g N M d : Nat} {F : Nat → Nat → Nat → Prop} (h : FL w wr g N M F d) {e : Nat} (he : e < M) : (∃ u, wr.cell? ⟨g, e, none⟩ = some u) ∧ wr.frozen? ⟨g, e, none⟩ = false := by
 obtain ⟨vs, a, b⟩ := h.own
 have hl : vs.length = M := by have := a.1; omega
 refine ⟨⟨vs[e]'(by omega), ?_⟩, World.ownsRow.frozenAt a e⟩
 rw [World.ownsRow.cellAt a e (by omega), List.getElem?_eq_getElem]
theorem FL.at {w wr : World} {g N M d : Nat} {F : Nat → Nat → Nat → Prop} (h : FL w wr g N M F d) {e : Nat} (hd : d ≤ e) (he : e < M) : ∃ u, wr.cell? ⟨g, e, none⟩ = some u ∧ MP wr (fun x => w.heap.size ≤ x ∧ x ≠ g) N u (F e) := by
 obtain ⟨vs, a, b⟩ := h.own
 obtain ⟨u, x, y⟩ := b e hd he
 exact ⟨u, (World.ownsRow.cellAt a e (by omega)).trans x, y⟩
theorem FL.put {w wr : World} {g N M d : Nat} {F : Nat → Nat → Nat → Prop} (h : FL w wr g N M F (d + 1)) (hd : d < M) {u : Value} {S : Nat → Prop} (hu : MP wr S N u (F d)) (hs : ∀ x, S x → w.heap.size ≤ x ∧ x ≠ g) : FL w (wr.setCell ⟨g, d, none⟩ u) g N M F d := by
 obtain ⟨vs, a, b⟩ := h.own
 have hl : vs.length = M := by have := a.1; omega
 have hk : Keeps [g] wr (wr.setCell ⟨g, d, none⟩ u) := (Keeps.refl [g] wr).setCell (p := ⟨g, d, none⟩) (by simp) _
 refine ⟨⟨vs.set d u, (World.ownsRow.stored a d u).1, fun e h1 h2 => ?_⟩, keepsM h.keep hk (by intro x hx; simp at hx; subst hx; exact Or.inr h.low), h.low⟩
 by_cases e1 : e = d
 ·subst e1
  exact ⟨u, by rw [List.getElem?_set_self (by omega)], (hu.mono (S' := fun x => w.heap.size ≤ x ∧ x ≠ g) fun x hx _ => hs x hx).keep hk (by intro x hx; simp; exact hx.2)⟩
 ·obtain ⟨v, x, y⟩ := b e (by omega) h2
  exact ⟨v, by rw [List.getElem?_set_ne (by omega)]; exact x, y.keep hk (by intro x hx; simp; exact hx.2)⟩
theorem FL.any {w wr : World} {g N M d : Nat} {F : Nat → Nat → Nat → Prop} (h : FL w wr g N M F (d + 1)) (u : Value) : FL w (wr.setCell ⟨g, d, none⟩ u) g N M F (d + 1) := by
 obtain ⟨vs, a, b⟩ := h.own
 have hk : Keeps [g] wr (wr.setCell ⟨g, d, none⟩ u) := (Keeps.refl [g] wr).setCell (p := ⟨g, d, none⟩) (by simp) _
 refine ⟨⟨vs.set d u, (World.ownsRow.stored a d u).1, fun e h1 h2 => ?_⟩, keepsM h.keep hk (by intro x hx; simp at hx; subst hx; exact Or.inr h.low), h.low⟩
 obtain ⟨v, x, y⟩ := b e (by omega) h2
 exact ⟨v, by rw [List.getElem?_set_ne (by omega)]; exact x, y.keep hk (by intro x hx; simp; exact hx.2)⟩
theorem FL.done {w wr : World} {g N M : Nat} {F : Nat → Nat → Nat → Prop} (h : FL w wr g N M F 0) : RR wr (fun x => w.heap.size ≤ x) N M (.slice (some ⟨g, 0, none⟩) M M) F := by
 obtain ⟨vs, a, b⟩ := h.own
 refine ⟨g, M, vs, rfl, a, h.low, fun d hd => ?_⟩
 obtain ⟨u, x, y⟩ := b d (by omega) hd
 exact ⟨u, x, y.mono fun z hz _ => hz.1⟩
end Go.Proofs.YtnfojonmohijpabGreatDoor
namespace Go.Proofs.YtnfojonmohijpabGreatDoor
open Go.RowKit
def steps (mn : Nat) (mx : Int) : Nat := if mx < 0 then mn else mx.toNat
theorem Left.last {R : Nat → Nat → Prop} {mn : Nat} {mx : Int} (hf : mx < 0 ∨ (mn : Int) ≤ mx) (hx : -1 ≤ mx) (i j : Nat) : Left R mn mx (steps mn mx) i j ↔ if mx < 0 then Tm R 0 (-1) i j else i = j := by
 unfold steps Left
 by_cases h : mx < 0
 ·rw [if_pos h, if_pos h, lessN_any mx h]
  have : mx = -1 := by omega
  subst this
  rw [Nat.sub_self]
 ·rw [if_neg h, if_neg h]
  obtain ⟨m, rfl⟩ : ∃ m : Nat, mx = m := ⟨mx.toNat, by omega⟩
  rw [lessN_some, Int.toNat_natCast, Nat.sub_self, show mn - m = 0 by omega]
  exact Tm.none
theorem repBlock {w w' : World} {g : Nat} {mn : Nat} {mx : Int} {L : List Nat} (h : w.heap[g]? = some (.cells #[.bool true, .int .i64 mn, .int .i64 mx] 178 (0, 0))) (hk : Keeps L w w') (hg : g ∉ L) : w'.heap[g]? = some (.cells #[.bool true, .int .i64 mn, .int .i64 mx] 178 (0, 0)) :=
 (hk.block g (Array.getElem?_eq_some_iff.1 h).1 hg).trans h
theorem repCells {w : World} {g : Nat} {mn : Nat} {mx : Int} (h : w.heap[g]? = some (.cells #[.bool true, .int .i64 mn, .int .i64 mx] 178 (0, 0))) : w.cell? ⟨g, 1, none⟩ = some (.int .i64 mn) ∧ w.cell? ⟨g, 2, none⟩ = some (.int .i64 mx) := by
 simp [World.cell?, h]
set_option maxRecDepth 100000 in
set_option maxHeartbeats 2000000 in
theorem restsOf_any (n N : Nat) (HN : Hid (N = n + 1)) (hn : n ≤ 100) (mn : Nat) (mx : Int) (hmn : mn ≤ 5) (hmx : -1 ≤ mx) (hmx5 : mx ≤ 5) (hf : mx < 0 ∨ (mn : Int) ≤ mx) (K M : Nat) (HK : Hid (K = steps mn mx)) (HM : Hid (M = K + 1))
    {S : Nat → Prop} (g1 c1 : Nat) {R : Nat → Nat → Prop} (hle : ∀ i j, R i j → i ≤ j) (hin : ∀ i j, R i j → i < N → j < N) (w : World) (h1 : MP w S N (.slice (some ⟨g1, 0, none⟩) N c1) R) :
    Calls Tryz.prog 128 #[.agg #[.bool true, .int .i64 mn, .int .i64 mx], .slice (some ⟨g1, 0, none⟩) N c1] w fun e w' => ∃ g, e = .returned (.slice (some ⟨g, 0, none⟩) M M) ∧ RR w' (fun g => w.heap.size ≤ g) N M (.slice (some ⟨g, 0, none⟩) M M) (Left R mn mx) ∧ Keeps [] w w' := by
 have hNm : (N : Int) ≤ 101 := by have := HN.out; omega
 have hN1 : (1 : Int) ≤ (N : Int) := by have := HN.out; omega
 have hsub : (N : Int) - 1 = (n : Int) := by have := HN.out; omega
 have hnn : (n : Int) ≤ 100 := by omega
 have hK5 : K ≤ 5 := by
  have := HK.out
  unfold steps at this
  split at this <;> omega
 have hz0 : (w.alloc (.cells #[.bool true, .int .i64 mn, .int .i64 mx] 178)).heap[w.heap.size]? = some (.cells #[.bool true, .int .i64 mn, .int .i64 mx] 178 (0, 0)) := heap_alloc_new w _
 have hk0 : Keeps [] w (w.alloc (.cells #[.bool true, .int .i64 mn, .int .i64 mx] 178)) := (Keeps.refl [] w).alloc _
 go_enter Tryz.func128, Tryz.ntmps128
 go_wp2_with fail
 generalize w.alloc (.cells #[.bool true, .int .i64 mn, .int .i64 mx] 178) = W at *
 obtain ⟨g0, hg0⟩ : ∃ g0, g0 = w.heap.size := ⟨_, rfl⟩
 rw [← hg0] at hz0 ⊢
 have hW := h1.keep hk0 (by simp)
 have hw0 := hk0.size
 have hg0w : g0 < W.heap.size := (Array.getElem?_eq_some_iff.1 hz0).1
 clear hg0 h1
 refine (empty_mp n N HN hn W).mono ?_
 rintro e w1 ⟨vn, rfl, hN0, hk1⟩
 obtain ⟨gn, cn, fn, rfl, _⟩ := id hN0
 have hz1 := repBlock hz0 hk1 (by simp)
 have hW1 := hW.keep hk1 (by simp)
 obtain ⟨ca, cb⟩ := repCells hz1
 go_upto_if 19 with (fail)
 go_cut [6, 7] from 17 to 23 (fun q6 q7 wx => ∃ gl cl, q6 = .int .i64 K ∧ q7 = .slice (some ⟨gl, 0, none⟩) N cl ∧ MP wx (fun x => W.heap.size ≤ x) N (.slice (some ⟨gl, 0, none⟩) N cl) (Left R mn mx K) ∧ Keeps [] w1 wx)
 case first =>
  by_cases hx : mx < 0
  ·have hx1 : mx = -1 := by omega
   have HL : Hid (∀ i j, Left R mn mx K i j ↔ Tm R 0 (-1) i j) := fun i j => by
    rw [HK.out, Left.last hf hmx, if_pos hx]
   have HKn : Hid (K = mn) := by
    have := HK.out
    unfold steps at this
    rw [if_pos hx] at this
    exact this
   subst hx1
   have hC := star_mp N n HN hn hle hin w1.drew (hW1.keep ((Keeps.refl [] w1).drewN 1) (by simp))
   clear hx hmx hmx5 hf
   go_wp2_with fail
   go_region_with (first | (go_at_call 162; refine hC.mono ?_; rintro e w2 ⟨vl, rfl, hL, hk2⟩; obtain ⟨gl, cl, fl, rfl, _⟩ := id hL; have hz2 := repCells (repBlock hz1 (((Keeps.refl [] w1).drewN 1).trans hk2) (by simp)); obtain ⟨cx, cy⟩ := hz2))
   all_goals
    have hL2 : MP w2 (fun x => W.heap.size ≤ x) N (.slice (some ⟨gl, 0, none⟩) N cl) (Left R mn (-1) K) := (hL.mono (S' := fun x => W.heap.size ≤ x) fun x hx _ => by have := hk1.size; simp at hx; omega).congr fun i j _ _ => (HL.out i j).symm
    have hk3 : Keeps [] w1 w2 := ((Keeps.refl [] w1).drewN 1).trans hk2
    have HKm : Hid (Value.int .i64 (mn : Int) = .int .i64 (K : Int)) := by show Value.int .i64 (mn : Int) = .int .i64 (K : Int); rw [HKn.out]
    clear hL hk2 hC hW hW1 hz0 hz1 hN0
    go_wp2_with fail
    go_meet
    case rel => exact ⟨gl, cl, HKm.out, rfl, hL2, hk3⟩
  ·have HL : Hid (∀ i j, Left R mn mx K i j ↔ i = j) := fun i j => by
      rw [HK.out, Left.last hf hmx, if_neg hx]
   have HKm : Hid (Value.int .i64 mx = .int .i64 (K : Int)) := by
    show Value.int .i64 mx = .int .i64 (K : Int)
    have := HK.out
    unfold steps at this
    rw [if_neg hx] at this
    congr
    omega
   have hx1 : (mx == -1) = false := by simp; omega
   have hL2 : MP w1 (fun x => W.heap.size ≤ x) N (.slice (some ⟨gn, 0, none⟩) N cn) (Left R mn mx K) := hN0.congr fun i j _ _ => (HL.out i j).symm
   go_wp2_with fail
   go_meet
   case rel => exact ⟨gn, cn, HKm.out, rfl, hL2, Keeps.refl _ _⟩
 case rest =>
  obtain ⟨gl, cl, rfl, rfl, hL, hkx⟩ := hcut
  obtain ⟨w2, hw2⟩ : ∃ w2 : World, w2 = wc := ⟨_, rfl⟩
  subst hw2
  have hz2 := repBlock hz1 hkx (by simp)
  have hW2 := hW1.keep hkx (by simp)
  have hN2 := hN0.keep hkx (by simp)
  have hkA := hk1.trans hkx
  obtain ⟨i0, hi0, hy0, hy1, hy2⟩ := info_parts infoMap
  have hun := Tryz.underlying148
  have hadd : (K : Int) + 1 ≤ 9223372036854775807 := by omega
  clear ca cb hW1 hN0 hk1 hkx hz0 hz1
  go_wp2_with (first | (refine wpList_make_full w2 rfl _ _ 148 rfl 0 63 i0 (.slice none 0 0) 1 hun hi0 hy0 hy1 .i64 .i64 ((K : Int) + 1) ((K : Int) + 1) M rfl rfl (by have := HM.out; omega) (by have := HM.out; omega) (by have := HM.out; rw [hy2]; omega) (by have := HM.out; unfold maxLen; omega) (Nat.zero_le _) ?_))
  intro w3 hown hgr
  have hk3 : Keeps [] w2 w3 := Keeps.ofGrownNone hgr
  have hz3 := repBlock hz2 hk3 (by simp)
  have hW3 := hW2.keep hk3 (by simp)
  obtain ⟨g, hg⟩ : ∃ g, g = w2.heap.size := ⟨_, rfl⟩
  rw [← hg] at hown ⊢
  have hgW : W.heap.size ≤ g := by have := hkA.size; omega
  have hN3 : MP w3 (fun x => W.heap.size ≤ x ∧ x ≠ g) N (.slice (some ⟨gn, 0, none⟩) N cn) (fun i j => i = j) := (hN2.mono (S' := fun x => W.heap.size ≤ x ∧ x ≠ g) fun x hx hy => ⟨hx, by omega⟩).keep hk3 (by simp)
  have hL3 : MP w3 (fun x => W.heap.size ≤ x ∧ x ≠ g) N (.slice (some ⟨gl, 0, none⟩) N cl) (Left R mn mx K) := (hL.mono (S' := fun x => W.heap.size ≤ x ∧ x ≠ g) fun x hx hy => ⟨hx, by omega⟩).keep hk3 (by simp)
  have F0 : FL W w3 g N M (Left R mn mx) (K + 1) := ⟨⟨_, hown, fun e h1 h2 => by have := HM.out; omega⟩, hkA.trans hk3, hgW⟩
  obtain ⟨⟨u0, hc0⟩, hf0⟩ := F0.cell (e := K) (by have := HM.out; omega)
  have F1 := F0.put (by have := HM.out; omega) hL3 (fun x hx => hx)
  have hkp : Keeps [g] w3 (w3.setCell ⟨g, K, none⟩ (.slice (some ⟨gl, 0, none⟩) N cl)) := (Keeps.refl [g] w3).setCell (p := ⟨g, K, none⟩) (by simp) _
  have hz4 := repBlock hz3 hkp (by simp; omega)
  have hN4 := hN3.keep hkp (by intro x hx; simp; exact hx.2)
  have hKi0 : (0 : Int) ≤ (K : Int) := by omega
  have hKi1 : (K : Int) < (M : Int) := by have := HM.out; omega
  have hM6 : (M : Int) ≤ 6 := by have := HM.out; omega
  clear hown hgr hk3 hkA hN2 hL hL3 hN3 F0 hz2 hz3 hg hW2 hW3
  go_wp2_with fail
  generalize w3.setCell ⟨g, K, none⟩ (.slice (some ⟨gl, 0, none⟩) N cl) = w4 at *
  clear hc0 hf0 hkp
  go_loopw [9] (fun q wr => ∃ d : Nat, d ≤ K ∧ q = .int .i64 ((d : Int) - 1) ∧ FL W wr g N M (Left R mn mx) d ∧ MP wr (fun x => W.heap.size ≤ x ∧ x ≠ g) N (.slice (some ⟨gn, 0, none⟩) N cn) (fun i j => i = j) ∧ wr.heap[g0]? = some (.cells #[.bool true, .int .i64 mn, .int .i64 mx] 178 (0, 0))) (fun q _ => (intOf q + 1).toNat)
  case atStart => exact ⟨K, Nat.le_refl _, rfl, F1, hN4, hz4⟩
  case round =>
   clear F1 hN4 hz4
   obtain ⟨d, hd, rfl, hF, hNn, hz⟩ := hrel
   cases d with
   | zero =>
    have e : (((0 : Nat) : Int) - 1) = -1 := by omega
    rw [e]
    have hend := hF.done.mono (S' := fun x => w.heap.size ≤ x) fun x hx _ => by omega
    have hkE := hk0.trans hF.keep
    go_wp2_with fail
    go_ret
    exact ⟨g, rfl, hend, hkE⟩
   | succ d =>
    have e : (((d + 1 : Nat) : Int) - 1) = (d : Int) := by omega
    rw [e]
    clear e
    obtain ⟨c, HC⟩ : ∃ c, Hid (c = d + 1) := ⟨_, rfl⟩
    have hdc : (d : Int) + 1 = (c : Int) := by have := HC.out; omega
    have hFc : FL W wr g N M (Left R mn mx) c := by have := HC.out; rw [this]; exact hF
    obtain ⟨u, hcu, hu⟩ := hFc.at (e := c) (Nat.le_refl _) (by have := HM.out; have := HC.out; omega)
    obtain ⟨gu, cu, fu, rfl, _⟩ := id hu
    obtain ⟨⟨u0, hc0⟩, hf0⟩ := hFc.cell (e := d) (by have := HM.out; omega)
    have hd0 : (0 : Int) ≤ (d : Int) := by omega
    have hd1 : (d : Int) < (M : Int) := by have := HM.out; omega
    have hd2 : (0 : Int) ≤ (c : Int) := by omega
    have hd3 : (c : Int) < (M : Int) := by have := HM.out; omega
    have HD : Hid (d + 1 ≤ K) := hd
    have hWr := hW.keep hFc.keep (by simp)
    have hC := then_mp N (by omega) hle hin wr hWr hu
    clear hd hF
    go_wp2_with fail
    refine hC.mono ?_
    rintro e w5 ⟨vt, rfl, hT, hk5⟩
    obtain ⟨gt, ct, ft, rfl, _⟩ := id hT
    have hF5 := hFc.keeps hk5
    have hF5' : FL W w5 g N M (Left R mn mx) (d + 1) := by have := HC.out; rw [← this]; exact hF5
    have hdM : d < M := by have := HM.out; have := HD.out; omega
    obtain ⟨⟨u5, hc5⟩, hf5⟩ := hF5.cell hdM
    have hN5 := hNn.keep hk5 (by simp)
    have hz5 := repBlock hz hk5 (by simp)
    obtain ⟨ca, cb⟩ := repCells hz5
    have hgg := hFc.glt
    have hnew : ∀ x, wr.heap.size ≤ x → W.heap.size ≤ x ∧ x ≠ g := by intro x hx; have := hFc.keep.size; omega
    have hkp : ∀ u, Keeps [g] w5 (w5.setCell ⟨g, d, none⟩ u) := fun u => (Keeps.refl [g] w5).setCell (p := ⟨g, d, none⟩) (by simp) _
    have hstep := fun i j => Left.step (R := R) (mn := mn) (mx := mx) (d := d) (i := i) (j := j) (by
      have h1 := HK.out
      have h2 := HD.out
      unfold steps at h1
      split at h1 <;> omega)
    have HS : Hid (∀ i j, Left R mn mx d i j ↔ ((mn ≤ d ∧ i = j) ∨ ∃ m, R i m ∧ Left R mn mx (d + 1) m j)) := hstep
    have HT : Hid (MP w5 (fun x => wr.heap.size ≤ x) N (.slice (some ⟨gt, 0, none⟩) N ct) (fun i j => ∃ m, R i m ∧ Left R mn mx (d + 1) m j)) := by
     have := HC.out
     rw [this] at hT
     exact hT
    clear hT hC hu hcu hF5 hFc hk5 hstep hc0 hf0 hz hNn
    by_cases hle2 : mn ≤ d
    ·have hge : (mn : Int) ≤ (d : Int) := by omega
     have hT6 := (HT.out.mono (S' := fun x => W.heap.size ≤ x ∧ x ≠ g) fun x hx _ => hnew x hx).keep (hkp (.slice (some ⟨gt, 0, none⟩) N ct)) (by intro x hx; simp; exact hx.2)
     have hF6 := hF5'.any (.slice (some ⟨gt, 0, none⟩) N ct)
     have hN6 := hN5.keep (hkp (.slice (some ⟨gt, 0, none⟩) N ct)) (by intro x hx; simp; exact hx.2)
     have hz6 := repBlock hz5 (hkp (.slice (some ⟨gt, 0, none⟩) N ct)) (by simp; omega)
     obtain ⟨cx, cy⟩ := repCells hz6
     have hc6 : (w5.setCell ⟨g, d, none⟩ (.slice (some ⟨gt, 0, none⟩) N ct)).cell? ⟨g, d, none⟩ = some (.slice (some ⟨gt, 0, none⟩) N ct) := World.cell?_setCell_same _ _ _ hc5
     have hkw : Keeps [] wr wr := Keeps.refl _ _
     have HG : Hid (mn ≤ d) := hle2
     clear hF5' hN5 hz5 ca cb hkp HT hle2
     go_upto_if 50 with (fail)
     generalize w5.setCell ⟨g, d, none⟩ (.slice (some ⟨gt, 0, none⟩) N ct) = w6 at *
     have hC := or_mp N (by omega) w6 hT6 hN6
     go_wp2_with fail
     refine hC.mono ?_
     rintro e w7 ⟨vo, rfl, hO, hk7⟩
     obtain ⟨go, co, fo, rfl, _⟩ := id hO
     have hF7 := hF6.keeps hk7
     obtain ⟨⟨u7, hc7⟩, hf7⟩ := hF7.cell hdM
     have hnew7 : ∀ x, w6.heap.size ≤ x → W.heap.size ≤ x ∧ x ≠ g := by intro x hx; have h1 := hF6.keep.size; have h2 := hF6.glt; omega
     have hkp : Keeps [g] w7 (w7.setCell ⟨g, d, none⟩ (.slice (some ⟨go, 0, none⟩) N co)) := (Keeps.refl [g] w7).setCell (p := ⟨g, d, none⟩) (by simp) _
     have hF8 := hF7.put hdM (u := .slice (some ⟨go, 0, none⟩) N co) (hO.congr fun i j _ _ => by
       rw [HS.out]
       constructor
       · rintro (h | h)
         · exact Or.inr h
         · exact Or.inl ⟨HG.out, h⟩
       · rintro (⟨_, h⟩ | h)
         · exact Or.inr h
         · exact Or.inl h) hnew7
     have hN8 := (hN6.keep hk7 (by simp)).keep hkp (by intro x hx; simp; exact hx.2)
     have hz8 := repBlock (repBlock hz6 hk7 (by simp)) hkp (by simp; omega)
     clear hC hO hk7 hF6 hF7 hN6 hz6 hT6 hkp
     go_wp2_with fail
     go_roundw
     case rel => exact ⟨d, by have := HD.out; omega, by go_num, hF8, hN8, hz8⟩
     case measure => simp [intOf]
    ·have hlt : ¬ (mn : Int) ≤ (d : Int) := by omega
     have hF6 := hF5'.put hdM (u := .slice (some ⟨gt, 0, none⟩) N ct) (HT.out.congr fun i j _ _ => by
       rw [HS.out]
       constructor
       · exact Or.inr
       · rintro (⟨h, _⟩ | h)
         · omega
         · exact h) hnew
     have hN6 := hN5.keep (hkp (.slice (some ⟨gt, 0, none⟩) N ct)) (by intro x hx; simp; exact hx.2)
     have hz6 := repBlock hz5 (hkp (.slice (some ⟨gt, 0, none⟩) N ct)) (by simp; omega)
     obtain ⟨cx, cy⟩ := repCells hz6
     clear hF5' hN5 hz5 ca cb hkp HT
     go_wp2_with fail
     go_roundw
     case rel => exact ⟨d, by have := HD.out; omega, by go_num, hF6, hN6, hz6⟩
     case measure => simp [intOf]
end Go.Proofs.YtnfojonmohijpabGreatDoor
