/-
  DERIVED. Sets of places as the program has them (two words of bits), by what they hold; a row of such sets; the program's Has and Add. Conditions: places are below 128.
-/
import Derived.Test.YtnfojonmohijpaaGreatDoorJRI
import Derived.OwnWalk
import Derived.Laws.BitsAllLaws
import Derived.Test.YtnfojonmohijpaaGreatDoorJSpec
set_option linter.unusedSimpArgs false
set_option linter.unusedVariables false
namespace Go.Proofs.YtnfojonmohijpaaGreatDoor
open Go.RowKit
def wd (P : Nat → Bool) (k : Nat) : Nat → Nat
 | 0 => 0
 | n + 1 => 2 ^ n * (P (64 * k + n)).toNat + wd P k n
theorem wd_lt (P : Nat → Bool) (k n : Nat) : wd P k n < 2 ^ n := by
 induction n with
 | zero => simp [wd]
 | succ n ih =>
  simp only [wd, Nat.pow_succ]
  cases P (64 * k + n) <;> simp <;> omega
theorem wd_bit (P : Nat → Bool) (k : Nat) : ∀ n j, (wd P k n).testBit j = (decide (j < n) && P (64 * k + j)) := by
 intro n
 induction n with
 | zero => intro j; simp [wd]
 | succ n ih =>
  intro j
  have hlt := wd_lt P k n
  simp only [wd]
  rcases Nat.lt_trichotomy j n with h | h | h
  ·cases hP : P (64 * k + n)
   ·simp [ih, h, Nat.lt_succ_of_lt h]
   ·simp only [Bool.toNat_true, Nat.mul_one]
    rw [Nat.testBit_two_pow_add_gt h, ih]
    simp [h, Nat.lt_succ_of_lt h]
  ·subst h
   have h0 : (wd P k j).testBit j = false := Nat.testBit_lt_two_pow hlt
   cases hP : P (64 * k + j)
   ·simp [h0]
   ·simp only [Bool.toNat_true, Nat.mul_one]
    rw [Nat.testBit_two_pow_add_eq, h0]
    simp
  ·have h1 : 2 ^ n * (P (64 * k + n)).toNat + wd P k n < 2 ^ j := by
      have : 2 ^ (n + 1) ≤ 2 ^ j := Nat.pow_le_pow_right (by omega) h
      rw [Nat.pow_succ] at this
      cases P (64 * k + n) <;> simp <;> omega
   rw [Nat.testBit_lt_two_pow h1]
   have : ¬ j < n + 1 := by omega
   simp [this]
theorem wd_ext {P Q : Nat → Bool} {k : Nat} : ∀ {n : Nat}, (∀ j, j < n → P (64 * k + j) = Q (64 * k + j)) → wd P k n = wd Q k n := by
 intro n h
 apply Nat.eq_of_testBit_eq
 intro j
 rw [wd_bit, wd_bit]
 by_cases hj : j < n
 ·rw [h j hj]
 ·simp [hj]
theorem wd_or (P Q : Nat → Bool) (k n : Nat) : (wd P k n ||| wd Q k n) = wd (fun j => P j || Q j) k n := by
 apply Nat.eq_of_testBit_eq
 intro j
 rw [Nat.testBit_or, wd_bit, wd_bit, wd_bit]
 cases decide (j < n) <;> simp
theorem wd_add (P : Nat → Bool) {k j n : Nat} (h : j < n) : (wd P k n ||| 2 ^ j) = wd (fun m => P m || decide (m = 64 * k + j)) k n := by
 apply Nat.eq_of_testBit_eq
 intro m
 rw [Nat.testBit_or, wd_bit, wd_bit, Nat.testBit_two_pow]
 by_cases e : m < n
 ·by_cases e2 : j = m
  ·subst e2; simp [e]
  ·have : ¬ m = j := fun h => e2 h.symm
   simp [e, e2, this]
 ·have : ¬ j = m := by omega
  simp [e, this]
theorem wd_has (P : Nat → Bool) {k j n : Nat} (h : j < n) : wd P k n / 2 ^ j % 2 = (P (64 * k + j)).toNat := by
 have := wd_bit P k n j
 rw [Nat.testBit_eq_decide_div_mod_eq] at this
 have h3 : wd P k n / 2 ^ j % 2 < 2 := Nat.mod_lt _ (by decide)
 generalize wd P k n / 2 ^ j % 2 = z at *
 cases hP : P (64 * k + j)
 ·rw [hP] at this; simp at this; simp; omega
 ·rw [hP] at this; simp [h] at this; simp [this]
theorem bits64 : ∃ n : Nat, n = 64 := ⟨64, rfl⟩
noncomputable def wbits : Nat := Classical.choose bits64
theorem wbits_eq : wbits = 64 := Classical.choose_spec bits64
noncomputable def wk (P : Nat → Bool) (k : Nat) : Nat := wd P k wbits
theorem wk_lt (P : Nat → Bool) (k : Nat) : wk P k < 18446744073709551616 := by
 have := wd_lt P k wbits
 have e : (2 : Nat) ^ wbits = 18446744073709551616 := by rw [wbits_eq]
 rw [e] at this
 exact this
theorem wk_or (P Q : Nat → Bool) (k : Nat) : bits .or .u64 (wk P k : Int) (wk Q k : Int) = (wk (fun j => P j || Q j) k : Nat) :=
 (u64_or_nat _ _ (wk_lt P k) (wk_lt Q k)).trans (congrArg (fun z : Nat => (z : Int)) (wd_or P Q k wbits))
theorem wk_add (P : Nat → Bool) {k j : Nat} (h : j < 64) : bits .or .u64 (wk P k : Int) ((2 ^ j : Nat) : Int) = (wk (fun m => P m || decide (m = 64 * k + j)) k : Nat) := by
 have h2 : 2 ^ j < 18446744073709551616 := Nat.lt_of_lt_of_le (Nat.pow_lt_pow_right (by omega) h) (by decide)
 exact (u64_or_nat _ _ (wk_lt P k) h2).trans (congrArg (fun z : Nat => (z : Int)) (wd_add P (by rw [wbits_eq]; exact h)))
theorem wk_out (P : Nat → Bool) {k k' j : Nat} (h : j < 64) (hk : k ≠ k') : wk (fun m => P m || decide (m = 64 * k' + j)) k = wk P k := by
 apply wd_ext
 intro m hm
 rw [wbits_eq] at hm
 have : ¬ 64 * k + m = 64 * k' + j := by omega
 simp [this]
theorem wk_ext {P Q : Nat → Bool} {k : Nat} (h : ∀ j, j < 64 → P (64 * k + j) = Q (64 * k + j)) : wk P k = wk Q k := wd_ext fun j hj => h j (by rw [wbits_eq] at hj; exact hj)
theorem wk_has (P : Nat → Bool) {k j : Nat} (h : j < 64) : (bits .and .u64 ((wk P k : Int) / 2 ^ j) 1 == 1) = P (64 * k + j) := by
 have e1 : ((wk P k : Int) / 2 ^ j) = ((wk P k / 2 ^ j : Nat) : Int) := by simp
 have e2 : wk P k / 2 ^ j < 18446744073709551616 := Nat.lt_of_le_of_lt (Nat.div_le_self _ _) (wk_lt P k)
 have e3 : bits .and .u64 ((wk P k / 2 ^ j : Nat) : Int) 1 = ((wk P k / 2 ^ j % 2 : Nat) : Int) := by
  refine (u64_and_nat _ 1 e2 (by decide)).trans (congrArg (fun z : Nat => (z : Int)) ?_)
  exact Nat.and_one_is_mod _
 rw [e1, e3, show wk P k / 2 ^ j % 2 = (P (64 * k + j)).toNat from wd_has P (by rw [wbits_eq]; exact h)]
 cases P (64 * k + j) <;> rfl
theorem wk_none (k : Nat) : wk (fun _ => false) k = 0 := by
 have : ∀ n, wd (fun _ => false) k n = 0 := by
  intro n
  induction n with
  | zero => rfl
  | succ n ih => simp [wd, ih]
 exact this wbits
noncomputable def pv (P : Nat → Bool) : Value := .agg #[.int .u64 (wk P 0), .int .u64 (wk P 1)]
noncomputable def mc (n : Nat) (f : Nat → Nat → Bool) : List Value := (List.range (2 * n)).map fun q => .int .u64 (wk (f (q / 2)) (q % 2))
theorem mc_len (n : Nat) (f : Nat → Nat → Bool) : (mc n f).length = 2 * n := by simp [mc]
theorem mc_at {n q : Nat} (f : Nat → Nat → Bool) (h : q < 2 * n) : (mc n f)[q]? = some (.int .u64 (wk (f (q / 2)) (q % 2))) := by simp [mc, h]
theorem mc_ext {n : Nat} {f g : Nat → Nat → Bool} (h : ∀ i j, i < n → j < 128 → f i j = g i j) : mc n f = mc n g := by
 unfold mc
 apply List.map_congr_left
 intro q hq
 simp only [List.mem_range] at hq
 have : wk (f (q / 2)) (q % 2) = wk (g (q / 2)) (q % 2) := wk_ext fun j hj => h (q / 2) _ (by omega) (by omega)
 rw [this]
theorem mc_set {n i k : Nat} (f g : Nat → Nat → Bool) (hi : i < n) (hk : k < 2) (v : Value) (hv : v = .int .u64 (wk (g i) k)) (ho : ∀ a, a ≠ i → ∀ j, g a j = f a j) (hw : ∀ k', k' ≠ k → wk (g i) k' = wk (f i) k') :
    (mc n f).set (2 * i + k) v = mc n g := by
 apply List.ext_getElem?
 intro q
 rw [List.getElem?_set]
 by_cases hq : q < 2 * n
 ·rw [mc_at g hq, mc_at f hq, mc_len]
  by_cases e : 2 * i + k = q
  ·rw [if_pos e, if_pos (by omega)]
   have e1 : q / 2 = i := by omega
   have e2 : q % 2 = k := by omega
   rw [hv, e1, e2]
  ·rw [if_neg e]
   by_cases e1 : q / 2 = i
   ·rw [e1, hw (q % 2) (by omega)]
   ·have : wk (f (q / 2)) (q % 2) = wk (g (q / 2)) (q % 2) := wk_ext fun j _ => (ho _ e1 _).symm
    rw [this]
 ·have h1 : (mc n f)[q]? = none := by rw [List.getElem?_eq_none_iff, mc_len]; omega
  have h2 : (mc n g)[q]? = none := by rw [List.getElem?_eq_none_iff, mc_len]; omega
  have e : ¬ 2 * i + k = q := by omega
  rw [if_neg e, h1, h2]
def MV (w : World) (v : Value) (n : Nat) (f : Nat → Nat → Bool) : Prop := w.ownsRow 0 141 2 v n (mc n f)
theorem MV.keep {w w' : World} {S : List Nat} {v : Value} {n : Nat} {f : Nat → Nat → Bool} (h : MV w v n f) (hk : Keeps S w w') (hs : ∀ g, v.ownBlock = some g → g ∉ S) : MV w' v n f := World.ownsRow.keep h hk hs
theorem MV.ext {w : World} {v : Value} {n : Nat} {f g : Nat → Nat → Bool} (h : MV w v n f) (e : ∀ i j, i < n → j < 128 → f i j = g i j) : MV w v n g := by
 unfold MV at *
 rw [← mc_ext e]
 exact h
theorem MV.at {w : World} {g cap n : Nat} {f : Nat → Nat → Bool} (h : MV w (.slice (some ⟨g, 0, none⟩) n cap) n f) {i : Nat} (hi : i < n) :
    w.cell? ⟨g, i * 2, none⟩ = some (.int .u64 (wk (f i) 0)) ∧ w.cell? ⟨g, i * 2 + 1, none⟩ = some (.int .u64 (wk (f i) 1)) := by
 constructor
 ·rw [World.ownsRow.cellAt h (i * 2) (by omega), mc_at f (by omega)]
  rw [show i * 2 / 2 = i by omega, show i * 2 % 2 = 0 by omega]
 ·rw [World.ownsRow.cellAt h (i * 2 + 1) (by omega), mc_at f (by omega)]
  rw [show (i * 2 + 1) / 2 = i by omega, show (i * 2 + 1) % 2 = 1 by omega]
theorem MV.frozen {w : World} {g cap n : Nat} {f : Nat → Nat → Bool} (h : MV w (.slice (some ⟨g, 0, none⟩) n cap) n f) (j : Nat) : w.frozen? ⟨g, j, none⟩ = false := World.ownsRow.frozenAt h j
set_option maxHeartbeats 400000 in
theorem phas_any (P : Nat → Bool) (j : Nat) (hj : j < 128) (w : World) :
    Calls Tryz.prog 73 #[pv P, .int .i64 j] w fun e w' => e = .returned (.bool (P j)) ∧ Keeps [] w w' := by
 have h0 : (0 : Int) ≤ (j : Int) := by omega
 unfold pv
 by_cases h : j < 64
 ·have h1 : (j : Int) / 64 = 0 := by omega
  have h2 : (j : Int) % 64 = j := by omega
  have HH : Hid ((bits .and .u64 ((wk P 0 : Int) / 2 ^ j) 1 == 1) = P j) := by have := wk_has P (k := 0) h; rw [show 64 * 0 + j = j by omega] at this; exact this
  go_enter Tryz.func73, Tryz.ntmps73
  go_wp2_with fail
  go_ret
  exact ⟨by rw [HH.out]; rfl, (Keeps.refl [] w).alloc _⟩
 ·obtain ⟨m, rfl⟩ : ∃ m, j = 64 + m := ⟨j - 64, by omega⟩
  have h1 : ((64 + m : Nat) : Int) / 64 = 1 := by omega
  have h2 : ((64 + m : Nat) : Int) % 64 = m := by omega
  have HH : Hid ((bits .and .u64 ((wk P 1 : Int) / 2 ^ m) 1 == 1) = P (64 + m)) := wk_has P (k := 1) (by omega)
  obtain ⟨J, hJ⟩ : ∃ J : Int, J = ((64 + m : Nat) : Int) := ⟨_, rfl⟩
  rw [← hJ] at h0 h1 h2 ⊢
  clear hJ
  go_enter Tryz.func73, Tryz.ntmps73
  go_wp2_with fail
  go_ret
  exact ⟨by rw [HH.out]; rfl, (Keeps.refl [] w).alloc _⟩
theorem wrap_pow {j : Nat} (h : j < 64) : IntKind.u64.wrap (2 ^ j) = ((2 ^ j : Nat) : Int) := by
 have h2 : 2 ^ j < 18446744073709551616 := Nat.lt_of_lt_of_le (Nat.pow_lt_pow_right (by omega) h) (by decide)
 have e : (2 : Int) ^ j = ((2 ^ j : Nat) : Int) := by simp
 rw [e]
 generalize 2 ^ j = z at *
 have : IntKind.u64.wrap (z : Int) = (z : Int) % 18446744073709551616 := by simp [IntKind.wrap, IntKind.bits, IntKind.signed]
 rw [this]
 omega
theorem MV.put {w : World} {g cap n : Nat} {f f' : Nat → Nat → Bool} (h : MV w (.slice (some ⟨g, 0, none⟩) n cap) n f) {i k : Nat} (hi : i < n) (hk : k < 2) (v : Value) (hv : v = .int .u64 (wk (f' i) k)) (ho : ∀ a, a ≠ i → ∀ j, f' a j = f a j) (hw : ∀ k', k' ≠ k → wk (f' i) k' = wk (f i) k') :
    MV (w.setCell ⟨g, i * 2 + k, none⟩ v) (.slice (some ⟨g, 0, none⟩) n cap) n f' := by
 have := (World.ownsRow.stored h (i * 2 + k) v).1
 rw [Nat.mul_comm i 2, mc_set f f' hi hk v hv ho hw] at this
 rw [Nat.mul_comm i 2]
 exact this
set_option maxRecDepth 100000 in
set_option maxHeartbeats 400000 in
theorem padd_any (g cap n i j : Nat) (f : Nat → Nat → Bool) (hi : i < n) (hj : j < 128) (w : World) (h : MV w (.slice (some ⟨g, 0, none⟩) n cap) n f) :
    Calls Tryz.prog 211 #[.pointer (some ⟨g, i * 2, none⟩), .int .i64 j] w fun e w' => e = .returned (.tuple #[]) ∧ MV w' (.slice (some ⟨g, 0, none⟩) n cap) n (fun a b => f a b || (decide (a = i) && decide (b = j))) ∧ Keeps [g] w w' := by
 obtain ⟨ca, cb⟩ := h.at hi
 have fa := h.frozen (i * 2)
 have fb := h.frozen (i * 2 + 1)
 have h0 : (0 : Int) ≤ (j : Int) := by omega
 by_cases hj : j < 64
 ·have h1 : (j : Int) / 64 = 0 := by omega
  have h2 : (j : Int) % 64 = j := by omega
  have HV : Hid (bits .or .u64 (wk (f i) 0 : Int) (IntKind.u64.wrap (2 ^ j)) = (wk (fun m => f i m || decide (m = j)) 0 : Nat)) := by
   have := wk_add (f i) (k := 0) hj
   rw [show 64 * 0 + j = j by omega] at this
   show _ = _
   rw [wrap_pow hj]
   exact this
  have HH : Hid (MV w (.slice (some ⟨g, 0, none⟩) n cap) n f) := h
  have HJ : Hid (j < 64) := hj
  have HI : Hid (i < n) := hi
  clear h hj hi
  go_enter Tryz.func211, Tryz.ntmps211
  go_wp2_with fail
  go_region
  all_goals go_end0
  all_goals
   refine ⟨rfl, ?_, ((Keeps.refl [g] w).setCell (p := ⟨g, i * 2, none⟩) (by simp) _).drewN 1⟩
   refine MV.put (f := f) HH.out HI.out (k := 0) (by omega) _ ?_ ?_ ?_
   ·rw [HV.out]
    have : wk (fun m => f i m || decide (m = j)) 0 = wk (fun b => f i b || (decide (i = i) && decide (b = j))) 0 := wk_ext fun q _ => by simp
    rw [this]
   ·intro a ha q; simp [ha]
   ·intro k' hk'
    have := wk_out (f i) (k := k') (k' := 0) HJ.out hk'
    refine Eq.trans (wk_ext fun q _ => ?_) this
    simp
 ·obtain ⟨m, rfl⟩ : ∃ m, j = 64 + m := ⟨j - 64, by omega⟩
  have h1 : ((64 + m : Nat) : Int) / 64 = 1 := by omega
  have h2 : ((64 + m : Nat) : Int) % 64 = m := by omega
  have hm : m < 64 := by omega
  have HV : Hid (bits .or .u64 (wk (f i) 1 : Int) (IntKind.u64.wrap (2 ^ m)) = (wk (fun q => f i q || decide (q = 64 + m)) 1 : Nat)) := by
   have := wk_add (f i) (k := 1) hm
   show _ = _
   rw [wrap_pow hm]
   exact this
  obtain ⟨J, hJ⟩ : ∃ J : Int, J = ((64 + m : Nat) : Int) := ⟨_, rfl⟩
  rw [← hJ] at h0 h1 h2 ⊢
  have HH : Hid (MV w (.slice (some ⟨g, 0, none⟩) n cap) n f) := h
  have HJ : Hid (m < 64) := hm
  have HI : Hid (i < n) := hi
  clear hJ h hj hm hi
  go_enter Tryz.func211, Tryz.ntmps211
  go_wp2_with fail
  go_region
  all_goals go_end0
  all_goals
   refine ⟨rfl, ?_, ((Keeps.refl [g] w).setCell (p := ⟨g, i * 2 + 1, none⟩) (by simp) _).drewN 1⟩
   refine MV.put (f := f) HH.out HI.out (k := 1) (by omega) _ ?_ ?_ ?_
   ·rw [HV.out]
    have : wk (fun q => f i q || decide (q = 64 + m)) 1 = wk (fun b => f i b || (decide (i = i) && decide (b = 64 + m))) 1 := wk_ext fun q _ => by simp
    rw [this]
   ·intro a ha q; simp [ha]
   ·intro k' hk'
    have := wk_out (f i) (k := k') (k' := 1) HJ.out hk'
    refine Eq.trans (wk_ext fun q _ => ?_) this
    simp
end Go.Proofs.YtnfojonmohijpaaGreatDoor
namespace Go.Proofs.YtnfojonmohijpaaGreatDoor
open Go.RowKit
def addTo (f : Nat → Nat → Bool) (i : Nat) (Q : Nat → Bool) (k : Nat) : Nat → Nat → Bool := fun a b => f a b || (decide (a = i) && (decide (b < 64 * k) && Q b))
theorem addTo_step {w : World} {g cap n : Nat} {f : Nat → Nat → Bool} {i : Nat} {Q : Nat → Bool} {k : Nat} (h : MV w (.slice (some ⟨g, 0, none⟩) n cap) n (addTo f i Q k)) (hi : i < n) (hk : k < 2) :
    MV (w.setCell ⟨g, i * 2 + k, none⟩ (.int .u64 (bits .or .u64 (wk (addTo f i Q k i) k : Int) (wk Q k : Int)))) (.slice (some ⟨g, 0, none⟩) n cap) n (addTo f i Q (k + 1)) := by
 refine MV.put h hi hk _ ?_ ?_ ?_
 ·rw [wk_or]
  have : wk (fun j => addTo f i Q k i j || Q j) k = wk (addTo f i Q (k + 1) i) k := wk_ext fun j hj => by
   have h1 : ¬ 64 * k + j < 64 * k := by omega
   have h2 : 64 * k + j < 64 * (k + 1) := by omega
   simp [addTo, h1, h2]
  rw [this]
 ·intro a ha j; simp [addTo, ha]
 ·intro k' hk'
  apply wk_ext
  intro j hj
  have : (64 * k' + j < 64 * (k + 1)) ↔ (64 * k' + j < 64 * k) := by omega
  simp [addTo, this]
set_option maxRecDepth 100000 in
set_option maxHeartbeats 1000000 in
theorem addAll_any (g cap n i : Nat) (f : Nat → Nat → Bool) (Q : Nat → Bool) (hi : i < n) (w : World) (h : MV w (.slice (some ⟨g, 0, none⟩) n cap) n f) :
    Calls Tryz.prog 176 #[.pointer (some ⟨g, i * 2, none⟩), pv Q] w fun e w' => e = .returned (.tuple #[]) ∧ MV w' (.slice (some ⟨g, 0, none⟩) n cap) n (fun a b => f a b || (decide (a = i) && Q b)) ∧ Keeps [g] w w' := by
 have hgl : g < w.heap.size := (World.ownsRow.lt h g rfl).2
 have hnew := heap_alloc_new w (.cells #[.int .u64 (wk Q 0), .int .u64 (wk Q 1)] 141)
 have hW := (Keeps.refl [g] w).alloc (.cells #[.int .u64 (wk Q 0), .int .u64 (wk Q 1)] 141)
 have h1 : MV (w.alloc (.cells #[.int .u64 (wk Q 0), .int .u64 (wk Q 1)] 141)) (.slice (some ⟨g, 0, none⟩) n cap) n (addTo f i Q 0) :=
  (h.keep ((Keeps.refl [] w).alloc _) (by simp)).ext fun a b _ _ => by simp [addTo]
 unfold pv
 go_enter Tryz.func176, Tryz.ntmps176
 go_wp2_with fail
 generalize (w.alloc (.cells #[.int .u64 (wk Q 0), .int .u64 (wk Q 1)] 141)) = W at *
 obtain ⟨x, hx⟩ : ∃ x, x = w.heap.size := ⟨_, rfl⟩
 rw [← hx] at hnew hgl ⊢
 clear hx
 have e0 : W.cell? ⟨x, 0, none⟩ = some (.int .u64 (wk Q 0)) := by simp [World.cell?, hnew]
 have e1 : W.cell? ⟨x, 1, none⟩ = some (.int .u64 (wk Q 1)) := by simp [World.cell?, hnew]
 have hxl : x < W.heap.size := (Array.getElem?_eq_some_iff.1 hnew).1
 have hxg : x ≠ g := by omega
 clear hnew hgl
 go_loopw [4, 5] (fun _ q wr => ∃ k : Nat, k ≤ 2 ∧ q = .int .i64 k ∧ MV wr (.slice (some ⟨g, 0, none⟩) n cap) n (addTo f i Q k) ∧ Keeps [g] W wr) (fun _ q _ => 2 - (intOf q).toNat)
 case atStart => exact ⟨0, by omega, rfl, h1, Keeps.refl _ _⟩
 case round =>
  obtain ⟨k, hk, rfl, hM, hK⟩ := hrel
  have r0 : wr.cell? ⟨x, 0, none⟩ = some (.int .u64 (wk Q 0)) := (World.cell?_of_block (hK.block x hxl (by simp [hxg]))).trans e0
  have r1 : wr.cell? ⟨x, 1, none⟩ = some (.int .u64 (wk Q 1)) := (World.cell?_of_block (hK.block x hxl (by simp [hxg]))).trans e1
  obtain ⟨ca, cb⟩ := hM.at hi
  have fa := hM.frozen (i * 2)
  have fb := hM.frozen (i * 2 + 1)
  have HM : Hid (MV wr (.slice (some ⟨g, 0, none⟩) n cap) n (addTo f i Q k)) := hM
  have HI : Hid (i < n) := hi
  have HX : Hid (Keeps [g] W wr) := hK
  clear hM hK
  have h3 : k = 0 ∨ k = 1 ∨ k = 2 := by omega
  rcases h3 with rfl | rfl | rfl
  ·clear hi hk
   go_wp2_with fail
   go_region
   go_wp2_with fail
   go_roundw
   case rel => exact ⟨1, by omega, rfl, addTo_step HM.out HI.out (by omega), (HX.out.setCell (p := ⟨g, i * 2, none⟩) (by simp) _).drewN 1⟩
   case measure => simp [intOf]
  ·clear hi hk
   go_wp2_with fail
   go_region
   go_wp2_with fail
   go_roundw
   case rel => exact ⟨2, by omega, rfl, addTo_step HM.out HI.out (by omega), (HX.out.setCell (p := ⟨g, i * 2 + 1, none⟩) (by simp) _).drewN 1⟩
   case measure => simp [intOf]
  ·clear hi hk
   go_wp2_with fail
   go_end0
   exact ⟨rfl, HM.out.ext fun a b _ hb => by have : b < 64 * 2 := by omega
                                             simp [addTo, this], hW.trans HX.out⟩
theorem addAll_raw (g cap n i : Nat) (f : Nat → Nat → Bool) (Q : Nat → Bool) (hi : i < n) (w : World) (h : MV w (.slice (some ⟨g, 0, none⟩) n cap) n f) :
    Calls Tryz.prog 176 #[.pointer (some ⟨g, i * 2, none⟩), .agg #[.int .u64 (wk Q 0), .int .u64 (wk Q 1)]] w fun e w' => e = .returned (.tuple #[]) ∧ MV w' (.slice (some ⟨g, 0, none⟩) n cap) n (fun a b => f a b || (decide (a = i) && Q b)) ∧ Keeps [g] w w' :=
 addAll_any g cap n i f Q hi w h
theorem phas_raw (P : Nat → Bool) (j : Nat) (hj : j < 128) (w : World) :
    Calls Tryz.prog 73 #[.agg #[.int .u64 (wk P 0), .int .u64 (wk P 1)], .int .i64 j] w fun e w' => e = .returned (.bool (P j)) ∧ Keeps [] w w' := phas_any P j hj w
end Go.Proofs.YtnfojonmohijpaaGreatDoor
namespace Go.Proofs.YtnfojonmohijpaaGreatDoor
open Go.RowKit
theorem G.okb {s : ByteArray} {k : Kd} {d g i : Nat} {q : R (Pat × Nat)} (h : G s k d g i q) : ∀ x g1 j, q = .ok (x, g1) j → i ≤ j ∧ (i ≤ s.size → j ≤ s.size) ∧ (k = .piece ∨ k = .single → i < j) ∧ g ≤ g1 ∧ (g ≤ 9 → g1 ≤ 9) := by
 have A : ∀ i, 0 ≤ at' s i → i < s.size := fun i hi => at'_nn hi
 induction h with
 | one d g i g1 j x _ e ih => intro x' g1' j' e'; cases e'; have := ih x g1 j rfl; simp; omega
 | more d g i g1 j x q _ e _ ih ih2 =>
  intro x' g1' j' e'
  cases q with
  | bad l => cases e'
  | ok y l =>
   have h1 := ih x g1 j rfl
   have h2 := ih2 y.1 y.2 l rfl
   cases e'
   have := A j (by omega)
   simp; omega
 | wbad => intro x' g1' j' e'; cases e'
 | nil d g i e => intro x' g1' j' e'; cases e'; simp
 | cons d g i g1 j x q e _ _ ih ih2 =>
  intro x' g1' j' e'
  cases q with
  | bad l => cases e'
  | ok y l =>
   have h1 := ih x g1 j rfl
   have h2 := ih2 y.1 y.2 l rfl
   cases e'
   simp; omega
 | pbad => intro x' g1' j' e'; cases e'
 | rep d g i g1 j x q _ r ih =>
  intro x' g1' j' e'
  cases q with
  | bad l => cases e'
  | ok y l =>
   cases e'
   have h1 := ih x g1 j rfl
   have h2 := r.ok
   simp at h1 ⊢; omega
 | sbad => intro x' g1' j' e'; cases e'
 | deep => intro x' g1' j' e'; cases e'
 | grp d g i g1 j x e o _ c ih => intro x' g1' j' e'; cases e'; have := ih x g1 j rfl; have := A j (by omega); simp; omega
 | gopen => intro x' g1' j' e'; cases e'
 | gbad => intro x' g1' j' e'; cases e'
 | set d g i q e r =>
  intro x' g1' j' e'
  have := A i (by omega)
  cases q with
  | bad l => cases e'
  | ok y l =>
   cases e'
   have hU : ∀ {i f j}, SetU s i (.ok f j) → i < j ∧ j ≤ s.size := by
    intro i f j hu
    have hL : ∀ {f i q}, SetL s f i q → ∀ f' j, q = .ok f' j → i < j ∧ j ≤ s.size := by
     intro f i q hl
     induction hl with
     | done f i e => intro f' j e'; cases e'; have := A i (by omega); omega
     | more f r i j q e e2 _ ih => intro f' j' e'; have := ih f' j' e'; have := rangeS_ok e2; omega
     | bad => intro f' j e'; cases e'
    cases hu with
    | go r _ j' _ e hl => have := rangeS_ok e; have := hL hl f j rfl; omega
   rcases r with ⟨e94, q', hq, hm⟩ | ⟨_, hq⟩
   ·cases q' with
    | bad l => cases hm
    | ok f l => cases hm; have := hU hq; simp; omega
   ·have := hU hq; simp; omega
 | dot d g i e => intro x' g1' j' e'; cases e'; have := A i (by omega); simp; omega
 | esc d g i e =>
  intro x' g1' j' e'
  have := A i (by omega)
  cases r : escS s 0 (i + 1) with
  | bad l => rw [r] at e'; cases e'
  | ok y l => rw [r] at e'; cases e'; have := escS_ok r; simp; omega
 | no => intro x' g1' j' e'; cases e'
 | lit d g i a => intro x' g1' j' e'; cases e'; have := A i (by omega); simp; omega
structure Nd where
 kind : Nat
 f : Nat → Bool
 n : Nat
 mn : Nat
 mx : Int
 kids : List Nat
def ListN (nds : List Nd) (kind : Nat) (l : List Nat) (c : Nat) : Prop := l = [c] ∨ (l.length ≠ 1 ∧ ∃ nd, nds[c]? = some nd ∧ nd.kind = kind ∧ nd.kids = l)
def rep (nds : List Nd) : Pat → List Nat → Prop
 | .set f, l => ∃ k nd, l = [k] ∧ nds[k]? = some nd ∧ nd.kind = 98 ∧ nd.kids = [] ∧ ∀ n, n < 256 → nd.f n = f n
 | .grp j x, l => ∃ k nd c lw, l = [k] ∧ nds[k]? = some nd ∧ nd.kind = 103 ∧ nd.n = j ∧ nd.kids = [c] ∧ rep nds x lw ∧ ListN nds 111 lw c
 | .rep mn mx x, l => ∃ k nd c, l = [k] ∧ nds[k]? = some nd ∧ nd.kind = 114 ∧ nd.mn = mn ∧ nd.mx = mx ∧ nd.kids = [c] ∧ rep nds x [c]
 | .pnil, l => l = []
 | .pcons x r, l => ∃ k l', l = k :: l' ∧ rep nds x [k] ∧ rep nds r l'
 | .wone x, l => ∃ c lp, l = [c] ∧ rep nds x lp ∧ ListN nds 119 lp c
 | .wcons x r, l => ∃ c lp l', l = c :: l' ∧ (rep nds x lp ∧ ListN nds 119 lp c) ∧ rep nds r l'
theorem get_app {nds ext : List Nd} {k : Nat} {nd : Nd} (h : nds[k]? = some nd) : (nds ++ ext)[k]? = some nd := by
 obtain ⟨hk, e⟩ := List.getElem?_eq_some_iff.1 h
 rw [List.getElem?_append_left hk]; exact h
theorem ListN.app {nds : List Nd} {kind : Nat} {l : List Nat} {c : Nat} (h : ListN nds kind l c) (ext : List Nd) : ListN (nds ++ ext) kind l c := by
 rcases h with h | ⟨h, nd, e, r⟩
 ·exact Or.inl h
 ·exact Or.inr ⟨h, nd, get_app e, r⟩
theorem rep_app {nds : List Nd} (ext : List Nd) : ∀ {x : Pat} {l : List Nat}, rep nds x l → rep (nds ++ ext) x l := by
 intro x
 induction x with
 | set f => rintro l ⟨k, nd, rfl, e, r⟩; exact ⟨k, nd, rfl, get_app e, r⟩
 | grp j x ih => rintro l ⟨k, nd, c, lw, rfl, e, a, b, d, r, t⟩; exact ⟨k, nd, c, lw, rfl, get_app e, a, b, d, ih r, t.app ext⟩
 | rep mn mx x ih => rintro l ⟨k, nd, c, rfl, e, a, b, d, r, t⟩; exact ⟨k, nd, c, rfl, get_app e, a, b, d, r, ih t⟩
 | pnil => rintro l h; exact h
 | pcons x r ih1 ih2 => rintro l ⟨k, l', rfl, a, b⟩; exact ⟨k, l', rfl, ih1 a, ih2 b⟩
 | wone x ih => rintro l ⟨c, lp, rfl, a, b⟩; exact ⟨c, lp, rfl, ih a, b.app ext⟩
 | wcons x r ih1 ih2 => rintro l ⟨c, lp, l', rfl, ⟨a, b⟩, d⟩; exact ⟨c, lp, l', rfl, ⟨ih1 a, b.app ext⟩, ih2 d⟩
def KidsV (w : World) (av : List Nat) (kv : Value) (kids : List Nat) : Prop :=
 w.ownsRow 0 3 1 kv kids.length (kids.map fun (k : Nat) => Value.int .i64 (k : Int)) ∧ ∀ g, kv.ownBlock = some g → g ∉ av
def HoldsV (w : World) (av : List Nat) (hv : Value) (nd : Nd) : Prop :=
 (∃ a n c, hv = .slice a n c) ∧ (nd.kind = 98 → ∃ h, hv = .slice (some ⟨h, 0, none⟩) 256 256 ∧ HB w h nd.f ∧ h ∉ av)
def NdAt (w : World) (av : List Nat) (nd : Nd) (cs : List Value) : Prop :=
 ∃ hv kv, cs = [.int .u8 nd.kind, hv, .int .i64 nd.n, .int .i64 nd.mn, .int .i64 nd.mx, kv] ∧ HoldsV w av hv nd ∧ KidsV w av kv nd.kids
def avo (b : Nat) (v : Value) : List Nat := b :: v.ownBlock.toList
def avoA (b : Nat) (A : List Nat) (v : Value) : List Nat := b :: (v.ownBlock.toList ++ A)
def NInv (w : World) (b : Nat) (A : List Nat) (v : Value) (nds : List Nd) : Prop :=
 ∃ css : List (List Value), css.length = nds.length ∧ w.ownsRow 0 157 6 v nds.length css.flatten ∧ v.ownBlock ≠ some b ∧ (∀ g, v.ownBlock = some g → g ∉ A) ∧
  ∀ (k : Nat) (nd : Nd), nds[k]? = some nd → ∃ cs, css[k]? = some cs ∧ NdAt w (avoA b A v) nd cs
theorem KidsV.step {w w' : World} {av av' S : List Nat} {kv : Value} {kids : List Nat} (h : KidsV w av kv kids) (hk : Keeps S w w') (hS : ∀ x, x < w.heap.size → x ∈ S → x ∈ av) (ha : ∀ x, x < w.heap.size → x ∈ av' → x ∈ av) : KidsV w' av' kv kids :=
 ⟨h.1.keep hk fun g hg hs => h.2 g hg (hS g (h.1.lt g hg).2 hs), fun g hg hs => h.2 g hg (ha g (h.1.lt g hg).2 hs)⟩
theorem HoldsV.step {w w' : World} {av av' S : List Nat} {hv : Value} {nd : Nd} (h : HoldsV w av hv nd) (hk : Keeps S w w') (hS : ∀ x, x < w.heap.size → x ∈ S → x ∈ av) (ha : ∀ x, x < w.heap.size → x ∈ av' → x ∈ av) : HoldsV w' av' hv nd := by
 refine ⟨h.1, fun e => ?_⟩
 obtain ⟨x, rfl, H, hx⟩ := h.2 e
 exact ⟨x, rfl, H.keep hk fun hs => hx (hS x H.lt hs), fun hs => hx (ha x H.lt hs)⟩
theorem NdAt.step {w w' : World} {av av' S : List Nat} {nd : Nd} {cs : List Value} (h : NdAt w av nd cs) (hk : Keeps S w w') (hS : ∀ x, x < w.heap.size → x ∈ S → x ∈ av) (ha : ∀ x, x < w.heap.size → x ∈ av' → x ∈ av) : NdAt w' av' nd cs := by
 obtain ⟨hv, kv, e, h1, h2⟩ := h
 exact ⟨hv, kv, e, h1.step hk hS ha, h2.step hk hS ha⟩
theorem NInv.keepA {w w' : World} {b : Nat} {A : List Nat} {v : Value} {nds : List Nd} {S : List Nat} (h : NInv w b A v nds) (hk : Keeps S w w') (hS : ∀ x, x ∈ S → x = b ∨ x ∈ A ∨ w.heap.size ≤ x) : NInv w' b A v nds := by
 obtain ⟨css, hl, ho, hne, hnA, hn⟩ := h
 refine ⟨css, hl, ho.keep hk ?_, hne, hnA, ?_⟩
 ·intro g hg hs
  rcases hS g hs with rfl | h | h
  ·exact hne hg
  ·exact hnA g hg h
  ·have := (ho.lt g hg).2; omega
 ·intro k nd hk'
  obtain ⟨cs, e, hc⟩ := hn k nd hk'
  refine ⟨cs, e, hc.step hk ?_ fun _ _ h => h⟩
  intro x hx hs
  rcases hS x hs with rfl | h | h
  ·simp [avoA]
  ·simp [avoA, h]
  ·omega
theorem NInv.keep {w w' : World} {b : Nat} {A : List Nat} {v : Value} {nds : List Nd} {S : List Nat} (h : NInv w b A v nds) (hk : Keeps S w w') (hS : ∀ x, x ∈ S → x = b ∨ w.heap.size ≤ x) : NInv w' b A v nds :=
 h.keepA hk fun x hx => (hS x hx).elim Or.inl fun h => Or.inr (Or.inr h)
theorem NInv.less {w : World} {b : Nat} {A A' : List Nat} {v : Value} {nds : List Nd} (h : NInv w b A v nds) (hs : ∀ x, x ∈ A' → x ∈ A ∨ w.heap.size ≤ x) : NInv w b A' v nds := by
 obtain ⟨css, hl, ho, hne, hnA, hn⟩ := h
 refine ⟨css, hl, ho, hne, ?_, ?_⟩
 ·intro g hg hm
  rcases hs g hm with h | h
  ·exact hnA g hg h
  ·have := (ho.lt g hg).2; omega
 ·intro k nd hk'
  obtain ⟨cs, e, hc⟩ := hn k nd hk'
  refine ⟨cs, e, hc.step (Keeps.refl [] w) (by simp) ?_⟩
  intro x hx hm
  simp only [avoA, List.mem_cons, List.mem_append, Option.mem_toList] at hm ⊢
  rcases hm with h | h | h
  ·exact Or.inl h
  ·exact Or.inr (Or.inl h)
  ·rcases hs x h with h | h
   ·exact Or.inr (Or.inr h)
   ·omega
def Grow (b : Nat) (v v' : Value) (w w' : World) : Prop := Keeps (avo b v) w w' ∧ (v'.ownBlock = v.ownBlock ∨ ∃ g, v'.ownBlock = some g ∧ w.heap.size ≤ g)
theorem Grow.refl (b : Nat) (v : Value) (w : World) : Grow b v v w w := ⟨Keeps.refl _ _, Or.inl rfl⟩
theorem Grow.trans {b : Nat} {v v' v'' : Value} {w w' w'' : World} (h : Grow b v v' w w') (h' : Grow b v' v'' w' w'') : Grow b v v'' w w'' := by
 obtain ⟨k1, o1⟩ := h
 obtain ⟨k2, o2⟩ := h'
 refine ⟨⟨k2.os.trans k1.os, k2.tape.trans k1.tape, k2.output.trans k1.output, Nat.le_trans k1.size k2.size, ?_⟩, ?_⟩
 ·intro k hk hn
  refine (k2.block k (Nat.lt_of_lt_of_le hk k1.size) ?_).trans (k1.block k hk hn)
  simp only [avo, List.mem_cons, Option.mem_toList] at hn ⊢
  rintro (h | h)
  ·exact hn (Or.inl h)
  ·rcases o1 with e | ⟨g, e, hg⟩
   ·rw [e] at h; exact hn (Or.inr h)
   ·rw [e] at h; cases h; omega
 ·rcases o2 with e | ⟨g, e, hg⟩
  ·rw [e]; exact o1
  ·exact Or.inr ⟨g, e, Nat.le_trans k1.size hg⟩
theorem Grow.of {b : Nat} {v : Value} {w w' : World} {S : List Nat} (h : Keeps S w w') (hS : ∀ x, x ∈ S → x = b ∨ w.heap.size ≤ x) : Grow b v v w w' := by
 refine ⟨⟨h.os, h.tape, h.output, h.size, fun k hk hn => h.block k hk fun hs => ?_⟩, Or.inl rfl⟩
 rcases hS k hs with rfl | h'
 ·exact hn (by simp [avo])
 ·omega
theorem add_nd (b : Nat) (A : List Nat) (p : PS) (w : World) (hA : ∀ x, x ∈ A → x < w.heap.size) (nds : List Nd) (nd : Nd) (cs : List Value) (hp : PB w b p) (hi : NInv w b A p.nodes nds) (hc : NdAt w (avoA b A p.nodes) nd cs) (hn : nds.length ≤ 1000) :
    Calls Tryz.prog 136 #[.pointer (some ⟨b, 0, none⟩), .agg cs.toArray] w fun e w' =>
     ∃ v', e = .returned (.int .i64 nds.length) ∧ PB w' b { p with nodes := v' } ∧ NInv w' b A v' (nds ++ [nd]) ∧ Grow b p.nodes v' w w' := by
 obtain ⟨css, hl, ho, hne, hnA, hns⟩ := hi
 obtain ⟨hv, kv, rfl, h1, h2⟩ := hc
 have kv1 : kv.oneCell' = true := by
  rcases h2.1.2 with ⟨rfl, _⟩ | ⟨g, cap, cur, rfl, _⟩ <;> rfl
 refine (add_any b p w nds.length css.flatten nd.kind nd.n nd.mn nd.mx hv kv (by obtain ⟨a, n, c, e⟩ := h1.1; rw [e]; rfl) kv1 hp ho hne hn).mono ?_
 rintro e w' ⟨g, cap, rfl, hp', ho', hg, hk⟩
 refine ⟨_, rfl, hp', ⟨css ++ [[.int .u8 nd.kind, hv, .int .i64 nd.n, .int .i64 nd.mn, .int .i64 nd.mx, kv]], by simp [hl], ?_, ?_, ?_, ?_⟩, ?_⟩
 ·simpa using ho'
 ·intro e
  have e' : g = b := by simpa [Value.ownBlock] using e
  subst e'
  rcases hg with h | h
  ·exact hne h
  ·have := hp.lt; omega
 ·intro g' hg' hm
  have e' : g = g' := by simpa [Value.ownBlock] using hg'
  subst e'
  rcases hg with h | h
  ·exact hnA _ h hm
  ·have := hA _ hm; omega
 ·have ha : ∀ x, x < w.heap.size → x ∈ avoA b A (.slice (some ⟨g, 0, none⟩) (nds.length + 1) cap) → x ∈ avoA b A p.nodes := by
     intro x hx hm
     simp only [avoA, Value.ownBlock, Option.toList_some, List.mem_cons, List.mem_append, List.not_mem_nil, or_false, Option.mem_toList] at hm ⊢
     rcases hm with h | h | h
     ·exact Or.inl h
     ·subst h
      rcases hg with h | h
      ·exact Or.inr (Or.inl h)
      ·omega
     ·exact Or.inr (Or.inr h)
  have hsub : ∀ x, x < w.heap.size → x ∈ b :: p.nodes.ownBlock.toList → x ∈ avoA b A p.nodes := by
   intro x _ hm
   simp only [avoA, List.mem_cons, List.mem_append] at hm ⊢
   rcases hm with h | h
   ·exact Or.inl h
   ·exact Or.inr (Or.inl h)
  intro k nd' hk'
  by_cases hlt : k < nds.length
  ·rw [List.getElem?_append_left hlt] at hk'
   obtain ⟨cs, e, hc⟩ := hns k nd' hk'
   exact ⟨cs, by rw [List.getElem?_append_left (by omega)]; exact e, hc.step hk hsub ha⟩
  ·have hke : k = nds.length := by
      have := (List.getElem?_eq_some_iff.1 hk').1
      simp at this; omega
   subst hke
   have e : nd = nd' := by simpa using hk'
   subst e
   refine ⟨[.int .u8 nd.kind, hv, .int .i64 nd.n, .int .i64 nd.mn, .int .i64 nd.mx, kv], by rw [← hl]; simp, ?_⟩
   exact NdAt.step ⟨hv, kv, rfl, h1, h2⟩ hk hsub ha
 ·refine ⟨hk, ?_⟩
  rcases hg with h | h
  ·exact Or.inl (by rw [h]; rfl)
  ·exact Or.inr ⟨g, rfl, h⟩
end Go.Proofs.YtnfojonmohijpaaGreatDoor
namespace Go.Proofs.YtnfojonmohijpaaGreatDoor
open Go.RowKit
def endOf {α : Type} (s : ByteArray) : R α → Nat
 | .ok _ j => j
 | .bad _ => s.size
def After (p : PS) (q : R (Pat × Nat)) (p' : PS) : Prop :=
 p'.s = p.s ∧ p'.root = p.root ∧ p'.bg = p.bg ∧ p'.en = p.en ∧ p'.deep = p.deep ∧
 match q with
 | .ok (_, g1) j => p'.ix = j ∧ p'.gr = g1 ∧ p'.bad = p.bad
 | .bad j => p'.bad = (j : Int)
def repK (nds : List Nd) : Kd → Pat → Nat → Prop
 | .single, x, k => rep nds x [k]
 | .piece, x, k => rep nds x [k]
 | .way, x, k => ∃ lp, rep nds x lp ∧ ListN nds 119 lp k
 | .ways, x, k => ∃ lw, rep nds x lw ∧ ListN nds 111 lw k
def bndL : Kd → Nat
 | .single => 1
 | _ => 0
def bndR : Kd → Nat
 | .way => 1
 | .ways => 2
 | _ => 0
structure Pre (b : Nat) (A : List Nat) (p : PS) (w : World) (nds : List Nd) : Prop where
 pb : PB w b p
 inv : NInv w b A p.nodes nds
 avl : ∀ x, x ∈ A → x < w.heap.size
 good : p.bad < 0
 sz : p.s.size ≤ 60
 ix : p.ix ≤ p.s.size
 room : nds.length + 4 * (p.s.size - p.ix) + 2 ≤ 1000
 gr : p.gr ≤ 9
 deep : p.deep ≤ 6
def Post (kd : Kd) (b : Nat) (A : List Nat) (p : PS) (w : World) (nds : List Nd) (e : Ending) (w' : World) : Prop :=
 ∃ (q : R (Pat × Nat)) (k : Nat) (p' : PS) (ext : List Nd), e = .returned (.int .i64 k) ∧ G p.s kd p.deep p.gr p.ix q ∧ After p q p' ∧ PB w' b p' ∧ NInv w' b A p'.nodes (nds ++ ext) ∧
  ext.length + bndL kd ≤ 4 * (endOf p.s q - p.ix) + bndR kd ∧ (∀ x g j, q = .ok (x, g) j → repK (nds ++ ext) kd x k) ∧ Grow b p.nodes p'.nodes w w'
theorem PB.gd {w : World} {b : Nat} {p : PS} (h : PB w b p) :
    w.cell? ⟨b, 5, none⟩ = some (.int .i64 p.gr) ∧ w.cell? ⟨b, 8, none⟩ = some (.int .i64 p.deep) ∧ w.frozen? ⟨b, 5, none⟩ = false ∧ w.frozen? ⟨b, 8, none⟩ = false := by
 unfold PB at h
 simp [World.cell?, World.frozen?, h, PS.cells]
theorem PB.setGr {w : World} {b : Nat} {p : PS} (h : PB w b p) (x : Nat) : PB (w.setCell ⟨b, 5, none⟩ (.int .i64 x)) b { p with gr := x } := by
 unfold PB at *
 simp [World.setCell, Array.getElem?_modify, h, PS.cells]
theorem PB.setDeep {w : World} {b : Nat} {p : PS} (h : PB w b p) (x : Nat) : PB (w.setCell ⟨b, 8, none⟩ (.int .i64 x)) b { p with deep := x } := by
 unfold PB at *
 simp [World.setCell, Array.getElem?_modify, h, PS.cells]
theorem Keeps.setB {b : Nat} {a w : World} (h : Keeps [b] a w) (o : Nat) (u : Value) : Keeps [b] a (w.setCell ⟨b, o, none⟩ u) := h.setCell (by simp) u
theorem sub_b {b : Nat} {w : World} : ∀ x, x ∈ [b] → x = b ∨ w.heap.size ≤ x := by simp
theorem sub_nil {b : Nat} {w : World} : ∀ x, x ∈ ([] : List Nat) → x = b ∨ w.heap.size ≤ x := by simp
theorem kids_one {w : World} (k : Nat) (av : List Nat) (hav : ∀ x, x ∈ av → x < w.heap.size) : KidsV (w.alloc (.cells #[.int .i64 (k : Int)] 3)) av (.slice (some ⟨w.heap.size, 0, none⟩) 1 1) [k] := by
 refine ⟨⟨rfl, Or.inr ⟨w.heap.size, 1, #[.int .i64 (k : Int)], rfl, Nat.zero_le _, heap_alloc_new w _, Nat.le_refl _, by unfold maxLen; omega, rfl, rfl⟩⟩, ?_⟩
 intro g hg hm
 have : g = w.heap.size := by simpa [Value.ownBlock] using hg.symm
 have := hav g hm
 omega
theorem kids_nil (w : World) (av : List Nat) : KidsV w av (.slice none 0 0) [] := ⟨World.ownsRow_nil _ _ _ _, by simp [Value.ownBlock]⟩
theorem NInv.av {w : World} {b : Nat} {A : List Nat} {v : Value} {nds : List Nd} (h : NInv w b A v nds) (hb : b < w.heap.size) (hA : ∀ x, x ∈ A → x < w.heap.size) : ∀ x, x ∈ avoA b A v → x < w.heap.size := by
 obtain ⟨css, hl, ho, hne, hnA, hn⟩ := h
 intro x hx
 simp only [avoA, List.mem_cons, List.mem_append, Option.mem_toList] at hx
 rcases hx with rfl | h | h
 ·exact hb
 ·exact (ho.lt x h).2
 ·exact hA x h
theorem needed_deep (p : PS) (c : Int) : (p.needed c).deep = p.deep := by unfold PS.needed PS.failed; split <;> (try split) <;> rfl
theorem needed_nodes (p : PS) (c : Int) : (p.needed c).nodes = p.nodes := by unfold PS.needed PS.failed; split <;> (try split) <;> rfl
theorem needed_root (p : PS) (c : Int) : (p.needed c).root = p.root := by unfold PS.needed PS.failed; split <;> (try split) <;> rfl
theorem needed_bg (p : PS) (c : Int) : (p.needed c).bg = p.bg := by unfold PS.needed PS.failed; split <;> (try split) <;> rfl
theorem needed_en (p : PS) (c : Int) : (p.needed c).en = p.en := by unfold PS.needed PS.failed; split <;> (try split) <;> rfl
theorem needed_gr (p : PS) (c : Int) : (p.needed c).gr = p.gr := by unfold PS.needed PS.failed; split <;> (try split) <;> rfl
theorem endOf_le {s : ByteArray} {k : Kd} {d g i : Nat} {q : R (Pat × Nat)} (h : G s k d g i q) (hi : i ≤ s.size) : endOf s q ≤ s.size := by
 cases q with
 | bad j => exact Nat.le_refl _
 | ok x j => exact (h.okb x.1 x.2 j rfl).2.1 hi
theorem get_last (nds : List Nd) (nd : Nd) : (nds ++ [nd])[nds.length]? = some nd := by simp
theorem get_last2 (nds ext : List Nd) (nd : Nd) : (nds ++ ext ++ [nd])[nds.length + ext.length]? = some nd := by rw [← List.length_append]; simp
def Shorter (n : Nat) : Prop := ∀ (b : Nat) (A : List Nat) (p : PS) (w : World) (nds : List Nd), Pre b A p w nds → p.s.size - p.ix < n →
 Calls Tryz.prog 82 #[.pointer (some ⟨b, 0, none⟩)] w (Post .ways b A p w nds)
set_option maxRecDepth 100000 in
set_option maxHeartbeats 2000000 in
theorem group_any (n : Nat) (IH : Shorter n) (b : Nat) (A : List Nat) (p : PS) (w : World) (nds : List Nd) (h : Pre b A p w nds) (hc : at' p.s p.ix = 40) (hn : p.s.size - p.ix ≤ n) :
    Calls Tryz.prog 261 #[.pointer (some ⟨b, 0, none⟩)] w (Post .single b A p w nds) := by
 obtain ⟨hp, hinv, hav0, hb, hs, hpi, hroom, hgr, hdp⟩ := h
 have hlt := at'_nn (s := p.s) (i := p.ix) (by omega)
 obtain ⟨c0, h6, h7, f6, f7⟩ := hp.main
 obtain ⟨h5, h8, f5, f8⟩ := hp.gd
 by_cases hd6 : p.deep = 6 ∨ p.gr = 9
 ·have HG : Hid (G p.s .single p.deep p.gr p.ix (.bad p.ix)) := .deep _ _ _ hc hd6
  have hfin : ∀ w', w' = w.setCell ⟨b, 6, none⟩ (.int .i64 p.ix) → Post .single b A p w nds (.returned (.int .i64 0)) w' := by
   rintro w' rfl
   refine ⟨.bad p.ix, 0, { p with bad := (p.ix : Int) }, [], rfl, HG.out, ⟨rfl, rfl, rfl, rfl, rfl, rfl⟩, hp.setBad _, ?_, ?_, by simp, Grow.of ((Keeps.refl [b] w).setB 6 _) sub_b⟩
   ·rw [List.append_nil]; exact hinv.keep ((Keeps.refl [b] w).setB 6 _) sub_b
   ·simp [endOf, bndL, bndR]; omega
  have FIN : Hid (∀ w', w' = w.setCell ⟨b, 6, none⟩ (.int .i64 p.ix) → Post .single b A p w nds (.returned (.int .i64 0)) w') := hfin
  clear hfin HG hc
  by_cases hd : p.deep = 6
  ·have hdi : ((p.deep : Int) == 6) = true := by simpa using (by omega : (p.deep : Int) = 6)
   clear hd hd6
   go_enter Tryz.func261, Tryz.ntmps261
   go_wp2_with (first | (go_at_call 84; refine (fail_good b p _ hp hb).mono ?_; rintro e w' ⟨rfl, rfl⟩))
   go_ret
   exact FIN.out _ rfl
  ·have hdi : ((p.deep : Int) == 6) = false := by simpa using (by omega : ¬ (p.deep : Int) = 6)
   have hgi : ((p.gr : Int) == 9) = true := by simpa using (by omega : (p.gr : Int) = 9)
   clear hd hd6
   go_enter Tryz.func261, Tryz.ntmps261
   go_wp2_with (first | (go_at_call 84; refine (fail_good b p _ hp hb).mono ?_; rintro e w' ⟨rfl, rfl⟩))
   go_ret
   exact FIN.out _ rfl
 ·have hdi : ((p.deep : Int) == 6) = false := by simpa using (by omega : ¬ (p.deep : Int) = 6)
  have hgi : ((p.gr : Int) == 9) = false := by simpa using (by omega : ¬ (p.gr : Int) = 9)
  have hp1 := ((hp.setIx (p.ix + 1)).setDeep (p.deep + 1)).setGr (p.gr + 1)
  have hk1 := (((Keeps.refl [b] w).setB 7 (.int .i64 ((p.ix + 1 : Nat) : Int))).setB 8 (.int .i64 ((p.deep + 1 : Nat) : Int))).setB 5 (.int .i64 ((p.gr + 1 : Nat) : Int))
  have hinv1 := hinv.keep hk1 sub_b
  have hg1 := Grow.of (v := p.nodes) hk1 sub_b
  have hb1 : (0 : Int) ≤ (p.ix : Int) ∧ (p.ix : Int) ≤ 60 ∧ (0 : Int) ≤ (p.gr : Int) ∧ (p.gr : Int) ≤ 9 ∧ (0 : Int) ≤ (p.deep : Int) ∧ (p.deep : Int) ≤ 6 := by omega
  obtain ⟨b1, b2, b3, b4, b5, b6⟩ := hb1
  have IH1 := IH b A { p with ix := p.ix + 1, deep := p.deep + 1, gr := p.gr + 1 } _ nds ⟨hp1, hinv1, by simpa using hav0, hb, hs, hlt, by simp; omega, by simp; omega, by simp; omega⟩ (by simp; omega)
  have HO : Hid (¬ (p.deep = 6 ∨ p.gr = 9)) := hd6
  have HC : Hid (at' p.s p.ix = 40) := hc
  clear hd6 hc IH
  go_enter Tryz.func261, Tryz.ntmps261
  go_wp2_with (first | (go_at_call 82; refine IH1.mono ?_; rintro e w1 ⟨q, k, p2, ext, rfl, hG, hA, hp2, hinv2, hbd, hrep, hgrow⟩))
  obtain ⟨a1, a2, a3, a4, a5, a6⟩ := hA
  have hs2 : p2.s.size ≤ 60 := by rw [a1]; exact hs
  refine (need_any b p2 41 _ hp2 (by omega) hs2).mono ?_
  rintro e w2 ⟨rfl, hp3, hk3⟩
  have hd3 : (p2.needed 41).deep = p.deep + 1 := by rw [needed_deep, a5]
  obtain ⟨_, x8, _, y8⟩ := hp3.gd
  have z8 : w2.cell? ⟨b, 8, none⟩ = some (.int .i64 ((p.deep : Int) + 1)) := by rw [x8, hd3]; rfl
  clear x8
  have hinv3 : NInv w2 b A (p2.needed 41).nodes (nds ++ ext) := by rw [needed_nodes]; exact hinv2.keep hk3 sub_b
  have hp4 := hp3.setDeep p.deep
  have hk4 := (Keeps.refl [b] w2).setB 8 (.int .i64 (p.deep : Int))
  have hinv4 := hinv3.keep hk4 sub_b
  have hg4 := (hg1.trans hgrow).trans ((Grow.of (v := p2.nodes) hk3 sub_b).trans (Grow.of (v := p2.nodes) hk4 sub_b))
  clear hp1 hk1 hinv1 hg1 IH1 hp2 hinv2 hgrow hk3 hp3 hinv3 hk4
  go_wp2_with fail
  generalize hW : w2.setCell ⟨b, 8, none⟩ (.int .i64 (p.deep : Int)) = W at *
  have hWs : W.heap.size = w2.heap.size := by rw [← hW]; simp
  have havW : ∀ x, x ∈ A → x < W.heap.size := by
   intro x hx
   have := hav0 x hx
   have := hg4.1.size
   omega
  have hkA := (Keeps.refl [] W).alloc (.cells #[.int .i64 (k : Int)] 3)
  have hp5 := hp4.keep hkA (by simp)
  have hinv5 := hinv4.keep hkA sub_nil
  have hcs : NdAt (W.alloc (.cells #[.int .i64 (k : Int)] 3)) (avoA b A (p2.needed 41).nodes) { kind := 103, f := fun _ => false, n := p.gr + 1, mn := 0, mx := 0, kids := [k] } [.int .u8 103, .slice none 0 0, .int .i64 ((p.gr + 1 : Nat) : Int), .int .i64 0, .int .i64 0, .slice (some ⟨W.heap.size, 0, none⟩) 1 1] :=
   ⟨.slice none 0 0, _, rfl, ⟨⟨_, _, _, rfl⟩, by simp⟩, kids_one k _ (hinv4.av hp4.lt havW)⟩
  rw [hWs] at hcs
  have hlen : (nds ++ ext).length ≤ 1000 := by
   have := endOf_le hG (show p.ix + 1 ≤ p.s.size from hlt)
   simp only [bndL, bndR] at hbd
   simp only [List.length_append]
   omega
  refine (add_nd b A { p2.needed 41 with deep := p.deep } _ (fun x hx => Nat.lt_of_lt_of_le (havW x hx) hkA.size) (nds ++ ext) _ _ hp5 hinv5 hcs hlen).mono ?_
  rintro e w5 ⟨v', rfl, hp6, hinv6, hg6⟩
  have hgA := hg4.trans ((Grow.of (v := p2.nodes) hkA sub_nil))
  have hgB := hgA.trans (show Grow b p2.nodes v' _ w5 by rw [← needed_nodes p2 41]; exact hg6)
  clear hp5 hinv5 hcs hg6 hkA hg4 hgA hp4 hinv4
  go_wp2_with fail
  go_ret
  have hle := endOf_le hG (show p.ix + 1 ≤ p.s.size from hlt)
  rw [List.append_assoc] at hinv6
  simp only [bndL, bndR] at hbd
  cases q with
  | bad j =>
   have hj : (p2.needed 41).bad = (j : Int) := by
    have : p2.cur = -1 := by unfold PS.cur; rw [if_neg (by rw [a6]; omega)]
    unfold PS.needed PS.failed
    rw [if_neg (by omega), if_neg (by rw [a6]; omega), a6]
   refine ⟨.bad j, _, { p2.needed 41 with nodes := v', deep := p.deep }, ext ++ [{ kind := 103, f := fun _ => false, n := p.gr + 1, mn := 0, mx := 0, kids := [k] }], rfl, .gbad _ _ _ _ HC.out HO.out hG, ⟨?_, ?_, ?_, ?_, rfl, hj⟩, hp6, hinv6, ?_, by simp, hgB⟩
   ·exact (needed_s p2 41).trans a1
   ·exact (needed_root p2 41).trans a2
   ·exact (needed_bg p2 41).trans a3
   ·exact (needed_en p2 41).trans a4
   ·simp only [endOf, bndL, bndR, List.length_append, List.length_singleton] at hbd ⊢; omega
  | ok xg j =>
   obtain ⟨x, g1⟩ := xg
   obtain ⟨e1, e2, e3⟩ := a6
   have hok := hG.okb x g1 j rfl
   by_cases h41 : at' p.s j = 41
   ·have hcur : p2.cur = 41 := by unfold PS.cur; rw [e3, if_pos hb, a1, e1]; exact h41
    refine ⟨.ok (.grp (p.gr + 1) x, g1) (j + 1), _, { p2.needed 41 with nodes := v', deep := p.deep }, ext ++ [{ kind := 103, f := fun _ => false, n := p.gr + 1, mn := 0, mx := 0, kids := [k] }], rfl, .grp _ _ _ _ _ _ HC.out HO.out hG h41, ⟨?_, ?_, ?_, ?_, rfl, ?_, ?_, ?_⟩, hp6, hinv6, ?_, ?_, hgB⟩
    ·exact (needed_s p2 41).trans a1
    ·exact (needed_root p2 41).trans a2
    ·exact (needed_bg p2 41).trans a3
    ·exact (needed_en p2 41).trans a4
    ·simp [PS.needed, hcur, e1]
    ·simp [PS.needed, hcur, e2]
    ·simp [PS.needed, hcur, e3]
    ·simp only [endOf, bndL, bndR, List.length_append, List.length_singleton] at hbd ⊢; omega
    ·intro x' g' j' e'
     cases e'
     obtain ⟨lw, hr1, hr2⟩ := hrep x g1 j rfl
     rw [← List.append_assoc]
     exact ⟨_, { kind := 103, f := fun _ => false, n := p.gr + 1, mn := 0, mx := 0, kids := [k] }, k, lw, rfl, get_last2 _ _ _, rfl, rfl, rfl, rep_app _ hr1, hr2.app _⟩
   ·have hcur : ¬ p2.cur = 41 := by unfold PS.cur; rw [e3, if_pos hb, a1, e1]; exact h41
    have hj : (p2.needed 41).bad = (j : Int) := by
     unfold PS.needed PS.failed
     rw [if_neg hcur, if_pos (by rw [e3]; exact hb)]
     show (p2.ix : Int) = j
     rw [e1]
    refine ⟨.bad j, _, { p2.needed 41 with nodes := v', deep := p.deep }, ext ++ [{ kind := 103, f := fun _ => false, n := p.gr + 1, mn := 0, mx := 0, kids := [k] }], rfl, .gopen _ _ _ _ _ _ HC.out HO.out hG h41, ⟨?_, ?_, ?_, ?_, rfl, hj⟩, hp6, hinv6, ?_, by simp, hgB⟩
    ·exact (needed_s p2 41).trans a1
    ·exact (needed_root p2 41).trans a2
    ·exact (needed_bg p2 41).trans a3
    ·exact (needed_en p2 41).trans a4
    ·simp only [endOf, bndL, bndR, List.length_append, List.length_singleton] at hbd ⊢; omega
end Go.Proofs.YtnfojonmohijpaaGreatDoor
