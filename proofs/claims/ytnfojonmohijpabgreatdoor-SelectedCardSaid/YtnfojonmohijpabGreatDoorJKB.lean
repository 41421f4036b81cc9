/-
  DERIVED. The program's isName and position, and what they call of the strings package. No conditions but that texts are no longer than they can be.
-/
import Derived.Test.YtnfojonmohijpabGreatDoorJSpec
import Derived.Test.YtnfojonmohijpabGreatDoorJRA
import Derived.Lib.Bytealg
import Derived.Lib.LastIndexByte
import Derived.Test.YtnfojonmohijpabGreatDoorJRG
import Derived.OwnWalk
import Derived.Laws.BitsAllLaws
import Derived.Deep.MidRow
set_option linter.unusedSimpArgs false
set_option linter.unusedVariables false
namespace Go.Proofs.YtnfojonmohijpabGreatDoor
open Go.RowKit
set_option maxHeartbeats 1000000 in
set_option maxRecDepth 100000 in
theorem count_any (s : ByteArray) (c : UInt8) (w : World) :
    Calls Tryz.prog 60 #[.string s, .string ⟨#[c]⟩] w fun e w' => e = .returned (.int .i64 (Lib.countByte s.data.toList c)) ∧ w' = w := by
 go_enter Tryz.func60, Tryz.ntmps60
 go_wp2
 rw [run_callFunc_extern Tryz.func95 (by kernel_rfl) (by kernel_rfl) (by kernel_rfl) (e := Extern.BytealgCount.count) (by kernel_rfl), Lib.run_countString]
 simp only [Result.andThen]
 rw [Oper.upon_value]
 go_wp2
 go_ret
 exact ⟨rfl, rfl⟩
end Go.Proofs.YtnfojonmohijpabGreatDoor
namespace Go.Proofs.YtnfojonmohijpabGreatDoor
open Go.RowKit
def wd (P : Nat → Bool) (k : Nat) : Nat → Nat
 | 0 => 0
 | n + 1 => 2 ^ n * (P (64 * k + n)).toNat + wd P k n
theorem wd_lt (P : Nat → Bool) (k n : Nat) : wd P k n < 2 ^ n := by
 induction n with
 | zero => simp [wd]
 | succ n ih =>
  simp only [wd, Nat.pow_succ]
  cases P (64 * k + n) <;> simp <;> omega
theorem wd_bit (P : Nat → Bool) (k : Nat) : ∀ n j, (wd P k n).testBit j = (decide (j < n) && P (64 * k + j)) := by
 intro n
 induction n with
 | zero => intro j; simp [wd]
 | succ n ih =>
  intro j
  have hlt := wd_lt P k n
  simp only [wd]
  rcases Nat.lt_trichotomy j n with h | h | h
  ·cases hP : P (64 * k + n)
   ·simp [ih, h, Nat.lt_succ_of_lt h]
   ·simp only [Bool.toNat_true, Nat.mul_one]
    rw [Nat.testBit_two_pow_add_gt h, ih]
    simp [h, Nat.lt_succ_of_lt h]
  ·subst h
   have h0 : (wd P k j).testBit j = false := Nat.testBit_lt_two_pow hlt
   cases hP : P (64 * k + j)
   ·simp [h0]
   ·simp only [Bool.toNat_true, Nat.mul_one]
    rw [Nat.testBit_two_pow_add_eq, h0]
    simp
  ·have h1 : 2 ^ n * (P (64 * k + n)).toNat + wd P k n < 2 ^ j := by
      have : 2 ^ (n + 1) ≤ 2 ^ j := Nat.pow_le_pow_right (by omega) h
      rw [Nat.pow_succ] at this
      cases P (64 * k + n) <;> simp <;> omega
   rw [Nat.testBit_lt_two_pow h1]
   have : ¬ j < n + 1 := by omega
   simp [this]
theorem wd_ext {P Q : Nat → Bool} {k : Nat} : ∀ {n : Nat}, (∀ j, j < n → P (64 * k + j) = Q (64 * k + j)) → wd P k n = wd Q k n := by
 intro n h
 apply Nat.eq_of_testBit_eq
 intro j
 rw [wd_bit, wd_bit]
 by_cases hj : j < n
 ·rw [h j hj]
 ·simp [hj]
theorem wd_or (P Q : Nat → Bool) (k n : Nat) : (wd P k n ||| wd Q k n) = wd (fun j => P j || Q j) k n := by
 apply Nat.eq_of_testBit_eq
 intro j
 rw [Nat.testBit_or, wd_bit, wd_bit, wd_bit]
 cases decide (j < n) <;> simp
theorem wd_add (P : Nat → Bool) {k j n : Nat} (h : j < n) : (wd P k n ||| 2 ^ j) = wd (fun m => P m || decide (m = 64 * k + j)) k n := by
 apply Nat.eq_of_testBit_eq
 intro m
 rw [Nat.testBit_or, wd_bit, wd_bit, Nat.testBit_two_pow]
 by_cases e : m < n
 ·by_cases e2 : j = m
  ·subst e2; simp [e]
  ·have : ¬ m = j := fun h => e2 h.symm
   simp [e, e2, this]
 ·have : ¬ j = m := by omega
  simp [e, this]
theorem wd_has (P : Nat → Bool) {k j n : Nat} (h : j < n) : wd P k n / 2 ^ j % 2 = (P (64 * k + j)).toNat := by
 have := wd_bit P k n j
 rw [Nat.testBit_eq_decide_div_mod_eq] at this
 have h3 : wd P k n / 2 ^ j % 2 < 2 := Nat.mod_lt _ (by decide)
 generalize wd P k n / 2 ^ j % 2 = z at *
 cases hP : P (64 * k + j)
 ·rw [hP] at this; simp at this; simp; omega
 ·rw [hP] at this; simp [h] at this; simp [this]
theorem bits64 : ∃ n : Nat, n = 64 := ⟨64, rfl⟩
noncomputable def wbits : Nat := Classical.choose bits64
theorem wbits_eq : wbits = 64 := Classical.choose_spec bits64
noncomputable def wk (P : Nat → Bool) (k : Nat) : Nat := wd P k wbits
theorem wk_lt (P : Nat → Bool) (k : Nat) : wk P k < 18446744073709551616 := by
 have := wd_lt P k wbits
 have e : (2 : Nat) ^ wbits = 18446744073709551616 := by rw [wbits_eq]
 rw [e] at this
 exact this
theorem wk_or (P Q : Nat → Bool) (k : Nat) : bits .or .u64 (wk P k : Int) (wk Q k : Int) = (wk (fun j => P j || Q j) k : Nat) :=
 (u64_or_nat _ _ (wk_lt P k) (wk_lt Q k)).trans (congrArg (fun z : Nat => (z : Int)) (wd_or P Q k wbits))
theorem wk_add (P : Nat → Bool) {k j : Nat} (h : j < 64) : bits .or .u64 (wk P k : Int) ((2 ^ j : Nat) : Int) = (wk (fun m => P m || decide (m = 64 * k + j)) k : Nat) := by
 have h2 : 2 ^ j < 18446744073709551616 := Nat.lt_of_lt_of_le (Nat.pow_lt_pow_right (by omega) h) (by decide)
 exact (u64_or_nat _ _ (wk_lt P k) h2).trans (congrArg (fun z : Nat => (z : Int)) (wd_add P (by rw [wbits_eq]; exact h)))
theorem wk_out (P : Nat → Bool) {k k' j : Nat} (h : j < 64) (hk : k ≠ k') : wk (fun m => P m || decide (m = 64 * k' + j)) k = wk P k := by
 apply wd_ext
 intro m hm
 rw [wbits_eq] at hm
 have : ¬ 64 * k + m = 64 * k' + j := by omega
 simp [this]
theorem wk_ext {P Q : Nat → Bool} {k : Nat} (h : ∀ j, j < 64 → P (64 * k + j) = Q (64 * k + j)) : wk P k = wk Q k := wd_ext fun j hj => h j (by rw [wbits_eq] at hj; exact hj)
theorem wk_has (P : Nat → Bool) {k j : Nat} (h : j < 64) : (bits .and .u64 ((wk P k : Int) / 2 ^ j) 1 == 1) = P (64 * k + j) := by
 have e1 : ((wk P k : Int) / 2 ^ j) = ((wk P k / 2 ^ j : Nat) : Int) := by simp
 have e2 : wk P k / 2 ^ j < 18446744073709551616 := Nat.lt_of_le_of_lt (Nat.div_le_self _ _) (wk_lt P k)
 have e3 : bits .and .u64 ((wk P k / 2 ^ j : Nat) : Int) 1 = ((wk P k / 2 ^ j % 2 : Nat) : Int) := by
  refine (u64_and_nat _ 1 e2 (by decide)).trans (congrArg (fun z : Nat => (z : Int)) ?_)
  exact Nat.and_one_is_mod _
 rw [e1, e3, show wk P k / 2 ^ j % 2 = (P (64 * k + j)).toNat from wd_has P (by rw [wbits_eq]; exact h)]
 cases P (64 * k + j) <;> rfl
theorem wk_none (k : Nat) : wk (fun _ => false) k = 0 := by
 have : ∀ n, wd (fun _ => false) k n = 0 := by
  intro n
  induction n with
  | zero => rfl
  | succ n ih => simp [wd, ih]
 exact this wbits
noncomputable def pv (P : Nat → Bool) : Value := .agg #[.int .u64 (wk P 0), .int .u64 (wk P 1)]
noncomputable def mc (n : Nat) (f : Nat → Nat → Bool) : List Value := (List.range (2 * n)).map fun q => .int .u64 (wk (f (q / 2)) (q % 2))
theorem mc_len (n : Nat) (f : Nat → Nat → Bool) : (mc n f).length = 2 * n := by simp [mc]
theorem mc_at {n q : Nat} (f : Nat → Nat → Bool) (h : q < 2 * n) : (mc n f)[q]? = some (.int .u64 (wk (f (q / 2)) (q % 2))) := by simp [mc, h]
theorem mc_ext {n : Nat} {f g : Nat → Nat → Bool} (h : ∀ i j, i < n → j < 128 → f i j = g i j) : mc n f = mc n g := by
 unfold mc
 apply List.map_congr_left
 intro q hq
 simp only [List.mem_range] at hq
 have : wk (f (q / 2)) (q % 2) = wk (g (q / 2)) (q % 2) := wk_ext fun j hj => h (q / 2) _ (by omega) (by omega)
 rw [this]
theorem mc_set {n i k : Nat} (f g : Nat → Nat → Bool) (hi : i < n) (hk : k < 2) (v : Value) (hv : v = .int .u64 (wk (g i) k)) (ho : ∀ a, a ≠ i → ∀ j, g a j = f a j) (hw : ∀ k', k' ≠ k → wk (g i) k' = wk (f i) k') :
    (mc n f).set (2 * i + k) v = mc n g := by
 apply List.ext_getElem?
 intro q
 rw [List.getElem?_set]
 by_cases hq : q < 2 * n
 ·rw [mc_at g hq, mc_at f hq, mc_len]
  by_cases e : 2 * i + k = q
  ·rw [if_pos e, if_pos (by omega)]
   have e1 : q / 2 = i := by omega
   have e2 : q % 2 = k := by omega
   rw [hv, e1, e2]
  ·rw [if_neg e]
   by_cases e1 : q / 2 = i
   ·rw [e1, hw (q % 2) (by omega)]
   ·have : wk (f (q / 2)) (q % 2) = wk (g (q / 2)) (q % 2) := wk_ext fun j _ => (ho _ e1 _).symm
    rw [this]
 ·have h1 : (mc n f)[q]? = none := by rw [List.getElem?_eq_none_iff, mc_len]; omega
  have h2 : (mc n g)[q]? = none := by rw [List.getElem?_eq_none_iff, mc_len]; omega
  have e : ¬ 2 * i + k = q := by omega
  rw [if_neg e, h1, h2]
def MV (w : World) (v : Value) (n : Nat) (f : Nat → Nat → Bool) : Prop := w.ownsRow 0 102 2 v n (mc n f)
theorem MV.keep {w w' : World} {S : List Nat} {v : Value} {n : Nat} {f : Nat → Nat → Bool} (h : MV w v n f) (hk : Keeps S w w') (hs : ∀ g, v.ownBlock = some g → g ∉ S) : MV w' v n f := World.ownsRow.keep h hk hs
theorem MV.ext {w : World} {v : Value} {n : Nat} {f g : Nat → Nat → Bool} (h : MV w v n f) (e : ∀ i j, i < n → j < 128 → f i j = g i j) : MV w v n g := by
 unfold MV at *
 rw [← mc_ext e]
 exact h
theorem MV.at {w : World} {g cap n : Nat} {f : Nat → Nat → Bool} (h : MV w (.slice (some ⟨g, 0, none⟩) n cap) n f) {i : Nat} (hi : i < n) :
    w.cell? ⟨g, i * 2, none⟩ = some (.int .u64 (wk (f i) 0)) ∧ w.cell? ⟨g, i * 2 + 1, none⟩ = some (.int .u64 (wk (f i) 1)) := by
 constructor
 ·rw [World.ownsRow.cellAt h (i * 2) (by omega), mc_at f (by omega)]
  rw [show i * 2 / 2 = i by omega, show i * 2 % 2 = 0 by omega]
 ·rw [World.ownsRow.cellAt h (i * 2 + 1) (by omega), mc_at f (by omega)]
  rw [show (i * 2 + 1) / 2 = i by omega, show (i * 2 + 1) % 2 = 1 by omega]
theorem MV.frozen {w : World} {g cap n : Nat} {f : Nat → Nat → Bool} (h : MV w (.slice (some ⟨g, 0, none⟩) n cap) n f) (j : Nat) : w.frozen? ⟨g, j, none⟩ = false := World.ownsRow.frozenAt h j
set_option maxHeartbeats 400000 in
theorem phas_any (P : Nat → Bool) (j : Nat) (hj : j < 128) (w : World) :
    Calls Tryz.prog 35 #[pv P, .int .i64 j] w fun e w' => e = .returned (.bool (P j)) ∧ Keeps [] w w' := by
 have h0 : (0 : Int) ≤ (j : Int) := by omega
 unfold pv
 by_cases h : j < 64
 ·have h1 : (j : Int) / 64 = 0 := by omega
  have h2 : (j : Int) % 64 = j := by omega
  have HH : Hid ((bits .and .u64 ((wk P 0 : Int) / 2 ^ j) 1 == 1) = P j) := by have := wk_has P (k := 0) h; rw [show 64 * 0 + j = j by omega] at this; exact this
  go_enter Tryz.func35, Tryz.ntmps35
  go_wp2_with fail
  go_ret
  exact ⟨by rw [HH.out]; rfl, (Keeps.refl [] w).alloc _⟩
 ·obtain ⟨m, rfl⟩ : ∃ m, j = 64 + m := ⟨j - 64, by omega⟩
  have h1 : ((64 + m : Nat) : Int) / 64 = 1 := by omega
  have h2 : ((64 + m : Nat) : Int) % 64 = m := by omega
  have HH : Hid ((bits .and .u64 ((wk P 1 : Int) / 2 ^ m) 1 == 1) = P (64 + m)) := wk_has P (k := 1) (by omega)
  obtain ⟨J, hJ⟩ : ∃ J : Int, J = ((64 + m : Nat) : Int) := ⟨_, rfl⟩
  rw [← hJ] at h0 h1 h2 ⊢
  clear hJ
  go_enter Tryz.func35, Tryz.ntmps35
  go_wp2_with fail
  go_ret
  exact ⟨by rw [HH.out]; rfl, (Keeps.refl [] w).alloc _⟩
theorem wrap_pow {j : Nat} (h : j < 64) : IntKind.u64.wrap (2 ^ j) = ((2 ^ j : Nat) : Int) := by
 have h2 : 2 ^ j < 18446744073709551616 := Nat.lt_of_lt_of_le (Nat.pow_lt_pow_right (by omega) h) (by decide)
 have e : (2 : Int) ^ j = ((2 ^ j : Nat) : Int) := by simp
 rw [e]
 generalize 2 ^ j = z at *
 have : IntKind.u64.wrap (z : Int) = (z : Int) % 18446744073709551616 := by simp [IntKind.wrap, IntKind.bits, IntKind.signed]
 rw [this]
 omega
theorem MV.put {w : World} {g cap n : Nat} {f f' : Nat → Nat → Bool} (h : MV w (.slice (some ⟨g, 0, none⟩) n cap) n f) {i k : Nat} (hi : i < n) (hk : k < 2) (v : Value) (hv : v = .int .u64 (wk (f' i) k)) (ho : ∀ a, a ≠ i → ∀ j, f' a j = f a j) (hw : ∀ k', k' ≠ k → wk (f' i) k' = wk (f i) k') :
    MV (w.setCell ⟨g, i * 2 + k, none⟩ v) (.slice (some ⟨g, 0, none⟩) n cap) n f' := by
 have := (World.ownsRow.stored h (i * 2 + k) v).1
 rw [Nat.mul_comm i 2, mc_set f f' hi hk v hv ho hw] at this
 rw [Nat.mul_comm i 2]
 exact this
set_option maxRecDepth 100000 in
set_option maxHeartbeats 400000 in
theorem padd_any (g cap n i j : Nat) (f : Nat → Nat → Bool) (hi : i < n) (hj : j < 128) (w : World) (h : MV w (.slice (some ⟨g, 0, none⟩) n cap) n f) :
    Calls Tryz.prog 126 #[.pointer (some ⟨g, i * 2, none⟩), .int .i64 j] w fun e w' => e = .returned (.tuple #[]) ∧ MV w' (.slice (some ⟨g, 0, none⟩) n cap) n (fun a b => f a b || (decide (a = i) && decide (b = j))) ∧ Keeps [g] w w' := by
 obtain ⟨ca, cb⟩ := h.at hi
 have fa := h.frozen (i * 2)
 have fb := h.frozen (i * 2 + 1)
 have h0 : (0 : Int) ≤ (j : Int) := by omega
 by_cases hj : j < 64
 ·have h1 : (j : Int) / 64 = 0 := by omega
  have h2 : (j : Int) % 64 = j := by omega
  have HV : Hid (bits .or .u64 (wk (f i) 0 : Int) (IntKind.u64.wrap (2 ^ j)) = (wk (fun m => f i m || decide (m = j)) 0 : Nat)) := by
   have := wk_add (f i) (k := 0) hj
   rw [show 64 * 0 + j = j by omega] at this
   show _ = _
   rw [wrap_pow hj]
   exact this
  have HH : Hid (MV w (.slice (some ⟨g, 0, none⟩) n cap) n f) := h
  have HJ : Hid (j < 64) := hj
  have HI : Hid (i < n) := hi
  clear h hj hi
  go_enter Tryz.func126, Tryz.ntmps126
  go_wp2_with fail
  go_region
  all_goals go_end0
  all_goals
   refine ⟨rfl, ?_, ((Keeps.refl [g] w).setCell (p := ⟨g, i * 2, none⟩) (by simp) _).drewN 1⟩
   refine MV.put (f := f) HH.out HI.out (k := 0) (by omega) _ ?_ ?_ ?_
   ·rw [HV.out]
    have : wk (fun m => f i m || decide (m = j)) 0 = wk (fun b => f i b || (decide (i = i) && decide (b = j))) 0 := wk_ext fun q _ => by simp
    rw [this]
   ·intro a ha q; simp [ha]
   ·intro k' hk'
    have := wk_out (f i) (k := k') (k' := 0) HJ.out hk'
    refine Eq.trans (wk_ext fun q _ => ?_) this
    simp
 ·obtain ⟨m, rfl⟩ : ∃ m, j = 64 + m := ⟨j - 64, by omega⟩
  have h1 : ((64 + m : Nat) : Int) / 64 = 1 := by omega
  have h2 : ((64 + m : Nat) : Int) % 64 = m := by omega
  have hm : m < 64 := by omega
  have HV : Hid (bits .or .u64 (wk (f i) 1 : Int) (IntKind.u64.wrap (2 ^ m)) = (wk (fun q => f i q || decide (q = 64 + m)) 1 : Nat)) := by
   have := wk_add (f i) (k := 1) hm
   show _ = _
   rw [wrap_pow hm]
   exact this
  obtain ⟨J, hJ⟩ : ∃ J : Int, J = ((64 + m : Nat) : Int) := ⟨_, rfl⟩
  rw [← hJ] at h0 h1 h2 ⊢
  have HH : Hid (MV w (.slice (some ⟨g, 0, none⟩) n cap) n f) := h
  have HJ : Hid (m < 64) := hm
  have HI : Hid (i < n) := hi
  clear hJ h hj hm hi
  go_enter Tryz.func126, Tryz.ntmps126
  go_wp2_with fail
  go_region
  all_goals go_end0
  all_goals
   refine ⟨rfl, ?_, ((Keeps.refl [g] w).setCell (p := ⟨g, i * 2 + 1, none⟩) (by simp) _).drewN 1⟩
   refine MV.put (f := f) HH.out HI.out (k := 1) (by omega) _ ?_ ?_ ?_
   ·rw [HV.out]
    have : wk (fun q => f i q || decide (q = 64 + m)) 1 = wk (fun b => f i b || (decide (i = i) && decide (b = 64 + m))) 1 := wk_ext fun q _ => by simp
    rw [this]
   ·intro a ha q; simp [ha]
   ·intro k' hk'
    have := wk_out (f i) (k := k') (k' := 1) HJ.out hk'
    refine Eq.trans (wk_ext fun q _ => ?_) this
    simp
end Go.Proofs.YtnfojonmohijpabGreatDoor
namespace Go.Proofs.YtnfojonmohijpabGreatDoor
open Go.RowKit
def addTo (f : Nat → Nat → Bool) (i : Nat) (Q : Nat → Bool) (k : Nat) : Nat → Nat → Bool := fun a b => f a b || (decide (a = i) && (decide (b < 64 * k) && Q b))
theorem addTo_step {w : World} {g cap n : Nat} {f : Nat → Nat → Bool} {i : Nat} {Q : Nat → Bool} {k : Nat} (h : MV w (.slice (some ⟨g, 0, none⟩) n cap) n (addTo f i Q k)) (hi : i < n) (hk : k < 2) :
    MV (w.setCell ⟨g, i * 2 + k, none⟩ (.int .u64 (bits .or .u64 (wk (addTo f i Q k i) k : Int) (wk Q k : Int)))) (.slice (some ⟨g, 0, none⟩) n cap) n (addTo f i Q (k + 1)) := by
 refine MV.put h hi hk _ ?_ ?_ ?_
 ·rw [wk_or]
  have : wk (fun j => addTo f i Q k i j || Q j) k = wk (addTo f i Q (k + 1) i) k := wk_ext fun j hj => by
   have h1 : ¬ 64 * k + j < 64 * k := by omega
   have h2 : 64 * k + j < 64 * (k + 1) := by omega
   simp [addTo, h1, h2]
  rw [this]
 ·intro a ha j; simp [addTo, ha]
 ·intro k' hk'
  apply wk_ext
  intro j hj
  have : (64 * k' + j < 64 * (k + 1)) ↔ (64 * k' + j < 64 * k) := by omega
  simp [addTo, this]
set_option maxRecDepth 100000 in
set_option maxHeartbeats 1000000 in
theorem addAll_any (g cap n i : Nat) (f : Nat → Nat → Bool) (Q : Nat → Bool) (hi : i < n) (w : World) (h : MV w (.slice (some ⟨g, 0, none⟩) n cap) n f) :
    Calls Tryz.prog 106 #[.pointer (some ⟨g, i * 2, none⟩), pv Q] w fun e w' => e = .returned (.tuple #[]) ∧ MV w' (.slice (some ⟨g, 0, none⟩) n cap) n (fun a b => f a b || (decide (a = i) && Q b)) ∧ Keeps [g] w w' := by
 have hgl : g < w.heap.size := (World.ownsRow.lt h g rfl).2
 have hnew := heap_alloc_new w (.cells #[.int .u64 (wk Q 0), .int .u64 (wk Q 1)] 102)
 have hW := (Keeps.refl [g] w).alloc (.cells #[.int .u64 (wk Q 0), .int .u64 (wk Q 1)] 102)
 have h1 : MV (w.alloc (.cells #[.int .u64 (wk Q 0), .int .u64 (wk Q 1)] 102)) (.slice (some ⟨g, 0, none⟩) n cap) n (addTo f i Q 0) :=
  (h.keep ((Keeps.refl [] w).alloc _) (by simp)).ext fun a b _ _ => by simp [addTo]
 unfold pv
 go_enter Tryz.func106, Tryz.ntmps106
 go_wp2_with fail
 generalize (w.alloc (.cells #[.int .u64 (wk Q 0), .int .u64 (wk Q 1)] 102)) = W at *
 obtain ⟨x, hx⟩ : ∃ x, x = w.heap.size := ⟨_, rfl⟩
 rw [← hx] at hnew hgl ⊢
 clear hx
 have e0 : W.cell? ⟨x, 0, none⟩ = some (.int .u64 (wk Q 0)) := by simp [World.cell?, hnew]
 have e1 : W.cell? ⟨x, 1, none⟩ = some (.int .u64 (wk Q 1)) := by simp [World.cell?, hnew]
 have hxl : x < W.heap.size := (Array.getElem?_eq_some_iff.1 hnew).1
 have hxg : x ≠ g := by omega
 clear hnew hgl
 go_loopw [4, 5] (fun _ q wr => ∃ k : Nat, k ≤ 2 ∧ q = .int .i64 k ∧ MV wr (.slice (some ⟨g, 0, none⟩) n cap) n (addTo f i Q k) ∧ Keeps [g] W wr) (fun _ q _ => 2 - (intOf q).toNat)
 case atStart => exact ⟨0, by omega, rfl, h1, Keeps.refl _ _⟩
 case round =>
  obtain ⟨k, hk, rfl, hM, hK⟩ := hrel
  have r0 : wr.cell? ⟨x, 0, none⟩ = some (.int .u64 (wk Q 0)) := (World.cell?_of_block (hK.block x hxl (by simp [hxg]))).trans e0
  have r1 : wr.cell? ⟨x, 1, none⟩ = some (.int .u64 (wk Q 1)) := (World.cell?_of_block (hK.block x hxl (by simp [hxg]))).trans e1
  obtain ⟨ca, cb⟩ := hM.at hi
  have fa := hM.frozen (i * 2)
  have fb := hM.frozen (i * 2 + 1)
  have HM : Hid (MV wr (.slice (some ⟨g, 0, none⟩) n cap) n (addTo f i Q k)) := hM
  have HI : Hid (i < n) := hi
  have HX : Hid (Keeps [g] W wr) := hK
  clear hM hK
  have h3 : k = 0 ∨ k = 1 ∨ k = 2 := by omega
  rcases h3 with rfl | rfl | rfl
  ·clear hi hk
   go_wp2_with fail
   go_region
   go_wp2_with fail
   go_roundw
   case rel => exact ⟨1, by omega, rfl, addTo_step HM.out HI.out (by omega), (HX.out.setCell (p := ⟨g, i * 2, none⟩) (by simp) _).drewN 1⟩
   case measure => simp [intOf]
  ·clear hi hk
   go_wp2_with fail
   go_region
   go_wp2_with fail
   go_roundw
   case rel => exact ⟨2, by omega, rfl, addTo_step HM.out HI.out (by omega), (HX.out.setCell (p := ⟨g, i * 2 + 1, none⟩) (by simp) _).drewN 1⟩
   case measure => simp [intOf]
  ·clear hi hk
   go_wp2_with fail
   go_end0
   exact ⟨rfl, HM.out.ext fun a b _ hb => by have : b < 64 * 2 := by omega
                                             simp [addTo, this], hW.trans HX.out⟩
theorem addAll_raw (g cap n i : Nat) (f : Nat → Nat → Bool) (Q : Nat → Bool) (hi : i < n) (w : World) (h : MV w (.slice (some ⟨g, 0, none⟩) n cap) n f) :
    Calls Tryz.prog 106 #[.pointer (some ⟨g, i * 2, none⟩), .agg #[.int .u64 (wk Q 0), .int .u64 (wk Q 1)]] w fun e w' => e = .returned (.tuple #[]) ∧ MV w' (.slice (some ⟨g, 0, none⟩) n cap) n (fun a b => f a b || (decide (a = i) && Q b)) ∧ Keeps [g] w w' :=
 addAll_any g cap n i f Q hi w h
theorem phas_raw (P : Nat → Bool) (j : Nat) (hj : j < 128) (w : World) :
    Calls Tryz.prog 35 #[.agg #[.int .u64 (wk P 0), .int .u64 (wk P 1)], .int .i64 j] w fun e w' => e = .returned (.bool (P j)) ∧ Keeps [] w w' := phas_any P j hj w
end Go.Proofs.YtnfojonmohijpabGreatDoor
namespace Go.Proofs.YtnfojonmohijpabGreatDoor
open Go.RowKit
def p0 (s : ByteArray) : PS := { s := s, nodes := .slice none 0 0, root := 0, bg := false, en := false, gr := 0, bad := -1, ix := 0, deep := 0 }
end Go.Proofs.YtnfojonmohijpabGreatDoor
namespace Go.Proofs.YtnfojonmohijpabGreatDoor
open Go.RowKit
theorem Keeps.ofGrownNone {w w' : World} (h : w.grownBy w' none) : Keeps [] w w' := ⟨h.os, h.tape, h.output, h.size, fun j hj _ => h.block j hj (by simp)⟩
theorem keepsM {w w1 w2 : World} {S S' : List Nat} (h : Keeps S' w w1) (k : Keeps S w1 w2) (hs : ∀ x, x ∈ S → x ∈ S' ∨ w.heap.size ≤ x) : Keeps S' w w2 :=
 ⟨k.os.trans h.os, k.tape.trans h.tape, k.output.trans h.output, Nat.le_trans h.size k.size, fun j hj hn => (k.block j (Nat.lt_of_lt_of_le hj h.size) (fun hm => by
   rcases hs j hm with h1 | h1
   · exact hn h1
   · omega)).trans (h.block j hj hn)⟩
end Go.Proofs.YtnfojonmohijpabGreatDoor
namespace Go.Proofs.YtnfojonmohijpabGreatDoor
open Go.RowKit
def NewMap (w : World) (N : Nat) (f : Nat → Nat → Bool) (e : Ending) (w' : World) : Prop :=
 ∃ g, e = .returned (.slice (some ⟨g, 0, none⟩) N N) ∧ MV w' (.slice (some ⟨g, 0, none⟩) N N) N f ∧ Keeps [] w w' ∧ w.heap.size ≤ g
theorem infoPlaces : (Tryz.prog.info? 102).map (fun i => (i.zero, i.size, i.bytes)) = some (some (.agg #[.int .u64 0, .int .u64 0]), 2, 16) := by kernel_rfl
theorem mc_made (N : Nat) : (madeCells #[Value.int .u64 0, Value.int .u64 0] (N * 2)).toList = mc N (fun _ _ => false) := by
 apply List.ext_getElem?
 intro q
 by_cases hq : q < 2 * N
 ·rw [mc_at _ hq, wk_none]
  have h2 : q < N * 2 := by omega
  have h3 : q % 2 = 0 ∨ q % 2 = 1 := by omega
  rcases h3 with h3 | h3 <;> simp [madeCells, h2, h3]
 ·have h1 : (mc N (fun _ _ => false))[q]? = none := by rw [List.getElem?_eq_none_iff, mc_len]; omega
  rw [h1]
  have h2 : ¬ q < N * 2 := by omega
  simp [madeCells, h2]
set_option maxRecDepth 100000 in
set_option maxHeartbeats 1000000 in
theorem none_any (n N : Nat) (HN : Hid (N = n + 1)) (hn : n ≤ 100) (w : World) : Calls Tryz.prog 67 #[.int .i64 n] w (NewMap w N fun _ _ => false) := by
 obtain ⟨i0, hi0, hz0, hz1, hz2⟩ := info_parts infoPlaces
 have hun := Tryz.underlying63
 have hadd : (n : Int) + 1 ≤ 9223372036854775807 := by omega
 go_enter Tryz.func67, Tryz.ntmps67
 go_wp2_with (first | (refine wpList_make_full w rfl _ _ 63 rfl 0 102 i0 (.agg #[.int .u64 0, .int .u64 0]) 2 hun hi0 hz0 hz1 .i64 .i64 ((n : Int) + 1) ((n : Int) + 1) N rfl rfl (by have := HN.out; omega) (by have := HN.out; omega) (by have := HN.out; rw [hz2]; omega) (by have := HN.out; unfold maxLen; omega) (Nat.zero_le _) ?_))
 intro w1 hown hgr
 rw [mc_made] at hown
 have hk : Keeps [] w w1 := Keeps.ofGrownNone hgr
 go_wp2_with fail
 go_ret
 exact ⟨_, rfl, hown, hk, Nat.le_refl _⟩
set_option maxRecDepth 100000 in
set_option maxHeartbeats 1000000 in
theorem empty_any (n N : Nat) (HN : Hid (N = n + 1)) (hn : n ≤ 100) (w : World) : Calls Tryz.prog 102 #[.int .i64 n] w (NewMap w N fun i j => decide (i = j)) := by
 go_enter Tryz.func102, Tryz.ntmps102
 go_wp2_with fail
 refine (none_any n N HN hn w).mono ?_
 rintro e w1 ⟨g, rfl, hM, hk, hg⟩
 have hNm : (N : Int) ≤ 101 := by have := HN.out; omega
 go_wp2_with fail
 go_loopw [4, 9] (fun _ q wr => ∃ k : Nat, k ≤ N ∧ q = .int .i64 k ∧ MV wr (.slice (some ⟨g, 0, none⟩) N N) N (fun i j => decide (i = j) && decide (i < k)) ∧ Keeps [] w wr) (fun _ q _ => N - (intOf q).toNat)
 case atStart => exact ⟨0, by omega, rfl, hM.ext (fun a b _ _ => by simp), hk⟩
 case round =>
  clear hM hk
  obtain ⟨k, hk, rfl, hM, hK⟩ := hrel
  by_cases hlt : k < N
  ·have hk0 : (0 : Int) ≤ (k : Int) := by omega
   have hk1 : (k : Int) < (N : Int) := by omega
   have HK : Hid (k < N) := hlt
   clear hk hlt
   go_wp2_with fail
   refine (padd_any g N N k k _ HK.out (by have := HK.out; omega) wr hM).mono ?_
   rintro e w2 ⟨rfl, hM2, hK2⟩
   have hK3 : Keeps [] w w2 := keepsM hK hK2 (by intro x hx; simp at hx; omega)
   clear hK2 hM
   go_wp2_with fail
   go_roundw
   case rel => exact ⟨k + 1, HK.out, by go_num, hM2.ext (fun a b _ _ => by
     by_cases e1 : a = k
     · subst e1
       have : decide (a = b) = decide (b = a) := by simp [eq_comm]
       simp [this]
     · have : (a < k + 1) ↔ (a < k) := by omega
       simp [e1, this]), hK3⟩
   case measure => have := HK.out; simp [intOf]; omega
  ·have he : k = N := by omega
   have hnk : ¬ (k : Int) < (N : Int) := by omega
   have hM2 := hM.ext (g := fun i j => decide (i = j)) (fun a b ha _ => by simp [he, ha])
   clear hM hk he hlt
   go_wp2_with fail
   go_ret
   exact ⟨g, rfl, hM2, hK, hg⟩
end Go.Proofs.YtnfojonmohijpabGreatDoor
namespace Go.Proofs.YtnfojonmohijpabGreatDoor
open Go.RowKit
theorem MV.put2 {w : World} {g cap n : Nat} {f : Nat → Nat → Bool} (h : MV w (.slice (some ⟨g, 0, none⟩) n cap) n f) {i : Nat} (hi : i < n) (F : Nat → Bool) :
    MV ((w.setCell ⟨g, i * 2, none⟩ (.int .u64 (wk F 0))).setCell ⟨g, i * 2 + 1, none⟩ (.int .u64 (wk F 1))) (.slice (some ⟨g, 0, none⟩) n cap) n (fun a b => if a = i then F b else f a b) := by
 have h1 : MV (w.setCell ⟨g, i * 2, none⟩ (.int .u64 (wk F 0))) (.slice (some ⟨g, 0, none⟩) n cap) n (fun a b => if a = i then (if b < 64 then F b else f a b) else f a b) := by
  refine MV.put (k := 0) h hi (by omega) _ ?_ ?_ ?_
  ·have : wk F 0 = wk (fun b => if i = i then (if b < 64 then F b else f i b) else f i b) 0 := wk_ext fun j hj => by rw [if_pos rfl, if_pos (by omega)]
   rw [this]
  ·intro a ha j; simp [ha]
  ·intro k' hk'
   refine wk_ext fun j hj => ?_
   simp [show ¬ 64 * k' + j < 64 by omega]
 have h2 : MV ((w.setCell ⟨g, i * 2, none⟩ (.int .u64 (wk F 0))).setCell ⟨g, i * 2 + 1, none⟩ (.int .u64 (wk F 1))) (.slice (some ⟨g, 0, none⟩) n cap) n (fun a b => if a = i then (if b < 128 then F b else f a b) else f a b) := by
  refine MV.put (k := 1) h1 hi (by omega) _ ?_ ?_ ?_
  ·have : wk F 1 = wk (fun b => if i = i then (if b < 128 then F b else f i b) else f i b) 1 := wk_ext fun j hj => by rw [if_pos rfl, if_pos (by omega)]
   rw [this]
  ·intro a ha j; simp [ha]
  ·intro k' hk'
   refine wk_ext fun j hj => ?_
   by_cases e : 64 * k' + j < 64
   ·simp [e, show 64 * k' + j < 128 by omega]
   ·simp [e, show ¬ 64 * k' + j < 128 by omega]
 exact h2.ext fun a b _ hb => by simp [hb]
theorem range2 {w : World} {b o : Nat} {x y : Value} (h0 : w.cell? ⟨b, o, none⟩ = some x) (h1 : w.cell? ⟨b, o + 1, none⟩ = some y) : w.rangeAt b o [x, y] := by
 intro j v hv
 match j, hv with
 | 0, hv => simp at hv; subst hv; exact h0
 | 1, hv => simp at hv; subst hv; exact h1
theorem there2 {w : World} {b o : Nat} (h0 : (w.cell? ⟨b, o, none⟩).isSome = true) (h1 : (w.cell? ⟨b, o + 1, none⟩).isSome = true) (z0 : w.frozen? ⟨b, o, none⟩ = false) (z1 : w.frozen? ⟨b, o + 1, none⟩ = false) : w.there b o 2 := by
 intro j hj
 match j, hj with
 | 0, _ => exact ⟨h0, z0⟩
 | 1, _ => exact ⟨h1, z1⟩
theorem one2 (a b : Int) : (#[Value.int .u64 a, .int .u64 b]).all (·.oneCell') = true := by simp [Value.oneCell']
theorem infoPl2 : (Tryz.prog.info? 102).map (·.size) = some 2 := by kernel_rfl
set_option maxRecDepth 100000 in
set_option maxHeartbeats 1000000 in
theorem or_any (N : Nat) (hN : N ≤ 101) (g1 c1 g2 c2 : Nat) (f1 f2 : Nat → Nat → Bool) (w : World) (h1 : MV w (.slice (some ⟨g1, 0, none⟩) N c1) N f1) (h2 : MV w (.slice (some ⟨g2, 0, none⟩) N c2) N f2) :
    Calls Tryz.prog 69 #[.slice (some ⟨g1, 0, none⟩) N c1, .slice (some ⟨g2, 0, none⟩) N c2] w (NewMap w N fun i j => f1 i j || f2 i j) := by
 obtain ⟨i0, hi0, hz0, hz1, hz2⟩ := info_parts infoPlaces
 have hun := Tryz.underlying63
 go_enter Tryz.func69, Tryz.ntmps69
 go_wp2_with (first | (refine wpList_make_full w rfl _ _ 63 rfl 0 102 i0 (.agg #[.int .u64 0, .int .u64 0]) 2 hun hi0 hz0 hz1 .i64 .i64 (N : Int) (N : Int) N rfl rfl rfl rfl (by rw [hz2]; omega) (by unfold maxLen; omega) (Nat.zero_le _) ?_))
 intro w1 hown hgr
 rw [mc_made] at hown
 have hk1 : Keeps [] w w1 := Keeps.ofGrownNone hgr
 have hg1l : g1 < w.heap.size := (World.ownsRow.lt h1 g1 rfl).2
 have hg2l : g2 < w.heap.size := (World.ownsRow.lt h2 g2 rfl).2
 obtain ⟨g, hg⟩ : ∃ g, g = w.heap.size := ⟨_, rfl⟩
 have hM0 : MV w1 (.slice (some ⟨g, 0, none⟩) N N) N (fun _ _ => false) := by rw [hg]; exact hown
 rw [← hg]
 have hgw : w.heap.size ≤ g := by omega
 clear hg
 have hNm : (N : Int) ≤ 101 := by omega
 clear hown hgr
 go_wp2_with fail
 go_loopw [6, 12] (fun _ q wr => ∃ k : Nat, k ≤ N ∧ q = .int .i64 k ∧ MV wr (.slice (some ⟨g, 0, none⟩) N N) N (fun i j => decide (i < k) && (f1 i j || f2 i j)) ∧ Keeps [] w wr) (fun _ q _ => N - (intOf q).toNat)
 case atStart => exact ⟨0, by omega, rfl, hM0.ext (fun a b _ _ => by simp), hk1⟩
 case round =>
  clear hM0 hk1
  obtain ⟨k, hk, rfl, hM, hK⟩ := hrel
  by_cases hlt : k < N
  ·have hk0 : (0 : Int) ≤ (k : Int) := by omega
   have hk1 : (k : Int) < (N : Int) := by omega
   have HK : Hid (k < N) := hlt
   have hr1 := h1.keep hK (by simp)
   have hr2 := h2.keep hK (by simp)
   obtain ⟨a0, a1⟩ := hr1.at hlt
   obtain ⟨b0, b1⟩ := hM.at hlt
   have z0 := hM.frozen (k * 2)
   have z1 := hM.frozen (k * 2 + 1)
   have hM2 := hM.put2 hlt (f1 k)
   have hkp : Keeps [g] wr ((wr.setCell ⟨g, k * 2, none⟩ (.int .u64 (wk (f1 k) 0))).setCell ⟨g, k * 2 + 1, none⟩ (.int .u64 (wk (f1 k) 1))) := ((Keeps.refl [g] wr).setCell (p := ⟨g, k * 2, none⟩) (by simp) _).setCell (p := ⟨g, k * 2 + 1, none⟩) (by simp) _
   have hr3 := hr2.keep hkp (by intro x hx; simp only [Value.ownBlock, Option.some.injEq] at hx; simp; omega)
   have hK2 : Keeps [] w ((wr.setCell ⟨g, k * 2, none⟩ (.int .u64 (wk (f1 k) 0))).setCell ⟨g, k * 2 + 1, none⟩ (.int .u64 (wk (f1 k) 1))) := keepsM hK hkp (by intro x hx; simp at hx; omega)
   obtain ⟨c0, c1'⟩ := hr3.at hlt
   have hrl : wr.rangeAt g1 (k * 2) [.int .u64 (wk (f1 k) 0), .int .u64 (wk (f1 k) 1)] := range2 a0 a1
   have htr : wr.there g (k * 2) 2 := there2 (by rw [b0]; rfl) (by rw [b1]; rfl) z0 z1
   clear hk hlt hM hr1 hr2 hkp hK hr3 a0 a1 b0 b1 z0 z1
   go_wp2_with (first | (refine wpList_load_mid rfl 102 _ rfl g1 (k * 2) rfl _ _ hrl Tryz.underlying102 rfl infoPl2 ?_) | (refine wpList_store_mid rfl 102 _ _ rfl g (k * 2) #[.int .u64 (wk (f1 k) 0), .int .u64 (wk (f1 k) 1)] rfl rfl htr infoPl2 (one2 _ _) ?_))
   change Code.wp _ _ _ _ ((wr.setCell ⟨g, k * 2, none⟩ (.int .u64 (wk (f1 k) 0))).setCell ⟨g, k * 2 + 1, none⟩ (.int .u64 (wk (f1 k) 1)))
   generalize (wr.setCell ⟨g, k * 2, none⟩ (.int .u64 (wk (f1 k) 0))).setCell ⟨g, k * 2 + 1, none⟩ (.int .u64 (wk (f1 k) 1)) = W at *
   have hM2d : MV W.drew (.slice (some ⟨g, 0, none⟩) N N) N _ := World.ownsRow.drew hM2
   have hC := addAll_raw g N N k _ (f2 k) HK.out W.drew hM2d
   go_region_with (first | (go_at_call 106; refine hC.mono ?_; rintro e w2 ⟨rfl, hM3, hK3⟩))
   clear hC
   have hK4 : Keeps [] w w2 := keepsM hK2 (((Keeps.refl [g] W).drewN 1).trans hK3) (by intro x hx; simp at hx; omega)
   clear hK3 hK2 hM2 hM2d
   go_wp2_with fail
   go_roundw
   case rel => exact ⟨k + 1, HK.out, by go_num, hM3.ext (fun a b _ _ => by
     by_cases e1 : a = k
     · subst e1; simp
     · have : (a < k + 1) ↔ (a < k) := by omega
       simp [e1, this]), hK4⟩
   case measure => have := HK.out; simp [intOf]; omega
  ·have he : k = N := by omega
   have hnk : ¬ (k : Int) < (N : Int) := by omega
   have hM2 := hM.ext (g := fun i j => f1 i j || f2 i j) (fun a b ha _ => by simp [he, ha])
   clear hM hk he hlt
   go_wp2_with fail
   go_ret
   exact ⟨g, rfl, hM2, hK, hgw⟩
end Go.Proofs.YtnfojonmohijpabGreatDoor
namespace Go.Proofs.YtnfojonmohijpabGreatDoor
open Go.RowKit
def thenB (f1 f2 : Nat → Nat → Bool) (hi a b : Nat) : Bool := (List.range hi).any fun m => decide (a ≤ m) && (f1 a m && f2 m b)
theorem thenB_iff {f1 f2 : Nat → Nat → Bool} {hi a b : Nat} : thenB f1 f2 hi a b = true ↔ ∃ m, a ≤ m ∧ m < hi ∧ f1 a m = true ∧ f2 m b = true := by
 simp only [thenB, List.any_eq_true, List.mem_range, Bool.and_eq_true, decide_eq_true_eq]
 constructor
 ·rintro ⟨m, h, a, b, c⟩; exact ⟨m, a, h, b, c⟩
 ·rintro ⟨m, a, h, b, c⟩; exact ⟨m, h, a, b, c⟩
theorem thenB_succ (f1 f2 : Nat → Nat → Bool) (hi a b : Nat) : thenB f1 f2 (hi + 1) a b = (thenB f1 f2 hi a b || (decide (a ≤ hi) && (f1 a hi && f2 hi b))) := by
 simp [thenB, List.range_succ]
theorem thenB_low (f1 f2 : Nat → Nat → Bool) {hi a : Nat} (b : Nat) (h : hi ≤ a) : thenB f1 f2 hi a b = false := by
 cases e : thenB f1 f2 hi a b with
 | false => rfl
 | true =>
  obtain ⟨m, h1, h2, _⟩ := thenB_iff.1 e
  omega
def thenTo (f1 f2 : Nat → Nat → Bool) (N i m : Nat) (a b : Nat) : Bool := if a < i then thenB f1 f2 N a b else if a = i then thenB f1 f2 m a b else false
theorem MV.range {w : World} {g cap n : Nat} {f : Nat → Nat → Bool} (h : MV w (.slice (some ⟨g, 0, none⟩) n cap) n f) {i : Nat} (hi : i < n) : w.rangeAt g (i * 2) [.int .u64 (wk (f i) 0), .int .u64 (wk (f i) 1)] := range2 (h.at hi).1 (h.at hi).2
set_option maxRecDepth 100000 in
set_option maxHeartbeats 2000000 in
theorem then_any (N : Nat) (hN : N ≤ 101) (g1 c1 g2 c2 : Nat) (f1 f2 : Nat → Nat → Bool) (w : World) (h1 : MV w (.slice (some ⟨g1, 0, none⟩) N c1) N f1) (h2 : MV w (.slice (some ⟨g2, 0, none⟩) N c2) N f2) :
    Calls Tryz.prog 105 #[.slice (some ⟨g1, 0, none⟩) N c1, .slice (some ⟨g2, 0, none⟩) N c2] w (NewMap w N (thenB f1 f2 N)) := by
 obtain ⟨i0, hi0, hz0, hz1, hz2⟩ := info_parts infoPlaces
 have hun := Tryz.underlying63
 go_enter Tryz.func105, Tryz.ntmps105
 go_wp2_with (first | (refine wpList_make_full w rfl _ _ 63 rfl 0 102 i0 (.agg #[.int .u64 0, .int .u64 0]) 2 hun hi0 hz0 hz1 .i64 .i64 (N : Int) (N : Int) N rfl rfl rfl rfl (by rw [hz2]; omega) (by unfold maxLen; omega) (Nat.zero_le _) ?_))
 intro w1 hown hgr
 rw [mc_made] at hown
 have hk1 : Keeps [] w w1 := Keeps.ofGrownNone hgr
 have hg1l : g1 < w.heap.size := (World.ownsRow.lt h1 g1 rfl).2
 have hg2l : g2 < w.heap.size := (World.ownsRow.lt h2 g2 rfl).2
 obtain ⟨g, hg⟩ : ∃ g, g = w.heap.size := ⟨_, rfl⟩
 have hM0 : MV w1 (.slice (some ⟨g, 0, none⟩) N N) N (fun _ _ => false) := by rw [hg]; exact hown
 rw [← hg]
 have hgw : w.heap.size ≤ g := by omega
 have hNm : (N : Int) ≤ 101 := by omega
 have hu := Tryz.underlying102
 clear hown hgr hg
 go_wp2_with fail
 go_loopw [6, 7, 13] (fun _ _ q wr => ∃ k : Nat, k ≤ N ∧ q = .int .i64 k ∧ MV wr (.slice (some ⟨g, 0, none⟩) N N) N (thenTo f1 f2 N k 0) ∧ Keeps [] w wr) (fun _ _ q _ => N - (intOf q).toNat)
 case atStart => exact ⟨0, by omega, rfl, hM0.ext (fun a b _ _ => by unfold thenTo; rw [if_neg (by omega)]; split; rw [thenB_low _ _ _ (by omega)]; rfl), hk1⟩
 case round =>
  clear hM0 hk1
  obtain ⟨k, hk, rfl, hM, hK⟩ := hrel
  by_cases hlt : k < N
  ·have hk0 : (0 : Int) ≤ (k : Int) := by omega
   have hk1 : (k : Int) < (N : Int) := by omega
   have HK : Hid (k < N) := hlt
   clear hk hlt
   go_wp2_with fail
   go_loopw [7] (fun q wq => ∃ m : Nat, k ≤ m ∧ m ≤ N ∧ q = .int .i64 m ∧ MV wq (.slice (some ⟨g, 0, none⟩) N N) N (thenTo f1 f2 N k m) ∧ Keeps [] w wq) (fun q _ => N - (intOf q).toNat)
   case atStart => exact ⟨k, Nat.le_refl _, by have := HK.out; omega, rfl, hM.ext (fun a b _ _ => by
     unfold thenTo
     by_cases h : a < k
     · rw [if_pos h, if_pos h]
     · rw [if_neg h, if_neg h]
       by_cases h' : a = k
       · rw [if_pos h', if_pos h', thenB_low _ _ _ (by omega), thenB_low _ _ _ (by omega)]
       · rw [if_neg h', if_neg h']), hK⟩
   case round =>
    clear hM hK
    obtain ⟨m, hkm, hm, rfl, hM, hK⟩ := hrel
    by_cases hlm : m < N
    ·have hm0 : (0 : Int) ≤ (m : Int) := by omega
     have hm1 : (m : Int) < (N : Int) := by omega
     have HM : Hid (m < N) := hlm
     have HKM : Hid (k ≤ m) := hkm
     have hr1 := (h1.keep hK (by simp)).range HK.out
     clear hm hlm hkm
     go_wp2_with (first | (refine wpList_load_mid rfl 102 _ rfl g1 (k * 2) rfl _ _ hr1 hu rfl infoPl2 ?_))
     refine (phas_raw (f1 k) m (by have := HM.out; omega) wr).mono ?_
     rintro e w2 ⟨rfl, hK2⟩
     have hM2 := hM.keep hK2 (by simp)
     have hK3 := hK.trans hK2
     clear hM hK hK2 hr1
     cases hf : f1 k m
     ·go_wp2_with fail
      go_roundw
      case rel => exact ⟨m + 1, by have := HKM.out; omega, HM.out, by go_num, hM2.ext (fun a b _ _ => by
        unfold thenTo
        by_cases h : a < k
        · rw [if_pos h, if_pos h]
        · rw [if_neg h, if_neg h]
          by_cases h' : a = k
          · subst h'; rw [if_pos rfl, if_pos rfl, thenB_succ, hf]; simp
          · rw [if_neg h', if_neg h']), hK3⟩
      case measure => have := HM.out; simp [intOf]; omega
     ·have hM2d : MV w2.drew (.slice (some ⟨g, 0, none⟩) N N) N _ := World.ownsRow.drew hM2
      have hr2 := (h2.keep hK3 (by simp)).at HM.out
      obtain ⟨b0, b1⟩ := hr2
      have hC := addAll_raw g N N k _ (f2 m) HK.out w2.drew hM2d
      go_wp2_with fail
      go_region_with (first | (go_at_call 106; refine hC.mono ?_; rintro e w3 ⟨rfl, hM3, hK4⟩))
      have hK5 : Keeps [] w w3 := keepsM hK3 (((Keeps.refl [g] w2).drewN 1).trans hK4) (by intro x hx; simp at hx; omega)
      clear hC hM2 hM2d hK3 hK4 b0 b1
      go_wp2_with fail
      go_roundw
      case rel => exact ⟨m + 1, by have := HKM.out; omega, HM.out, by go_num, hM3.ext (fun a b _ _ => by
        unfold thenTo
        by_cases h : a < k
        · rw [if_pos h, if_pos h]; simp [show ¬ a = k by omega]
        · rw [if_neg h, if_neg h]
          by_cases h' : a = k
          · subst h'; rw [if_pos rfl, if_pos rfl, thenB_succ, hf]; simp [HKM.out]
          · rw [if_neg h', if_neg h']; simp [h']), hK5⟩
      case measure => have := HM.out; simp [intOf]; omega
    ·have he : m = N := by omega
     have hnm : ¬ (m : Int) < (N : Int) := by omega
     have hM2 := hM.ext (g := thenTo f1 f2 N (k + 1) 0) (fun a b ha _ => by
       subst he
       unfold thenTo
       by_cases h : a < k
       · rw [if_pos h, if_pos (by omega)]
       · rw [if_neg h]
         by_cases h' : a = k
         · rw [if_pos h', if_pos (by omega)]
         · rw [if_neg h', if_neg (by omega)]
           by_cases h2 : a = k + 1
           · rw [if_pos h2, thenB_low _ _ _ (by omega)]
           · rw [if_neg h2])
     clear hM hm hlm he hkm
     go_wp2_with fail
     exact ⟨⟨k + 1, HK.out, by go_num, hM2, hK⟩, by have := HK.out; simp [intOf]; omega⟩
  ·have he : k = N := by omega
   have hnk : ¬ (k : Int) < (N : Int) := by omega
   have hM2 := hM.ext (g := thenB f1 f2 N) (fun a b ha _ => by unfold thenTo; rw [if_pos (by omega)])
   clear hM hk he hlt
   go_wp2_with fail
   go_ret
   exact ⟨g, rfl, hM2, hK, hgw⟩
end Go.Proofs.YtnfojonmohijpabGreatDoor
namespace Go.Proofs.YtnfojonmohijpabGreatDoor
theorem Cut.hit {P : Nat → Prop} {i j c : Nat} (h : Cut P i j c) (e : ∃ m, i ≤ m ∧ m ≤ j ∧ P m) : P c := by
 by_cases hc : i < c
 ·exact h.2.2.1 hc
 ·obtain ⟨m, a, b, d⟩ := e
  have : c = i := by have := h.1; omega
  subst this
  rcases Nat.lt_or_ge c m with k | k
  ·exact absurd d (h.2.2.2 m k b)
  ·have : m = c := by omega
   subst this
   exact d
theorem less_ok {mx : Int} {n : Nat} (h : mx < 0 ∨ ((n + 1 : Nat) : Int) ≤ mx) : less mx < 0 ∨ (n : Int) ≤ less mx := by
 unfold less
 split <;> omega
theorem Tm.step {R : Nat → Nat → Prop} (hle : ∀ i j, R i j → i ≤ j) {mn : Nat} {mx : Int} {i j : Nat} (h : Tm R mn mx i j) (hg : i < j ∨ 0 < mn) :
    ∃ m, i ≤ m ∧ m ≤ j ∧ R i m ∧ Tm R (mn - 1) (less mx) m j := by
 obtain ⟨n, a, b, h⟩ := h
 cases n with
 | zero =>
  have : i = j := h
  omega
 | succ n =>
  obtain ⟨m, r, h⟩ := h
  exact ⟨m, hle i m r, It.mono hle h, r, n, by omega, less_ok b, h⟩
theorem Tm.move {R : Nat → Nat → Prop} (hle : ∀ i j, R i j → i ≤ j) {mx : Int} {j : Nat} : ∀ {n i : Nat}, It R n i j → i < j → (mx < 0 ∨ (n : Int) ≤ mx) →
    ∃ m, i < m ∧ m ≤ j ∧ R i m ∧ Tm R 0 (less mx) m j
 | 0, i, h, hij, _ => by have : i = j := h; omega
 | n + 1, i, ⟨m, r, h⟩, hij, b => by
  by_cases e : i < m
  ·exact ⟨m, e, It.mono hle h, r, n, by omega, less_ok b, h⟩
  ·have : m = i := by have := hle i m r; omega
   subst this
   exact Tm.move hle h hij (by omega)
theorem Tm.le {R : Nat → Nat → Prop} (hle : ∀ i j, R i j → i ≤ j) {mn : Nat} {mx : Int} {i j : Nat} (h : Tm R mn mx i j) : i ≤ j := by
 obtain ⟨n, _, _, h⟩ := h
 exact It.mono hle h
theorem Tm.cut {R : Nat → Nat → Prop} (hle : ∀ i j, R i j → i ≤ j) {mn : Nat} {mx : Int} {i j c : Nat} (h : Tm R mn mx i j) (hg : i < j ∨ 0 < mn) (hc : Cut (fun m => R i m ∧ Tm R (mn - 1) (less mx) m j) i j c) :
    (R i c ∧ Tm R (mn - 1) (less mx) c j) ∧ (mn - 1) + (j - c) < mn + (j - i) := by
 obtain ⟨m, a, b, d, e⟩ := h.step hle hg
 refine ⟨hc.hit ⟨m, a, b, d, e⟩, ?_⟩
 have h1 := hc.1
 have h2 := hc.2.1
 by_cases h0 : 0 < mn
 ·omega
 ·have : mn = 0 := by omega
  subst this
  obtain ⟨n, _, q, h⟩ := h
  obtain ⟨m, a, b, d, e⟩ := Tm.move hle h (by omega) q
  by_cases hic : i < c
  ·omega
  ·have : c = i := by omega
   subst this
   exact absurd ⟨d, e⟩ (hc.2.2.2 m a b)
def Job.ok (s : ByteArray) : Job → Nat → Nat → Prop
 | .node x, i, j => Mt s x i j
 | .kids r, i, j => Mt s r i j
 | .times mn mx x, i, j => Tm (Mt s x) mn mx i j
 | .alts _ r, i, j => Mt s r i j
end Go.Proofs.YtnfojonmohijpabGreatDoor
