/-
  DERIVED. Contracts of AddRange and AddClass: the set of a block gets the bytes of a range, or of a class. Conditions: bytes are from 0 to 255.
-/
import Derived.Test.YtnfojonmohijpaaGreatDoorJPG
set_option linter.unusedSimpArgs false
set_option linter.unusedVariables false
namespace Go.Proofs.YtnfojonmohijpaaGreatDoor
open Go.RowKit

/-- Block h holds the program's set f. -/
def HQ (w : World) (h : Nat) (f : Nat → Bool) : Prop := w.heap[h]? = some (.cells (hcells f) 206 (0, 0))
theorem HQ.lt {w : World} {h : Nat} {f : Nat → Bool} (H : HQ w h f) : h < w.heap.size := (Array.getElem?_eq_some_iff.1 H).1
theorem HQ.keep {w w' : World} {h : Nat} {f : Nat → Bool} {S : List Nat} (H : HQ w h f) (hk : Keeps S w w') (hb : h ∉ S) : HQ w' h f := (hk.block h H.lt hb).trans H
theorem HQ.cell {w : World} {h : Nat} {f : Nat → Bool} (H : HQ w h f) {k : Nat} (hk : k < 256) : w.cell? ⟨h, k, none⟩ = some (.bool (f k)) := by
  unfold HQ at H
  simp [World.cell?, H, hcells_get f hk]
theorem HQ.frozen {w : World} {h : Nat} {f : Nat → Bool} (H : HQ w h f) (k : Nat) : w.frozen? ⟨h, k, none⟩ = false := by
  unfold HQ at H
  simp [World.frozen?, H]
theorem HQ.set {w : World} {h : Nat} {f : Nat → Bool} (H : HQ w h f) (k : Nat) (v : Bool) : HQ (w.setCell ⟨h, k, none⟩ (.bool v)) h (fun n => if n = k then v else f n) := by
  unfold HQ at *
  simp [World.setCell, Array.getElem?_modify, H, hcells_set]
theorem hcells_congr {f g : Nat → Bool} (e : ∀ n, n < 256 → f n = g n) : hcells f = hcells g := by
  apply Array.ext_getElem?
  intro i
  by_cases hi : i < 256
  · rw [hcells_get _ hi, hcells_get _ hi, e i hi]
  · rw [Array.getElem?_eq_none (by rw [hcells_size]; omega), Array.getElem?_eq_none (by rw [hcells_size]; omega)]
theorem HQ.congr {w : World} {h : Nat} {f g : Nat → Bool} (H : HQ w h f) (e : ∀ n, n < 256 → f n = g n) : HQ w h g := by
  unfold HQ at *
  rw [H, hcells_congr e]

/-- The bytes from a to l. -/
def ranB (a l : Int) (n : Nat) : Bool := decide (a ≤ n) && decide ((n : Int) ≤ l)

set_option maxRecDepth 100000 in
set_option maxHeartbeats 1000000 in
theorem addRange_any (h : Nat) (f : Nat → Bool) (a l : Int) (w : World) (hh : HQ w h f) (ha0 : 0 ≤ a) (ha1 : a ≤ 255) (hl0 : 0 ≤ l) (hl1 : l ≤ 255) :
    Calls Tryz.prog 291 #[.pointer (some ⟨h, 0, none⟩), .int .u8 a, .int .u8 l] w fun e w' => e = .returned (.tuple #[]) ∧ HQ w' h (fun n => f n || ranB a l n) ∧ Keeps [h] w w' := by
  obtain ⟨A, rfl⟩ : ∃ A : Nat, a = A := ⟨a.toNat, by omega⟩
  go_enter Tryz.func291, Tryz.ntmps291
  go_wp2
  go_loopw [6] (fun q wr => ∃ m : Nat, A ≤ m ∧ m ≤ 256 ∧ ((m : Int) ≤ l + 1 ∨ m = A) ∧ q = .int .i64 m ∧ HQ wr h (fun n => f n || ranB A ((m : Int) - 1) n) ∧ Keeps [h] w wr) (fun q _ => 256 - (intOf q).toNat)
  case atStart => exact ⟨A, Nat.le_refl _, by omega, Or.inr rfl, rfl, hh.congr (fun n hn => by have : ranB A ((A : Int) - 1) n = false := by { unfold ranB; by_cases h1 : (A : Int) ≤ n; { rw [decide_eq_false (show ¬ (n : Int) ≤ (A : Int) - 1 by omega), Bool.and_false] }; { rw [decide_eq_false h1, Bool.false_and] } }; rw [this, Bool.or_false]), Keeps.refl _ _⟩
  case round =>
    obtain ⟨m, hAm, hm, hml, rfl, hq, hk⟩ := hrel
    by_cases hlt : (m : Int) ≤ l
    · have hm255 : m < 256 := by omega
      have hcm := hq.cell hm255
      have hfm := hq.frozen m
      have hm0 : (0 : Int) ≤ (m : Int) := by omega
      have hm1 : (m : Int) ≤ 255 := by omega
      have HN : HQ (wr.setCell ⟨h, m, none⟩ (.bool true)) h (fun n => f n || ranB A (((m + 1 : Nat) : Int) - 1) n) := (hq.set m true).congr fun n hn => by
        unfold ranB
        by_cases e : n = m
        · subst e
          rw [if_pos rfl, decide_eq_true (show (A : Int) ≤ n by omega), decide_eq_true (show (n : Int) ≤ ((n + 1 : Nat) : Int) - 1 by omega)]; simp
        · rw [if_neg e]
          congr 2
          rw [decide_eq_decide]; omega
      go_wp2
      go_roundw
      case rel => exact ⟨m + 1, by omega, by omega, Or.inl (by omega), by go_num, HN, hk.setCell (by simp) _⟩
      case measure => simp [intOf]; omega
    · go_wp2
      go_end0
      refine ⟨rfl, hq.congr fun n hn => ?_, hk⟩
      unfold ranB
      congr 1
      by_cases h1 : (A : Int) ≤ n
      · rw [decide_eq_true h1]
        congr 1
        rw [decide_eq_decide]; omega
      · rw [decide_eq_false h1, Bool.false_and, Bool.false_and]
end Go.Proofs.YtnfojonmohijpaaGreatDoor
