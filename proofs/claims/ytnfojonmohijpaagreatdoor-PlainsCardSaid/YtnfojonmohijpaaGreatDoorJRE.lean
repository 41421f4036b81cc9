/-
  DERIVED. The contract of the reference's 'Class': is a byte of a class, whose name it is. No conditions but that the name is one of the seven.
-/
import Derived.Test.YtnfojonmohijpaaGreatDoorJRA
import Derived.Test.YtnfojonmohijpaaGreatDoorJRC
set_option linter.unusedSimpArgs false
set_option linter.unusedVariables false
namespace Go.Proofs.YtnfojonmohijpaaGreatDoor
open Go.RowKit

def nmB (l : List UInt8) : ByteArray := ⟨l.toArray⟩

set_option maxHeartbeats 1000000 in
theorem class_0 (c : Int) (w : World) :
    Calls Tryz.prog 296 #[.string ⟨#[100, 105, 103, 105, 116]⟩, .int .u8 c] w fun e w' => e = .returned (.bool (clsB 0 c)) ∧ w' = w := by
  cases hd : digB c
  all_goals
    go_enter Tryz.func296, Tryz.ntmps296
    go_wp2_with (go_at_call 162; refine (digit_any c _).mono ?_; rintro e w' ⟨rfl, rfl⟩)
    all_goals go_ret
    all_goals exact ⟨ret_bool (by simp [clsB, hd, lowB, uppB] <;> omega), rfl⟩
set_option maxHeartbeats 1000000 in
theorem class_1 (c : Int) (w : World) :
    Calls Tryz.prog 296 #[.string ⟨#[108, 111, 119, 101, 114]⟩, .int .u8 c] w fun e w' => e = .returned (.bool (clsB 1 c)) ∧ w' = w := by
  cases hd : digB c
  all_goals
    go_enter Tryz.func296, Tryz.ntmps296
    go_wp2_with (go_at_call 162; refine (digit_any c _).mono ?_; rintro e w' ⟨rfl, rfl⟩)
    all_goals go_ret
    all_goals exact ⟨ret_bool (by simp [clsB, hd, lowB, uppB] <;> omega), rfl⟩
set_option maxHeartbeats 1000000 in
theorem class_2 (c : Int) (w : World) :
    Calls Tryz.prog 296 #[.string ⟨#[117, 112, 112, 101, 114]⟩, .int .u8 c] w fun e w' => e = .returned (.bool (clsB 2 c)) ∧ w' = w := by
  cases hd : digB c
  all_goals
    go_enter Tryz.func296, Tryz.ntmps296
    go_wp2_with (go_at_call 162; refine (digit_any c _).mono ?_; rintro e w' ⟨rfl, rfl⟩)
    all_goals go_ret
    all_goals exact ⟨ret_bool (by simp [clsB, hd, lowB, uppB] <;> omega), rfl⟩
set_option maxHeartbeats 1000000 in
theorem class_3 (c : Int) (w : World) :
    Calls Tryz.prog 296 #[.string ⟨#[97, 108, 112, 104, 97]⟩, .int .u8 c] w fun e w' => e = .returned (.bool (clsB 3 c)) ∧ w' = w := by
  cases hd : digB c
  all_goals
    go_enter Tryz.func296, Tryz.ntmps296
    go_wp2_with (go_at_call 162; refine (digit_any c _).mono ?_; rintro e w' ⟨rfl, rfl⟩)
    all_goals go_ret
    all_goals exact ⟨ret_bool (by simp [clsB, hd, lowB, uppB] <;> omega), rfl⟩
set_option maxHeartbeats 1000000 in
theorem class_4 (c : Int) (w : World) :
    Calls Tryz.prog 296 #[.string ⟨#[97, 108, 110, 117, 109]⟩, .int .u8 c] w fun e w' => e = .returned (.bool (clsB 4 c)) ∧ w' = w := by
  cases hd : digB c
  all_goals
    go_enter Tryz.func296, Tryz.ntmps296
    go_wp2_with (go_at_call 162; refine (digit_any c _).mono ?_; rintro e w' ⟨rfl, rfl⟩)
    all_goals go_ret
    all_goals exact ⟨ret_bool (by simp [clsB, hd, lowB, uppB] <;> omega), rfl⟩
set_option maxHeartbeats 1000000 in
theorem class_5 (c : Int) (w : World) :
    Calls Tryz.prog 296 #[.string ⟨#[115, 112, 97, 99, 101]⟩, .int .u8 c] w fun e w' => e = .returned (.bool (clsB 5 c)) ∧ w' = w := by
  cases hd : digB c
  all_goals
    go_enter Tryz.func296, Tryz.ntmps296
    go_wp2_with (go_at_call 162; refine (digit_any c _).mono ?_; rintro e w' ⟨rfl, rfl⟩)
    all_goals go_ret
    all_goals exact ⟨ret_bool (by simp [clsB, hd, lowB, uppB] <;> omega), rfl⟩
set_option maxHeartbeats 1000000 in
theorem class_6 (c : Int) (w : World) :
    Calls Tryz.prog 296 #[.string ⟨#[112, 117, 110, 99, 116]⟩, .int .u8 c] w fun e w' => e = .returned (.bool (clsB 6 c)) ∧ w' = w := by
  cases hd : digB c
  all_goals
    go_enter Tryz.func296, Tryz.ntmps296
    go_wp2_with (go_at_call 162; refine (digit_any c _).mono ?_; rintro e w' ⟨rfl, rfl⟩)
    all_goals go_ret
    all_goals exact ⟨ret_bool (by simp [clsB, hd, lowB, uppB] <;> omega), rfl⟩
end Go.Proofs.YtnfojonmohijpaaGreatDoor

/-
  DERIVED. A set's 256 cells in memory; plain facts on names of classes. Nothing is assumed.
-/
namespace Go.Proofs.YtnfojonmohijpaaGreatDoor
open Go.RowKit

def hcells (f : Nat → Bool) : Array Value := Array.ofFn (n := 256) fun k => Value.bool (f k.val)
theorem hcells_size (f : Nat → Bool) : (hcells f).size = 256 := by simp [hcells]
theorem hcells_get (f : Nat → Bool) {k : Nat} (h : k < 256) : (hcells f)[k]? = some (.bool (f k)) := by simp [hcells, h]
theorem hcells_set (f : Nat → Bool) (k : Nat) (v : Bool) : (hcells f).setIfInBounds k (.bool v) = hcells (fun n => if n = k then v else f n) := by
  apply Array.ext_getElem?
  intro i
  rw [Array.getElem?_setIfInBounds]
  by_cases hi : i < 256
  · rw [hcells_get _ hi, hcells_get _ hi]
    by_cases hk : k = i
    · subst hk; simp [hcells_size, hi]
    · simp [hk, Ne.symm hk]
  · have e1 : (hcells fun n => if n = k then v else f n)[i]? = none := Array.getElem?_eq_none (by rw [hcells_size]; omega)
    have e2 : (hcells f)[i]? = none := Array.getElem?_eq_none (by rw [hcells_size]; omega)
    rw [e1, e2]
    by_cases hk : k = i
    · rw [if_pos hk, if_neg (by rw [hcells_size]; omega)]
    · rw [if_neg hk]

/-- Block h holds the set f. -/
def HB (w : World) (h : Nat) (f : Nat → Bool) : Prop := w.heap[h]? = some (.cells (hcells f) 4 (0, 0))
theorem HB.lt {w : World} {h : Nat} {f : Nat → Bool} (H : HB w h f) : h < w.heap.size := (Array.getElem?_eq_some_iff.1 H).1
theorem HB.keep {w w' : World} {h : Nat} {f : Nat → Bool} {S : List Nat} (H : HB w h f) (hk : Keeps S w w') (hb : h ∉ S) : HB w' h f := (hk.block h H.lt hb).trans H
theorem HB.cell {w : World} {h : Nat} {f : Nat → Bool} (H : HB w h f) {k : Nat} (hk : k < 256) : w.cell? ⟨h, k, none⟩ = some (.bool (f k)) := by
  unfold HB at H
  simp [World.cell?, H, hcells_get f hk]
theorem HB.frozen {w : World} {h : Nat} {f : Nat → Bool} (H : HB w h f) (k : Nat) : w.frozen? ⟨h, k, none⟩ = false := by
  unfold HB at H
  simp [World.frozen?, H]
theorem HB.set {w : World} {h : Nat} {f : Nat → Bool} (H : HB w h f) (k : Nat) (v : Bool) : HB (w.setCell ⟨h, k, none⟩ (.bool v)) h (fun n => if n = k then v else f n) := by
  unfold HB at *
  simp [World.setCell, Array.getElem?_modify, H, hcells_set]
theorem HB.congr {w : World} {h : Nat} {f g : Nat → Bool} (H : HB w h f) (e : ∀ n, n < 256 → f n = g n) : HB w h g := by
  unfold HB at *
  rw [H]
  have : hcells f = hcells g := by
    apply Array.ext_getElem?
    intro i
    by_cases hi : i < 256
    · rw [hcells_get _ hi, hcells_get _ hi, e i hi]
    · rw [Array.getElem?_eq_none (by rw [hcells_size]; omega), Array.getElem?_eq_none (by rw [hcells_size]; omega)]
  rw [this]
theorem PB.setOther {w : World} {b : Nat} {p : PS} (h : PB w b p) {a : Addr} (ha : a.block ≠ b) (v : Value) : PB (w.setCell a v) b p := by
  unfold PB at *
  rw [Below.heap_setCell _ _ _ _ (Ne.symm ha)]; exact h
theorem HB.setOther {w : World} {h : Nat} {f : Nat → Bool} (H : HB w h f) {a : Addr} (ha : a.block ≠ h) (v : Value) : HB (w.setCell a v) h f := by
  unfold HB at *
  rw [Below.heap_setCell _ _ _ _ (Ne.symm ha)]; exact H

/-- The name of a place. -/
def nm (k : Nat) : List UInt8 := names.getD k []
theorem names_len : ∀ n ∈ names, n.length = 5 := by decide
theorem names_count : names.length = 7 := rfl
/-- Class, of a name of the list. -/
theorem class_any (k : Nat) (hk : k < 7) (c : Int) (w : World) :
    Calls Tryz.prog 296 #[.string (nmB (nm k)), .int .u8 c] w fun e w' => e = .returned (.bool (clsB k c)) ∧ w' = w := by
  match k, hk with
  | 0, _ => exact class_0 c w
  | 1, _ => exact class_1 c w
  | 2, _ => exact class_2 c w
  | 3, _ => exact class_3 c w
  | 4, _ => exact class_4 c w
  | 5, _ => exact class_5 c w
  | 6, _ => exact class_6 c w

/-- The seven names, as a row of cells. -/
def ncells : Array Value := #[.string (nmB [100, 105, 103, 105, 116]), .string (nmB [108, 111, 119, 101, 114]), .string (nmB [117, 112, 112, 101, 114]), .string (nmB [97, 108, 112, 104, 97]), .string (nmB [97, 108, 110, 117, 109]), .string (nmB [115, 112, 97, 99, 101]), .string (nmB [112, 117, 110, 99, 116])]
def NB (w : World) (g : Nat) : Prop := w.heap[g]? = some (.cells ncells 9 (0, 0))
theorem NB.lt {w : World} {g : Nat} (H : NB w g) : g < w.heap.size := (Array.getElem?_eq_some_iff.1 H).1
theorem NB.keep {w w' : World} {g : Nat} {S : List Nat} (H : NB w g) (hk : Keeps S w w') (hb : g ∉ S) : NB w' g := (hk.block g H.lt hb).trans H
theorem NB.cell {w : World} {g : Nat} (H : NB w g) {k : Nat} (hk : k < 7) : w.cell? ⟨g, k, none⟩ = some (.string (nmB (nm k))) := by
  unfold NB at H
  match k, hk with
  | 0, _ => simp [World.cell?, H]; rfl
  | 1, _ => simp [World.cell?, H]; rfl
  | 2, _ => simp [World.cell?, H]; rfl
  | 3, _ => simp [World.cell?, H]; rfl
  | 4, _ => simp [World.cell?, H]; rfl
  | 5, _ => simp [World.cell?, H]; rfl
  | 6, _ => simp [World.cell?, H]; rfl
theorem NB.drewN {w : World} {g : Nat} (H : NB w g) (n : Nat) : NB (w.drewN n) g := H
theorem HB.drewN {w : World} {h : Nat} {f : Nat → Bool} (H : HB w h f) (n : Nat) : HB (w.drewN n) h f := H
theorem NB.setOther {w : World} {g : Nat} (H : NB w g) {a : Addr} (ha : a.block ≠ g) (v : Value) : NB (w.setCell a v) g := by
  unfold NB at *
  rw [Below.heap_setCell _ _ _ _ (Ne.symm ha)]; exact H
theorem Keeps.mono {S S' : List Nat} {a w : World} (h : Keeps S a w) (hs : ∀ x, x ∈ S → x ∈ S') : Keeps S' a w :=
  ⟨h.os, h.tape, h.output, h.size, fun k hk hn => h.block k hk fun hx => hn (hs k hx)⟩

theorem nmB_toList (l : List UInt8) : (nmB l).data.toList = l := by simp [nmB]
theorem nmB_size (l : List UInt8) : (nmB l).size = l.length := by simp [nmB, ByteArray.size]

theorem nm_get {j : Nat} (hj : j < 7) : nm j = names[j]'(by rw [names_count]; exact hj) := by
  unfold nm
  rw [List.getD_eq_getElem?_getD, List.getElem?_eq_getElem (by rw [names_count]; exact hj)]; rfl
theorem nm_len {j : Nat} (hj : j < 7) : (nm j).length = 5 := by rw [nm_get hj]; exact names_len _ (List.getElem_mem _)
theorem nm_mem {j : Nat} (hj : j < 7) : nm j ∈ names := by rw [nm_get hj]; exact List.getElem_mem _

/-- What is known of the names ahead of a place: none is the word. -/
theorem find_none {word : List UInt8} (h : ∀ j, j < 7 → nm j ≠ word) : names.findIdx? (· = word) = none := by
  rw [List.findIdx?_eq_none_iff]
  intro x hx
  obtain ⟨j, hj, rfl⟩ := List.mem_iff_getElem.1 hx
  have := h j hj
  rw [nm_get hj] at this
  simpa using this
theorem find_some {word : List UInt8} {k : Nat} (hk : k < 7) (h : ∀ j, j < k → nm j ≠ word) (e : nm k = word) : names.findIdx? (· = word) = some k := by
  rw [List.findIdx?_eq_some_iff_getElem]
  refine ⟨hk, ?_, ?_⟩
  · have e' := (nm_get hk).symm.trans e
    exact decide_eq_true e'
  · intro j hj
    have := h j hj
    rw [nm_get (by omega)] at this
    simpa using this

theorem needed_s (p : PS) (c : Int) : (p.needed c).s = p.s := by unfold PS.needed PS.failed; split <;> (try split) <;> rfl
theorem needed_le {p : PS} {c : Int} (hc : 0 ≤ c) (h : p.ix ≤ p.s.size) : (p.needed c).ix ≤ (p.needed c).s.size := by
  unfold PS.needed PS.failed
  split
  · rename_i hh
    exact (PS.cur_good (by omega)).2.1
  · split <;> exact h
theorem eqL (a b : List UInt8) : ((nmB a).toList == (nmB b).toList) = decide (a = b) := by
  rw [ByteArray.toList_eq, ByteArray.toList_eq, nmB_toList, nmB_toList]
  by_cases h : a = b
  · subst h; simp
  · simp [h]
end Go.Proofs.YtnfojonmohijpaaGreatDoor
