/-
  DERIVED. The contract of AddClass. Conditions: none but the set's block.
-/
import Derived.Test.YtnfojonmohijpaaGreatDoorJPH
set_option linter.unusedSimpArgs false
set_option linter.unusedVariables false
namespace Go.Proofs.YtnfojonmohijpaaGreatDoor
open Go.RowKit

theorem eqLit (a b : List UInt8) : ((nmB a).toList == b) = decide (a = b) := by
  have := eqL a b
  rwa [ByteArray.toList_eq (nmB b), nmB_toList] at this

set_option maxRecDepth 100000 in
set_option maxHeartbeats 1000000 in
theorem addClass_0 (h : Nat) (f : Nat → Bool) (w : World) (hh : HQ w h f) :
    Calls Tryz.prog 288 #[.pointer (some ⟨h, 0, none⟩), .string (nmB (nm 0))] w fun e w' => e = .returned (.tuple #[]) ∧ HQ w' h (fun n => f n || clsB 0 n) ∧ Keeps [h] w w' := by
  have e4 : ((nmB (nm 0)).toList == [97, 108, 110, 117, 109]) = false := (eqLit _ _).trans (by decide)
  have e3 : ((nmB (nm 0)).toList == [97, 108, 112, 104, 97]) = false := (eqLit _ _).trans (by decide)
  have e1 : ((nmB (nm 0)).toList == [108, 111, 119, 101, 114]) = false := (eqLit _ _).trans (by decide)
  have e2 : ((nmB (nm 0)).toList == [117, 112, 112, 101, 114]) = false := (eqLit _ _).trans (by decide)
  have e0 : ((nmB (nm 0)).toList == [100, 105, 103, 105, 116]) = true := (eqLit _ _).trans (by decide)
  have e5 : ((nmB (nm 0)).toList == [115, 112, 97, 99, 101]) = false := (eqLit _ _).trans (by decide)
  have e6 : ((nmB (nm 0)).toList == [112, 117, 110, 99, 116]) = false := (eqLit _ _).trans (by decide)
  generalize nmB (nm 0) = S at *
  go_enter Tryz.func288, Tryz.ntmps288
  go_wp2_with (first | (go_at_call 291; refine (addRange_any h _ 48 57 _ hh (by omega) (by omega) (by omega) (by omega)).mono ?_; rintro e w1 ⟨rfl, hq1, hk1⟩))
  go_end0
  refine ⟨rfl, hq1.congr fun n hn => ?_, hk1⟩
  have key : ∀ m : Fin 256, (ranB 48 57 m.val) = clsB 0 (m.val : Int) := by decide
  have := key ⟨n, hn⟩
  simp only [Bool.or_assoc] at this ⊢
  rw [this]

set_option maxRecDepth 100000 in
set_option maxHeartbeats 1000000 in
theorem addClass_1 (h : Nat) (f : Nat → Bool) (w : World) (hh : HQ w h f) :
    Calls Tryz.prog 288 #[.pointer (some ⟨h, 0, none⟩), .string (nmB (nm 1))] w fun e w' => e = .returned (.tuple #[]) ∧ HQ w' h (fun n => f n || clsB 1 n) ∧ Keeps [h] w w' := by
  have e4 : ((nmB (nm 1)).toList == [97, 108, 110, 117, 109]) = false := (eqLit _ _).trans (by decide)
  have e3 : ((nmB (nm 1)).toList == [97, 108, 112, 104, 97]) = false := (eqLit _ _).trans (by decide)
  have e1 : ((nmB (nm 1)).toList == [108, 111, 119, 101, 114]) = true := (eqLit _ _).trans (by decide)
  have e2 : ((nmB (nm 1)).toList == [117, 112, 112, 101, 114]) = false := (eqLit _ _).trans (by decide)
  have e0 : ((nmB (nm 1)).toList == [100, 105, 103, 105, 116]) = false := (eqLit _ _).trans (by decide)
  have e5 : ((nmB (nm 1)).toList == [115, 112, 97, 99, 101]) = false := (eqLit _ _).trans (by decide)
  have e6 : ((nmB (nm 1)).toList == [112, 117, 110, 99, 116]) = false := (eqLit _ _).trans (by decide)
  generalize nmB (nm 1) = S at *
  go_enter Tryz.func288, Tryz.ntmps288
  go_wp2_with (first | (go_at_call 291; refine (addRange_any h _ 97 122 _ hh (by omega) (by omega) (by omega) (by omega)).mono ?_; rintro e w1 ⟨rfl, hq1, hk1⟩))
  go_end0
  refine ⟨rfl, hq1.congr fun n hn => ?_, hk1⟩
  have key : ∀ m : Fin 256, (ranB 97 122 m.val) = clsB 1 (m.val : Int) := by decide
  have := key ⟨n, hn⟩
  simp only [Bool.or_assoc] at this ⊢
  rw [this]

set_option maxRecDepth 100000 in
set_option maxHeartbeats 1000000 in
theorem addClass_2 (h : Nat) (f : Nat → Bool) (w : World) (hh : HQ w h f) :
    Calls Tryz.prog 288 #[.pointer (some ⟨h, 0, none⟩), .string (nmB (nm 2))] w fun e w' => e = .returned (.tuple #[]) ∧ HQ w' h (fun n => f n || clsB 2 n) ∧ Keeps [h] w w' := by
  have e4 : ((nmB (nm 2)).toList == [97, 108, 110, 117, 109]) = false := (eqLit _ _).trans (by decide)
  have e3 : ((nmB (nm 2)).toList == [97, 108, 112, 104, 97]) = false := (eqLit _ _).trans (by decide)
  have e1 : ((nmB (nm 2)).toList == [108, 111, 119, 101, 114]) = false := (eqLit _ _).trans (by decide)
  have e2 : ((nmB (nm 2)).toList == [117, 112, 112, 101, 114]) = true := (eqLit _ _).trans (by decide)
  have e0 : ((nmB (nm 2)).toList == [100, 105, 103, 105, 116]) = false := (eqLit _ _).trans (by decide)
  have e5 : ((nmB (nm 2)).toList == [115, 112, 97, 99, 101]) = false := (eqLit _ _).trans (by decide)
  have e6 : ((nmB (nm 2)).toList == [112, 117, 110, 99, 116]) = false := (eqLit _ _).trans (by decide)
  generalize nmB (nm 2) = S at *
  go_enter Tryz.func288, Tryz.ntmps288
  go_wp2_with (first | (go_at_call 291; refine (addRange_any h _ 65 90 _ hh (by omega) (by omega) (by omega) (by omega)).mono ?_; rintro e w1 ⟨rfl, hq1, hk1⟩))
  go_end0
  refine ⟨rfl, hq1.congr fun n hn => ?_, hk1⟩
  have key : ∀ m : Fin 256, (ranB 65 90 m.val) = clsB 2 (m.val : Int) := by decide
  have := key ⟨n, hn⟩
  simp only [Bool.or_assoc] at this ⊢
  rw [this]

set_option maxRecDepth 100000 in
set_option maxHeartbeats 1000000 in
theorem addClass_3 (h : Nat) (f : Nat → Bool) (w : World) (hh : HQ w h f) :
    Calls Tryz.prog 288 #[.pointer (some ⟨h, 0, none⟩), .string (nmB (nm 3))] w fun e w' => e = .returned (.tuple #[]) ∧ HQ w' h (fun n => f n || clsB 3 n) ∧ Keeps [h] w w' := by
  have e4 : ((nmB (nm 3)).toList == [97, 108, 110, 117, 109]) = false := (eqLit _ _).trans (by decide)
  have e3 : ((nmB (nm 3)).toList == [97, 108, 112, 104, 97]) = true := (eqLit _ _).trans (by decide)
  have e1 : ((nmB (nm 3)).toList == [108, 111, 119, 101, 114]) = false := (eqLit _ _).trans (by decide)
  have e2 : ((nmB (nm 3)).toList == [117, 112, 112, 101, 114]) = false := (eqLit _ _).trans (by decide)
  have e0 : ((nmB (nm 3)).toList == [100, 105, 103, 105, 116]) = false := (eqLit _ _).trans (by decide)
  have e5 : ((nmB (nm 3)).toList == [115, 112, 97, 99, 101]) = false := (eqLit _ _).trans (by decide)
  have e6 : ((nmB (nm 3)).toList == [112, 117, 110, 99, 116]) = false := (eqLit _ _).trans (by decide)
  generalize nmB (nm 3) = S at *
  go_enter Tryz.func288, Tryz.ntmps288
  go_wp2_with (first | (go_at_call 291; refine (addRange_any h _ 97 122 _ hq1 (by omega) (by omega) (by omega) (by omega)).mono ?_; rintro e w2 ⟨rfl, hq2, hk2⟩) | (go_at_call 291; refine (addRange_any h _ 65 90 _ hh (by omega) (by omega) (by omega) (by omega)).mono ?_; rintro e w1 ⟨rfl, hq1, hk1⟩))
  go_end0
  refine ⟨rfl, hq2.congr fun n hn => ?_, (hk1.trans hk2)⟩
  have key : ∀ m : Fin 256, (ranB 65 90 m.val || ranB 97 122 m.val) = clsB 3 (m.val : Int) := by decide
  have := key ⟨n, hn⟩
  simp only [Bool.or_assoc] at this ⊢
  rw [this]

set_option maxRecDepth 100000 in
set_option maxHeartbeats 1000000 in
theorem addClass_4 (h : Nat) (f : Nat → Bool) (w : World) (hh : HQ w h f) :
    Calls Tryz.prog 288 #[.pointer (some ⟨h, 0, none⟩), .string (nmB (nm 4))] w fun e w' => e = .returned (.tuple #[]) ∧ HQ w' h (fun n => f n || clsB 4 n) ∧ Keeps [h] w w' := by
  have e4 : ((nmB (nm 4)).toList == [97, 108, 110, 117, 109]) = true := (eqLit _ _).trans (by decide)
  have e3 : ((nmB (nm 4)).toList == [97, 108, 112, 104, 97]) = false := (eqLit _ _).trans (by decide)
  have e1 : ((nmB (nm 4)).toList == [108, 111, 119, 101, 114]) = false := (eqLit _ _).trans (by decide)
  have e2 : ((nmB (nm 4)).toList == [117, 112, 112, 101, 114]) = false := (eqLit _ _).trans (by decide)
  have e0 : ((nmB (nm 4)).toList == [100, 105, 103, 105, 116]) = false := (eqLit _ _).trans (by decide)
  have e5 : ((nmB (nm 4)).toList == [115, 112, 97, 99, 101]) = false := (eqLit _ _).trans (by decide)
  have e6 : ((nmB (nm 4)).toList == [112, 117, 110, 99, 116]) = false := (eqLit _ _).trans (by decide)
  generalize nmB (nm 4) = S at *
  go_enter Tryz.func288, Tryz.ntmps288
  go_wp2_with (first | (go_at_call 291; refine (addRange_any h _ 97 122 _ hq2 (by omega) (by omega) (by omega) (by omega)).mono ?_; rintro e w3 ⟨rfl, hq3, hk3⟩) | (go_at_call 291; refine (addRange_any h _ 65 90 _ hq1 (by omega) (by omega) (by omega) (by omega)).mono ?_; rintro e w2 ⟨rfl, hq2, hk2⟩) | (go_at_call 291; refine (addRange_any h _ 48 57 _ hh (by omega) (by omega) (by omega) (by omega)).mono ?_; rintro e w1 ⟨rfl, hq1, hk1⟩))
  go_end0
  refine ⟨rfl, hq3.congr fun n hn => ?_, ((hk1.trans hk2).trans hk3)⟩
  have key : ∀ m : Fin 256, (ranB 48 57 m.val || ranB 65 90 m.val || ranB 97 122 m.val) = clsB 4 (m.val : Int) := by decide
  have := key ⟨n, hn⟩
  simp only [Bool.or_assoc] at this ⊢
  rw [this]

set_option maxRecDepth 100000 in
set_option maxHeartbeats 1000000 in
theorem addClass_5 (h : Nat) (f : Nat → Bool) (w : World) (hh : HQ w h f) :
    Calls Tryz.prog 288 #[.pointer (some ⟨h, 0, none⟩), .string (nmB (nm 5))] w fun e w' => e = .returned (.tuple #[]) ∧ HQ w' h (fun n => f n || clsB 5 n) ∧ Keeps [h] w w' := by
  have e4 : ((nmB (nm 5)).toList == [97, 108, 110, 117, 109]) = false := (eqLit _ _).trans (by decide)
  have e3 : ((nmB (nm 5)).toList == [97, 108, 112, 104, 97]) = false := (eqLit _ _).trans (by decide)
  have e1 : ((nmB (nm 5)).toList == [108, 111, 119, 101, 114]) = false := (eqLit _ _).trans (by decide)
  have e2 : ((nmB (nm 5)).toList == [117, 112, 112, 101, 114]) = false := (eqLit _ _).trans (by decide)
  have e0 : ((nmB (nm 5)).toList == [100, 105, 103, 105, 116]) = false := (eqLit _ _).trans (by decide)
  have e5 : ((nmB (nm 5)).toList == [115, 112, 97, 99, 101]) = true := (eqLit _ _).trans (by decide)
  have e6 : ((nmB (nm 5)).toList == [112, 117, 110, 99, 116]) = false := (eqLit _ _).trans (by decide)
  generalize nmB (nm 5) = S at *
  go_enter Tryz.func288, Tryz.ntmps288
  go_wp2_with (first | (go_at_call 291; refine (addRange_any h _ 32 32 _ hq1 (by omega) (by omega) (by omega) (by omega)).mono ?_; rintro e w2 ⟨rfl, hq2, hk2⟩) | (go_at_call 291; refine (addRange_any h _ 9 13 _ hh (by omega) (by omega) (by omega) (by omega)).mono ?_; rintro e w1 ⟨rfl, hq1, hk1⟩))
  go_end0
  refine ⟨rfl, hq2.congr fun n hn => ?_, (hk1.trans hk2)⟩
  have key : ∀ m : Fin 256, (ranB 9 13 m.val || ranB 32 32 m.val) = clsB 5 (m.val : Int) := by decide
  have := key ⟨n, hn⟩
  simp only [Bool.or_assoc] at this ⊢
  rw [this]

set_option maxRecDepth 100000 in
set_option maxHeartbeats 1000000 in
theorem addClass_6 (h : Nat) (f : Nat → Bool) (w : World) (hh : HQ w h f) :
    Calls Tryz.prog 288 #[.pointer (some ⟨h, 0, none⟩), .string (nmB (nm 6))] w fun e w' => e = .returned (.tuple #[]) ∧ HQ w' h (fun n => f n || clsB 6 n) ∧ Keeps [h] w w' := by
  have e4 : ((nmB (nm 6)).toList == [97, 108, 110, 117, 109]) = false := (eqLit _ _).trans (by decide)
  have e3 : ((nmB (nm 6)).toList == [97, 108, 112, 104, 97]) = false := (eqLit _ _).trans (by decide)
  have e1 : ((nmB (nm 6)).toList == [108, 111, 119, 101, 114]) = false := (eqLit _ _).trans (by decide)
  have e2 : ((nmB (nm 6)).toList == [117, 112, 112, 101, 114]) = false := (eqLit _ _).trans (by decide)
  have e0 : ((nmB (nm 6)).toList == [100, 105, 103, 105, 116]) = false := (eqLit _ _).trans (by decide)
  have e5 : ((nmB (nm 6)).toList == [115, 112, 97, 99, 101]) = false := (eqLit _ _).trans (by decide)
  have e6 : ((nmB (nm 6)).toList == [112, 117, 110, 99, 116]) = true := (eqLit _ _).trans (by decide)
  generalize nmB (nm 6) = S at *
  go_enter Tryz.func288, Tryz.ntmps288
  go_wp2_with (first | (go_at_call 291; refine (addRange_any h _ 123 126 _ hq3 (by omega) (by omega) (by omega) (by omega)).mono ?_; rintro e w4 ⟨rfl, hq4, hk4⟩) | (go_at_call 291; refine (addRange_any h _ 91 96 _ hq2 (by omega) (by omega) (by omega) (by omega)).mono ?_; rintro e w3 ⟨rfl, hq3, hk3⟩) | (go_at_call 291; refine (addRange_any h _ 58 64 _ hq1 (by omega) (by omega) (by omega) (by omega)).mono ?_; rintro e w2 ⟨rfl, hq2, hk2⟩) | (go_at_call 291; refine (addRange_any h _ 33 47 _ hh (by omega) (by omega) (by omega) (by omega)).mono ?_; rintro e w1 ⟨rfl, hq1, hk1⟩))
  go_end0
  refine ⟨rfl, hq4.congr fun n hn => ?_, (((hk1.trans hk2).trans hk3).trans hk4)⟩
  have key : ∀ m : Fin 256, (ranB 33 47 m.val || ranB 58 64 m.val || ranB 91 96 m.val || ranB 123 126 m.val) = clsB 6 (m.val : Int) := by decide
  have := key ⟨n, hn⟩
  simp only [Bool.or_assoc] at this ⊢
  rw [this]

theorem addClass_any (h k : Nat) (hk : k < 7) (f : Nat → Bool) (w : World) (hh : HQ w h f) :
    Calls Tryz.prog 288 #[.pointer (some ⟨h, 0, none⟩), .string (nmB (nm k))] w fun e w' => e = .returned (.tuple #[]) ∧ HQ w' h (fun n => f n || clsB k n) ∧ Keeps [h] w w' :=
  match k, hk with
  | 0, _ => addClass_0 h f w hh
  | 1, _ => addClass_1 h f w hh
  | 2, _ => addClass_2 h f w hh
  | 3, _ => addClass_3 h f w hh
  | 4, _ => addClass_4 h f w hh
  | 5, _ => addClass_5 h f w hh
  | 6, _ => addClass_6 h f w hh
end Go.Proofs.YtnfojonmohijpaaGreatDoor
