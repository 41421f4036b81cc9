/-
  DERIVED. The contract of AddClass. Conditions: none but the set's block.
-/
import Derived.Test.YtnfojonmohijpabGreatDoorJRG
import Derived.Laws.Tables
import Derived.Great.BuildSlice
import Derived.Test.YtnfojonmohijpabGreatDoorJSpec
set_option linter.unusedSimpArgs false
set_option linter.unusedVariables false
namespace Go.Proofs.YtnfojonmohijpabGreatDoor
open Go.RowKit
theorem eqLit (a b : List UInt8) : ((nmB a).toList == b) = decide (a = b) := by
 have := eqL a b
 rwa [ByteArray.toList_eq (nmB b), nmB_toList] at this
set_option maxRecDepth 100000 in
set_option maxHeartbeats 1000000 in
theorem addClass_0 (h : Nat) (f : Nat → Bool) (w : World) (hh : HQ w h f) :
    Calls Tryz.prog 180 #[.pointer (some ⟨h, 0, none⟩), .string (nmB (nm 0))] w fun e w' => e = .returned (.tuple #[]) ∧ HQ w' h (fun n => f n || clsB 0 n) ∧ Keeps [h] w w' := by
 have e4 : ((nmB (nm 0)).toList == [97, 108, 110, 117, 109]) = false := (eqLit _ _).trans (by decide)
 have e3 : ((nmB (nm 0)).toList == [97, 108, 112, 104, 97]) = false := (eqLit _ _).trans (by decide)
 have e1 : ((nmB (nm 0)).toList == [108, 111, 119, 101, 114]) = false := (eqLit _ _).trans (by decide)
 have e2 : ((nmB (nm 0)).toList == [117, 112, 112, 101, 114]) = false := (eqLit _ _).trans (by decide)
 have e0 : ((nmB (nm 0)).toList == [100, 105, 103, 105, 116]) = true := (eqLit _ _).trans (by decide)
 have e5 : ((nmB (nm 0)).toList == [115, 112, 97, 99, 101]) = false := (eqLit _ _).trans (by decide)
 have e6 : ((nmB (nm 0)).toList == [112, 117, 110, 99, 116]) = false := (eqLit _ _).trans (by decide)
 generalize nmB (nm 0) = S at *
 go_enter Tryz.func180, Tryz.ntmps180
 go_wp2_with (first | (go_at_call 183; refine (addRange_any h _ 48 57 _ hh (by omega) (by omega) (by omega) (by omega)).mono ?_; rintro e w1 ⟨rfl, hq1, hk1⟩))
 go_end0
 refine ⟨rfl, hq1.congr fun n hn => ?_, hk1⟩
 have key : ∀ m : Fin 256, (ranB 48 57 m.val) = clsB 0 (m.val : Int) := by decide
 have := key ⟨n, hn⟩
 simp only [Bool.or_assoc] at this ⊢
 rw [this]
set_option maxRecDepth 100000 in
set_option maxHeartbeats 1000000 in
theorem addClass_1 (h : Nat) (f : Nat → Bool) (w : World) (hh : HQ w h f) :
    Calls Tryz.prog 180 #[.pointer (some ⟨h, 0, none⟩), .string (nmB (nm 1))] w fun e w' => e = .returned (.tuple #[]) ∧ HQ w' h (fun n => f n || clsB 1 n) ∧ Keeps [h] w w' := by
 have e4 : ((nmB (nm 1)).toList == [97, 108, 110, 117, 109]) = false := (eqLit _ _).trans (by decide)
 have e3 : ((nmB (nm 1)).toList == [97, 108, 112, 104, 97]) = false := (eqLit _ _).trans (by decide)
 have e1 : ((nmB (nm 1)).toList == [108, 111, 119, 101, 114]) = true := (eqLit _ _).trans (by decide)
 have e2 : ((nmB (nm 1)).toList == [117, 112, 112, 101, 114]) = false := (eqLit _ _).trans (by decide)
 have e0 : ((nmB (nm 1)).toList == [100, 105, 103, 105, 116]) = false := (eqLit _ _).trans (by decide)
 have e5 : ((nmB (nm 1)).toList == [115, 112, 97, 99, 101]) = false := (eqLit _ _).trans (by decide)
 have e6 : ((nmB (nm 1)).toList == [112, 117, 110, 99, 116]) = false := (eqLit _ _).trans (by decide)
 generalize nmB (nm 1) = S at *
 go_enter Tryz.func180, Tryz.ntmps180
 go_wp2_with (first | (go_at_call 183; refine (addRange_any h _ 97 122 _ hh (by omega) (by omega) (by omega) (by omega)).mono ?_; rintro e w1 ⟨rfl, hq1, hk1⟩))
 go_end0
 refine ⟨rfl, hq1.congr fun n hn => ?_, hk1⟩
 have key : ∀ m : Fin 256, (ranB 97 122 m.val) = clsB 1 (m.val : Int) := by decide
 have := key ⟨n, hn⟩
 simp only [Bool.or_assoc] at this ⊢
 rw [this]
set_option maxRecDepth 100000 in
set_option maxHeartbeats 1000000 in
theorem addClass_2 (h : Nat) (f : Nat → Bool) (w : World) (hh : HQ w h f) :
    Calls Tryz.prog 180 #[.pointer (some ⟨h, 0, none⟩), .string (nmB (nm 2))] w fun e w' => e = .returned (.tuple #[]) ∧ HQ w' h (fun n => f n || clsB 2 n) ∧ Keeps [h] w w' := by
 have e4 : ((nmB (nm 2)).toList == [97, 108, 110, 117, 109]) = false := (eqLit _ _).trans (by decide)
 have e3 : ((nmB (nm 2)).toList == [97, 108, 112, 104, 97]) = false := (eqLit _ _).trans (by decide)
 have e1 : ((nmB (nm 2)).toList == [108, 111, 119, 101, 114]) = false := (eqLit _ _).trans (by decide)
 have e2 : ((nmB (nm 2)).toList == [117, 112, 112, 101, 114]) = true := (eqLit _ _).trans (by decide)
 have e0 : ((nmB (nm 2)).toList == [100, 105, 103, 105, 116]) = false := (eqLit _ _).trans (by decide)
 have e5 : ((nmB (nm 2)).toList == [115, 112, 97, 99, 101]) = false := (eqLit _ _).trans (by decide)
 have e6 : ((nmB (nm 2)).toList == [112, 117, 110, 99, 116]) = false := (eqLit _ _).trans (by decide)
 generalize nmB (nm 2) = S at *
 go_enter Tryz.func180, Tryz.ntmps180
 go_wp2_with (first | (go_at_call 183; refine (addRange_any h _ 65 90 _ hh (by omega) (by omega) (by omega) (by omega)).mono ?_; rintro e w1 ⟨rfl, hq1, hk1⟩))
 go_end0
 refine ⟨rfl, hq1.congr fun n hn => ?_, hk1⟩
 have key : ∀ m : Fin 256, (ranB 65 90 m.val) = clsB 2 (m.val : Int) := by decide
 have := key ⟨n, hn⟩
 simp only [Bool.or_assoc] at this ⊢
 rw [this]
set_option maxRecDepth 100000 in
set_option maxHeartbeats 1000000 in
theorem addClass_3 (h : Nat) (f : Nat → Bool) (w : World) (hh : HQ w h f) :
    Calls Tryz.prog 180 #[.pointer (some ⟨h, 0, none⟩), .string (nmB (nm 3))] w fun e w' => e = .returned (.tuple #[]) ∧ HQ w' h (fun n => f n || clsB 3 n) ∧ Keeps [h] w w' := by
 have e4 : ((nmB (nm 3)).toList == [97, 108, 110, 117, 109]) = false := (eqLit _ _).trans (by decide)
 have e3 : ((nmB (nm 3)).toList == [97, 108, 112, 104, 97]) = true := (eqLit _ _).trans (by decide)
 have e1 : ((nmB (nm 3)).toList == [108, 111, 119, 101, 114]) = false := (eqLit _ _).trans (by decide)
 have e2 : ((nmB (nm 3)).toList == [117, 112, 112, 101, 114]) = false := (eqLit _ _).trans (by decide)
 have e0 : ((nmB (nm 3)).toList == [100, 105, 103, 105, 116]) = false := (eqLit _ _).trans (by decide)
 have e5 : ((nmB (nm 3)).toList == [115, 112, 97, 99, 101]) = false := (eqLit _ _).trans (by decide)
 have e6 : ((nmB (nm 3)).toList == [112, 117, 110, 99, 116]) = false := (eqLit _ _).trans (by decide)
 generalize nmB (nm 3) = S at *
 go_enter Tryz.func180, Tryz.ntmps180
 go_wp2_with (first | (go_at_call 183; refine (addRange_any h _ 97 122 _ hq1 (by omega) (by omega) (by omega) (by omega)).mono ?_; rintro e w2 ⟨rfl, hq2, hk2⟩) | (go_at_call 183; refine (addRange_any h _ 65 90 _ hh (by omega) (by omega) (by omega) (by omega)).mono ?_; rintro e w1 ⟨rfl, hq1, hk1⟩))
 go_end0
 refine ⟨rfl, hq2.congr fun n hn => ?_, (hk1.trans hk2)⟩
 have key : ∀ m : Fin 256, (ranB 65 90 m.val || ranB 97 122 m.val) = clsB 3 (m.val : Int) := by decide
 have := key ⟨n, hn⟩
 simp only [Bool.or_assoc] at this ⊢
 rw [this]
set_option maxRecDepth 100000 in
set_option maxHeartbeats 1000000 in
theorem addClass_4 (h : Nat) (f : Nat → Bool) (w : World) (hh : HQ w h f) :
    Calls Tryz.prog 180 #[.pointer (some ⟨h, 0, none⟩), .string (nmB (nm 4))] w fun e w' => e = .returned (.tuple #[]) ∧ HQ w' h (fun n => f n || clsB 4 n) ∧ Keeps [h] w w' := by
 have e4 : ((nmB (nm 4)).toList == [97, 108, 110, 117, 109]) = true := (eqLit _ _).trans (by decide)
 have e3 : ((nmB (nm 4)).toList == [97, 108, 112, 104, 97]) = false := (eqLit _ _).trans (by decide)
 have e1 : ((nmB (nm 4)).toList == [108, 111, 119, 101, 114]) = false := (eqLit _ _).trans (by decide)
 have e2 : ((nmB (nm 4)).toList == [117, 112, 112, 101, 114]) = false := (eqLit _ _).trans (by decide)
 have e0 : ((nmB (nm 4)).toList == [100, 105, 103, 105, 116]) = false := (eqLit _ _).trans (by decide)
 have e5 : ((nmB (nm 4)).toList == [115, 112, 97, 99, 101]) = false := (eqLit _ _).trans (by decide)
 have e6 : ((nmB (nm 4)).toList == [112, 117, 110, 99, 116]) = false := (eqLit _ _).trans (by decide)
 generalize nmB (nm 4) = S at *
 go_enter Tryz.func180, Tryz.ntmps180
 go_wp2_with (first | (go_at_call 183; refine (addRange_any h _ 97 122 _ hq2 (by omega) (by omega) (by omega) (by omega)).mono ?_; rintro e w3 ⟨rfl, hq3, hk3⟩) | (go_at_call 183; refine (addRange_any h _ 65 90 _ hq1 (by omega) (by omega) (by omega) (by omega)).mono ?_; rintro e w2 ⟨rfl, hq2, hk2⟩) | (go_at_call 183; refine (addRange_any h _ 48 57 _ hh (by omega) (by omega) (by omega) (by omega)).mono ?_; rintro e w1 ⟨rfl, hq1, hk1⟩))
 go_end0
 refine ⟨rfl, hq3.congr fun n hn => ?_, ((hk1.trans hk2).trans hk3)⟩
 have key : ∀ m : Fin 256, (ranB 48 57 m.val || ranB 65 90 m.val || ranB 97 122 m.val) = clsB 4 (m.val : Int) := by decide
 have := key ⟨n, hn⟩
 simp only [Bool.or_assoc] at this ⊢
 rw [this]
set_option maxRecDepth 100000 in
set_option maxHeartbeats 1000000 in
theorem addClass_5 (h : Nat) (f : Nat → Bool) (w : World) (hh : HQ w h f) :
    Calls Tryz.prog 180 #[.pointer (some ⟨h, 0, none⟩), .string (nmB (nm 5))] w fun e w' => e = .returned (.tuple #[]) ∧ HQ w' h (fun n => f n || clsB 5 n) ∧ Keeps [h] w w' := by
 have e4 : ((nmB (nm 5)).toList == [97, 108, 110, 117, 109]) = false := (eqLit _ _).trans (by decide)
 have e3 : ((nmB (nm 5)).toList == [97, 108, 112, 104, 97]) = false := (eqLit _ _).trans (by decide)
 have e1 : ((nmB (nm 5)).toList == [108, 111, 119, 101, 114]) = false := (eqLit _ _).trans (by decide)
 have e2 : ((nmB (nm 5)).toList == [117, 112, 112, 101, 114]) = false := (eqLit _ _).trans (by decide)
 have e0 : ((nmB (nm 5)).toList == [100, 105, 103, 105, 116]) = false := (eqLit _ _).trans (by decide)
 have e5 : ((nmB (nm 5)).toList == [115, 112, 97, 99, 101]) = true := (eqLit _ _).trans (by decide)
 have e6 : ((nmB (nm 5)).toList == [112, 117, 110, 99, 116]) = false := (eqLit _ _).trans (by decide)
 generalize nmB (nm 5) = S at *
 go_enter Tryz.func180, Tryz.ntmps180
 go_wp2_with (first | (go_at_call 183; refine (addRange_any h _ 32 32 _ hq1 (by omega) (by omega) (by omega) (by omega)).mono ?_; rintro e w2 ⟨rfl, hq2, hk2⟩) | (go_at_call 183; refine (addRange_any h _ 9 13 _ hh (by omega) (by omega) (by omega) (by omega)).mono ?_; rintro e w1 ⟨rfl, hq1, hk1⟩))
 go_end0
 refine ⟨rfl, hq2.congr fun n hn => ?_, (hk1.trans hk2)⟩
 have key : ∀ m : Fin 256, (ranB 9 13 m.val || ranB 32 32 m.val) = clsB 5 (m.val : Int) := by decide
 have := key ⟨n, hn⟩
 simp only [Bool.or_assoc] at this ⊢
 rw [this]
set_option maxRecDepth 100000 in
set_option maxHeartbeats 1000000 in
theorem addClass_6 (h : Nat) (f : Nat → Bool) (w : World) (hh : HQ w h f) :
    Calls Tryz.prog 180 #[.pointer (some ⟨h, 0, none⟩), .string (nmB (nm 6))] w fun e w' => e = .returned (.tuple #[]) ∧ HQ w' h (fun n => f n || clsB 6 n) ∧ Keeps [h] w w' := by
 have e4 : ((nmB (nm 6)).toList == [97, 108, 110, 117, 109]) = false := (eqLit _ _).trans (by decide)
 have e3 : ((nmB (nm 6)).toList == [97, 108, 112, 104, 97]) = false := (eqLit _ _).trans (by decide)
 have e1 : ((nmB (nm 6)).toList == [108, 111, 119, 101, 114]) = false := (eqLit _ _).trans (by decide)
 have e2 : ((nmB (nm 6)).toList == [117, 112, 112, 101, 114]) = false := (eqLit _ _).trans (by decide)
 have e0 : ((nmB (nm 6)).toList == [100, 105, 103, 105, 116]) = false := (eqLit _ _).trans (by decide)
 have e5 : ((nmB (nm 6)).toList == [115, 112, 97, 99, 101]) = false := (eqLit _ _).trans (by decide)
 have e6 : ((nmB (nm 6)).toList == [112, 117, 110, 99, 116]) = true := (eqLit _ _).trans (by decide)
 generalize nmB (nm 6) = S at *
 go_enter Tryz.func180, Tryz.ntmps180
 go_wp2_with (first | (go_at_call 183; refine (addRange_any h _ 123 126 _ hq3 (by omega) (by omega) (by omega) (by omega)).mono ?_; rintro e w4 ⟨rfl, hq4, hk4⟩) | (go_at_call 183; refine (addRange_any h _ 91 96 _ hq2 (by omega) (by omega) (by omega) (by omega)).mono ?_; rintro e w3 ⟨rfl, hq3, hk3⟩) | (go_at_call 183; refine (addRange_any h _ 58 64 _ hq1 (by omega) (by omega) (by omega) (by omega)).mono ?_; rintro e w2 ⟨rfl, hq2, hk2⟩) | (go_at_call 183; refine (addRange_any h _ 33 47 _ hh (by omega) (by omega) (by omega) (by omega)).mono ?_; rintro e w1 ⟨rfl, hq1, hk1⟩))
 go_end0
 refine ⟨rfl, hq4.congr fun n hn => ?_, (((hk1.trans hk2).trans hk3).trans hk4)⟩
 have key : ∀ m : Fin 256, (ranB 33 47 m.val || ranB 58 64 m.val || ranB 91 96 m.val || ranB 123 126 m.val) = clsB 6 (m.val : Int) := by decide
 have := key ⟨n, hn⟩
 simp only [Bool.or_assoc] at this ⊢
 rw [this]
theorem addClass_any (h k : Nat) (hk : k < 7) (f : Nat → Bool) (w : World) (hh : HQ w h f) :
    Calls Tryz.prog 180 #[.pointer (some ⟨h, 0, none⟩), .string (nmB (nm k))] w fun e w' => e = .returned (.tuple #[]) ∧ HQ w' h (fun n => f n || clsB k n) ∧ Keeps [h] w w' :=
 match k, hk with
 | 0, _ => addClass_0 h f w hh
 | 1, _ => addClass_1 h f w hh
 | 2, _ => addClass_2 h f w hh
 | 3, _ => addClass_3 h f w hh
 | 4, _ => addClass_4 h f w hh
 | 5, _ => addClass_5 h f w hh
 | 6, _ => addClass_6 h f w hh
end Go.Proofs.YtnfojonmohijpabGreatDoor
namespace Go.Proofs.YtnfojonmohijpabGreatDoor
open Go.RowKit
def EPost (b : Nat) (p : QS) (w : World) (r : R Unit) (e : Ending) (w' : World) : Prop :=
 Keeps [b] w w' ∧ match r with
  | .ok _ j => e = .returned (.tuple #[]) ∧ QB w' b { p with ix := j }
  | .bad j => e = fault j
theorem expect_any (b : Nat) (p : QS) (c : Int) (hc : 0 ≤ c) (w : World) (hp : QB w b p) (hle : p.ix ≤ p.s.size) (hs : p.s.size ≤ 60) :
    Calls Tryz.prog 159 #[.pointer (some ⟨b, 0, none⟩), .int .u8 c] w (EPost b p w (needS p.s c p.ix)) := by
 by_cases h : p.cur = c
 ·refine (expect_ok b p c hc w hp hs h).mono ?_
  rintro e w' ⟨rfl, hq, hk⟩
  refine ⟨hk, ?_⟩
  unfold needS
  rw [if_pos (show at' p.s p.ix = c from h)]
  exact ⟨rfl, hq⟩
 ·refine (expect_bad b p c hc w hp hle hs h).mono ?_
  rintro e w' ⟨rfl, hk⟩
  refine ⟨hk, ?_⟩
  unfold needS
  rw [if_neg (show ¬ at' p.s p.ix = c from h)]
theorem needS_okB {s : ByteArray} {c : Int} {i j : Nat} {u : Unit} (hc : 0 ≤ c) (h : needS s c i = .ok u j) : i < j ∧ j ≤ s.size := by
 unfold needS at h
 by_cases e : at' s i = c
 ·rw [if_pos e] at h
  cases h
  have : i < s.size := at'_nn (by omega)
  omega
 ·rw [if_neg e] at h; cases h
def RPost (b h : Nat) (p : QS) (f : Nat → Bool) (w : World) (r : R (Nat → Bool)) (e : Ending) (w' : World) : Prop :=
 Keeps [b, h] w w' ∧ match r with
  | .ok r j => e = .returned (.tuple #[]) ∧ QB w' b { p with ix := j } ∧ HQ w' h (fun n => f n || r n)
  | .bad j => e = fault j
theorem took_yes {p : QS} {c : Int} (h : at' p.s p.ix = c) : decide (p.cur = c) = true ∧ p.took c = { p with ix := p.ix + 1 } := by
 have h' : p.cur = c := h
 exact ⟨by simpa using h', by unfold QS.took; rw [if_pos h']⟩
theorem took_no {p : QS} {c : Int} (h : ¬ at' p.s p.ix = c) : decide (p.cur = c) = false ∧ p.took c = p := by
 have h' : ¬ p.cur = c := h
 exact ⟨by simpa using h', by unfold QS.took; rw [if_neg h']⟩
set_option maxRecDepth 100000 in
set_option maxHeartbeats 2000000 in
theorem addRange_prog (b h : Nat) (p : QS) (f : Nat → Bool) (w : World) (hp : QB w b p) (hh : HQ w h f) (hs : p.s.size ≤ 60) (hle : p.ix ≤ p.s.size) (hg : GN w) (hbg : b ≠ 6) (hbh : b ≠ h) :
    Calls Tryz.prog 174 #[.pointer (some ⟨b, 0, none⟩), .pointer (some ⟨h, 0, none⟩)] w (RPost b h p f w (rangeS p.s p.ix)) := by
 go_enter Tryz.func174, Tryz.ntmps174
 go_wp2_with fail
 refine (skip_any b p 91 (by omega) _ hp hle hs).mono ?_
 rintro e w1 ⟨rfl, hq1, hk1⟩
 have hh1 : HQ w1 h f := hh.keep hk1 (by simp; omega)
 have hg1 : GN w1 := hg.keep hk1 (by simp; omega)
 have hkA : Keeps [b, h] w w1 := hk1.mono (by simp)
 by_cases h91 : at' p.s p.ix = 91
 ·obtain ⟨hd, htk⟩ := took_yes h91
  rw [htk] at hq1
  have hlt : p.ix + 1 ≤ p.s.size := at'_nn (by omega)
  have HA : Hid (rangeS p.s p.ix = ((needS p.s 58 (p.ix + 1)).bind fun _ j => (clsS p.s 6 [] j).bind fun k j => (needS p.s 58 j).bind fun _ j => (needS p.s 93 j).bind fun _ j => .ok k j).bind fun k j => .ok (fun n : Nat => clsB k n) j) := by
   show rangeS p.s p.ix = _
   unfold rangeS; rw [if_pos h91]; rfl
  clear h91 htk
  rw [hd]
  go_wp2_with fail
  refine (expect_any b { p with ix := p.ix + 1 } 58 (by omega) _ hq1 hlt hs).mono ?_
  rintro e w2 ⟨hk2, hc2⟩
  have hh2 : HQ w2 h f := hh1.keep hk2 (by simp; omega)
  have hg2 : GN w2 := hg1.keep hk2 (by simp; omega)
  have hkB : Keeps [b, h] w w2 := hkA.trans (hk2.mono (by simp))
  have hr2' : ∀ r, needS p.s 58 (p.ix + 1) = r → needS (QS.s { p with ix := p.ix + 1 }) 58 (QS.ix { p with ix := p.ix + 1 }) = r := fun r h => h
  cases hr2 : needS p.s 58 (p.ix + 1) with
  | bad j =>
   rw [hr2' _ hr2] at hc2
   subst hc2
   simp only [fault]
   exact ⟨rfl, hkB, by rw [HA.out, hr2]; rfl⟩
  | ok u j2 =>
   rw [hr2' _ hr2] at hc2
   obtain ⟨rfl, hq2⟩ := hc2
   have hj2 := (needS_okB (by omega) hr2).2
   have HB : Hid (rangeS p.s p.ix = ((clsS p.s 6 [] j2).bind fun k j => (needS p.s 58 j).bind fun _ j => (needS p.s 93 j).bind fun _ j => .ok k j).bind fun k j => .ok (fun n : Nat => clsB k n) j) := by
    show rangeS p.s p.ix = _; rw [HA.out, hr2]; rfl
   clear hr2 HA hr2'
   go_wp2_with fail
   refine (className_prog b { p with ix := j2 } _ hq2 hs hj2 hg2 hbg).mono ?_
   rintro e w3 ⟨hk3, hc3⟩
   have hh3 : HQ w3 h f := hh2.keep hk3 (by simp; omega)
   have hkC : Keeps [b, h] w w3 := hkB.trans (hk3.mono (by simp))
   have hr3' : ∀ r, clsS p.s 6 [] j2 = r → clsS (QS.s { p with ix := j2 }) 6 [] (QS.ix { p with ix := j2 }) = r := fun r h => h
   cases hr3 : clsS p.s 6 [] j2 with
   | bad j =>
    rw [hr3' _ hr3] at hc3
    subst hc3
    simp only [fault]
    exact ⟨rfl, hkC, by rw [HB.out, hr3]; rfl⟩
   | ok k j3 =>
    rw [hr3' _ hr3] at hc3
    obtain ⟨rfl, hq3⟩ := hc3
    have hj3 := clsS_ok 6 hr3
    have hj3' := hj3.2.1 hj2
    have HC : Hid (rangeS p.s p.ix = ((needS p.s 58 j3).bind fun _ j => (needS p.s 93 j).bind fun _ j => .ok k j).bind fun k j => .ok (fun n : Nat => clsB k n) j) := by
     show rangeS p.s p.ix = _; rw [HB.out, hr3]; rfl
    have AC := fun w1 h1 => addClass_any h k hj3.2.2 f w1 h1
    clear hr3 HB hr3' hj3
    generalize nmB (nm k) = S at *
    go_wp2_with fail
    refine (AC _ hh3).mono ?_
    rintro e w4 ⟨rfl, hh4, hk4⟩
    have hq4 : QB w4 b { p with ix := j3 } := hq3.keep hk4 (by simp; omega)
    have hkD : Keeps [b, h] w w4 := hkC.trans (hk4.mono (by simp))
    clear AC hh3 hq3 hk4
    go_wp2_with fail
    refine (expect_any b { p with ix := j3 } 58 (by omega) _ hq4 hj3' hs).mono ?_
    rintro e w5 ⟨hk5, hc5⟩
    have hh5 := hh4.keep hk5 (by simp; omega)
    have hkE : Keeps [b, h] w w5 := hkD.trans (hk5.mono (by simp))
    have hr5' : ∀ r, needS p.s 58 j3 = r → needS (QS.s { p with ix := j3 }) 58 (QS.ix { p with ix := j3 }) = r := fun r h => h
    cases hr5 : needS p.s 58 j3 with
    | bad j =>
     rw [hr5' _ hr5] at hc5
     subst hc5
     simp only [fault]
     exact ⟨rfl, hkE, by rw [HC.out, hr5]; rfl⟩
    | ok u5 j5 =>
     rw [hr5' _ hr5] at hc5
     obtain ⟨rfl, hq5⟩ := hc5
     have hj5 := (needS_okB (by omega) hr5).2
     have HD : Hid (rangeS p.s p.ix = ((needS p.s 93 j5).bind fun _ j => R.ok k j).bind fun k j => .ok (fun n : Nat => clsB k n) j) := by
      show rangeS p.s p.ix = _; rw [HC.out, hr5]; rfl
     clear hr5 HC hr5'
     go_wp2_with fail
     refine (expect_any b { p with ix := j5 } 93 (by omega) _ hq5 hj5 hs).mono ?_
     rintro e w6 ⟨hk6, hc6⟩
     have hh6 := hh5.keep hk6 (by simp; omega)
     have hkF : Keeps [b, h] w w6 := hkE.trans (hk6.mono (by simp))
     have hr6' : ∀ r, needS p.s 93 j5 = r → needS (QS.s { p with ix := j5 }) 93 (QS.ix { p with ix := j5 }) = r := fun r h => h
     cases hr6 : needS p.s 93 j5 with
     | bad j =>
      rw [hr6' _ hr6] at hc6
      subst hc6
      simp only [fault]
      exact ⟨rfl, hkF, by rw [HD.out, hr6]; rfl⟩
     | ok u6 j6 =>
      rw [hr6' _ hr6] at hc6
      obtain ⟨rfl, hq6⟩ := hc6
      have HE : Hid (rangeS p.s p.ix = .ok (fun n : Nat => clsB k n) j6) := by
       show rangeS p.s p.ix = _; rw [HD.out, hr6]; rfl
      clear hr6 HD hr6'
      go_wp2_with fail
      refine bodyPost_ret (results_none rfl _ _ _) rfl ?_
      refine ⟨hkF, ?_⟩
      rw [HE.out]
      exact ⟨rfl, hq6, hh6⟩
 ·obtain ⟨hd, htk⟩ := took_no h91
  rw [htk] at hq1
  have HA : Hid (rangeS p.s p.ix = (innS p.s 0 p.ix).bind fun a j => if at' p.s j = 45 then (innS p.s a (j + 1)).bind fun c k => .ok (stretch a c) k else .ok (stretch a a) j) := by
   show rangeS p.s p.ix = _
   unfold rangeS; rw [if_neg h91]
  clear h91 htk
  rw [hd]
  go_wp2_with fail
  refine (inner_prog b p 0 _ hq1 hs hle (by omega) (by omega)).mono ?_
  rintro e w2 ⟨hk2, hc2⟩
  have hh2 : HQ w2 h f := hh1.keep hk2 (by simp; omega)
  have hkB : Keeps [b, h] w w2 := hkA.trans (hk2.mono (by simp))
  cases hr2 : innS p.s 0 p.ix with
  | bad j =>
   rw [hr2] at hc2
   subst hc2
   simp only [fault]
   exact ⟨rfl, hkB, by rw [HA.out, hr2]; rfl⟩
  | ok a j2 =>
   rw [hr2] at hc2
   obtain ⟨rfl, hq2⟩ := hc2
   obtain ⟨_, hj2, ha0, ha1⟩ := innS_ok hr2
   have HB : Hid (rangeS p.s p.ix = if at' p.s j2 = 45 then (innS p.s a (j2 + 1)).bind fun c k => .ok (stretch a c) k else .ok (stretch a a) j2) := by
    show rangeS p.s p.ix = _; rw [HA.out, hr2]; rfl
   clear hr2 HA
   go_wp2_with fail
   refine (skip_any b { p with ix := j2 } 45 (by omega) _ hq2 hj2 hs).mono ?_
   rintro e w3 ⟨rfl, hq3, hk3⟩
   have hh3 : HQ w3 h f := hh2.keep hk3 (by simp; omega)
   have hkC : Keeps [b, h] w w3 := hkB.trans (hk3.mono (by simp))
   by_cases h45 : at' p.s j2 = 45
   ·obtain ⟨hd3, htk3⟩ := took_yes (p := { p with ix := j2 }) h45
    rw [htk3] at hq3
    have hlt3 : j2 + 1 ≤ p.s.size := at'_nn (by omega)
    have HC : Hid (rangeS p.s p.ix = (innS p.s a (j2 + 1)).bind fun c k => .ok (stretch a c) k) := by
     show rangeS p.s p.ix = _; rw [HB.out, if_pos h45]
    clear h45 htk3 HB
    rw [hd3]
    go_wp2_with fail
    refine (inner_prog b { p with ix := j2 + 1 } a _ hq3 hs hlt3 ha0 ha1).mono ?_
    rintro e w4 ⟨hk4, hc4⟩
    have hh4 : HQ w4 h f := hh3.keep hk4 (by simp; omega)
    have hkD : Keeps [b, h] w w4 := hkC.trans (hk4.mono (by simp))
    have hr4' : ∀ r, innS p.s a (j2 + 1) = r → innS (QS.s { p with ix := j2 + 1 }) a (QS.ix { p with ix := j2 + 1 }) = r := fun r h => h
    cases hr4 : innS p.s a (j2 + 1) with
    | bad j =>
     rw [hr4' _ hr4] at hc4
     subst hc4
     simp only [fault]
     exact ⟨rfl, hkD, by rw [HC.out, hr4]; rfl⟩
    | ok c j4 =>
     rw [hr4' _ hr4] at hc4
     obtain ⟨rfl, hq4⟩ := hc4
     obtain ⟨_, hj4, hc0, hc1⟩ := innS_ok hr4
     have HD : Hid (rangeS p.s p.ix = .ok (stretch a c) j4) := by
      show rangeS p.s p.ix = _; rw [HC.out, hr4]; rfl
     clear hr4 HC hr4'
     go_wp2_with fail
     refine (addRange_any h f a c _ hh4 ha0 ha1 hc0 hc1).mono ?_
     rintro e w5 ⟨rfl, hh5, hk5⟩
     have hq5 : QB w5 b { p with ix := j4 } := hq4.keep hk5 (by simp; omega)
     have hkE : Keeps [b, h] w w5 := hkD.trans (hk5.mono (by simp))
     go_wp2_with fail
     go_end0
     refine ⟨hkE, ?_⟩
     rw [HD.out]
     exact ⟨rfl, hq5, hh5⟩
   ·obtain ⟨hd3, htk3⟩ := took_no (p := { p with ix := j2 }) h45
    rw [htk3] at hq3
    have HC : Hid (rangeS p.s p.ix = .ok (stretch a a) j2) := by
     show rangeS p.s p.ix = _; rw [HB.out, if_neg h45]
    clear h45 htk3 HB
    rw [hd3]
    go_wp2_with fail
    refine (addRange_any h f a a _ hh3 ha0 ha1 ha0 ha1).mono ?_
    rintro e w5 ⟨rfl, hh5, hk5⟩
    have hq5 : QB w5 b { p with ix := j2 } := hq3.keep hk5 (by simp; omega)
    have hkE : Keeps [b, h] w w5 := hkC.trans (hk5.mono (by simp))
    go_wp2_with fail
    go_end0
    refine ⟨hkE, ?_⟩
    rw [HC.out]
    exact ⟨rfl, hq5, hh5⟩
end Go.Proofs.YtnfojonmohijpabGreatDoor
namespace Go.Proofs.YtnfojonmohijpabGreatDoor
open Go.RowKit
theorem Keeps.setRow {S : List Nat} {a w : World} (h : Keeps S a w) {g : Nat} (hp : g ∈ S ∨ a.heap.size ≤ g) (cs : Array Value) : Keeps S a (w.setRow g cs) :=
 ⟨h.os, h.tape, h.output, by simpa using h.size, fun k hk hn => by
   rw [setRow_other]
   · exact h.block k hk hn
   · rintro rfl
     rcases hp with hp | hp
     · exact hn hp
     · omega⟩
theorem zero_set (w : World) : (Instr.alloc 174 true (.tuple #[])).run Tryz.prog w = .ok (.pointer (some ⟨w.heap.size, 0, none⟩)) (w.alloc (.cells (hcells fun _ => false) 174)) := by kernel_rfl
theorem wpList_zeroSet {ops : Array Oper} {rest : List Oper} {o : Oper} {a : Act} {w : World} {Q : Exit → Act → World → Prop} (hg : o.guard = none) (ho : o.op = .alloc 174) (d : Option Tmp) (hd : o.dst = d)
    (h : wpList Tryz.prog ops Q rest (a.put d (.pointer (some ⟨w.heap.size, 0, none⟩))) (w.alloc (.cells (hcells fun _ => false) 174))) : wpList Tryz.prog ops Q (o :: rest) a w := by
 subst hd
 refine wpList_plain hg fun K hK => ?_
 unfold Oper.wp execOp
 simp only [ho, Sem.run_bind, zero_set, Sem.run_pure, Result.andThen_ok]
 exact hK _ _ h
theorem hcells_one (f : Nat → Bool) : (hcells f).all (·.oneCell') = true := by
 rw [Array.all_eq_true]
 intro i hi
 have hi' : i < 256 := by rw [hcells_size] at hi; exact hi
 have := hcells_get f hi'
 rw [Array.getElem?_eq_getElem hi] at this
 rw [Option.some.inj this]
 rfl
theorem Tryz.infoSet : (Tryz.prog.info? 174).map (·.size) = some 256 := by kernel_rfl
theorem infoSetC (f : Nat → Bool) : (Tryz.prog.info? 174).map (·.size) = some (hcells f).size := by rw [hcells_size]; exact Tryz.infoSet
set_option maxRecDepth 100000 in
set_option maxHeartbeats 400000 in
theorem others_any (f : Nat → Bool) (w : World) :
    Calls Tryz.prog 170 #[.agg (hcells f)] w fun e w' => e = .returned (.agg (hcells fun n => !f n)) ∧ Keeps [] w w' := by
 have hz0 : HQ ((w.alloc (.cells (hcells f) 174)).alloc (.cells (hcells fun _ => false) 174)) w.heap.size f := heap_alloc2_old w _ _
 have hz1 : HQ ((w.alloc (.cells (hcells f) 174)).alloc (.cells (hcells fun _ => false) 174)) (w.heap.size + 1) (fun _ => false) := heap_alloc2_new w _ _
 have hk0 : Keeps [] w ((w.alloc (.cells (hcells f) 174)).alloc (.cells (hcells fun _ => false) 174)) := ((Keeps.refl [] w).alloc _).alloc _
 generalize hC : hcells f = C at *
 go_enter Tryz.func170, Tryz.ntmps170
 go_wp2_with (first | (refine wpList_zeroSet rfl rfl (some 2) rfl ?_))
 generalize (w.alloc (.cells C 174)).alloc (.cells (hcells fun _ => false) 174) = W at *
 obtain ⟨g, hgq⟩ : ∃ g, w.heap.size = g := ⟨_, rfl⟩
 rw [hgq] at hz0 hz1 ⊢
 go_loopw [4] (fun q wr => ∃ m : Nat, m ≤ 256 ∧ q = .int .i64 m ∧ HQ wr g (fun n => if n < m then !f n else f n) ∧ HQ wr (g + 1) (fun _ => false) ∧ Keeps [] w wr) (fun q _ => 256 - (intOf q).toNat)
 case atStart => exact ⟨0, by omega, rfl, hz0.congr (fun n _ => by simp), hz1, hk0⟩
 case round =>
  clear hz0 hz1 hk0
  obtain ⟨m, hm, rfl, hq0, hq1, hk⟩ := hrel
  by_cases hlt : m < 256
  ·have hcm := hq0.cell hlt
   rw [if_neg (Nat.lt_irrefl m)] at hcm
   have hfm := hq0.frozen m
   have hm0 : (0 : Int) ≤ (m : Int) := by omega
   have hm1 : (m : Int) < 256 := by omega
   have HN : HQ (wr.setCell ⟨g, m, none⟩ (.bool (!f m))) g (fun n => if n < m + 1 then !f n else f n) := (hq0.set m (!f m)).congr fun n hn => by
    by_cases e : n = m
    ·subst e; simp
    ·by_cases e2 : n < m
     ·rw [if_neg e, if_pos e2, if_pos (by omega)]
     ·rw [if_neg e, if_neg e2, if_neg (by omega)]
   have HM : HQ (wr.setCell ⟨g, m, none⟩ (.bool (!f m))) (g + 1) (fun _ => false) := hq1.keep ((Keeps.refl [g] wr).setCell (p := ⟨g, m, none⟩) (by simp) _) (by simp)
   go_wp2
   go_roundw
   case rel => exact ⟨m + 1, by omega, by go_num, HN, HM, hk.setCell (Or.inr (by simp; omega)) _⟩
   case measure => simp [intOf]; omega
  ·have e : m = 256 := by omega
   subst e
   have hq2 : HQ wr g (fun n => !f n) := hq0.congr fun n hn => by rw [if_pos hn]
   go_wp2_with (first | (refine wpList_load_row rfl 174 _ rfl g rfl _ _ _ _ hq2 Tryz.underlying174 rfl (infoSetC _) ?_) | (refine wpList_store_row rfl 174 _ _ rfl (g + 1) _ rfl rfl _ _ hq1 (infoSetC _) (by rw [hcells_size, hcells_size]) (hcells_one _) ?_))
   refine bodyPost_ret (results_cell_row rfl _ _ (g + 1) _ _ _ _ rfl (setRow_heap _ _ _ _ _ _ hq1) Tryz.underlying174 rfl (infoSetC _)) rfl ?_
   exact ⟨rfl, hk.setRow (Or.inr (by omega)) _⟩
end Go.Proofs.YtnfojonmohijpabGreatDoor
namespace Go.Proofs.YtnfojonmohijpabGreatDoor
open Go.RowKit
set_option maxRecDepth 100000 in
set_option maxHeartbeats 400000 in
theorem one_set (c : Nat) (hc : c < 256) (w : World) :
    Calls Tryz.prog 157 #[.int .u8 (c : Int)] w fun e w' => e = .returned (.agg (hcells fun n => decide (n = c))) ∧ Keeps [] w w' := by
 have hz0 : HQ ((w.alloc (.cells (hcells fun _ => false) 174)).alloc (.cells (hcells fun _ => false) 174)) w.heap.size (fun _ => false) := heap_alloc2_old w _ _
 have hz1 : HQ ((w.alloc (.cells (hcells fun _ => false) 174)).alloc (.cells (hcells fun _ => false) 174)) (w.heap.size + 1) (fun _ => false) := heap_alloc2_new w _ _
 have hk0 : Keeps [] w ((w.alloc (.cells (hcells fun _ => false) 174)).alloc (.cells (hcells fun _ => false) 174)) := ((Keeps.refl [] w).alloc _).alloc _
 have hcm := hz1.cell hc
 have hfm := hz1.frozen c
 have hq2 := (hz1.set c true).congr (g := fun n => decide (n = c)) (fun n _ => by by_cases e : n = c <;> simp [e])
 have hq3 := hz0.keep ((Keeps.refl [w.heap.size + 1] _).setCell (p := ⟨w.heap.size + 1, c, none⟩) (by simp) (.bool true)) (by simp)
 have hk1 := hk0.setCell (p := ⟨w.heap.size + 1, c, none⟩) (Or.inr (by simp)) (.bool true)
 have hc0 : (0 : Int) ≤ (c : Int) := by omega
 have hc1 : (c : Int) < 256 := by omega
 go_enter Tryz.func157, Tryz.ntmps157
 go_wp2_with (first | (refine wpList_zeroSet rfl rfl (some 3) rfl ?_; generalize (w.alloc (.cells (hcells fun _ => false) 174)).alloc (.cells (hcells fun _ => false) 174) = W at *) | (refine wpList_zeroSet rfl rfl (some 2) rfl ?_) | (refine wpList_load_row rfl 174 _ rfl (w.heap.size + 1) rfl _ _ _ _ hq2 Tryz.underlying174 rfl (infoSetC _) ?_) | (refine wpList_store_row rfl 174 _ _ rfl w.heap.size _ rfl rfl _ _ hq3 (infoSetC _) (by rw [hcells_size, hcells_size]) (hcells_one _) ?_))
 refine bodyPost_ret (results_cell_row rfl _ _ w.heap.size _ _ _ _ rfl (setRow_heap _ _ _ _ _ _ hq3) Tryz.underlying174 rfl (infoSetC _)) rfl ?_
 exact ⟨rfl, hk1.setRow (Or.inr (Nat.le_refl _)) _⟩
theorem built_zero : Tryz.prog.built 174 [] = some (hcells fun _ => false) := by kernel_rfl
theorem hcells_true : (hcells fun n => !(fun _ => false : Nat → Bool) n) = hcells fun _ => true := rfl
set_option maxRecDepth 100000 in
set_option maxHeartbeats 400000 in
theorem all_set (w : World) :
    Calls Tryz.prog 147 #[] w fun e w' => e = .returned (.agg (hcells fun _ => true)) ∧ Keeps [] w w' := by
 have hz0 : HQ (w.alloc (.cells (hcells fun _ => false) 174)) w.heap.size (fun _ => false) := heap_alloc_new w _
 have hk0 : Keeps [] w (w.alloc (.cells (hcells fun _ => false) 174)) := (Keeps.refl [] w).alloc _
 have hlt : w.heap.size < (w.alloc (.cells (hcells fun _ => false) 174)).heap.size := by simp
 go_enter Tryz.func147, Tryz.ntmps147
 go_wp2_with (first | (refine wpList_zeroSet rfl rfl (some 0) rfl ?_; generalize w.alloc (.cells (hcells fun _ => false) 174) = W at *) | (refine Great.wpList_buildTo rfl 174 #[] rfl (some 1) rfl (hcells fun _ => false) built_zero ?_) | (go_at_call 170; refine (others_any (fun _ => false) _).mono ?_; rintro e w1 ⟨rfl, hk1⟩; rw [hcells_true]; have hq1 := hz0.keep hk1 (by simp)) | (refine wpList_store_row rfl 174 _ _ rfl w.heap.size _ rfl rfl _ _ hq1 (infoSetC _) (by rw [hcells_size, hcells_size]) (hcells_one _) ?_))
 refine bodyPost_ret (results_cell_row rfl _ _ w.heap.size _ _ _ _ rfl (setRow_heap _ _ _ _ _ _ hq1) Tryz.underlying174 rfl (infoSetC _)) rfl ?_
 exact ⟨rfl, (hk0.trans hk1).setRow (Or.inr (Nat.le_refl _)) _⟩
end Go.Proofs.YtnfojonmohijpabGreatDoor
namespace Go.Proofs.YtnfojonmohijpabGreatDoor
open Go.RowKit
def muQ (w : World) (b : Nat) : Nat := 62 - (cellInt w b 1).toNat
theorem muQ_eq {w : World} {b : Nat} {p : QS} (hp : QB w b p) : muQ w b = 62 - p.ix := by
 have h := hp.main.2.1
 simp [muQ, cellInt, h, intOf]
def SPost (b : Nat) (p : QS) (w : World) (e : Ending) (w' : World) : Prop :=
 ∃ q, SetR p.s (p.ix + 1) q ∧ Keeps [b] w w' ∧ match q with
  | .ok f j => e = .returned (.agg (hcells f)) ∧ QB w' b { p with ix := j }
  | .bad j => e = fault j
structure SL (p : QS) (b g j0 : Nat) (w wr : World) (f : Nat → Bool) (i : Nat) : Prop where
 qb : QB wr b { p with ix := i }
 held : HQ wr (g + 1) f
 res : HQ wr g (fun _ => false)
 gn : GN wr
 keep : Keeps [b] w wr
 ile : i ≤ p.s.size
 spec : ∀ q, SetL p.s f i q → SetU p.s j0 q
theorem SL.next {p : QS} {b g j0 i j : Nat} {w wr w2 : World} {f r : Nat → Bool} (h : SL p b g j0 w wr f i) (hw : w.heap.size = g) (hb : b < g) (hG : 6 < g) (hbg : b ≠ 6) (h93 : at' p.s i ≠ 93)
    (hr : rangeS p.s i = .ok r j) (hk : Keeps [b, g + 1] wr w2) (hq : QB w2 b { p with ix := j }) (hh : HQ w2 (g + 1) (fun n => f n || r n)) : SL p b g j0 w w2 (fun n => f n || r n) j :=
 ⟨hq, hh, h.res.keep hk (by simp; omega), h.gn.keep hk (by simp; omega), h.keep.fresh hk (by intro x hx; simp at hx ⊢; omega), (rangeS_ok hr).2, fun q hq => h.spec q (.more f r i j q h93 hr hq)⟩
set_option maxRecDepth 100000 in
set_option maxHeartbeats 2000000 in
theorem set_prog (b : Nat) (p : QS) (w : World) (hp : QB w b p) (hs : p.s.size ≤ 60) (h91 : at' p.s p.ix = 91) (hg : GN w) (hbg : b ≠ 6) :
    Calls Tryz.prog 156 #[.pointer (some ⟨b, 0, none⟩)] w (SPost b p w) := by
 have hz0 : HQ ((w.alloc (.cells (hcells fun _ => false) 174)).alloc (.cells (hcells fun _ => false) 174)) w.heap.size (fun _ => false) := heap_alloc2_old w _ _
 have hz1 : HQ ((w.alloc (.cells (hcells fun _ => false) 174)).alloc (.cells (hcells fun _ => false) 174)) (w.heap.size + 1) (fun _ => false) := heap_alloc2_new w _ _
 have hk0 : Keeps [] w ((w.alloc (.cells (hcells fun _ => false) 174)).alloc (.cells (hcells fun _ => false) 174)) := ((Keeps.refl [] w).alloc _).alloc _
 have hbl := hp.lt
 have hgl := hg.lt
 have hlt : p.ix + 1 ≤ p.s.size := at'_nn (by omega)
 obtain ⟨ob, j0, hd, htk, hj0, hfin⟩ : ∃ (ob : Bool) (j0 : Nat), decide (QS.cur { p with ix := p.ix + 1 } = 94) = ob ∧ QS.took { p with ix := p.ix + 1 } 94 = { p with ix := j0 } ∧ j0 ≤ p.s.size ∧ ∀ q', SetU p.s j0 q' → SetR p.s (p.ix + 1) (q'.map fun f n => if ob then !f n else f n) := by
  by_cases h94 : at' p.s (p.ix + 1) = 94
  ·obtain ⟨e1, e2⟩ := took_yes (p := { p with ix := p.ix + 1 }) h94
   exact ⟨true, p.ix + 2, e1, e2, at'_nn (by omega), fun q' hq => Or.inl ⟨h94, q', hq, rfl⟩⟩
  ·obtain ⟨e1, e2⟩ := took_no (p := { p with ix := p.ix + 1 }) h94
   refine ⟨false, p.ix + 1, e1, e2, hlt, fun q' hq => Or.inr ⟨h94, ?_⟩⟩
   cases q' with
   | ok f j => exact hq
   | bad j => exact hq
 have HF : Hid (∀ q', SetU p.s j0 q' → SetR p.s (p.ix + 1) (q'.map fun f n => if ob then !f n else f n)) := hfin
 have hq0 := hp.keep hk0 (by simp)
 have hg0 := hg.keep hk0 (by simp)
 clear hfin hp hg
 go_enter Tryz.func156, Tryz.ntmps156
 go_wp2_with (first | (refine wpList_zeroSet rfl rfl (some 3) rfl ?_; generalize (w.alloc (.cells (hcells fun _ => false) 174)).alloc (.cells (hcells fun _ => false) 174) = W at *) | (refine wpList_zeroSet rfl rfl (some 2) rfl ?_))
 refine (expect_ok b p 91 (by omega) _ hq0 hs h91).mono ?_
 rintro e w1 ⟨rfl, hq1, hk1⟩
 obtain ⟨g, hgq⟩ : ∃ g, w.heap.size = g := ⟨_, rfl⟩
 rw [hgq] at hz0 hz1 hbl hgl ⊢
 have hz0 := hz0.keep hk1 (by simp; omega)
 have hz1 := hz1.keep hk1 (by simp; omega)
 have hg1 := hg0.keep hk1 (by simp; omega)
 have hkA : Keeps [b] w w1 := (hk0.mono (by simp)).trans hk1
 clear h91 hq0 hg0 hk0 hk1
 go_wp2_with fail
 refine (skip_any b { p with ix := p.ix + 1 } 94 (by omega) _ hq1 hlt hs).mono ?_
 rintro e w2 ⟨rfl, hq2, hk2⟩
 rw [htk] at hq2
 rw [hd]
 have hz0 := hz0.keep hk2 (by simp; omega)
 have hz1 := hz1.keep hk2 (by simp; omega)
 have hg2 := hg1.keep hk2 (by simp; omega)
 have hkB : Keeps [b] w w2 := hkA.trans hk2
 clear hq1 hg1 hk2 hkA hd htk hlt
 go_wp2_with fail
 refine (addRange_prog b (g + 1) { p with ix := j0 } (fun _ => false) _ hq2 hz1 hs hj0 hg2 hbg (by omega)).mono ?_
 rintro e w3 ⟨hk3, hc3⟩
 have hkC : Keeps [b] w w3 := hkB.fresh hk3 (by intro x hx; simp at hx ⊢; omega)
 have hr3' : ∀ r, rangeS p.s j0 = r → rangeS (QS.s { p with ix := j0 }) (QS.ix { p with ix := j0 }) = r := fun r h => h
 cases hr3 : rangeS p.s j0 with
 | bad j =>
  rw [hr3' _ hr3] at hc3
  subst hc3
  simp only [fault]
  exact ⟨rfl, _, HF.out _ (.bad _ j hr3), hkC, rfl⟩
 | ok r j =>
  rw [hr3' _ hr3] at hc3
  obtain ⟨rfl, hq3, hh3⟩ := hc3
  have L0 : SL p b g j0 w w3 r j := ⟨hq3, hh3.congr (fun n _ => rfl), hz0.keep hk3 (by simp; omega), hg2.keep hk3 (by simp; omega), hkC, (rangeS_ok hr3).2, fun q hq => .go r _ j q hr3 hq⟩
  clear hr3 hr3' hq3 hh3 hkC hk3 hz0 hz1 hg2 hkB hq2
  go_wp2_with fail
  go_loopw [19] (fun _ wr => ∃ f i, SL p b g j0 w wr f i) (fun _ wr => muQ wr b)
  case atStart => exact ⟨_, _, L0⟩
  case round =>
   clear L0
   obtain ⟨f, i, L⟩ := hrel
   go_wp2_with fail
   refine (skip_any b { p with ix := i } 93 (by omega) _ L.qb L.ile hs).mono ?_
   rintro e w4 ⟨rfl, hq4, hk4⟩
   have hh4 := L.held.keep hk4 (by simp; omega)
   have hr4 := L.res.keep hk4 (by simp; omega)
   have hg4 := L.gn.keep hk4 (by simp; omega)
   have hk5 := L.keep.trans hk4
   by_cases h93 : at' p.s i = 93
   ·obtain ⟨e1, e2⟩ := took_yes (p := { p with ix := i }) h93
    rw [e2] at hq4
    have HQ9 : Hid (SetR p.s (p.ix + 1) ((R.ok f (i + 1)).map fun f n => if ob then !f n else f n)) := HF.out _ (L.spec _ (.done f i h93))
    clear h93 e2
    rw [e1]
    cases ob
    ·go_wp2_with (first | (refine wpList_load_row rfl 174 _ rfl (g + 1) rfl _ _ _ _ hh4 Tryz.underlying174 rfl (infoSetC _) ?_) | (refine wpList_store_row rfl 174 _ _ rfl g _ rfl rfl _ _ hr4 (infoSetC _) (by rw [hcells_size, hcells_size]) (hcells_one _) ?_))
     refine bodyPost_ret (results_cell_row rfl _ _ g _ _ _ _ rfl (setRow_heap _ _ _ _ _ _ hr4) Tryz.underlying174 rfl (infoSetC _)) rfl ?_
     exact ⟨_, HQ9.out, hk5.setRow (Or.inr (by omega)) _, rfl, hq4.keep ((Keeps.refl [g] w4).setRow (by simp) _) (by simp; omega)⟩
    ·go_wp2_with (first | (refine wpList_load_row rfl 174 _ rfl (g + 1) rfl _ _ _ _ hh4 Tryz.underlying174 rfl (infoSetC _) ?_) | (go_at_call 170; refine (others_any f _).mono ?_; rintro e w6 ⟨rfl, hk6⟩; have hr6 := hr4.keep hk6 (by simp)) | (refine wpList_store_row rfl 174 _ _ rfl g _ rfl rfl _ _ hr6 (infoSetC _) (by rw [hcells_size, hcells_size]) (hcells_one _) ?_))
     refine bodyPost_ret (results_cell_row rfl _ _ g _ _ _ _ rfl (setRow_heap _ _ _ _ _ _ hr6) Tryz.underlying174 rfl (infoSetC _)) rfl ?_
     exact ⟨_, HQ9.out, (hk5.trans (hk6.mono (by simp))).setRow (Or.inr (by omega)) _, rfl, (hq4.keep hk6 (by simp)).keep ((Keeps.refl [g] w6).setRow (by simp) _) (by simp; omega)⟩
   ·obtain ⟨e1, e2⟩ := took_no (p := { p with ix := i }) h93
    rw [e2] at hq4
    rw [e1]
    have L4 : SL p b g j0 w w4 f i := ⟨hq4, hh4, hr4, hg4, hk5, L.ile, L.spec⟩
    have hmu := muQ_eq L.qb
    clear e1 e2 L hk5
    go_wp2_with fail
    refine (addRange_prog b (g + 1) { p with ix := i } f _ hq4 hh4 hs L4.ile hg4 hbg (by omega)).mono ?_
    rintro e w5 ⟨hk5, hc5⟩
    have hr5' : ∀ r, rangeS p.s i = r → rangeS (QS.s { p with ix := i }) (QS.ix { p with ix := i }) = r := fun r h => h
    cases hr5 : rangeS p.s i with
    | bad j =>
     rw [hr5' _ hr5] at hc5
     subst hc5
     simp only [fault]
     exact ⟨rfl, _, HF.out _ (L4.spec _ (.bad f i j h93 hr5)), L4.keep.fresh hk5 (by intro x hx; simp at hx ⊢; omega), rfl⟩
    | ok r j =>
     rw [hr5' _ hr5] at hc5
     obtain ⟨rfl, hq5, hh5⟩ := hc5
     have L5 := L4.next hgq hbl hgl hbg h93 hr5 hk5 hq5 hh5
     have hj := rangeS_ok hr5
     clear hr5' h93
     go_wp2_with fail
     go_roundw
     case rel => exact ⟨_, _, L5⟩
     case measure => rw [hmu, muQ_eq L5.qb]; simp; omega
end Go.Proofs.YtnfojonmohijpabGreatDoor
namespace Go.Proofs.YtnfojonmohijpabGreatDoor
open Go.RowKit
theorem cf_grown (args : Array Value) (w : World) : (callFunc 194 args).run Tryz.prog w = .ok (.enter 194 args) w := by kernel_rfl
theorem cf_dig2 (args : Array Value) (w : World) : (callFunc 195 args).run Tryz.prog w = .ok (.enter 195 args) w := by kernel_rfl
set_option maxRecDepth 100000 in
set_option maxHeartbeats 400000 in
theorem grown_any (c v : Int) (h0 : 48 ≤ c) (h1 : c ≤ 57) (hv0 : 0 ≤ v) (hv1 : v ≤ 5) (vb : Nat) (w : World) (hc : w.cell? ⟨vb, 0, none⟩ = some (.int .i64 v)) :
    Calls Tryz.prog 194 #[.int .u8 c, .pointer (some ⟨vb, 0, none⟩)] w fun e w' => e = .returned (.int .i64 (10 * v + (c - 48))) ∧ w' = w := by
 go_enter Tryz.func194, Tryz.ntmps194
 go_wp2
 go_ret
 exact ⟨ret_int (by omega), rfl⟩
def digOk (v least c : Int) : Bool := digB c && (decide (10 * v + (c - 48) ≤ 5) && (decide (10 * v + (c - 48) = 0) || decide (least ≤ 10 * v + (c - 48))))
set_option maxRecDepth 100000 in
set_option maxHeartbeats 1000000 in
theorem dig2_any (c v least : Int) (h0 : 0 ≤ c) (h1 : c ≤ 255) (hv0 : 0 ≤ v) (hv1 : v ≤ 5) (vb gb lb : Nat) (w : World) (hc : w.cell? ⟨vb, 0, none⟩ = some (.int .i64 v)) (hg : w.cell? ⟨gb, 0, none⟩ = some (.func (.func 194) #[] #[.pointer (some ⟨vb, 0, none⟩)])) (hl : w.cell? ⟨lb, 0, none⟩ = some (.int .i64 least)) :
    Calls Tryz.prog 195 #[.int .u8 c, .pointer (some ⟨gb, 0, none⟩), .pointer (some ⟨lb, 0, none⟩)] w fun e w' => e = .returned (.bool (digOk v least c)) ∧ ∃ n, w' = w.drewN n := by
 by_cases hd : digB c = true
 ·have hb : 48 ≤ c ∧ c ≤ 57 := by simp [digB] at hd; exact hd
  have GR := fun w1 h => grown_any c v hb.1 hb.2 hv0 hv1 vb w1 h
  have ID := isDigit_any c
  rw [hd] at ID
  have cfg := cf_grown
  have HX : Hid (digOk v least c = (decide (10 * v + (c - 48) ≤ 5) && (decide (10 * v + (c - 48) = 0) || decide (least ≤ 10 * v + (c - 48))))) := by show digOk v least c = _; unfold digOk; rw [hd, Bool.true_and]
  have hx0 : 0 ≤ 10 * v + (c - 48) := by omega
  have hx1 : 10 * v + (c - 48) ≤ 100 := by omega
  obtain ⟨hb1, hb2⟩ := hb
  clear hd
  generalize hxe : 10 * v + (c - 48) = x at *
  by_cases h5 : x ≤ 5
  ·by_cases hz : x = 0
   ·subst hz
    go_enter Tryz.func195, Tryz.ntmps195
    go_wp2_with fail
    go_quiet (first | (go_at_call 139; exact Calls.quiet_of_same (ID _)) | (go_at_call 194; exact Calls.quiet_of_same (GR _ hc)))
    go_wp2_with fail
    go_ret
    exact ⟨ret_bool (by rw [HX.out]; simp), _, rfl⟩
   ·by_cases hle : least ≤ x
    ·go_enter Tryz.func195, Tryz.ntmps195
     go_wp2_with fail
     go_quiet (first | (go_at_call 139; exact Calls.quiet_of_same (ID _)) | (go_at_call 194; exact Calls.quiet_of_same (GR _ hc)))
     go_wp2_with fail
     go_ret
     exact ⟨ret_bool (by rw [HX.out]; simp [h5, hz, hle]), _, rfl⟩
    ·go_enter Tryz.func195, Tryz.ntmps195
     go_wp2_with fail
     go_quiet (first | (go_at_call 139; exact Calls.quiet_of_same (ID _)) | (go_at_call 194; exact Calls.quiet_of_same (GR _ hc)))
     go_wp2_with fail
     go_ret
     exact ⟨ret_bool (by rw [HX.out]; simp [h5, hz, hle]), _, rfl⟩
  ·have h5' : decide (x ≤ 5) = false := by simpa using h5
   have H5 : Hid (¬ x ≤ 5) := h5
   clear h5 GR
   have GR := fun w1 h => grown_any c v hb1 hb2 hv0 hv1 vb w1 h
   rw [hxe] at GR
   go_enter Tryz.func195, Tryz.ntmps195
   go_wp2_with fail
   go_quiet (first | (go_at_call 139; exact Calls.quiet_of_same (ID _)) | (go_at_call 194; exact Calls.quiet_of_same (GR _ hc)))
   go_wp2_with fail
   go_ret
   exact ⟨ret_bool (by rw [HX.out, h5']; rfl), _, rfl⟩
 ·have hd' : digB c = false := Bool.eq_false_iff.2 hd
  have HX : Hid (digOk v least c = false) := by show digOk v least c = _; unfold digOk; rw [hd', Bool.false_and]
  have ID := isDigit_any c
  rw [hd'] at ID
  clear hd hd'
  go_enter Tryz.func195, Tryz.ntmps195
  go_wp2_with fail
  go_quiet (first | (go_at_call 139; exact Calls.quiet_of_same (ID _)))
  go_wp2_with fail
  go_ret
  exact ⟨ret_bool (by rw [HX.out]), _, rfl⟩
end Go.Proofs.YtnfojonmohijpabGreatDoor
namespace Go.Proofs.YtnfojonmohijpabGreatDoor
theorem NumL.total (s : ByteArray) (least : Nat) : ∀ (k n : Nat) (any : Bool) (i : Nat), s.size + 1 - i ≤ k → ∃ q, NumL s least n any i q := by
 intro k
 induction k with
 | zero =>
  intro n any i hk
  have hd : digB (at' s i) = false := by rw [at'_ge (by omega)]; rfl
  by_cases h : any = false ∨ n < least
  ·exact ⟨_, .short n any i hd h⟩
  ·cases any
   ·exact absurd (Or.inl rfl) h
   ·exact ⟨_, .done n i hd (by omega)⟩
 | succ k ih =>
  intro n any i hk
  cases hd : digB (at' s i) with
  | false =>
   by_cases h : any = false ∨ n < least
   ·exact ⟨_, .short n any i hd h⟩
   ·cases any
    ·exact absurd (Or.inl rfl) h
    ·exact ⟨_, .done n i hd (by omega)⟩
  | true =>
   have hb : 48 ≤ at' s i ∧ at' s i ≤ 57 := by simp [digB] at hd; exact hd
   have hlt := at'_nn (s := s) (i := i) (by omega)
   have hx : (((10 * n + (at' s i - 48).toNat : Nat)) : Int) = 10 * n + (at' s i - 48) := by omega
   by_cases h : 10 * n + (at' s i - 48).toNat ≤ 5 ∧ (10 * n + (at' s i - 48).toNat = 0 ∨ least ≤ 10 * n + (at' s i - 48).toNat)
   ·obtain ⟨q, hq⟩ := ih (10 * n + (at' s i - 48).toNat) true (i + 1) (by omega)
    exact ⟨q, .dig n _ any i q hd hx h.1 h.2 hq⟩
   ·exact ⟨_, .big n _ any i hd hx h⟩
theorem NumL.some (s : ByteArray) (least n : Nat) (any : Bool) (i : Nat) : ∃ q, NumL s least n any i q := NumL.total s least _ n any i (Nat.le_refl _)
theorem RepR.some (s : ByteArray) (j : Nat) : ∃ q, RepR s j q := by
 by_cases h1 : at' s j = 42
 ·exact ⟨_, Or.inr (Or.inl ⟨h1, rfl⟩)⟩
 by_cases h2 : at' s j = 43
 ·exact ⟨_, Or.inr (Or.inr (Or.inl ⟨h2, rfl⟩))⟩
 by_cases h3 : at' s j = 63
 ·exact ⟨_, Or.inr (Or.inr (Or.inr (Or.inl ⟨h3, rfl⟩)))⟩
 by_cases h4 : at' s j = 123
 ·obtain ⟨q1, hq1⟩ := NumL.some s 0 0 false (j + 1)
  have : ∃ q, Rep2 s q1 q := by
   cases q1 with
   | bad k => exact ⟨_, rfl⟩
   | ok m k =>
    by_cases h5 : at' s k = 44
    ·by_cases h6 : at' s (k + 1) = 125
     ·exact ⟨_, Or.inl ⟨h5, h6, rfl⟩⟩
     ·obtain ⟨q2, hq2⟩ := NumL.some s m 0 false (k + 1)
      cases q2 with
      | bad l => exact ⟨_, Or.inr (Or.inl ⟨h5, h6, _, hq2, rfl⟩)⟩
      | ok n l => exact ⟨_, Or.inr (Or.inl ⟨h5, h6, _, hq2, rfl⟩)⟩
    ·exact ⟨_, Or.inr (Or.inr ⟨h5, rfl⟩)⟩
  obtain ⟨q, hq⟩ := this
  exact ⟨q, Or.inr (Or.inr (Or.inr (Or.inr ⟨h4, q1, hq1, hq⟩)))⟩
 ·exact ⟨_, Or.inl ⟨h1, h2, h3, h4, rfl⟩⟩
end Go.Proofs.YtnfojonmohijpabGreatDoor
