/-
  DERIVED. Contracts of the reference's small writers (hexes, one). Conditions: the number is a byte's.
-/
import Derived.Test.YtnfojonmohijpaaGreatDoorJRU
import Derived.Test.YtnfojonmohijpaaGreatDoorJSpec
set_option linter.unusedSimpArgs false
set_option linter.unusedVariables false
namespace Go.Proofs.YtnfojonmohijpaaGreatDoor
open Go.RowKit

theorem ret_str {a b : ByteArray} (h : a = b) : Ending.returned (.string a) = .returned (.string b) := by rw [h]
theorem nmB_appT (a b : List UInt8) : nmB a ++ nmB b = nmB (a ++ b) := ByteArray.mk_append_mk a b
theorem nmB_cut (l : List UInt8) (a : Nat) (h : a < l.length) : (nmB l).extract a (a + 1) = nmB [l.getD a 0] := by
  apply ByteArray.ext
  apply Array.ext'
  rw [Lib.extract_data, Nat.add_sub_cancel_left, nmB_toList, nmB_toList, List.drop_eq_getElem_cons h, List.take_succ_cons, List.take_zero, List.getD_eq_getElem?_getD, List.getElem?_eq_getElem h]
  rfl
theorem hexes_eq (b : Nat) (hb : b ≤ 255) : (nmB hexs).extract (b / 16) (b / 16 + 1) ++ (nmB hexs).extract (b % 16) (b % 16 + 1) = nmB [hexs.getD (b / 16) 0, hexs.getD (b % 16) 0] := by
  rw [nmB_cut hexs (b / 16) (by show b / 16 < 16; omega), nmB_cut hexs (b % 16) (by show b % 16 < 16; omega), nmB_appT]
  rfl

set_option maxRecDepth 100000 in
set_option maxHeartbeats 1000000 in
theorem hexes_any (b : Nat) (hb : b ≤ 255) (w : World) :
    Calls Tryz.prog 140 #[.int .i64 b] w fun e w' => e = .returned (.string (nmB [hexs.getD (b / 16) 0, hexs.getD (b % 16) 0])) ∧ ∃ n, w' = w.drewN n := by
  have h0 : (0 : Int) ≤ (b : Int) := by omega
  have h1 : (b : Int) ≤ 255 := by omega
  have h2 : (0 : Int) ≤ (b : Int) / 16 := by omega
  have h3 : (b : Int) / 16 ≤ 15 := by omega
  have h4 : (0 : Int) ≤ (b : Int) % 16 := by omega
  have h5 : (b : Int) % 16 ≤ 15 := by omega
  go_enter Tryz.func140, Tryz.ntmps140
  go_wp2_with fail
  go_quiet (fail)
  go_wp2_with fail
  go_ret
  exact ⟨ret_str (hexes_eq b hb), _, rfl⟩

theorem conv_oneT (w : World) (b : Nat) : (convert 64 9 (.slice (some ⟨w.heap.size, 0, none⟩) 1 1)).run Tryz.prog (w.alloc (.cells #[.int .u8 (b : Int)] 5)) = .ok (.string (nmB [UInt8.ofNat b])) (w.alloc (.cells #[.int .u8 (b : Int)] 5)) := by
  have h : (loadCells ⟨w.heap.size, 0, none⟩ 1).run Tryz.prog (w.alloc (.cells #[.int .u8 (b : Int)] 5)) = .ok ([(b : Int)].map (Value.int .u8)).toArray (w.alloc (.cells #[.int .u8 (b : Int)] 5)) := by
    simp [loadCells, go_sem]
  rw [run_convert_bytes_string _ _ _ _ _ _ _ Tryz.underlying64 Tryz.underlying5 Tryz.underlying9, run_bytesToString _ _ _ _ [(b : Int)] h]
  rfl

set_option maxRecDepth 100000 in
set_option maxHeartbeats 1000000 in
theorem one_any (b : Nat) (hb : b ≤ 255) (w : World) :
    Calls Tryz.prog 171 #[.int .i64 b] w fun e w' => e = .returned (.string (nmB (oneT b))) ∧ Keeps [] w w' := by
  have h0 : (0 : Int) ≤ (b : Int) := by omega
  have h1 : (b : Int) ≤ 255 := by omega
  cases ha : alnB b
  · have HO : Hid (oneT b = [92, 120] ++ [hexs.getD (b / 16) 0, hexs.getD (b % 16) 0]) := by show oneT b = _; unfold oneT; rw [ha]; rfl
    go_enter Tryz.func171, Tryz.ntmps171
    go_wp2_with (first | (go_at_call 210; refine (alnum_any _ _).mono ?_; rintro e w' ⟨rfl, rfl⟩) | (go_at_call 140; refine (hexes_any b hb _).mono ?_; rintro e w' ⟨rfl, n, rfl⟩))
    go_ret
    exact ⟨ret_str (by rw [HO.out, ← nmB_appT]; rfl), (Keeps.refl _ _).drewN n⟩
  · have HO : Hid (oneT b = [UInt8.ofNat b]) := by show oneT b = _; unfold oneT; rw [ha]; rfl
    have hcv := fun w => conv_oneT w b
    go_enter Tryz.func171, Tryz.ntmps171
    go_wp2_with (first | (go_at_call 210; refine (alnum_any _ _).mono ?_; rintro e w' ⟨rfl, rfl⟩))
    go_ret
    exact ⟨ret_str (by rw [HO.out]), (Keeps.refl _ _).alloc _⟩
end Go.Proofs.YtnfojonmohijpaaGreatDoor
