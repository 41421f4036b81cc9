/-
  DERIVED. Contracts of strconv.Itoa at the numbers that a repeat has. Conditions: the variable uint64pow10 begins with 1.
-/
import Derived.Test.YtnfojonmohijpaaGreatDoorJPZ
import Derived.WalkLawsBesides
set_option linter.unusedSimpArgs false
set_option linter.unusedVariables false
namespace Go.Proofs.YtnfojonmohijpaaGreatDoor
open Go.RowKit

/-- The first cell of the powers of ten. -/
def GP (w : World) : Prop := w.cell? ⟨1, 0, none⟩ = some (.int .u64 1)

set_option maxRecDepth 100000 in
set_option maxHeartbeats 1000000 in
theorem len64_one (w : World) : Calls Tryz.prog 271 #[.int .u64 1] w fun e w' => e = .returned (.int .i64 1) ∧ w' = w := by
  go_enter Tryz.func271, Tryz.ntmps271
  go_wp2_with fail
  go_ret
  exact ⟨ret_int (by kernel_rfl), rfl⟩
set_option maxRecDepth 100000 in
set_option maxHeartbeats 1000000 in
theorem log_one (w : World) : Calls Tryz.prog 270 #[.int .i64 1] w fun e w' => e = .returned (.int .i64 0) ∧ w' = w := by
  go_enter Tryz.func270, Tryz.ntmps270
  go_wp2_with fail
  go_ret
  exact ⟨ret_int (by decide), rfl⟩
set_option maxRecDepth 100000 in
set_option maxHeartbeats 1000000 in
theorem bool2_true (w : World) : Calls Tryz.prog 272 #[.bool true] w fun e w' => e = .returned (.int .i64 1) ∧ w' = w := by
  go_enter Tryz.func272, Tryz.ntmps272
  go_wp2_with fail
  go_ret
  exact ⟨rfl, rfl⟩

set_option maxRecDepth 100000 in
set_option maxHeartbeats 1000000 in
theorem numDigits_one (w : World) (hg : GP w) : Calls Tryz.prog 241 #[.int .u64 1] w fun e w' => e = .returned (.int .i64 1) ∧ Keeps [] w w' := by
  have hg' : w.cell? ⟨1, 0, none⟩ = some (.int .u64 1) := hg
  go_enter Tryz.func241, Tryz.ntmps241
  go_wp2_with (first | (go_at_call 271; refine (len64_one _).mono ?_; rintro e w1 ⟨rfl, rfl⟩) | (go_at_call 270; refine (log_one _).mono ?_; rintro e w1 ⟨rfl, rfl⟩) | (go_at_call 272; refine (bool2_true _).mono ?_; rintro e w1 ⟨rfl, rfl⟩))
  go_ret
  exact ⟨rfl, Keeps.refl _ _⟩

set_option maxRecDepth 100000 in
set_option maxHeartbeats 1000000 in
theorem small_any (n : Nat) (hn : n ≤ 5) (w : World) : Calls Tryz.prog 240 #[.int .i64 (n : Int)] w fun e w' => e = .returned (.string (nmB (digT n))) ∧ Keeps [] w w' := by
  have h0 : n = 0 ∨ n = 1 ∨ n = 2 ∨ n = 3 ∨ n = 4 ∨ n = 5 := by omega
  rcases h0 with rfl | rfl | rfl | rfl | rfl | rfl
  all_goals
    go_enter Tryz.func240, Tryz.ntmps240
    go_wp2_with fail
    go_ret
    exact ⟨by kernel_rfl, Keeps.refl [] w⟩

set_option maxRecDepth 100000 in
set_option maxHeartbeats 1000000 in
theorem fmt_small (n : Nat) (hn : n ≤ 5) (w : World) : Calls Tryz.prog 201 #[.int .i64 (n : Int), .int .i64 10] w fun e w' => e = .returned (.string (nmB (digT n))) ∧ Keeps [] w w' := by
  have h0 : (0 : Int) ≤ (n : Int) := by omega
  have h1 : (n : Int) < 100 := by omega
  go_enter Tryz.func201, Tryz.ntmps201
  go_wp2_with (first | (go_at_call 240; refine (small_any n hn _).mono ?_; rintro e w1 ⟨rfl, hk1⟩))
  go_ret
  exact ⟨rfl, hk1⟩

theorem conv_at (w : World) (g cap : Nat) (x y : UInt8) (h0 : w.cell? ⟨g, 0, none⟩ = some (.int .u8 (x.toNat : Int))) (h1 : w.cell? ⟨g, 1, none⟩ = some (.int .u8 (y.toNat : Int))) : (convert 64 9 (.slice (some ⟨g, 0, none⟩) 2 cap)).run Tryz.prog w = .ok (.string (nmB [x, y])) w := by
  rw [run_convert_bytes_string w _ _ 5 _ _ _ Tryz.underlying64 Tryz.underlying5 Tryz.underlying9]
  have hld : (loadCells ⟨g, 0, none⟩ 2).run Tryz.prog w = .ok (([x, y].map fun u => (u.toNat : Int)).map (Value.int .u8)).toArray w := by
    refine run_loadCells_list (P := Tryz.prog) w ⟨g, 0, none⟩ [.int .u8 (x.toNat : Int), .int .u8 (y.toNat : Int)] ?_
    intro j u hu
    match j, hu with
    | 0, hu => simp at hu; subst hu; simpa [Addr.add] using h0
    | 1, hu => simp at hu; subst hu; simpa [Addr.add] using h1
  rw [run_bytesToString w _ _ _ _ hld, push_bytes]
  congr 2

set_option maxRecDepth 100000 in
set_option maxHeartbeats 1000000 in
theorem fmt10_one (b off cap : Nat) (v : Value) (w : World) (hc : w.cell? ⟨b, off, none⟩ = some v) (hf : w.frozen? ⟨b, off, none⟩ = false) :
    Calls Tryz.prog 242 #[.slice (some ⟨b, off, none⟩) 1 cap, .int .u64 1] w fun e w' => e = .returned (.tuple #[]) ∧ w' = w.setCell ⟨b, off, none⟩ (.int .u8 49) := by
  go_enter Tryz.func242, Tryz.ntmps242
  go_wp2_with fail
  go_loopw [1, 4] (fun u v wr => u = .int .u64 1 ∧ v = .int .i64 1 ∧ wr = w) (fun _ _ _ => 0)
  case atStart => exact ⟨rfl, rfl, rfl⟩
  case round =>
    obtain ⟨rfl, rfl, rfl⟩ := hrel
    go_wp2_with fail
    go_end0
    exact ⟨rfl, rfl⟩

set_option maxRecDepth 100000 in
set_option maxHeartbeats 1000000 in
theorem fmt_neg (w : World) (hg : GP w) : Calls Tryz.prog 201 #[.int .i64 (-1), .int .i64 10] w fun e w' => (∃ t, e = .returned (.string t)) ∧ Keeps [] w w' := by
  go_enter Tryz.func201, Tryz.ntmps201
  go_wp2_with fail
  have e1 : IntKind.u64.wrap (-IntKind.u64.wrap (-1)) = 1 := by decide
  rw [e1]
  have hk0 := (Keeps.refl [] w).alloc (.cells (Array.replicate 24 (.int .u8 0)) 325)
  have hg0 : GP _ := keep_cell hk0 hg
  have c0 : (w.alloc (.cells (Array.replicate 24 (.int .u8 0)) 325)).cell? ⟨w.heap.size, 0, none⟩ = some (.int .u8 0) := by simp
  have c1 : (w.alloc (.cells (Array.replicate 24 (.int .u8 0)) 325)).cell? ⟨w.heap.size, 1, none⟩ = some (.int .u8 0) := by simp
  have f0 : (w.alloc (.cells (Array.replicate 24 (.int .u8 0)) 325)).frozen? ⟨w.heap.size, 0, none⟩ = false := by simp
  have f1 : (w.alloc (.cells (Array.replicate 24 (.int .u8 0)) 325)).frozen? ⟨w.heap.size, 1, none⟩ = false := by simp
  refine (numDigits_one _ hg0).mono ?_
  rintro e w1 ⟨rfl, hk1⟩
  have d0 := keep_cell hk1 c0
  have d1 := keep_cell hk1 c1
  have k0 : w1.frozen? ⟨w.heap.size, 0, none⟩ = false := (World.frozen?_of_block (hk1.block _ (World.block_lt_of_cell? _ _ c0) (by simp))).trans f0
  have k1 : w1.frozen? ⟨w.heap.size, 1, none⟩ = false := (World.frozen?_of_block (hk1.block _ (World.block_lt_of_cell? _ _ c1) (by simp))).trans f1
  have hkA := hk0.trans hk1
  have hlt := World.block_lt_of_cell? _ _ d0
  clear c0 c1 f0 f1 hg0 hk0 hk1 e1 hg
  have d0' : (w1.setCell ⟨w.heap.size, 1, none⟩ (.int .u8 49)).cell? ⟨w.heap.size, 0, none⟩ = some (.int .u8 0) := (World.cell?_setCell_other _ _ _ _ (by simp)).trans d0
  have k0' : (w1.setCell ⟨w.heap.size, 1, none⟩ (.int .u8 49)).frozen? ⟨w.heap.size, 0, none⟩ = false := by rw [World.frozen?_setCell]; exact k0
  have cv := conv_at ((w1.setCell ⟨w.heap.size, 1, none⟩ (.int .u8 49)).setCell ⟨w.heap.size, 0, none⟩ (.int .u8 45)) w.heap.size 24 45 49 (World.cell?_setCell_same _ _ _ d0') ((World.cell?_setCell_other _ _ _ _ (by simp)).trans (World.cell?_setCell_same _ _ _ d1))
  go_wp2_with (first | (go_at_call 242; refine (fmt10_one w.heap.size 1 _ _ _ d1 k1).mono ?_; rintro e w2 ⟨rfl, rfl⟩))
  go_ret
  exact ⟨⟨_, rfl⟩, (hkA.setCell (Or.inr (Nat.le_refl _)) _).setCell (Or.inr (Nat.le_refl _)) _⟩

set_option maxRecDepth 100000 in
set_option maxHeartbeats 1000000 in
theorem iitoa_small (n : Nat) (hn : n ≤ 5) (w : World) : Calls Tryz.prog 161 #[.int .i64 (n : Int)] w fun e w' => e = .returned (.string (nmB (digT n))) ∧ Keeps [] w w' := by
  go_enter Tryz.func161, Tryz.ntmps161
  go_wp2_with (first | (go_at_call 201; refine (fmt_small n hn _).mono ?_; rintro e w1 ⟨rfl, hk1⟩))
  go_ret
  exact ⟨rfl, hk1⟩
set_option maxRecDepth 100000 in
set_option maxHeartbeats 1000000 in
theorem itoa_small (n : Nat) (hn : n ≤ 5) (w : World) : Calls Tryz.prog 105 #[.int .i64 (n : Int)] w fun e w' => e = .returned (.string (nmB (digT n))) ∧ Keeps [] w w' := by
  go_enter Tryz.func105, Tryz.ntmps105
  go_wp2_with (first | (go_at_call 161; refine (iitoa_small n hn _).mono ?_; rintro e w1 ⟨rfl, hk1⟩))
  go_ret
  exact ⟨rfl, hk1⟩
set_option maxRecDepth 100000 in
set_option maxHeartbeats 1000000 in
theorem iitoa_neg (w : World) (hg : GP w) : Calls Tryz.prog 161 #[.int .i64 (-1)] w fun e w' => (∃ t, e = .returned (.string t)) ∧ Keeps [] w w' := by
  go_enter Tryz.func161, Tryz.ntmps161
  go_wp2_with (first | (go_at_call 201; refine (fmt_neg _ hg).mono ?_; rintro e w1 ⟨⟨t, rfl⟩, hk1⟩))
  go_ret
  exact ⟨⟨t, rfl⟩, hk1⟩
set_option maxRecDepth 100000 in
set_option maxHeartbeats 1000000 in
theorem itoa_neg (w : World) (hg : GP w) : Calls Tryz.prog 105 #[.int .i64 (-1)] w fun e w' => (∃ t, e = .returned (.string t)) ∧ Keeps [] w w' := by
  go_enter Tryz.func105, Tryz.ntmps105
  go_wp2_with (first | (go_at_call 161; refine (iitoa_neg _ hg).mono ?_; rintro e w1 ⟨⟨t, rfl⟩, hk1⟩))
  go_ret
  exact ⟨⟨t, rfl⟩, hk1⟩
end Go.Proofs.YtnfojonmohijpaaGreatDoor
