/-
  DERIVED. Contracts of the program's HexPair, plainByte and plainStretch. Conditions: bytes are from 0 to 255.
-/
import Derived.Test.YtnfojonmohijpaaGreatDoorJPY
import Derived.Test.YtnfojonmohijpaaGreatDoorJSpec
set_option linter.unusedSimpArgs false
set_option linter.unusedVariables false
namespace Go.Proofs.YtnfojonmohijpaaGreatDoor
open Go.RowKit

set_option maxRecDepth 100000 in
theorem and15 (c : Nat) (hc : c < 256) : bits BinOp.and IntKind.u8 (c : Int) 15 = (c : Int) % 16 := by
  have key : ∀ m : Fin 256, bits BinOp.and IntKind.u8 ((m.val : Nat) : Int) 15 = ((m.val : Nat) : Int) % 16 := by decide
  exact key ⟨c, hc⟩
theorem conv_two (w : World) (x y : UInt8) : (convert 64 9 (.slice (some ⟨w.heap.size, 0, none⟩) 2 2)).run Tryz.prog (w.alloc (.cells #[.int .u8 (x.toNat : Int), .int .u8 (y.toNat : Int)] 5)).drew = .ok (.string (nmB [x, y])) (w.alloc (.cells #[.int .u8 (x.toNat : Int), .int .u8 (y.toNat : Int)] 5)).drew :=
  conv_name _ 0 _ [x, y] ⟨by simp, Or.inr ⟨_, 2, #[.int .u8 (x.toNat : Int), .int .u8 (y.toNat : Int)], rfl, Nat.zero_le _, heap_alloc_new w _, Nat.le_refl _, by decide, rfl, rfl⟩⟩
theorem hexs_at (k : Nat) (h : k < 16) (h' : k < (ByteArray.mk #[48, 49, 50, 51, 52, 53, 54, 55, 56, 57, 97, 98, 99, 100, 101, 102]).size) : (ByteArray.mk #[48, 49, 50, 51, 52, 53, 54, 55, 56, 57, 97, 98, 99, 100, 101, 102])[k] = hexs.getD k 0 := by
  have key : ∀ m : Fin 16, ∀ hm, (ByteArray.mk #[48, 49, 50, 51, 52, 53, 54, 55, 56, 57, 97, 98, 99, 100, 101, 102])[m.val]'hm = hexs.getD m.val 0 := by decide
  exact key ⟨k, h⟩ h'

set_option maxRecDepth 100000 in
set_option maxHeartbeats 1000000 in
theorem hexPair_text (c : Nat) (hc : c < 256) (w : World) :
    Calls Tryz.prog 178 #[.int .u8 (c : Int)] w fun e w' => e = .returned (.string (nmB [hexs.getD (c / 16) 0, hexs.getD (c % 16) 0])) ∧ Keeps [] w w' := by
  have d1 : (0 : Int) ≤ (c : Int) / 16 := by omega
  have d2 : (c : Int) / 16 < 16 := by omega
  have d3 : (0 : Int) ≤ (c : Int) % 16 := by omega
  have d4 : (c : Int) % 16 < 16 := by omega
  have d5 := and15 c hc
  have cv := fun x y => conv_two w x y
  go_enter Tryz.func178, Tryz.ntmps178
  go_wp2_with fail
  go_region
  all_goals
    go_wp2_with fail
    go_ret
    refine ⟨?_, ((Keeps.refl [] w).alloc _).drewN 1⟩
    show Ending.returned (.string (nmB [_, _])) = _
    rw [hexs_at (c / 16) (by omega), hexs_at (c % 16) (by omega)]

theorem ofNat_toNat' (c : Nat) (hc : c < 256) : ((UInt8.ofNat c).toNat : Int) = (c : Int) := by
  simp; omega
set_option maxRecDepth 100000 in
set_option maxHeartbeats 1000000 in
theorem plainByte_text (c : Nat) (hc : c < 256) (w : World) :
    Calls Tryz.prog 208 #[.int .u8 (c : Int)] w fun e w' => e = .returned (.string (nmB (oneT c))) ∧ Keeps [] w w' := by
  cases ha : alnB (c : Int) with
  | true =>
    have HO : Hid (oneT c = [UInt8.ofNat c]) := by show oneT c = _; unfold oneT; rw [ha]; rfl
    have IA := isAlnum_any (c : Int)
    rw [ha] at IA
    have cv := conv_one w (UInt8.ofNat c)
    rw [ofNat_toNat' c hc] at cv
    clear ha
    go_enter Tryz.func208, Tryz.ntmps208
    go_wp2_with (first | (go_at_call 253; refine (IA _).mono ?_; rintro e w1 ⟨rfl, rfl⟩))
    go_ret
    refine ⟨?_, (Keeps.refl [] _).alloc _⟩
    rw [HO.out]; rfl
  | false =>
    have HO : Hid (oneT c = [92, 120] ++ [hexs.getD (c / 16) 0, hexs.getD (c % 16) 0]) := by show oneT c = _; unfold oneT; rw [ha]; rfl
    have IA := isAlnum_any (c : Int)
    rw [ha] at IA
    have hsz : (nmB [hexs.getD (c / 16) 0, hexs.getD (c % 16) 0]).size = 2 := rfl
    have hsz2 : ¬ 9223372036854775807 < (ByteArray.mk #[92, 120]).size + (nmB [hexs.getD (c / 16) 0, hexs.getD (c % 16) 0]).size := by rw [hsz]; decide
    have hap : (ByteArray.mk #[92, 120]) ++ nmB [hexs.getD (c / 16) 0, hexs.getD (c % 16) 0] = nmB ([92, 120] ++ [hexs.getD (c / 16) 0, hexs.getD (c % 16) 0]) := nmB_append [92, 120] _
    clear ha
    go_enter Tryz.func208, Tryz.ntmps208
    go_wp2_with (first | (go_at_call 253; refine (IA _).mono ?_; rintro e w1 ⟨rfl, rfl⟩) | (go_at_call 178; refine (hexPair_text c hc _).mono ?_; rintro e w1 ⟨rfl, hk1⟩))
    go_ret
    refine ⟨?_, hk1⟩
    rw [HO.out]
    first | rfl | (show Ending.returned (.string _) = _; rw [← hap]; rfl)

set_option maxRecDepth 100000 in
set_option maxHeartbeats 1000000 in
theorem plainStretch_text (a b : Nat) (ha : a < 256) (hb : b < 256) (w : World) :
    Calls Tryz.prog 209 #[.agg #[.int .u8 (a : Int), .int .u8 (b : Int)]] w fun e w' => e = .returned (.string (nmB (strT a b))) ∧ Keeps [] w w' := by
  by_cases hab : a = b
  · have HO : Hid (strT a b = oneT a) := by show strT a b = _; unfold strT; rw [if_pos hab]
    have he : ((a : Int) == (b : Int)) = true := by simpa using (by omega : (a : Int) = (b : Int))
    have k0 : Keeps [] w (w.alloc (.cells #[.int .u8 (a : Int), .int .u8 (b : Int)] 307)) := (Keeps.refl [] w).alloc _
    clear hab
    go_enter Tryz.func209, Tryz.ntmps209
    go_wp2_with (first | (go_at_call 208; refine (plainByte_text a ha _).mono ?_; rintro e w1 ⟨rfl, hk1⟩))
    go_ret
    exact ⟨by rw [HO.out]; rfl, k0.trans hk1⟩
  · have HO : Hid (strT a b = oneT a ++ [45] ++ oneT b) := by show strT a b = _; unfold strT; rw [if_neg hab]
    have he : ((a : Int) == (b : Int)) = false := by simpa using (by omega : ¬ (a : Int) = (b : Int))
    have k0 : Keeps [] w (w.alloc (.cells #[.int .u8 (a : Int), .int .u8 (b : Int)] 307)) := (Keeps.refl [] w).alloc _
    have la := oneT_len a
    have lb := oneT_len b
    have z1 : ¬ 9223372036854775807 < (nmB (oneT a)).size + (ByteArray.mk #[45]).size := by rw [nmB_size]; show ¬ 9223372036854775807 < _ + 1; omega
    have z2 : ¬ 9223372036854775807 < (nmB (oneT a ++ [45])).size + (nmB (oneT b)).size := by rw [nmB_size, nmB_size]; simp; omega
    have p1 : nmB (oneT a) ++ (ByteArray.mk #[45]) = nmB (oneT a ++ [45]) := nmB_append _ [45]
    have p2 : nmB (oneT a ++ [45]) ++ nmB (oneT b) = nmB (oneT a ++ [45] ++ oneT b) := nmB_append _ _
    have ca : (w.alloc (.cells #[.int .u8 (a : Int), .int .u8 (b : Int)] 307)).cell? ⟨w.heap.size, 0, none⟩ = some (.int .u8 (a : Int)) := by simp
    have cb : (w.alloc (.cells #[.int .u8 (a : Int), .int .u8 (b : Int)] 307)).cell? ⟨w.heap.size, 1, none⟩ = some (.int .u8 (b : Int)) := by simp
    clear hab la lb
    go_enter Tryz.func209, Tryz.ntmps209
    go_wp2_with fail
    generalize w.alloc (.cells #[.int .u8 (a : Int), .int .u8 (b : Int)] 307) = W at *
    have kD : Keeps [] W W.drew := (Keeps.refl [] W).drewN 1
    have caD := keep_cell kD ca
    have cbD := keep_cell kD cb
    have kE := k0.trans kD
    clear ca cb k0
    go_region_with (first
      | (go_at_call_of 208 (Value.int IntKind.u8 (a : Int)); refine (plainByte_text a ha _).mono ?_; rintro e w1 ⟨rfl, hk1⟩; have cb1 := keep_cell hk1 cbD)
      | (go_at_call_of 208 (Value.int IntKind.u8 (b : Int)); refine (plainByte_text b hb _).mono ?_; rintro e w2 ⟨rfl, hk2⟩))
    all_goals
      go_wp2_with fail
      go_ret
      refine ⟨?_, (kE.trans hk1).trans hk2⟩
      rw [HO.out]
      first
        | (show Ending.returned (.string (nmB (oneT a ++ [45]) ++ nmB (oneT b))) = _; rw [nmB_append])
        | (show Ending.returned (.string (nmB (oneT a ++ 45 :: oneT b))) = _; simp)
end Go.Proofs.YtnfojonmohijpaaGreatDoor
