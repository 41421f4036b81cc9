/-
  DERIVED. Contracts of strings.IndexByte at this program, isHex, hexValue and the tests that hexPair, escaped and inner hand to Take. Conditions: bytes are from 0 to 255.
-/
import Derived.Test.YtnfojonmohijpaaGreatDoorJPA
import Derived.Lib.Bytealg
import Derived.Laws.StandIn
set_option linter.unusedSimpArgs false
set_option linter.unusedVariables false
namespace Go.Proofs.YtnfojonmohijpaaGreatDoor
open Go.RowKit

theorem idx_run (s : ByteArray) (c : Int) (w : World) : (callFunc 284 #[.string s, .int .u8 c]).run Tryz.prog w = .ok (.value (.int .i64 (Lib.indexByte s.data.toList c.toNat.toUInt8))) w := by
  rw [run_callFunc_indexByte Tryz.func284 (by kernel_rfl) (by kernel_rfl) (by kernel_rfl) (by kernel_rfl), Lib.run_indexByteString]
  rfl

set_option maxHeartbeats 400000 in
theorem lite_any (s : ByteArray) (c : Int) (w : World) :
    Calls Tryz.prog 266 #[.string s, .int .u8 c] w fun e w' => e = .returned (.int .i64 (Lib.indexByte s.data.toList c.toNat.toUInt8)) ∧ w' = w := by
  have hi := fun w => idx_run s c w
  go_enter Tryz.func266, Tryz.ntmps266
  go_wp2
  go_ret
  exact ⟨rfl, rfl⟩
set_option maxHeartbeats 400000 in
theorem index_any (s : ByteArray) (c : Int) (w : World) :
    Calls Tryz.prog 246 #[.string s, .int .u8 c] w fun e w' => e = .returned (.int .i64 (Lib.indexByte s.data.toList c.toNat.toUInt8)) ∧ w' = w := by
  go_enter Tryz.func246, Tryz.ntmps246
  go_wp2_with (go_at_call 266; refine (lite_any s c _).mono ?_; rintro e w' ⟨rfl, rfl⟩)
  go_ret
  exact ⟨rfl, rfl⟩

set_option maxRecDepth 100000 in
/-- The place of a hex digit among them is its value. -/
theorem hex_idx (c : Int) (h0 : 0 ≤ c) (h1 : c ≤ 255) : Lib.indexByte (ByteArray.data ⟨#[48, 49, 50, 51, 52, 53, 54, 55, 56, 57, 97, 98, 99, 100, 101, 102]⟩).toList c.toNat.toUInt8 = hexd c := by
  obtain ⟨n, rfl⟩ : ∃ n : Nat, c = n := ⟨c.toNat, by omega⟩
  have hn : n < 256 := by omega
  have key : ∀ m : Fin 256, Lib.indexByte (ByteArray.data ⟨#[48, 49, 50, 51, 52, 53, 54, 55, 56, 57, 97, 98, 99, 100, 101, 102]⟩).toList ((m.val : Int)).toNat.toUInt8 = hexd (m.val : Int) := by decide
  exact key ⟨n, hn⟩

set_option maxHeartbeats 400000 in
theorem isHex_any (c : Int) (h0 : 0 ≤ c) (h1 : c ≤ 255) (w : World) :
    Calls Tryz.prog 219 #[.int .u8 c] w fun e w' => e = .returned (.bool (decide (0 ≤ hexd c))) ∧ w' = w := by
  go_enter Tryz.func219, Tryz.ntmps219
  go_wp2_with (go_at_call 246; refine (index_any _ c _).mono ?_; rintro e w' ⟨rfl, rfl⟩; rw [hex_idx c h0 h1])
  go_ret
  exact ⟨rfl, rfl⟩
set_option maxHeartbeats 400000 in
theorem hexValue_any (c : Int) (h0 : 0 ≤ c) (h1 : c ≤ 255) (hh : 0 ≤ hexd c) (w : World) :
    Calls Tryz.prog 220 #[.int .u8 c] w fun e w' => e = .returned (.int .u8 (hexd c)) ∧ w' = w := by
  have hb := hexd_bd c
  have hb2 := hb.2
  go_enter Tryz.func220, Tryz.ntmps220
  go_wp2_with (go_at_call 246; refine (index_any _ c _).mono ?_; rintro e w' ⟨rfl, rfl⟩; rw [hex_idx c h0 h1])
  go_ret
  exact ⟨rfl, rfl⟩

theorem isHex_v (c : Int) (v : Bool) (h0 : 0 ≤ c) (h1 : c ≤ 255) (h : decide (0 ≤ hexd c) = v) (w : World) :
    Calls Tryz.prog 219 #[.int .u8 c] w fun e w' => e = .returned (.bool v) ∧ w' = w := by
  subst h; exact isHex_any c h0 h1 w

/-- How a byte is put together of two hex digits, as the program does it. -/
theorem or_hex (a b : Int) (ha0 : 0 ≤ a) (ha1 : a ≤ 15) (hb0 : 0 ≤ b) (hb1 : b ≤ 15) : bits .or .u8 (a * 16) b = 16 * a + b := by
  obtain ⟨x, rfl⟩ : ∃ x : Nat, a = x := ⟨a.toNat, by omega⟩
  obtain ⟨y, rfl⟩ : ∃ y : Nat, b = y := ⟨b.toNat, by omega⟩
  have key : ∀ (m n : Fin 16), bits .or .u8 ((m.val : Int) * 16) (n.val : Int) = 16 * (m.val : Int) + (n.val : Int) := by decide
  exact key ⟨x, by omega⟩ ⟨y, by omega⟩

set_option maxRecDepth 100000 in
set_option maxHeartbeats 400000 in
theorem esc1_any (c l : Int) (lb : Nat) (w : World) (hl : w.cell? ⟨lb, 0, none⟩ = some (.int .u8 l)) :
    Calls Tryz.prog 277 #[.int .u8 c, .pointer (some ⟨lb, 0, none⟩)] w fun e w' => e = .returned (.bool (!alnB c && decide (l ≤ c))) ∧ w' = w := by
  cases ha : alnB c
  all_goals
    go_enter Tryz.func277, Tryz.ntmps277
    go_wp2_with (go_at_call 253; refine (isAlnum_any c _).mono ?_; rintro e w' ⟨rfl, rfl⟩)
    all_goals go_ret
    all_goals exact ⟨by simp [ha], rfl⟩
set_option maxRecDepth 100000 in
set_option maxHeartbeats 400000 in
theorem hp1_any (c l : Int) (h0 : 0 ≤ c) (h1 : c ≤ 255) (lb : Nat) (w : World) (hl : w.cell? ⟨lb, 0, none⟩ = some (.int .u8 l)) :
    Calls Tryz.prog 292 #[.int .u8 c, .pointer (some ⟨lb, 0, none⟩)] w fun e w' => e = .returned (.bool (decide (0 ≤ hexd c) && decide (l ≤ 16 * hexd c + 15))) ∧ ∃ n, w' = w.drewN n := by
  have hb := hexd_bd c
  by_cases hh : 0 ≤ hexd c
  · have hd : decide (0 ≤ hexd c) = true := by simpa using hh
    have hb2 := hb.2
    have IH := isHex_v c true h0 h1 hd
    have HV := hexValue_any c h0 h1 hh
    have hb15 := or_hex (hexd c) 15 hh hb2 (by omega) (by omega)
    generalize hexd c = x at *
    go_enter Tryz.func292, Tryz.ntmps292
    go_wp2_with fail
    go_quiet (first | (go_at_call 219; exact Calls.quiet_of_same (IH _)) | (go_at_call 220; exact Calls.quiet_of_same (HV _)))
    go_wp2_with fail
    go_ret
    exact ⟨ret_bool (by simp [hd]), _, rfl⟩
  · have hd : decide (0 ≤ hexd c) = false := by simpa using hh
    have IH := isHex_v c false h0 h1 hd
    have H0 : Hid (¬ 0 ≤ hexd c) := hh
    clear hh hb
    go_enter Tryz.func292, Tryz.ntmps292
    go_wp2_with fail
    go_quiet ((go_at_call 219; exact Calls.quiet_of_same (IH _)))
    go_wp2_with fail
    go_ret
    exact ⟨by rw [hd]; rfl, _, rfl⟩

set_option maxRecDepth 100000 in
set_option maxHeartbeats 400000 in
theorem hp2_any (c l a : Int) (h0 : 0 ≤ c) (h1 : c ≤ 255) (ha0 : 0 ≤ a) (ha1 : a ≤ 15) (ab lb : Nat) (w : World) (hla : w.cell? ⟨ab, 0, none⟩ = some (.int .u8 a)) (hl : w.cell? ⟨lb, 0, none⟩ = some (.int .u8 l)) :
    Calls Tryz.prog 293 #[.int .u8 c, .pointer (some ⟨ab, 0, none⟩), .pointer (some ⟨lb, 0, none⟩)] w fun e w' => e = .returned (.bool (decide (0 ≤ hexd c) && decide (l ≤ 16 * a + hexd c))) ∧ ∃ n, w' = w.drewN n := by
  have hb := hexd_bd c
  by_cases hh : 0 ≤ hexd c
  · have hd : decide (0 ≤ hexd c) = true := by simpa using hh
    have hb2 := hb.2
    have IH := isHex_v c true h0 h1 hd
    have HV := hexValue_any c h0 h1 hh
    have hb15 := or_hex a (hexd c) ha0 ha1 hh hb2
    generalize hexd c = x at *
    go_enter Tryz.func293, Tryz.ntmps293
    go_wp2_with fail
    go_quiet (first | (go_at_call 219; exact Calls.quiet_of_same (IH _)) | (go_at_call 220; exact Calls.quiet_of_same (HV _)))
    go_wp2_with fail
    go_ret
    exact ⟨ret_bool (by simp [hd]), _, rfl⟩
  · have hd : decide (0 ≤ hexd c) = false := by simpa using hh
    have IH := isHex_v c false h0 h1 hd
    clear hh hb
    go_enter Tryz.func293, Tryz.ntmps293
    go_wp2_with fail
    go_quiet ((go_at_call 219; exact Calls.quiet_of_same (IH _)))
    go_wp2_with fail
    go_ret
    exact ⟨by rw [hd]; rfl, _, rfl⟩

set_option maxRecDepth 100000 in
/-- The bytes that may not stand bare in a set. -/
theorem inn_idx (c : Int) (h0 : 0 ≤ c) (h1 : c ≤ 255) : decide (Lib.indexByte (ByteArray.data ⟨#[91, 93, 45, 94]⟩).toList c.toNat.toUInt8 < 0) = !decide (c = 91 ∨ c = 93 ∨ c = 45 ∨ c = 94) := by
  obtain ⟨n, rfl⟩ : ∃ n : Nat, c = n := ⟨c.toNat, by omega⟩
  have hn : n < 256 := by omega
  have key : ∀ m : Fin 256, decide (Lib.indexByte (ByteArray.data ⟨#[91, 93, 45, 94]⟩).toList ((m.val : Int)).toNat.toUInt8 < 0) = !decide ((m.val : Int) = 91 ∨ (m.val : Int) = 93 ∨ (m.val : Int) = 45 ∨ (m.val : Int) = 94) := by decide
  exact key ⟨n, hn⟩
set_option maxRecDepth 100000 in
set_option maxHeartbeats 400000 in
theorem inn1_any (c l : Int) (h0 : 0 ≤ c) (h1 : c ≤ 255) (lb : Nat) (w : World) (hl : w.cell? ⟨lb, 0, none⟩ = some (.int .u8 l)) :
    Calls Tryz.prog 300 #[.int .u8 c, .pointer (some ⟨lb, 0, none⟩)] w fun e w' => e = .returned (.bool (!decide (c = 91 ∨ c = 93 ∨ c = 45 ∨ c = 94) && decide (l ≤ c))) ∧ w' = w := by
  have hi := inn_idx c h0 h1
  by_cases hn : Lib.indexByte (ByteArray.data ⟨#[91, 93, 45, 94]⟩).toList c.toNat.toUInt8 < 0
  · rw [decide_eq_true hn] at hi
    rw [← hi]
    clear hi
    generalize hgx : Lib.indexByte (ByteArray.data ⟨#[91, 93, 45, 94]⟩).toList c.toNat.toUInt8 = x at *
    go_enter Tryz.func300, Tryz.ntmps300
    go_wp2_with (go_at_call 246; refine (index_any _ c _).mono ?_; rintro e w' ⟨rfl, rfl⟩; rw [hgx])
    go_ret
    exact ⟨by simp, rfl⟩
  · rw [decide_eq_false hn] at hi
    rw [← hi]
    clear hi
    generalize hgx : Lib.indexByte (ByteArray.data ⟨#[91, 93, 45, 94]⟩).toList c.toNat.toUInt8 = x at *
    go_enter Tryz.func300, Tryz.ntmps300
    go_wp2_with (go_at_call 246; refine (index_any _ c _).mono ?_; rintro e w' ⟨rfl, rfl⟩; rw [hgx])
    go_ret
    exact ⟨by simp, rfl⟩
end Go.Proofs.YtnfojonmohijpaaGreatDoor
