/-
  DERIVED. Contracts of the program's reader of bytes (Peek, Ahead, Skip, Fail, Expect, End, isDigit, isAlnum). Conditions: the place is within the text, the text is at most 60 bytes long.
-/
import Derived.Test.YtnfojonmohijpaaGreatDoorJRA
import Derived.Lib.Bytealg
import Derived.Laws.StandIn
import Derived.Test.YtnfojonmohijpaaGreatDoorJSpec
import Derived.Lib.LastIndexByte
import Derived.Lib.Strings
set_option linter.unusedSimpArgs false
set_option linter.unusedVariables false
namespace Go.Proofs.YtnfojonmohijpaaGreatDoor
open Go.RowKit
structure QS where
 s : ByteArray
 ix : Nat
 op : Nat
 gr : Nat
def QS.cells (p : QS) : Array Value := #[.string p.s, .int .i64 p.ix, .int .i64 p.op, .int .i64 p.gr]
def QB (w : World) (b : Nat) (p : QS) : Prop := w.heap[b]? = some (.cells p.cells 201 (0, 0))
theorem QB.lt {w : World} {b : Nat} {p : QS} (h : QB w b p) : b < w.heap.size := (Array.getElem?_eq_some_iff.1 h).1
theorem QB.keep {w w' : World} {b : Nat} {p : QS} {S : List Nat} (h : QB w b p) (hk : Keeps S w w') (hb : b ∉ S) : QB w' b p := (hk.block b h.lt hb).trans h
theorem QB.drewN {w : World} {b : Nat} {p : QS} (h : QB w b p) (n : Nat) : QB (w.drewN n) b p := h
theorem QB.main {w : World} {b : Nat} {p : QS} (h : QB w b p) :
    w.cell? ⟨b, 0, none⟩ = some (.string p.s) ∧ w.cell? ⟨b, 1, none⟩ = some (.int .i64 p.ix) ∧ w.cell? ⟨b, 2, none⟩ = some (.int .i64 p.op) ∧ w.cell? ⟨b, 3, none⟩ = some (.int .i64 p.gr) ∧
    w.frozen? ⟨b, 1, none⟩ = false ∧ w.frozen? ⟨b, 2, none⟩ = false ∧ w.frozen? ⟨b, 3, none⟩ = false := by
 unfold QB at h
 simp [World.cell?, World.frozen?, h, QS.cells]
theorem QB.setIx {w : World} {b : Nat} {p : QS} (h : QB w b p) (x : Nat) : QB (w.setCell ⟨b, 1, none⟩ (.int .i64 x)) b { p with ix := x } := by
 unfold QB at *
 simp [World.setCell, Array.getElem?_modify, h, QS.cells]
theorem QB.setOp {w : World} {b : Nat} {p : QS} (h : QB w b p) (x : Nat) : QB (w.setCell ⟨b, 2, none⟩ (.int .i64 x)) b { p with op := x } := by
 unfold QB at *
 simp [World.setCell, Array.getElem?_modify, h, QS.cells]
theorem QB.setGr {w : World} {b : Nat} {p : QS} (h : QB w b p) (x : Nat) : QB (w.setCell ⟨b, 3, none⟩ (.int .i64 x)) b { p with gr := x } := by
 unfold QB at *
 simp [World.setCell, Array.getElem?_modify, h, QS.cells]
def QS.cur (p : QS) : Int := at' p.s p.ix
def fault (j : Nat) : Ending := .panicked [{ v := .iface 196 (.agg #[.int .i64 (j : Int)]), recovered := false }]
set_option maxHeartbeats 400000 in
theorem peek_some (b : Nat) (p : QS) (w : World) (hp : QB w b p) (hlt : p.ix < p.s.size) (hs : p.s.size ≤ 60) :
    Calls Tryz.prog 167 #[.pointer (some ⟨b, 0, none⟩)] w fun e w' => e = .returned (.tuple #[.int .u8 p.cur, .bool true]) ∧ QB w' b p ∧ Keeps [] w w' := by
 obtain ⟨c0, c1, _, _, f1, _, _⟩ := hp.main
 have hki : (p.ix : Int) < (p.s.size : Int) := by omega
 have hk0 : (0 : Int) ≤ (p.ix : Int) := by omega
 have hne : ((p.ix : Int) == (p.s.size : Int)) = false := by simpa using (by omega : ¬ (p.ix : Int) = (p.s.size : Int))
 have HC : Hid (p.cur = (p.s[p.ix].toNat : Int)) := at'_lt hlt
 go_enter Tryz.func167, Tryz.ntmps167
 go_wp2_with fail
 go_quiet (fail)
 go_wp2_with fail
 go_quiet (fail)
 go_wp2_with fail
 go_ret2
 exact ⟨by rw [HC.out]; rfl, (hp.drewN _).drewN _, ((Keeps.refl _ _).drewN _).drewN _⟩
set_option maxHeartbeats 400000 in
theorem peek_none (b : Nat) (p : QS) (w : World) (hp : QB w b p) (hge : p.ix = p.s.size) :
    Calls Tryz.prog 167 #[.pointer (some ⟨b, 0, none⟩)] w fun e w' => e = .returned (.tuple #[.int .u8 0, .bool false]) ∧ QB w' b p ∧ Keeps [] w w' := by
 obtain ⟨c0, c1, _, _, f1, _, _⟩ := hp.main
 have hne : ((p.ix : Int) == (p.s.size : Int)) = true := by simpa using (by omega : (p.ix : Int) = (p.s.size : Int))
 clear hge
 go_enter Tryz.func167, Tryz.ntmps167
 go_wp2_with fail
 go_quiet (fail)
 go_wp2_with fail
 go_ret2
 exact ⟨rfl, (hp.drewN _), (Keeps.refl _ _).drewN _⟩
set_option maxHeartbeats 400000 in
theorem ahead_any (b : Nat) (p : QS) (c : Int) (hc : 0 ≤ c) (w : World) (hp : QB w b p) (hle : p.ix ≤ p.s.size) (hs : p.s.size ≤ 60) :
    Calls Tryz.prog 165 #[.pointer (some ⟨b, 0, none⟩), .int .u8 c] w fun e w' => e = .returned (.bool (decide (p.cur = c))) ∧ QB w' b p ∧ Keeps [] w w' := by
 by_cases hlt : p.ix < p.s.size
 ·go_enter Tryz.func165, Tryz.ntmps165
  go_wp2_with (first | (go_at_call 167; refine (peek_some b p _ hp hlt hs).mono ?_; rintro e w1 ⟨rfl, hp1, hk1⟩))
  go_ret
  exact ⟨by simp [BEq.beq], hp1, hk1⟩
 ·have hge : p.ix = p.s.size := by omega
  have HC : Hid (p.cur = -1) := at'_ge (by omega)
  go_enter Tryz.func165, Tryz.ntmps165
  go_wp2_with (first | (go_at_call 167; refine (peek_none b p _ hp hge).mono ?_; rintro e w1 ⟨rfl, hp1, hk1⟩))
  go_ret
  exact ⟨by rw [HC.out]; simp; omega, hp1, hk1⟩
def QS.took (p : QS) (c : Int) : QS := if p.cur = c then { p with ix := p.ix + 1 } else p
set_option maxHeartbeats 400000 in
theorem skip_any (b : Nat) (p : QS) (c : Int) (hc : 0 ≤ c) (w : World) (hp : QB w b p) (hle : p.ix ≤ p.s.size) (hs : p.s.size ≤ 60) :
    Calls Tryz.prog 116 #[.pointer (some ⟨b, 0, none⟩), .int .u8 c] w fun e w' => e = .returned (.bool (decide (p.cur = c))) ∧ QB w' b (p.took c) ∧ Keeps [b] w w' := by
 by_cases h : p.cur = c
 ·have hd : decide (p.cur = c) = true := by simpa using h
  have H : Hid (p.cur = c) := h
  have hlt : p.ix < p.s.size := at'_nn (by show 0 ≤ p.cur; omega)
  have hb1 : (0 : Int) ≤ (p.ix : Int) := by omega
  have hb2 : (p.ix : Int) ≤ 60 := by omega
  clear h
  go_enter Tryz.func116, Tryz.ntmps116
  go_wp2_with (first | (go_at_call 165; refine (ahead_any b p c hc _ hp hle hs).mono ?_; rintro e w1 ⟨rfl, hp1, hk1⟩; obtain ⟨c0, c1, _, _, f1, _, _⟩ := hp1.main))
  go_ret
  exact ⟨by simp [hd], by simp only [QS.took, H.out, if_true]; exact hp1.setIx (p.ix + 1), (hk1.mono (by simp)).setCell (by simp) _⟩
 ·have hd : decide (p.cur = c) = false := by simpa using h
  have H : Hid (¬ p.cur = c) := h
  clear h
  go_enter Tryz.func116, Tryz.ntmps116
  go_wp2_with (first | (go_at_call 165; refine (ahead_any b p c hc _ hp hle hs).mono ?_; rintro e w1 ⟨rfl, hp1, hk1⟩))
  go_ret
  exact ⟨by simp [hd], by simp only [QS.took, H.out, if_false]; exact hp1, hk1.mono (by simp)⟩
set_option maxHeartbeats 400000 in
theorem pfail_any (b : Nat) (p : QS) (w : World) (hp : QB w b p) :
    Calls Tryz.prog 168 #[.pointer (some ⟨b, 0, none⟩)] w fun e w' => e = fault p.ix ∧ w' = w := by
 obtain ⟨c0, c1, _, _, f1, _, _⟩ := hp.main
 go_enter Tryz.func168, Tryz.ntmps168
 go_wp2_with fail
 exact ⟨rfl, rfl, rfl⟩
set_option maxHeartbeats 400000 in
theorem expect_ok (b : Nat) (p : QS) (c : Int) (hc : 0 ≤ c) (w : World) (hp : QB w b p) (hs : p.s.size ≤ 60) (h : p.cur = c) :
    Calls Tryz.prog 221 #[.pointer (some ⟨b, 0, none⟩), .int .u8 c] w fun e w' => e = .returned (.tuple #[]) ∧ QB w' b { p with ix := p.ix + 1 } ∧ Keeps [b] w w' := by
 have hlt : p.ix < p.s.size := at'_nn (by show 0 ≤ p.cur; omega)
 have hd : decide (p.cur = c) = true := by simpa using h
 have htk : p.took c = { p with ix := p.ix + 1 } := by unfold QS.took; rw [if_pos h]
 clear h
 go_enter Tryz.func221, Tryz.ntmps221
 go_wp2_with (first | (go_at_call 116; refine (skip_any b p c hc _ hp (Nat.le_of_lt hlt) hs).mono ?_; rintro e w1 ⟨rfl, hp1, hk1⟩; rw [htk] at hp1))
 go_end0
 exact ⟨rfl, hp1, hk1⟩
set_option maxHeartbeats 400000 in
theorem expect_bad (b : Nat) (p : QS) (c : Int) (hc : 0 ≤ c) (w : World) (hp : QB w b p) (hle : p.ix ≤ p.s.size) (hs : p.s.size ≤ 60) (h : p.cur ≠ c) :
    Calls Tryz.prog 221 #[.pointer (some ⟨b, 0, none⟩), .int .u8 c] w fun e w' => e = fault p.ix ∧ Keeps [b] w w' := by
 have hd : decide (p.cur = c) = false := by simpa using h
 have htk : p.took c = p := by unfold QS.took; rw [if_neg h]
 clear h
 go_enter Tryz.func221, Tryz.ntmps221
 go_wp2_with (first | (go_at_call 168; refine (pfail_any b p _ hp1).mono ?_; rintro e w2 ⟨rfl, rfl⟩; simp only [fault]) | (go_at_call 116; refine (skip_any b p c hc _ hp hle hs).mono ?_; rintro e w1 ⟨rfl, hp1, hk1⟩; rw [htk] at hp1))
 exact ⟨rfl, rfl, hk1⟩
set_option maxHeartbeats 400000 in
theorem end_ok (b : Nat) (p : QS) (w : World) (hp : QB w b p) (h : p.ix = p.s.size) :
    Calls Tryz.prog 118 #[.pointer (some ⟨b, 0, none⟩)] w fun e w' => e = .returned (.tuple #[]) ∧ QB w' b p ∧ Keeps [] w w' := by
 go_enter Tryz.func118, Tryz.ntmps118
 go_wp2_with (first | (go_at_call 167; refine (peek_none b p _ hp h).mono ?_; rintro e w1 ⟨rfl, hp1, hk1⟩))
 go_end0
 exact ⟨rfl, hp1, hk1⟩
set_option maxHeartbeats 400000 in
theorem end_bad (b : Nat) (p : QS) (w : World) (hp : QB w b p) (h : p.ix < p.s.size) (hs : p.s.size ≤ 60) :
    Calls Tryz.prog 118 #[.pointer (some ⟨b, 0, none⟩)] w fun e w' => e = fault p.ix ∧ Keeps [] w w' := by
 go_enter Tryz.func118, Tryz.ntmps118
 go_wp2_with (first | (go_at_call 167; refine (peek_some b p _ hp h hs).mono ?_; rintro e w1 ⟨rfl, hp1, hk1⟩) | (go_at_call 168; refine (pfail_any b p _ hp1).mono ?_; rintro e w2 ⟨rfl, rfl⟩; simp only [fault]))
 exact ⟨rfl, rfl, hk1⟩
set_option maxHeartbeats 400000 in
theorem isDigit_any (c : Int) (w : World) :
    Calls Tryz.prog 236 #[.int .u8 c] w fun e w' => e = .returned (.bool (digB c)) ∧ w' = w := by
 go_enter Tryz.func236, Tryz.ntmps236
 go_wp2
 all_goals go_ret
 all_goals exact ⟨by simp [digB]; omega, rfl⟩
def lwB (c : Int) : Bool := decide (97 ≤ c) && decide (c ≤ 122)
set_option maxHeartbeats 400000 in
theorem isLower_any (c : Int) (w : World) :
    Calls Tryz.prog 228 #[.int .u8 c] w fun e w' => e = .returned (.bool (lwB c)) ∧ w' = w := by
 go_enter Tryz.func228, Tryz.ntmps228
 go_wp2
 all_goals go_ret
 all_goals exact ⟨by simp [lwB]; omega, rfl⟩
set_option maxHeartbeats 400000 in
theorem isAlnum_any (c : Int) (w : World) :
    Calls Tryz.prog 253 #[.int .u8 c] w fun e w' => e = .returned (.bool (alnB c)) ∧ w' = w := by
 cases hd : digB c
 all_goals
  cases hl : lwB c
  all_goals
   have hl' := hl
   simp [lwB] at hl'
   go_enter Tryz.func253, Tryz.ntmps253
   go_wp2_with (first | (go_at_call 236; refine (isDigit_any c _).mono ?_; rintro e w' ⟨rfl, rfl⟩) | (go_at_call 228; refine (isLower_any c _).mono ?_; rintro e w' ⟨rfl, rfl⟩))
   all_goals go_ret
   all_goals exact ⟨ret_bool (by simp [alnB, hd] <;> omega), rfl⟩
def May (F : Nat) (caps : Array Value) (c : Int) (v : Bool) (w : World) : Prop :=
 (∀ args w1, (callFunc F args).run Tryz.prog w1 = .ok (.enter F args) w1) ∧ ∀ w1, Keeps [] w w1 → Calls Tryz.prog F (#[.int .u8 c] ++ caps) w1 fun e w2 => e = .returned (.bool v) ∧ Keeps [] w1 w2
set_option maxRecDepth 100000 in
set_option maxHeartbeats 400000 in
theorem take_ok (b : Nat) (p : QS) (F : Nat) (caps : Array Value) (w : World) (hp : QB w b p) (hs : p.s.size ≤ 60) (hlt : p.ix < p.s.size) (hm : May F caps p.cur true w) :
    Calls Tryz.prog 218 #[.pointer (some ⟨b, 0, none⟩), .func (.func F) #[] caps] w fun e w' => e = .returned (.int .u8 p.cur) ∧ QB w' b { p with ix := p.ix + 1 } ∧ Keeps [b] w w' := by
 have hb1 : (0 : Int) ≤ (p.ix : Int) := by omega
 have hb2 : (p.ix : Int) ≤ 60 := by omega
 obtain ⟨hcf, hcall⟩ := hm
 go_enter Tryz.func218, Tryz.ntmps218
 go_wp2_with (first | (go_at_call 167; refine (peek_some b p _ hp hlt hs).mono ?_; rintro e w1 ⟨rfl, hp1, hk1⟩))
 refine (hcall _ hk1).mono ?_
 rintro e w2 ⟨rfl, hk2⟩
 have hp2 := hp1.keep hk2 (by simp)
 obtain ⟨c0, c1, _, _, f1, _, _⟩ := hp2.main
 go_wp2_with fail
 go_ret
 exact ⟨rfl, hp2.setIx (p.ix + 1), ((hk1.trans hk2).mono (by simp)).setCell (by simp) _⟩
set_option maxRecDepth 100000 in
set_option maxHeartbeats 400000 in
theorem take_bad (b : Nat) (p : QS) (F : Nat) (caps : Array Value) (w : World) (hp : QB w b p) (hs : p.s.size ≤ 60) (hlt : p.ix < p.s.size) (hm : May F caps p.cur false w) :
    Calls Tryz.prog 218 #[.pointer (some ⟨b, 0, none⟩), .func (.func F) #[] caps] w fun e w' => e = fault p.ix ∧ Keeps [b] w w' := by
 obtain ⟨hcf, hcall⟩ := hm
 go_enter Tryz.func218, Tryz.ntmps218
 go_wp2_with (first | (go_at_call 167; refine (peek_some b p _ hp hlt hs).mono ?_; rintro e w1 ⟨rfl, hp1, hk1⟩))
 refine (hcall _ hk1).mono ?_
 rintro e w2 ⟨rfl, hk2⟩
 have hp2 := hp1.keep hk2 (by simp)
 go_wp2_with (first | (go_at_call 168; refine (pfail_any b p _ hp2).mono ?_; rintro e w3 ⟨rfl, rfl⟩; simp only [fault]))
 exact ⟨rfl, rfl, (hk1.trans hk2).mono (by simp)⟩
set_option maxRecDepth 100000 in
set_option maxHeartbeats 400000 in
theorem take_end (b : Nat) (p : QS) (fv : Value) (w : World) (hp : QB w b p) (hge : p.ix = p.s.size) :
    Calls Tryz.prog 218 #[.pointer (some ⟨b, 0, none⟩), fv] w fun e w' => e = fault p.ix ∧ Keeps [b] w w' := by
 go_enter Tryz.func218, Tryz.ntmps218
 go_wp2_with (first | (go_at_call 167; refine (peek_none b p _ hp hge).mono ?_; rintro e w1 ⟨rfl, hp1, hk1⟩) | (go_at_call 168; refine (pfail_any b p _ hp1).mono ?_; rintro e w3 ⟨rfl, rfl⟩; simp only [fault]))
 exact ⟨rfl, rfl, hk1.mono (by simp)⟩
end Go.Proofs.YtnfojonmohijpaaGreatDoor
namespace Go.Proofs.YtnfojonmohijpaaGreatDoor
open Go.RowKit
theorem idx_run (s : ByteArray) (c : Int) (w : World) : (callFunc 284 #[.string s, .int .u8 c]).run Tryz.prog w = .ok (.value (.int .i64 (Lib.indexByte s.data.toList c.toNat.toUInt8))) w := by
 rw [run_callFunc_indexByte Tryz.func284 (by kernel_rfl) (by kernel_rfl) (by kernel_rfl) (by kernel_rfl), Lib.run_indexByteString]
 rfl
set_option maxHeartbeats 400000 in
theorem lite_any (s : ByteArray) (c : Int) (w : World) :
    Calls Tryz.prog 266 #[.string s, .int .u8 c] w fun e w' => e = .returned (.int .i64 (Lib.indexByte s.data.toList c.toNat.toUInt8)) ∧ w' = w := by
 have hi := fun w => idx_run s c w
 go_enter Tryz.func266, Tryz.ntmps266
 go_wp2
 go_ret
 exact ⟨rfl, rfl⟩
set_option maxHeartbeats 400000 in
theorem index_any (s : ByteArray) (c : Int) (w : World) :
    Calls Tryz.prog 246 #[.string s, .int .u8 c] w fun e w' => e = .returned (.int .i64 (Lib.indexByte s.data.toList c.toNat.toUInt8)) ∧ w' = w := by
 go_enter Tryz.func246, Tryz.ntmps246
 go_wp2_with (go_at_call 266; refine (lite_any s c _).mono ?_; rintro e w' ⟨rfl, rfl⟩)
 go_ret
 exact ⟨rfl, rfl⟩
set_option maxRecDepth 100000 in
theorem hex_idx (c : Int) (h0 : 0 ≤ c) (h1 : c ≤ 255) : Lib.indexByte (ByteArray.data ⟨#[48, 49, 50, 51, 52, 53, 54, 55, 56, 57, 97, 98, 99, 100, 101, 102]⟩).toList c.toNat.toUInt8 = hexd c := by
 obtain ⟨n, rfl⟩ : ∃ n : Nat, c = n := ⟨c.toNat, by omega⟩
 have hn : n < 256 := by omega
 have key : ∀ m : Fin 256, Lib.indexByte (ByteArray.data ⟨#[48, 49, 50, 51, 52, 53, 54, 55, 56, 57, 97, 98, 99, 100, 101, 102]⟩).toList ((m.val : Int)).toNat.toUInt8 = hexd (m.val : Int) := by decide
 exact key ⟨n, hn⟩
set_option maxHeartbeats 400000 in
theorem isHex_any (c : Int) (h0 : 0 ≤ c) (h1 : c ≤ 255) (w : World) :
    Calls Tryz.prog 219 #[.int .u8 c] w fun e w' => e = .returned (.bool (decide (0 ≤ hexd c))) ∧ w' = w := by
 go_enter Tryz.func219, Tryz.ntmps219
 go_wp2_with (go_at_call 246; refine (index_any _ c _).mono ?_; rintro e w' ⟨rfl, rfl⟩; rw [hex_idx c h0 h1])
 go_ret
 exact ⟨rfl, rfl⟩
set_option maxHeartbeats 400000 in
theorem hexValue_any (c : Int) (h0 : 0 ≤ c) (h1 : c ≤ 255) (hh : 0 ≤ hexd c) (w : World) :
    Calls Tryz.prog 220 #[.int .u8 c] w fun e w' => e = .returned (.int .u8 (hexd c)) ∧ w' = w := by
 have hb := hexd_bd c
 have hb2 := hb.2
 go_enter Tryz.func220, Tryz.ntmps220
 go_wp2_with (go_at_call 246; refine (index_any _ c _).mono ?_; rintro e w' ⟨rfl, rfl⟩; rw [hex_idx c h0 h1])
 go_ret
 exact ⟨rfl, rfl⟩
theorem isHex_v (c : Int) (v : Bool) (h0 : 0 ≤ c) (h1 : c ≤ 255) (h : decide (0 ≤ hexd c) = v) (w : World) :
    Calls Tryz.prog 219 #[.int .u8 c] w fun e w' => e = .returned (.bool v) ∧ w' = w := by
 subst h; exact isHex_any c h0 h1 w
theorem or_hex (a b : Int) (ha0 : 0 ≤ a) (ha1 : a ≤ 15) (hb0 : 0 ≤ b) (hb1 : b ≤ 15) : bits .or .u8 (a * 16) b = 16 * a + b := by
 obtain ⟨x, rfl⟩ : ∃ x : Nat, a = x := ⟨a.toNat, by omega⟩
 obtain ⟨y, rfl⟩ : ∃ y : Nat, b = y := ⟨b.toNat, by omega⟩
 have key : ∀ (m n : Fin 16), bits .or .u8 ((m.val : Int) * 16) (n.val : Int) = 16 * (m.val : Int) + (n.val : Int) := by decide
 exact key ⟨x, by omega⟩ ⟨y, by omega⟩
set_option maxRecDepth 100000 in
set_option maxHeartbeats 400000 in
theorem esc1_any (c l : Int) (lb : Nat) (w : World) (hl : w.cell? ⟨lb, 0, none⟩ = some (.int .u8 l)) :
    Calls Tryz.prog 277 #[.int .u8 c, .pointer (some ⟨lb, 0, none⟩)] w fun e w' => e = .returned (.bool (!alnB c && decide (l ≤ c))) ∧ w' = w := by
 cases ha : alnB c
 all_goals
  go_enter Tryz.func277, Tryz.ntmps277
  go_wp2_with (go_at_call 253; refine (isAlnum_any c _).mono ?_; rintro e w' ⟨rfl, rfl⟩)
  all_goals go_ret
  all_goals exact ⟨by simp [ha], rfl⟩
set_option maxRecDepth 100000 in
set_option maxHeartbeats 400000 in
theorem hp1_any (c l : Int) (h0 : 0 ≤ c) (h1 : c ≤ 255) (lb : Nat) (w : World) (hl : w.cell? ⟨lb, 0, none⟩ = some (.int .u8 l)) :
    Calls Tryz.prog 292 #[.int .u8 c, .pointer (some ⟨lb, 0, none⟩)] w fun e w' => e = .returned (.bool (decide (0 ≤ hexd c) && decide (l ≤ 16 * hexd c + 15))) ∧ ∃ n, w' = w.drewN n := by
 have hb := hexd_bd c
 by_cases hh : 0 ≤ hexd c
 ·have hd : decide (0 ≤ hexd c) = true := by simpa using hh
  have hb2 := hb.2
  have IH := isHex_v c true h0 h1 hd
  have HV := hexValue_any c h0 h1 hh
  have hb15 := or_hex (hexd c) 15 hh hb2 (by omega) (by omega)
  generalize hexd c = x at *
  go_enter Tryz.func292, Tryz.ntmps292
  go_wp2_with fail
  go_quiet (first | (go_at_call 219; exact Calls.quiet_of_same (IH _)) | (go_at_call 220; exact Calls.quiet_of_same (HV _)))
  go_wp2_with fail
  go_ret
  exact ⟨ret_bool (by simp [hd]), _, rfl⟩
 ·have hd : decide (0 ≤ hexd c) = false := by simpa using hh
  have IH := isHex_v c false h0 h1 hd
  have H0 : Hid (¬ 0 ≤ hexd c) := hh
  clear hh hb
  go_enter Tryz.func292, Tryz.ntmps292
  go_wp2_with fail
  go_quiet ((go_at_call 219; exact Calls.quiet_of_same (IH _)))
  go_wp2_with fail
  go_ret
  exact ⟨by rw [hd]; rfl, _, rfl⟩
set_option maxRecDepth 100000 in
set_option maxHeartbeats 400000 in
theorem hp2_any (c l a : Int) (h0 : 0 ≤ c) (h1 : c ≤ 255) (ha0 : 0 ≤ a) (ha1 : a ≤ 15) (ab lb : Nat) (w : World) (hla : w.cell? ⟨ab, 0, none⟩ = some (.int .u8 a)) (hl : w.cell? ⟨lb, 0, none⟩ = some (.int .u8 l)) :
    Calls Tryz.prog 293 #[.int .u8 c, .pointer (some ⟨ab, 0, none⟩), .pointer (some ⟨lb, 0, none⟩)] w fun e w' => e = .returned (.bool (decide (0 ≤ hexd c) && decide (l ≤ 16 * a + hexd c))) ∧ ∃ n, w' = w.drewN n := by
 have hb := hexd_bd c
 by_cases hh : 0 ≤ hexd c
 ·have hd : decide (0 ≤ hexd c) = true := by simpa using hh
  have hb2 := hb.2
  have IH := isHex_v c true h0 h1 hd
  have HV := hexValue_any c h0 h1 hh
  have hb15 := or_hex a (hexd c) ha0 ha1 hh hb2
  generalize hexd c = x at *
  go_enter Tryz.func293, Tryz.ntmps293
  go_wp2_with fail
  go_quiet (first | (go_at_call 219; exact Calls.quiet_of_same (IH _)) | (go_at_call 220; exact Calls.quiet_of_same (HV _)))
  go_wp2_with fail
  go_ret
  exact ⟨ret_bool (by simp [hd]), _, rfl⟩
 ·have hd : decide (0 ≤ hexd c) = false := by simpa using hh
  have IH := isHex_v c false h0 h1 hd
  clear hh hb
  go_enter Tryz.func293, Tryz.ntmps293
  go_wp2_with fail
  go_quiet ((go_at_call 219; exact Calls.quiet_of_same (IH _)))
  go_wp2_with fail
  go_ret
  exact ⟨by rw [hd]; rfl, _, rfl⟩
set_option maxRecDepth 100000 in
theorem inn_idx (c : Int) (h0 : 0 ≤ c) (h1 : c ≤ 255) : decide (Lib.indexByte (ByteArray.data ⟨#[91, 93, 45, 94]⟩).toList c.toNat.toUInt8 < 0) = !decide (c = 91 ∨ c = 93 ∨ c = 45 ∨ c = 94) := by
 obtain ⟨n, rfl⟩ : ∃ n : Nat, c = n := ⟨c.toNat, by omega⟩
 have hn : n < 256 := by omega
 have key : ∀ m : Fin 256, decide (Lib.indexByte (ByteArray.data ⟨#[91, 93, 45, 94]⟩).toList ((m.val : Int)).toNat.toUInt8 < 0) = !decide ((m.val : Int) = 91 ∨ (m.val : Int) = 93 ∨ (m.val : Int) = 45 ∨ (m.val : Int) = 94) := by decide
 exact key ⟨n, hn⟩
set_option maxRecDepth 100000 in
set_option maxHeartbeats 400000 in
theorem inn1_any (c l : Int) (h0 : 0 ≤ c) (h1 : c ≤ 255) (lb : Nat) (w : World) (hl : w.cell? ⟨lb, 0, none⟩ = some (.int .u8 l)) :
    Calls Tryz.prog 300 #[.int .u8 c, .pointer (some ⟨lb, 0, none⟩)] w fun e w' => e = .returned (.bool (!decide (c = 91 ∨ c = 93 ∨ c = 45 ∨ c = 94) && decide (l ≤ c))) ∧ w' = w := by
 have hi := inn_idx c h0 h1
 by_cases hn : Lib.indexByte (ByteArray.data ⟨#[91, 93, 45, 94]⟩).toList c.toNat.toUInt8 < 0
 ·rw [decide_eq_true hn] at hi
  rw [← hi]
  clear hi
  generalize hgx : Lib.indexByte (ByteArray.data ⟨#[91, 93, 45, 94]⟩).toList c.toNat.toUInt8 = x at *
  go_enter Tryz.func300, Tryz.ntmps300
  go_wp2_with (go_at_call 246; refine (index_any _ c _).mono ?_; rintro e w' ⟨rfl, rfl⟩; rw [hgx])
  go_ret
  exact ⟨by simp, rfl⟩
 ·rw [decide_eq_false hn] at hi
  rw [← hi]
  clear hi
  generalize hgx : Lib.indexByte (ByteArray.data ⟨#[91, 93, 45, 94]⟩).toList c.toNat.toUInt8 = x at *
  go_enter Tryz.func300, Tryz.ntmps300
  go_wp2_with (go_at_call 246; refine (index_any _ c _).mono ?_; rintro e w' ⟨rfl, rfl⟩; rw [hgx])
  go_ret
  exact ⟨by simp, rfl⟩
end Go.Proofs.YtnfojonmohijpaaGreatDoor
namespace Go.Proofs.YtnfojonmohijpaaGreatDoor
open Go.RowKit
theorem toList_isEmpty (s : ByteArray) : s.toList.isEmpty = decide (s.size = 0) := by
 have h : s.toList.length = s.size := by rw [ByteArray.toList_eq s]; exact Array.length_toList
 cases hl : s.toList with
 | nil =>
  have h2 : s.size = 0 := by rw [hl] at h; exact h.symm
  simp [h2]
 | cons a l =>
  have h2 : ¬ s.size = 0 := by rw [hl] at h; rw [List.length_cons] at h; omega
  simp [h2]
set_option maxRecDepth 100000 in
set_option maxHeartbeats 2000000 in
theorem isName_any (s : ByteArray) (w : World) : Calls Tryz.prog 187 #[.string s] w fun e w' => ∃ b, e = .returned (.bool b) ∧ (b = true ↔ NameOk s) ∧ Keeps [] w w' := by
 by_cases h0 : s.size = 0
 ·have hE : s.toList.isEmpty = true := by rw [toList_isEmpty]; simp [h0]
  have HN : Hid (¬ NameOk s) := fun h => by have := h.1; omega
  clear h0
  go_enter Tryz.func187, Tryz.ntmps187
  go_wp2_with fail
  go_ret
  exact ⟨false, rfl, ⟨(nomatch ·), fun h => absurd h HN.out⟩, Keeps.refl _ _⟩
 have hE : s.toList.isEmpty = false := by rw [toList_isEmpty]; simp [h0]
 by_cases h8 : 8 < s.size
 ·have hd : decide ((8 : Int) < (s.size : Int)) = true := by simp; omega
  have hd' : (8 : Int) < (s.size : Int) := by omega
  have HN : Hid (¬ NameOk s) := fun h => by have := h.2.1; omega
  clear h0 h8
  go_enter Tryz.func187, Tryz.ntmps187
  go_wp2_with fail
  go_ret
  exact ⟨false, rfl, ⟨(nomatch ·), fun h => absurd h HN.out⟩, Keeps.refl _ _⟩
 have hd : decide ((8 : Int) < (s.size : Int)) = false := by simp; omega
 have hd' : ¬ (8 : Int) < (s.size : Int) := by omega
 have hd'' : (s.size : Int) ≤ 8 := by omega
 have H18 : Hid (1 ≤ s.size ∧ s.size ≤ 8) := ⟨by omega, by omega⟩
 clear h0 h8
 go_enter Tryz.func187, Tryz.ntmps187
 go_wp2_with fail
 go_loopw [3, 13] (fun _ q wr => ∃ k : Nat, k ≤ s.size ∧ q = .int .i64 k ∧ Hid (∀ i, i < k → 97 ≤ at' s i ∧ at' s i ≤ 122) ∧ Keeps [] w wr) (fun _ q _ => s.size - (intOf q).toNat)
 case atStart => exact ⟨0, Nat.zero_le _, rfl, fun i h => by omega, Keeps.refl _ _⟩
 case round =>
  obtain ⟨k, hk, rfl, HA, hK⟩ := hrel
  by_cases hlt : k < s.size
  ·have hk0 : (0 : Int) ≤ (k : Int) := by omega
   have hk1 : (k : Int) < (s.size : Int) := by omega
   have hat := at'_lt hlt
   have HK : Hid (k < s.size) := hlt
   cases hb : lwB ((s[k]'hlt).toNat : Int)
   ·have HN : Hid (¬ NameOk s) := fun h => by
       have := h.2.2 k hlt
       rw [hat] at this
       simp [lwB] at hb
       omega
    clear hk hat
    go_wp2_with ((go_at_call 228; refine (isLower_any _ _).mono ?_; rintro e w' ⟨rfl, rfl⟩; rw [hb]))
    go_ret
    exact ⟨false, rfl, ⟨(nomatch ·), fun h => absurd h HN.out⟩, hK⟩
   ·have HA2 : Hid (∀ i, i < k + 1 → 97 ≤ at' s i ∧ at' s i ≤ 122) := fun i hi => by
       by_cases e : i < k
       ·exact HA.out i e
       ·have : i = k := by omega
        subst this
        rw [hat]
        simp [lwB] at hb
        omega
    clear hk hat
    go_wp2_with ((go_at_call 228; refine (isLower_any _ _).mono ?_; rintro e w' ⟨rfl, rfl⟩; rw [hb]))
    exact ⟨⟨k + 1, HK.out, by go_num, HA2.out, hK⟩, by have := HK.out; simp [intOf]; omega⟩
  ·have he : k = s.size := by omega
   subst he
   have HY : Hid (NameOk s) := ⟨H18.out.1, H18.out.2, HA.out⟩
   clear hk hlt
   go_wp2_with fail
   go_ret
   exact ⟨true, rfl, ⟨fun _ => HY.out, fun _ => rfl⟩, hK⟩
set_option maxHeartbeats 1000000 in
set_option maxRecDepth 100000 in
theorem count_any (s : ByteArray) (c : UInt8) (w : World) :
    Calls Tryz.prog 192 #[.string s, .string ⟨#[c]⟩] w fun e w' => e = .returned (.int .i64 (Lib.countByte s.data.toList c)) ∧ w' = w := by
 go_enter Tryz.func192, Tryz.ntmps192
 go_wp2
 rw [run_callFunc_extern Tryz.func231 (by kernel_rfl) (by kernel_rfl) (by kernel_rfl) (e := Extern.BytealgCount.count) (by kernel_rfl), Lib.run_countString]
 simp only [Result.andThen]
 rw [Oper.upon_value]
 go_wp2
 go_ret
 exact ⟨rfl, rfl⟩
set_option maxHeartbeats 1000000 in
set_option maxRecDepth 100000 in
theorem lastS_any (s : ByteArray) (c : Int) (hs : s.size ≤ 100) (w : World) :
    Calls Tryz.prog 232 #[.string s, .int .u8 c] w fun e w' => e = .returned (.int .i64 (Lib.lastIdx s c s.size)) ∧ w' = w := by
 have hs' : (s.size : Int) ≤ 100 := by omega
 go_enter Tryz.func232, Tryz.ntmps232
 go_wp2_with fail
 go_loopw [5] (fun q wr => ∃ k : Nat, q = .int .i64 ((k : Int) - 1) ∧ k ≤ s.size ∧ Hid (Lib.lastIdx s c s.size = Lib.lastIdx s c k) ∧ wr = w) (fun q _ => (intOf q + 1).toNat)
 case atStart => exact ⟨s.size, rfl, Nat.le_refl _, rfl, rfl⟩
 case round =>
  obtain ⟨k, rfl, hk, HL, rfl⟩ := hrel
  cases k with
  | zero =>
   have HE : Hid (Lib.lastIdx s c s.size = -1) := HL.out
   have e00 : ((0 : Nat) : Int) - 1 = -1 := rfl
   rw [e00]
   clear HL e00
   go_wp2_with fail
   go_ret
   exact ⟨by rw [HE.out]; rfl, rfl⟩
  | succ k =>
   have hlt : k < s.size := by omega
   have e0 : ((k + 1 : Nat) : Int) - 1 = (k : Int) := by omega
   rw [e0]
   have hk0 : (0 : Int) ≤ (k : Int) := by omega
   have hk1 : (k : Int) < (s.size : Int) := by omega
   have hge : (s.data[k]!) = s[k]'hlt := getElem!_pos s.data k hlt
   have HK : Hid (k < s.size) := hlt
   by_cases hb : ((s[k]'hlt).toNat : Int) = c
   ·have HE : Hid (Lib.lastIdx s c s.size = (k : Int)) := HL.out.trans (Lib.lastIdx_hit s c k (by rw [hge]; exact hb))
    have hb' : (((s[k]'hlt).toNat : Int) == c) = true := by simpa using hb
    clear HL hge hk
    go_wp2_with fail
    go_ret
    exact ⟨by rw [HE.out]; rfl, rfl⟩
   ·have HE : Hid (Lib.lastIdx s c s.size = Lib.lastIdx s c k) := HL.out.trans (Lib.lastIdx_miss s c k (by rw [hge]; exact hb))
    have hb' : (((s[k]'hlt).toNat : Int) == c) = false := by simpa using hb
    clear HL hge hk
    go_wp2_with fail
    exact ⟨⟨k, by go_num, by have := HK.out; omega, HE.out, trivial⟩, by simp [intOf]⟩
set_option maxHeartbeats 1000000 in
set_option maxRecDepth 100000 in
theorem last_any (s : ByteArray) (c : Int) (hs : s.size ≤ 100) (w : World) :
    Calls Tryz.prog 193 #[.string s, .int .u8 c] w fun e w' => e = .returned (.int .i64 (Lib.lastIdx s c s.size)) ∧ w' = w := by
 go_enter Tryz.func193, Tryz.ntmps193
 go_wp2_with fail
 refine (lastS_any s c hs w).mono ?_
 rintro e w1 ⟨rfl, rfl⟩
 go_wp2_with fail
 go_ret
 exact ⟨rfl, rfl⟩
theorem ext_data (s : ByteArray) (i : Nat) : (s.extract 0 i).data.toList = s.data.toList.take i := by
 rw [ByteArray.data_extract]
 simp
theorem lastIdx_pre (s : ByteArray) (c : Int) {i : Nat} (hi : i ≤ s.size) : ∀ k, k ≤ i → Lib.lastIdx (s.extract 0 i) c k = Lib.lastIdx s c k
 | 0, _ => rfl
 | k + 1, hk => by
  have ih := lastIdx_pre s c hi k (by omega)
  have hz : (s.extract 0 i).size = i := by simp; omega
  have e : ((s.extract 0 i).data[k]!) = (s.data[k]!) := by
   have h1 : (s.extract 0 i).data.toList[k]? = s.data.toList[k]? := by rw [ext_data, List.getElem?_take_of_lt (by omega)]
   rw [Array.getElem?_toList, Array.getElem?_toList] at h1
   rw [getElem!_def, getElem!_def, h1]
  unfold Lib.lastIdx
  rw [e, ih]
theorem lnC_col (s : ByteArray) : ∀ i, i ≤ s.size → ((lnC s i).2 : Int) = (i : Int) - Lib.lastIdx s 10 i
 | 0, _ => rfl
 | i + 1, hi => by
  have ih := lnC_col s i (by omega)
  have hat := at'_lt (show i < s.size by omega)
  have hge : (s.data[i]!) = s[i]'(by omega) := getElem!_pos s.data i (by show i < s.size; omega)
  unfold lnC
  by_cases h : at' s i = 10
  ·rw [if_pos h, Lib.lastIdx_hit s 10 i (by rw [hge, ← hat]; exact h)]
   simp only
   omega
  ·rw [if_neg h, Lib.lastIdx_miss s 10 i (by rw [hge, ← hat]; exact h)]
   simp only
   omega
theorem lnC_line (s : ByteArray) : ∀ i, i ≤ s.size → (lnC s i).1 = Lib.countByte (s.data.toList.take i) 10 + 1
 | 0, _ => by simp [lnC, Lib.countByte]
 | i + 1, hi => by
  have ih := lnC_line s i (by omega)
  have hat := at'_lt (show i < s.size by omega)
  have h4 : s.data.toList[i]? = some (s[i]'(by omega)) := by rw [Array.getElem?_toList]; exact Array.getElem?_eq_getElem (by show i < s.size; omega)
  unfold lnC
  rw [List.take_add_one, h4]
  unfold Lib.countByte at ih ⊢
  rw [List.count_append]
  by_cases h : at' s i = 10
  ·rw [if_pos h]
   have : s[i]'(by omega) = 10 := by apply UInt8.toNat_inj.1; rw [hat] at h; have : (10 : UInt8).toNat = 10 := rfl; omega
   simp only [ih, this, Option.toList]
   simp
  ·rw [if_neg h]
   have : s[i]'(by omega) ≠ 10 := fun e => by rw [hat, e] at h; exact h rfl
   simp only [ih, Option.toList]
   rw [List.count_singleton]
   simp [this]
set_option maxHeartbeats 1000000 in
set_option maxRecDepth 100000 in
theorem position_any (s : ByteArray) (i : Nat) (hi : i ≤ s.size) (hs : s.size ≤ 100) (w : World) :
    Calls Tryz.prog 148 #[.string (s.extract 0 i)] w fun e w' => e = .returned (.tuple #[.int .i64 (lnC s i).1, .int .i64 (lnC s i).2]) ∧ w' = w := by
 have hz : (s.extract 0 i).size = i := by simp; omega
 have HC := lnC_col s i hi
 have HL := lnC_line s i hi
 have hp := lnC_pos s i
 have h1 := count_any (s.extract 0 i) 10
 have h2 := last_any (s.extract 0 i) 10 (by omega)
 rw [ext_data] at h1
 rw [hz, lastIdx_pre s 10 hi i (Nat.le_refl _)] at h2
 generalize Lib.countByte (s.data.toList.take i) 10 = m at h1 HL
 generalize Lib.lastIdx s 10 i = z at h2 HC
 generalize s.extract 0 i = S at *
 have b1 : (m : Int) ≤ 100 := by omega
 have b2 : z ≤ 100 := by omega
 have b3 : -1 ≤ z := by omega
 have b4 : (i : Int) ≤ 100 := by omega
 have HC2 : Hid (((lnC s i).2 : Int) = (i : Int) - z) := HC
 have HL2 : Hid (((lnC s i).1 : Int) = (m : Int) + 1) := (by rw [HL]; omega : ((lnC s i).1 : Int) = (m : Int) + 1)
 have hzi : (S.size : Int) = (i : Int) := by omega
 clear HC HL hp hz hi hs
 go_enter Tryz.func148, Tryz.ntmps148
 go_wp2_with (first | (go_at_call 193; refine (h2 _).mono ?_; rintro e w' ⟨rfl, rfl⟩) | (go_at_call 192; refine (h1 _).mono ?_; rintro e w' ⟨rfl, rfl⟩))
 go_ret2
 exact ⟨by rw [HC2.out, HL2.out]; rfl, rfl⟩
end Go.Proofs.YtnfojonmohijpaaGreatDoor
namespace Go.Proofs.YtnfojonmohijpaaGreatDoor
open Go.RowKit
def strOf : Value → ByteArray | .string s => s | _ => ByteArray.empty
def fit1 (word : List UInt8) (c : Int) (n : List UInt8) : Bool := decide (word.length < n.length) && decide (n.take word.length = word) && decide (((n.getD word.length 0).toNat : Int) = c)
def fitTo (word : List UInt8) (c : Int) (k : Nat) : Bool := (names.take k).any (fit1 word c)
theorem fitTo_succ (word : List UInt8) (c : Int) {k : Nat} (h : k < 7) : fitTo word c (k + 1) = (fitTo word c k || fit1 word c (nm k)) := by
 unfold fitTo
 rw [List.take_succ_eq_append_getElem (by rw [names_count]; exact h), nm_get h, List.any_append, List.any_cons, List.any_nil, Bool.or_false]
theorem fitTo_all (word : List UInt8) (c : Int) : fitTo word c 7 = goesOn word c := rfl
theorem fit1_none (word : List UInt8) (n : List UInt8) : fit1 word (-1) n = false := by
 unfold fit1
 have : ¬ (((n.getD word.length 0).toNat : Int) = -1) := by omega
 simp only [decide_eq_false this, Bool.and_false]
theorem goesOn_none (word : List UInt8) : goesOn word (-1) = false := by
 rw [← fitTo_all]
 unfold fitTo
 simp [fit1_none]
theorem eqX (a b : List UInt8) (n : Nat) : (((nmB a).extract 0 n).toList == (nmB b).toList) = decide (a.take n = b) := by
 rw [ByteArray.toList_eq, ByteArray.toList_eq, nmB_toList]
 have : ((nmB a).extract 0 n).data.toList = a.take n := by
  rw [Lib.extract_data]; simp [nmB]
 rw [this]
 by_cases h : a.take n = b
 ·subst h; simp
 ·simp [h]
def byteN (m n : Nat) : UInt8 := (nm m).getD n 0
theorem nmB_get (m n : Nat) (h : n < (nmB (nm m)).size) : (nmB (nm m))[n]'h = byteN m n := by
 have h' : n < (nm m).length := by rw [nmB_size] at h; exact h
 unfold byteN
 rw [List.getD_eq_getElem?_getD, List.getElem?_eq_getElem h', Option.getD_some]
 rfl
theorem get!_eq {s : ByteArray} {i : Nat} (h : i < s.size) : s.get! i = s[i] := by
 obtain ⟨a⟩ := s
 have h' : i < a.size := h
 show a[i]! = a[i]
 exact getElem!_pos a i h'
theorem nmB_snoc (word : List UInt8) (s : ByteArray) (i : Nat) (h : i < s.size) : nmB word ++ s.extract i (i + 1) = nmB (word ++ [s.get! i]) := by
 have hx : (s.extract i (i + 1)).data.toList = [s[i]] := by
  rw [Lib.extract_data, Nat.add_sub_cancel_left]
  have hl : i < s.data.toList.length := by simpa using h
  rw [List.drop_eq_getElem_cons hl, List.take_succ_cons, List.take_zero]
  rfl
 rw [get!_eq h]
 apply ByteArray.ext
 apply Array.ext'
 rw [ByteArray.data_append, Array.toList_append, hx]
 simp [nmB]
theorem goesOn_mem {word : List UInt8} {s : ByteArray} {i : Nat} (hg : goesOn word (at' s i) = true) (hw : word.length ≤ 4) (hi : i < s.size) : (word ++ [s.get! i]).length = 5 → word ++ [s.get! i] ∈ names := by
 intro h5
 have h4 : word.length = 4 := by simp at h5; omega
 unfold goesOn at hg
 simp only [List.any_eq_true, Bool.and_eq_true, decide_eq_true_eq] at hg
 obtain ⟨n, hn, ⟨hl, ht⟩, hc⟩ := hg
 have hl5 := names_len n hn
 rw [at'_lt hi] at hc
 have hc' : n.getD word.length 0 = s[i] := by
  apply UInt8.toNat_inj.1
  omega
 have : n = word ++ [s.get! i] := by
  rw [get!_eq hi, ← hc']
  rw [h4] at ht ⊢
  match n, hl5 with
  | [a, b, c, d, e], _ =>
   simp at ht
   rw [← ht]; rfl
 rw [← this]; exact hn
theorem class_end (p : PS) (i kk : Nat) (hb : p.bad < 0) (hcls : clsS p.s 6 [] (p.ix + 2) = .ok kk i) (hc : at' p.s (p.ix + 1) = 58) :
    (({ p with ix := i } : PS).needed 58).needed 93 = p.after (classS p.s p.ix) ∧ (∀ k j, classS p.s p.ix = .ok k j → k = kk) := by
 have e : classS p.s p.ix = (needS p.s 58 i).bind fun _ j => (needS p.s 93 j).bind fun _ j => .ok kk j := by
  unfold classS
  rw [show needS p.s 58 (p.ix + 1) = .ok () (p.ix + 2) from by simp [needS, hc]]
  simp only [R.bind, hcls]
 rw [e]
 by_cases h1 : at' p.s i = 58
 ·by_cases h2 : at' p.s (i + 1) = 93
  ·simp [needS, h1, h2, R.bind, PS.needed, PS.cur, hb, PS.after]
  ·simp [needS, h1, h2, R.bind, PS.needed, PS.cur, hb, PS.after, PS.failed]
 ·have : ¬ ((i : Int) < 0) := by omega
  simp [needS, h1, R.bind, PS.needed, PS.cur, hb, PS.after, PS.failed, this]
theorem cls_bad (p : PS) (i : Nat) (hcls : clsS p.s 6 [] (p.ix + 2) = .bad i) (hc : at' p.s (p.ix + 1) = 58) : classS p.s p.ix = .bad i := by
 unfold classS
 rw [show needS p.s 58 (p.ix + 1) = .ok () (p.ix + 2) from by simp [needS, hc]]
 simp only [R.bind, hcls]
set_option maxRecDepth 100000 in
set_option maxHeartbeats 2000000 in
theorem class_run (b h : Nat) (p : PS) (f : Nat → Bool) (w : World) (hp : PB w b p) (hh : HB w h f) (hb : p.bad < 0) (hs : p.s.size ≤ 60) (hk : p.ix < p.s.size)
    (hc : at' p.s (p.ix + 1) = 58) (hne : ¬ b = h) :
    Calls Tryz.prog 281 #[.pointer (some ⟨b, 0, none⟩), .slice (some ⟨h, 0, none⟩) 256 256] w fun e w' =>
     e = .returned (.tuple #[]) ∧ PB w' b (p.after (classS p.s p.ix)) ∧ (∃ f', HB w' h f' ∧ ∀ k j, classS p.s p.ix = .ok k j → ∀ n, n < 256 → f' n = (f n || clsB k n)) ∧ Keeps [b, h] w w' := by
 obtain ⟨c0, h6, h7, f6, f7⟩ := hp.main
 have hk0 : (0 : Int) ≤ (p.ix : Int) := by omega
 have hk6 : (p.ix : Int) ≤ 60 := by omega
 have hp0 := hp.setIx (p.ix + 1)
 have hlt : p.ix + 1 < p.s.size := at'_nn (by omega)
 have hnd : PS.needed { p with ix := p.ix + 1 } 58 = { p with ix := p.ix + 2 } := by simp [PS.needed, PS.cur, hb, hc]
 have NE := fun w1 h1 => need_any b { p with ix := p.ix + 1 } 58 w1 h1 (by omega) hs
 rw [hnd] at NE
 have HC : Hid (at' p.s (p.ix + 1) = 58) := hc
 clear hnd hc
 go_enter Tryz.func281, Tryz.ntmps281
 go_wp2_with (first | (go_at_call 227; refine (NE _ hp0).mono ?_; rintro e w1 ⟨rfl, hp1, hk1⟩))
 have hp2 : PB (w1.alloc (.cells ncells 9)) b { p with ix := p.ix + 2 } := hp1.keep ((Keeps.refl [] w1).alloc _) (by simp)
 have hkA : Keeps [b, h] w w1 := (((Keeps.refl [b] w).setCell (p := ⟨b, 7, none⟩) (by simp) _).trans hk1).mono (by simp)
 have hh1 : HB w1 h f := hh.keep (((Keeps.refl [b] w).setCell (p := ⟨b, 7, none⟩) (by simp) _).trans hk1) (by simp; omega)
 have hh2 : HB (w1.alloc (.cells ncells 9)) h f := hh1.keep ((Keeps.refl [] w1).alloc _) (by simp)
 have hg2 : NB (w1.alloc (.cells ncells 9)) w1.heap.size := heap_alloc_new w1 _
 have hbl := hp1.lt
 have hhl := hh1.lt
 generalize hgg : w1.heap.size = g at *
 have hk2 := hkA.alloc (.cells ncells 9)
 clear hp hh hp0 hp1 hh1 hk1 hkA c0 h6 h7 f6 f7 NE hgg
 go_loopw [5] (fun v wr => ∃ (word : List UInt8) (i : Nat), v = .string (nmB word) ∧ i ≤ p.s.size ∧ word.length ≤ 5 ∧ Hid (word.length = 5 → word ∈ names) ∧ Hid (clsS p.s 6 [] (p.ix + 2) = clsS p.s (6 - word.length) word i) ∧ PB wr b { p with ix := i } ∧ HB wr h f ∧ NB wr g ∧ Keeps [b, h] w wr) (fun v _ => 6 - (strOf v).size)
 case atStart => exact ⟨[], p.ix + 2, rfl, hlt, by simp, by intro h; simp at h, rfl, hp2, hh2, hg2, hk2⟩
 case round =>
  clear hp2 hh2 hg2 hk2
  obtain ⟨word, i, rfl, hi, hwl, hw5, hspec, hp3, hh3, hg3, hk3⟩ := hrel
  obtain ⟨c0, h6, h7, f6, f7⟩ := hp3.main
  go_wp2
  go_loop [6] (fun q => ∃ k : Nat, k ≤ 7 ∧ q = .int .i64 k ∧ Hid (∀ j, j < k → nm j ≠ word)) (fun q => 7 - (intOf q).toNat)
  case atStart => exact ⟨0, by omega, rfl, fun j hj => by omega⟩
  case round =>
   obtain ⟨k, hk7, rfl, hno⟩ := hrel
   by_cases hlt7 : k < 7
   ·have hcell := hg3.cell hlt7
    have hk7i : (k : Int) < 7 := by omega
    have hk7j : (0 : Int) ≤ (k : Int) := by omega
    by_cases heq : nm k = word
    ·have heqb : ((nmB (nm k)).toList == (nmB word).toList) = true := by rw [eqL]; simpa using heq
     have HE : Hid (nm k = word) := heq
     have HL : Hid (clsS p.s 6 [] (p.ix + 2) = .ok k i) := by
      show clsS p.s 6 [] (p.ix + 2) = _
      rw [hspec.out, ← heq, nm_len hlt7, show 6 - 5 = 1 from rfl, clsS, find_some hlt7 (by intro j hj; rw [heq]; exact hno.out j hj) rfl]
     clear heq
     go_wp2_with (first | (go_at_call 227; refine (need_any b _ 93 _ hp4 (by omega) (by rw [needed_s]; exact hs)).mono ?_; rintro e w5 ⟨rfl, hp5, hk5⟩) | (go_at_call 227; refine (need_any b _ 58 _ hp3 (by omega) hs).mono ?_; rintro e w4 ⟨rfl, hp4, hk4⟩))
     have hh5 : HB w5 h f := hh3.keep (hk4.trans hk5) (by simp; omega)
     have hk6 : Keeps [b, h] w w5 := hk3.trans ((hk4.trans hk5).mono (by simp))
     obtain ⟨E1, E2⟩ := class_end p i k hb HL.out HC.out
     have E3 : Hid (∀ k' j, classS p.s p.ix = .ok k' j → k' = k) := E2
     rw [E1] at hp5
     clear E1 E2 hp3 hh3 hg3 hk3 hp4 hk4 hk5 hcell c0 h6 h7 f6 f7 heqb
     subst HE
     go_loopw [7] (fun q wq => ∃ m : Nat, m ≤ 256 ∧ q = .int .i64 m ∧ PB wq b (p.after (classS p.s p.ix)) ∧ HB wq h (fun n => f n || (decide (n < m) && clsB k n)) ∧ Keeps [b, h] w wq) (fun q _ => 256 - (intOf q).toNat)
     case atStart => exact ⟨0, by omega, rfl, hp5, hh5.congr (by simp), hk6⟩
     case round =>
      clear hp5 hh5 hk6
      obtain ⟨m, hm, rfl, hp6, hh6, hk7'⟩ := hrel
      by_cases hm2 : m < 256
      ·have hcm := hh6.cell hm2
       have hfm := hh6.frozen m
       have hmi : (m : Int) < 256 := by omega
       have hmj : (0 : Int) ≤ (m : Int) := by omega
       have hcm' : wr.cell? ⟨h, m, none⟩ = some (.bool (f m)) := by rw [hcm]; simp
       clear hcm
       have fin : ∀ v : Bool, v = (f m || clsB k m) → HB (wr.setCell ⟨h, m, none⟩ (.bool v)) h (fun n => f n || (decide (n < m + 1) && clsB k n)) := by
        intro v hv
        refine (hh6.set m v).congr ?_
        intro n _
        by_cases e : n = m
        ·subst e; simp [hv]
        ·have : decide (n < m + 1) = decide (n < m) := by simp; omega
         simp [e, this]
       have FIN : Hid (∀ v : Bool, v = (f m || clsB k m) → HB (wr.setCell ⟨h, m, none⟩ (.bool v)) h (fun n => f n || (decide (n < m + 1) && clsB k n))) := fin
       clear fin
       cases hfv : f m
       all_goals
        go_wp2_with (go_at_call 296; refine (class_any k hlt7 m _).mono ?_; rintro e w' ⟨rfl, rfl⟩)
        go_roundw
        case rel => exact ⟨m + 1, by omega, by go_num, hp6.setOther (by simp; omega) _, FIN.out _ (by simp [hfv]), hk7'.setCell (by simp) _⟩
        case measure => simp [intOf]; omega
      ·have e : m = 256 := by omega
       subst e
       go_wp2_with fail
       refine bodyPost_ret (results_none rfl _ _ _) rfl ?_
       refine ⟨rfl, hp6, ⟨_, hh6, ?_⟩, hk7'⟩
       intro k' j hkj n hn
       rw [E3.out k' j hkj]
       simp [hn]
    ·have heqb : ((nmB (nm k)).toList == (nmB word).toList) = false := by rw [eqL]; simpa using heq
     have HE : Hid (∀ j, j < k + 1 → nm j ≠ word) := by
      intro j hj
      by_cases e : j = k
      ·subst e; exact heq
      ·exact hno.out j (by omega)
     clear heq
     go_wp2_with fail
     go_round
     case rel => exact ⟨k + 1, by omega, by go_num, HE⟩
     case measure => simp [intOf]; omega
   ·have e7 : k = 7 := by omega
    subst e7
    have hwl4 : word.length ≤ 4 := by
     by_cases h5 : word.length = 5
     ·obtain ⟨j, hj, e⟩ := List.mem_iff_getElem.1 (hw5.out h5)
      exact absurd ((nm_get hj).trans e) (hno.out j hj)
     ·omega
    have HN : Hid (clsS p.s 6 [] (p.ix + 2) = if goesOn word (at' p.s i) then clsS p.s (5 - word.length) (word ++ [p.s.get! i]) (i + 1) else .bad i) := by
     show clsS p.s 6 [] (p.ix + 2) = _
     rw [hspec.out, show 6 - word.length = (5 - word.length) + 1 from by omega, clsS, find_none hno.out]
    clear hspec hw5 hno
    cases hm : moreB { p with ix := i }
    ·have hge := moreB_false_good hm hb
     have hge' : p.s.size ≤ i := hge
     have HB' : Hid (classS p.s p.ix = .bad i) := cls_bad p i (by rw [HN.out, at'_ge hge', goesOn_none]; rfl) HC.out
     clear hge hge' HN
     go_wp2_with (first | (go_at_call 83; refine (more_any b _ _ hp3).mono ?_; rintro e w' ⟨rfl, n, rfl⟩))
     go_loop [9, 11] (fun u q => u = .bool false ∧ q = .int .i64 0) (fun _ _ => 0)
     case atStart => exact ⟨rfl, rfl⟩
     case round =>
      obtain ⟨rfl, rfl⟩ := hrel
      go_wp2_with (first | (go_at_call 84; refine (fail_good b { p with ix := i } _ (hp3.drewN n) hb).mono ?_; rintro e w' ⟨rfl, rfl⟩))
      refine bodyPost_ret (results_none rfl _ _ _) rfl ?_
      refine ⟨rfl, by rw [HB'.out]; exact (hp3.drewN n).setBad _, ⟨f, (hh3.drewN n).setOther (by simp; omega) _, ?_⟩, (hk3.drewN n).setCell (by simp) _⟩
      intro k j hkj
      rw [HB'.out] at hkj
      cases hkj
    ·have hlt' : i < p.s.size := (PS.cur_more hm).1
     go_wp2_with (first | (go_at_call 83; refine (more_any b _ _ hp3).mono ?_; rintro e w' ⟨rfl, n, rfl⟩))
     have ec := at'_lt hlt'
     have hii : (i : Int) < (p.s.size : Int) := by omega
     have hij : (0 : Int) ≤ (i : Int) := by omega
     have hik : (i : Int) ≤ 60 := by omega
     have hwi : (word.length : Int) ≤ 4 := by omega
     have hwj : (0 : Int) ≤ (word.length : Int) := by omega
     have hwk : (word.length : Int) < 5 := by omega
     have hsz2 := nmB_size word
     go_loopw [9, 11] (fun u q wq => ∃ m nn : Nat, m ≤ 7 ∧ q = .int .i64 m ∧ u = .bool (fitTo word (at' p.s i) m) ∧ wq = wr.drewN nn) (fun _ q _ => 7 - (intOf q).toNat)
     case atStart => exact ⟨0, n, by omega, rfl, rfl, rfl⟩
     case round =>
      obtain ⟨m, nn, hm7, rfl, rfl, rfl⟩ := hrel
      by_cases hlm : m < 7
      ·have hcm := hg3.cell hlm
       have hsz1 : (nmB (nm m)).size = 5 := by rw [nmB_size, nm_len hlm]
       have hmi : (m : Int) < 7 := by omega
       have hmj : (0 : Int) ≤ (m : Int) := by omega
       have hlw : word.length < (nm m).length := by rw [nm_len hlm]; omega
       have hng : ∀ hx, (nmB (nm m))[word.length]'hx = byteN m word.length := fun hx => nmB_get _ _ hx
       by_cases hpre : (nm m).take word.length = word
       ·have hpb : (((nmB (nm m)).extract 0 word.length).toList == (nmB word).toList) = true := by rw [eqX]; simpa using hpre
        by_cases hce : ((byteN m word.length).toNat : Int) = (p.s[i].toNat : Int)
        ·have hcb : (((byteN m word.length).toNat : Int) == (p.s[i].toNat : Int)) = true := by simpa using hce
         have HF : Hid (fitTo word (at' p.s i) (m + 1) = true) := by
          show fitTo word (at' p.s i) (m + 1) = true
          rw [fitTo_succ word _ hlm, ec]
          have : fit1 word (p.s[i].toNat : Int) (nm m) = true := by
           unfold fit1
           rw [decide_eq_true hlw, decide_eq_true hpre, decide_eq_true (show (((nm m).getD word.length 0).toNat : Int) = _ from hce)]; rfl
          rw [this]; simp
         clear hce hpre
         go_wp2_with fail
         go_quiet (fail)
         go_wp2_with fail
         go_roundw
         case rel => exact ⟨m + 1, _, by omega, by go_num, by rw [HF.out], rfl⟩
         case measure => simp [intOf]; omega
        ·have hcb : (((byteN m word.length).toNat : Int) == (p.s[i].toNat : Int)) = false := by simpa using hce
         have HF : Hid (fitTo word (at' p.s i) (m + 1) = fitTo word (at' p.s i) m) := by
          show fitTo word (at' p.s i) (m + 1) = fitTo word (at' p.s i) m
          rw [fitTo_succ word _ hlm, ec]
          have : fit1 word (p.s[i].toNat : Int) (nm m) = false := by
           unfold fit1
           rw [decide_eq_false (show ¬ (((nm m).getD word.length 0).toNat : Int) = _ from hce)]; simp
          rw [this]; simp
         clear hce hpre
         go_wp2_with fail
         go_quiet (fail)
         go_wp2_with fail
         go_roundw
         case rel => exact ⟨m + 1, _, by omega, by go_num, by rw [HF.out], rfl⟩
         case measure => simp [intOf]; omega
       ·have hpb : (((nmB (nm m)).extract 0 word.length).toList == (nmB word).toList) = false := by rw [eqX]; simpa using hpre
        have HF : Hid (fitTo word (at' p.s i) (m + 1) = fitTo word (at' p.s i) m) := by
         show fitTo word (at' p.s i) (m + 1) = fitTo word (at' p.s i) m
         rw [fitTo_succ word _ hlm]
         have : fit1 word (at' p.s i) (nm m) = false := by
          unfold fit1
          rw [decide_eq_false hpre]; simp
         rw [this]; simp
        clear hpre
        go_wp2_with fail
        go_quiet (fail)
        go_wp2_with fail
        go_roundw
        case rel => exact ⟨m + 1, _, by omega, by go_num, by rw [HF.out], rfl⟩
        case measure => simp [intOf]; omega
      ·have e7 : m = 7 := by omega
       subst e7
       rw [fitTo_all]
       cases hgo : goesOn word (at' p.s i)
       ·have HB' : Hid (classS p.s p.ix = .bad i) := cls_bad p i (by rw [HN.out, hgo]; rfl) HC.out
        clear hgo HN
        go_wp2_with (first | (go_at_call 84; refine (fail_good b { p with ix := i } _ (hp3.drewN nn) hb).mono ?_; rintro e w' ⟨rfl, rfl⟩))
        refine bodyPost_ret (results_none rfl _ _ _) rfl ?_
        refine ⟨rfl, by rw [HB'.out]; exact (hp3.drewN nn).setBad _, ⟨f, (hh3.drewN nn).setOther (by simp; omega) _, ?_⟩, (hk3.drewN nn).setCell (by simp) _⟩
        intro k j hkj
        rw [HB'.out] at hkj
        cases hkj
       ·have HW := goesOn_mem hgo (by omega) hlt'
        have HS : Hid (clsS p.s 6 [] (p.ix + 2) = clsS p.s (6 - (word ++ [p.s.get! i]).length) (word ++ [p.s.get! i]) (i + 1)) := by
         show clsS p.s 6 [] (p.ix + 2) = _
         rw [HN.out, hgo, if_pos rfl, List.length_append, List.length_singleton]
         congr 1; omega
        have HA : Hid (nmB word ++ p.s.extract i (i + 1) = nmB (word ++ [p.s.get! i])) := nmB_snoc word p.s i hlt'
        have HW' : Hid ((word ++ [p.s.get! i]).length = 5 → word ++ [p.s.get! i] ∈ names) := HW
        clear hgo HN HW
        go_wp2_with fail
        go_quiet (fail)
        go_wp2_with fail
        go_roundw
        case rel => exact ⟨word ++ [p.s.get! i], i + 1, by rw [← HA.out], by omega, by simp; omega, HW', HS, (hp3.drewN _).setIx (i + 1), (hh3.drewN _).setOther (by simp; omega) _, (hg3.drewN _).setOther (by simp; omega) _, (hk3.drewN _).setCell (by simp) _⟩
        case measure => simp only [strOf]; rw [HA.out, nmB_size, nmB_size, List.length_append]; simp; omega
end Go.Proofs.YtnfojonmohijpaaGreatDoor
namespace Go.Proofs.YtnfojonmohijpaaGreatDoor
open Go.RowKit
set_option maxRecDepth 100000 in
set_option maxHeartbeats 1000000 in
theorem class_all (b h : Nat) (p : PS) (f : Nat → Bool) (w : World) (hp : PB w b p) (hh : HB w h f) (hb : p.bad < 0) (hs : p.s.size ≤ 60) (hk : p.ix < p.s.size)
    (hne : ¬ b = h) :
    Calls Tryz.prog 281 #[.pointer (some ⟨b, 0, none⟩), .slice (some ⟨h, 0, none⟩) 256 256] w fun e w' =>
     e = .returned (.tuple #[]) ∧ PB w' b (p.after (classS p.s p.ix)) ∧ (∃ f', HB w' h f' ∧ ∀ k j, classS p.s p.ix = .ok k j → ∀ n, n < 256 → f' n = (f n || clsB k n)) ∧ Keeps [b, h] w w' := by
 by_cases hc : at' p.s (p.ix + 1) = 58
 ·exact class_run b h p f w hp hh hb hs hk hc hne
 ·obtain ⟨c0, h6, h7, f6, f7⟩ := hp.main
  have hk0 : (0 : Int) ≤ (p.ix : Int) := by omega
  have hk6 : (p.ix : Int) ≤ 60 := by omega
  have hp0 := hp.setIx (p.ix + 1)
  have hnd : PS.needed { p with ix := p.ix + 1 } 58 = { p with bad := ((p.ix + 1 : Nat) : Int), ix := p.ix + 1 } := by simp [PS.needed, PS.failed, PS.cur, hb, hc]
  have NE := fun w1 h1 => need_any b { p with ix := p.ix + 1 } 58 w1 h1 (by omega) hs
  rw [hnd] at NE
  have HB' : Hid (classS p.s p.ix = .bad (p.ix + 1)) := by
   show classS p.s p.ix = _
   unfold classS
   rw [show needS p.s 58 (p.ix + 1) = .bad (p.ix + 1) from by simp [needS, hc]]
   rfl
  clear hnd hc
  go_enter Tryz.func281, Tryz.ntmps281
  go_wp2_with (first | (go_at_call 227; refine (NE _ hp0).mono ?_; rintro e w1 ⟨rfl, hp1, hk1⟩))
  have hp2 : PB (w1.alloc (.cells ncells 9)) b { p with bad := ((p.ix + 1 : Nat) : Int), ix := p.ix + 1 } := hp1.keep ((Keeps.refl [] w1).alloc _) (by simp)
  have hkA := ((Keeps.refl [b] w).setCell (p := ⟨b, 7, none⟩) (by simp) _).trans hk1
  have hkB : Keeps [b, h] w w1 := hkA.mono (by simp)
  have hh1 : HB w1 h f := hh.keep hkA (by simp; omega)
  have hh2 : HB (w1.alloc (.cells ncells 9)) h f := hh1.keep ((Keeps.refl [] w1).alloc _) (by simp)
  have hk2 := hkB.alloc (.cells ncells 9)
  clear hp hh hp0 hp1 hh1 hk1 hkA hkB c0 h6 h7 f6 f7 NE
  go_loopw [5] (fun _ wr => PB wr b { p with bad := ((p.ix + 1 : Nat) : Int), ix := p.ix + 1 } ∧ HB wr h f ∧ Keeps [b, h] w wr) (fun _ _ => 0)
  case atStart => exact ⟨hp2, hh2, hk2⟩
  case round =>
   clear hp2 hh2 hk2
   obtain ⟨hp2, hh2, hk2⟩ := hrel
   obtain ⟨d0, d6, d7, _, _⟩ := hp2.main
   have hnn : ¬ ((p.ix + 1 : Nat) : Int) < 0 := by omega
   go_wp2_with fail
   go_end0
   refine ⟨rfl, by rw [HB'.out]; exact hp2, ⟨f, hh2, ?_⟩, hk2⟩
   intro k j hkj
   rw [HB'.out] at hkj
   cases hkj
end Go.Proofs.YtnfojonmohijpaaGreatDoor
