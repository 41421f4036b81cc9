/-
  DERIVED. A set's 256 cells in memory; plain facts on names of classes. Nothing is assumed.
-/
import Derived.Test.YtnfojonmohijpaaGreatDoorJSB
import Derived.Lib.Bytealg
import Derived.Laws.StandIn
set_option linter.unusedSimpArgs false
set_option linter.unusedVariables false
namespace Go.Proofs.YtnfojonmohijpaaGreatDoor
open Go.RowKit
def hcells (f : Nat → Bool) : Array Value := Array.ofFn (n := 256) fun k => Value.bool (f k.val)
theorem hcells_size (f : Nat → Bool) : (hcells f).size = 256 := by simp [hcells]
theorem hcells_get (f : Nat → Bool) {k : Nat} (h : k < 256) : (hcells f)[k]? = some (.bool (f k)) := by simp [hcells, h]
theorem hcells_set (f : Nat → Bool) (k : Nat) (v : Bool) : (hcells f).setIfInBounds k (.bool v) = hcells (fun n => if n = k then v else f n) := by
 apply Array.ext_getElem?
 intro i
 rw [Array.getElem?_setIfInBounds]
 by_cases hi : i < 256
 ·rw [hcells_get _ hi, hcells_get _ hi]
  by_cases hk : k = i
  ·subst hk; simp [hcells_size, hi]
  ·simp [hk, Ne.symm hk]
 ·have e1 : (hcells fun n => if n = k then v else f n)[i]? = none := Array.getElem?_eq_none (by rw [hcells_size]; omega)
  have e2 : (hcells f)[i]? = none := Array.getElem?_eq_none (by rw [hcells_size]; omega)
  rw [e1, e2]
  by_cases hk : k = i
  ·rw [if_pos hk, if_neg (by rw [hcells_size]; omega)]
  ·rw [if_neg hk]
def HB (w : World) (h : Nat) (f : Nat → Bool) : Prop := w.heap[h]? = some (.cells (hcells f) 4 (0, 0))
theorem HB.lt {w : World} {h : Nat} {f : Nat → Bool} (H : HB w h f) : h < w.heap.size := (Array.getElem?_eq_some_iff.1 H).1
theorem HB.keep {w w' : World} {h : Nat} {f : Nat → Bool} {S : List Nat} (H : HB w h f) (hk : Keeps S w w') (hb : h ∉ S) : HB w' h f := (hk.block h H.lt hb).trans H
theorem HB.cell {w : World} {h : Nat} {f : Nat → Bool} (H : HB w h f) {k : Nat} (hk : k < 256) : w.cell? ⟨h, k, none⟩ = some (.bool (f k)) := by
 unfold HB at H
 simp [World.cell?, H, hcells_get f hk]
theorem HB.frozen {w : World} {h : Nat} {f : Nat → Bool} (H : HB w h f) (k : Nat) : w.frozen? ⟨h, k, none⟩ = false := by
 unfold HB at H
 simp [World.frozen?, H]
theorem HB.set {w : World} {h : Nat} {f : Nat → Bool} (H : HB w h f) (k : Nat) (v : Bool) : HB (w.setCell ⟨h, k, none⟩ (.bool v)) h (fun n => if n = k then v else f n) := by
 unfold HB at *
 simp [World.setCell, Array.getElem?_modify, H, hcells_set]
theorem HB.congr {w : World} {h : Nat} {f g : Nat → Bool} (H : HB w h f) (e : ∀ n, n < 256 → f n = g n) : HB w h g := by
 unfold HB at *
 rw [H]
 have : hcells f = hcells g := by
  apply Array.ext_getElem?
  intro i
  by_cases hi : i < 256
  ·rw [hcells_get _ hi, hcells_get _ hi, e i hi]
  ·rw [Array.getElem?_eq_none (by rw [hcells_size]; omega), Array.getElem?_eq_none (by rw [hcells_size]; omega)]
 rw [this]
theorem PB.setOther {w : World} {b : Nat} {p : PS} (h : PB w b p) {a : Addr} (ha : a.block ≠ b) (v : Value) : PB (w.setCell a v) b p := by
 unfold PB at *
 rw [Below.heap_setCell _ _ _ _ (Ne.symm ha)]; exact h
theorem HB.setOther {w : World} {h : Nat} {f : Nat → Bool} (H : HB w h f) {a : Addr} (ha : a.block ≠ h) (v : Value) : HB (w.setCell a v) h f := by
 unfold HB at *
 rw [Below.heap_setCell _ _ _ _ (Ne.symm ha)]; exact H
def nm (k : Nat) : List UInt8 := names.getD k []
theorem names_len : ∀ n ∈ names, n.length = 5 := by decide
theorem names_count : names.length = 7 := rfl
theorem class_any (k : Nat) (hk : k < 7) (c : Int) (w : World) :
    Calls Tryz.prog 296 #[.string (nmB (nm k)), .int .u8 c] w fun e w' => e = .returned (.bool (clsB k c)) ∧ w' = w := by
 match k, hk with
 | 0, _ => exact class_0 c w
 | 1, _ => exact class_1 c w
 | 2, _ => exact class_2 c w
 | 3, _ => exact class_3 c w
 | 4, _ => exact class_4 c w
 | 5, _ => exact class_5 c w
 | 6, _ => exact class_6 c w
def ncells : Array Value := #[.string (nmB [100, 105, 103, 105, 116]), .string (nmB [108, 111, 119, 101, 114]), .string (nmB [117, 112, 112, 101, 114]), .string (nmB [97, 108, 112, 104, 97]), .string (nmB [97, 108, 110, 117, 109]), .string (nmB [115, 112, 97, 99, 101]), .string (nmB [112, 117, 110, 99, 116])]
def NB (w : World) (g : Nat) : Prop := w.heap[g]? = some (.cells ncells 9 (0, 0))
theorem NB.cell {w : World} {g : Nat} (H : NB w g) {k : Nat} (hk : k < 7) : w.cell? ⟨g, k, none⟩ = some (.string (nmB (nm k))) := by
 unfold NB at H
 match k, hk with
 | 0, _ => simp [World.cell?, H]; rfl
 | 1, _ => simp [World.cell?, H]; rfl
 | 2, _ => simp [World.cell?, H]; rfl
 | 3, _ => simp [World.cell?, H]; rfl
 | 4, _ => simp [World.cell?, H]; rfl
 | 5, _ => simp [World.cell?, H]; rfl
 | 6, _ => simp [World.cell?, H]; rfl
theorem NB.drewN {w : World} {g : Nat} (H : NB w g) (n : Nat) : NB (w.drewN n) g := H
theorem HB.drewN {w : World} {h : Nat} {f : Nat → Bool} (H : HB w h f) (n : Nat) : HB (w.drewN n) h f := H
theorem NB.setOther {w : World} {g : Nat} (H : NB w g) {a : Addr} (ha : a.block ≠ g) (v : Value) : NB (w.setCell a v) g := by
 unfold NB at *
 rw [Below.heap_setCell _ _ _ _ (Ne.symm ha)]; exact H
theorem Keeps.mono {S S' : List Nat} {a w : World} (h : Keeps S a w) (hs : ∀ x, x ∈ S → x ∈ S') : Keeps S' a w :=
 ⟨h.os, h.tape, h.output, h.size, fun k hk hn => h.block k hk fun hx => hn (hs k hx)⟩
theorem nmB_toList (l : List UInt8) : (nmB l).data.toList = l := by simp [nmB]
theorem nmB_size (l : List UInt8) : (nmB l).size = l.length := by simp [nmB, ByteArray.size]
theorem nm_get {j : Nat} (hj : j < 7) : nm j = names[j]'(by rw [names_count]; exact hj) := by
 unfold nm
 rw [List.getD_eq_getElem?_getD, List.getElem?_eq_getElem (by rw [names_count]; exact hj)]; rfl
theorem nm_len {j : Nat} (hj : j < 7) : (nm j).length = 5 := by rw [nm_get hj]; exact names_len _ (List.getElem_mem _)
theorem nm_mem {j : Nat} (hj : j < 7) : nm j ∈ names := by rw [nm_get hj]; exact List.getElem_mem _
theorem find_none {word : List UInt8} (h : ∀ j, j < 7 → nm j ≠ word) : names.findIdx? (· = word) = none := by
 rw [List.findIdx?_eq_none_iff]
 intro x hx
 obtain ⟨j, hj, rfl⟩ := List.mem_iff_getElem.1 hx
 have := h j hj
 rw [nm_get hj] at this
 simpa using this
theorem find_some {word : List UInt8} {k : Nat} (hk : k < 7) (h : ∀ j, j < k → nm j ≠ word) (e : nm k = word) : names.findIdx? (· = word) = some k := by
 rw [List.findIdx?_eq_some_iff_getElem]
 refine ⟨hk, ?_, ?_⟩
 ·have e' := (nm_get hk).symm.trans e
  exact decide_eq_true e'
 ·intro j hj
  have := h j hj
  rw [nm_get (by omega)] at this
  simpa using this
theorem needed_s (p : PS) (c : Int) : (p.needed c).s = p.s := by unfold PS.needed PS.failed; split <;> (try split) <;> rfl
theorem eqL (a b : List UInt8) : ((nmB a).toList == (nmB b).toList) = decide (a = b) := by
 rw [ByteArray.toList_eq, ByteArray.toList_eq, nmB_toList, nmB_toList]
 by_cases h : a = b
 ·subst h; simp
 ·simp [h]
end Go.Proofs.YtnfojonmohijpaaGreatDoor
namespace Go.Proofs.YtnfojonmohijpaaGreatDoor
open Go.RowKit
structure QS where
 s : ByteArray
 ix : Nat
 op : Nat
 gr : Nat
def QS.cells (p : QS) : Array Value := #[.string p.s, .int .i64 p.ix, .int .i64 p.op, .int .i64 p.gr]
def QB (w : World) (b : Nat) (p : QS) : Prop := w.heap[b]? = some (.cells p.cells 201 (0, 0))
theorem QB.lt {w : World} {b : Nat} {p : QS} (h : QB w b p) : b < w.heap.size := (Array.getElem?_eq_some_iff.1 h).1
theorem QB.keep {w w' : World} {b : Nat} {p : QS} {S : List Nat} (h : QB w b p) (hk : Keeps S w w') (hb : b ∉ S) : QB w' b p := (hk.block b h.lt hb).trans h
theorem QB.drewN {w : World} {b : Nat} {p : QS} (h : QB w b p) (n : Nat) : QB (w.drewN n) b p := h
theorem QB.main {w : World} {b : Nat} {p : QS} (h : QB w b p) :
    w.cell? ⟨b, 0, none⟩ = some (.string p.s) ∧ w.cell? ⟨b, 1, none⟩ = some (.int .i64 p.ix) ∧ w.cell? ⟨b, 2, none⟩ = some (.int .i64 p.op) ∧ w.cell? ⟨b, 3, none⟩ = some (.int .i64 p.gr) ∧
    w.frozen? ⟨b, 1, none⟩ = false ∧ w.frozen? ⟨b, 2, none⟩ = false ∧ w.frozen? ⟨b, 3, none⟩ = false := by
 unfold QB at h
 simp [World.cell?, World.frozen?, h, QS.cells]
theorem QB.setIx {w : World} {b : Nat} {p : QS} (h : QB w b p) (x : Nat) : QB (w.setCell ⟨b, 1, none⟩ (.int .i64 x)) b { p with ix := x } := by
 unfold QB at *
 simp [World.setCell, Array.getElem?_modify, h, QS.cells]
theorem QB.setOp {w : World} {b : Nat} {p : QS} (h : QB w b p) (x : Nat) : QB (w.setCell ⟨b, 2, none⟩ (.int .i64 x)) b { p with op := x } := by
 unfold QB at *
 simp [World.setCell, Array.getElem?_modify, h, QS.cells]
theorem QB.setGr {w : World} {b : Nat} {p : QS} (h : QB w b p) (x : Nat) : QB (w.setCell ⟨b, 3, none⟩ (.int .i64 x)) b { p with gr := x } := by
 unfold QB at *
 simp [World.setCell, Array.getElem?_modify, h, QS.cells]
def QS.cur (p : QS) : Int := at' p.s p.ix
def fault (j : Nat) : Ending := .panicked [{ v := .iface 196 (.agg #[.int .i64 (j : Int)]), recovered := false }]
set_option maxHeartbeats 400000 in
theorem peek_some (b : Nat) (p : QS) (w : World) (hp : QB w b p) (hlt : p.ix < p.s.size) (hs : p.s.size ≤ 60) :
    Calls Tryz.prog 167 #[.pointer (some ⟨b, 0, none⟩)] w fun e w' => e = .returned (.tuple #[.int .u8 p.cur, .bool true]) ∧ QB w' b p ∧ Keeps [] w w' := by
 obtain ⟨c0, c1, _, _, f1, _, _⟩ := hp.main
 have hki : (p.ix : Int) < (p.s.size : Int) := by omega
 have hk0 : (0 : Int) ≤ (p.ix : Int) := by omega
 have hne : ((p.ix : Int) == (p.s.size : Int)) = false := by simpa using (by omega : ¬ (p.ix : Int) = (p.s.size : Int))
 have HC : Hid (p.cur = (p.s[p.ix].toNat : Int)) := at'_lt hlt
 go_enter Tryz.func167, Tryz.ntmps167
 go_wp2_with fail
 go_quiet (fail)
 go_wp2_with fail
 go_quiet (fail)
 go_wp2_with fail
 go_ret2
 exact ⟨by rw [HC.out]; rfl, (hp.drewN _).drewN _, ((Keeps.refl _ _).drewN _).drewN _⟩
set_option maxHeartbeats 400000 in
theorem peek_none (b : Nat) (p : QS) (w : World) (hp : QB w b p) (hge : p.ix = p.s.size) :
    Calls Tryz.prog 167 #[.pointer (some ⟨b, 0, none⟩)] w fun e w' => e = .returned (.tuple #[.int .u8 0, .bool false]) ∧ QB w' b p ∧ Keeps [] w w' := by
 obtain ⟨c0, c1, _, _, f1, _, _⟩ := hp.main
 have hne : ((p.ix : Int) == (p.s.size : Int)) = true := by simpa using (by omega : (p.ix : Int) = (p.s.size : Int))
 clear hge
 go_enter Tryz.func167, Tryz.ntmps167
 go_wp2_with fail
 go_quiet (fail)
 go_wp2_with fail
 go_ret2
 exact ⟨rfl, (hp.drewN _), (Keeps.refl _ _).drewN _⟩
set_option maxHeartbeats 400000 in
theorem ahead_any (b : Nat) (p : QS) (c : Int) (hc : 0 ≤ c) (w : World) (hp : QB w b p) (hle : p.ix ≤ p.s.size) (hs : p.s.size ≤ 60) :
    Calls Tryz.prog 165 #[.pointer (some ⟨b, 0, none⟩), .int .u8 c] w fun e w' => e = .returned (.bool (decide (p.cur = c))) ∧ QB w' b p ∧ Keeps [] w w' := by
 by_cases hlt : p.ix < p.s.size
 ·go_enter Tryz.func165, Tryz.ntmps165
  go_wp2_with (first | (go_at_call 167; refine (peek_some b p _ hp hlt hs).mono ?_; rintro e w1 ⟨rfl, hp1, hk1⟩))
  go_ret
  exact ⟨by simp [BEq.beq], hp1, hk1⟩
 ·have hge : p.ix = p.s.size := by omega
  have HC : Hid (p.cur = -1) := at'_ge (by omega)
  go_enter Tryz.func165, Tryz.ntmps165
  go_wp2_with (first | (go_at_call 167; refine (peek_none b p _ hp hge).mono ?_; rintro e w1 ⟨rfl, hp1, hk1⟩))
  go_ret
  exact ⟨by rw [HC.out]; simp; omega, hp1, hk1⟩
def QS.took (p : QS) (c : Int) : QS := if p.cur = c then { p with ix := p.ix + 1 } else p
set_option maxHeartbeats 400000 in
theorem skip_any (b : Nat) (p : QS) (c : Int) (hc : 0 ≤ c) (w : World) (hp : QB w b p) (hle : p.ix ≤ p.s.size) (hs : p.s.size ≤ 60) :
    Calls Tryz.prog 116 #[.pointer (some ⟨b, 0, none⟩), .int .u8 c] w fun e w' => e = .returned (.bool (decide (p.cur = c))) ∧ QB w' b (p.took c) ∧ Keeps [b] w w' := by
 by_cases h : p.cur = c
 ·have hd : decide (p.cur = c) = true := by simpa using h
  have H : Hid (p.cur = c) := h
  have hlt : p.ix < p.s.size := at'_nn (by show 0 ≤ p.cur; omega)
  have hb1 : (0 : Int) ≤ (p.ix : Int) := by omega
  have hb2 : (p.ix : Int) ≤ 60 := by omega
  clear h
  go_enter Tryz.func116, Tryz.ntmps116
  go_wp2_with (first | (go_at_call 165; refine (ahead_any b p c hc _ hp hle hs).mono ?_; rintro e w1 ⟨rfl, hp1, hk1⟩; obtain ⟨c0, c1, _, _, f1, _, _⟩ := hp1.main))
  go_ret
  exact ⟨by simp [hd], by simp only [QS.took, H.out, if_true]; exact hp1.setIx (p.ix + 1), (hk1.mono (by simp)).setCell (by simp) _⟩
 ·have hd : decide (p.cur = c) = false := by simpa using h
  have H : Hid (¬ p.cur = c) := h
  clear h
  go_enter Tryz.func116, Tryz.ntmps116
  go_wp2_with (first | (go_at_call 165; refine (ahead_any b p c hc _ hp hle hs).mono ?_; rintro e w1 ⟨rfl, hp1, hk1⟩))
  go_ret
  exact ⟨by simp [hd], by simp only [QS.took, H.out, if_false]; exact hp1, hk1.mono (by simp)⟩
set_option maxHeartbeats 400000 in
theorem pfail_any (b : Nat) (p : QS) (w : World) (hp : QB w b p) :
    Calls Tryz.prog 168 #[.pointer (some ⟨b, 0, none⟩)] w fun e w' => e = fault p.ix ∧ w' = w := by
 obtain ⟨c0, c1, _, _, f1, _, _⟩ := hp.main
 go_enter Tryz.func168, Tryz.ntmps168
 go_wp2_with fail
 exact ⟨rfl, rfl, rfl⟩
set_option maxHeartbeats 400000 in
theorem expect_ok (b : Nat) (p : QS) (c : Int) (hc : 0 ≤ c) (w : World) (hp : QB w b p) (hs : p.s.size ≤ 60) (h : p.cur = c) :
    Calls Tryz.prog 221 #[.pointer (some ⟨b, 0, none⟩), .int .u8 c] w fun e w' => e = .returned (.tuple #[]) ∧ QB w' b { p with ix := p.ix + 1 } ∧ Keeps [b] w w' := by
 have hlt : p.ix < p.s.size := at'_nn (by show 0 ≤ p.cur; omega)
 have hd : decide (p.cur = c) = true := by simpa using h
 have htk : p.took c = { p with ix := p.ix + 1 } := by unfold QS.took; rw [if_pos h]
 clear h
 go_enter Tryz.func221, Tryz.ntmps221
 go_wp2_with (first | (go_at_call 116; refine (skip_any b p c hc _ hp (Nat.le_of_lt hlt) hs).mono ?_; rintro e w1 ⟨rfl, hp1, hk1⟩; rw [htk] at hp1))
 go_end0
 exact ⟨rfl, hp1, hk1⟩
set_option maxHeartbeats 400000 in
theorem expect_bad (b : Nat) (p : QS) (c : Int) (hc : 0 ≤ c) (w : World) (hp : QB w b p) (hle : p.ix ≤ p.s.size) (hs : p.s.size ≤ 60) (h : p.cur ≠ c) :
    Calls Tryz.prog 221 #[.pointer (some ⟨b, 0, none⟩), .int .u8 c] w fun e w' => e = fault p.ix ∧ Keeps [b] w w' := by
 have hd : decide (p.cur = c) = false := by simpa using h
 have htk : p.took c = p := by unfold QS.took; rw [if_neg h]
 clear h
 go_enter Tryz.func221, Tryz.ntmps221
 go_wp2_with (first | (go_at_call 168; refine (pfail_any b p _ hp1).mono ?_; rintro e w2 ⟨rfl, rfl⟩; simp only [fault]) | (go_at_call 116; refine (skip_any b p c hc _ hp hle hs).mono ?_; rintro e w1 ⟨rfl, hp1, hk1⟩; rw [htk] at hp1))
 exact ⟨rfl, rfl, hk1⟩
set_option maxHeartbeats 400000 in
theorem end_ok (b : Nat) (p : QS) (w : World) (hp : QB w b p) (h : p.ix = p.s.size) :
    Calls Tryz.prog 118 #[.pointer (some ⟨b, 0, none⟩)] w fun e w' => e = .returned (.tuple #[]) ∧ QB w' b p ∧ Keeps [] w w' := by
 go_enter Tryz.func118, Tryz.ntmps118
 go_wp2_with (first | (go_at_call 167; refine (peek_none b p _ hp h).mono ?_; rintro e w1 ⟨rfl, hp1, hk1⟩))
 go_end0
 exact ⟨rfl, hp1, hk1⟩
set_option maxHeartbeats 400000 in
theorem end_bad (b : Nat) (p : QS) (w : World) (hp : QB w b p) (h : p.ix < p.s.size) (hs : p.s.size ≤ 60) :
    Calls Tryz.prog 118 #[.pointer (some ⟨b, 0, none⟩)] w fun e w' => e = fault p.ix ∧ Keeps [] w w' := by
 go_enter Tryz.func118, Tryz.ntmps118
 go_wp2_with (first | (go_at_call 167; refine (peek_some b p _ hp h hs).mono ?_; rintro e w1 ⟨rfl, hp1, hk1⟩) | (go_at_call 168; refine (pfail_any b p _ hp1).mono ?_; rintro e w2 ⟨rfl, rfl⟩; simp only [fault]))
 exact ⟨rfl, rfl, hk1⟩
set_option maxHeartbeats 400000 in
theorem isDigit_any (c : Int) (w : World) :
    Calls Tryz.prog 236 #[.int .u8 c] w fun e w' => e = .returned (.bool (digB c)) ∧ w' = w := by
 go_enter Tryz.func236, Tryz.ntmps236
 go_wp2
 all_goals go_ret
 all_goals exact ⟨by simp [digB]; omega, rfl⟩
def lwB (c : Int) : Bool := decide (97 ≤ c) && decide (c ≤ 122)
set_option maxHeartbeats 400000 in
theorem isLower_any (c : Int) (w : World) :
    Calls Tryz.prog 228 #[.int .u8 c] w fun e w' => e = .returned (.bool (lwB c)) ∧ w' = w := by
 go_enter Tryz.func228, Tryz.ntmps228
 go_wp2
 all_goals go_ret
 all_goals exact ⟨by simp [lwB]; omega, rfl⟩
set_option maxHeartbeats 400000 in
theorem isAlnum_any (c : Int) (w : World) :
    Calls Tryz.prog 253 #[.int .u8 c] w fun e w' => e = .returned (.bool (alnB c)) ∧ w' = w := by
 cases hd : digB c
 all_goals
  cases hl : lwB c
  all_goals
   have hl' := hl
   simp [lwB] at hl'
   go_enter Tryz.func253, Tryz.ntmps253
   go_wp2_with (first | (go_at_call 236; refine (isDigit_any c _).mono ?_; rintro e w' ⟨rfl, rfl⟩) | (go_at_call 228; refine (isLower_any c _).mono ?_; rintro e w' ⟨rfl, rfl⟩))
   all_goals go_ret
   all_goals exact ⟨ret_bool (by simp [alnB, hd] <;> omega), rfl⟩
def May (F : Nat) (caps : Array Value) (c : Int) (v : Bool) (w : World) : Prop :=
 (∀ args w1, (callFunc F args).run Tryz.prog w1 = .ok (.enter F args) w1) ∧ ∀ w1, Keeps [] w w1 → Calls Tryz.prog F (#[.int .u8 c] ++ caps) w1 fun e w2 => e = .returned (.bool v) ∧ Keeps [] w1 w2
set_option maxRecDepth 100000 in
set_option maxHeartbeats 400000 in
theorem take_ok (b : Nat) (p : QS) (F : Nat) (caps : Array Value) (w : World) (hp : QB w b p) (hs : p.s.size ≤ 60) (hlt : p.ix < p.s.size) (hm : May F caps p.cur true w) :
    Calls Tryz.prog 218 #[.pointer (some ⟨b, 0, none⟩), .func (.func F) #[] caps] w fun e w' => e = .returned (.int .u8 p.cur) ∧ QB w' b { p with ix := p.ix + 1 } ∧ Keeps [b] w w' := by
 have hb1 : (0 : Int) ≤ (p.ix : Int) := by omega
 have hb2 : (p.ix : Int) ≤ 60 := by omega
 obtain ⟨hcf, hcall⟩ := hm
 go_enter Tryz.func218, Tryz.ntmps218
 go_wp2_with (first | (go_at_call 167; refine (peek_some b p _ hp hlt hs).mono ?_; rintro e w1 ⟨rfl, hp1, hk1⟩))
 refine (hcall _ hk1).mono ?_
 rintro e w2 ⟨rfl, hk2⟩
 have hp2 := hp1.keep hk2 (by simp)
 obtain ⟨c0, c1, _, _, f1, _, _⟩ := hp2.main
 go_wp2_with fail
 go_ret
 exact ⟨rfl, hp2.setIx (p.ix + 1), ((hk1.trans hk2).mono (by simp)).setCell (by simp) _⟩
set_option maxRecDepth 100000 in
set_option maxHeartbeats 400000 in
theorem take_bad (b : Nat) (p : QS) (F : Nat) (caps : Array Value) (w : World) (hp : QB w b p) (hs : p.s.size ≤ 60) (hlt : p.ix < p.s.size) (hm : May F caps p.cur false w) :
    Calls Tryz.prog 218 #[.pointer (some ⟨b, 0, none⟩), .func (.func F) #[] caps] w fun e w' => e = fault p.ix ∧ Keeps [b] w w' := by
 obtain ⟨hcf, hcall⟩ := hm
 go_enter Tryz.func218, Tryz.ntmps218
 go_wp2_with (first | (go_at_call 167; refine (peek_some b p _ hp hlt hs).mono ?_; rintro e w1 ⟨rfl, hp1, hk1⟩))
 refine (hcall _ hk1).mono ?_
 rintro e w2 ⟨rfl, hk2⟩
 have hp2 := hp1.keep hk2 (by simp)
 go_wp2_with (first | (go_at_call 168; refine (pfail_any b p _ hp2).mono ?_; rintro e w3 ⟨rfl, rfl⟩; simp only [fault]))
 exact ⟨rfl, rfl, (hk1.trans hk2).mono (by simp)⟩
set_option maxRecDepth 100000 in
set_option maxHeartbeats 400000 in
theorem take_end (b : Nat) (p : QS) (fv : Value) (w : World) (hp : QB w b p) (hge : p.ix = p.s.size) :
    Calls Tryz.prog 218 #[.pointer (some ⟨b, 0, none⟩), fv] w fun e w' => e = fault p.ix ∧ Keeps [b] w w' := by
 go_enter Tryz.func218, Tryz.ntmps218
 go_wp2_with (first | (go_at_call 167; refine (peek_none b p _ hp hge).mono ?_; rintro e w1 ⟨rfl, hp1, hk1⟩) | (go_at_call 168; refine (pfail_any b p _ hp1).mono ?_; rintro e w3 ⟨rfl, rfl⟩; simp only [fault]))
 exact ⟨rfl, rfl, hk1.mono (by simp)⟩
end Go.Proofs.YtnfojonmohijpaaGreatDoor
namespace Go.Proofs.YtnfojonmohijpaaGreatDoor
open Go.RowKit
theorem idx_run (s : ByteArray) (c : Int) (w : World) : (callFunc 284 #[.string s, .int .u8 c]).run Tryz.prog w = .ok (.value (.int .i64 (Lib.indexByte s.data.toList c.toNat.toUInt8))) w := by
 rw [run_callFunc_indexByte Tryz.func284 (by kernel_rfl) (by kernel_rfl) (by kernel_rfl) (by kernel_rfl), Lib.run_indexByteString]
 rfl
set_option maxHeartbeats 400000 in
theorem lite_any (s : ByteArray) (c : Int) (w : World) :
    Calls Tryz.prog 266 #[.string s, .int .u8 c] w fun e w' => e = .returned (.int .i64 (Lib.indexByte s.data.toList c.toNat.toUInt8)) ∧ w' = w := by
 have hi := fun w => idx_run s c w
 go_enter Tryz.func266, Tryz.ntmps266
 go_wp2
 go_ret
 exact ⟨rfl, rfl⟩
set_option maxHeartbeats 400000 in
theorem index_any (s : ByteArray) (c : Int) (w : World) :
    Calls Tryz.prog 246 #[.string s, .int .u8 c] w fun e w' => e = .returned (.int .i64 (Lib.indexByte s.data.toList c.toNat.toUInt8)) ∧ w' = w := by
 go_enter Tryz.func246, Tryz.ntmps246
 go_wp2_with (go_at_call 266; refine (lite_any s c _).mono ?_; rintro e w' ⟨rfl, rfl⟩)
 go_ret
 exact ⟨rfl, rfl⟩
set_option maxRecDepth 100000 in
theorem hex_idx (c : Int) (h0 : 0 ≤ c) (h1 : c ≤ 255) : Lib.indexByte (ByteArray.data ⟨#[48, 49, 50, 51, 52, 53, 54, 55, 56, 57, 97, 98, 99, 100, 101, 102]⟩).toList c.toNat.toUInt8 = hexd c := by
 obtain ⟨n, rfl⟩ : ∃ n : Nat, c = n := ⟨c.toNat, by omega⟩
 have hn : n < 256 := by omega
 have key : ∀ m : Fin 256, Lib.indexByte (ByteArray.data ⟨#[48, 49, 50, 51, 52, 53, 54, 55, 56, 57, 97, 98, 99, 100, 101, 102]⟩).toList ((m.val : Int)).toNat.toUInt8 = hexd (m.val : Int) := by decide
 exact key ⟨n, hn⟩
set_option maxHeartbeats 400000 in
theorem isHex_any (c : Int) (h0 : 0 ≤ c) (h1 : c ≤ 255) (w : World) :
    Calls Tryz.prog 219 #[.int .u8 c] w fun e w' => e = .returned (.bool (decide (0 ≤ hexd c))) ∧ w' = w := by
 go_enter Tryz.func219, Tryz.ntmps219
 go_wp2_with (go_at_call 246; refine (index_any _ c _).mono ?_; rintro e w' ⟨rfl, rfl⟩; rw [hex_idx c h0 h1])
 go_ret
 exact ⟨rfl, rfl⟩
set_option maxHeartbeats 400000 in
theorem hexValue_any (c : Int) (h0 : 0 ≤ c) (h1 : c ≤ 255) (hh : 0 ≤ hexd c) (w : World) :
    Calls Tryz.prog 220 #[.int .u8 c] w fun e w' => e = .returned (.int .u8 (hexd c)) ∧ w' = w := by
 have hb := hexd_bd c
 have hb2 := hb.2
 go_enter Tryz.func220, Tryz.ntmps220
 go_wp2_with (go_at_call 246; refine (index_any _ c _).mono ?_; rintro e w' ⟨rfl, rfl⟩; rw [hex_idx c h0 h1])
 go_ret
 exact ⟨rfl, rfl⟩
theorem isHex_v (c : Int) (v : Bool) (h0 : 0 ≤ c) (h1 : c ≤ 255) (h : decide (0 ≤ hexd c) = v) (w : World) :
    Calls Tryz.prog 219 #[.int .u8 c] w fun e w' => e = .returned (.bool v) ∧ w' = w := by
 subst h; exact isHex_any c h0 h1 w
theorem or_hex (a b : Int) (ha0 : 0 ≤ a) (ha1 : a ≤ 15) (hb0 : 0 ≤ b) (hb1 : b ≤ 15) : bits .or .u8 (a * 16) b = 16 * a + b := by
 obtain ⟨x, rfl⟩ : ∃ x : Nat, a = x := ⟨a.toNat, by omega⟩
 obtain ⟨y, rfl⟩ : ∃ y : Nat, b = y := ⟨b.toNat, by omega⟩
 have key : ∀ (m n : Fin 16), bits .or .u8 ((m.val : Int) * 16) (n.val : Int) = 16 * (m.val : Int) + (n.val : Int) := by decide
 exact key ⟨x, by omega⟩ ⟨y, by omega⟩
set_option maxRecDepth 100000 in
set_option maxHeartbeats 400000 in
theorem esc1_any (c l : Int) (lb : Nat) (w : World) (hl : w.cell? ⟨lb, 0, none⟩ = some (.int .u8 l)) :
    Calls Tryz.prog 277 #[.int .u8 c, .pointer (some ⟨lb, 0, none⟩)] w fun e w' => e = .returned (.bool (!alnB c && decide (l ≤ c))) ∧ w' = w := by
 cases ha : alnB c
 all_goals
  go_enter Tryz.func277, Tryz.ntmps277
  go_wp2_with (go_at_call 253; refine (isAlnum_any c _).mono ?_; rintro e w' ⟨rfl, rfl⟩)
  all_goals go_ret
  all_goals exact ⟨by simp [ha], rfl⟩
set_option maxRecDepth 100000 in
set_option maxHeartbeats 400000 in
theorem hp1_any (c l : Int) (h0 : 0 ≤ c) (h1 : c ≤ 255) (lb : Nat) (w : World) (hl : w.cell? ⟨lb, 0, none⟩ = some (.int .u8 l)) :
    Calls Tryz.prog 292 #[.int .u8 c, .pointer (some ⟨lb, 0, none⟩)] w fun e w' => e = .returned (.bool (decide (0 ≤ hexd c) && decide (l ≤ 16 * hexd c + 15))) ∧ ∃ n, w' = w.drewN n := by
 have hb := hexd_bd c
 by_cases hh : 0 ≤ hexd c
 ·have hd : decide (0 ≤ hexd c) = true := by simpa using hh
  have hb2 := hb.2
  have IH := isHex_v c true h0 h1 hd
  have HV := hexValue_any c h0 h1 hh
  have hb15 := or_hex (hexd c) 15 hh hb2 (by omega) (by omega)
  generalize hexd c = x at *
  go_enter Tryz.func292, Tryz.ntmps292
  go_wp2_with fail
  go_quiet (first | (go_at_call 219; exact Calls.quiet_of_same (IH _)) | (go_at_call 220; exact Calls.quiet_of_same (HV _)))
  go_wp2_with fail
  go_ret
  exact ⟨ret_bool (by simp [hd]), _, rfl⟩
 ·have hd : decide (0 ≤ hexd c) = false := by simpa using hh
  have IH := isHex_v c false h0 h1 hd
  have H0 : Hid (¬ 0 ≤ hexd c) := hh
  clear hh hb
  go_enter Tryz.func292, Tryz.ntmps292
  go_wp2_with fail
  go_quiet ((go_at_call 219; exact Calls.quiet_of_same (IH _)))
  go_wp2_with fail
  go_ret
  exact ⟨by rw [hd]; rfl, _, rfl⟩
set_option maxRecDepth 100000 in
set_option maxHeartbeats 400000 in
theorem hp2_any (c l a : Int) (h0 : 0 ≤ c) (h1 : c ≤ 255) (ha0 : 0 ≤ a) (ha1 : a ≤ 15) (ab lb : Nat) (w : World) (hla : w.cell? ⟨ab, 0, none⟩ = some (.int .u8 a)) (hl : w.cell? ⟨lb, 0, none⟩ = some (.int .u8 l)) :
    Calls Tryz.prog 293 #[.int .u8 c, .pointer (some ⟨ab, 0, none⟩), .pointer (some ⟨lb, 0, none⟩)] w fun e w' => e = .returned (.bool (decide (0 ≤ hexd c) && decide (l ≤ 16 * a + hexd c))) ∧ ∃ n, w' = w.drewN n := by
 have hb := hexd_bd c
 by_cases hh : 0 ≤ hexd c
 ·have hd : decide (0 ≤ hexd c) = true := by simpa using hh
  have hb2 := hb.2
  have IH := isHex_v c true h0 h1 hd
  have HV := hexValue_any c h0 h1 hh
  have hb15 := or_hex a (hexd c) ha0 ha1 hh hb2
  generalize hexd c = x at *
  go_enter Tryz.func293, Tryz.ntmps293
  go_wp2_with fail
  go_quiet (first | (go_at_call 219; exact Calls.quiet_of_same (IH _)) | (go_at_call 220; exact Calls.quiet_of_same (HV _)))
  go_wp2_with fail
  go_ret
  exact ⟨ret_bool (by simp [hd]), _, rfl⟩
 ·have hd : decide (0 ≤ hexd c) = false := by simpa using hh
  have IH := isHex_v c false h0 h1 hd
  clear hh hb
  go_enter Tryz.func293, Tryz.ntmps293
  go_wp2_with fail
  go_quiet ((go_at_call 219; exact Calls.quiet_of_same (IH _)))
  go_wp2_with fail
  go_ret
  exact ⟨by rw [hd]; rfl, _, rfl⟩
set_option maxRecDepth 100000 in
theorem inn_idx (c : Int) (h0 : 0 ≤ c) (h1 : c ≤ 255) : decide (Lib.indexByte (ByteArray.data ⟨#[91, 93, 45, 94]⟩).toList c.toNat.toUInt8 < 0) = !decide (c = 91 ∨ c = 93 ∨ c = 45 ∨ c = 94) := by
 obtain ⟨n, rfl⟩ : ∃ n : Nat, c = n := ⟨c.toNat, by omega⟩
 have hn : n < 256 := by omega
 have key : ∀ m : Fin 256, decide (Lib.indexByte (ByteArray.data ⟨#[91, 93, 45, 94]⟩).toList ((m.val : Int)).toNat.toUInt8 < 0) = !decide ((m.val : Int) = 91 ∨ (m.val : Int) = 93 ∨ (m.val : Int) = 45 ∨ (m.val : Int) = 94) := by decide
 exact key ⟨n, hn⟩
set_option maxRecDepth 100000 in
set_option maxHeartbeats 400000 in
theorem inn1_any (c l : Int) (h0 : 0 ≤ c) (h1 : c ≤ 255) (lb : Nat) (w : World) (hl : w.cell? ⟨lb, 0, none⟩ = some (.int .u8 l)) :
    Calls Tryz.prog 300 #[.int .u8 c, .pointer (some ⟨lb, 0, none⟩)] w fun e w' => e = .returned (.bool (!decide (c = 91 ∨ c = 93 ∨ c = 45 ∨ c = 94) && decide (l ≤ c))) ∧ w' = w := by
 have hi := inn_idx c h0 h1
 by_cases hn : Lib.indexByte (ByteArray.data ⟨#[91, 93, 45, 94]⟩).toList c.toNat.toUInt8 < 0
 ·rw [decide_eq_true hn] at hi
  rw [← hi]
  clear hi
  generalize hgx : Lib.indexByte (ByteArray.data ⟨#[91, 93, 45, 94]⟩).toList c.toNat.toUInt8 = x at *
  go_enter Tryz.func300, Tryz.ntmps300
  go_wp2_with (go_at_call 246; refine (index_any _ c _).mono ?_; rintro e w' ⟨rfl, rfl⟩; rw [hgx])
  go_ret
  exact ⟨by simp, rfl⟩
 ·rw [decide_eq_false hn] at hi
  rw [← hi]
  clear hi
  generalize hgx : Lib.indexByte (ByteArray.data ⟨#[91, 93, 45, 94]⟩).toList c.toNat.toUInt8 = x at *
  go_enter Tryz.func300, Tryz.ntmps300
  go_wp2_with (go_at_call 246; refine (index_any _ c _).mono ?_; rintro e w' ⟨rfl, rfl⟩; rw [hgx])
  go_ret
  exact ⟨by simp, rfl⟩
end Go.Proofs.YtnfojonmohijpaaGreatDoor
