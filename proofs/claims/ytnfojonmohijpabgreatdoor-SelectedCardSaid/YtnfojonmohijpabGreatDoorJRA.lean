/-
  DERIVED. Contracts of the reference's small functions (has, digit, alnum, more, fail, next, take, need): what each call gives and what it does to the one block that the pattern's state lies in. No condition but those that stand in each theorem.
-/
import Derived.Test.YtnfojonmohijpabGreatDoorProg
import Derived.Test.YtnfojonmohijpabGreatDoorJSpec
import Derived.WalkKit
import Derived.WalkSpells
import Derived.WalkLawsBesides
import Derived.Deep.QuietTactic
import Derived.BigQuiet
import Derived.Lib.Bytealg
import Derived.Laws.StandIn
set_option linter.unusedSimpArgs false
set_option linter.unusedVariables false
namespace Go.Proofs.YtnfojonmohijpabGreatDoor
open Go.RowKit
structure PS where
 s : ByteArray
 nodes : Value
 root : Nat
 bg : Bool
 en : Bool
 gr : Nat
 bad : Int
 ix : Nat
 deep : Nat
structure Keeps (S : List Nat) (w w' : World) : Prop where
 os : w'.os = w.os
 tape : w'.tape = w.tape
 output : w'.output = w.output
 size : w.heap.size ≤ w'.heap.size
 block : ∀ k, k < w.heap.size → k ∉ S → w'.heap[k]? = w.heap[k]?
theorem Keeps.refl (S : List Nat) (w : World) : Keeps S w w := ⟨rfl, rfl, rfl, Nat.le_refl _, fun _ _ _ => rfl⟩
theorem Keeps.trans {S : List Nat} {a b c : World} (h : Keeps S a b) (k : Keeps S b c) : Keeps S a c :=
 ⟨k.os.trans h.os, k.tape.trans h.tape, k.output.trans h.output, Nat.le_trans h.size k.size, fun i hi hn => (k.block i (Nat.lt_of_lt_of_le hi h.size) hn).trans (h.block i hi hn)⟩
theorem Keeps.drewN {S : List Nat} {a w : World} (h : Keeps S a w) (n : Nat) : Keeps S a (w.drewN n) := ⟨h.os, h.tape, h.output, h.size, h.block⟩
theorem Keeps.setCell {S : List Nat} {a w : World} (h : Keeps S a w) {p : Addr} (hp : p.block ∈ S ∨ a.heap.size ≤ p.block) (u : Value) : Keeps S a (w.setCell p u) :=
 ⟨h.os, h.tape, h.output, by simpa using h.size, fun k hk hn => by
   rw [Below.heap_setCell]
   · exact h.block k hk hn
   · rintro rfl
     rcases hp with hp | hp
     · exact hn hp
     · omega⟩
theorem Keeps.alloc {S : List Nat} {a w : World} (h : Keeps S a w) (o : Obj) : Keeps S a (w.alloc o) :=
 ⟨h.os, h.tape, h.output, by have := h.size; simp; omega, fun k hk hn => by
   rw [Below.heap_alloc _ _ _ (Nat.lt_of_lt_of_le hk h.size)]
   exact h.block k hk hn⟩
theorem ret_bool {a b : Bool} (h : a = true ↔ b = true) : Ending.returned (.bool a) = .returned (.bool b) := by
 have : a = b := by cases a <;> cases b <;> simp at h ⊢
 rw [this]
theorem ret_int {k : IntKind} {a b : Int} (h : a = b) : Ending.returned (.int k a) = .returned (.int k b) := by rw [h]
end Go.Proofs.YtnfojonmohijpabGreatDoor
namespace Go.Proofs.YtnfojonmohijpabGreatDoor
open Go.RowKit
def nmB (l : List UInt8) : ByteArray := ⟨l.toArray⟩
end Go.Proofs.YtnfojonmohijpabGreatDoor
namespace Go.Proofs.YtnfojonmohijpabGreatDoor
open Go.RowKit
def hcells (f : Nat → Bool) : Array Value := Array.ofFn (n := 256) fun k => Value.bool (f k.val)
theorem hcells_size (f : Nat → Bool) : (hcells f).size = 256 := by simp [hcells]
theorem hcells_get (f : Nat → Bool) {k : Nat} (h : k < 256) : (hcells f)[k]? = some (.bool (f k)) := by simp [hcells, h]
theorem hcells_set (f : Nat → Bool) (k : Nat) (v : Bool) : (hcells f).setIfInBounds k (.bool v) = hcells (fun n => if n = k then v else f n) := by
 apply Array.ext_getElem?
 intro i
 rw [Array.getElem?_setIfInBounds]
 by_cases hi : i < 256
 ·rw [hcells_get _ hi, hcells_get _ hi]
  by_cases hk : k = i
  ·subst hk; simp [hcells_size, hi]
  ·simp [hk, Ne.symm hk]
 ·have e1 : (hcells fun n => if n = k then v else f n)[i]? = none := Array.getElem?_eq_none (by rw [hcells_size]; omega)
  have e2 : (hcells f)[i]? = none := Array.getElem?_eq_none (by rw [hcells_size]; omega)
  rw [e1, e2]
  by_cases hk : k = i
  ·rw [if_pos hk, if_neg (by rw [hcells_size]; omega)]
  ·rw [if_neg hk]
def HB (w : World) (h : Nat) (f : Nat → Bool) : Prop := w.heap[h]? = some (.cells (hcells f) 4 (0, 0))
def nm (k : Nat) : List UInt8 := names.getD k []
theorem names_len : ∀ n ∈ names, n.length = 5 := by decide
theorem names_count : names.length = 7 := rfl
def ncells : Array Value := #[.string (nmB [100, 105, 103, 105, 116]), .string (nmB [108, 111, 119, 101, 114]), .string (nmB [117, 112, 112, 101, 114]), .string (nmB [97, 108, 112, 104, 97]), .string (nmB [97, 108, 110, 117, 109]), .string (nmB [115, 112, 97, 99, 101]), .string (nmB [112, 117, 110, 99, 116])]
theorem Keeps.mono {S S' : List Nat} {a w : World} (h : Keeps S a w) (hs : ∀ x, x ∈ S → x ∈ S') : Keeps S' a w :=
 ⟨h.os, h.tape, h.output, h.size, fun k hk hn => h.block k hk fun hx => hn (hs k hx)⟩
theorem nmB_toList (l : List UInt8) : (nmB l).data.toList = l := by simp [nmB]
theorem nmB_size (l : List UInt8) : (nmB l).size = l.length := by simp [nmB, ByteArray.size]
theorem nm_get {j : Nat} (hj : j < 7) : nm j = names[j]'(by rw [names_count]; exact hj) := by
 unfold nm
 rw [List.getD_eq_getElem?_getD, List.getElem?_eq_getElem (by rw [names_count]; exact hj)]; rfl
theorem nm_len {j : Nat} (hj : j < 7) : (nm j).length = 5 := by rw [nm_get hj]; exact names_len _ (List.getElem_mem _)
theorem nm_mem {j : Nat} (hj : j < 7) : nm j ∈ names := by rw [nm_get hj]; exact List.getElem_mem _
theorem find_none {word : List UInt8} (h : ∀ j, j < 7 → nm j ≠ word) : names.findIdx? (· = word) = none := by
 rw [List.findIdx?_eq_none_iff]
 intro x hx
 obtain ⟨j, hj, rfl⟩ := List.mem_iff_getElem.1 hx
 have := h j hj
 rw [nm_get hj] at this
 simpa using this
theorem find_some {word : List UInt8} {k : Nat} (hk : k < 7) (h : ∀ j, j < k → nm j ≠ word) (e : nm k = word) : names.findIdx? (· = word) = some k := by
 rw [List.findIdx?_eq_some_iff_getElem]
 refine ⟨hk, ?_, ?_⟩
 ·have e' := (nm_get hk).symm.trans e
  exact decide_eq_true e'
 ·intro j hj
  have := h j hj
  rw [nm_get (by omega)] at this
  simpa using this
theorem eqL (a b : List UInt8) : ((nmB a).toList == (nmB b).toList) = decide (a = b) := by
 rw [ByteArray.toList_eq, ByteArray.toList_eq, nmB_toList, nmB_toList]
 by_cases h : a = b
 ·subst h; simp
 ·simp [h]
end Go.Proofs.YtnfojonmohijpabGreatDoor
namespace Go.Proofs.YtnfojonmohijpabGreatDoor
open Go.RowKit
structure QS where
 s : ByteArray
 ix : Nat
 op : Nat
 gr : Nat
def QS.cells (p : QS) : Array Value := #[.string p.s, .int .i64 p.ix, .int .i64 p.op, .int .i64 p.gr]
def QB (w : World) (b : Nat) (p : QS) : Prop := w.heap[b]? = some (.cells p.cells 141 (0, 0))
theorem QB.lt {w : World} {b : Nat} {p : QS} (h : QB w b p) : b < w.heap.size := (Array.getElem?_eq_some_iff.1 h).1
theorem QB.keep {w w' : World} {b : Nat} {p : QS} {S : List Nat} (h : QB w b p) (hk : Keeps S w w') (hb : b ∉ S) : QB w' b p := (hk.block b h.lt hb).trans h
theorem QB.drewN {w : World} {b : Nat} {p : QS} (h : QB w b p) (n : Nat) : QB (w.drewN n) b p := h
theorem QB.main {w : World} {b : Nat} {p : QS} (h : QB w b p) :
    w.cell? ⟨b, 0, none⟩ = some (.string p.s) ∧ w.cell? ⟨b, 1, none⟩ = some (.int .i64 p.ix) ∧ w.cell? ⟨b, 2, none⟩ = some (.int .i64 p.op) ∧ w.cell? ⟨b, 3, none⟩ = some (.int .i64 p.gr) ∧
    w.frozen? ⟨b, 1, none⟩ = false ∧ w.frozen? ⟨b, 2, none⟩ = false ∧ w.frozen? ⟨b, 3, none⟩ = false := by
 unfold QB at h
 simp [World.cell?, World.frozen?, h, QS.cells]
theorem QB.setIx {w : World} {b : Nat} {p : QS} (h : QB w b p) (x : Nat) : QB (w.setCell ⟨b, 1, none⟩ (.int .i64 x)) b { p with ix := x } := by
 unfold QB at *
 simp [World.setCell, Array.getElem?_modify, h, QS.cells]
theorem QB.setOp {w : World} {b : Nat} {p : QS} (h : QB w b p) (x : Nat) : QB (w.setCell ⟨b, 2, none⟩ (.int .i64 x)) b { p with op := x } := by
 unfold QB at *
 simp [World.setCell, Array.getElem?_modify, h, QS.cells]
theorem QB.setGr {w : World} {b : Nat} {p : QS} (h : QB w b p) (x : Nat) : QB (w.setCell ⟨b, 3, none⟩ (.int .i64 x)) b { p with gr := x } := by
 unfold QB at *
 simp [World.setCell, Array.getElem?_modify, h, QS.cells]
def QS.cur (p : QS) : Int := at' p.s p.ix
def fault (j : Nat) : Ending := .panicked [{ v := .iface 136 (.agg #[.int .i64 (j : Int)]), recovered := false }]
set_option maxHeartbeats 400000 in
theorem peek_some (b : Nat) (p : QS) (w : World) (hp : QB w b p) (hlt : p.ix < p.s.size) (hs : p.s.size ≤ 60) :
    Calls Tryz.prog 100 #[.pointer (some ⟨b, 0, none⟩)] w fun e w' => e = .returned (.tuple #[.int .u8 p.cur, .bool true]) ∧ QB w' b p ∧ Keeps [] w w' := by
 obtain ⟨c0, c1, _, _, f1, _, _⟩ := hp.main
 have hki : (p.ix : Int) < (p.s.size : Int) := by omega
 have hk0 : (0 : Int) ≤ (p.ix : Int) := by omega
 have hne : ((p.ix : Int) == (p.s.size : Int)) = false := by simpa using (by omega : ¬ (p.ix : Int) = (p.s.size : Int))
 have HC : Hid (p.cur = (p.s[p.ix].toNat : Int)) := at'_lt hlt
 go_enter Tryz.func100, Tryz.ntmps100
 go_wp2_with fail
 go_quiet (fail)
 go_wp2_with fail
 go_quiet (fail)
 go_wp2_with fail
 go_ret2
 exact ⟨by rw [HC.out]; rfl, (hp.drewN _).drewN _, ((Keeps.refl _ _).drewN _).drewN _⟩
set_option maxHeartbeats 400000 in
theorem peek_none (b : Nat) (p : QS) (w : World) (hp : QB w b p) (hge : p.ix = p.s.size) :
    Calls Tryz.prog 100 #[.pointer (some ⟨b, 0, none⟩)] w fun e w' => e = .returned (.tuple #[.int .u8 0, .bool false]) ∧ QB w' b p ∧ Keeps [] w w' := by
 obtain ⟨c0, c1, _, _, f1, _, _⟩ := hp.main
 have hne : ((p.ix : Int) == (p.s.size : Int)) = true := by simpa using (by omega : (p.ix : Int) = (p.s.size : Int))
 clear hge
 go_enter Tryz.func100, Tryz.ntmps100
 go_wp2_with fail
 go_quiet (fail)
 go_wp2_with fail
 go_ret2
 exact ⟨rfl, (hp.drewN _), (Keeps.refl _ _).drewN _⟩
set_option maxHeartbeats 400000 in
theorem ahead_any (b : Nat) (p : QS) (c : Int) (hc : 0 ≤ c) (w : World) (hp : QB w b p) (hle : p.ix ≤ p.s.size) (hs : p.s.size ≤ 60) :
    Calls Tryz.prog 98 #[.pointer (some ⟨b, 0, none⟩), .int .u8 c] w fun e w' => e = .returned (.bool (decide (p.cur = c))) ∧ QB w' b p ∧ Keeps [] w w' := by
 by_cases hlt : p.ix < p.s.size
 ·go_enter Tryz.func98, Tryz.ntmps98
  go_wp2_with (first | (go_at_call 100; refine (peek_some b p _ hp hlt hs).mono ?_; rintro e w1 ⟨rfl, hp1, hk1⟩))
  go_ret
  exact ⟨by simp [BEq.beq], hp1, hk1⟩
 ·have hge : p.ix = p.s.size := by omega
  have HC : Hid (p.cur = -1) := at'_ge (by omega)
  go_enter Tryz.func98, Tryz.ntmps98
  go_wp2_with (first | (go_at_call 100; refine (peek_none b p _ hp hge).mono ?_; rintro e w1 ⟨rfl, hp1, hk1⟩))
  go_ret
  exact ⟨by rw [HC.out]; simp; omega, hp1, hk1⟩
def QS.took (p : QS) (c : Int) : QS := if p.cur = c then { p with ix := p.ix + 1 } else p
set_option maxHeartbeats 400000 in
theorem skip_any (b : Nat) (p : QS) (c : Int) (hc : 0 ≤ c) (w : World) (hp : QB w b p) (hle : p.ix ≤ p.s.size) (hs : p.s.size ≤ 60) :
    Calls Tryz.prog 64 #[.pointer (some ⟨b, 0, none⟩), .int .u8 c] w fun e w' => e = .returned (.bool (decide (p.cur = c))) ∧ QB w' b (p.took c) ∧ Keeps [b] w w' := by
 by_cases h : p.cur = c
 ·have hd : decide (p.cur = c) = true := by simpa using h
  have H : Hid (p.cur = c) := h
  have hlt : p.ix < p.s.size := at'_nn (by show 0 ≤ p.cur; omega)
  have hb1 : (0 : Int) ≤ (p.ix : Int) := by omega
  have hb2 : (p.ix : Int) ≤ 60 := by omega
  clear h
  go_enter Tryz.func64, Tryz.ntmps64
  go_wp2_with (first | (go_at_call 98; refine (ahead_any b p c hc _ hp hle hs).mono ?_; rintro e w1 ⟨rfl, hp1, hk1⟩; obtain ⟨c0, c1, _, _, f1, _, _⟩ := hp1.main))
  go_ret
  exact ⟨by simp [hd], by simp only [QS.took, H.out, if_true]; exact hp1.setIx (p.ix + 1), (hk1.mono (by simp)).setCell (by simp) _⟩
 ·have hd : decide (p.cur = c) = false := by simpa using h
  have H : Hid (¬ p.cur = c) := h
  clear h
  go_enter Tryz.func64, Tryz.ntmps64
  go_wp2_with (first | (go_at_call 98; refine (ahead_any b p c hc _ hp hle hs).mono ?_; rintro e w1 ⟨rfl, hp1, hk1⟩))
  go_ret
  exact ⟨by simp [hd], by simp only [QS.took, H.out, if_false]; exact hp1, hk1.mono (by simp)⟩
set_option maxHeartbeats 400000 in
theorem pfail_any (b : Nat) (p : QS) (w : World) (hp : QB w b p) :
    Calls Tryz.prog 101 #[.pointer (some ⟨b, 0, none⟩)] w fun e w' => e = fault p.ix ∧ w' = w := by
 obtain ⟨c0, c1, _, _, f1, _, _⟩ := hp.main
 go_enter Tryz.func101, Tryz.ntmps101
 go_wp2_with fail
 exact ⟨rfl, rfl, rfl⟩
set_option maxHeartbeats 400000 in
theorem expect_ok (b : Nat) (p : QS) (c : Int) (hc : 0 ≤ c) (w : World) (hp : QB w b p) (hs : p.s.size ≤ 60) (h : p.cur = c) :
    Calls Tryz.prog 159 #[.pointer (some ⟨b, 0, none⟩), .int .u8 c] w fun e w' => e = .returned (.tuple #[]) ∧ QB w' b { p with ix := p.ix + 1 } ∧ Keeps [b] w w' := by
 have hlt : p.ix < p.s.size := at'_nn (by show 0 ≤ p.cur; omega)
 have hd : decide (p.cur = c) = true := by simpa using h
 have htk : p.took c = { p with ix := p.ix + 1 } := by unfold QS.took; rw [if_pos h]
 clear h
 go_enter Tryz.func159, Tryz.ntmps159
 go_wp2_with (first | (go_at_call 64; refine (skip_any b p c hc _ hp (Nat.le_of_lt hlt) hs).mono ?_; rintro e w1 ⟨rfl, hp1, hk1⟩; rw [htk] at hp1))
 go_end0
 exact ⟨rfl, hp1, hk1⟩
set_option maxHeartbeats 400000 in
theorem expect_bad (b : Nat) (p : QS) (c : Int) (hc : 0 ≤ c) (w : World) (hp : QB w b p) (hle : p.ix ≤ p.s.size) (hs : p.s.size ≤ 60) (h : p.cur ≠ c) :
    Calls Tryz.prog 159 #[.pointer (some ⟨b, 0, none⟩), .int .u8 c] w fun e w' => e = fault p.ix ∧ Keeps [b] w w' := by
 have hd : decide (p.cur = c) = false := by simpa using h
 have htk : p.took c = p := by unfold QS.took; rw [if_neg h]
 clear h
 go_enter Tryz.func159, Tryz.ntmps159
 go_wp2_with (first | (go_at_call 101; refine (pfail_any b p _ hp1).mono ?_; rintro e w2 ⟨rfl, rfl⟩; simp only [fault]) | (go_at_call 64; refine (skip_any b p c hc _ hp hle hs).mono ?_; rintro e w1 ⟨rfl, hp1, hk1⟩; rw [htk] at hp1))
 exact ⟨rfl, rfl, hk1⟩
set_option maxHeartbeats 400000 in
theorem end_ok (b : Nat) (p : QS) (w : World) (hp : QB w b p) (h : p.ix = p.s.size) :
    Calls Tryz.prog 66 #[.pointer (some ⟨b, 0, none⟩)] w fun e w' => e = .returned (.tuple #[]) ∧ QB w' b p ∧ Keeps [] w w' := by
 go_enter Tryz.func66, Tryz.ntmps66
 go_wp2_with (first | (go_at_call 100; refine (peek_none b p _ hp h).mono ?_; rintro e w1 ⟨rfl, hp1, hk1⟩))
 go_end0
 exact ⟨rfl, hp1, hk1⟩
set_option maxHeartbeats 400000 in
theorem end_bad (b : Nat) (p : QS) (w : World) (hp : QB w b p) (h : p.ix < p.s.size) (hs : p.s.size ≤ 60) :
    Calls Tryz.prog 66 #[.pointer (some ⟨b, 0, none⟩)] w fun e w' => e = fault p.ix ∧ Keeps [] w w' := by
 go_enter Tryz.func66, Tryz.ntmps66
 go_wp2_with (first | (go_at_call 100; refine (peek_some b p _ hp h hs).mono ?_; rintro e w1 ⟨rfl, hp1, hk1⟩) | (go_at_call 101; refine (pfail_any b p _ hp1).mono ?_; rintro e w2 ⟨rfl, rfl⟩; simp only [fault]))
 exact ⟨rfl, rfl, hk1⟩
set_option maxHeartbeats 400000 in
theorem isDigit_any (c : Int) (w : World) :
    Calls Tryz.prog 139 #[.int .u8 c] w fun e w' => e = .returned (.bool (digB c)) ∧ w' = w := by
 go_enter Tryz.func139, Tryz.ntmps139
 go_wp2
 all_goals go_ret
 all_goals exact ⟨by simp [digB]; omega, rfl⟩
def lwB (c : Int) : Bool := decide (97 ≤ c) && decide (c ≤ 122)
set_option maxHeartbeats 400000 in
theorem isLower_any (c : Int) (w : World) :
    Calls Tryz.prog 92 #[.int .u8 c] w fun e w' => e = .returned (.bool (lwB c)) ∧ w' = w := by
 go_enter Tryz.func92, Tryz.ntmps92
 go_wp2
 all_goals go_ret
 all_goals exact ⟨by simp [lwB]; omega, rfl⟩
set_option maxHeartbeats 400000 in
theorem isAlnum_any (c : Int) (w : World) :
    Calls Tryz.prog 171 #[.int .u8 c] w fun e w' => e = .returned (.bool (alnB c)) ∧ w' = w := by
 cases hd : digB c
 all_goals
  cases hl : lwB c
  all_goals
   have hl' := hl
   simp [lwB] at hl'
   go_enter Tryz.func171, Tryz.ntmps171
   go_wp2_with (first | (go_at_call 139; refine (isDigit_any c _).mono ?_; rintro e w' ⟨rfl, rfl⟩) | (go_at_call 92; refine (isLower_any c _).mono ?_; rintro e w' ⟨rfl, rfl⟩))
   all_goals go_ret
   all_goals exact ⟨ret_bool (by simp [alnB, hd] <;> omega), rfl⟩
def May (F : Nat) (caps : Array Value) (c : Int) (v : Bool) (w : World) : Prop :=
 (∀ args w1, (callFunc F args).run Tryz.prog w1 = .ok (.enter F args) w1) ∧ ∀ w1, Keeps [] w w1 → Calls Tryz.prog F (#[.int .u8 c] ++ caps) w1 fun e w2 => e = .returned (.bool v) ∧ Keeps [] w1 w2
set_option maxRecDepth 100000 in
set_option maxHeartbeats 400000 in
theorem take_ok (b : Nat) (p : QS) (F : Nat) (caps : Array Value) (w : World) (hp : QB w b p) (hs : p.s.size ≤ 60) (hlt : p.ix < p.s.size) (hm : May F caps p.cur true w) :
    Calls Tryz.prog 136 #[.pointer (some ⟨b, 0, none⟩), .func (.func F) #[] caps] w fun e w' => e = .returned (.int .u8 p.cur) ∧ QB w' b { p with ix := p.ix + 1 } ∧ Keeps [b] w w' := by
 have hb1 : (0 : Int) ≤ (p.ix : Int) := by omega
 have hb2 : (p.ix : Int) ≤ 60 := by omega
 obtain ⟨hcf, hcall⟩ := hm
 go_enter Tryz.func136, Tryz.ntmps136
 go_wp2_with (first | (go_at_call 100; refine (peek_some b p _ hp hlt hs).mono ?_; rintro e w1 ⟨rfl, hp1, hk1⟩))
 refine (hcall _ hk1).mono ?_
 rintro e w2 ⟨rfl, hk2⟩
 have hp2 := hp1.keep hk2 (by simp)
 obtain ⟨c0, c1, _, _, f1, _, _⟩ := hp2.main
 go_wp2_with fail
 go_ret
 exact ⟨rfl, hp2.setIx (p.ix + 1), ((hk1.trans hk2).mono (by simp)).setCell (by simp) _⟩
set_option maxRecDepth 100000 in
set_option maxHeartbeats 400000 in
theorem take_bad (b : Nat) (p : QS) (F : Nat) (caps : Array Value) (w : World) (hp : QB w b p) (hs : p.s.size ≤ 60) (hlt : p.ix < p.s.size) (hm : May F caps p.cur false w) :
    Calls Tryz.prog 136 #[.pointer (some ⟨b, 0, none⟩), .func (.func F) #[] caps] w fun e w' => e = fault p.ix ∧ Keeps [b] w w' := by
 obtain ⟨hcf, hcall⟩ := hm
 go_enter Tryz.func136, Tryz.ntmps136
 go_wp2_with (first | (go_at_call 100; refine (peek_some b p _ hp hlt hs).mono ?_; rintro e w1 ⟨rfl, hp1, hk1⟩))
 refine (hcall _ hk1).mono ?_
 rintro e w2 ⟨rfl, hk2⟩
 have hp2 := hp1.keep hk2 (by simp)
 go_wp2_with (first | (go_at_call 101; refine (pfail_any b p _ hp2).mono ?_; rintro e w3 ⟨rfl, rfl⟩; simp only [fault]))
 exact ⟨rfl, rfl, (hk1.trans hk2).mono (by simp)⟩
set_option maxRecDepth 100000 in
set_option maxHeartbeats 400000 in
theorem take_end (b : Nat) (p : QS) (fv : Value) (w : World) (hp : QB w b p) (hge : p.ix = p.s.size) :
    Calls Tryz.prog 136 #[.pointer (some ⟨b, 0, none⟩), fv] w fun e w' => e = fault p.ix ∧ Keeps [b] w w' := by
 go_enter Tryz.func136, Tryz.ntmps136
 go_wp2_with (first | (go_at_call 100; refine (peek_none b p _ hp hge).mono ?_; rintro e w1 ⟨rfl, hp1, hk1⟩) | (go_at_call 101; refine (pfail_any b p _ hp1).mono ?_; rintro e w3 ⟨rfl, rfl⟩; simp only [fault]))
 exact ⟨rfl, rfl, hk1.mono (by simp)⟩
end Go.Proofs.YtnfojonmohijpabGreatDoor
namespace Go.Proofs.YtnfojonmohijpabGreatDoor
open Go.RowKit
theorem idx_run (s : ByteArray) (c : Int) (w : World) : (callFunc 172 #[.string s, .int .u8 c]).run Tryz.prog w = .ok (.value (.int .i64 (Lib.indexByte s.data.toList c.toNat.toUInt8))) w := by
 rw [run_callFunc_indexByte Tryz.func172 (by kernel_rfl) (by kernel_rfl) (by kernel_rfl) (by kernel_rfl), Lib.run_indexByteString]
 rfl
set_option maxHeartbeats 400000 in
theorem lite_any (s : ByteArray) (c : Int) (w : World) :
    Calls Tryz.prog 150 #[.string s, .int .u8 c] w fun e w' => e = .returned (.int .i64 (Lib.indexByte s.data.toList c.toNat.toUInt8)) ∧ w' = w := by
 have hi := fun w => idx_run s c w
 go_enter Tryz.func150, Tryz.ntmps150
 go_wp2
 go_ret
 exact ⟨rfl, rfl⟩
set_option maxHeartbeats 400000 in
theorem index_any (s : ByteArray) (c : Int) (w : World) :
    Calls Tryz.prog 154 #[.string s, .int .u8 c] w fun e w' => e = .returned (.int .i64 (Lib.indexByte s.data.toList c.toNat.toUInt8)) ∧ w' = w := by
 go_enter Tryz.func154, Tryz.ntmps154
 go_wp2_with (go_at_call 150; refine (lite_any s c _).mono ?_; rintro e w' ⟨rfl, rfl⟩)
 go_ret
 exact ⟨rfl, rfl⟩
set_option maxRecDepth 100000 in
theorem hex_idx (c : Int) (h0 : 0 ≤ c) (h1 : c ≤ 255) : Lib.indexByte (ByteArray.data ⟨#[48, 49, 50, 51, 52, 53, 54, 55, 56, 57, 97, 98, 99, 100, 101, 102]⟩).toList c.toNat.toUInt8 = hexd c := by
 obtain ⟨n, rfl⟩ : ∃ n : Nat, c = n := ⟨c.toNat, by omega⟩
 have hn : n < 256 := by omega
 have key : ∀ m : Fin 256, Lib.indexByte (ByteArray.data ⟨#[48, 49, 50, 51, 52, 53, 54, 55, 56, 57, 97, 98, 99, 100, 101, 102]⟩).toList ((m.val : Int)).toNat.toUInt8 = hexd (m.val : Int) := by decide
 exact key ⟨n, hn⟩
set_option maxHeartbeats 400000 in
theorem isHex_any (c : Int) (h0 : 0 ≤ c) (h1 : c ≤ 255) (w : World) :
    Calls Tryz.prog 186 #[.int .u8 c] w fun e w' => e = .returned (.bool (decide (0 ≤ hexd c))) ∧ w' = w := by
 go_enter Tryz.func186, Tryz.ntmps186
 go_wp2_with (go_at_call 154; refine (index_any _ c _).mono ?_; rintro e w' ⟨rfl, rfl⟩; rw [hex_idx c h0 h1])
 go_ret
 exact ⟨rfl, rfl⟩
set_option maxHeartbeats 400000 in
theorem hexValue_any (c : Int) (h0 : 0 ≤ c) (h1 : c ≤ 255) (hh : 0 ≤ hexd c) (w : World) :
    Calls Tryz.prog 184 #[.int .u8 c] w fun e w' => e = .returned (.int .u8 (hexd c)) ∧ w' = w := by
 have hb := hexd_bd c
 have hb2 := hb.2
 go_enter Tryz.func184, Tryz.ntmps184
 go_wp2_with (go_at_call 154; refine (index_any _ c _).mono ?_; rintro e w' ⟨rfl, rfl⟩; rw [hex_idx c h0 h1])
 go_ret
 exact ⟨rfl, rfl⟩
theorem isHex_v (c : Int) (v : Bool) (h0 : 0 ≤ c) (h1 : c ≤ 255) (h : decide (0 ≤ hexd c) = v) (w : World) :
    Calls Tryz.prog 186 #[.int .u8 c] w fun e w' => e = .returned (.bool v) ∧ w' = w := by
 subst h; exact isHex_any c h0 h1 w
theorem or_hex (a b : Int) (ha0 : 0 ≤ a) (ha1 : a ≤ 15) (hb0 : 0 ≤ b) (hb1 : b ≤ 15) : bits .or .u8 (a * 16) b = 16 * a + b := by
 obtain ⟨x, rfl⟩ : ∃ x : Nat, a = x := ⟨a.toNat, by omega⟩
 obtain ⟨y, rfl⟩ : ∃ y : Nat, b = y := ⟨b.toNat, by omega⟩
 have key : ∀ (m n : Fin 16), bits .or .u8 ((m.val : Int) * 16) (n.val : Int) = 16 * (m.val : Int) + (n.val : Int) := by decide
 exact key ⟨x, by omega⟩ ⟨y, by omega⟩
set_option maxRecDepth 100000 in
set_option maxHeartbeats 400000 in
theorem esc1_any (c l : Int) (lb : Nat) (w : World) (hl : w.cell? ⟨lb, 0, none⟩ = some (.int .u8 l)) :
    Calls Tryz.prog 176 #[.int .u8 c, .pointer (some ⟨lb, 0, none⟩)] w fun e w' => e = .returned (.bool (!alnB c && decide (l ≤ c))) ∧ w' = w := by
 cases ha : alnB c
 all_goals
  go_enter Tryz.func176, Tryz.ntmps176
  go_wp2_with (go_at_call 171; refine (isAlnum_any c _).mono ?_; rintro e w' ⟨rfl, rfl⟩)
  all_goals go_ret
  all_goals exact ⟨by simp [ha], rfl⟩
set_option maxRecDepth 100000 in
set_option maxHeartbeats 400000 in
theorem hp1_any (c l : Int) (h0 : 0 ≤ c) (h1 : c ≤ 255) (lb : Nat) (w : World) (hl : w.cell? ⟨lb, 0, none⟩ = some (.int .u8 l)) :
    Calls Tryz.prog 185 #[.int .u8 c, .pointer (some ⟨lb, 0, none⟩)] w fun e w' => e = .returned (.bool (decide (0 ≤ hexd c) && decide (l ≤ 16 * hexd c + 15))) ∧ ∃ n, w' = w.drewN n := by
 have hb := hexd_bd c
 by_cases hh : 0 ≤ hexd c
 ·have hd : decide (0 ≤ hexd c) = true := by simpa using hh
  have hb2 := hb.2
  have IH := isHex_v c true h0 h1 hd
  have HV := hexValue_any c h0 h1 hh
  have hb15 := or_hex (hexd c) 15 hh hb2 (by omega) (by omega)
  generalize hexd c = x at *
  go_enter Tryz.func185, Tryz.ntmps185
  go_wp2_with fail
  go_quiet (first | (go_at_call 186; exact Calls.quiet_of_same (IH _)) | (go_at_call 184; exact Calls.quiet_of_same (HV _)))
  go_wp2_with fail
  go_ret
  exact ⟨ret_bool (by simp [hd]), _, rfl⟩
 ·have hd : decide (0 ≤ hexd c) = false := by simpa using hh
  have IH := isHex_v c false h0 h1 hd
  have H0 : Hid (¬ 0 ≤ hexd c) := hh
  clear hh hb
  go_enter Tryz.func185, Tryz.ntmps185
  go_wp2_with fail
  go_quiet ((go_at_call 186; exact Calls.quiet_of_same (IH _)))
  go_wp2_with fail
  go_ret
  exact ⟨by rw [hd]; rfl, _, rfl⟩
set_option maxRecDepth 100000 in
set_option maxHeartbeats 400000 in
theorem hp2_any (c l a : Int) (h0 : 0 ≤ c) (h1 : c ≤ 255) (ha0 : 0 ≤ a) (ha1 : a ≤ 15) (ab lb : Nat) (w : World) (hla : w.cell? ⟨ab, 0, none⟩ = some (.int .u8 a)) (hl : w.cell? ⟨lb, 0, none⟩ = some (.int .u8 l)) :
    Calls Tryz.prog 187 #[.int .u8 c, .pointer (some ⟨ab, 0, none⟩), .pointer (some ⟨lb, 0, none⟩)] w fun e w' => e = .returned (.bool (decide (0 ≤ hexd c) && decide (l ≤ 16 * a + hexd c))) ∧ ∃ n, w' = w.drewN n := by
 have hb := hexd_bd c
 by_cases hh : 0 ≤ hexd c
 ·have hd : decide (0 ≤ hexd c) = true := by simpa using hh
  have hb2 := hb.2
  have IH := isHex_v c true h0 h1 hd
  have HV := hexValue_any c h0 h1 hh
  have hb15 := or_hex a (hexd c) ha0 ha1 hh hb2
  generalize hexd c = x at *
  go_enter Tryz.func187, Tryz.ntmps187
  go_wp2_with fail
  go_quiet (first | (go_at_call 186; exact Calls.quiet_of_same (IH _)) | (go_at_call 184; exact Calls.quiet_of_same (HV _)))
  go_wp2_with fail
  go_ret
  exact ⟨ret_bool (by simp [hd]), _, rfl⟩
 ·have hd : decide (0 ≤ hexd c) = false := by simpa using hh
  have IH := isHex_v c false h0 h1 hd
  clear hh hb
  go_enter Tryz.func187, Tryz.ntmps187
  go_wp2_with fail
  go_quiet ((go_at_call 186; exact Calls.quiet_of_same (IH _)))
  go_wp2_with fail
  go_ret
  exact ⟨by rw [hd]; rfl, _, rfl⟩
set_option maxRecDepth 100000 in
theorem inn_idx (c : Int) (h0 : 0 ≤ c) (h1 : c ≤ 255) : decide (Lib.indexByte (ByteArray.data ⟨#[91, 93, 45, 94]⟩).toList c.toNat.toUInt8 < 0) = !decide (c = 91 ∨ c = 93 ∨ c = 45 ∨ c = 94) := by
 obtain ⟨n, rfl⟩ : ∃ n : Nat, c = n := ⟨c.toNat, by omega⟩
 have hn : n < 256 := by omega
 have key : ∀ m : Fin 256, decide (Lib.indexByte (ByteArray.data ⟨#[91, 93, 45, 94]⟩).toList ((m.val : Int)).toNat.toUInt8 < 0) = !decide ((m.val : Int) = 91 ∨ (m.val : Int) = 93 ∨ (m.val : Int) = 45 ∨ (m.val : Int) = 94) := by decide
 exact key ⟨n, hn⟩
set_option maxRecDepth 100000 in
set_option maxHeartbeats 400000 in
theorem inn1_any (c l : Int) (h0 : 0 ≤ c) (h1 : c ≤ 255) (lb : Nat) (w : World) (hl : w.cell? ⟨lb, 0, none⟩ = some (.int .u8 l)) :
    Calls Tryz.prog 193 #[.int .u8 c, .pointer (some ⟨lb, 0, none⟩)] w fun e w' => e = .returned (.bool (!decide (c = 91 ∨ c = 93 ∨ c = 45 ∨ c = 94) && decide (l ≤ c))) ∧ w' = w := by
 have hi := inn_idx c h0 h1
 by_cases hn : Lib.indexByte (ByteArray.data ⟨#[91, 93, 45, 94]⟩).toList c.toNat.toUInt8 < 0
 ·rw [decide_eq_true hn] at hi
  rw [← hi]
  clear hi
  generalize hgx : Lib.indexByte (ByteArray.data ⟨#[91, 93, 45, 94]⟩).toList c.toNat.toUInt8 = x at *
  go_enter Tryz.func193, Tryz.ntmps193
  go_wp2_with (go_at_call 154; refine (index_any _ c _).mono ?_; rintro e w' ⟨rfl, rfl⟩; rw [hgx])
  go_ret
  exact ⟨by simp, rfl⟩
 ·rw [decide_eq_false hn] at hi
  rw [← hi]
  clear hi
  generalize hgx : Lib.indexByte (ByteArray.data ⟨#[91, 93, 45, 94]⟩).toList c.toNat.toUInt8 = x at *
  go_enter Tryz.func193, Tryz.ntmps193
  go_wp2_with (go_at_call 154; refine (index_any _ c _).mono ?_; rintro e w' ⟨rfl, rfl⟩; rw [hgx])
  go_ret
  exact ⟨by simp, rfl⟩
end Go.Proofs.YtnfojonmohijpabGreatDoor
namespace Go.Proofs.YtnfojonmohijpabGreatDoor
open Go.RowKit
theorem cf_hp1 (args : Array Value) (w : World) : (callFunc 185 args).run Tryz.prog w = .ok (.enter 185 args) w := by kernel_rfl
theorem cf_hp2 (args : Array Value) (w : World) : (callFunc 187 args).run Tryz.prog w = .ok (.enter 187 args) w := by kernel_rfl
theorem cf_esc1 (args : Array Value) (w : World) : (callFunc 176 args).run Tryz.prog w = .ok (.enter 176 args) w := by kernel_rfl
theorem cf_inn1 (args : Array Value) (w : World) : (callFunc 193 args).run Tryz.prog w = .ok (.enter 193 args) w := by kernel_rfl
theorem keep_cell {w w' : World} (h : Keeps [] w w') {a : Addr} {v : Value} (hc : w.cell? a = some v) : w'.cell? a = some v :=
 (World.cell?_of_block (h.block a.block (World.block_lt_of_cell? w a hc) (by simp))).trans hc
theorem keep_cell_b {w w' : World} {b : Nat} (h : Keeps [b] w w') {a : Addr} {v : Value} (hb : a.block ≠ b) (hc : w.cell? a = some v) : w'.cell? a = some v :=
 (World.cell?_of_block (h.block a.block (World.block_lt_of_cell? w a hc) (by simpa using hb))).trans hc
def PPost (b : Nat) (p : QS) (w : World) (r : R Int) (e : Ending) (w' : World) : Prop :=
 Keeps [b] w w' ∧ match r with
  | .ok v j => e = .returned (.int .u8 v) ∧ QB w' b { p with ix := j }
  | .bad j => e = fault j
theorem may_hp1 {c l : Int} (h0 : 0 ≤ c) (h1 : c ≤ 255) {lb : Nat} {w : World} (hl : w.cell? ⟨lb, 0, none⟩ = some (.int .u8 l)) : May 185 #[.pointer (some ⟨lb, 0, none⟩)] c (decide (0 ≤ hexd c) && decide (l ≤ 16 * hexd c + 15)) w :=
 ⟨cf_hp1, fun w1 hk => (hp1_any c l h0 h1 lb w1 (keep_cell hk hl)).mono fun e w2 ⟨he, n, hw⟩ => ⟨he, by rw [hw]; exact (Keeps.refl _ _).drewN n⟩⟩
theorem may_hp2 {c l a : Int} (h0 : 0 ≤ c) (h1 : c ≤ 255) (ha0 : 0 ≤ a) (ha1 : a ≤ 15) {ab lb : Nat} {w : World} (hla : w.cell? ⟨ab, 0, none⟩ = some (.int .u8 a)) (hl : w.cell? ⟨lb, 0, none⟩ = some (.int .u8 l)) : May 187 #[.pointer (some ⟨ab, 0, none⟩), .pointer (some ⟨lb, 0, none⟩)] c (decide (0 ≤ hexd c) && decide (l ≤ 16 * a + hexd c)) w :=
 ⟨cf_hp2, fun w1 hk => (hp2_any c l a h0 h1 ha0 ha1 ab lb w1 (keep_cell hk hla) (keep_cell hk hl)).mono fun e w2 ⟨he, n, hw⟩ => ⟨he, by rw [hw]; exact (Keeps.refl _ _).drewN n⟩⟩
theorem may_esc1 {c l : Int} {lb : Nat} {w : World} (hl : w.cell? ⟨lb, 0, none⟩ = some (.int .u8 l)) : May 176 #[.pointer (some ⟨lb, 0, none⟩)] c (!alnB c && decide (l ≤ c)) w :=
 ⟨cf_esc1, fun w1 hk => (esc1_any c l lb w1 (keep_cell hk hl)).mono fun e w2 ⟨he, hw⟩ => ⟨he, by rw [hw]; exact Keeps.refl _ _⟩⟩
theorem may_inn1 {c l : Int} (h0 : 0 ≤ c) (h1 : c ≤ 255) {lb : Nat} {w : World} (hl : w.cell? ⟨lb, 0, none⟩ = some (.int .u8 l)) : May 193 #[.pointer (some ⟨lb, 0, none⟩)] c (!decide (c = 91 ∨ c = 93 ∨ c = 45 ∨ c = 94) && decide (l ≤ c)) w :=
 ⟨cf_inn1, fun w1 hk => (inn1_any c l h0 h1 lb w1 (keep_cell hk hl)).mono fun e w2 ⟨he, hw⟩ => ⟨he, by rw [hw]; exact Keeps.refl _ _⟩⟩
theorem take_may (b : Nat) (p : QS) (F : Nat) (caps : Array Value) (v : Bool) (w : World) (hp : QB w b p) (hs : p.s.size ≤ 60) (hle : p.ix ≤ p.s.size) (hm : 0 ≤ p.cur → May F caps p.cur v w) (r : R Int)
    (hr : r = if 0 ≤ p.cur ∧ v = true then .ok p.cur (p.ix + 1) else .bad p.ix) :
    Calls Tryz.prog 136 #[.pointer (some ⟨b, 0, none⟩), .func (.func F) #[] caps] w (PPost b p w r) := by
 subst hr
 by_cases hlt : p.ix < p.s.size
 ·have h0 : 0 ≤ p.cur := by show 0 ≤ at' p.s p.ix; rw [at'_lt hlt]; omega
  cases v
  ·rw [if_neg (by simp)]
   refine (take_bad b p F caps w hp hs hlt (hm h0)).mono ?_
   rintro e w' ⟨rfl, hk⟩
   exact ⟨hk, rfl⟩
  ·rw [if_pos ⟨h0, rfl⟩]
   refine (take_ok b p F caps w hp hs hlt (hm h0)).mono ?_
   rintro e w' ⟨rfl, hq, hk⟩
   exact ⟨hk, rfl, hq⟩
 ·have hge : p.ix = p.s.size := by omega
  have h0 : p.cur = -1 := at'_ge (by omega)
  rw [if_neg (by rw [h0]; omega)]
  refine (take_end b p _ w hp hge).mono ?_
  rintro e w' ⟨rfl, hk⟩
  exact ⟨hk, rfl⟩
theorem boxed (b : Nat) (p : QS) (l : Int) (w : World) (hp : QB w b p) : QB (w.alloc (.cells #[.int .u8 l] 5)) b p ∧ (w.alloc (.cells #[.int .u8 l] 5)).cell? ⟨w.heap.size, 0, none⟩ = some (.int .u8 l) ∧ Keeps [b] w (w.alloc (.cells #[.int .u8 l] 5)) ∧ w.heap.size ≠ b :=
 ⟨hp.keep ((Keeps.refl [] w).alloc _) (by simp), by simp, (Keeps.refl [b] w).alloc _, by have := hp.lt; omega⟩
theorem hexS_iff (s : ByteArray) (ahead : Int) (last : Bool) (least : Int) (i : Nat) (g : Int) (hg : g = if last then ahead + hexd (at' s i) else 16 * (ahead + hexd (at' s i)) + 15) :
    hexS s ahead last least i = (if 0 ≤ at' s i ∧ (decide (0 ≤ hexd (at' s i)) && decide (least ≤ g)) = true then .ok (hexd (at' s i)) (i + 1) else .bad i) := by
 unfold hexS
 rw [← hg]
 by_cases h : 0 ≤ hexd (at' s i) ∧ least ≤ g
 ·have hc : 0 ≤ at' s i := by
     by_cases hh : 0 ≤ at' s i
     ·exact hh
     ·exfalso
      have := h.1
      unfold hexd at this; rw [if_neg (by omega), if_neg (by omega)] at this; omega
  rw [if_neg (by omega), if_pos ⟨hc, by simp [h.1, h.2]⟩]
 ·rw [if_pos (by omega), if_neg (by rintro ⟨_, hh⟩; simp at hh; exact h hh)]
set_option maxRecDepth 100000 in
set_option maxHeartbeats 1000000 in
theorem hexPair_prog (b : Nat) (p : QS) (least : Int) (w : World) (hp : QB w b p) (hs : p.s.size ≤ 60) (hle : p.ix ≤ p.s.size) (hl0 : 0 ≤ least) (hl1 : least ≤ 255) :
    Calls Tryz.prog 175 #[.pointer (some ⟨b, 0, none⟩), .int .u8 least] w (PPost b p w (hexPS p.s least p.ix)) := by
 have hmf : ∀ (fn : Fn) (first cap : Array Value) (w : World), (Instr.makeFunc fn first cap).run Tryz.prog w = .ok (.func fn first cap) w := fun _ _ _ _ => rfl
 obtain ⟨hq0, hl, hk0, hne⟩ := boxed b p least w hp
 have hcb := at'_bd p.s p.ix
 have hcur : p.cur = at' p.s p.ix := rfl
 go_enter Tryz.func175, Tryz.ntmps175
 go_wp2_with fail
 generalize (w.alloc (.cells #[.int .u8 least] 5)) = W at *
 generalize w.heap.size = lb at *
 have r1 : hexS p.s 0 false least p.ix = (if 0 ≤ p.cur ∧ (decide (0 ≤ hexd p.cur) && decide (least ≤ 16 * hexd p.cur + 15)) = true then .ok (hexd p.cur) (p.ix + 1) else .bad p.ix) := by
  have := hexS_iff p.s 0 false least p.ix (16 * hexd (at' p.s p.ix) + 15) (by simp)
  exact this
 refine (take_may b p 185 _ _ W hq0 hs hle (fun h => may_hp1 h (by omega) hl) _ rfl).mono ?_
 rintro e w1 ⟨hk1, hc1⟩
 by_cases h1 : 0 ≤ p.cur ∧ (decide (0 ≤ hexd p.cur) && decide (least ≤ 16 * hexd p.cur + 15)) = true
 ·rw [if_pos h1] at hc1 r1
  obtain ⟨rfl, hq1⟩ := hc1
  have hx0 : 0 ≤ hexd p.cur := by have := h1.2; simp at this; exact this.1
  have hx1 := (hexd_bd p.cur).2
  have HV := hexValue_any p.cur h1.1 (by rw [hcur]; omega) hx0
  have hl1' := keep_cell_b hk1 hne hl
  generalize hexd p.cur = x at *
  clear hcur h1 hcb
  go_wp2_with (first | (go_at_call 184; refine (HV _).mono ?_; rintro e w1 ⟨rfl, rfl⟩))
  obtain ⟨hq2, hla, hk2, hne2⟩ := boxed b { p with ix := p.ix + 1 } x w1 hq1
  have hl2 := keep_cell ((Keeps.refl [] w1).alloc (.cells #[.int .u8 x] 5)) hl1'
  generalize (w1.alloc (.cells #[.int .u8 x] 5)) = W2 at *
  generalize w1.heap.size = ab at *
  have hle2 : p.ix + 1 ≤ p.s.size := by
   have := (hexS_ok r1).2.2.2.1
   exact this
  have hcb := at'_bd p.s (p.ix + 1)
  have r2 : hexS p.s (16 * x) true least (p.ix + 1) = (if 0 ≤ at' p.s (p.ix + 1) ∧ (decide (0 ≤ hexd (at' p.s (p.ix + 1))) && decide (least ≤ 16 * x + hexd (at' p.s (p.ix + 1)))) = true then .ok (hexd (at' p.s (p.ix + 1))) (p.ix + 2) else .bad (p.ix + 1)) :=
   hexS_iff p.s (16 * x) true least (p.ix + 1) (16 * x + hexd (at' p.s (p.ix + 1))) (by simp)
  have HP : hexPS p.s least p.ix = (hexS p.s (16 * x) true least (p.ix + 1)).bind fun b k => .ok (16 * x + b) k := by
   unfold hexPS; rw [r1]; rfl
  refine (take_may b { p with ix := p.ix + 1 } 187 _ _ W2 hq2 hs hle2 (fun h => may_hp2 h hcb.2 hx0 hx1 hla hl2) (if 0 ≤ at' p.s (p.ix + 1) ∧ (decide (0 ≤ hexd (at' p.s (p.ix + 1))) && decide (least ≤ 16 * x + hexd (at' p.s (p.ix + 1)))) = true then .ok (at' p.s (p.ix + 1)) (p.ix + 2) else .bad (p.ix + 1)) rfl).mono ?_
  rintro e w3 ⟨hk3, hc3⟩
  have hkk : Keeps [b] w w3 := ((hk0.trans hk1).trans hk2).trans hk3
  by_cases h2 : 0 ≤ at' p.s (p.ix + 1) ∧ (decide (0 ≤ hexd (at' p.s (p.ix + 1))) && decide (least ≤ 16 * x + hexd (at' p.s (p.ix + 1)))) = true
  ·rw [if_pos h2] at r2
   rw [if_pos h2] at hc3
   obtain ⟨rfl, hq3⟩ := hc3
   have hy0 : 0 ≤ hexd (at' p.s (p.ix + 1)) := by have := h2.2; simp at this; exact this.1
   have hy1 := (hexd_bd (at' p.s (p.ix + 1))).2
   have HV2 := hexValue_any (at' p.s (p.ix + 1)) h2.1 hcb.2 hy0
   have HF : Hid (hexPS p.s least p.ix = .ok (16 * x + hexd (at' p.s (p.ix + 1))) (p.ix + 2)) := by show hexPS p.s least p.ix = _; rw [HP, r2]; rfl
   have ho := or_hex x (hexd (at' p.s (p.ix + 1))) hx0 hx1 hy0 hy1
   have hla3 := keep_cell_b hk3 hne2 hla
   clear r1 r2 HP h2 hcb
   go_wp2_with (first | (go_at_call 184; refine (HV2 _).mono ?_; rintro e w3 ⟨rfl, rfl⟩))
   go_ret
   refine ⟨hkk, ?_⟩
   rw [HF.out]
   exact ⟨ret_int (by first | rfl | exact ho), hq3⟩
  ·rw [if_neg h2] at r2
   rw [if_neg h2] at hc3
   subst hc3
   simp only [fault]
   exact ⟨rfl, hkk, by rw [HP, r2]; rfl⟩
 ·rw [if_neg h1] at hc1 r1
  subst hc1
  simp only [fault]
  exact ⟨rfl, hk0.trans hk1, by unfold hexPS; rw [r1]; rfl⟩
end Go.Proofs.YtnfojonmohijpabGreatDoor
namespace Go.Proofs.YtnfojonmohijpabGreatDoor
open Go.RowKit
set_option maxRecDepth 100000 in
set_option maxHeartbeats 1000000 in
theorem escaped_prog (b : Nat) (p : QS) (least : Int) (w : World) (hp : QB w b p) (hs : p.s.size ≤ 60) (hl0 : 0 ≤ least) (hl1 : least ≤ 255) (h92 : p.cur = 92) :
    Calls Tryz.prog 158 #[.pointer (some ⟨b, 0, none⟩), .int .u8 least] w (PPost b p w (escS p.s least (p.ix + 1))) := by
 have hmf : ∀ (fn : Fn) (first cap : Array Value) (w : World), (Instr.makeFunc fn first cap).run Tryz.prog w = .ok (.func fn first cap) w := fun _ _ _ _ => rfl
 obtain ⟨hq0, hl, hk0, hne⟩ := boxed b p least w hp
 have hlt : p.ix < p.s.size := at'_nn (by show 0 ≤ p.cur; omega)
 have EX := fun w1 h => expect_ok b p 92 (by omega) w1 h hs h92
 clear h92
 go_enter Tryz.func158, Tryz.ntmps158
 go_wp2_with fail
 generalize (w.alloc (.cells #[.int .u8 least] 5)) = W at *
 generalize w.heap.size = lb at *
 refine (EX _ hq0).mono ?_
 rintro e w1 ⟨rfl, hq1, hk1⟩
 have hl2 := keep_cell_b hk1 hne hl
 go_wp2_with fail
 refine (skip_any b { p with ix := p.ix + 1 } 120 (by omega) _ hq1 hlt hs).mono ?_
 rintro e w2 ⟨rfl, hq2, hk2⟩
 have hl3 := keep_cell_b hk2 hne hl2
 have hkA : Keeps [b] w w2 := (hk0.trans hk1).trans hk2
 by_cases hx : at' p.s (p.ix + 1) = 120
 ·have hd : decide (QS.cur { p with ix := p.ix + 1 } = 120) = true := by simpa using (show QS.cur { p with ix := p.ix + 1 } = 120 from hx)
  have htk : QS.took { p with ix := p.ix + 1 } 120 = { p with ix := p.ix + 2 } := by unfold QS.took; rw [if_pos (show QS.cur { p with ix := p.ix + 1 } = 120 from hx)]
  rw [htk] at hq2
  have hlt2 : p.ix + 1 < p.s.size := at'_nn (by omega)
  have HE : Hid (escS p.s least (p.ix + 1) = hexPS p.s least (p.ix + 2)) := escS_x hx
  clear hx
  rw [hd]
  go_wp2_with fail
  refine (hexPair_prog b { p with ix := p.ix + 2 } least _ hq2 hs hlt2 hl0 hl1).mono ?_
  rintro e w3 ⟨hk3, hc3⟩
  cases hr : hexPS p.s least (p.ix + 2) with
  | ok v j =>
   rw [show hexPS (QS.s { p with ix := p.ix + 2 }) least (QS.ix { p with ix := p.ix + 2 }) = .ok v j from hr] at hc3
   obtain ⟨rfl, hq3⟩ := hc3
   have HE2 : Hid (escS p.s least (p.ix + 1) = .ok v j) := HE.out.trans hr
   clear hr
   go_wp2_with fail
   go_ret
   refine ⟨hkA.trans hk3, ?_⟩
   rw [HE2.out]
   exact ⟨rfl, hq3⟩
  | bad j =>
   rw [show hexPS (QS.s { p with ix := p.ix + 2 }) least (QS.ix { p with ix := p.ix + 2 }) = .bad j from hr] at hc3
   subst hc3
   simp only [fault]
   exact ⟨rfl, hkA.trans hk3, by rw [HE.out, hr]; rfl⟩
 ·have hd : decide (QS.cur { p with ix := p.ix + 1 } = 120) = false := by simpa using (show ¬ QS.cur { p with ix := p.ix + 1 } = 120 from hx)
  have htk : QS.took { p with ix := p.ix + 1 } 120 = { p with ix := p.ix + 1 } := by unfold QS.took; rw [if_neg (show ¬ QS.cur { p with ix := p.ix + 1 } = 120 from hx)]
  rw [htk] at hq2
  have HE : Hid (escS p.s least (p.ix + 1) = if 0 ≤ at' p.s (p.ix + 1) ∧ (!alnB (at' p.s (p.ix + 1)) && decide (least ≤ at' p.s (p.ix + 1))) = true then .ok (at' p.s (p.ix + 1)) (p.ix + 2) else .bad (p.ix + 1)) := by
   show escS p.s least (p.ix + 1) = _
   unfold escS
   rw [if_neg hx]
   by_cases hc : at' p.s (p.ix + 1) < 0 ∨ alnB (at' p.s (p.ix + 1)) = true ∨ at' p.s (p.ix + 1) < least
   ·rw [if_pos hc, if_neg]
    rintro ⟨a, bb⟩
    simp at bb
    rcases hc with h | h | h
    ·omega
    ·rw [h] at bb; cases bb.1
    ·omega
   ·rw [if_neg hc, if_pos]
    refine ⟨Int.not_lt.1 fun h => hc (Or.inl h), ?_⟩
    have h1 : alnB (at' p.s (p.ix + 1)) = false := Bool.eq_false_iff.2 fun h => hc (Or.inr (Or.inl h))
    have h2 : least ≤ at' p.s (p.ix + 1) := Int.not_lt.1 fun h => hc (Or.inr (Or.inr h))
    simp [h1, h2]
  clear hx
  rw [hd]
  go_wp2_with fail
  refine (take_may b { p with ix := p.ix + 1 } 176 _ _ _ hq2 hs hlt (fun h => may_esc1 hl3) (if 0 ≤ at' p.s (p.ix + 1) ∧ (!alnB (at' p.s (p.ix + 1)) && decide (least ≤ at' p.s (p.ix + 1))) = true then .ok (at' p.s (p.ix + 1)) (p.ix + 2) else .bad (p.ix + 1)) rfl).mono ?_
  rintro e w3 ⟨hk3, hc3⟩
  by_cases hc : 0 ≤ at' p.s (p.ix + 1) ∧ (!alnB (at' p.s (p.ix + 1)) && decide (least ≤ at' p.s (p.ix + 1))) = true
  ·rw [if_pos hc] at hc3
   obtain ⟨rfl, hq3⟩ := hc3
   have HE2 : Hid (escS p.s least (p.ix + 1) = .ok (at' p.s (p.ix + 1)) (p.ix + 2)) := by show escS p.s least (p.ix + 1) = _; rw [HE.out, if_pos hc]
   clear hc
   go_wp2_with fail
   go_ret
   refine ⟨hkA.trans hk3, ?_⟩
   rw [HE2.out]
   exact ⟨rfl, hq3⟩
  ·rw [if_neg hc] at hc3
   subst hc3
   simp only [fault]
   exact ⟨rfl, hkA.trans hk3, by rw [HE.out, if_neg hc]; rfl⟩
set_option maxRecDepth 100000 in
set_option maxHeartbeats 1000000 in
theorem inner_prog (b : Nat) (p : QS) (least : Int) (w : World) (hp : QB w b p) (hs : p.s.size ≤ 60) (hle : p.ix ≤ p.s.size) (hl0 : 0 ≤ least) (hl1 : least ≤ 255) :
    Calls Tryz.prog 182 #[.pointer (some ⟨b, 0, none⟩), .int .u8 least] w (PPost b p w (innS p.s least p.ix)) := by
 have hmf : ∀ (fn : Fn) (first cap : Array Value) (w : World), (Instr.makeFunc fn first cap).run Tryz.prog w = .ok (.func fn first cap) w := fun _ _ _ _ => rfl
 obtain ⟨hq0, hl, hk0, hne⟩ := boxed b p least w hp
 have hcb := at'_bd p.s p.ix
 go_enter Tryz.func182, Tryz.ntmps182
 go_wp2_with fail
 generalize (w.alloc (.cells #[.int .u8 least] 5)) = W at *
 generalize w.heap.size = lb at *
 refine (ahead_any b p 92 (by omega) _ hq0 hle hs).mono ?_
 rintro e w1 ⟨rfl, hq1, hk1⟩
 have hl2 := keep_cell hk1 hl
 have hkA : Keeps [b] w w1 := hk0.trans (hk1.mono (by simp))
 by_cases hx : at' p.s p.ix = 92
 ·have hd : decide (p.cur = 92) = true := by simpa using (show p.cur = 92 from hx)
  have HE : Hid (innS p.s least p.ix = escS p.s least (p.ix + 1)) := by show innS p.s least p.ix = _; unfold innS; rw [if_pos hx]
  have hcur : p.cur = 92 := hx
  have EC := fun w1 h => escaped_prog b p least w1 h hs hl0 hl1 hcur
  clear hx hcur
  rw [hd]
  go_wp2_with fail
  refine (EC _ hq1).mono ?_
  rintro e w3 ⟨hk3, hc3⟩
  cases hr : escS p.s least (p.ix + 1) with
  | ok v j =>
   rw [hr] at hc3
   obtain ⟨rfl, hq3⟩ := hc3
   have HE2 : Hid (innS p.s least p.ix = .ok v j) := HE.out.trans hr
   clear hr
   go_wp2_with fail
   go_ret
   refine ⟨hkA.trans hk3, ?_⟩
   rw [HE2.out]
   exact ⟨rfl, hq3⟩
  | bad j =>
   rw [hr] at hc3
   subst hc3
   simp only [fault]
   exact ⟨rfl, hkA.trans hk3, by rw [HE.out, hr]; rfl⟩
 ·have hd : decide (p.cur = 92) = false := by simpa using (show ¬ p.cur = 92 from hx)
  have HE : Hid (innS p.s least p.ix = if 0 ≤ at' p.s p.ix ∧ (!decide (at' p.s p.ix = 91 ∨ at' p.s p.ix = 93 ∨ at' p.s p.ix = 45 ∨ at' p.s p.ix = 94) && decide (least ≤ at' p.s p.ix)) = true then .ok (at' p.s p.ix) (p.ix + 1) else .bad p.ix) := by
   show innS p.s least p.ix = _
   unfold innS
   rw [if_neg hx]
   by_cases hc : at' p.s p.ix < 0 ∨ at' p.s p.ix = 91 ∨ at' p.s p.ix = 93 ∨ at' p.s p.ix = 45 ∨ at' p.s p.ix = 94 ∨ at' p.s p.ix < least
   ·rw [if_pos hc, if_neg]
    rintro ⟨a, bb⟩
    simp at bb
    omega
   ·rw [if_neg hc, if_pos]
    refine ⟨by omega, ?_⟩
    have h1 : ¬ (at' p.s p.ix = 91 ∨ at' p.s p.ix = 93 ∨ at' p.s p.ix = 45 ∨ at' p.s p.ix = 94) := by omega
    have h2 : least ≤ at' p.s p.ix := by omega
    simp only [decide_eq_false h1, decide_eq_true h2]; rfl
  clear hx
  rw [hd]
  go_wp2_with fail
  refine (take_may b p 193 _ _ _ hq1 hs hle (fun h => may_inn1 h hcb.2 hl2) (if 0 ≤ at' p.s p.ix ∧ (!decide (at' p.s p.ix = 91 ∨ at' p.s p.ix = 93 ∨ at' p.s p.ix = 45 ∨ at' p.s p.ix = 94) && decide (least ≤ at' p.s p.ix)) = true then .ok (at' p.s p.ix) (p.ix + 1) else .bad p.ix) rfl).mono ?_
  rintro e w3 ⟨hk3, hc3⟩
  by_cases hc : 0 ≤ at' p.s p.ix ∧ (!decide (at' p.s p.ix = 91 ∨ at' p.s p.ix = 93 ∨ at' p.s p.ix = 45 ∨ at' p.s p.ix = 94) && decide (least ≤ at' p.s p.ix)) = true
  ·rw [if_pos hc] at hc3
   obtain ⟨rfl, hq3⟩ := hc3
   have HE2 : Hid (innS p.s least p.ix = .ok (at' p.s p.ix) (p.ix + 1)) := by show innS p.s least p.ix = _; rw [HE.out, if_pos hc]
   clear hc
   go_wp2_with fail
   go_ret
   refine ⟨hkA.trans hk3, ?_⟩
   rw [HE2.out]
   exact ⟨rfl, hq3⟩
  ·rw [if_neg hc] at hc3
   subst hc3
   simp only [fault]
   exact ⟨rfl, hkA.trans hk3, by rw [HE.out, if_neg hc]; rfl⟩
end Go.Proofs.YtnfojonmohijpabGreatDoor
