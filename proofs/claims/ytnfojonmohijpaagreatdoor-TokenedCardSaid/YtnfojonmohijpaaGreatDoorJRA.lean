/-
  DERIVED. Contracts of the reference's small functions (has, digit, alnum, more, fail, next, take, need): what each call gives and what it does to the one block that the pattern's state lies in. No condition but those that stand in each theorem.
-/
import Derived.Test.YtnfojonmohijpaaGreatDoorProg
import Derived.Test.YtnfojonmohijpaaGreatDoorJSpec
import Derived.WalkKit
import Derived.WalkSpells
import Derived.WalkLawsBesides
import Derived.Deep.QuietTactic
import Derived.BigQuiet
set_option linter.unusedSimpArgs false
set_option linter.unusedVariables false
namespace Go.Proofs.YtnfojonmohijpaaGreatDoor
open Go.RowKit
structure PS where
 s : ByteArray
 nodes : Value
 root : Nat
 bg : Bool
 en : Bool
 gr : Nat
 bad : Int
 ix : Nat
 deep : Nat
def PS.cells (p : PS) : Array Value := #[.string p.s, p.nodes, .int .i64 p.root, .bool p.bg, .bool p.en, .int .i64 p.gr, .int .i64 p.bad, .int .i64 p.ix, .int .i64 p.deep]
def PB (w : World) (b : Nat) (p : PS) : Prop := w.heap[b]? = some (.cells p.cells 102 (0, 0))
structure Keeps (S : List Nat) (w w' : World) : Prop where
 os : w'.os = w.os
 tape : w'.tape = w.tape
 output : w'.output = w.output
 size : w.heap.size ≤ w'.heap.size
 block : ∀ k, k < w.heap.size → k ∉ S → w'.heap[k]? = w.heap[k]?
theorem Keeps.refl (S : List Nat) (w : World) : Keeps S w w := ⟨rfl, rfl, rfl, Nat.le_refl _, fun _ _ _ => rfl⟩
theorem Keeps.trans {S : List Nat} {a b c : World} (h : Keeps S a b) (k : Keeps S b c) : Keeps S a c :=
 ⟨k.os.trans h.os, k.tape.trans h.tape, k.output.trans h.output, Nat.le_trans h.size k.size, fun i hi hn => (k.block i (Nat.lt_of_lt_of_le hi h.size) hn).trans (h.block i hi hn)⟩
theorem Keeps.drew {S : List Nat} {a w : World} (h : Keeps S a w) : Keeps S a w.drew := ⟨h.os, h.tape, h.output, h.size, h.block⟩
theorem Keeps.drewN {S : List Nat} {a w : World} (h : Keeps S a w) (n : Nat) : Keeps S a (w.drewN n) := ⟨h.os, h.tape, h.output, h.size, h.block⟩
theorem Keeps.setCell {S : List Nat} {a w : World} (h : Keeps S a w) {p : Addr} (hp : p.block ∈ S ∨ a.heap.size ≤ p.block) (u : Value) : Keeps S a (w.setCell p u) :=
 ⟨h.os, h.tape, h.output, by simpa using h.size, fun k hk hn => by
   rw [Below.heap_setCell]
   · exact h.block k hk hn
   · rintro rfl
     rcases hp with hp | hp
     · exact hn hp
     · omega⟩
theorem Keeps.alloc {S : List Nat} {a w : World} (h : Keeps S a w) (o : Obj) : Keeps S a (w.alloc o) :=
 ⟨h.os, h.tape, h.output, by have := h.size; simp; omega, fun k hk hn => by
   rw [Below.heap_alloc _ _ _ (Nat.lt_of_lt_of_le hk h.size)]
   exact h.block k hk hn⟩
theorem PB.lt {w : World} {b : Nat} {p : PS} (h : PB w b p) : b < w.heap.size := (Array.getElem?_eq_some_iff.1 h).1
theorem PB.keep {w w' : World} {b : Nat} {p : PS} {S : List Nat} (h : PB w b p) (hk : Keeps S w w') (hb : b ∉ S) : PB w' b p := (hk.block b h.lt hb).trans h
theorem PB.drewN {w : World} {b : Nat} {p : PS} (h : PB w b p) (n : Nat) : PB (w.drewN n) b p := h
theorem PB.main {w : World} {b : Nat} {p : PS} (h : PB w b p) :
    w.cell? ⟨b, 0, none⟩ = some (.string p.s) ∧ w.cell? ⟨b, 6, none⟩ = some (.int .i64 p.bad) ∧ w.cell? ⟨b, 7, none⟩ = some (.int .i64 p.ix) ∧
    w.frozen? ⟨b, 6, none⟩ = false ∧ w.frozen? ⟨b, 7, none⟩ = false := by
 unfold PB at h
 simp [World.cell?, World.frozen?, h, PS.cells]
theorem PB.setIx {w : World} {b : Nat} {p : PS} (h : PB w b p) (x : Nat) : PB (w.setCell ⟨b, 7, none⟩ (.int .i64 x)) b { p with ix := x } := by
 unfold PB at *
 simp [World.setCell, Array.getElem?_modify, h, PS.cells]
theorem PB.setBad {w : World} {b : Nat} {p : PS} (h : PB w b p) (x : Int) : PB (w.setCell ⟨b, 6, none⟩ (.int .i64 x)) b { p with bad := x } := by
 unfold PB at *
 simp [World.setCell, Array.getElem?_modify, h, PS.cells]
theorem ret_bool {a b : Bool} (h : a = true ↔ b = true) : Ending.returned (.bool a) = .returned (.bool b) := by
 have : a = b := by cases a <;> cases b <;> simp at h ⊢
 rw [this]
theorem ret_int {k : IntKind} {a b : Int} (h : a = b) : Ending.returned (.int k a) = .returned (.int k b) := by rw [h]
def moreB (p : PS) : Bool := decide (p.bad < 0) && decide (p.ix < p.s.size)
set_option maxHeartbeats 400000 in
theorem more_any (b : Nat) (p : PS) (w : World) (hp : PB w b p) :
    Calls Tryz.prog 83 #[.pointer (some ⟨b, 0, none⟩)] w fun e w' => e = .returned (.bool (moreB p)) ∧ ∃ n, w' = w.drewN n := by
 obtain ⟨h0, h6, h7, _, _⟩ := hp.main
 by_cases hb : p.bad < 0
 ·have hd : decide (p.bad < 0) = true := by simpa using hb
  go_enter Tryz.func83, Tryz.ntmps83
  go_wp2
  go_quiet (fail)
  go_wp2
  go_ret
  exact ⟨by simp [moreB, hb], _, rfl⟩
 ·have hd : decide (p.bad < 0) = false := by simpa using hb
  go_enter Tryz.func83, Tryz.ntmps83
  go_wp2
  go_quiet (fail)
  go_wp2
  go_ret
  exact ⟨by simp [moreB, hd], _, rfl⟩
set_option maxHeartbeats 400000 in
theorem fail_good (b : Nat) (p : PS) (w : World) (hp : PB w b p) (hb : p.bad < 0) :
    Calls Tryz.prog 84 #[.pointer (some ⟨b, 0, none⟩)] w fun e w' => e = .returned (.tuple #[]) ∧ w' = w.setCell ⟨b, 6, none⟩ (.int .i64 p.ix) := by
 obtain ⟨h0, h6, h7, f6, f7⟩ := hp.main
 go_enter Tryz.func84, Tryz.ntmps84
 go_wp2
 go_end0
 exact ⟨rfl, rfl⟩
set_option maxHeartbeats 400000 in
theorem fail_bad (b : Nat) (p : PS) (w : World) (hp : PB w b p) (hb : 0 ≤ p.bad) :
    Calls Tryz.prog 84 #[.pointer (some ⟨b, 0, none⟩)] w fun e w' => e = .returned (.tuple #[]) ∧ w' = w := by
 obtain ⟨h0, h6, h7, f6, f7⟩ := hp.main
 go_enter Tryz.func84, Tryz.ntmps84
 go_wp2
 go_end0
 exact ⟨rfl, rfl⟩
def PS.failed (p : PS) : PS := if p.bad < 0 then { p with bad := p.ix } else p
theorem fail_any (b : Nat) (p : PS) (w : World) (hp : PB w b p) :
    Calls Tryz.prog 84 #[.pointer (some ⟨b, 0, none⟩)] w fun e w' => e = .returned (.tuple #[]) ∧ PB w' b p.failed ∧ Keeps [b] w w' := by
 by_cases hb : p.bad < 0
 ·refine (fail_good b p w hp hb).mono ?_
  rintro e w' ⟨rfl, rfl⟩
  exact ⟨rfl, by simpa [PS.failed, hb] using hp.setBad p.ix, (Keeps.refl _ _).setCell (by simp) _⟩
 ·refine (fail_bad b p w hp (by omega)).mono ?_
  rintro e w' ⟨rfl, rfl⟩
  exact ⟨rfl, by simpa [PS.failed, hb] using hp, Keeps.refl _ _⟩
def PS.cur (p : PS) : Int := if p.bad < 0 then at' p.s p.ix else -1
theorem PS.cur_more {p : PS} (h : moreB p = true) : ∃ hk : p.ix < p.s.size, p.bad < 0 ∧ p.cur = (p.s[p.ix].toNat : Int) := by
 simp [moreB] at h
 exact ⟨by omega, h.1, by simp [PS.cur, h.1, at'_lt h.2]⟩
theorem PS.cur_none {p : PS} (h : moreB p = false) : p.cur = -1 := by
 simp [moreB] at h
 unfold PS.cur
 split
 ·exact at'_ge (by have := h (by assumption); omega)
 ·rfl
theorem moreB_eq (p : PS) : moreB p = decide (0 ≤ p.cur) := by
 cases h : moreB p
 ·simp [PS.cur_none h]
 ·obtain ⟨hk, _, hc⟩ := PS.cur_more h
  rw [hc]; simp
theorem PS.cur_good {p : PS} (h : 0 ≤ p.cur) : p.bad < 0 ∧ p.ix < p.s.size ∧ p.cur = at' p.s p.ix := by
 unfold PS.cur at *
 split at h
 ·rename_i hb; simp [hb]; exact at'_nn h
 ·omega
set_option maxHeartbeats 400000 in
theorem next_any (b : Nat) (p : PS) (c : Int) (w : World) (hp : PB w b p) (hc : 0 ≤ c) :
    Calls Tryz.prog 134 #[.pointer (some ⟨b, 0, none⟩), .int .u8 c] w fun e w' => e = .returned (.bool (decide (p.cur = c))) ∧ ∃ n, w' = w.drewN n := by
 obtain ⟨c0, h6, h7, _, _⟩ := hp.main
 cases hm : moreB p
 ·go_enter Tryz.func134, Tryz.ntmps134
  go_wp2_with (go_at_call 83; refine (more_any b p _ hp).mono ?_; rintro e w' ⟨rfl, n, rfl⟩)
  go_quiet (fail)
  go_wp2
  go_ret
  exact ⟨by simp [PS.cur_none hm]; omega, _, World.drewN_drewN _ _ _⟩
 ·obtain ⟨hk, hb, hcur⟩ := PS.cur_more hm
  have hki : (p.ix : Int) < (p.s.size : Int) := by omega
  have hk0 : (0 : Int) ≤ (p.ix : Int) := by omega
  have HC : Hid (p.cur = (p.s[p.ix].toNat : Int)) := hcur
  clear hcur
  go_enter Tryz.func134, Tryz.ntmps134
  go_wp2_with (go_at_call 83; refine (more_any b p _ hp).mono ?_; rintro e w' ⟨rfl, n, rfl⟩)
  go_quiet (fail)
  go_wp2
  go_ret
  exact ⟨by rw [HC.out]; simp [BEq.beq], _, World.drewN_drewN _ _ _⟩
def PS.took (p : PS) (c : Int) : PS := if p.cur = c then { p with ix := p.ix + 1 } else p
set_option maxHeartbeats 400000 in
theorem take_any (b : Nat) (p : PS) (c : Int) (w : World) (hp : PB w b p) (hc : 0 ≤ c) (hs : p.s.size ≤ 60) :
    Calls Tryz.prog 81 #[.pointer (some ⟨b, 0, none⟩), .int .u8 c] w fun e w' => e = .returned (.bool (decide (p.cur = c))) ∧ PB w' b (p.took c) ∧ Keeps [b] w w' := by
 obtain ⟨c0, h6, h7, f6, f7⟩ := hp.main
 by_cases h : p.cur = c
 ·have hd : decide (p.cur = c) = true := by simpa using h
  have H : Hid (p.cur = c) := h
  have h0 := (PS.cur_good (p := p) (by omega)).2.1
  clear h
  have hb1 : (0 : Int) ≤ (p.ix : Int) := by omega
  have hb2 : (p.ix : Int) ≤ 60 := by omega
  go_enter Tryz.func81, Tryz.ntmps81
  go_wp2_with (go_at_call 134; refine (next_any b p c _ hp hc).mono ?_; rintro e w' ⟨rfl, n, rfl⟩)
  go_ret
  exact ⟨by simp [hd], by simp only [PS.took, H.out, if_true]; exact (hp.drewN n).setIx (p.ix + 1), ((Keeps.refl _ _).drewN n).setCell (by simp) _⟩
 ·have hd : decide (p.cur = c) = false := by simpa using h
  have H : Hid (¬ p.cur = c) := h
  clear h
  go_enter Tryz.func81, Tryz.ntmps81
  go_wp2_with (go_at_call 134; refine (next_any b p c _ hp hc).mono ?_; rintro e w' ⟨rfl, n, rfl⟩)
  go_ret
  exact ⟨by simp [hd], by simp only [PS.took, H.out, if_false]; exact hp.drewN n, (Keeps.refl _ _).drewN n⟩
def PS.needed (p : PS) (c : Int) : PS := if p.cur = c then { p with ix := p.ix + 1 } else p.failed
set_option maxHeartbeats 400000 in
theorem need_any (b : Nat) (p : PS) (c : Int) (w : World) (hp : PB w b p) (hc : 0 ≤ c) (hs : p.s.size ≤ 60) :
    Calls Tryz.prog 227 #[.pointer (some ⟨b, 0, none⟩), .int .u8 c] w fun e w' => e = .returned (.tuple #[]) ∧ PB w' b (p.needed c) ∧ Keeps [b] w w' := by
 by_cases h : p.cur = c
 ·have hd : decide (p.cur = c) = true := by simpa using h
  have H : Hid (p.cur = c) := h
  clear h
  go_enter Tryz.func227, Tryz.ntmps227
  go_wp2_with (go_at_call 81; refine (take_any b p c _ hp hc hs).mono ?_; rintro e w' ⟨rfl, hp1, hk1⟩)
  go_end0
  exact ⟨rfl, by simpa [PS.took, PS.needed, H.out] using hp1, hk1⟩
 ·have hd : decide (p.cur = c) = false := by simpa using h
  have H : Hid (¬ p.cur = c) := h
  clear h
  go_enter Tryz.func227, Tryz.ntmps227
  go_wp2_with (first | (go_at_call 81; refine (take_any b p c _ hp hc hs).mono ?_; rintro e w' ⟨rfl, hp1, hk1⟩) | (go_at_call 84; refine (fail_any b _ _ hp1).mono ?_; rintro e w' ⟨rfl, hp2, hk2⟩))
  go_end0
  exact ⟨rfl, by simpa [PS.took, PS.needed, H.out] using hp2, hk1.trans hk2⟩
set_option maxHeartbeats 400000 in
theorem digit_any (c : Int) (w : World) :
    Calls Tryz.prog 162 #[.int .u8 c] w fun e w' => e = .returned (.bool (digB c)) ∧ w' = w := by
 go_enter Tryz.func162, Tryz.ntmps162
 go_wp2
 all_goals go_ret
 all_goals exact ⟨by simp [digB]; omega, rfl⟩
set_option maxHeartbeats 400000 in
theorem alnum_any (c : Int) (w : World) :
    Calls Tryz.prog 210 #[.int .u8 c] w fun e w' => e = .returned (.bool (alnB c)) ∧ w' = w := by
 cases hd : digB c
 all_goals
  go_enter Tryz.func210, Tryz.ntmps210
  go_wp2_with (go_at_call 162; refine (digit_any c _).mono ?_; rintro e w' ⟨rfl, rfl⟩)
  all_goals go_ret
  all_goals exact ⟨ret_bool (by simp [alnB, hd] <;> omega), rfl⟩
def hasB (s : ByteArray) (c : Int) (k : Nat) : Bool := (s.data.toList.take k).any fun x => decide ((x.toNat : Int) = c)
theorem hasB_snoc (s : ByteArray) (c : Int) (k : Nat) (h : k < s.size) : hasB s c (k + 1) = (hasB s c k || decide ((s[k].toNat : Int) = c)) := by
 unfold hasB
 rw [List.take_succ_eq_append_getElem (by simpa using h)]
 simp; rfl
theorem hasB_mono (s : ByteArray) (c : Int) (k : Nat) (h : hasB s c k = true) : hasB s c s.size = true := by
 unfold hasB at *
 simp only [List.any_eq_true] at *
 obtain ⟨x, hx, hc⟩ := h
 exact ⟨x, by rw [List.take_of_length_le (by simp)]; exact List.mem_of_mem_take hx, hc⟩
set_option maxHeartbeats 400000 in
theorem has_any (s : ByteArray) (c : Int) (w : World) (hs : s.size ≤ 60) :
    Calls Tryz.prog 109 #[.string s, .int .u8 c] w fun e w' => e = .returned (.bool (hasB s c s.size)) ∧ w' = w := by
 go_enter Tryz.func109, Tryz.ntmps109
 go_wp2
 go_loop [5] (fun i => ∃ k : Nat, k ≤ s.size ∧ i = .int .i64 k ∧ Hid (hasB s c k = false)) (fun i => s.size - (intOf i).toNat)
 case atStart => exact ⟨0, Nat.zero_le _, rfl, rfl⟩
 case round =>
  obtain ⟨k, hk, rfl, hn⟩ := hrel
  by_cases hlt : k < s.size
  ·have HN : Hid (hasB s c (k + 1) = decide ((s[k].toNat : Int) = c)) := by
      show hasB s c (k + 1) = decide ((s[k].toNat : Int) = c)
      rw [hasB_snoc s c k hlt, hn.out, Bool.false_or]
   by_cases hc : (s[k].toNat : Int) = c
   ·have hcb : ((s[k].toNat : Int) == c) = true := by simpa using hc
    have HE : Hid (hasB s c s.size = true) := hasB_mono s c (k + 1) (by rw [HN.out]; simpa using hc)
    clear hc
    go_wp2
    go_ret
    exact ⟨by rw [HE.out]; rfl, rfl⟩
   ·have hcb : ((s[k].toNat : Int) == c) = false := by simpa using hc
    have HE : Hid (hasB s c (k + 1) = false) := by show hasB s c (k + 1) = false; rw [HN.out]; simpa using hc
    clear hc
    go_wp2
    go_round
    case rel => exact ⟨k + 1, by omega, by go_num, HE⟩
    case measure => simp [intOf]; omega
  ·have e : k = s.size := by omega
   subst e
   go_wp2
   go_ret
   exact ⟨by rw [hn.out]; rfl, rfl⟩
end Go.Proofs.YtnfojonmohijpaaGreatDoor
namespace Go.Proofs.YtnfojonmohijpaaGreatDoor
open Go.RowKit
def PS.after {α : Type} (p : PS) : R α → PS
 | .ok _ j => { p with ix := j }
 | .bad j => { p with bad := j, ix := j }
def Val (r : R Int) (v : Int) : Prop := 0 ≤ v ∧ v ≤ 255 ∧ ∀ a j, r = .ok a j → v = a
set_option maxHeartbeats 400000 in
theorem hex_none (b : Nat) (p : PS) (w : World) (ahead least : Int) (last : Bool) (hp : PB w b p) (hm : moreB p = false) :
    Calls Tryz.prog 283 #[.pointer (some ⟨b, 0, none⟩), .int .i64 ahead, .bool last, .int .i64 least] w fun e w' =>
     e = .returned (.int .i64 0) ∧ PB w' b p.failed ∧ Keeps [b] w w' := by
 go_enter Tryz.func283, Tryz.ntmps283
 go_wp2_with (first | (go_at_call 83; refine (more_any b p _ hp).mono ?_; rintro e w' ⟨rfl, n, rfl⟩) | (go_at_call 84; refine (fail_any b p _ (hp.drewN n)).mono ?_; rintro e w' ⟨rfl, hp1, hk1⟩))
 go_ret
 exact ⟨rfl, hp1, ((Keeps.refl _ _).drewN n).trans hk1⟩
set_option maxHeartbeats 1000000 in
theorem hex_some (b : Nat) (p : PS) (w : World) (ahead least : Int) (last : Bool) (hp : PB w b p) (hm : moreB p = true) (hs : p.s.size ≤ 60)
    (ha0 : 0 ≤ ahead) (ha1 : ahead ≤ 240) (hl0 : 0 ≤ least) (hl1 : least ≤ 255) :
    Calls Tryz.prog 283 #[.pointer (some ⟨b, 0, none⟩), .int .i64 ahead, .bool last, .int .i64 least] w fun e w' =>
     ∃ v, e = .returned (.int .i64 v) ∧ 0 ≤ v ∧ v ≤ 15 ∧ (∀ a j, hexS p.s ahead last least p.ix = .ok a j → v = a) ∧ PB w' b (p.after (hexS p.s ahead last least p.ix)) ∧ Keeps [b] w w' := by
 obtain ⟨hk, hb, hcur⟩ := PS.cur_more hm
 have ec : at' p.s p.ix = (p.s[p.ix].toNat : Int) := at'_lt hk
 have hki : (p.ix : Int) < (p.s.size : Int) := by omega
 have hk0 : (0 : Int) ≤ (p.ix : Int) := by omega
 have hk6 : (p.ix : Int) ≤ 60 := by omega
 have hc1 := (p.s[p.ix]).toNat_lt
 have hcl : (0 : Int) ≤ (p.s[p.ix].toNat : Int) := by omega
 have hcu : (p.s[p.ix].toNat : Int) ≤ 255 := by omega
 have HS : Hid (hexS p.s ahead last least p.ix = if hexd (p.s[p.ix].toNat : Int) < 0 ∨ (if last then ahead + hexd (p.s[p.ix].toNat : Int) else 16 * (ahead + hexd (p.s[p.ix].toNat : Int)) + 15) < least then .bad p.ix else .ok (hexd (p.s[p.ix].toNat : Int)) (p.ix + 1)) := by
  show hexS p.s ahead last least p.ix = _
  unfold hexS
  rw [ec]
 obtain ⟨c0, h6, h7, f6, f7⟩ := hp.main
 clear hcur ec hc1
 generalize hgc : (p.s[p.ix].toNat : Int) = c at *
 have cases5 : (48 ≤ c ∧ c ≤ 57 ∧ ¬ 97 ≤ c ∧ hexd c = c - 48) ∨ (48 ≤ c ∧ ¬ c ≤ 57 ∧ 97 ≤ c ∧ c ≤ 102 ∧ hexd c = c - 97 + 10) ∨
     ((¬ 48 ≤ c ∧ ¬ 97 ≤ c) ∧ hexd c = -1) ∨ ((48 ≤ c ∧ ¬ c ≤ 57 ∧ ¬ 97 ≤ c) ∧ hexd c = -1) ∨ ((48 ≤ c ∧ ¬ c ≤ 57 ∧ 97 ≤ c ∧ ¬ c ≤ 102) ∧ hexd c = -1) := by
  unfold hexd
  by_cases h1 : 48 ≤ c <;> by_cases h2 : c ≤ 57 <;> by_cases h3 : 97 ≤ c <;> by_cases h4 : c ≤ 102 <;> simp [h1, h2, h3, h4] <;> omega
 rcases cases5 with ⟨hA1, hA2, hA3, hd⟩ | ⟨hA1, hA2, hA3, hA4, hd⟩ | ⟨⟨hA1, hA2⟩, hd⟩ | ⟨⟨hA1, hA2, hA3⟩, hd⟩ | ⟨⟨hA1, hA2, hA3, hA4⟩, hd⟩
 rotate_left 2
 iterate 3
  ·have HB : Hid (hexS p.s ahead last least p.ix = .bad p.ix) := by show hexS p.s ahead last least p.ix = _; rw [HS.out, hd, if_pos (Or.inl (by omega))]
   clear HS hd
   cases last
   all_goals
    go_enter Tryz.func283, Tryz.ntmps283
    go_wp2_with (first | (go_at_call 83; refine (more_any b p _ hp).mono ?_; rintro e w' ⟨rfl, n, rfl⟩))
    go_quiet (fail)
    go_wp2_with (first | (go_at_call 84; refine (fail_good b p _ (hp.drewN _) hb).mono ?_; rintro e w' ⟨rfl, rfl⟩))
    go_ret
    exact ⟨0, rfl, by omega, by omega, by rw [HB.out]; simp, by rw [HB.out]; exact (hp.drewN _).setBad _, ((Keeps.refl _ _).drewN _).setCell (by simp) _⟩
 ·cases last
  ·by_cases hg : 16 * (ahead + (c - 48)) + 15 < least
   ·have HB : Hid (hexS p.s ahead false least p.ix = .bad p.ix) := by show hexS p.s ahead false least p.ix = _; rw [HS.out, hd, if_pos (Or.inr (by simp; omega))]
    clear HS hd
    go_enter Tryz.func283, Tryz.ntmps283
    go_wp2_with (first | (go_at_call 83; refine (more_any b p _ hp).mono ?_; rintro e w' ⟨rfl, n, rfl⟩))
    go_quiet (fail)
    go_wp2_with (first | (go_at_call 84; refine (fail_good b p _ (hp.drewN _) hb).mono ?_; rintro e w' ⟨rfl, rfl⟩))
    go_ret
    exact ⟨0, rfl, by omega, by omega, by rw [HB.out]; simp, by rw [HB.out]; exact (hp.drewN _).setBad _, ((Keeps.refl _ _).drewN _).setCell (by simp) _⟩
   ·have HO : Hid (hexS p.s ahead false least p.ix = .ok (c - 48) (p.ix + 1)) := by show hexS p.s ahead false least p.ix = _; rw [HS.out, hd, if_neg (by simp; omega)]
    clear HS hd
    go_enter Tryz.func283, Tryz.ntmps283
    go_wp2_with (first | (go_at_call 83; refine (more_any b p _ hp).mono ?_; rintro e w' ⟨rfl, n, rfl⟩))
    go_quiet (fail)
    go_wp2_with fail
    go_ret
    exact ⟨c - 48, ret_int (by first | rfl | omega), by omega, by omega, by rw [HO.out]; intro a j h; cases h; rfl, by rw [HO.out]; exact (hp.drewN _).setIx (p.ix + 1), ((Keeps.refl _ _).drewN _).setCell (by simp) _⟩
  ·by_cases hg : ahead + (c - 48) < least
   ·have HB : Hid (hexS p.s ahead true least p.ix = .bad p.ix) := by show hexS p.s ahead true least p.ix = _; rw [HS.out, hd, if_pos (Or.inr (by simp; omega))]
    clear HS hd
    go_enter Tryz.func283, Tryz.ntmps283
    go_wp2_with (first | (go_at_call 83; refine (more_any b p _ hp).mono ?_; rintro e w' ⟨rfl, n, rfl⟩))
    go_quiet (fail)
    go_wp2_with (first | (go_at_call 84; refine (fail_good b p _ (hp.drewN _) hb).mono ?_; rintro e w' ⟨rfl, rfl⟩))
    go_ret
    exact ⟨0, rfl, by omega, by omega, by rw [HB.out]; simp, by rw [HB.out]; exact (hp.drewN _).setBad _, ((Keeps.refl _ _).drewN _).setCell (by simp) _⟩
   ·have HO : Hid (hexS p.s ahead true least p.ix = .ok (c - 48) (p.ix + 1)) := by show hexS p.s ahead true least p.ix = _; rw [HS.out, hd, if_neg (by simp; omega)]
    clear HS hd
    go_enter Tryz.func283, Tryz.ntmps283
    go_wp2_with (first | (go_at_call 83; refine (more_any b p _ hp).mono ?_; rintro e w' ⟨rfl, n, rfl⟩))
    go_quiet (fail)
    go_wp2_with fail
    go_ret
    exact ⟨c - 48, ret_int (by first | rfl | omega), by omega, by omega, by rw [HO.out]; intro a j h; cases h; rfl, by rw [HO.out]; exact (hp.drewN _).setIx (p.ix + 1), ((Keeps.refl _ _).drewN _).setCell (by simp) _⟩
 ·cases last
  ·by_cases hg : 16 * (ahead + (c - 97 + 10)) + 15 < least
   ·have HB : Hid (hexS p.s ahead false least p.ix = .bad p.ix) := by show hexS p.s ahead false least p.ix = _; rw [HS.out, hd, if_pos (Or.inr (by simp; omega))]
    clear HS hd
    go_enter Tryz.func283, Tryz.ntmps283
    go_wp2_with (first | (go_at_call 83; refine (more_any b p _ hp).mono ?_; rintro e w' ⟨rfl, n, rfl⟩))
    go_quiet (fail)
    go_wp2_with (first | (go_at_call 84; refine (fail_good b p _ (hp.drewN _) hb).mono ?_; rintro e w' ⟨rfl, rfl⟩))
    go_ret
    exact ⟨0, rfl, by omega, by omega, by rw [HB.out]; simp, by rw [HB.out]; exact (hp.drewN _).setBad _, ((Keeps.refl _ _).drewN _).setCell (by simp) _⟩
   ·have HO : Hid (hexS p.s ahead false least p.ix = .ok (c - 97 + 10) (p.ix + 1)) := by show hexS p.s ahead false least p.ix = _; rw [HS.out, hd, if_neg (by simp; omega)]
    clear HS hd
    go_enter Tryz.func283, Tryz.ntmps283
    go_wp2_with (first | (go_at_call 83; refine (more_any b p _ hp).mono ?_; rintro e w' ⟨rfl, n, rfl⟩))
    go_quiet (fail)
    go_wp2_with fail
    go_ret
    exact ⟨c - 97 + 10, ret_int (by first | rfl | omega), by omega, by omega, by rw [HO.out]; intro a j h; cases h; rfl, by rw [HO.out]; exact (hp.drewN _).setIx (p.ix + 1), ((Keeps.refl _ _).drewN _).setCell (by simp) _⟩
  ·by_cases hg : ahead + (c - 97 + 10) < least
   ·have HB : Hid (hexS p.s ahead true least p.ix = .bad p.ix) := by show hexS p.s ahead true least p.ix = _; rw [HS.out, hd, if_pos (Or.inr (by simp; omega))]
    clear HS hd
    go_enter Tryz.func283, Tryz.ntmps283
    go_wp2_with (first | (go_at_call 83; refine (more_any b p _ hp).mono ?_; rintro e w' ⟨rfl, n, rfl⟩))
    go_quiet (fail)
    go_wp2_with (first | (go_at_call 84; refine (fail_good b p _ (hp.drewN _) hb).mono ?_; rintro e w' ⟨rfl, rfl⟩))
    go_ret
    exact ⟨0, rfl, by omega, by omega, by rw [HB.out]; simp, by rw [HB.out]; exact (hp.drewN _).setBad _, ((Keeps.refl _ _).drewN _).setCell (by simp) _⟩
   ·have HO : Hid (hexS p.s ahead true least p.ix = .ok (c - 97 + 10) (p.ix + 1)) := by show hexS p.s ahead true least p.ix = _; rw [HS.out, hd, if_neg (by simp; omega)]
    clear HS hd
    go_enter Tryz.func283, Tryz.ntmps283
    go_wp2_with (first | (go_at_call 83; refine (more_any b p _ hp).mono ?_; rintro e w' ⟨rfl, n, rfl⟩))
    go_quiet (fail)
    go_wp2_with fail
    go_ret
    exact ⟨c - 97 + 10, ret_int (by first | rfl | omega), by omega, by omega, by rw [HO.out]; intro a j h; cases h; rfl, by rw [HO.out]; exact (hp.drewN _).setIx (p.ix + 1), ((Keeps.refl _ _).drewN _).setCell (by simp) _⟩
end Go.Proofs.YtnfojonmohijpaaGreatDoor
namespace Go.Proofs.YtnfojonmohijpaaGreatDoor
open Go.RowKit
theorem moreB_false_good {p : PS} (hm : moreB p = false) (hb : p.bad < 0) : p.s.size ≤ p.ix := by
 simp [moreB] at hm; have := hm hb; omega
theorem hex_good (b : Nat) (p : PS) (w : World) (ahead least : Int) (last : Bool) (hp : PB w b p) (hb : p.bad < 0) (hs : p.s.size ≤ 60)
    (ha0 : 0 ≤ ahead) (ha1 : ahead ≤ 240) (hl0 : 0 ≤ least) (hl1 : least ≤ 255) :
    Calls Tryz.prog 283 #[.pointer (some ⟨b, 0, none⟩), .int .i64 ahead, .bool last, .int .i64 least] w fun e w' =>
     ∃ v, e = .returned (.int .i64 v) ∧ 0 ≤ v ∧ v ≤ 15 ∧ (∀ a j, hexS p.s ahead last least p.ix = .ok a j → v = a) ∧ PB w' b (p.after (hexS p.s ahead last least p.ix)) ∧ Keeps [b] w w' := by
 cases hm : moreB p
 ·refine (hex_none b p w ahead least last hp hm).mono ?_
  rintro e w' ⟨rfl, hp1, hk⟩
  have h1 := moreB_false_good hm hb
  have h2 : hexS p.s ahead last least p.ix = .bad p.ix := by unfold hexS; rw [at'_ge h1, if_pos (Or.inl (by decide))]
  exact ⟨0, rfl, by omega, by omega, by rw [h2]; simp, by rw [h2]; simpa [PS.failed, hb, PS.after] using hp1, hk⟩
 ·exact hex_some b p w ahead least last hp hm hs ha0 ha1 hl0 hl1
theorem hex_bad (b : Nat) (p : PS) (w : World) (ahead least : Int) (last : Bool) (hp : PB w b p) (hb : 0 ≤ p.bad) :
    Calls Tryz.prog 283 #[.pointer (some ⟨b, 0, none⟩), .int .i64 ahead, .bool last, .int .i64 least] w fun e w' =>
     e = .returned (.int .i64 0) ∧ PB w' b p ∧ Keeps [b] w w' := by
 refine (hex_none b p w ahead least last hp (by simp [moreB]; omega)).mono ?_
 rintro e w' ⟨rfl, hp1, hk⟩
 exact ⟨rfl, by simpa [PS.failed, Int.not_lt.2 hb] using hp1, hk⟩
theorem after_ok {α : Type} {p : PS} {r : R α} {a : α} {j : Nat} (h : r = .ok a j) : p.after r = { p with ix := j } := by rw [h]; rfl
theorem after_bad {α : Type} {p : PS} {r : R α} {j : Nat} (h : r = .bad j) : p.after r = { p with bad := j, ix := j } := by rw [h]; rfl
set_option maxHeartbeats 1000000 in
theorem esc_x (b : Nat) (p : PS) (w : World) (least : Int) (hp : PB w b p) (hb : p.bad < 0) (hs : p.s.size ≤ 60) (hk : p.ix < p.s.size)
    (hl0 : 0 ≤ least) (hl1 : least ≤ 255) (hx : at' p.s (p.ix + 1) = 120) :
    Calls Tryz.prog 263 #[.pointer (some ⟨b, 0, none⟩), .int .i64 least] w fun e w' =>
     ∃ v, e = .returned (.int .i64 v) ∧ Val (escS p.s least (p.ix + 1)) v ∧ PB w' b (p.after (escS p.s least (p.ix + 1))) ∧ Keeps [b] w w' := by
 obtain ⟨c0, h6, h7, f6, f7⟩ := hp.main
 have hk0 : (0 : Int) ≤ (p.ix : Int) := by omega
 have hk6 : (p.ix : Int) ≤ 60 := by omega
 rw [escS_x hx]
 have hp0 := hp.setIx (p.ix + 1)
 have hcur : PS.cur { p with ix := p.ix + 1 } = 120 := by simp [PS.cur, hb, hx]
 have hd : decide (PS.cur { p with ix := p.ix + 1 } = 120) = true := by simpa using hcur
 have htk : PS.took { p with ix := p.ix + 1 } 120 = { p with ix := p.ix + 2 } := by simp [PS.took, hcur]
 have Hx : Hid (at' p.s (p.ix + 1) = 120) := hx
 clear hx hcur
 have hlt := at'_nn (by rw [Hx.out]; omega)
 cases r1 : hexS p.s 0 false least (p.ix + 2) with
 | bad j =>
  have hj := hexS_bad r1
  subst hj
  have HP : Hid (hexPS p.s least (p.ix + 2) = .bad (p.ix + 2)) := by show hexPS p.s least (p.ix + 2) = _; simp [hexPS, r1, R.bind]
  have H1 : Hid (hexS p.s 0 false least (p.ix + 2) = .bad (p.ix + 2)) := r1
  clear r1
  go_enter Tryz.func263, Tryz.ntmps263
  go_wp2_with (first | (go_at_call 81; refine (take_any b { p with ix := p.ix + 1 } 120 _ hp0 (by omega) hs).mono ?_; rintro e w1 ⟨rfl, hp1, hk1⟩; rw [htk] at hp1))
  refine (hex_good b { p with ix := p.ix + 2 } _ 0 least false hp1 hb hs (by omega) (by omega) hl0 hl1).mono ?_
  rintro e w2 ⟨v, rfl, hv0, hv1, hva, hp2, hk2⟩
  rw [after_bad (show hexS _ 0 false least _ = _ from H1.out)] at hp2
  clear hva
  go_wp2_with (first | (go_at_call 283; refine (hex_bad b _ _ (16 * v) least true hp2 (Int.natCast_nonneg _)).mono ?_; rintro e w3 ⟨rfl, hp3, hk3⟩))
  go_ret
  refine ⟨16 * v, rfl, ⟨by omega, by omega, by rw [HP.out]; simp⟩, by rw [HP.out]; exact hp3, (((Keeps.refl _ _).setCell (by simp) _).trans hk1).trans (hk2.trans hk3)⟩
 | ok a j =>
  obtain ⟨rfl, ha0, ha1, hlt2, _⟩ := hexS_ok r1
  have H1 : Hid (hexS p.s 0 false least (p.ix + 2) = .ok a (p.ix + 2 + 1)) := r1
  have HP : Hid (hexPS p.s least (p.ix + 2) = (hexS p.s (16 * a) true least (p.ix + 3)).bind fun b k => .ok (16 * a + b) k) := by show hexPS p.s least (p.ix + 2) = _; simp [hexPS, r1, R.bind]
  clear r1
  go_enter Tryz.func263, Tryz.ntmps263
  go_wp2_with (first | (go_at_call 81; refine (take_any b { p with ix := p.ix + 1 } 120 _ hp0 (by omega) hs).mono ?_; rintro e w1 ⟨rfl, hp1, hk1⟩; rw [htk] at hp1))
  refine (hex_good b { p with ix := p.ix + 2 } _ 0 least false hp1 hb hs (by omega) (by omega) hl0 hl1).mono ?_
  rintro e w2 ⟨v, rfl, hv0, hv1, hva, hp2, hk2⟩
  rw [after_ok (show hexS _ 0 false least _ = _ from H1.out)] at hp2
  have hva' : v = a := hva a _ H1.out
  subst hva'
  clear hva
  go_wp2_with (first | (go_at_call 283; refine (hex_good b { p with ix := p.ix + 3 } _ (16 * v) least true hp2 hb hs (by omega) (by omega) hl0 hl1).mono ?_; rintro e w3 ⟨u, rfl, hu0, hu1, hua, hp3, hk3⟩))
  go_ret
  have hkk := (((Keeps.refl [b] w).setCell (p := ⟨b, 7, none⟩) (by simp) (.int .i64 ((p.ix + 1 : Nat) : Int))).trans hk1).trans (hk2.trans hk3)
  cases r2 : hexS p.s (16 * v) true least (p.ix + 3) with
  | bad j =>
   refine ⟨16 * v + u, rfl, ⟨by omega, by omega, by rw [HP.out, r2]; simp [R.bind]⟩, ?_, hkk⟩
   rw [after_bad (show hexS _ (16 * v) true least _ = _ from r2)] at hp3
   rw [HP.out, r2]; exact hp3
  | ok c j =>
   have hu : u = c := hua c j r2
   subst hu
   refine ⟨16 * v + u, rfl, ⟨by omega, by omega, by rw [HP.out, r2]; simp [R.bind]⟩, ?_, hkk⟩
   rw [after_ok (show hexS _ (16 * v) true least _ = _ from r2)] at hp3
   rw [HP.out, r2]; exact hp3
set_option maxHeartbeats 1000000 in
theorem esc_sign (b : Nat) (p : PS) (w : World) (least : Int) (hp : PB w b p) (hb : p.bad < 0) (hs : p.s.size ≤ 60) (hk : p.ix < p.s.size)
    (hl0 : 0 ≤ least) (hl1 : least ≤ 255) (hx : at' p.s (p.ix + 1) ≠ 120) :
    Calls Tryz.prog 263 #[.pointer (some ⟨b, 0, none⟩), .int .i64 least] w fun e w' =>
     ∃ v, e = .returned (.int .i64 v) ∧ Val (escS p.s least (p.ix + 1)) v ∧ PB w' b (p.after (escS p.s least (p.ix + 1))) ∧ Keeps [b] w w' := by
 obtain ⟨c0, h6, h7, f6, f7⟩ := hp.main
 have hk0 : (0 : Int) ≤ (p.ix : Int) := by omega
 have hk6 : (p.ix : Int) ≤ 60 := by omega
 have hp0 := hp.setIx (p.ix + 1)
 have hcur : ¬ PS.cur { p with ix := p.ix + 1 } = 120 := by simp [PS.cur, hb, hx]
 have hd : decide (PS.cur { p with ix := p.ix + 1 } = 120) = false := by simpa using hcur
 have htk : PS.took { p with ix := p.ix + 1 } 120 = { p with ix := p.ix + 1 } := by simp [PS.took, hcur]
 have Hx : Hid (at' p.s (p.ix + 1) ≠ 120) := hx
 clear hx hcur
 have TK := fun w1 h1 => take_any b { p with ix := p.ix + 1 } 120 w1 h1 (by omega) hs
 cases hm : moreB { p with ix := p.ix + 1 }
 ·have h1 := moreB_false_good hm hb
  have HE : Hid (escS p.s least (p.ix + 1) = .bad (p.ix + 1)) := by
   show escS p.s least (p.ix + 1) = _
   unfold escS
   rw [at'_ge h1, if_neg (by omega), if_pos (Or.inl (by omega))]
  go_enter Tryz.func263, Tryz.ntmps263
  go_wp2_with (first | (go_at_call 81; refine (TK _ hp0).mono ?_; rintro e w1 ⟨rfl, hp1, hk1⟩; rw [htk] at hp1) | (go_at_call 83; refine (more_any b _ _ hp1).mono ?_; rintro e w' ⟨rfl, n, rfl⟩) | (go_at_call 84; refine (fail_good b { p with ix := p.ix + 1 } _ (hp1.drewN n) hb).mono ?_; rintro e w' ⟨rfl, rfl⟩))
  go_ret
  refine ⟨0, rfl, ⟨by omega, by omega, by rw [HE.out]; simp⟩, by rw [HE.out]; exact (hp1.drewN n).setBad _, ((((Keeps.refl _ _).setCell (by simp) _).trans hk1).drewN n).setCell (by simp) _⟩
 ·have hlt' : p.ix + 1 < p.s.size := (PS.cur_more hm).1
  have ec := at'_lt hlt'
  have hki : ((p.ix + 1 : Nat) : Int) < (p.s.size : Int) := by omega
  have hkj : (0 : Int) ≤ ((p.ix + 1 : Nat) : Int) := by omega
  have hkk : ((p.ix + 1 : Nat) : Int) ≤ 60 := by omega
  have hc1 := (p.s[p.ix + 1]).toNat_lt
  have hcl : (0 : Int) ≤ (p.s[p.ix + 1].toNat : Int) := by omega
  have hcu : (p.s[p.ix + 1].toNat : Int) ≤ 255 := by omega
  clear hc1
  generalize hgc : (p.s[p.ix + 1].toNat : Int) = c at *
  have hx' : c ≠ 120 := by rw [← ec]; exact Hx.out
  have HE : Hid (escS p.s least (p.ix + 1) = if alnB c = true ∨ c < least then .bad (p.ix + 1) else .ok c (p.ix + 2)) := by
   show escS p.s least (p.ix + 1) = _
   unfold escS
   rw [ec, if_neg hx']
   by_cases hh : alnB c = true ∨ c < least
   ·rw [if_pos (Or.inr hh), if_pos hh]
   ·rw [if_neg (by rintro (h | h); omega; exact hh h), if_neg hh]
  clear ec hx'
  cases ha : alnB c
  ·by_cases hl : c < least
   ·have HB : Hid (escS p.s least (p.ix + 1) = .bad (p.ix + 1)) := by show escS p.s least (p.ix + 1) = _; rw [HE.out, if_pos (Or.inr hl)]
    clear HE
    go_enter Tryz.func263, Tryz.ntmps263
    go_wp2_with (first | (go_at_call 81; refine (TK _ hp0).mono ?_; rintro e w1 ⟨rfl, hp1, hk1⟩; rw [htk] at hp1; obtain ⟨d0, d6, d7, e6, e7⟩ := hp1.main) | (go_at_call 83; refine (more_any b _ _ hp1).mono ?_; rintro e w' ⟨rfl, n, rfl⟩))
    go_quiet (fail)
    go_wp2_with (first | (go_at_call 210; refine (alnum_any c _).mono ?_; rintro e w' ⟨rfl, rfl⟩) | (go_at_call 84; refine (fail_good b { p with ix := p.ix + 1 } _ (hp1.drewN _) hb).mono ?_; rintro e w' ⟨rfl, rfl⟩))
    go_ret
    refine ⟨0, rfl, ⟨by omega, by omega, by rw [HB.out]; simp⟩, by rw [HB.out]; exact (hp1.drewN _).setBad _, ((((Keeps.refl _ _).setCell (by simp) _).trans hk1).drewN _).setCell (by simp) _⟩
   ·have HB : Hid (escS p.s least (p.ix + 1) = .ok c (p.ix + 2)) := by show escS p.s least (p.ix + 1) = _; rw [HE.out, if_neg (by simp [ha, hl])]
    clear HE
    go_enter Tryz.func263, Tryz.ntmps263
    go_wp2_with (first | (go_at_call 81; refine (TK _ hp0).mono ?_; rintro e w1 ⟨rfl, hp1, hk1⟩; rw [htk] at hp1; obtain ⟨d0, d6, d7, e6, e7⟩ := hp1.main) | (go_at_call 83; refine (more_any b _ _ hp1).mono ?_; rintro e w' ⟨rfl, n, rfl⟩))
    go_quiet (fail)
    go_wp2_with (first | (go_at_call 210; refine (alnum_any c _).mono ?_; rintro e w' ⟨rfl, rfl⟩))
    go_ret
    refine ⟨c, rfl, ⟨by omega, by omega, by rw [HB.out]; intro a j h; cases h; rfl⟩, by rw [HB.out]; exact (hp1.drewN _).setIx (p.ix + 2), ((((Keeps.refl _ _).setCell (by simp) _).trans hk1).drewN _).setCell (by simp) _⟩
  ·have HB : Hid (escS p.s least (p.ix + 1) = .bad (p.ix + 1)) := by show escS p.s least (p.ix + 1) = _; rw [HE.out, if_pos (Or.inl ha)]
   clear HE
   go_enter Tryz.func263, Tryz.ntmps263
   go_wp2_with (first | (go_at_call 81; refine (TK _ hp0).mono ?_; rintro e w1 ⟨rfl, hp1, hk1⟩; rw [htk] at hp1; obtain ⟨d0, d6, d7, e6, e7⟩ := hp1.main) | (go_at_call 83; refine (more_any b _ _ hp1).mono ?_; rintro e w' ⟨rfl, n, rfl⟩))
   go_quiet (fail)
   go_wp2_with (first | (go_at_call 210; refine (alnum_any c _).mono ?_; rintro e w' ⟨rfl, rfl⟩) | (go_at_call 84; refine (fail_good b { p with ix := p.ix + 1 } _ (hp1.drewN _) hb).mono ?_; rintro e w' ⟨rfl, rfl⟩))
   go_ret
   refine ⟨0, rfl, ⟨by omega, by omega, by rw [HB.out]; simp⟩, by rw [HB.out]; exact (hp1.drewN _).setBad _, ((((Keeps.refl _ _).setCell (by simp) _).trans hk1).drewN _).setCell (by simp) _⟩
theorem esc_any (b : Nat) (p : PS) (w : World) (least : Int) (hp : PB w b p) (hb : p.bad < 0) (hs : p.s.size ≤ 60) (hk : p.ix < p.s.size)
    (hl0 : 0 ≤ least) (hl1 : least ≤ 255) :
    Calls Tryz.prog 263 #[.pointer (some ⟨b, 0, none⟩), .int .i64 least] w fun e w' =>
     ∃ v, e = .returned (.int .i64 v) ∧ Val (escS p.s least (p.ix + 1)) v ∧ PB w' b (p.after (escS p.s least (p.ix + 1))) ∧ Keeps [b] w w' := by
 by_cases hx : at' p.s (p.ix + 1) = 120
 ·exact esc_x b p w least hp hb hs hk hl0 hl1 hx
 ·exact esc_sign b p w least hp hb hs hk hl0 hl1 hx
end Go.Proofs.YtnfojonmohijpaaGreatDoor
namespace Go.Proofs.YtnfojonmohijpaaGreatDoor
open Go.RowKit
theorem has_inner (c : Int) : hasB ⟨#[91, 93, 45, 94]⟩ c (ByteArray.size ⟨#[91, 93, 45, 94]⟩) = decide (c = 91 ∨ c = 93 ∨ c = 45 ∨ c = 94) := by
 have h : (hasB ⟨#[91, 93, 45, 94]⟩ c (ByteArray.size ⟨#[91, 93, 45, 94]⟩) = true) ↔ (c = 91 ∨ c = 93 ∨ c = 45 ∨ c = 94) := by
  simp [hasB, ByteArray.size]
  omega
 by_cases hc : c = 91 ∨ c = 93 ∨ c = 45 ∨ c = 94
 ·rw [decide_eq_true hc]; exact h.2 hc
 ·rw [decide_eq_false hc]; exact Bool.eq_false_iff.2 fun e => hc (h.1 e)
set_option maxHeartbeats 1000000 in
theorem inner_any (b : Nat) (p : PS) (w : World) (least : Int) (hp : PB w b p) (hb : p.bad < 0) (hs : p.s.size ≤ 60)
    (hl0 : 0 ≤ least) (hl1 : least ≤ 255) :
    Calls Tryz.prog 282 #[.pointer (some ⟨b, 0, none⟩), .int .i64 least] w fun e w' =>
     ∃ v, e = .returned (.int .i64 v) ∧ Val (innS p.s least p.ix) v ∧ PB w' b (p.after (innS p.s least p.ix)) ∧ Keeps [b] w w' := by
 obtain ⟨c0, h6, h7, f6, f7⟩ := hp.main
 cases hm : moreB p
 ·have h1 := moreB_false_good hm hb
  have HE : Hid (innS p.s least p.ix = .bad p.ix) := by
   show innS p.s least p.ix = _
   unfold innS
   rw [at'_ge h1, if_neg (by omega), if_pos (Or.inl (by omega))]
  clear h1
  go_enter Tryz.func282, Tryz.ntmps282
  go_wp2_with (first | (go_at_call 83; refine (more_any b _ _ hp).mono ?_; rintro e w' ⟨rfl, n, rfl⟩) | (go_at_call 84; refine (fail_good b p _ (hp.drewN n) hb).mono ?_; rintro e w' ⟨rfl, rfl⟩))
  go_ret
  refine ⟨0, rfl, ⟨by omega, by omega, by rw [HE.out]; simp⟩, by rw [HE.out]; exact (hp.drewN n).setBad _, ((Keeps.refl _ _).drewN n).setCell (by simp) _⟩
 ·have hlt : p.ix < p.s.size := (PS.cur_more hm).1
  have ec := at'_lt hlt
  have hki : (p.ix : Int) < (p.s.size : Int) := by omega
  have hkj : (0 : Int) ≤ (p.ix : Int) := by omega
  have hkk : (p.ix : Int) ≤ 60 := by omega
  have hc1 := (p.s[p.ix]).toNat_lt
  have hcl : (0 : Int) ≤ (p.s[p.ix].toNat : Int) := by omega
  have hcu : (p.s[p.ix].toNat : Int) ≤ 255 := by omega
  clear hc1
  generalize hgc : (p.s[p.ix].toNat : Int) = c at *
  have HI : Hid (innS p.s least p.ix = if c = 92 then escS p.s least (p.ix + 1) else if (c = 91 ∨ c = 93 ∨ c = 45 ∨ c = 94) ∨ c < least then .bad p.ix else .ok c (p.ix + 1)) := by
   show innS p.s least p.ix = _
   unfold innS
   rw [ec]
   by_cases h : c = 92
   ·rw [if_pos h, if_pos h]
   ·rw [if_neg h, if_neg h]
    by_cases h' : (c = 91 ∨ c = 93 ∨ c = 45 ∨ c = 94) ∨ c < least
    ·rw [if_pos h', if_pos (by omega)]
    ·rw [if_neg h', if_neg (by omega)]
  clear ec
  by_cases h92 : c = 92
  ·have HE : Hid (innS p.s least p.ix = escS p.s least (p.ix + 1)) := by show innS p.s least p.ix = _; rw [HI.out, if_pos h92]
   have hq : (c == 92) = true := by simpa using h92
   clear HI h92
   go_enter Tryz.func282, Tryz.ntmps282
   go_wp2_with (first | (go_at_call 83; refine (more_any b _ _ hp).mono ?_; rintro e w' ⟨rfl, n, rfl⟩))
   go_quiet (fail)
   go_wp2_with (first | (go_at_call 263; refine (esc_any b p _ least (hp.drewN _) hb hs hlt hl0 hl1).mono ?_; rintro e w1 ⟨v, rfl, hv, hp1, hk1⟩))
   go_ret
   exact ⟨v, rfl, by rw [HE.out]; exact hv, by rw [HE.out]; exact hp1, ((Keeps.refl _ _).drewN _).trans hk1⟩
  ·have hq : (c == 92) = false := by simpa using h92
   by_cases hset : c = 91 ∨ c = 93 ∨ c = 45 ∨ c = 94
   ·have HE : Hid (innS p.s least p.ix = .bad p.ix) := by show innS p.s least p.ix = _; rw [HI.out, if_neg h92, if_pos (Or.inl hset)]
    have HH := has_inner c
    rw [decide_eq_true hset] at HH
    clear HI h92 hset
    go_enter Tryz.func282, Tryz.ntmps282
    go_wp2_with (first | (go_at_call 83; refine (more_any b _ _ hp).mono ?_; rintro e w' ⟨rfl, n, rfl⟩))
    go_quiet (fail)
    go_wp2_with (first | (go_at_call 109; refine (has_any _ c _ (by decide)).mono ?_; rintro e w' ⟨rfl, rfl⟩; rw [HH]) | (go_at_call 84; refine (fail_good b p _ (hp.drewN _) hb).mono ?_; rintro e w' ⟨rfl, rfl⟩))
    go_ret
    exact ⟨0, rfl, ⟨by omega, by omega, by rw [HE.out]; simp⟩, by rw [HE.out]; exact (hp.drewN _).setBad _, ((Keeps.refl _ _).drewN _).setCell (by simp) _⟩
   ·have HH := has_inner c
    rw [decide_eq_false hset] at HH
    by_cases hl : c < least
    ·have HE : Hid (innS p.s least p.ix = .bad p.ix) := by show innS p.s least p.ix = _; rw [HI.out, if_neg h92, if_pos (Or.inr hl)]
     clear HI h92 hset
     go_enter Tryz.func282, Tryz.ntmps282
     go_wp2_with (first | (go_at_call 83; refine (more_any b _ _ hp).mono ?_; rintro e w' ⟨rfl, n, rfl⟩))
     go_quiet (fail)
     go_wp2_with (first | (go_at_call 109; refine (has_any _ c _ (by decide)).mono ?_; rintro e w' ⟨rfl, rfl⟩; rw [HH]) | (go_at_call 84; refine (fail_good b p _ (hp.drewN _) hb).mono ?_; rintro e w' ⟨rfl, rfl⟩))
     go_ret
     exact ⟨0, rfl, ⟨by omega, by omega, by rw [HE.out]; simp⟩, by rw [HE.out]; exact (hp.drewN _).setBad _, ((Keeps.refl _ _).drewN _).setCell (by simp) _⟩
    ·have HE : Hid (innS p.s least p.ix = .ok c (p.ix + 1)) := by show innS p.s least p.ix = _; rw [HI.out, if_neg h92, if_neg (by rintro (h | h); exact hset h; exact hl h)]
     clear HI h92 hset
     go_enter Tryz.func282, Tryz.ntmps282
     go_wp2_with (first | (go_at_call 83; refine (more_any b _ _ hp).mono ?_; rintro e w' ⟨rfl, n, rfl⟩))
     go_quiet (fail)
     go_wp2_with (first | (go_at_call 109; refine (has_any _ c _ (by decide)).mono ?_; rintro e w' ⟨rfl, rfl⟩; rw [HH]))
     go_ret
     exact ⟨c, rfl, ⟨by omega, by omega, by rw [HE.out]; intro a j h; cases h; rfl⟩, by rw [HE.out]; exact (hp.drewN _).setIx (p.ix + 1), ((Keeps.refl _ _).drewN _).setCell (by simp) _⟩
end Go.Proofs.YtnfojonmohijpaaGreatDoor
namespace Go.Proofs.YtnfojonmohijpaaGreatDoor
open Go.RowKit
def nmB (l : List UInt8) : ByteArray := ⟨l.toArray⟩
set_option maxHeartbeats 1000000 in
theorem class_0 (c : Int) (w : World) :
    Calls Tryz.prog 296 #[.string ⟨#[100, 105, 103, 105, 116]⟩, .int .u8 c] w fun e w' => e = .returned (.bool (clsB 0 c)) ∧ w' = w := by
 cases hd : digB c
 all_goals
  go_enter Tryz.func296, Tryz.ntmps296
  go_wp2_with (go_at_call 162; refine (digit_any c _).mono ?_; rintro e w' ⟨rfl, rfl⟩)
  all_goals go_ret
  all_goals exact ⟨ret_bool (by simp [clsB, hd, lowB, uppB] <;> omega), rfl⟩
set_option maxHeartbeats 1000000 in
theorem class_1 (c : Int) (w : World) :
    Calls Tryz.prog 296 #[.string ⟨#[108, 111, 119, 101, 114]⟩, .int .u8 c] w fun e w' => e = .returned (.bool (clsB 1 c)) ∧ w' = w := by
 cases hd : digB c
 all_goals
  go_enter Tryz.func296, Tryz.ntmps296
  go_wp2_with (go_at_call 162; refine (digit_any c _).mono ?_; rintro e w' ⟨rfl, rfl⟩)
  all_goals go_ret
  all_goals exact ⟨ret_bool (by simp [clsB, hd, lowB, uppB] <;> omega), rfl⟩
set_option maxHeartbeats 1000000 in
theorem class_2 (c : Int) (w : World) :
    Calls Tryz.prog 296 #[.string ⟨#[117, 112, 112, 101, 114]⟩, .int .u8 c] w fun e w' => e = .returned (.bool (clsB 2 c)) ∧ w' = w := by
 cases hd : digB c
 all_goals
  go_enter Tryz.func296, Tryz.ntmps296
  go_wp2_with (go_at_call 162; refine (digit_any c _).mono ?_; rintro e w' ⟨rfl, rfl⟩)
  all_goals go_ret
  all_goals exact ⟨ret_bool (by simp [clsB, hd, lowB, uppB] <;> omega), rfl⟩
set_option maxHeartbeats 1000000 in
theorem class_3 (c : Int) (w : World) :
    Calls Tryz.prog 296 #[.string ⟨#[97, 108, 112, 104, 97]⟩, .int .u8 c] w fun e w' => e = .returned (.bool (clsB 3 c)) ∧ w' = w := by
 cases hd : digB c
 all_goals
  go_enter Tryz.func296, Tryz.ntmps296
  go_wp2_with (go_at_call 162; refine (digit_any c _).mono ?_; rintro e w' ⟨rfl, rfl⟩)
  all_goals go_ret
  all_goals exact ⟨ret_bool (by simp [clsB, hd, lowB, uppB] <;> omega), rfl⟩
set_option maxHeartbeats 1000000 in
theorem class_4 (c : Int) (w : World) :
    Calls Tryz.prog 296 #[.string ⟨#[97, 108, 110, 117, 109]⟩, .int .u8 c] w fun e w' => e = .returned (.bool (clsB 4 c)) ∧ w' = w := by
 cases hd : digB c
 all_goals
  go_enter Tryz.func296, Tryz.ntmps296
  go_wp2_with (go_at_call 162; refine (digit_any c _).mono ?_; rintro e w' ⟨rfl, rfl⟩)
  all_goals go_ret
  all_goals exact ⟨ret_bool (by simp [clsB, hd, lowB, uppB] <;> omega), rfl⟩
set_option maxHeartbeats 1000000 in
theorem class_5 (c : Int) (w : World) :
    Calls Tryz.prog 296 #[.string ⟨#[115, 112, 97, 99, 101]⟩, .int .u8 c] w fun e w' => e = .returned (.bool (clsB 5 c)) ∧ w' = w := by
 cases hd : digB c
 all_goals
  go_enter Tryz.func296, Tryz.ntmps296
  go_wp2_with (go_at_call 162; refine (digit_any c _).mono ?_; rintro e w' ⟨rfl, rfl⟩)
  all_goals go_ret
  all_goals exact ⟨ret_bool (by simp [clsB, hd, lowB, uppB] <;> omega), rfl⟩
set_option maxHeartbeats 1000000 in
theorem class_6 (c : Int) (w : World) :
    Calls Tryz.prog 296 #[.string ⟨#[112, 117, 110, 99, 116]⟩, .int .u8 c] w fun e w' => e = .returned (.bool (clsB 6 c)) ∧ w' = w := by
 cases hd : digB c
 all_goals
  go_enter Tryz.func296, Tryz.ntmps296
  go_wp2_with (go_at_call 162; refine (digit_any c _).mono ?_; rintro e w' ⟨rfl, rfl⟩)
  all_goals go_ret
  all_goals exact ⟨ret_bool (by simp [clsB, hd, lowB, uppB] <;> omega), rfl⟩
end Go.Proofs.YtnfojonmohijpaaGreatDoor
namespace Go.Proofs.YtnfojonmohijpaaGreatDoor
open Go.RowKit
def hcells (f : Nat → Bool) : Array Value := Array.ofFn (n := 256) fun k => Value.bool (f k.val)
theorem hcells_size (f : Nat → Bool) : (hcells f).size = 256 := by simp [hcells]
theorem hcells_get (f : Nat → Bool) {k : Nat} (h : k < 256) : (hcells f)[k]? = some (.bool (f k)) := by simp [hcells, h]
theorem hcells_set (f : Nat → Bool) (k : Nat) (v : Bool) : (hcells f).setIfInBounds k (.bool v) = hcells (fun n => if n = k then v else f n) := by
 apply Array.ext_getElem?
 intro i
 rw [Array.getElem?_setIfInBounds]
 by_cases hi : i < 256
 ·rw [hcells_get _ hi, hcells_get _ hi]
  by_cases hk : k = i
  ·subst hk; simp [hcells_size, hi]
  ·simp [hk, Ne.symm hk]
 ·have e1 : (hcells fun n => if n = k then v else f n)[i]? = none := Array.getElem?_eq_none (by rw [hcells_size]; omega)
  have e2 : (hcells f)[i]? = none := Array.getElem?_eq_none (by rw [hcells_size]; omega)
  rw [e1, e2]
  by_cases hk : k = i
  ·rw [if_pos hk, if_neg (by rw [hcells_size]; omega)]
  ·rw [if_neg hk]
def HB (w : World) (h : Nat) (f : Nat → Bool) : Prop := w.heap[h]? = some (.cells (hcells f) 4 (0, 0))
theorem HB.lt {w : World} {h : Nat} {f : Nat → Bool} (H : HB w h f) : h < w.heap.size := (Array.getElem?_eq_some_iff.1 H).1
theorem HB.keep {w w' : World} {h : Nat} {f : Nat → Bool} {S : List Nat} (H : HB w h f) (hk : Keeps S w w') (hb : h ∉ S) : HB w' h f := (hk.block h H.lt hb).trans H
theorem HB.cell {w : World} {h : Nat} {f : Nat → Bool} (H : HB w h f) {k : Nat} (hk : k < 256) : w.cell? ⟨h, k, none⟩ = some (.bool (f k)) := by
 unfold HB at H
 simp [World.cell?, H, hcells_get f hk]
theorem HB.frozen {w : World} {h : Nat} {f : Nat → Bool} (H : HB w h f) (k : Nat) : w.frozen? ⟨h, k, none⟩ = false := by
 unfold HB at H
 simp [World.frozen?, H]
theorem HB.set {w : World} {h : Nat} {f : Nat → Bool} (H : HB w h f) (k : Nat) (v : Bool) : HB (w.setCell ⟨h, k, none⟩ (.bool v)) h (fun n => if n = k then v else f n) := by
 unfold HB at *
 simp [World.setCell, Array.getElem?_modify, H, hcells_set]
theorem HB.congr {w : World} {h : Nat} {f g : Nat → Bool} (H : HB w h f) (e : ∀ n, n < 256 → f n = g n) : HB w h g := by
 unfold HB at *
 rw [H]
 have : hcells f = hcells g := by
  apply Array.ext_getElem?
  intro i
  by_cases hi : i < 256
  ·rw [hcells_get _ hi, hcells_get _ hi, e i hi]
  ·rw [Array.getElem?_eq_none (by rw [hcells_size]; omega), Array.getElem?_eq_none (by rw [hcells_size]; omega)]
 rw [this]
theorem PB.setOther {w : World} {b : Nat} {p : PS} (h : PB w b p) {a : Addr} (ha : a.block ≠ b) (v : Value) : PB (w.setCell a v) b p := by
 unfold PB at *
 rw [Below.heap_setCell _ _ _ _ (Ne.symm ha)]; exact h
theorem HB.setOther {w : World} {h : Nat} {f : Nat → Bool} (H : HB w h f) {a : Addr} (ha : a.block ≠ h) (v : Value) : HB (w.setCell a v) h f := by
 unfold HB at *
 rw [Below.heap_setCell _ _ _ _ (Ne.symm ha)]; exact H
def nm (k : Nat) : List UInt8 := names.getD k []
theorem names_len : ∀ n ∈ names, n.length = 5 := by decide
theorem names_count : names.length = 7 := rfl
theorem class_any (k : Nat) (hk : k < 7) (c : Int) (w : World) :
    Calls Tryz.prog 296 #[.string (nmB (nm k)), .int .u8 c] w fun e w' => e = .returned (.bool (clsB k c)) ∧ w' = w := by
 match k, hk with
 | 0, _ => exact class_0 c w
 | 1, _ => exact class_1 c w
 | 2, _ => exact class_2 c w
 | 3, _ => exact class_3 c w
 | 4, _ => exact class_4 c w
 | 5, _ => exact class_5 c w
 | 6, _ => exact class_6 c w
def ncells : Array Value := #[.string (nmB [100, 105, 103, 105, 116]), .string (nmB [108, 111, 119, 101, 114]), .string (nmB [117, 112, 112, 101, 114]), .string (nmB [97, 108, 112, 104, 97]), .string (nmB [97, 108, 110, 117, 109]), .string (nmB [115, 112, 97, 99, 101]), .string (nmB [112, 117, 110, 99, 116])]
def NB (w : World) (g : Nat) : Prop := w.heap[g]? = some (.cells ncells 9 (0, 0))
theorem NB.cell {w : World} {g : Nat} (H : NB w g) {k : Nat} (hk : k < 7) : w.cell? ⟨g, k, none⟩ = some (.string (nmB (nm k))) := by
 unfold NB at H
 match k, hk with
 | 0, _ => simp [World.cell?, H]; rfl
 | 1, _ => simp [World.cell?, H]; rfl
 | 2, _ => simp [World.cell?, H]; rfl
 | 3, _ => simp [World.cell?, H]; rfl
 | 4, _ => simp [World.cell?, H]; rfl
 | 5, _ => simp [World.cell?, H]; rfl
 | 6, _ => simp [World.cell?, H]; rfl
theorem NB.drewN {w : World} {g : Nat} (H : NB w g) (n : Nat) : NB (w.drewN n) g := H
theorem HB.drewN {w : World} {h : Nat} {f : Nat → Bool} (H : HB w h f) (n : Nat) : HB (w.drewN n) h f := H
theorem NB.setOther {w : World} {g : Nat} (H : NB w g) {a : Addr} (ha : a.block ≠ g) (v : Value) : NB (w.setCell a v) g := by
 unfold NB at *
 rw [Below.heap_setCell _ _ _ _ (Ne.symm ha)]; exact H
theorem Keeps.mono {S S' : List Nat} {a w : World} (h : Keeps S a w) (hs : ∀ x, x ∈ S → x ∈ S') : Keeps S' a w :=
 ⟨h.os, h.tape, h.output, h.size, fun k hk hn => h.block k hk fun hx => hn (hs k hx)⟩
theorem nmB_toList (l : List UInt8) : (nmB l).data.toList = l := by simp [nmB]
theorem nmB_size (l : List UInt8) : (nmB l).size = l.length := by simp [nmB, ByteArray.size]
theorem nm_get {j : Nat} (hj : j < 7) : nm j = names[j]'(by rw [names_count]; exact hj) := by
 unfold nm
 rw [List.getD_eq_getElem?_getD, List.getElem?_eq_getElem (by rw [names_count]; exact hj)]; rfl
theorem nm_len {j : Nat} (hj : j < 7) : (nm j).length = 5 := by rw [nm_get hj]; exact names_len _ (List.getElem_mem _)
theorem nm_mem {j : Nat} (hj : j < 7) : nm j ∈ names := by rw [nm_get hj]; exact List.getElem_mem _
theorem find_none {word : List UInt8} (h : ∀ j, j < 7 → nm j ≠ word) : names.findIdx? (· = word) = none := by
 rw [List.findIdx?_eq_none_iff]
 intro x hx
 obtain ⟨j, hj, rfl⟩ := List.mem_iff_getElem.1 hx
 have := h j hj
 rw [nm_get hj] at this
 simpa using this
theorem find_some {word : List UInt8} {k : Nat} (hk : k < 7) (h : ∀ j, j < k → nm j ≠ word) (e : nm k = word) : names.findIdx? (· = word) = some k := by
 rw [List.findIdx?_eq_some_iff_getElem]
 refine ⟨hk, ?_, ?_⟩
 ·have e' := (nm_get hk).symm.trans e
  exact decide_eq_true e'
 ·intro j hj
  have := h j hj
  rw [nm_get (by omega)] at this
  simpa using this
theorem needed_s (p : PS) (c : Int) : (p.needed c).s = p.s := by unfold PS.needed PS.failed; split <;> (try split) <;> rfl
theorem eqL (a b : List UInt8) : ((nmB a).toList == (nmB b).toList) = decide (a = b) := by
 rw [ByteArray.toList_eq, ByteArray.toList_eq, nmB_toList, nmB_toList]
 by_cases h : a = b
 ·subst h; simp
 ·simp [h]
end Go.Proofs.YtnfojonmohijpaaGreatDoor
