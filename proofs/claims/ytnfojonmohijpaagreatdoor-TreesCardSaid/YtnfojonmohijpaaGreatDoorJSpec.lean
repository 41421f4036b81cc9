/-
  DERIVED. Plain mathematics: how a pattern is read (the document's grammar) and written in one way, as functions on bytes. Nothing of the program stands here; nothing is proved here but small facts on these functions.
-/
import Derived.Below
import Derived.Test.YtnfojonmohijpaaGreatDoorProg
import Derived.WalkKit
import Derived.WalkSpells
import Derived.WalkLawsBesides
import Derived.Deep.QuietTactic
import Derived.BigQuiet
set_option linter.unusedSimpArgs false
set_option linter.unusedVariables false
namespace Go.Proofs.YtnfojonmohijpaaGreatDoor
def at' (s : ByteArray) (i : Nat) : Int := if h : i < s.size then (s[i].toNat : Int) else -1
theorem at'_lt {s : ByteArray} {i : Nat} (h : i < s.size) : at' s i = (s[i].toNat : Int) := by simp [at', h]
theorem at'_ge {s : ByteArray} {i : Nat} (h : s.size ≤ i) : at' s i = -1 := by simp [at', Nat.not_lt.2 h]
theorem at'_bd (s : ByteArray) (i : Nat) : -1 ≤ at' s i ∧ at' s i ≤ 255 := by
 unfold at'
 split
 ·rename_i h
  have := s[i].toNat_lt
  omega
 ·omega
theorem at'_nn {s : ByteArray} {i : Nat} (h : 0 ≤ at' s i) : i < s.size := by
 rcases Nat.lt_or_ge i s.size with h' | h'
 ·exact h'
 ·rw [at'_ge h'] at h; omega
def digB (c : Int) : Bool := decide (48 ≤ c) && decide (c ≤ 57)
def alnB (c : Int) : Bool := digB c || (decide (97 ≤ c) && decide (c ≤ 122)) || (decide (65 ≤ c) && decide (c ≤ 90))
inductive R (α : Type) where
 | ok (a : α) (i : Nat)
 | bad (i : Nat)
def R.bind {α β : Type} : R α → (α → Nat → R β) → R β
 | .ok a i, f => f a i
 | .bad i, _ => .bad i
def needS (s : ByteArray) (c : Int) (i : Nat) : R Unit := if at' s i = c then .ok () (i + 1) else .bad i
def hexd (c : Int) : Int := if 48 ≤ c ∧ c ≤ 57 then c - 48 else if 97 ≤ c ∧ c ≤ 102 then c - 87 else -1
theorem hexd_bd (c : Int) : -1 ≤ hexd c ∧ hexd c ≤ 15 := by unfold hexd; split <;> (try split) <;> omega
def hexS (s : ByteArray) (ahead : Int) (last : Bool) (least : Int) (i : Nat) : R Int :=
 if hexd (at' s i) < 0 ∨ (if last then ahead + hexd (at' s i) else 16 * (ahead + hexd (at' s i)) + 15) < least then .bad i else .ok (hexd (at' s i)) (i + 1)
def escS (s : ByteArray) (least : Int) (i : Nat) : R Int :=
 if at' s i = 120 then (hexS s 0 false least (i + 1)).bind fun a j => (hexS s (16 * a) true least j).bind fun b k => .ok (16 * a + b) k
 else if at' s i < 0 ∨ alnB (at' s i) = true ∨ at' s i < least then .bad i else .ok (at' s i) (i + 1)
def innS (s : ByteArray) (least : Int) (i : Nat) : R Int :=
 if at' s i = 92 then escS s least (i + 1)
 else if at' s i < 0 ∨ at' s i = 91 ∨ at' s i = 93 ∨ at' s i = 45 ∨ at' s i = 94 ∨ at' s i < least then .bad i else .ok (at' s i) (i + 1)
def names : List (List UInt8) := [[100, 105, 103, 105, 116], [108, 111, 119, 101, 114], [117, 112, 112, 101, 114], [97, 108, 112, 104, 97], [97, 108, 110, 117, 109], [115, 112, 97, 99, 101], [112, 117, 110, 99, 116]]
def lowB (c : Int) : Bool := decide (97 ≤ c) && decide (c ≤ 122)
def uppB (c : Int) : Bool := decide (65 ≤ c) && decide (c ≤ 90)
def clsB (n : Nat) (c : Int) : Bool :=
 match n with
 | 0 => digB c
 | 1 => lowB c
 | 2 => uppB c
 | 3 => lowB c || uppB c
 | 4 => digB c || lowB c || uppB c
 | 5 => (decide (9 ≤ c) && decide (c ≤ 13)) || decide (c = 32)
 | _ => decide (32 < c) && decide (c < 127) && !digB c && !lowB c && !uppB c
def goesOn (word : List UInt8) (c : Int) : Bool := names.any fun n => decide (word.length < n.length) && decide (n.take word.length = word) && decide (((n.getD word.length 0).toNat : Int) = c)
def clsS (s : ByteArray) : Nat → List UInt8 → Nat → R Nat
 | 0, _, i => .bad i
 | f + 1, word, i =>
  match names.findIdx? (· = word) with
  | some k => .ok k i
  | none => if goesOn word (at' s i) then clsS s f (word ++ [s.get! i]) (i + 1) else .bad i
end Go.Proofs.YtnfojonmohijpaaGreatDoor
namespace Go.Proofs.YtnfojonmohijpaaGreatDoor
open Go.RowKit
structure PS where
 s : ByteArray
 nodes : Value
 root : Nat
 bg : Bool
 en : Bool
 gr : Nat
 bad : Int
 ix : Nat
 deep : Nat
def PS.cells (p : PS) : Array Value := #[.string p.s, p.nodes, .int .i64 p.root, .bool p.bg, .bool p.en, .int .i64 p.gr, .int .i64 p.bad, .int .i64 p.ix, .int .i64 p.deep]
def PB (w : World) (b : Nat) (p : PS) : Prop := w.heap[b]? = some (.cells p.cells 102 (0, 0))
structure Keeps (S : List Nat) (w w' : World) : Prop where
 os : w'.os = w.os
 tape : w'.tape = w.tape
 output : w'.output = w.output
 size : w.heap.size ≤ w'.heap.size
 block : ∀ k, k < w.heap.size → k ∉ S → w'.heap[k]? = w.heap[k]?
theorem Keeps.refl (S : List Nat) (w : World) : Keeps S w w := ⟨rfl, rfl, rfl, Nat.le_refl _, fun _ _ _ => rfl⟩
theorem Keeps.trans {S : List Nat} {a b c : World} (h : Keeps S a b) (k : Keeps S b c) : Keeps S a c :=
 ⟨k.os.trans h.os, k.tape.trans h.tape, k.output.trans h.output, Nat.le_trans h.size k.size, fun i hi hn => (k.block i (Nat.lt_of_lt_of_le hi h.size) hn).trans (h.block i hi hn)⟩
theorem Keeps.drew {S : List Nat} {a w : World} (h : Keeps S a w) : Keeps S a w.drew := ⟨h.os, h.tape, h.output, h.size, h.block⟩
theorem Keeps.drewN {S : List Nat} {a w : World} (h : Keeps S a w) (n : Nat) : Keeps S a (w.drewN n) := ⟨h.os, h.tape, h.output, h.size, h.block⟩
theorem Keeps.setCell {S : List Nat} {a w : World} (h : Keeps S a w) {p : Addr} (hp : p.block ∈ S ∨ a.heap.size ≤ p.block) (u : Value) : Keeps S a (w.setCell p u) :=
 ⟨h.os, h.tape, h.output, by simpa using h.size, fun k hk hn => by
   rw [Below.heap_setCell]
   · exact h.block k hk hn
   · rintro rfl
     rcases hp with hp | hp
     · exact hn hp
     · omega⟩
theorem Keeps.alloc {S : List Nat} {a w : World} (h : Keeps S a w) (o : Obj) : Keeps S a (w.alloc o) :=
 ⟨h.os, h.tape, h.output, by have := h.size; simp; omega, fun k hk hn => by
   rw [Below.heap_alloc _ _ _ (Nat.lt_of_lt_of_le hk h.size)]
   exact h.block k hk hn⟩
theorem PB.lt {w : World} {b : Nat} {p : PS} (h : PB w b p) : b < w.heap.size := (Array.getElem?_eq_some_iff.1 h).1
theorem PB.keep {w w' : World} {b : Nat} {p : PS} {S : List Nat} (h : PB w b p) (hk : Keeps S w w') (hb : b ∉ S) : PB w' b p := (hk.block b h.lt hb).trans h
theorem PB.drewN {w : World} {b : Nat} {p : PS} (h : PB w b p) (n : Nat) : PB (w.drewN n) b p := h
theorem PB.main {w : World} {b : Nat} {p : PS} (h : PB w b p) :
    w.cell? ⟨b, 0, none⟩ = some (.string p.s) ∧ w.cell? ⟨b, 6, none⟩ = some (.int .i64 p.bad) ∧ w.cell? ⟨b, 7, none⟩ = some (.int .i64 p.ix) ∧
    w.frozen? ⟨b, 6, none⟩ = false ∧ w.frozen? ⟨b, 7, none⟩ = false := by
 unfold PB at h
 simp [World.cell?, World.frozen?, h, PS.cells]
theorem PB.setIx {w : World} {b : Nat} {p : PS} (h : PB w b p) (x : Nat) : PB (w.setCell ⟨b, 7, none⟩ (.int .i64 x)) b { p with ix := x } := by
 unfold PB at *
 simp [World.setCell, Array.getElem?_modify, h, PS.cells]
theorem PB.setBad {w : World} {b : Nat} {p : PS} (h : PB w b p) (x : Int) : PB (w.setCell ⟨b, 6, none⟩ (.int .i64 x)) b { p with bad := x } := by
 unfold PB at *
 simp [World.setCell, Array.getElem?_modify, h, PS.cells]
theorem ret_bool {a b : Bool} (h : a = true ↔ b = true) : Ending.returned (.bool a) = .returned (.bool b) := by
 have : a = b := by cases a <;> cases b <;> simp at h ⊢
 rw [this]
theorem ret_int {k : IntKind} {a b : Int} (h : a = b) : Ending.returned (.int k a) = .returned (.int k b) := by rw [h]
def moreB (p : PS) : Bool := decide (p.bad < 0) && decide (p.ix < p.s.size)
set_option maxHeartbeats 400000 in
theorem more_any (b : Nat) (p : PS) (w : World) (hp : PB w b p) :
    Calls Tryz.prog 83 #[.pointer (some ⟨b, 0, none⟩)] w fun e w' => e = .returned (.bool (moreB p)) ∧ ∃ n, w' = w.drewN n := by
 obtain ⟨h0, h6, h7, _, _⟩ := hp.main
 by_cases hb : p.bad < 0
 ·have hd : decide (p.bad < 0) = true := by simpa using hb
  go_enter Tryz.func83, Tryz.ntmps83
  go_wp2
  go_quiet (fail)
  go_wp2
  go_ret
  exact ⟨by simp [moreB, hb], _, rfl⟩
 ·have hd : decide (p.bad < 0) = false := by simpa using hb
  go_enter Tryz.func83, Tryz.ntmps83
  go_wp2
  go_quiet (fail)
  go_wp2
  go_ret
  exact ⟨by simp [moreB, hd], _, rfl⟩
set_option maxHeartbeats 400000 in
theorem fail_good (b : Nat) (p : PS) (w : World) (hp : PB w b p) (hb : p.bad < 0) :
    Calls Tryz.prog 84 #[.pointer (some ⟨b, 0, none⟩)] w fun e w' => e = .returned (.tuple #[]) ∧ w' = w.setCell ⟨b, 6, none⟩ (.int .i64 p.ix) := by
 obtain ⟨h0, h6, h7, f6, f7⟩ := hp.main
 go_enter Tryz.func84, Tryz.ntmps84
 go_wp2
 go_end0
 exact ⟨rfl, rfl⟩
set_option maxHeartbeats 400000 in
theorem fail_bad (b : Nat) (p : PS) (w : World) (hp : PB w b p) (hb : 0 ≤ p.bad) :
    Calls Tryz.prog 84 #[.pointer (some ⟨b, 0, none⟩)] w fun e w' => e = .returned (.tuple #[]) ∧ w' = w := by
 obtain ⟨h0, h6, h7, f6, f7⟩ := hp.main
 go_enter Tryz.func84, Tryz.ntmps84
 go_wp2
 go_end0
 exact ⟨rfl, rfl⟩
def PS.failed (p : PS) : PS := if p.bad < 0 then { p with bad := p.ix } else p
theorem fail_any (b : Nat) (p : PS) (w : World) (hp : PB w b p) :
    Calls Tryz.prog 84 #[.pointer (some ⟨b, 0, none⟩)] w fun e w' => e = .returned (.tuple #[]) ∧ PB w' b p.failed ∧ Keeps [b] w w' := by
 by_cases hb : p.bad < 0
 ·refine (fail_good b p w hp hb).mono ?_
  rintro e w' ⟨rfl, rfl⟩
  exact ⟨rfl, by simpa [PS.failed, hb] using hp.setBad p.ix, (Keeps.refl _ _).setCell (by simp) _⟩
 ·refine (fail_bad b p w hp (by omega)).mono ?_
  rintro e w' ⟨rfl, rfl⟩
  exact ⟨rfl, by simpa [PS.failed, hb] using hp, Keeps.refl _ _⟩
def PS.cur (p : PS) : Int := if p.bad < 0 then at' p.s p.ix else -1
theorem PS.cur_more {p : PS} (h : moreB p = true) : ∃ hk : p.ix < p.s.size, p.bad < 0 ∧ p.cur = (p.s[p.ix].toNat : Int) := by
 simp [moreB] at h
 exact ⟨by omega, h.1, by simp [PS.cur, h.1, at'_lt h.2]⟩
theorem PS.cur_none {p : PS} (h : moreB p = false) : p.cur = -1 := by
 simp [moreB] at h
 unfold PS.cur
 split
 ·exact at'_ge (by have := h (by assumption); omega)
 ·rfl
theorem moreB_eq (p : PS) : moreB p = decide (0 ≤ p.cur) := by
 cases h : moreB p
 ·simp [PS.cur_none h]
 ·obtain ⟨hk, _, hc⟩ := PS.cur_more h
  rw [hc]; simp
theorem PS.cur_good {p : PS} (h : 0 ≤ p.cur) : p.bad < 0 ∧ p.ix < p.s.size ∧ p.cur = at' p.s p.ix := by
 unfold PS.cur at *
 split at h
 ·rename_i hb; simp [hb]; exact at'_nn h
 ·omega
set_option maxHeartbeats 400000 in
theorem next_any (b : Nat) (p : PS) (c : Int) (w : World) (hp : PB w b p) (hc : 0 ≤ c) :
    Calls Tryz.prog 134 #[.pointer (some ⟨b, 0, none⟩), .int .u8 c] w fun e w' => e = .returned (.bool (decide (p.cur = c))) ∧ ∃ n, w' = w.drewN n := by
 obtain ⟨c0, h6, h7, _, _⟩ := hp.main
 cases hm : moreB p
 ·go_enter Tryz.func134, Tryz.ntmps134
  go_wp2_with (go_at_call 83; refine (more_any b p _ hp).mono ?_; rintro e w' ⟨rfl, n, rfl⟩)
  go_quiet (fail)
  go_wp2
  go_ret
  exact ⟨by simp [PS.cur_none hm]; omega, _, World.drewN_drewN _ _ _⟩
 ·obtain ⟨hk, hb, hcur⟩ := PS.cur_more hm
  have hki : (p.ix : Int) < (p.s.size : Int) := by omega
  have hk0 : (0 : Int) ≤ (p.ix : Int) := by omega
  have HC : Hid (p.cur = (p.s[p.ix].toNat : Int)) := hcur
  clear hcur
  go_enter Tryz.func134, Tryz.ntmps134
  go_wp2_with (go_at_call 83; refine (more_any b p _ hp).mono ?_; rintro e w' ⟨rfl, n, rfl⟩)
  go_quiet (fail)
  go_wp2
  go_ret
  exact ⟨by rw [HC.out]; simp [BEq.beq], _, World.drewN_drewN _ _ _⟩
def PS.took (p : PS) (c : Int) : PS := if p.cur = c then { p with ix := p.ix + 1 } else p
set_option maxHeartbeats 400000 in
theorem take_any (b : Nat) (p : PS) (c : Int) (w : World) (hp : PB w b p) (hc : 0 ≤ c) (hs : p.s.size ≤ 60) :
    Calls Tryz.prog 81 #[.pointer (some ⟨b, 0, none⟩), .int .u8 c] w fun e w' => e = .returned (.bool (decide (p.cur = c))) ∧ PB w' b (p.took c) ∧ Keeps [b] w w' := by
 obtain ⟨c0, h6, h7, f6, f7⟩ := hp.main
 by_cases h : p.cur = c
 ·have hd : decide (p.cur = c) = true := by simpa using h
  have H : Hid (p.cur = c) := h
  have h0 := (PS.cur_good (p := p) (by omega)).2.1
  clear h
  have hb1 : (0 : Int) ≤ (p.ix : Int) := by omega
  have hb2 : (p.ix : Int) ≤ 60 := by omega
  go_enter Tryz.func81, Tryz.ntmps81
  go_wp2_with (go_at_call 134; refine (next_any b p c _ hp hc).mono ?_; rintro e w' ⟨rfl, n, rfl⟩)
  go_ret
  exact ⟨by simp [hd], by simp only [PS.took, H.out, if_true]; exact (hp.drewN n).setIx (p.ix + 1), ((Keeps.refl _ _).drewN n).setCell (by simp) _⟩
 ·have hd : decide (p.cur = c) = false := by simpa using h
  have H : Hid (¬ p.cur = c) := h
  clear h
  go_enter Tryz.func81, Tryz.ntmps81
  go_wp2_with (go_at_call 134; refine (next_any b p c _ hp hc).mono ?_; rintro e w' ⟨rfl, n, rfl⟩)
  go_ret
  exact ⟨by simp [hd], by simp only [PS.took, H.out, if_false]; exact hp.drewN n, (Keeps.refl _ _).drewN n⟩
def PS.needed (p : PS) (c : Int) : PS := if p.cur = c then { p with ix := p.ix + 1 } else p.failed
set_option maxHeartbeats 400000 in
theorem need_any (b : Nat) (p : PS) (c : Int) (w : World) (hp : PB w b p) (hc : 0 ≤ c) (hs : p.s.size ≤ 60) :
    Calls Tryz.prog 227 #[.pointer (some ⟨b, 0, none⟩), .int .u8 c] w fun e w' => e = .returned (.tuple #[]) ∧ PB w' b (p.needed c) ∧ Keeps [b] w w' := by
 by_cases h : p.cur = c
 ·have hd : decide (p.cur = c) = true := by simpa using h
  have H : Hid (p.cur = c) := h
  clear h
  go_enter Tryz.func227, Tryz.ntmps227
  go_wp2_with (go_at_call 81; refine (take_any b p c _ hp hc hs).mono ?_; rintro e w' ⟨rfl, hp1, hk1⟩)
  go_end0
  exact ⟨rfl, by simpa [PS.took, PS.needed, H.out] using hp1, hk1⟩
 ·have hd : decide (p.cur = c) = false := by simpa using h
  have H : Hid (¬ p.cur = c) := h
  clear h
  go_enter Tryz.func227, Tryz.ntmps227
  go_wp2_with (first | (go_at_call 81; refine (take_any b p c _ hp hc hs).mono ?_; rintro e w' ⟨rfl, hp1, hk1⟩) | (go_at_call 84; refine (fail_any b _ _ hp1).mono ?_; rintro e w' ⟨rfl, hp2, hk2⟩))
  go_end0
  exact ⟨rfl, by simpa [PS.took, PS.needed, H.out] using hp2, hk1.trans hk2⟩
set_option maxHeartbeats 400000 in
theorem digit_any (c : Int) (w : World) :
    Calls Tryz.prog 162 #[.int .u8 c] w fun e w' => e = .returned (.bool (digB c)) ∧ w' = w := by
 go_enter Tryz.func162, Tryz.ntmps162
 go_wp2
 all_goals go_ret
 all_goals exact ⟨by simp [digB]; omega, rfl⟩
set_option maxHeartbeats 400000 in
theorem alnum_any (c : Int) (w : World) :
    Calls Tryz.prog 210 #[.int .u8 c] w fun e w' => e = .returned (.bool (alnB c)) ∧ w' = w := by
 cases hd : digB c
 all_goals
  go_enter Tryz.func210, Tryz.ntmps210
  go_wp2_with (go_at_call 162; refine (digit_any c _).mono ?_; rintro e w' ⟨rfl, rfl⟩)
  all_goals go_ret
  all_goals exact ⟨ret_bool (by simp [alnB, hd] <;> omega), rfl⟩
def hasB (s : ByteArray) (c : Int) (k : Nat) : Bool := (s.data.toList.take k).any fun x => decide ((x.toNat : Int) = c)
theorem hasB_snoc (s : ByteArray) (c : Int) (k : Nat) (h : k < s.size) : hasB s c (k + 1) = (hasB s c k || decide ((s[k].toNat : Int) = c)) := by
 unfold hasB
 rw [List.take_succ_eq_append_getElem (by simpa using h)]
 simp; rfl
theorem hasB_mono (s : ByteArray) (c : Int) (k : Nat) (h : hasB s c k = true) : hasB s c s.size = true := by
 unfold hasB at *
 simp only [List.any_eq_true] at *
 obtain ⟨x, hx, hc⟩ := h
 exact ⟨x, by rw [List.take_of_length_le (by simp)]; exact List.mem_of_mem_take hx, hc⟩
set_option maxHeartbeats 400000 in
theorem has_any (s : ByteArray) (c : Int) (w : World) (hs : s.size ≤ 60) :
    Calls Tryz.prog 109 #[.string s, .int .u8 c] w fun e w' => e = .returned (.bool (hasB s c s.size)) ∧ w' = w := by
 go_enter Tryz.func109, Tryz.ntmps109
 go_wp2
 go_loop [5] (fun i => ∃ k : Nat, k ≤ s.size ∧ i = .int .i64 k ∧ Hid (hasB s c k = false)) (fun i => s.size - (intOf i).toNat)
 case atStart => exact ⟨0, Nat.zero_le _, rfl, rfl⟩
 case round =>
  obtain ⟨k, hk, rfl, hn⟩ := hrel
  by_cases hlt : k < s.size
  ·have HN : Hid (hasB s c (k + 1) = decide ((s[k].toNat : Int) = c)) := by
      show hasB s c (k + 1) = decide ((s[k].toNat : Int) = c)
      rw [hasB_snoc s c k hlt, hn.out, Bool.false_or]
   by_cases hc : (s[k].toNat : Int) = c
   ·have hcb : ((s[k].toNat : Int) == c) = true := by simpa using hc
    have HE : Hid (hasB s c s.size = true) := hasB_mono s c (k + 1) (by rw [HN.out]; simpa using hc)
    clear hc
    go_wp2
    go_ret
    exact ⟨by rw [HE.out]; rfl, rfl⟩
   ·have hcb : ((s[k].toNat : Int) == c) = false := by simpa using hc
    have HE : Hid (hasB s c (k + 1) = false) := by show hasB s c (k + 1) = false; rw [HN.out]; simpa using hc
    clear hc
    go_wp2
    go_round
    case rel => exact ⟨k + 1, by omega, by go_num, HE⟩
    case measure => simp [intOf]; omega
  ·have e : k = s.size := by omega
   subst e
   go_wp2
   go_ret
   exact ⟨by rw [hn.out]; rfl, rfl⟩
end Go.Proofs.YtnfojonmohijpaaGreatDoor
namespace Go.Proofs.YtnfojonmohijpaaGreatDoor
open Go.RowKit
def PS.after {α : Type} (p : PS) : R α → PS
 | .ok _ j => { p with ix := j }
 | .bad j => { p with bad := j, ix := j }
def Val (r : R Int) (v : Int) : Prop := 0 ≤ v ∧ v ≤ 255 ∧ ∀ a j, r = .ok a j → v = a
set_option maxHeartbeats 400000 in
theorem hex_none (b : Nat) (p : PS) (w : World) (ahead least : Int) (last : Bool) (hp : PB w b p) (hm : moreB p = false) :
    Calls Tryz.prog 283 #[.pointer (some ⟨b, 0, none⟩), .int .i64 ahead, .bool last, .int .i64 least] w fun e w' =>
     e = .returned (.int .i64 0) ∧ PB w' b p.failed ∧ Keeps [b] w w' := by
 go_enter Tryz.func283, Tryz.ntmps283
 go_wp2_with (first | (go_at_call 83; refine (more_any b p _ hp).mono ?_; rintro e w' ⟨rfl, n, rfl⟩) | (go_at_call 84; refine (fail_any b p _ (hp.drewN n)).mono ?_; rintro e w' ⟨rfl, hp1, hk1⟩))
 go_ret
 exact ⟨rfl, hp1, ((Keeps.refl _ _).drewN n).trans hk1⟩
set_option maxHeartbeats 1000000 in
theorem hex_some (b : Nat) (p : PS) (w : World) (ahead least : Int) (last : Bool) (hp : PB w b p) (hm : moreB p = true) (hs : p.s.size ≤ 60)
    (ha0 : 0 ≤ ahead) (ha1 : ahead ≤ 240) (hl0 : 0 ≤ least) (hl1 : least ≤ 255) :
    Calls Tryz.prog 283 #[.pointer (some ⟨b, 0, none⟩), .int .i64 ahead, .bool last, .int .i64 least] w fun e w' =>
     ∃ v, e = .returned (.int .i64 v) ∧ 0 ≤ v ∧ v ≤ 15 ∧ (∀ a j, hexS p.s ahead last least p.ix = .ok a j → v = a) ∧ PB w' b (p.after (hexS p.s ahead last least p.ix)) ∧ Keeps [b] w w' := by
 obtain ⟨hk, hb, hcur⟩ := PS.cur_more hm
 have ec : at' p.s p.ix = (p.s[p.ix].toNat : Int) := at'_lt hk
 have hki : (p.ix : Int) < (p.s.size : Int) := by omega
 have hk0 : (0 : Int) ≤ (p.ix : Int) := by omega
 have hk6 : (p.ix : Int) ≤ 60 := by omega
 have hc1 := (p.s[p.ix]).toNat_lt
 have hcl : (0 : Int) ≤ (p.s[p.ix].toNat : Int) := by omega
 have hcu : (p.s[p.ix].toNat : Int) ≤ 255 := by omega
 have HS : Hid (hexS p.s ahead last least p.ix = if hexd (p.s[p.ix].toNat : Int) < 0 ∨ (if last then ahead + hexd (p.s[p.ix].toNat : Int) else 16 * (ahead + hexd (p.s[p.ix].toNat : Int)) + 15) < least then .bad p.ix else .ok (hexd (p.s[p.ix].toNat : Int)) (p.ix + 1)) := by
  show hexS p.s ahead last least p.ix = _
  unfold hexS
  rw [ec]
 obtain ⟨c0, h6, h7, f6, f7⟩ := hp.main
 clear hcur ec hc1
 generalize hgc : (p.s[p.ix].toNat : Int) = c at *
 have cases5 : (48 ≤ c ∧ c ≤ 57 ∧ ¬ 97 ≤ c ∧ hexd c = c - 48) ∨ (48 ≤ c ∧ ¬ c ≤ 57 ∧ 97 ≤ c ∧ c ≤ 102 ∧ hexd c = c - 97 + 10) ∨
     ((¬ 48 ≤ c ∧ ¬ 97 ≤ c) ∧ hexd c = -1) ∨ ((48 ≤ c ∧ ¬ c ≤ 57 ∧ ¬ 97 ≤ c) ∧ hexd c = -1) ∨ ((48 ≤ c ∧ ¬ c ≤ 57 ∧ 97 ≤ c ∧ ¬ c ≤ 102) ∧ hexd c = -1) := by
  unfold hexd
  by_cases h1 : 48 ≤ c <;> by_cases h2 : c ≤ 57 <;> by_cases h3 : 97 ≤ c <;> by_cases h4 : c ≤ 102 <;> simp [h1, h2, h3, h4] <;> omega
 rcases cases5 with ⟨hA1, hA2, hA3, hd⟩ | ⟨hA1, hA2, hA3, hA4, hd⟩ | ⟨⟨hA1, hA2⟩, hd⟩ | ⟨⟨hA1, hA2, hA3⟩, hd⟩ | ⟨⟨hA1, hA2, hA3, hA4⟩, hd⟩
 rotate_left 2
 iterate 3
  ·have HB : Hid (hexS p.s ahead last least p.ix = .bad p.ix) := by show hexS p.s ahead last least p.ix = _; rw [HS.out, hd, if_pos (Or.inl (by omega))]
   clear HS hd
   cases last
   all_goals
    go_enter Tryz.func283, Tryz.ntmps283
    go_wp2_with (first | (go_at_call 83; refine (more_any b p _ hp).mono ?_; rintro e w' ⟨rfl, n, rfl⟩))
    go_quiet (fail)
    go_wp2_with (first | (go_at_call 84; refine (fail_good b p _ (hp.drewN _) hb).mono ?_; rintro e w' ⟨rfl, rfl⟩))
    go_ret
    exact ⟨0, rfl, by omega, by omega, by rw [HB.out]; simp, by rw [HB.out]; exact (hp.drewN _).setBad _, ((Keeps.refl _ _).drewN _).setCell (by simp) _⟩
 ·cases last
  ·by_cases hg : 16 * (ahead + (c - 48)) + 15 < least
   ·have HB : Hid (hexS p.s ahead false least p.ix = .bad p.ix) := by show hexS p.s ahead false least p.ix = _; rw [HS.out, hd, if_pos (Or.inr (by simp; omega))]
    clear HS hd
    go_enter Tryz.func283, Tryz.ntmps283
    go_wp2_with (first | (go_at_call 83; refine (more_any b p _ hp).mono ?_; rintro e w' ⟨rfl, n, rfl⟩))
    go_quiet (fail)
    go_wp2_with (first | (go_at_call 84; refine (fail_good b p _ (hp.drewN _) hb).mono ?_; rintro e w' ⟨rfl, rfl⟩))
    go_ret
    exact ⟨0, rfl, by omega, by omega, by rw [HB.out]; simp, by rw [HB.out]; exact (hp.drewN _).setBad _, ((Keeps.refl _ _).drewN _).setCell (by simp) _⟩
   ·have HO : Hid (hexS p.s ahead false least p.ix = .ok (c - 48) (p.ix + 1)) := by show hexS p.s ahead false least p.ix = _; rw [HS.out, hd, if_neg (by simp; omega)]
    clear HS hd
    go_enter Tryz.func283, Tryz.ntmps283
    go_wp2_with (first | (go_at_call 83; refine (more_any b p _ hp).mono ?_; rintro e w' ⟨rfl, n, rfl⟩))
    go_quiet (fail)
    go_wp2_with fail
    go_ret
    exact ⟨c - 48, ret_int (by first | rfl | omega), by omega, by omega, by rw [HO.out]; intro a j h; cases h; rfl, by rw [HO.out]; exact (hp.drewN _).setIx (p.ix + 1), ((Keeps.refl _ _).drewN _).setCell (by simp) _⟩
  ·by_cases hg : ahead + (c - 48) < least
   ·have HB : Hid (hexS p.s ahead true least p.ix = .bad p.ix) := by show hexS p.s ahead true least p.ix = _; rw [HS.out, hd, if_pos (Or.inr (by simp; omega))]
    clear HS hd
    go_enter Tryz.func283, Tryz.ntmps283
    go_wp2_with (first | (go_at_call 83; refine (more_any b p _ hp).mono ?_; rintro e w' ⟨rfl, n, rfl⟩))
    go_quiet (fail)
    go_wp2_with (first | (go_at_call 84; refine (fail_good b p _ (hp.drewN _) hb).mono ?_; rintro e w' ⟨rfl, rfl⟩))
    go_ret
    exact ⟨0, rfl, by omega, by omega, by rw [HB.out]; simp, by rw [HB.out]; exact (hp.drewN _).setBad _, ((Keeps.refl _ _).drewN _).setCell (by simp) _⟩
   ·have HO : Hid (hexS p.s ahead true least p.ix = .ok (c - 48) (p.ix + 1)) := by show hexS p.s ahead true least p.ix = _; rw [HS.out, hd, if_neg (by simp; omega)]
    clear HS hd
    go_enter Tryz.func283, Tryz.ntmps283
    go_wp2_with (first | (go_at_call 83; refine (more_any b p _ hp).mono ?_; rintro e w' ⟨rfl, n, rfl⟩))
    go_quiet (fail)
    go_wp2_with fail
    go_ret
    exact ⟨c - 48, ret_int (by first | rfl | omega), by omega, by omega, by rw [HO.out]; intro a j h; cases h; rfl, by rw [HO.out]; exact (hp.drewN _).setIx (p.ix + 1), ((Keeps.refl _ _).drewN _).setCell (by simp) _⟩
 ·cases last
  ·by_cases hg : 16 * (ahead + (c - 97 + 10)) + 15 < least
   ·have HB : Hid (hexS p.s ahead false least p.ix = .bad p.ix) := by show hexS p.s ahead false least p.ix = _; rw [HS.out, hd, if_pos (Or.inr (by simp; omega))]
    clear HS hd
    go_enter Tryz.func283, Tryz.ntmps283
    go_wp2_with (first | (go_at_call 83; refine (more_any b p _ hp).mono ?_; rintro e w' ⟨rfl, n, rfl⟩))
    go_quiet (fail)
    go_wp2_with (first | (go_at_call 84; refine (fail_good b p _ (hp.drewN _) hb).mono ?_; rintro e w' ⟨rfl, rfl⟩))
    go_ret
    exact ⟨0, rfl, by omega, by omega, by rw [HB.out]; simp, by rw [HB.out]; exact (hp.drewN _).setBad _, ((Keeps.refl _ _).drewN _).setCell (by simp) _⟩
   ·have HO : Hid (hexS p.s ahead false least p.ix = .ok (c - 97 + 10) (p.ix + 1)) := by show hexS p.s ahead false least p.ix = _; rw [HS.out, hd, if_neg (by simp; omega)]
    clear HS hd
    go_enter Tryz.func283, Tryz.ntmps283
    go_wp2_with (first | (go_at_call 83; refine (more_any b p _ hp).mono ?_; rintro e w' ⟨rfl, n, rfl⟩))
    go_quiet (fail)
    go_wp2_with fail
    go_ret
    exact ⟨c - 97 + 10, ret_int (by first | rfl | omega), by omega, by omega, by rw [HO.out]; intro a j h; cases h; rfl, by rw [HO.out]; exact (hp.drewN _).setIx (p.ix + 1), ((Keeps.refl _ _).drewN _).setCell (by simp) _⟩
  ·by_cases hg : ahead + (c - 97 + 10) < least
   ·have HB : Hid (hexS p.s ahead true least p.ix = .bad p.ix) := by show hexS p.s ahead true least p.ix = _; rw [HS.out, hd, if_pos (Or.inr (by simp; omega))]
    clear HS hd
    go_enter Tryz.func283, Tryz.ntmps283
    go_wp2_with (first | (go_at_call 83; refine (more_any b p _ hp).mono ?_; rintro e w' ⟨rfl, n, rfl⟩))
    go_quiet (fail)
    go_wp2_with (first | (go_at_call 84; refine (fail_good b p _ (hp.drewN _) hb).mono ?_; rintro e w' ⟨rfl, rfl⟩))
    go_ret
    exact ⟨0, rfl, by omega, by omega, by rw [HB.out]; simp, by rw [HB.out]; exact (hp.drewN _).setBad _, ((Keeps.refl _ _).drewN _).setCell (by simp) _⟩
   ·have HO : Hid (hexS p.s ahead true least p.ix = .ok (c - 97 + 10) (p.ix + 1)) := by show hexS p.s ahead true least p.ix = _; rw [HS.out, hd, if_neg (by simp; omega)]
    clear HS hd
    go_enter Tryz.func283, Tryz.ntmps283
    go_wp2_with (first | (go_at_call 83; refine (more_any b p _ hp).mono ?_; rintro e w' ⟨rfl, n, rfl⟩))
    go_quiet (fail)
    go_wp2_with fail
    go_ret
    exact ⟨c - 97 + 10, ret_int (by first | rfl | omega), by omega, by omega, by rw [HO.out]; intro a j h; cases h; rfl, by rw [HO.out]; exact (hp.drewN _).setIx (p.ix + 1), ((Keeps.refl _ _).drewN _).setCell (by simp) _⟩
end Go.Proofs.YtnfojonmohijpaaGreatDoor
