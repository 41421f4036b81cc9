/-
  DERIVED. Plain mathematics: how a pattern is read (the document's grammar) and written in one way, as functions on bytes. Nothing of the program stands here; nothing is proved here but small facts on these functions.
-/
import Derived.Below
import Derived.Test.YtnfojonmohijpaaGreatDoorProg
import Derived.WalkKit
import Derived.WalkSpells
import Derived.WalkLawsBesides
import Derived.Deep.QuietTactic
import Derived.BigQuiet
import Derived.Lib.Bytealg
import Derived.Laws.StandIn
set_option linter.unusedSimpArgs false
set_option linter.unusedVariables false
namespace Go.Proofs.YtnfojonmohijpaaGreatDoor
def at' (s : ByteArray) (i : Nat) : Int := if h : i < s.size then (s[i].toNat : Int) else -1
theorem at'_lt {s : ByteArray} {i : Nat} (h : i < s.size) : at' s i = (s[i].toNat : Int) := by simp [at', h]
theorem at'_ge {s : ByteArray} {i : Nat} (h : s.size ≤ i) : at' s i = -1 := by simp [at', Nat.not_lt.2 h]
theorem at'_bd (s : ByteArray) (i : Nat) : -1 ≤ at' s i ∧ at' s i ≤ 255 := by
 unfold at'
 split
 ·rename_i h
  have := s[i].toNat_lt
  omega
 ·omega
theorem at'_nn {s : ByteArray} {i : Nat} (h : 0 ≤ at' s i) : i < s.size := by
 rcases Nat.lt_or_ge i s.size with h' | h'
 ·exact h'
 ·rw [at'_ge h'] at h; omega
def digB (c : Int) : Bool := decide (48 ≤ c) && decide (c ≤ 57)
def alnB (c : Int) : Bool := digB c || (decide (97 ≤ c) && decide (c ≤ 122)) || (decide (65 ≤ c) && decide (c ≤ 90))
inductive R (α : Type) where
 | ok (a : α) (i : Nat)
 | bad (i : Nat)
def R.bind {α β : Type} : R α → (α → Nat → R β) → R β
 | .ok a i, f => f a i
 | .bad i, _ => .bad i
def needS (s : ByteArray) (c : Int) (i : Nat) : R Unit := if at' s i = c then .ok () (i + 1) else .bad i
def hexd (c : Int) : Int := if 48 ≤ c ∧ c ≤ 57 then c - 48 else if 97 ≤ c ∧ c ≤ 102 then c - 87 else -1
theorem hexd_bd (c : Int) : -1 ≤ hexd c ∧ hexd c ≤ 15 := by unfold hexd; split <;> (try split) <;> omega
def hexS (s : ByteArray) (ahead : Int) (last : Bool) (least : Int) (i : Nat) : R Int :=
 if hexd (at' s i) < 0 ∨ (if last then ahead + hexd (at' s i) else 16 * (ahead + hexd (at' s i)) + 15) < least then .bad i else .ok (hexd (at' s i)) (i + 1)
def escS (s : ByteArray) (least : Int) (i : Nat) : R Int :=
 if at' s i = 120 then (hexS s 0 false least (i + 1)).bind fun a j => (hexS s (16 * a) true least j).bind fun b k => .ok (16 * a + b) k
 else if at' s i < 0 ∨ alnB (at' s i) = true ∨ at' s i < least then .bad i else .ok (at' s i) (i + 1)
def innS (s : ByteArray) (least : Int) (i : Nat) : R Int :=
 if at' s i = 92 then escS s least (i + 1)
 else if at' s i < 0 ∨ at' s i = 91 ∨ at' s i = 93 ∨ at' s i = 45 ∨ at' s i = 94 ∨ at' s i < least then .bad i else .ok (at' s i) (i + 1)
def names : List (List UInt8) := [[100, 105, 103, 105, 116], [108, 111, 119, 101, 114], [117, 112, 112, 101, 114], [97, 108, 112, 104, 97], [97, 108, 110, 117, 109], [115, 112, 97, 99, 101], [112, 117, 110, 99, 116]]
def lowB (c : Int) : Bool := decide (97 ≤ c) && decide (c ≤ 122)
def uppB (c : Int) : Bool := decide (65 ≤ c) && decide (c ≤ 90)
def clsB (n : Nat) (c : Int) : Bool :=
 match n with
 | 0 => digB c
 | 1 => lowB c
 | 2 => uppB c
 | 3 => lowB c || uppB c
 | 4 => digB c || lowB c || uppB c
 | 5 => (decide (9 ≤ c) && decide (c ≤ 13)) || decide (c = 32)
 | _ => decide (32 < c) && decide (c < 127) && !digB c && !lowB c && !uppB c
def goesOn (word : List UInt8) (c : Int) : Bool := names.any fun n => decide (word.length < n.length) && decide (n.take word.length = word) && decide (((n.getD word.length 0).toNat : Int) = c)
def clsS (s : ByteArray) : Nat → List UInt8 → Nat → R Nat
 | 0, _, i => .bad i
 | f + 1, word, i =>
  match names.findIdx? (· = word) with
  | some k => .ok k i
  | none => if goesOn word (at' s i) then clsS s f (word ++ [s.get! i]) (i + 1) else .bad i
end Go.Proofs.YtnfojonmohijpaaGreatDoor
namespace Go.Proofs.YtnfojonmohijpaaGreatDoor
open Go.RowKit
structure PS where
 s : ByteArray
 nodes : Value
 root : Nat
 bg : Bool
 en : Bool
 gr : Nat
 bad : Int
 ix : Nat
 deep : Nat
structure Keeps (S : List Nat) (w w' : World) : Prop where
 os : w'.os = w.os
 tape : w'.tape = w.tape
 output : w'.output = w.output
 size : w.heap.size ≤ w'.heap.size
 block : ∀ k, k < w.heap.size → k ∉ S → w'.heap[k]? = w.heap[k]?
theorem Keeps.refl (S : List Nat) (w : World) : Keeps S w w := ⟨rfl, rfl, rfl, Nat.le_refl _, fun _ _ _ => rfl⟩
theorem Keeps.trans {S : List Nat} {a b c : World} (h : Keeps S a b) (k : Keeps S b c) : Keeps S a c :=
 ⟨k.os.trans h.os, k.tape.trans h.tape, k.output.trans h.output, Nat.le_trans h.size k.size, fun i hi hn => (k.block i (Nat.lt_of_lt_of_le hi h.size) hn).trans (h.block i hi hn)⟩
theorem Keeps.drewN {S : List Nat} {a w : World} (h : Keeps S a w) (n : Nat) : Keeps S a (w.drewN n) := ⟨h.os, h.tape, h.output, h.size, h.block⟩
theorem Keeps.setCell {S : List Nat} {a w : World} (h : Keeps S a w) {p : Addr} (hp : p.block ∈ S ∨ a.heap.size ≤ p.block) (u : Value) : Keeps S a (w.setCell p u) :=
 ⟨h.os, h.tape, h.output, by simpa using h.size, fun k hk hn => by
   rw [Below.heap_setCell]
   · exact h.block k hk hn
   · rintro rfl
     rcases hp with hp | hp
     · exact hn hp
     · omega⟩
theorem Keeps.alloc {S : List Nat} {a w : World} (h : Keeps S a w) (o : Obj) : Keeps S a (w.alloc o) :=
 ⟨h.os, h.tape, h.output, by have := h.size; simp; omega, fun k hk hn => by
   rw [Below.heap_alloc _ _ _ (Nat.lt_of_lt_of_le hk h.size)]
   exact h.block k hk hn⟩
theorem ret_bool {a b : Bool} (h : a = true ↔ b = true) : Ending.returned (.bool a) = .returned (.bool b) := by
 have : a = b := by cases a <;> cases b <;> simp at h ⊢
 rw [this]
theorem ret_int {k : IntKind} {a b : Int} (h : a = b) : Ending.returned (.int k a) = .returned (.int k b) := by rw [h]
end Go.Proofs.YtnfojonmohijpaaGreatDoor
namespace Go.Proofs.YtnfojonmohijpaaGreatDoor
def classS (s : ByteArray) (i : Nat) : R Nat := (needS s 58 (i + 1)).bind fun _ j => (clsS s 6 [] j).bind fun k j => (needS s 58 j).bind fun _ j => (needS s 93 j).bind fun _ j => .ok k j
def stretch (a c : Int) : Nat → Bool := fun n => decide (a ≤ (n : Int)) && decide ((n : Int) ≤ c)
def rangeS (s : ByteArray) (i : Nat) : R (Nat → Bool) :=
 if at' s i = 91 then (classS s i).bind fun k j => .ok (fun n => clsB k n) j
 else (innS s 0 i).bind fun a j => if at' s j = 45 then (innS s a (j + 1)).bind fun c k => .ok (stretch a c) k else .ok (stretch a a) j
inductive SetL (s : ByteArray) : (Nat → Bool) → Nat → R (Nat → Bool) → Prop
 | done (f : Nat → Bool) (i : Nat) : at' s i = 93 → SetL s f i (.ok f (i + 1))
 | more (f r : Nat → Bool) (i j : Nat) (q : R (Nat → Bool)) : at' s i ≠ 93 → rangeS s i = .ok r j → SetL s (fun n => f n || r n) j q → SetL s f i q
 | bad (f : Nat → Bool) (i j : Nat) : at' s i ≠ 93 → rangeS s i = .bad j → SetL s f i (.bad j)
theorem SetL.det {s : ByteArray} {f : Nat → Bool} {i : Nat} {q q' : R (Nat → Bool)} (h : SetL s f i q) (h' : SetL s f i q') : q = q' := by
 induction h with
 | done f i e => cases h' with
  | done => rfl
  | more _ _ _ _ _ e' => exact absurd e e'
  | bad _ _ _ e' => exact absurd e e'
 | more f r i j q e e2 _ ih => cases h' with
  | done _ _ e' => exact absurd e' e
  | more _ r' _ j' _ _ e2' hl =>
   rw [e2] at e2'
   cases e2'
   exact ih hl
  | bad _ _ _ _ e2' => rw [e2] at e2'; cases e2'
 | bad f i j e e2 => cases h' with
  | done _ _ e' => exact absurd e' e
  | more _ r' _ j' _ _ e2' hl => rw [e2] at e2'; cases e2'
  | bad _ _ _ _ e2' => rw [e2] at e2'; cases e2'; rfl
inductive SetU (s : ByteArray) : Nat → R (Nat → Bool) → Prop
 | go (r : Nat → Bool) (i j : Nat) (q : R (Nat → Bool)) : rangeS s i = .ok r j → SetL s r j q → SetU s i q
 | bad (i j : Nat) : rangeS s i = .bad j → SetU s i (.bad j)
theorem SetU.det {s : ByteArray} {i : Nat} {q q' : R (Nat → Bool)} (h : SetU s i q) (h' : SetU s i q') : q = q' := by
 cases h with
 | go r _ j _ e hl => cases h' with
  | go r' _ j' _ e' hl' => rw [e] at e'; cases e'; exact hl.det hl'
  | bad _ _ e' => rw [e] at e'; cases e'
 | bad _ j e => cases h' with
  | go r' _ j' _ e' hl' => rw [e] at e'; cases e'
  | bad _ _ e' => rw [e] at e'; cases e'; rfl
def R.map {α β : Type} (f : α → β) : R α → R β
 | .ok a i => .ok (f a) i
 | .bad i => .bad i
def SetR (s : ByteArray) (i : Nat) (q : R (Nat → Bool)) : Prop :=
 (at' s i = 94 ∧ ∃ q', SetU s (i + 1) q' ∧ q = q'.map (fun f n => !f n)) ∨ (at' s i ≠ 94 ∧ SetU s i q)
theorem SetR.det {s : ByteArray} {i : Nat} {q q' : R (Nat → Bool)} (h : SetR s i q) (h' : SetR s i q') : q = q' := by
 rcases h with ⟨e, r, hr, rfl⟩ | ⟨e, hr⟩ <;> rcases h' with ⟨e', r', hr', rfl⟩ | ⟨e', hr'⟩
 ·rw [hr.det hr']
 ·exact absurd e e'
 ·exact absurd e' e
 ·exact hr.det hr'
theorem hexS_ok {s : ByteArray} {ahead least a : Int} {last : Bool} {i j : Nat} (h : hexS s ahead last least i = .ok a j) : j = i + 1 ∧ 0 ≤ a ∧ a ≤ 15 ∧ i < s.size ∧ least ≤ (if last then ahead + a else 16 * (ahead + a) + 15) := by
 unfold hexS at h
 by_cases hn : hexd (at' s i) < 0 ∨ (if last then ahead + hexd (at' s i) else 16 * (ahead + hexd (at' s i)) + 15) < least
 ·rw [if_pos hn] at h; cases h
 ·rw [if_neg hn] at h
  have hd := hexd_bd (at' s i)
  injection h with h1 h2
  subst h1
  have : 0 ≤ at' s i := by
   by_cases hh : 0 ≤ at' s i
   ·exact hh
   ·exfalso; apply hn; left
    unfold hexd; rw [if_neg (by omega), if_neg (by omega)]; omega
  have := at'_nn this
  refine ⟨h2.symm, ?_, hd.2, this, ?_⟩
  ·omega
  ·exact Int.not_lt.1 fun hh => hn (Or.inr hh)
def hexPS (s : ByteArray) (least : Int) (i : Nat) : R Int := (hexS s 0 false least i).bind fun a j => (hexS s (16 * a) true least j).bind fun b k => .ok (16 * a + b) k
theorem escS_x {s : ByteArray} {least : Int} {i : Nat} (h : at' s i = 120) : escS s least i = hexPS s least (i + 1) := by
 unfold escS hexPS; rw [if_pos h]
theorem escS_ok {s : ByteArray} {least a : Int} {i j : Nat} (h : escS s least i = .ok a j) : i < j ∧ j ≤ s.size ∧ 0 ≤ a ∧ a ≤ 255 := by
 by_cases hx : at' s i = 120
 ·rw [escS_x hx] at h
  unfold hexPS at h
  cases r1 : hexS s 0 false least (i + 1) with
  | bad k => rw [r1] at h; cases h
  | ok x k =>
   rw [r1] at h
   obtain ⟨rfl, hx0, hx1, hlt, _⟩ := hexS_ok r1
   simp only [R.bind] at h
   cases r2 : hexS s (16 * x) true least (i + 1 + 1) with
   | bad k => rw [r2] at h; cases h
   | ok y k =>
    rw [r2] at h
    obtain ⟨rfl, hy0, hy1, hlt2, _⟩ := hexS_ok r2
    injection h with h1 h2
    subst h1 h2
    omega
 ·unfold escS at h
  rw [if_neg hx] at h
  by_cases hc : at' s i < 0 ∨ alnB (at' s i) = true ∨ at' s i < least
  ·rw [if_pos hc] at h; cases h
  ·rw [if_neg hc] at h
   injection h with h1 h2
   subst h1 h2
   have h0 : 0 ≤ at' s i := by
    apply Int.not_lt.1; intro hh; exact hc (Or.inl hh)
   have := at'_nn h0
   have := at'_bd s i
   omega
theorem innS_ok {s : ByteArray} {least a : Int} {i j : Nat} (h : innS s least i = .ok a j) : i < j ∧ j ≤ s.size ∧ 0 ≤ a ∧ a ≤ 255 := by
 unfold innS at h
 by_cases hx : at' s i = 92
 ·rw [if_pos hx] at h
  have := escS_ok h
  omega
 ·rw [if_neg hx] at h
  by_cases hc : at' s i < 0 ∨ at' s i = 91 ∨ at' s i = 93 ∨ at' s i = 45 ∨ at' s i = 94 ∨ at' s i < least
  ·rw [if_pos hc] at h; cases h
  ·rw [if_neg hc] at h
   injection h with h1 h2
   subst h1 h2
   have h0 : 0 ≤ at' s i := by omega
   have := at'_nn h0
   have := at'_bd s i
   omega
theorem goesOn_nn {word : List UInt8} {c : Int} (h : goesOn word c = true) : 0 ≤ c := by
 unfold goesOn at h
 simp only [List.any_eq_true, Bool.and_eq_true, decide_eq_true_eq] at h
 obtain ⟨n, _, _, hc⟩ := h
 omega
theorem clsS_ok {s : ByteArray} (f : Nat) : ∀ {word : List UInt8} {i j k : Nat}, clsS s f word i = .ok k j → i ≤ j ∧ (i ≤ s.size → j ≤ s.size) ∧ k < 7 := by
 induction f with
 | zero => intro word i j k h; cases h
 | succ f ih =>
  intro word i j k h
  rw [clsS] at h
  cases hf : names.findIdx? (· = word) with
  | some m =>
   rw [hf] at h
   injection h with h1 h2
   subst h1 h2
   rw [List.findIdx?_eq_some_iff_getElem] at hf
   obtain ⟨hm, _⟩ := hf
   exact ⟨Nat.le_refl _, id, hm⟩
  | none =>
   rw [hf] at h
   dsimp only at h
   by_cases hg : goesOn word (at' s i) = true
   ·rw [if_pos hg] at h
    have := ih h
    have := at'_nn (goesOn_nn hg)
    omega
   ·rw [if_neg hg] at h; cases h
theorem needS_ok {s : ByteArray} {c : Int} {i j : Nat} {u : Unit} (h : needS s c i = .ok u j) : j = i + 1 ∧ at' s i = c := by
 unfold needS at h
 by_cases hc : at' s i = c
 ·rw [if_pos hc] at h; injection h with h1 h2; exact ⟨h2.symm, hc⟩
 ·rw [if_neg hc] at h; cases h
theorem classS_ok {s : ByteArray} {i j k : Nat} (h : classS s i = .ok k j) : i < j ∧ j ≤ s.size ∧ k < 7 := by
 unfold classS at h
 cases h1 : needS s 58 (i + 1) with
 | bad x => rw [h1] at h; cases h
 | ok u x =>
  rw [h1] at h
  obtain ⟨rfl, e1⟩ := needS_ok h1
  have l1 := at'_nn (s := s) (i := i + 1) (by omega)
  simp only [R.bind] at h
  cases h2 : clsS s 6 [] (i + 1 + 1) with
  | bad x => rw [h2] at h; cases h
  | ok m x =>
   rw [h2] at h
   have := clsS_ok 6 h2
   simp only at h
   cases h3 : needS s 58 x with
   | bad y => rw [h3] at h; cases h
   | ok u y =>
    rw [h3] at h
    obtain ⟨rfl, e3⟩ := needS_ok h3
    simp only at h
    cases h4 : needS s 93 (x + 1) with
    | bad y => rw [h4] at h; cases h
    | ok u y =>
     rw [h4] at h
     obtain ⟨rfl, e4⟩ := needS_ok h4
     have l4 := at'_nn (s := s) (i := x + 1) (by omega)
     simp only at h
     injection h with ha hb
     subst ha hb
     omega
theorem rangeS_ok {s : ByteArray} {i j : Nat} {r : Nat → Bool} (h : rangeS s i = .ok r j) : i < j ∧ j ≤ s.size := by
 unfold rangeS at h
 by_cases hx : at' s i = 91
 ·rw [if_pos hx] at h
  cases h1 : classS s i with
  | bad x => rw [h1] at h; cases h
  | ok k x =>
   rw [h1] at h
   have := classS_ok h1
   injection h with ha hb
   subst hb
   omega
 ·rw [if_neg hx] at h
  cases h1 : innS s 0 i with
  | bad x => rw [h1] at h; cases h
  | ok a x =>
   rw [h1] at h
   have := innS_ok h1
   simp only [R.bind] at h
   by_cases hd : at' s x = 45
   ·rw [if_pos hd] at h
    cases h2 : innS s a (x + 1) with
    | bad y => rw [h2] at h; cases h
    | ok c y =>
     rw [h2] at h
     have := innS_ok h2
     injection h with ha hb
     subst hb
     omega
   ·rw [if_neg hd] at h
    injection h with ha hb
    subst hb
    omega
end Go.Proofs.YtnfojonmohijpaaGreatDoor
namespace Go.Proofs.YtnfojonmohijpaaGreatDoor
open Go.RowKit
def nmB (l : List UInt8) : ByteArray := ⟨l.toArray⟩
end Go.Proofs.YtnfojonmohijpaaGreatDoor
namespace Go.Proofs.YtnfojonmohijpaaGreatDoor
open Go.RowKit
def hcells (f : Nat → Bool) : Array Value := Array.ofFn (n := 256) fun k => Value.bool (f k.val)
theorem hcells_size (f : Nat → Bool) : (hcells f).size = 256 := by simp [hcells]
theorem hcells_get (f : Nat → Bool) {k : Nat} (h : k < 256) : (hcells f)[k]? = some (.bool (f k)) := by simp [hcells, h]
theorem hcells_set (f : Nat → Bool) (k : Nat) (v : Bool) : (hcells f).setIfInBounds k (.bool v) = hcells (fun n => if n = k then v else f n) := by
 apply Array.ext_getElem?
 intro i
 rw [Array.getElem?_setIfInBounds]
 by_cases hi : i < 256
 ·rw [hcells_get _ hi, hcells_get _ hi]
  by_cases hk : k = i
  ·subst hk; simp [hcells_size, hi]
  ·simp [hk, Ne.symm hk]
 ·have e1 : (hcells fun n => if n = k then v else f n)[i]? = none := Array.getElem?_eq_none (by rw [hcells_size]; omega)
  have e2 : (hcells f)[i]? = none := Array.getElem?_eq_none (by rw [hcells_size]; omega)
  rw [e1, e2]
  by_cases hk : k = i
  ·rw [if_pos hk, if_neg (by rw [hcells_size]; omega)]
  ·rw [if_neg hk]
def HB (w : World) (h : Nat) (f : Nat → Bool) : Prop := w.heap[h]? = some (.cells (hcells f) 4 (0, 0))
def nm (k : Nat) : List UInt8 := names.getD k []
theorem names_len : ∀ n ∈ names, n.length = 5 := by decide
theorem names_count : names.length = 7 := rfl
def ncells : Array Value := #[.string (nmB [100, 105, 103, 105, 116]), .string (nmB [108, 111, 119, 101, 114]), .string (nmB [117, 112, 112, 101, 114]), .string (nmB [97, 108, 112, 104, 97]), .string (nmB [97, 108, 110, 117, 109]), .string (nmB [115, 112, 97, 99, 101]), .string (nmB [112, 117, 110, 99, 116])]
theorem Keeps.mono {S S' : List Nat} {a w : World} (h : Keeps S a w) (hs : ∀ x, x ∈ S → x ∈ S') : Keeps S' a w :=
 ⟨h.os, h.tape, h.output, h.size, fun k hk hn => h.block k hk fun hx => hn (hs k hx)⟩
theorem nmB_toList (l : List UInt8) : (nmB l).data.toList = l := by simp [nmB]
theorem nmB_size (l : List UInt8) : (nmB l).size = l.length := by simp [nmB, ByteArray.size]
theorem nm_get {j : Nat} (hj : j < 7) : nm j = names[j]'(by rw [names_count]; exact hj) := by
 unfold nm
 rw [List.getD_eq_getElem?_getD, List.getElem?_eq_getElem (by rw [names_count]; exact hj)]; rfl
theorem nm_len {j : Nat} (hj : j < 7) : (nm j).length = 5 := by rw [nm_get hj]; exact names_len _ (List.getElem_mem _)
theorem nm_mem {j : Nat} (hj : j < 7) : nm j ∈ names := by rw [nm_get hj]; exact List.getElem_mem _
theorem find_none {word : List UInt8} (h : ∀ j, j < 7 → nm j ≠ word) : names.findIdx? (· = word) = none := by
 rw [List.findIdx?_eq_none_iff]
 intro x hx
 obtain ⟨j, hj, rfl⟩ := List.mem_iff_getElem.1 hx
 have := h j hj
 rw [nm_get hj] at this
 simpa using this
theorem find_some {word : List UInt8} {k : Nat} (hk : k < 7) (h : ∀ j, j < k → nm j ≠ word) (e : nm k = word) : names.findIdx? (· = word) = some k := by
 rw [List.findIdx?_eq_some_iff_getElem]
 refine ⟨hk, ?_, ?_⟩
 ·have e' := (nm_get hk).symm.trans e
  exact decide_eq_true e'
 ·intro j hj
  have := h j hj
  rw [nm_get (by omega)] at this
  simpa using this
theorem eqL (a b : List UInt8) : ((nmB a).toList == (nmB b).toList) = decide (a = b) := by
 rw [ByteArray.toList_eq, ByteArray.toList_eq, nmB_toList, nmB_toList]
 by_cases h : a = b
 ·subst h; simp
 ·simp [h]
end Go.Proofs.YtnfojonmohijpaaGreatDoor
namespace Go.Proofs.YtnfojonmohijpaaGreatDoor
open Go.RowKit
structure QS where
 s : ByteArray
 ix : Nat
 op : Nat
 gr : Nat
def QS.cells (p : QS) : Array Value := #[.string p.s, .int .i64 p.ix, .int .i64 p.op, .int .i64 p.gr]
def QB (w : World) (b : Nat) (p : QS) : Prop := w.heap[b]? = some (.cells p.cells 201 (0, 0))
theorem QB.lt {w : World} {b : Nat} {p : QS} (h : QB w b p) : b < w.heap.size := (Array.getElem?_eq_some_iff.1 h).1
theorem QB.keep {w w' : World} {b : Nat} {p : QS} {S : List Nat} (h : QB w b p) (hk : Keeps S w w') (hb : b ∉ S) : QB w' b p := (hk.block b h.lt hb).trans h
theorem QB.drewN {w : World} {b : Nat} {p : QS} (h : QB w b p) (n : Nat) : QB (w.drewN n) b p := h
theorem QB.main {w : World} {b : Nat} {p : QS} (h : QB w b p) :
    w.cell? ⟨b, 0, none⟩ = some (.string p.s) ∧ w.cell? ⟨b, 1, none⟩ = some (.int .i64 p.ix) ∧ w.cell? ⟨b, 2, none⟩ = some (.int .i64 p.op) ∧ w.cell? ⟨b, 3, none⟩ = some (.int .i64 p.gr) ∧
    w.frozen? ⟨b, 1, none⟩ = false ∧ w.frozen? ⟨b, 2, none⟩ = false ∧ w.frozen? ⟨b, 3, none⟩ = false := by
 unfold QB at h
 simp [World.cell?, World.frozen?, h, QS.cells]
theorem QB.setIx {w : World} {b : Nat} {p : QS} (h : QB w b p) (x : Nat) : QB (w.setCell ⟨b, 1, none⟩ (.int .i64 x)) b { p with ix := x } := by
 unfold QB at *
 simp [World.setCell, Array.getElem?_modify, h, QS.cells]
theorem QB.setOp {w : World} {b : Nat} {p : QS} (h : QB w b p) (x : Nat) : QB (w.setCell ⟨b, 2, none⟩ (.int .i64 x)) b { p with op := x } := by
 unfold QB at *
 simp [World.setCell, Array.getElem?_modify, h, QS.cells]
theorem QB.setGr {w : World} {b : Nat} {p : QS} (h : QB w b p) (x : Nat) : QB (w.setCell ⟨b, 3, none⟩ (.int .i64 x)) b { p with gr := x } := by
 unfold QB at *
 simp [World.setCell, Array.getElem?_modify, h, QS.cells]
def QS.cur (p : QS) : Int := at' p.s p.ix
def fault (j : Nat) : Ending := .panicked [{ v := .iface 196 (.agg #[.int .i64 (j : Int)]), recovered := false }]
set_option maxHeartbeats 400000 in
theorem peek_some (b : Nat) (p : QS) (w : World) (hp : QB w b p) (hlt : p.ix < p.s.size) (hs : p.s.size ≤ 60) :
    Calls Tryz.prog 167 #[.pointer (some ⟨b, 0, none⟩)] w fun e w' => e = .returned (.tuple #[.int .u8 p.cur, .bool true]) ∧ QB w' b p ∧ Keeps [] w w' := by
 obtain ⟨c0, c1, _, _, f1, _, _⟩ := hp.main
 have hki : (p.ix : Int) < (p.s.size : Int) := by omega
 have hk0 : (0 : Int) ≤ (p.ix : Int) := by omega
 have hne : ((p.ix : Int) == (p.s.size : Int)) = false := by simpa using (by omega : ¬ (p.ix : Int) = (p.s.size : Int))
 have HC : Hid (p.cur = (p.s[p.ix].toNat : Int)) := at'_lt hlt
 go_enter Tryz.func167, Tryz.ntmps167
 go_wp2_with fail
 go_quiet (fail)
 go_wp2_with fail
 go_quiet (fail)
 go_wp2_with fail
 go_ret2
 exact ⟨by rw [HC.out]; rfl, (hp.drewN _).drewN _, ((Keeps.refl _ _).drewN _).drewN _⟩
set_option maxHeartbeats 400000 in
theorem peek_none (b : Nat) (p : QS) (w : World) (hp : QB w b p) (hge : p.ix = p.s.size) :
    Calls Tryz.prog 167 #[.pointer (some ⟨b, 0, none⟩)] w fun e w' => e = .returned (.tuple #[.int .u8 0, .bool false]) ∧ QB w' b p ∧ Keeps [] w w' := by
 obtain ⟨c0, c1, _, _, f1, _, _⟩ := hp.main
 have hne : ((p.ix : Int) == (p.s.size : Int)) = true := by simpa using (by omega : (p.ix : Int) = (p.s.size : Int))
 clear hge
 go_enter Tryz.func167, Tryz.ntmps167
 go_wp2_with fail
 go_quiet (fail)
 go_wp2_with fail
 go_ret2
 exact ⟨rfl, (hp.drewN _), (Keeps.refl _ _).drewN _⟩
set_option maxHeartbeats 400000 in
theorem ahead_any (b : Nat) (p : QS) (c : Int) (hc : 0 ≤ c) (w : World) (hp : QB w b p) (hle : p.ix ≤ p.s.size) (hs : p.s.size ≤ 60) :
    Calls Tryz.prog 165 #[.pointer (some ⟨b, 0, none⟩), .int .u8 c] w fun e w' => e = .returned (.bool (decide (p.cur = c))) ∧ QB w' b p ∧ Keeps [] w w' := by
 by_cases hlt : p.ix < p.s.size
 ·go_enter Tryz.func165, Tryz.ntmps165
  go_wp2_with (first | (go_at_call 167; refine (peek_some b p _ hp hlt hs).mono ?_; rintro e w1 ⟨rfl, hp1, hk1⟩))
  go_ret
  exact ⟨by simp [BEq.beq], hp1, hk1⟩
 ·have hge : p.ix = p.s.size := by omega
  have HC : Hid (p.cur = -1) := at'_ge (by omega)
  go_enter Tryz.func165, Tryz.ntmps165
  go_wp2_with (first | (go_at_call 167; refine (peek_none b p _ hp hge).mono ?_; rintro e w1 ⟨rfl, hp1, hk1⟩))
  go_ret
  exact ⟨by rw [HC.out]; simp; omega, hp1, hk1⟩
def QS.took (p : QS) (c : Int) : QS := if p.cur = c then { p with ix := p.ix + 1 } else p
set_option maxHeartbeats 400000 in
theorem skip_any (b : Nat) (p : QS) (c : Int) (hc : 0 ≤ c) (w : World) (hp : QB w b p) (hle : p.ix ≤ p.s.size) (hs : p.s.size ≤ 60) :
    Calls Tryz.prog 116 #[.pointer (some ⟨b, 0, none⟩), .int .u8 c] w fun e w' => e = .returned (.bool (decide (p.cur = c))) ∧ QB w' b (p.took c) ∧ Keeps [b] w w' := by
 by_cases h : p.cur = c
 ·have hd : decide (p.cur = c) = true := by simpa using h
  have H : Hid (p.cur = c) := h
  have hlt : p.ix < p.s.size := at'_nn (by show 0 ≤ p.cur; omega)
  have hb1 : (0 : Int) ≤ (p.ix : Int) := by omega
  have hb2 : (p.ix : Int) ≤ 60 := by omega
  clear h
  go_enter Tryz.func116, Tryz.ntmps116
  go_wp2_with (first | (go_at_call 165; refine (ahead_any b p c hc _ hp hle hs).mono ?_; rintro e w1 ⟨rfl, hp1, hk1⟩; obtain ⟨c0, c1, _, _, f1, _, _⟩ := hp1.main))
  go_ret
  exact ⟨by simp [hd], by simp only [QS.took, H.out, if_true]; exact hp1.setIx (p.ix + 1), (hk1.mono (by simp)).setCell (by simp) _⟩
 ·have hd : decide (p.cur = c) = false := by simpa using h
  have H : Hid (¬ p.cur = c) := h
  clear h
  go_enter Tryz.func116, Tryz.ntmps116
  go_wp2_with (first | (go_at_call 165; refine (ahead_any b p c hc _ hp hle hs).mono ?_; rintro e w1 ⟨rfl, hp1, hk1⟩))
  go_ret
  exact ⟨by simp [hd], by simp only [QS.took, H.out, if_false]; exact hp1, hk1.mono (by simp)⟩
set_option maxHeartbeats 400000 in
theorem pfail_any (b : Nat) (p : QS) (w : World) (hp : QB w b p) :
    Calls Tryz.prog 168 #[.pointer (some ⟨b, 0, none⟩)] w fun e w' => e = fault p.ix ∧ w' = w := by
 obtain ⟨c0, c1, _, _, f1, _, _⟩ := hp.main
 go_enter Tryz.func168, Tryz.ntmps168
 go_wp2_with fail
 exact ⟨rfl, rfl, rfl⟩
set_option maxHeartbeats 400000 in
theorem expect_ok (b : Nat) (p : QS) (c : Int) (hc : 0 ≤ c) (w : World) (hp : QB w b p) (hs : p.s.size ≤ 60) (h : p.cur = c) :
    Calls Tryz.prog 221 #[.pointer (some ⟨b, 0, none⟩), .int .u8 c] w fun e w' => e = .returned (.tuple #[]) ∧ QB w' b { p with ix := p.ix + 1 } ∧ Keeps [b] w w' := by
 have hlt : p.ix < p.s.size := at'_nn (by show 0 ≤ p.cur; omega)
 have hd : decide (p.cur = c) = true := by simpa using h
 have htk : p.took c = { p with ix := p.ix + 1 } := by unfold QS.took; rw [if_pos h]
 clear h
 go_enter Tryz.func221, Tryz.ntmps221
 go_wp2_with (first | (go_at_call 116; refine (skip_any b p c hc _ hp (Nat.le_of_lt hlt) hs).mono ?_; rintro e w1 ⟨rfl, hp1, hk1⟩; rw [htk] at hp1))
 go_end0
 exact ⟨rfl, hp1, hk1⟩
set_option maxHeartbeats 400000 in
theorem expect_bad (b : Nat) (p : QS) (c : Int) (hc : 0 ≤ c) (w : World) (hp : QB w b p) (hle : p.ix ≤ p.s.size) (hs : p.s.size ≤ 60) (h : p.cur ≠ c) :
    Calls Tryz.prog 221 #[.pointer (some ⟨b, 0, none⟩), .int .u8 c] w fun e w' => e = fault p.ix ∧ Keeps [b] w w' := by
 have hd : decide (p.cur = c) = false := by simpa using h
 have htk : p.took c = p := by unfold QS.took; rw [if_neg h]
 clear h
 go_enter Tryz.func221, Tryz.ntmps221
 go_wp2_with (first | (go_at_call 168; refine (pfail_any b p _ hp1).mono ?_; rintro e w2 ⟨rfl, rfl⟩; simp only [fault]) | (go_at_call 116; refine (skip_any b p c hc _ hp hle hs).mono ?_; rintro e w1 ⟨rfl, hp1, hk1⟩; rw [htk] at hp1))
 exact ⟨rfl, rfl, hk1⟩
set_option maxHeartbeats 400000 in
theorem end_ok (b : Nat) (p : QS) (w : World) (hp : QB w b p) (h : p.ix = p.s.size) :
    Calls Tryz.prog 118 #[.pointer (some ⟨b, 0, none⟩)] w fun e w' => e = .returned (.tuple #[]) ∧ QB w' b p ∧ Keeps [] w w' := by
 go_enter Tryz.func118, Tryz.ntmps118
 go_wp2_with (first | (go_at_call 167; refine (peek_none b p _ hp h).mono ?_; rintro e w1 ⟨rfl, hp1, hk1⟩))
 go_end0
 exact ⟨rfl, hp1, hk1⟩
set_option maxHeartbeats 400000 in
theorem end_bad (b : Nat) (p : QS) (w : World) (hp : QB w b p) (h : p.ix < p.s.size) (hs : p.s.size ≤ 60) :
    Calls Tryz.prog 118 #[.pointer (some ⟨b, 0, none⟩)] w fun e w' => e = fault p.ix ∧ Keeps [] w w' := by
 go_enter Tryz.func118, Tryz.ntmps118
 go_wp2_with (first | (go_at_call 167; refine (peek_some b p _ hp h hs).mono ?_; rintro e w1 ⟨rfl, hp1, hk1⟩) | (go_at_call 168; refine (pfail_any b p _ hp1).mono ?_; rintro e w2 ⟨rfl, rfl⟩; simp only [fault]))
 exact ⟨rfl, rfl, hk1⟩
set_option maxHeartbeats 400000 in
theorem isDigit_any (c : Int) (w : World) :
    Calls Tryz.prog 236 #[.int .u8 c] w fun e w' => e = .returned (.bool (digB c)) ∧ w' = w := by
 go_enter Tryz.func236, Tryz.ntmps236
 go_wp2
 all_goals go_ret
 all_goals exact ⟨by simp [digB]; omega, rfl⟩
def lwB (c : Int) : Bool := decide (97 ≤ c) && decide (c ≤ 122)
set_option maxHeartbeats 400000 in
theorem isLower_any (c : Int) (w : World) :
    Calls Tryz.prog 228 #[.int .u8 c] w fun e w' => e = .returned (.bool (lwB c)) ∧ w' = w := by
 go_enter Tryz.func228, Tryz.ntmps228
 go_wp2
 all_goals go_ret
 all_goals exact ⟨by simp [lwB]; omega, rfl⟩
set_option maxHeartbeats 400000 in
theorem isAlnum_any (c : Int) (w : World) :
    Calls Tryz.prog 253 #[.int .u8 c] w fun e w' => e = .returned (.bool (alnB c)) ∧ w' = w := by
 cases hd : digB c
 all_goals
  cases hl : lwB c
  all_goals
   have hl' := hl
   simp [lwB] at hl'
   go_enter Tryz.func253, Tryz.ntmps253
   go_wp2_with (first | (go_at_call 236; refine (isDigit_any c _).mono ?_; rintro e w' ⟨rfl, rfl⟩) | (go_at_call 228; refine (isLower_any c _).mono ?_; rintro e w' ⟨rfl, rfl⟩))
   all_goals go_ret
   all_goals exact ⟨ret_bool (by simp [alnB, hd] <;> omega), rfl⟩
def May (F : Nat) (caps : Array Value) (c : Int) (v : Bool) (w : World) : Prop :=
 (∀ args w1, (callFunc F args).run Tryz.prog w1 = .ok (.enter F args) w1) ∧ ∀ w1, Keeps [] w w1 → Calls Tryz.prog F (#[.int .u8 c] ++ caps) w1 fun e w2 => e = .returned (.bool v) ∧ Keeps [] w1 w2
set_option maxRecDepth 100000 in
set_option maxHeartbeats 400000 in
theorem take_ok (b : Nat) (p : QS) (F : Nat) (caps : Array Value) (w : World) (hp : QB w b p) (hs : p.s.size ≤ 60) (hlt : p.ix < p.s.size) (hm : May F caps p.cur true w) :
    Calls Tryz.prog 218 #[.pointer (some ⟨b, 0, none⟩), .func (.func F) #[] caps] w fun e w' => e = .returned (.int .u8 p.cur) ∧ QB w' b { p with ix := p.ix + 1 } ∧ Keeps [b] w w' := by
 have hb1 : (0 : Int) ≤ (p.ix : Int) := by omega
 have hb2 : (p.ix : Int) ≤ 60 := by omega
 obtain ⟨hcf, hcall⟩ := hm
 go_enter Tryz.func218, Tryz.ntmps218
 go_wp2_with (first | (go_at_call 167; refine (peek_some b p _ hp hlt hs).mono ?_; rintro e w1 ⟨rfl, hp1, hk1⟩))
 refine (hcall _ hk1).mono ?_
 rintro e w2 ⟨rfl, hk2⟩
 have hp2 := hp1.keep hk2 (by simp)
 obtain ⟨c0, c1, _, _, f1, _, _⟩ := hp2.main
 go_wp2_with fail
 go_ret
 exact ⟨rfl, hp2.setIx (p.ix + 1), ((hk1.trans hk2).mono (by simp)).setCell (by simp) _⟩
set_option maxRecDepth 100000 in
set_option maxHeartbeats 400000 in
theorem take_bad (b : Nat) (p : QS) (F : Nat) (caps : Array Value) (w : World) (hp : QB w b p) (hs : p.s.size ≤ 60) (hlt : p.ix < p.s.size) (hm : May F caps p.cur false w) :
    Calls Tryz.prog 218 #[.pointer (some ⟨b, 0, none⟩), .func (.func F) #[] caps] w fun e w' => e = fault p.ix ∧ Keeps [b] w w' := by
 obtain ⟨hcf, hcall⟩ := hm
 go_enter Tryz.func218, Tryz.ntmps218
 go_wp2_with (first | (go_at_call 167; refine (peek_some b p _ hp hlt hs).mono ?_; rintro e w1 ⟨rfl, hp1, hk1⟩))
 refine (hcall _ hk1).mono ?_
 rintro e w2 ⟨rfl, hk2⟩
 have hp2 := hp1.keep hk2 (by simp)
 go_wp2_with (first | (go_at_call 168; refine (pfail_any b p _ hp2).mono ?_; rintro e w3 ⟨rfl, rfl⟩; simp only [fault]))
 exact ⟨rfl, rfl, (hk1.trans hk2).mono (by simp)⟩
set_option maxRecDepth 100000 in
set_option maxHeartbeats 400000 in
theorem take_end (b : Nat) (p : QS) (fv : Value) (w : World) (hp : QB w b p) (hge : p.ix = p.s.size) :
    Calls Tryz.prog 218 #[.pointer (some ⟨b, 0, none⟩), fv] w fun e w' => e = fault p.ix ∧ Keeps [b] w w' := by
 go_enter Tryz.func218, Tryz.ntmps218
 go_wp2_with (first | (go_at_call 167; refine (peek_none b p _ hp hge).mono ?_; rintro e w1 ⟨rfl, hp1, hk1⟩) | (go_at_call 168; refine (pfail_any b p _ hp1).mono ?_; rintro e w3 ⟨rfl, rfl⟩; simp only [fault]))
 exact ⟨rfl, rfl, hk1.mono (by simp)⟩
end Go.Proofs.YtnfojonmohijpaaGreatDoor
namespace Go.Proofs.YtnfojonmohijpaaGreatDoor
open Go.RowKit
theorem idx_run (s : ByteArray) (c : Int) (w : World) : (callFunc 284 #[.string s, .int .u8 c]).run Tryz.prog w = .ok (.value (.int .i64 (Lib.indexByte s.data.toList c.toNat.toUInt8))) w := by
 rw [run_callFunc_indexByte Tryz.func284 (by kernel_rfl) (by kernel_rfl) (by kernel_rfl) (by kernel_rfl), Lib.run_indexByteString]
 rfl
set_option maxHeartbeats 400000 in
theorem lite_any (s : ByteArray) (c : Int) (w : World) :
    Calls Tryz.prog 266 #[.string s, .int .u8 c] w fun e w' => e = .returned (.int .i64 (Lib.indexByte s.data.toList c.toNat.toUInt8)) ∧ w' = w := by
 have hi := fun w => idx_run s c w
 go_enter Tryz.func266, Tryz.ntmps266
 go_wp2
 go_ret
 exact ⟨rfl, rfl⟩
set_option maxHeartbeats 400000 in
theorem index_any (s : ByteArray) (c : Int) (w : World) :
    Calls Tryz.prog 246 #[.string s, .int .u8 c] w fun e w' => e = .returned (.int .i64 (Lib.indexByte s.data.toList c.toNat.toUInt8)) ∧ w' = w := by
 go_enter Tryz.func246, Tryz.ntmps246
 go_wp2_with (go_at_call 266; refine (lite_any s c _).mono ?_; rintro e w' ⟨rfl, rfl⟩)
 go_ret
 exact ⟨rfl, rfl⟩
set_option maxRecDepth 100000 in
theorem hex_idx (c : Int) (h0 : 0 ≤ c) (h1 : c ≤ 255) : Lib.indexByte (ByteArray.data ⟨#[48, 49, 50, 51, 52, 53, 54, 55, 56, 57, 97, 98, 99, 100, 101, 102]⟩).toList c.toNat.toUInt8 = hexd c := by
 obtain ⟨n, rfl⟩ : ∃ n : Nat, c = n := ⟨c.toNat, by omega⟩
 have hn : n < 256 := by omega
 have key : ∀ m : Fin 256, Lib.indexByte (ByteArray.data ⟨#[48, 49, 50, 51, 52, 53, 54, 55, 56, 57, 97, 98, 99, 100, 101, 102]⟩).toList ((m.val : Int)).toNat.toUInt8 = hexd (m.val : Int) := by decide
 exact key ⟨n, hn⟩
set_option maxHeartbeats 400000 in
theorem isHex_any (c : Int) (h0 : 0 ≤ c) (h1 : c ≤ 255) (w : World) :
    Calls Tryz.prog 219 #[.int .u8 c] w fun e w' => e = .returned (.bool (decide (0 ≤ hexd c))) ∧ w' = w := by
 go_enter Tryz.func219, Tryz.ntmps219
 go_wp2_with (go_at_call 246; refine (index_any _ c _).mono ?_; rintro e w' ⟨rfl, rfl⟩; rw [hex_idx c h0 h1])
 go_ret
 exact ⟨rfl, rfl⟩
set_option maxHeartbeats 400000 in
theorem hexValue_any (c : Int) (h0 : 0 ≤ c) (h1 : c ≤ 255) (hh : 0 ≤ hexd c) (w : World) :
    Calls Tryz.prog 220 #[.int .u8 c] w fun e w' => e = .returned (.int .u8 (hexd c)) ∧ w' = w := by
 have hb := hexd_bd c
 have hb2 := hb.2
 go_enter Tryz.func220, Tryz.ntmps220
 go_wp2_with (go_at_call 246; refine (index_any _ c _).mono ?_; rintro e w' ⟨rfl, rfl⟩; rw [hex_idx c h0 h1])
 go_ret
 exact ⟨rfl, rfl⟩
theorem isHex_v (c : Int) (v : Bool) (h0 : 0 ≤ c) (h1 : c ≤ 255) (h : decide (0 ≤ hexd c) = v) (w : World) :
    Calls Tryz.prog 219 #[.int .u8 c] w fun e w' => e = .returned (.bool v) ∧ w' = w := by
 subst h; exact isHex_any c h0 h1 w
theorem or_hex (a b : Int) (ha0 : 0 ≤ a) (ha1 : a ≤ 15) (hb0 : 0 ≤ b) (hb1 : b ≤ 15) : bits .or .u8 (a * 16) b = 16 * a + b := by
 obtain ⟨x, rfl⟩ : ∃ x : Nat, a = x := ⟨a.toNat, by omega⟩
 obtain ⟨y, rfl⟩ : ∃ y : Nat, b = y := ⟨b.toNat, by omega⟩
 have key : ∀ (m n : Fin 16), bits .or .u8 ((m.val : Int) * 16) (n.val : Int) = 16 * (m.val : Int) + (n.val : Int) := by decide
 exact key ⟨x, by omega⟩ ⟨y, by omega⟩
set_option maxRecDepth 100000 in
set_option maxHeartbeats 400000 in
theorem esc1_any (c l : Int) (lb : Nat) (w : World) (hl : w.cell? ⟨lb, 0, none⟩ = some (.int .u8 l)) :
    Calls Tryz.prog 277 #[.int .u8 c, .pointer (some ⟨lb, 0, none⟩)] w fun e w' => e = .returned (.bool (!alnB c && decide (l ≤ c))) ∧ w' = w := by
 cases ha : alnB c
 all_goals
  go_enter Tryz.func277, Tryz.ntmps277
  go_wp2_with (go_at_call 253; refine (isAlnum_any c _).mono ?_; rintro e w' ⟨rfl, rfl⟩)
  all_goals go_ret
  all_goals exact ⟨by simp [ha], rfl⟩
set_option maxRecDepth 100000 in
set_option maxHeartbeats 400000 in
theorem hp1_any (c l : Int) (h0 : 0 ≤ c) (h1 : c ≤ 255) (lb : Nat) (w : World) (hl : w.cell? ⟨lb, 0, none⟩ = some (.int .u8 l)) :
    Calls Tryz.prog 292 #[.int .u8 c, .pointer (some ⟨lb, 0, none⟩)] w fun e w' => e = .returned (.bool (decide (0 ≤ hexd c) && decide (l ≤ 16 * hexd c + 15))) ∧ ∃ n, w' = w.drewN n := by
 have hb := hexd_bd c
 by_cases hh : 0 ≤ hexd c
 ·have hd : decide (0 ≤ hexd c) = true := by simpa using hh
  have hb2 := hb.2
  have IH := isHex_v c true h0 h1 hd
  have HV := hexValue_any c h0 h1 hh
  have hb15 := or_hex (hexd c) 15 hh hb2 (by omega) (by omega)
  generalize hexd c = x at *
  go_enter Tryz.func292, Tryz.ntmps292
  go_wp2_with fail
  go_quiet (first | (go_at_call 219; exact Calls.quiet_of_same (IH _)) | (go_at_call 220; exact Calls.quiet_of_same (HV _)))
  go_wp2_with fail
  go_ret
  exact ⟨ret_bool (by simp [hd]), _, rfl⟩
 ·have hd : decide (0 ≤ hexd c) = false := by simpa using hh
  have IH := isHex_v c false h0 h1 hd
  have H0 : Hid (¬ 0 ≤ hexd c) := hh
  clear hh hb
  go_enter Tryz.func292, Tryz.ntmps292
  go_wp2_with fail
  go_quiet ((go_at_call 219; exact Calls.quiet_of_same (IH _)))
  go_wp2_with fail
  go_ret
  exact ⟨by rw [hd]; rfl, _, rfl⟩
set_option maxRecDepth 100000 in
set_option maxHeartbeats 400000 in
theorem hp2_any (c l a : Int) (h0 : 0 ≤ c) (h1 : c ≤ 255) (ha0 : 0 ≤ a) (ha1 : a ≤ 15) (ab lb : Nat) (w : World) (hla : w.cell? ⟨ab, 0, none⟩ = some (.int .u8 a)) (hl : w.cell? ⟨lb, 0, none⟩ = some (.int .u8 l)) :
    Calls Tryz.prog 293 #[.int .u8 c, .pointer (some ⟨ab, 0, none⟩), .pointer (some ⟨lb, 0, none⟩)] w fun e w' => e = .returned (.bool (decide (0 ≤ hexd c) && decide (l ≤ 16 * a + hexd c))) ∧ ∃ n, w' = w.drewN n := by
 have hb := hexd_bd c
 by_cases hh : 0 ≤ hexd c
 ·have hd : decide (0 ≤ hexd c) = true := by simpa using hh
  have hb2 := hb.2
  have IH := isHex_v c true h0 h1 hd
  have HV := hexValue_any c h0 h1 hh
  have hb15 := or_hex a (hexd c) ha0 ha1 hh hb2
  generalize hexd c = x at *
  go_enter Tryz.func293, Tryz.ntmps293
  go_wp2_with fail
  go_quiet (first | (go_at_call 219; exact Calls.quiet_of_same (IH _)) | (go_at_call 220; exact Calls.quiet_of_same (HV _)))
  go_wp2_with fail
  go_ret
  exact ⟨ret_bool (by simp [hd]), _, rfl⟩
 ·have hd : decide (0 ≤ hexd c) = false := by simpa using hh
  have IH := isHex_v c false h0 h1 hd
  clear hh hb
  go_enter Tryz.func293, Tryz.ntmps293
  go_wp2_with fail
  go_quiet ((go_at_call 219; exact Calls.quiet_of_same (IH _)))
  go_wp2_with fail
  go_ret
  exact ⟨by rw [hd]; rfl, _, rfl⟩
set_option maxRecDepth 100000 in
theorem inn_idx (c : Int) (h0 : 0 ≤ c) (h1 : c ≤ 255) : decide (Lib.indexByte (ByteArray.data ⟨#[91, 93, 45, 94]⟩).toList c.toNat.toUInt8 < 0) = !decide (c = 91 ∨ c = 93 ∨ c = 45 ∨ c = 94) := by
 obtain ⟨n, rfl⟩ : ∃ n : Nat, c = n := ⟨c.toNat, by omega⟩
 have hn : n < 256 := by omega
 have key : ∀ m : Fin 256, decide (Lib.indexByte (ByteArray.data ⟨#[91, 93, 45, 94]⟩).toList ((m.val : Int)).toNat.toUInt8 < 0) = !decide ((m.val : Int) = 91 ∨ (m.val : Int) = 93 ∨ (m.val : Int) = 45 ∨ (m.val : Int) = 94) := by decide
 exact key ⟨n, hn⟩
set_option maxRecDepth 100000 in
set_option maxHeartbeats 400000 in
theorem inn1_any (c l : Int) (h0 : 0 ≤ c) (h1 : c ≤ 255) (lb : Nat) (w : World) (hl : w.cell? ⟨lb, 0, none⟩ = some (.int .u8 l)) :
    Calls Tryz.prog 300 #[.int .u8 c, .pointer (some ⟨lb, 0, none⟩)] w fun e w' => e = .returned (.bool (!decide (c = 91 ∨ c = 93 ∨ c = 45 ∨ c = 94) && decide (l ≤ c))) ∧ w' = w := by
 have hi := inn_idx c h0 h1
 by_cases hn : Lib.indexByte (ByteArray.data ⟨#[91, 93, 45, 94]⟩).toList c.toNat.toUInt8 < 0
 ·rw [decide_eq_true hn] at hi
  rw [← hi]
  clear hi
  generalize hgx : Lib.indexByte (ByteArray.data ⟨#[91, 93, 45, 94]⟩).toList c.toNat.toUInt8 = x at *
  go_enter Tryz.func300, Tryz.ntmps300
  go_wp2_with (go_at_call 246; refine (index_any _ c _).mono ?_; rintro e w' ⟨rfl, rfl⟩; rw [hgx])
  go_ret
  exact ⟨by simp, rfl⟩
 ·rw [decide_eq_false hn] at hi
  rw [← hi]
  clear hi
  generalize hgx : Lib.indexByte (ByteArray.data ⟨#[91, 93, 45, 94]⟩).toList c.toNat.toUInt8 = x at *
  go_enter Tryz.func300, Tryz.ntmps300
  go_wp2_with (go_at_call 246; refine (index_any _ c _).mono ?_; rintro e w' ⟨rfl, rfl⟩; rw [hgx])
  go_ret
  exact ⟨by simp, rfl⟩
end Go.Proofs.YtnfojonmohijpaaGreatDoor
