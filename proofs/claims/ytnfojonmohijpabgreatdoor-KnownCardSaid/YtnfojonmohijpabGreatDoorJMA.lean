/-
  DERIVED. Plain mathematics: what a pattern matches (the stretches), and the one tree that is meant, as relations; that the tree is one. Nothing of the program stands here.
-/
import Derived.Test.YtnfojonmohijpabGreatDoorJSpec
import Derived.Test.YtnfojonmohijpabGreatDoorProg
import Derived.WalkKit
import Derived.WalkSpells
import Derived.WalkLawsBesides
import Derived.Deep.QuietTactic
import Derived.BigQuiet
import Derived.Lib.Strings
import Derived.Deep.RegionHeld3
import Derived.Deep.RegionLaw
import Derived.Deep.AppendLies
import Derived.OwnWalk
import Derived.StillTactics
import Derived.Laws.Pointers
import Derived.KernelRfl
import Derived.Laws.BitsAllLaws
set_option linter.unusedSimpArgs false
set_option linter.unusedVariables false
namespace Go.Proofs.YtnfojonmohijpabGreatDoor
def It (R : Nat → Nat → Prop) : Nat → Nat → Nat → Prop
 | 0, i, j => i = j
 | n + 1, i, j => ∃ m, R i m ∧ It R n m j
def Tm (R : Nat → Nat → Prop) (mn : Nat) (mx : Int) (i j : Nat) : Prop := ∃ n, mn ≤ n ∧ (mx < 0 ∨ (n : Int) ≤ mx) ∧ It R n i j
def Mt (s : ByteArray) : Pat → Nat → Nat → Prop
 | .set f => fun i j => i < s.size ∧ f (at' s i).toNat = true ∧ j = i + 1
 | .grp _ x => Mt s x
 | .rep mn mx x => Tm (Mt s x) mn mx
 | .pnil => fun i j => i = j
 | .pcons x r => fun i j => ∃ m, Mt s x i m ∧ Mt s r m j
 | .wone x => Mt s x
 | .wcons x r => fun i j => Mt s x i j ∨ Mt s r i j
theorem It.mono {R : Nat → Nat → Prop} (h : ∀ i j, R i j → i ≤ j) : ∀ {n i j : Nat}, It R n i j → i ≤ j
 | 0, _, _, e => Nat.le_of_eq e
 | _ + 1, i, _, ⟨m, a, b⟩ => Nat.le_trans (h i m a) (It.mono h b)
theorem It.inn {R : Nat → Nat → Prop} {L : Nat} (h : ∀ i j, R i j → i ≤ L → j ≤ L) : ∀ {n i j : Nat}, It R n i j → i ≤ L → j ≤ L
 | 0, _, _, e, hi => by cases e; exact hi
 | _ + 1, i, _, ⟨m, a, b⟩, hi => It.inn h b (h i m a hi)
theorem Mt.le {s : ByteArray} : ∀ {x : Pat} {i j : Nat}, Mt s x i j → i ≤ j
 | .set _, _, _, h => by have := h.2.2; omega
 | .grp _ x, _, _, h => Mt.le (x := x) h
 | .rep _ _ x, _, _, ⟨_, _, _, h⟩ => It.mono (fun _ _ => Mt.le (x := x)) h
 | .pnil, _, _, h => Nat.le_of_eq h
 | .pcons x r, _, _, ⟨_, a, b⟩ => Nat.le_trans (Mt.le (x := x) a) (Mt.le (x := r) b)
 | .wone x, _, _, h => Mt.le (x := x) h
 | .wcons x r, _, _, h => h.elim (Mt.le (x := x)) (Mt.le (x := r))
theorem Mt.inn {s : ByteArray} : ∀ {x : Pat} {i j : Nat}, Mt s x i j → i ≤ s.size → j ≤ s.size
 | .set _, _, _, h, _ => by have := h.1; have := h.2.2; omega
 | .grp _ x, _, _, h, hi => Mt.inn (x := x) h hi
 | .rep _ _ x, _, _, ⟨_, _, _, h⟩, hi => It.inn (fun _ _ => Mt.inn (x := x)) h hi
 | .pnil, _, _, h, hi => by cases h; exact hi
 | .pcons x r, _, _, ⟨_, a, b⟩, hi => Mt.inn (x := r) b (Mt.inn (x := x) a hi)
 | .wone x, _, _, h, hi => Mt.inn (x := x) h hi
 | .wcons x r, _, _, h, hi => h.elim (fun h => Mt.inn (x := x) h hi) (fun h => Mt.inn (x := r) h hi)
def Cut (P : Nat → Prop) (i j c : Nat) : Prop := i ≤ c ∧ c ≤ j ∧ (i < c → P c) ∧ ∀ m, c < m → m ≤ j → ¬ P m
theorem Cut.one {P : Nat → Prop} {i j c d : Nat} (h : Cut P i j c) (k : Cut P i j d) : c = d := by
 rcases Nat.lt_trichotomy c d with e | e | e
 ·exact absurd (k.2.2.1 (by have := h.1; omega)) (h.2.2.2 d e k.2.1)
 ·exact e
 ·exact absurd (h.2.2.1 (by have := k.1; omega)) (k.2.2.2 c e h.2.1)
def less (mx : Int) : Int := if 0 < mx then mx - 1 else mx
def hexT (b : Nat) : List UInt8 := [hexs.getD (b / 16) 0, hexs.getD (b % 16) 0]
def decT (n : Nat) : List UInt8 := if n < 10 then digT n else digT (n / 10) ++ digT (n % 10)
inductive Job where
 | node (x : Pat)
 | kids (r : Pat)
 | times (mn : Nat) (mx : Int) (x : Pat)
 | alts (p : Nat) (r : Pat)
inductive TR (s : ByteArray) : Job → Nat → Nat → List UInt8 → List (Nat × Nat × Nat) → Prop
 | byte (f : Nat → Bool) (i j : Nat) : TR s (.node (.set f)) i j ([98] ++ hexT (at' s i).toNat) []
 | grp (k : Nat) (x : Pat) (i j : Nat) (t : List UInt8) (ev : List (Nat × Nat × Nat)) : TR s (.node x) i j t ev → TR s (.node (.grp k x)) i j ([40, 103] ++ digT k ++ [32] ++ t ++ [41]) ((k, i, j) :: ev)
 | nil (i j : Nat) : TR s (.node .pnil) i j [101] []
 | lone (x : Pat) (i j : Nat) (t : List UInt8) (ev : List (Nat × Nat × Nat)) : TR s (.node x) i j t ev → TR s (.node (.pcons x .pnil)) i j t ev
 | row (x y r : Pat) (i j : Nat) (t : List UInt8) (ev : List (Nat × Nat × Nat)) : TR s (.kids (.pcons x (.pcons y r))) i j t ev → TR s (.node (.pcons x (.pcons y r))) i j ([40, 115] ++ t ++ [41]) ev
 | kend (i j : Nat) : TR s (.kids .pnil) i j [] []
 | kgo (x r : Pat) (i j c : Nat) (t u : List UInt8) (ev fv : List (Nat × Nat × Nat)) : Cut (fun m => Mt s x i m ∧ Mt s r m j) i j c → TR s (.node x) i c t ev → TR s (.kids r) c j u fv → TR s (.kids (.pcons x r)) i j ([32] ++ t ++ u) (ev ++ fv)
 | rep (mn : Nat) (mx : Int) (x : Pat) (i j : Nat) (t : List UInt8) (ev : List (Nat × Nat × Nat)) : TR s (.times mn mx x) i j t ev → TR s (.node (.rep mn mx x)) i j ([40, 114] ++ t ++ [41]) ev
 | tend (mn : Nat) (mx : Int) (x : Pat) (i j : Nat) : ¬ (i < j ∨ 0 < mn) → TR s (.times mn mx x) i j [] []
 | tgo (mn : Nat) (mx : Int) (x : Pat) (i j c : Nat) (t u : List UInt8) (ev fv : List (Nat × Nat × Nat)) : (i < j ∨ 0 < mn) → Cut (fun m => Mt s x i m ∧ Tm (Mt s x) (mn - 1) (less mx) m j) i j c → TR s (.node x) i c t ev → TR s (.times (mn - 1) (less mx) x) c j u fv → TR s (.times mn mx x) i j ([32] ++ t ++ u) (ev ++ fv)
 | wone (x : Pat) (i j : Nat) (t : List UInt8) (ev : List (Nat × Nat × Nat)) : TR s (.node x) i j t ev → TR s (.node (.wone x)) i j t ev
 | wcons (x r : Pat) (i j : Nat) (t : List UInt8) (ev : List (Nat × Nat × Nat)) : TR s (.alts 0 (.wcons x r)) i j t ev → TR s (.node (.wcons x r)) i j t ev
 | hit (p : Nat) (x r : Pat) (i j : Nat) (t : List UInt8) (ev : List (Nat × Nat × Nat)) : Mt s x i j → TR s (.node x) i j t ev → TR s (.alts p (.wcons x r)) i j ([40, 97] ++ decT p ++ [32] ++ t ++ [41]) ev
 | miss (p : Nat) (x r : Pat) (i j : Nat) (t : List UInt8) (ev : List (Nat × Nat × Nat)) : ¬ Mt s x i j → TR s (.alts (p + 1) r) i j t ev → TR s (.alts p (.wcons x r)) i j t ev
 | last (p : Nat) (x : Pat) (i j : Nat) (t : List UInt8) (ev : List (Nat × Nat × Nat)) : TR s (.node x) i j t ev → TR s (.alts p (.wone x)) i j ([40, 97] ++ decT p ++ [32] ++ t ++ [41]) ev
theorem TR.det {s : ByteArray} {k : Job} {i j : Nat} {t : List UInt8} {ev : List (Nat × Nat × Nat)} (h : TR s k i j t ev) : ∀ u fv, TR s k i j u fv → t = u ∧ ev = fv := by
 induction h with
 | byte => intro u fv h; cases h; exact ⟨rfl, rfl⟩
 | grp k x i j t ev _ ih => intro u fv h; cases h with | grp _ _ _ _ t' ev' h' => obtain ⟨rfl, rfl⟩ := ih t' ev' h'; exact ⟨rfl, rfl⟩
 | nil => intro u fv h; cases h; exact ⟨rfl, rfl⟩
 | lone x i j t ev _ ih => intro u fv h; cases h with | lone _ _ _ _ _ h' => exact ih u fv h'
 | row x y r i j t ev _ ih => intro u fv h; cases h with | row _ _ _ _ _ t' _ h' => obtain ⟨rfl, rfl⟩ := ih t' fv h'; exact ⟨rfl, rfl⟩
 | kend => intro u fv h; cases h; exact ⟨rfl, rfl⟩
 | kgo x r i j c t u ev fv hc _ _ ih1 ih2 =>
  intro v gv h
  cases h with
  | kgo _ _ _ _ c' t' u' ev' fv' hc' h1 h2 =>
   obtain rfl := hc.one hc'
   obtain ⟨rfl, rfl⟩ := ih1 t' ev' h1
   obtain ⟨rfl, rfl⟩ := ih2 u' fv' h2
   exact ⟨rfl, rfl⟩
 | rep mn mx x i j t ev _ ih => intro u fv h; cases h with | rep _ _ _ _ _ t' _ h' => obtain ⟨rfl, rfl⟩ := ih t' fv h'; exact ⟨rfl, rfl⟩
 | tend mn mx x i j hn => intro u fv h; cases h with
  | tend => exact ⟨rfl, rfl⟩
  | tgo _ _ _ _ _ _ _ _ _ _ hg => exact absurd hg hn
 | tgo mn mx x i j c t u ev fv hg hc _ _ ih1 ih2 =>
  intro v gv h
  cases h with
  | tend _ _ _ _ _ hn => exact absurd hg hn
  | tgo _ _ _ _ _ c' t' u' ev' fv' _ hc' h1 h2 =>
   obtain rfl := hc.one hc'
   obtain ⟨rfl, rfl⟩ := ih1 t' ev' h1
   obtain ⟨rfl, rfl⟩ := ih2 u' fv' h2
   exact ⟨rfl, rfl⟩
 | wone x i j t ev _ ih => intro u fv h; cases h with | wone _ _ _ _ _ h' => exact ih u fv h'
 | wcons x r i j t ev _ ih => intro u fv h; cases h with | wcons _ _ _ _ _ _ h' => exact ih u fv h'
 | hit p x r i j t ev hm _ ih => intro u fv h; cases h with
  | hit _ _ _ _ _ t' _ _ h' => obtain ⟨rfl, rfl⟩ := ih t' fv h'; exact ⟨rfl, rfl⟩
  | miss _ _ _ _ _ _ _ hn => exact absurd hm hn
 | miss p x r i j t ev hn _ ih => intro u fv h; cases h with
  | hit _ _ _ _ _ _ _ hm => exact absurd hm hn
  | miss _ _ _ _ _ _ _ _ h' => exact ih u fv h'
 | last p x i j t ev _ ih => intro u fv h; cases h with | last _ _ _ _ t' _ h' => obtain ⟨rfl, rfl⟩ := ih t' fv h'; exact ⟨rfl, rfl⟩
end Go.Proofs.YtnfojonmohijpabGreatDoor
namespace Go.Proofs.YtnfojonmohijpabGreatDoor
def evs : List Int → List (Nat × Nat × Nat) → List Int
 | l, [] => l
 | l, (n, i, j) :: ev => evs ((l.set (2 * n - 2) i).set (2 * n - 1) j) ev
theorem evs_len : ∀ (ev : List (Nat × Nat × Nat)) (l : List Int), (evs l ev).length = l.length
 | [], l => rfl
 | (n, i, j) :: ev, l => by rw [evs, evs_len ev]; simp
end Go.Proofs.YtnfojonmohijpabGreatDoor
namespace Go.Proofs.YtnfojonmohijpabGreatDoor
open Go.RowKit
structure PS where
 s : ByteArray
 nodes : Value
 root : Nat
 bg : Bool
 en : Bool
 gr : Nat
 bad : Int
 ix : Nat
 deep : Nat
structure Keeps (S : List Nat) (w w' : World) : Prop where
 os : w'.os = w.os
 tape : w'.tape = w.tape
 output : w'.output = w.output
 size : w.heap.size ≤ w'.heap.size
 block : ∀ k, k < w.heap.size → k ∉ S → w'.heap[k]? = w.heap[k]?
theorem Keeps.refl (S : List Nat) (w : World) : Keeps S w w := ⟨rfl, rfl, rfl, Nat.le_refl _, fun _ _ _ => rfl⟩
theorem Keeps.trans {S : List Nat} {a b c : World} (h : Keeps S a b) (k : Keeps S b c) : Keeps S a c :=
 ⟨k.os.trans h.os, k.tape.trans h.tape, k.output.trans h.output, Nat.le_trans h.size k.size, fun i hi hn => (k.block i (Nat.lt_of_lt_of_le hi h.size) hn).trans (h.block i hi hn)⟩
theorem Keeps.drewN {S : List Nat} {a w : World} (h : Keeps S a w) (n : Nat) : Keeps S a (w.drewN n) := ⟨h.os, h.tape, h.output, h.size, h.block⟩
theorem Keeps.setCell {S : List Nat} {a w : World} (h : Keeps S a w) {p : Addr} (hp : p.block ∈ S ∨ a.heap.size ≤ p.block) (u : Value) : Keeps S a (w.setCell p u) :=
 ⟨h.os, h.tape, h.output, by simpa using h.size, fun k hk hn => by
   rw [Below.heap_setCell]
   · exact h.block k hk hn
   · rintro rfl
     rcases hp with hp | hp
     · exact hn hp
     · omega⟩
theorem Keeps.alloc {S : List Nat} {a w : World} (h : Keeps S a w) (o : Obj) : Keeps S a (w.alloc o) :=
 ⟨h.os, h.tape, h.output, by have := h.size; simp; omega, fun k hk hn => by
   rw [Below.heap_alloc _ _ _ (Nat.lt_of_lt_of_le hk h.size)]
   exact h.block k hk hn⟩
theorem ret_bool {a b : Bool} (h : a = true ↔ b = true) : Ending.returned (.bool a) = .returned (.bool b) := by
 have : a = b := by cases a <;> cases b <;> simp at h ⊢
 rw [this]
theorem ret_int {k : IntKind} {a b : Int} (h : a = b) : Ending.returned (.int k a) = .returned (.int k b) := by rw [h]
end Go.Proofs.YtnfojonmohijpabGreatDoor
namespace Go.Proofs.YtnfojonmohijpabGreatDoor
open Go.RowKit
def nmB (l : List UInt8) : ByteArray := ⟨l.toArray⟩
end Go.Proofs.YtnfojonmohijpabGreatDoor
namespace Go.Proofs.YtnfojonmohijpabGreatDoor
open Go.RowKit
def hcells (f : Nat → Bool) : Array Value := Array.ofFn (n := 256) fun k => Value.bool (f k.val)
theorem hcells_size (f : Nat → Bool) : (hcells f).size = 256 := by simp [hcells]
theorem hcells_get (f : Nat → Bool) {k : Nat} (h : k < 256) : (hcells f)[k]? = some (.bool (f k)) := by simp [hcells, h]
theorem hcells_set (f : Nat → Bool) (k : Nat) (v : Bool) : (hcells f).setIfInBounds k (.bool v) = hcells (fun n => if n = k then v else f n) := by
 apply Array.ext_getElem?
 intro i
 rw [Array.getElem?_setIfInBounds]
 by_cases hi : i < 256
 ·rw [hcells_get _ hi, hcells_get _ hi]
  by_cases hk : k = i
  ·subst hk; simp [hcells_size, hi]
  ·simp [hk, Ne.symm hk]
 ·have e1 : (hcells fun n => if n = k then v else f n)[i]? = none := Array.getElem?_eq_none (by rw [hcells_size]; omega)
  have e2 : (hcells f)[i]? = none := Array.getElem?_eq_none (by rw [hcells_size]; omega)
  rw [e1, e2]
  by_cases hk : k = i
  ·rw [if_pos hk, if_neg (by rw [hcells_size]; omega)]
  ·rw [if_neg hk]
def HB (w : World) (h : Nat) (f : Nat → Bool) : Prop := w.heap[h]? = some (.cells (hcells f) 4 (0, 0))
def nm (k : Nat) : List UInt8 := names.getD k []
theorem names_len : ∀ n ∈ names, n.length = 5 := by decide
theorem names_count : names.length = 7 := rfl
def ncells : Array Value := #[.string (nmB [100, 105, 103, 105, 116]), .string (nmB [108, 111, 119, 101, 114]), .string (nmB [117, 112, 112, 101, 114]), .string (nmB [97, 108, 112, 104, 97]), .string (nmB [97, 108, 110, 117, 109]), .string (nmB [115, 112, 97, 99, 101]), .string (nmB [112, 117, 110, 99, 116])]
theorem Keeps.mono {S S' : List Nat} {a w : World} (h : Keeps S a w) (hs : ∀ x, x ∈ S → x ∈ S') : Keeps S' a w :=
 ⟨h.os, h.tape, h.output, h.size, fun k hk hn => h.block k hk fun hx => hn (hs k hx)⟩
theorem nmB_toList (l : List UInt8) : (nmB l).data.toList = l := by simp [nmB]
theorem nmB_size (l : List UInt8) : (nmB l).size = l.length := by simp [nmB, ByteArray.size]
theorem nm_get {j : Nat} (hj : j < 7) : nm j = names[j]'(by rw [names_count]; exact hj) := by
 unfold nm
 rw [List.getD_eq_getElem?_getD, List.getElem?_eq_getElem (by rw [names_count]; exact hj)]; rfl
theorem nm_len {j : Nat} (hj : j < 7) : (nm j).length = 5 := by rw [nm_get hj]; exact names_len _ (List.getElem_mem _)
theorem nm_mem {j : Nat} (hj : j < 7) : nm j ∈ names := by rw [nm_get hj]; exact List.getElem_mem _
theorem find_none {word : List UInt8} (h : ∀ j, j < 7 → nm j ≠ word) : names.findIdx? (· = word) = none := by
 rw [List.findIdx?_eq_none_iff]
 intro x hx
 obtain ⟨j, hj, rfl⟩ := List.mem_iff_getElem.1 hx
 have := h j hj
 rw [nm_get hj] at this
 simpa using this
theorem find_some {word : List UInt8} {k : Nat} (hk : k < 7) (h : ∀ j, j < k → nm j ≠ word) (e : nm k = word) : names.findIdx? (· = word) = some k := by
 rw [List.findIdx?_eq_some_iff_getElem]
 refine ⟨hk, ?_, ?_⟩
 ·have e' := (nm_get hk).symm.trans e
  exact decide_eq_true e'
 ·intro j hj
  have := h j hj
  rw [nm_get (by omega)] at this
  simpa using this
theorem eqL (a b : List UInt8) : ((nmB a).toList == (nmB b).toList) = decide (a = b) := by
 rw [ByteArray.toList_eq, ByteArray.toList_eq, nmB_toList, nmB_toList]
 by_cases h : a = b
 ·subst h; simp
 ·simp [h]
end Go.Proofs.YtnfojonmohijpabGreatDoor
namespace Go.Proofs.YtnfojonmohijpabGreatDoor
open Go.RowKit
def fit1 (word : List UInt8) (c : Int) (n : List UInt8) : Bool := decide (word.length < n.length) && decide (n.take word.length = word) && decide (((n.getD word.length 0).toNat : Int) = c)
def fitTo (word : List UInt8) (c : Int) (k : Nat) : Bool := (names.take k).any (fit1 word c)
theorem fitTo_all (word : List UInt8) (c : Int) : fitTo word c 7 = goesOn word c := rfl
theorem fit1_none (word : List UInt8) (n : List UInt8) : fit1 word (-1) n = false := by
 unfold fit1
 have : ¬ (((n.getD word.length 0).toNat : Int) = -1) := by omega
 simp only [decide_eq_false this, Bool.and_false]
theorem goesOn_none (word : List UInt8) : goesOn word (-1) = false := by
 rw [← fitTo_all]
 unfold fitTo
 simp [fit1_none]
theorem eqX (a b : List UInt8) (n : Nat) : (((nmB a).extract 0 n).toList == (nmB b).toList) = decide (a.take n = b) := by
 rw [ByteArray.toList_eq, ByteArray.toList_eq, nmB_toList]
 have : ((nmB a).extract 0 n).data.toList = a.take n := by
  rw [Lib.extract_data]; simp [nmB]
 rw [this]
 by_cases h : a.take n = b
 ·subst h; simp
 ·simp [h]
theorem get!_eq {s : ByteArray} {i : Nat} (h : i < s.size) : s.get! i = s[i] := by
 obtain ⟨a⟩ := s
 have h' : i < a.size := h
 show a[i]! = a[i]
 exact getElem!_pos a i h'
theorem goesOn_mem {word : List UInt8} {s : ByteArray} {i : Nat} (hg : goesOn word (at' s i) = true) (hw : word.length ≤ 4) (hi : i < s.size) : (word ++ [s.get! i]).length = 5 → word ++ [s.get! i] ∈ names := by
 intro h5
 have h4 : word.length = 4 := by simp at h5; omega
 unfold goesOn at hg
 simp only [List.any_eq_true, Bool.and_eq_true, decide_eq_true_eq] at hg
 obtain ⟨n, hn, ⟨hl, ht⟩, hc⟩ := hg
 have hl5 := names_len n hn
 rw [at'_lt hi] at hc
 have hc' : n.getD word.length 0 = s[i] := by
  apply UInt8.toNat_inj.1
  omega
 have : n = word ++ [s.get! i] := by
  rw [get!_eq hi, ← hc']
  rw [h4] at ht ⊢
  match n, hl5 with
  | [a, b, c, d, e], _ =>
   simp at ht
   rw [← ht]; rfl
 rw [← this]; exact hn
end Go.Proofs.YtnfojonmohijpabGreatDoor
namespace Go.Proofs.YtnfojonmohijpabGreatDoor
open Go.RowKit
def cellInt (w : World) (b o : Nat) : Int := match w.cell? ⟨b, o, none⟩ with
 | some v => intOf v
 | none => 0
end Go.Proofs.YtnfojonmohijpabGreatDoor
namespace Go.Proofs.YtnfojonmohijpabGreatDoor
open Go.RowKit
theorem _root_.Go.World.ownsRow.setOther {w : World} {base : Nat} {e : TypeId} {size : Nat} {v : Value} {n : Nat} {xs : List Value} (h : w.ownsRow base e size v n xs) {a : Addr} (ha : v.ownBlock ≠ some a.block) (u : Value) : (w.setCell a u).ownsRow base e size v n xs :=
 h.kept (row := some a.block) ⟨rfl, rfl, rfl, by simp, fun k _ hk => Below.heap_setCell _ _ _ _ (by intro e; exact hk (by rw [e]))⟩ (Or.inr ha)
theorem _root_.Go.World.ownsRow.keep {w w' : World} {base : Nat} {e : TypeId} {size : Nat} {v : Value} {n : Nat} {xs : List Value} {S : List Nat} (h : w.ownsRow base e size v n xs) (hk : Keeps S w w') (hs : ∀ g, v.ownBlock = some g → g ∉ S) : w'.ownsRow base e size v n xs := by
 refine ⟨h.1, ?_⟩
 rcases h.2 with hn | ⟨g, cap, cur, rfl, hb, hgg, rest⟩
 ·exact .inl hn
 ·refine .inr ⟨g, cap, cur, rfl, hb, ?_, rest⟩
  rw [hk.block g (Array.getElem?_eq_some_iff.1 hgg).1 (hs g rfl)]
  exact hgg
end Go.Proofs.YtnfojonmohijpabGreatDoor
namespace Go.Proofs.YtnfojonmohijpabGreatDoor
open Go.RowKit
def wd (P : Nat → Bool) (k : Nat) : Nat → Nat
 | 0 => 0
 | n + 1 => 2 ^ n * (P (64 * k + n)).toNat + wd P k n
theorem wd_lt (P : Nat → Bool) (k n : Nat) : wd P k n < 2 ^ n := by
 induction n with
 | zero => simp [wd]
 | succ n ih =>
  simp only [wd, Nat.pow_succ]
  cases P (64 * k + n) <;> simp <;> omega
theorem wd_bit (P : Nat → Bool) (k : Nat) : ∀ n j, (wd P k n).testBit j = (decide (j < n) && P (64 * k + j)) := by
 intro n
 induction n with
 | zero => intro j; simp [wd]
 | succ n ih =>
  intro j
  have hlt := wd_lt P k n
  simp only [wd]
  rcases Nat.lt_trichotomy j n with h | h | h
  ·cases hP : P (64 * k + n)
   ·simp [ih, h, Nat.lt_succ_of_lt h]
   ·simp only [Bool.toNat_true, Nat.mul_one]
    rw [Nat.testBit_two_pow_add_gt h, ih]
    simp [h, Nat.lt_succ_of_lt h]
  ·subst h
   have h0 : (wd P k j).testBit j = false := Nat.testBit_lt_two_pow hlt
   cases hP : P (64 * k + j)
   ·simp [h0]
   ·simp only [Bool.toNat_true, Nat.mul_one]
    rw [Nat.testBit_two_pow_add_eq, h0]
    simp
  ·have h1 : 2 ^ n * (P (64 * k + n)).toNat + wd P k n < 2 ^ j := by
      have : 2 ^ (n + 1) ≤ 2 ^ j := Nat.pow_le_pow_right (by omega) h
      rw [Nat.pow_succ] at this
      cases P (64 * k + n) <;> simp <;> omega
   rw [Nat.testBit_lt_two_pow h1]
   have : ¬ j < n + 1 := by omega
   simp [this]
theorem wd_ext {P Q : Nat → Bool} {k : Nat} : ∀ {n : Nat}, (∀ j, j < n → P (64 * k + j) = Q (64 * k + j)) → wd P k n = wd Q k n := by
 intro n h
 apply Nat.eq_of_testBit_eq
 intro j
 rw [wd_bit, wd_bit]
 by_cases hj : j < n
 ·rw [h j hj]
 ·simp [hj]
theorem wd_or (P Q : Nat → Bool) (k n : Nat) : (wd P k n ||| wd Q k n) = wd (fun j => P j || Q j) k n := by
 apply Nat.eq_of_testBit_eq
 intro j
 rw [Nat.testBit_or, wd_bit, wd_bit, wd_bit]
 cases decide (j < n) <;> simp
theorem wd_add (P : Nat → Bool) {k j n : Nat} (h : j < n) : (wd P k n ||| 2 ^ j) = wd (fun m => P m || decide (m = 64 * k + j)) k n := by
 apply Nat.eq_of_testBit_eq
 intro m
 rw [Nat.testBit_or, wd_bit, wd_bit, Nat.testBit_two_pow]
 by_cases e : m < n
 ·by_cases e2 : j = m
  ·subst e2; simp [e]
  ·have : ¬ m = j := fun h => e2 h.symm
   simp [e, e2, this]
 ·have : ¬ j = m := by omega
  simp [e, this]
theorem wd_has (P : Nat → Bool) {k j n : Nat} (h : j < n) : wd P k n / 2 ^ j % 2 = (P (64 * k + j)).toNat := by
 have := wd_bit P k n j
 rw [Nat.testBit_eq_decide_div_mod_eq] at this
 have h3 : wd P k n / 2 ^ j % 2 < 2 := Nat.mod_lt _ (by decide)
 generalize wd P k n / 2 ^ j % 2 = z at *
 cases hP : P (64 * k + j)
 ·rw [hP] at this; simp at this; simp; omega
 ·rw [hP] at this; simp [h] at this; simp [this]
theorem bits64 : ∃ n : Nat, n = 64 := ⟨64, rfl⟩
noncomputable def wbits : Nat := Classical.choose bits64
theorem wbits_eq : wbits = 64 := Classical.choose_spec bits64
noncomputable def wk (P : Nat → Bool) (k : Nat) : Nat := wd P k wbits
theorem wk_lt (P : Nat → Bool) (k : Nat) : wk P k < 18446744073709551616 := by
 have := wd_lt P k wbits
 have e : (2 : Nat) ^ wbits = 18446744073709551616 := by rw [wbits_eq]
 rw [e] at this
 exact this
theorem wk_or (P Q : Nat → Bool) (k : Nat) : bits .or .u64 (wk P k : Int) (wk Q k : Int) = (wk (fun j => P j || Q j) k : Nat) :=
 (u64_or_nat _ _ (wk_lt P k) (wk_lt Q k)).trans (congrArg (fun z : Nat => (z : Int)) (wd_or P Q k wbits))
theorem wk_add (P : Nat → Bool) {k j : Nat} (h : j < 64) : bits .or .u64 (wk P k : Int) ((2 ^ j : Nat) : Int) = (wk (fun m => P m || decide (m = 64 * k + j)) k : Nat) := by
 have h2 : 2 ^ j < 18446744073709551616 := Nat.lt_of_lt_of_le (Nat.pow_lt_pow_right (by omega) h) (by decide)
 exact (u64_or_nat _ _ (wk_lt P k) h2).trans (congrArg (fun z : Nat => (z : Int)) (wd_add P (by rw [wbits_eq]; exact h)))
theorem wk_out (P : Nat → Bool) {k k' j : Nat} (h : j < 64) (hk : k ≠ k') : wk (fun m => P m || decide (m = 64 * k' + j)) k = wk P k := by
 apply wd_ext
 intro m hm
 rw [wbits_eq] at hm
 have : ¬ 64 * k + m = 64 * k' + j := by omega
 simp [this]
theorem wk_ext {P Q : Nat → Bool} {k : Nat} (h : ∀ j, j < 64 → P (64 * k + j) = Q (64 * k + j)) : wk P k = wk Q k := wd_ext fun j hj => h j (by rw [wbits_eq] at hj; exact hj)
theorem wk_has (P : Nat → Bool) {k j : Nat} (h : j < 64) : (bits .and .u64 ((wk P k : Int) / 2 ^ j) 1 == 1) = P (64 * k + j) := by
 have e1 : ((wk P k : Int) / 2 ^ j) = ((wk P k / 2 ^ j : Nat) : Int) := by simp
 have e2 : wk P k / 2 ^ j < 18446744073709551616 := Nat.lt_of_le_of_lt (Nat.div_le_self _ _) (wk_lt P k)
 have e3 : bits .and .u64 ((wk P k / 2 ^ j : Nat) : Int) 1 = ((wk P k / 2 ^ j % 2 : Nat) : Int) := by
  refine (u64_and_nat _ 1 e2 (by decide)).trans (congrArg (fun z : Nat => (z : Int)) ?_)
  exact Nat.and_one_is_mod _
 rw [e1, e3, show wk P k / 2 ^ j % 2 = (P (64 * k + j)).toNat from wd_has P (by rw [wbits_eq]; exact h)]
 cases P (64 * k + j) <;> rfl
theorem wk_none (k : Nat) : wk (fun _ => false) k = 0 := by
 have : ∀ n, wd (fun _ => false) k n = 0 := by
  intro n
  induction n with
  | zero => rfl
  | succ n ih => simp [wd, ih]
 exact this wbits
noncomputable def pv (P : Nat → Bool) : Value := .agg #[.int .u64 (wk P 0), .int .u64 (wk P 1)]
noncomputable def mc (n : Nat) (f : Nat → Nat → Bool) : List Value := (List.range (2 * n)).map fun q => .int .u64 (wk (f (q / 2)) (q % 2))
theorem mc_len (n : Nat) (f : Nat → Nat → Bool) : (mc n f).length = 2 * n := by simp [mc]
theorem mc_at {n q : Nat} (f : Nat → Nat → Bool) (h : q < 2 * n) : (mc n f)[q]? = some (.int .u64 (wk (f (q / 2)) (q % 2))) := by simp [mc, h]
theorem mc_ext {n : Nat} {f g : Nat → Nat → Bool} (h : ∀ i j, i < n → j < 128 → f i j = g i j) : mc n f = mc n g := by
 unfold mc
 apply List.map_congr_left
 intro q hq
 simp only [List.mem_range] at hq
 have : wk (f (q / 2)) (q % 2) = wk (g (q / 2)) (q % 2) := wk_ext fun j hj => h (q / 2) _ (by omega) (by omega)
 rw [this]
theorem mc_set {n i k : Nat} (f g : Nat → Nat → Bool) (hi : i < n) (hk : k < 2) (v : Value) (hv : v = .int .u64 (wk (g i) k)) (ho : ∀ a, a ≠ i → ∀ j, g a j = f a j) (hw : ∀ k', k' ≠ k → wk (g i) k' = wk (f i) k') :
    (mc n f).set (2 * i + k) v = mc n g := by
 apply List.ext_getElem?
 intro q
 rw [List.getElem?_set]
 by_cases hq : q < 2 * n
 ·rw [mc_at g hq, mc_at f hq, mc_len]
  by_cases e : 2 * i + k = q
  ·rw [if_pos e, if_pos (by omega)]
   have e1 : q / 2 = i := by omega
   have e2 : q % 2 = k := by omega
   rw [hv, e1, e2]
  ·rw [if_neg e]
   by_cases e1 : q / 2 = i
   ·rw [e1, hw (q % 2) (by omega)]
   ·have : wk (f (q / 2)) (q % 2) = wk (g (q / 2)) (q % 2) := wk_ext fun j _ => (ho _ e1 _).symm
    rw [this]
 ·have h1 : (mc n f)[q]? = none := by rw [List.getElem?_eq_none_iff, mc_len]; omega
  have h2 : (mc n g)[q]? = none := by rw [List.getElem?_eq_none_iff, mc_len]; omega
  have e : ¬ 2 * i + k = q := by omega
  rw [if_neg e, h1, h2]
def MV (w : World) (v : Value) (n : Nat) (f : Nat → Nat → Bool) : Prop := w.ownsRow 0 102 2 v n (mc n f)
theorem MV.keep {w w' : World} {S : List Nat} {v : Value} {n : Nat} {f : Nat → Nat → Bool} (h : MV w v n f) (hk : Keeps S w w') (hs : ∀ g, v.ownBlock = some g → g ∉ S) : MV w' v n f := World.ownsRow.keep h hk hs
theorem MV.ext {w : World} {v : Value} {n : Nat} {f g : Nat → Nat → Bool} (h : MV w v n f) (e : ∀ i j, i < n → j < 128 → f i j = g i j) : MV w v n g := by
 unfold MV at *
 rw [← mc_ext e]
 exact h
theorem MV.at {w : World} {g cap n : Nat} {f : Nat → Nat → Bool} (h : MV w (.slice (some ⟨g, 0, none⟩) n cap) n f) {i : Nat} (hi : i < n) :
    w.cell? ⟨g, i * 2, none⟩ = some (.int .u64 (wk (f i) 0)) ∧ w.cell? ⟨g, i * 2 + 1, none⟩ = some (.int .u64 (wk (f i) 1)) := by
 constructor
 ·rw [World.ownsRow.cellAt h (i * 2) (by omega), mc_at f (by omega)]
  rw [show i * 2 / 2 = i by omega, show i * 2 % 2 = 0 by omega]
 ·rw [World.ownsRow.cellAt h (i * 2 + 1) (by omega), mc_at f (by omega)]
  rw [show (i * 2 + 1) / 2 = i by omega, show (i * 2 + 1) % 2 = 1 by omega]
theorem MV.frozen {w : World} {g cap n : Nat} {f : Nat → Nat → Bool} (h : MV w (.slice (some ⟨g, 0, none⟩) n cap) n f) (j : Nat) : w.frozen? ⟨g, j, none⟩ = false := World.ownsRow.frozenAt h j
set_option maxHeartbeats 400000 in
theorem phas_any (P : Nat → Bool) (j : Nat) (hj : j < 128) (w : World) :
    Calls Tryz.prog 35 #[pv P, .int .i64 j] w fun e w' => e = .returned (.bool (P j)) ∧ Keeps [] w w' := by
 have h0 : (0 : Int) ≤ (j : Int) := by omega
 unfold pv
 by_cases h : j < 64
 ·have h1 : (j : Int) / 64 = 0 := by omega
  have h2 : (j : Int) % 64 = j := by omega
  have HH : Hid ((bits .and .u64 ((wk P 0 : Int) / 2 ^ j) 1 == 1) = P j) := by have := wk_has P (k := 0) h; rw [show 64 * 0 + j = j by omega] at this; exact this
  go_enter Tryz.func35, Tryz.ntmps35
  go_wp2_with fail
  go_ret
  exact ⟨by rw [HH.out]; rfl, (Keeps.refl [] w).alloc _⟩
 ·obtain ⟨m, rfl⟩ : ∃ m, j = 64 + m := ⟨j - 64, by omega⟩
  have h1 : ((64 + m : Nat) : Int) / 64 = 1 := by omega
  have h2 : ((64 + m : Nat) : Int) % 64 = m := by omega
  have HH : Hid ((bits .and .u64 ((wk P 1 : Int) / 2 ^ m) 1 == 1) = P (64 + m)) := wk_has P (k := 1) (by omega)
  obtain ⟨J, hJ⟩ : ∃ J : Int, J = ((64 + m : Nat) : Int) := ⟨_, rfl⟩
  rw [← hJ] at h0 h1 h2 ⊢
  clear hJ
  go_enter Tryz.func35, Tryz.ntmps35
  go_wp2_with fail
  go_ret
  exact ⟨by rw [HH.out]; rfl, (Keeps.refl [] w).alloc _⟩
theorem wrap_pow {j : Nat} (h : j < 64) : IntKind.u64.wrap (2 ^ j) = ((2 ^ j : Nat) : Int) := by
 have h2 : 2 ^ j < 18446744073709551616 := Nat.lt_of_lt_of_le (Nat.pow_lt_pow_right (by omega) h) (by decide)
 have e : (2 : Int) ^ j = ((2 ^ j : Nat) : Int) := by simp
 rw [e]
 generalize 2 ^ j = z at *
 have : IntKind.u64.wrap (z : Int) = (z : Int) % 18446744073709551616 := by simp [IntKind.wrap, IntKind.bits, IntKind.signed]
 rw [this]
 omega
theorem MV.put {w : World} {g cap n : Nat} {f f' : Nat → Nat → Bool} (h : MV w (.slice (some ⟨g, 0, none⟩) n cap) n f) {i k : Nat} (hi : i < n) (hk : k < 2) (v : Value) (hv : v = .int .u64 (wk (f' i) k)) (ho : ∀ a, a ≠ i → ∀ j, f' a j = f a j) (hw : ∀ k', k' ≠ k → wk (f' i) k' = wk (f i) k') :
    MV (w.setCell ⟨g, i * 2 + k, none⟩ v) (.slice (some ⟨g, 0, none⟩) n cap) n f' := by
 have := (World.ownsRow.stored h (i * 2 + k) v).1
 rw [Nat.mul_comm i 2, mc_set f f' hi hk v hv ho hw] at this
 rw [Nat.mul_comm i 2]
 exact this
set_option maxRecDepth 100000 in
set_option maxHeartbeats 400000 in
theorem padd_any (g cap n i j : Nat) (f : Nat → Nat → Bool) (hi : i < n) (hj : j < 128) (w : World) (h : MV w (.slice (some ⟨g, 0, none⟩) n cap) n f) :
    Calls Tryz.prog 126 #[.pointer (some ⟨g, i * 2, none⟩), .int .i64 j] w fun e w' => e = .returned (.tuple #[]) ∧ MV w' (.slice (some ⟨g, 0, none⟩) n cap) n (fun a b => f a b || (decide (a = i) && decide (b = j))) ∧ Keeps [g] w w' := by
 obtain ⟨ca, cb⟩ := h.at hi
 have fa := h.frozen (i * 2)
 have fb := h.frozen (i * 2 + 1)
 have h0 : (0 : Int) ≤ (j : Int) := by omega
 by_cases hj : j < 64
 ·have h1 : (j : Int) / 64 = 0 := by omega
  have h2 : (j : Int) % 64 = j := by omega
  have HV : Hid (bits .or .u64 (wk (f i) 0 : Int) (IntKind.u64.wrap (2 ^ j)) = (wk (fun m => f i m || decide (m = j)) 0 : Nat)) := by
   have := wk_add (f i) (k := 0) hj
   rw [show 64 * 0 + j = j by omega] at this
   show _ = _
   rw [wrap_pow hj]
   exact this
  have HH : Hid (MV w (.slice (some ⟨g, 0, none⟩) n cap) n f) := h
  have HJ : Hid (j < 64) := hj
  have HI : Hid (i < n) := hi
  clear h hj hi
  go_enter Tryz.func126, Tryz.ntmps126
  go_wp2_with fail
  go_region
  all_goals go_end0
  all_goals
   refine ⟨rfl, ?_, ((Keeps.refl [g] w).setCell (p := ⟨g, i * 2, none⟩) (by simp) _).drewN 1⟩
   refine MV.put (f := f) HH.out HI.out (k := 0) (by omega) _ ?_ ?_ ?_
   ·rw [HV.out]
    have : wk (fun m => f i m || decide (m = j)) 0 = wk (fun b => f i b || (decide (i = i) && decide (b = j))) 0 := wk_ext fun q _ => by simp
    rw [this]
   ·intro a ha q; simp [ha]
   ·intro k' hk'
    have := wk_out (f i) (k := k') (k' := 0) HJ.out hk'
    refine Eq.trans (wk_ext fun q _ => ?_) this
    simp
 ·obtain ⟨m, rfl⟩ : ∃ m, j = 64 + m := ⟨j - 64, by omega⟩
  have h1 : ((64 + m : Nat) : Int) / 64 = 1 := by omega
  have h2 : ((64 + m : Nat) : Int) % 64 = m := by omega
  have hm : m < 64 := by omega
  have HV : Hid (bits .or .u64 (wk (f i) 1 : Int) (IntKind.u64.wrap (2 ^ m)) = (wk (fun q => f i q || decide (q = 64 + m)) 1 : Nat)) := by
   have := wk_add (f i) (k := 1) hm
   show _ = _
   rw [wrap_pow hm]
   exact this
  obtain ⟨J, hJ⟩ : ∃ J : Int, J = ((64 + m : Nat) : Int) := ⟨_, rfl⟩
  rw [← hJ] at h0 h1 h2 ⊢
  have HH : Hid (MV w (.slice (some ⟨g, 0, none⟩) n cap) n f) := h
  have HJ : Hid (m < 64) := hm
  have HI : Hid (i < n) := hi
  clear hJ h hj hm hi
  go_enter Tryz.func126, Tryz.ntmps126
  go_wp2_with fail
  go_region
  all_goals go_end0
  all_goals
   refine ⟨rfl, ?_, ((Keeps.refl [g] w).setCell (p := ⟨g, i * 2 + 1, none⟩) (by simp) _).drewN 1⟩
   refine MV.put (f := f) HH.out HI.out (k := 1) (by omega) _ ?_ ?_ ?_
   ·rw [HV.out]
    have : wk (fun q => f i q || decide (q = 64 + m)) 1 = wk (fun b => f i b || (decide (i = i) && decide (b = 64 + m))) 1 := wk_ext fun q _ => by simp
    rw [this]
   ·intro a ha q; simp [ha]
   ·intro k' hk'
    have := wk_out (f i) (k := k') (k' := 1) HJ.out hk'
    refine Eq.trans (wk_ext fun q _ => ?_) this
    simp
end Go.Proofs.YtnfojonmohijpabGreatDoor
namespace Go.Proofs.YtnfojonmohijpabGreatDoor
open Go.RowKit
def addTo (f : Nat → Nat → Bool) (i : Nat) (Q : Nat → Bool) (k : Nat) : Nat → Nat → Bool := fun a b => f a b || (decide (a = i) && (decide (b < 64 * k) && Q b))
theorem addTo_step {w : World} {g cap n : Nat} {f : Nat → Nat → Bool} {i : Nat} {Q : Nat → Bool} {k : Nat} (h : MV w (.slice (some ⟨g, 0, none⟩) n cap) n (addTo f i Q k)) (hi : i < n) (hk : k < 2) :
    MV (w.setCell ⟨g, i * 2 + k, none⟩ (.int .u64 (bits .or .u64 (wk (addTo f i Q k i) k : Int) (wk Q k : Int)))) (.slice (some ⟨g, 0, none⟩) n cap) n (addTo f i Q (k + 1)) := by
 refine MV.put h hi hk _ ?_ ?_ ?_
 ·rw [wk_or]
  have : wk (fun j => addTo f i Q k i j || Q j) k = wk (addTo f i Q (k + 1) i) k := wk_ext fun j hj => by
   have h1 : ¬ 64 * k + j < 64 * k := by omega
   have h2 : 64 * k + j < 64 * (k + 1) := by omega
   simp [addTo, h1, h2]
  rw [this]
 ·intro a ha j; simp [addTo, ha]
 ·intro k' hk'
  apply wk_ext
  intro j hj
  have : (64 * k' + j < 64 * (k + 1)) ↔ (64 * k' + j < 64 * k) := by omega
  simp [addTo, this]
set_option maxRecDepth 100000 in
set_option maxHeartbeats 1000000 in
theorem addAll_any (g cap n i : Nat) (f : Nat → Nat → Bool) (Q : Nat → Bool) (hi : i < n) (w : World) (h : MV w (.slice (some ⟨g, 0, none⟩) n cap) n f) :
    Calls Tryz.prog 106 #[.pointer (some ⟨g, i * 2, none⟩), pv Q] w fun e w' => e = .returned (.tuple #[]) ∧ MV w' (.slice (some ⟨g, 0, none⟩) n cap) n (fun a b => f a b || (decide (a = i) && Q b)) ∧ Keeps [g] w w' := by
 have hgl : g < w.heap.size := (World.ownsRow.lt h g rfl).2
 have hnew := heap_alloc_new w (.cells #[.int .u64 (wk Q 0), .int .u64 (wk Q 1)] 102)
 have hW := (Keeps.refl [g] w).alloc (.cells #[.int .u64 (wk Q 0), .int .u64 (wk Q 1)] 102)
 have h1 : MV (w.alloc (.cells #[.int .u64 (wk Q 0), .int .u64 (wk Q 1)] 102)) (.slice (some ⟨g, 0, none⟩) n cap) n (addTo f i Q 0) :=
  (h.keep ((Keeps.refl [] w).alloc _) (by simp)).ext fun a b _ _ => by simp [addTo]
 unfold pv
 go_enter Tryz.func106, Tryz.ntmps106
 go_wp2_with fail
 generalize (w.alloc (.cells #[.int .u64 (wk Q 0), .int .u64 (wk Q 1)] 102)) = W at *
 obtain ⟨x, hx⟩ : ∃ x, x = w.heap.size := ⟨_, rfl⟩
 rw [← hx] at hnew hgl ⊢
 clear hx
 have e0 : W.cell? ⟨x, 0, none⟩ = some (.int .u64 (wk Q 0)) := by simp [World.cell?, hnew]
 have e1 : W.cell? ⟨x, 1, none⟩ = some (.int .u64 (wk Q 1)) := by simp [World.cell?, hnew]
 have hxl : x < W.heap.size := (Array.getElem?_eq_some_iff.1 hnew).1
 have hxg : x ≠ g := by omega
 clear hnew hgl
 go_loopw [4, 5] (fun _ q wr => ∃ k : Nat, k ≤ 2 ∧ q = .int .i64 k ∧ MV wr (.slice (some ⟨g, 0, none⟩) n cap) n (addTo f i Q k) ∧ Keeps [g] W wr) (fun _ q _ => 2 - (intOf q).toNat)
 case atStart => exact ⟨0, by omega, rfl, h1, Keeps.refl _ _⟩
 case round =>
  obtain ⟨k, hk, rfl, hM, hK⟩ := hrel
  have r0 : wr.cell? ⟨x, 0, none⟩ = some (.int .u64 (wk Q 0)) := (World.cell?_of_block (hK.block x hxl (by simp [hxg]))).trans e0
  have r1 : wr.cell? ⟨x, 1, none⟩ = some (.int .u64 (wk Q 1)) := (World.cell?_of_block (hK.block x hxl (by simp [hxg]))).trans e1
  obtain ⟨ca, cb⟩ := hM.at hi
  have fa := hM.frozen (i * 2)
  have fb := hM.frozen (i * 2 + 1)
  have HM : Hid (MV wr (.slice (some ⟨g, 0, none⟩) n cap) n (addTo f i Q k)) := hM
  have HI : Hid (i < n) := hi
  have HX : Hid (Keeps [g] W wr) := hK
  clear hM hK
  have h3 : k = 0 ∨ k = 1 ∨ k = 2 := by omega
  rcases h3 with rfl | rfl | rfl
  ·clear hi hk
   go_wp2_with fail
   go_region
   go_wp2_with fail
   go_roundw
   case rel => exact ⟨1, by omega, rfl, addTo_step HM.out HI.out (by omega), (HX.out.setCell (p := ⟨g, i * 2, none⟩) (by simp) _).drewN 1⟩
   case measure => simp [intOf]
  ·clear hi hk
   go_wp2_with fail
   go_region
   go_wp2_with fail
   go_roundw
   case rel => exact ⟨2, by omega, rfl, addTo_step HM.out HI.out (by omega), (HX.out.setCell (p := ⟨g, i * 2 + 1, none⟩) (by simp) _).drewN 1⟩
   case measure => simp [intOf]
  ·clear hi hk
   go_wp2_with fail
   go_end0
   exact ⟨rfl, HM.out.ext fun a b _ hb => by have : b < 64 * 2 := by omega
                                             simp [addTo, this], hW.trans HX.out⟩
theorem addAll_raw (g cap n i : Nat) (f : Nat → Nat → Bool) (Q : Nat → Bool) (hi : i < n) (w : World) (h : MV w (.slice (some ⟨g, 0, none⟩) n cap) n f) :
    Calls Tryz.prog 106 #[.pointer (some ⟨g, i * 2, none⟩), .agg #[.int .u64 (wk Q 0), .int .u64 (wk Q 1)]] w fun e w' => e = .returned (.tuple #[]) ∧ MV w' (.slice (some ⟨g, 0, none⟩) n cap) n (fun a b => f a b || (decide (a = i) && Q b)) ∧ Keeps [g] w w' :=
 addAll_any g cap n i f Q hi w h
theorem phas_raw (P : Nat → Bool) (j : Nat) (hj : j < 128) (w : World) :
    Calls Tryz.prog 35 #[.agg #[.int .u64 (wk P 0), .int .u64 (wk P 1)], .int .i64 j] w fun e w' => e = .returned (.bool (P j)) ∧ Keeps [] w w' := phas_any P j hj w
end Go.Proofs.YtnfojonmohijpabGreatDoor
namespace Go.Proofs.YtnfojonmohijpabGreatDoor
open Go.RowKit
theorem G.okb {s : ByteArray} {k : Kd} {d g i : Nat} {q : R (Pat × Nat)} (h : G s k d g i q) : ∀ x g1 j, q = .ok (x, g1) j → i ≤ j ∧ (i ≤ s.size → j ≤ s.size) ∧ (k = .piece ∨ k = .single → i < j) ∧ g ≤ g1 ∧ (g ≤ 9 → g1 ≤ 9) := by
 have A : ∀ i, 0 ≤ at' s i → i < s.size := fun i hi => at'_nn hi
 induction h with
 | one d g i g1 j x _ e ih => intro x' g1' j' e'; cases e'; have := ih x g1 j rfl; simp; omega
 | more d g i g1 j x q _ e _ ih ih2 =>
  intro x' g1' j' e'
  cases q with
  | bad l => cases e'
  | ok y l =>
   have h1 := ih x g1 j rfl
   have h2 := ih2 y.1 y.2 l rfl
   cases e'
   have := A j (by omega)
   simp; omega
 | wbad => intro x' g1' j' e'; cases e'
 | nil d g i e => intro x' g1' j' e'; cases e'; simp
 | cons d g i g1 j x q e _ _ ih ih2 =>
  intro x' g1' j' e'
  cases q with
  | bad l => cases e'
  | ok y l =>
   have h1 := ih x g1 j rfl
   have h2 := ih2 y.1 y.2 l rfl
   cases e'
   simp; omega
 | pbad => intro x' g1' j' e'; cases e'
 | rep d g i g1 j x q _ r ih =>
  intro x' g1' j' e'
  cases q with
  | bad l => cases e'
  | ok y l =>
   cases e'
   have h1 := ih x g1 j rfl
   have h2 := r.ok
   simp at h1 ⊢; omega
 | sbad => intro x' g1' j' e'; cases e'
 | deep => intro x' g1' j' e'; cases e'
 | grp d g i g1 j x e o _ c ih => intro x' g1' j' e'; cases e'; have := ih x g1 j rfl; have := A j (by omega); simp; omega
 | gopen => intro x' g1' j' e'; cases e'
 | gbad => intro x' g1' j' e'; cases e'
 | set d g i q e r =>
  intro x' g1' j' e'
  have := A i (by omega)
  cases q with
  | bad l => cases e'
  | ok y l =>
   cases e'
   have hU : ∀ {i f j}, SetU s i (.ok f j) → i < j ∧ j ≤ s.size := by
    intro i f j hu
    have hL : ∀ {f i q}, SetL s f i q → ∀ f' j, q = .ok f' j → i < j ∧ j ≤ s.size := by
     intro f i q hl
     induction hl with
     | done f i e => intro f' j e'; cases e'; have := A i (by omega); omega
     | more f r i j q e e2 _ ih => intro f' j' e'; have := ih f' j' e'; have := rangeS_ok e2; omega
     | bad => intro f' j e'; cases e'
    cases hu with
    | go r _ j' _ e hl => have := rangeS_ok e; have := hL hl f j rfl; omega
   rcases r with ⟨e94, q', hq, hm⟩ | ⟨_, hq⟩
   ·cases q' with
    | bad l => cases hm
    | ok f l => cases hm; have := hU hq; simp; omega
   ·have := hU hq; simp; omega
 | dot d g i e => intro x' g1' j' e'; cases e'; have := A i (by omega); simp; omega
 | esc d g i e =>
  intro x' g1' j' e'
  have := A i (by omega)
  cases r : escS s 0 (i + 1) with
  | bad l => rw [r] at e'; cases e'
  | ok y l => rw [r] at e'; cases e'; have := escS_ok r; simp; omega
 | no => intro x' g1' j' e'; cases e'
 | lit d g i a => intro x' g1' j' e'; cases e'; have := A i (by omega); simp; omega
structure Nd where
 kind : Nat
 f : Nat → Bool
 n : Nat
 mn : Nat
 mx : Int
 kids : List Nat
def ListN (nds : List Nd) (kind : Nat) (l : List Nat) (c : Nat) : Prop := l = [c] ∨ (l.length ≠ 1 ∧ ∃ nd, nds[c]? = some nd ∧ nd.kind = kind ∧ nd.kids = l)
def rep (nds : List Nd) : Pat → List Nat → Prop
 | .set f, l => ∃ k nd, l = [k] ∧ nds[k]? = some nd ∧ nd.kind = 98 ∧ nd.kids = [] ∧ ∀ n, n < 256 → nd.f n = f n
 | .grp j x, l => ∃ k nd c lw, l = [k] ∧ nds[k]? = some nd ∧ nd.kind = 103 ∧ nd.n = j ∧ nd.kids = [c] ∧ rep nds x lw ∧ ListN nds 111 lw c
 | .rep mn mx x, l => ∃ k nd c, l = [k] ∧ nds[k]? = some nd ∧ nd.kind = 114 ∧ nd.mn = mn ∧ nd.mx = mx ∧ nd.kids = [c] ∧ rep nds x [c]
 | .pnil, l => l = []
 | .pcons x r, l => ∃ k l', l = k :: l' ∧ rep nds x [k] ∧ rep nds r l'
 | .wone x, l => ∃ c lp, l = [c] ∧ rep nds x lp ∧ ListN nds 119 lp c
 | .wcons x r, l => ∃ c lp l', l = c :: l' ∧ (rep nds x lp ∧ ListN nds 119 lp c) ∧ rep nds r l'
end Go.Proofs.YtnfojonmohijpabGreatDoor
namespace Go.Proofs.YtnfojonmohijpabGreatDoor
open Go.RowKit
def endOf {α : Type} (s : ByteArray) : R α → Nat
 | .ok _ j => j
 | .bad _ => s.size
theorem endOf_le {s : ByteArray} {k : Kd} {d g i : Nat} {q : R (Pat × Nat)} (h : G s k d g i q) (hi : i ≤ s.size) : endOf s q ≤ s.size := by
 cases q with
 | bad j => exact Nat.le_refl _
 | ok x j => exact (h.okb x.1 x.2 j rfl).2.1 hi
end Go.Proofs.YtnfojonmohijpabGreatDoor
namespace Go.Proofs.YtnfojonmohijpabGreatDoor
open Go.RowKit
def app : List Pat → Pat → Pat
 | [], y => y
 | x :: xs, y => .pcons x (app xs y)
theorem app_snoc (xs : List Pat) (x y : Pat) : app (xs ++ [x]) y = app xs (.pcons x y) := by
 induction xs with
 | nil => rfl
 | cons z zs ih => simp only [List.cons_append, app, ih]
def appW : List Pat → Pat → Pat
 | [], y => y
 | x :: xs, y => .wcons x (appW xs y)
theorem appW_snoc (xs : List Pat) (x y : Pat) : appW (xs ++ [x]) y = appW xs (.wcons x y) := by
 induction xs with
 | nil => rfl
 | cons z zs ih => simp only [List.cons_append, appW, ih]
end Go.Proofs.YtnfojonmohijpabGreatDoor
namespace Go.Proofs.YtnfojonmohijpabGreatDoor
open Go.RowKit
def p0 (s : ByteArray) : PS := { s := s, nodes := .slice none 0 0, root := 0, bg := false, en := false, gr := 0, bad := -1, ix := 0, deep := 0 }
end Go.Proofs.YtnfojonmohijpabGreatDoor
namespace Go.Proofs.YtnfojonmohijpabGreatDoor
open Go.RowKit
theorem Keeps.ofGrownNone {w w' : World} (h : w.grownBy w' none) : Keeps [] w w' := ⟨h.os, h.tape, h.output, h.size, fun j hj _ => h.block j hj (by simp)⟩
theorem keepsM {w w1 w2 : World} {S S' : List Nat} (h : Keeps S' w w1) (k : Keeps S w1 w2) (hs : ∀ x, x ∈ S → x ∈ S' ∨ w.heap.size ≤ x) : Keeps S' w w2 :=
 ⟨k.os.trans h.os, k.tape.trans h.tape, k.output.trans h.output, Nat.le_trans h.size k.size, fun j hj hn => (k.block j (Nat.lt_of_lt_of_le hj h.size) (fun hm => by
   rcases hs j hm with h1 | h1
   · exact hn h1
   · omega)).trans (h.block j hj hn)⟩
end Go.Proofs.YtnfojonmohijpabGreatDoor
