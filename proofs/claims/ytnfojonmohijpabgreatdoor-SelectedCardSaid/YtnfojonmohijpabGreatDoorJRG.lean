/-
  DERIVED. The contract of the reference's 'class'. Conditions: the pattern is at most 60 bytes long, nothing was wrong so far.
-/
import Derived.Test.YtnfojonmohijpabGreatDoorJRA
import Derived.Lib.Strings
import Derived.Laws.Rows
import Derived.Test.YtnfojonmohijpabGreatDoorJSpec
import Derived.Deep.RegionHeld3
import Derived.Deep.RegionLaw
import Derived.Deep.AppendLies
import Derived.OwnWalk
import Derived.StillTactics
import Derived.Laws.Pointers
import Derived.KernelRfl
import Derived.Laws.BytesString
set_option linter.unusedSimpArgs false
set_option linter.unusedVariables false
namespace Go.Proofs.YtnfojonmohijpabGreatDoor
open Go.RowKit
def fit1 (word : List UInt8) (c : Int) (n : List UInt8) : Bool := decide (word.length < n.length) && decide (n.take word.length = word) && decide (((n.getD word.length 0).toNat : Int) = c)
def fitTo (word : List UInt8) (c : Int) (k : Nat) : Bool := (names.take k).any (fit1 word c)
theorem fitTo_all (word : List UInt8) (c : Int) : fitTo word c 7 = goesOn word c := rfl
theorem fit1_none (word : List UInt8) (n : List UInt8) : fit1 word (-1) n = false := by
 unfold fit1
 have : ¬ (((n.getD word.length 0).toNat : Int) = -1) := by omega
 simp only [decide_eq_false this, Bool.and_false]
theorem goesOn_none (word : List UInt8) : goesOn word (-1) = false := by
 rw [← fitTo_all]
 unfold fitTo
 simp [fit1_none]
theorem eqX (a b : List UInt8) (n : Nat) : (((nmB a).extract 0 n).toList == (nmB b).toList) = decide (a.take n = b) := by
 rw [ByteArray.toList_eq, ByteArray.toList_eq, nmB_toList]
 have : ((nmB a).extract 0 n).data.toList = a.take n := by
  rw [Lib.extract_data]; simp [nmB]
 rw [this]
 by_cases h : a.take n = b
 ·subst h; simp
 ·simp [h]
theorem get!_eq {s : ByteArray} {i : Nat} (h : i < s.size) : s.get! i = s[i] := by
 obtain ⟨a⟩ := s
 have h' : i < a.size := h
 show a[i]! = a[i]
 exact getElem!_pos a i h'
theorem goesOn_mem {word : List UInt8} {s : ByteArray} {i : Nat} (hg : goesOn word (at' s i) = true) (hw : word.length ≤ 4) (hi : i < s.size) : (word ++ [s.get! i]).length = 5 → word ++ [s.get! i] ∈ names := by
 intro h5
 have h4 : word.length = 4 := by simp at h5; omega
 unfold goesOn at hg
 simp only [List.any_eq_true, Bool.and_eq_true, decide_eq_true_eq] at hg
 obtain ⟨n, hn, ⟨hl, ht⟩, hc⟩ := hg
 have hl5 := names_len n hn
 rw [at'_lt hi] at hc
 have hc' : n.getD word.length 0 = s[i] := by
  apply UInt8.toNat_inj.1
  omega
 have : n = word ++ [s.get! i] := by
  rw [get!_eq hi, ← hc']
  rw [h4] at ht ⊢
  match n, hl5 with
  | [a, b, c, d, e], _ =>
   simp at ht
   rw [← ht]; rfl
 rw [← this]; exact hn
end Go.Proofs.YtnfojonmohijpabGreatDoor
namespace Go.Proofs.YtnfojonmohijpabGreatDoor
open Go.RowKit
def GN (w : World) : Prop := ∃ t fr, w.heap[6]? = some (.cells ncells t fr)
theorem GN.lt {w : World} (H : GN w) : 6 < w.heap.size := by
 obtain ⟨t, fr, h⟩ := H
 exact (Array.getElem?_eq_some_iff.1 h).1
theorem GN.keep {w w' : World} {S : List Nat} (H : GN w) (hk : Keeps S w w') (hb : 6 ∉ S) : GN w' := by
 have hl := H.lt
 obtain ⟨t, fr, h⟩ := H
 exact ⟨t, fr, (hk.block _ hl hb).trans h⟩
theorem idx_n0 (w : World) : (Instr.index 267 (.agg ncells) (.int .i64 0)).run Tryz.prog w = .ok (.string (nmB (nm 0))) w := by kernel_rfl
theorem idx_n1 (w : World) : (Instr.index 267 (.agg ncells) (.int .i64 1)).run Tryz.prog w = .ok (.string (nmB (nm 1))) w := by kernel_rfl
theorem idx_n2 (w : World) : (Instr.index 267 (.agg ncells) (.int .i64 2)).run Tryz.prog w = .ok (.string (nmB (nm 2))) w := by kernel_rfl
theorem idx_n3 (w : World) : (Instr.index 267 (.agg ncells) (.int .i64 3)).run Tryz.prog w = .ok (.string (nmB (nm 3))) w := by kernel_rfl
theorem idx_n4 (w : World) : (Instr.index 267 (.agg ncells) (.int .i64 4)).run Tryz.prog w = .ok (.string (nmB (nm 4))) w := by kernel_rfl
theorem idx_n5 (w : World) : (Instr.index 267 (.agg ncells) (.int .i64 5)).run Tryz.prog w = .ok (.string (nmB (nm 5))) w := by kernel_rfl
theorem idx_n6 (w : World) : (Instr.index 267 (.agg ncells) (.int .i64 6)).run Tryz.prog w = .ok (.string (nmB (nm 6))) w := by kernel_rfl
theorem idx_names {k : Nat} (hk : k < 7) (w : World) : (Instr.index 267 (.agg ncells) (.int .i64 (k : Int))).run Tryz.prog w = .ok (.string (nmB (nm k))) w :=
 match k, hk with
 | 0, _ => idx_n0 w
 | 1, _ => idx_n1 w
 | 2, _ => idx_n2 w
 | 3, _ => idx_n3 w
 | 4, _ => idx_n4 w
 | 5, _ => idx_n5 w
 | 6, _ => idx_n6 w
set_option maxRecDepth 100000 in
set_option maxHeartbeats 400000 in
theorem isClass_any (word : List UInt8) (w : World) (hg : GN w) :
    Calls Tryz.prog 190 #[.string (nmB word)] w fun e w' => e = .returned (.bool (decide (word ∈ names))) ∧ w' = w := by
 obtain ⟨t, fr, hg⟩ := hg
 go_enter Tryz.func190, Tryz.ntmps190
 go_wp2_with (refine wpList_load_row rfl 267 _ rfl 6 rfl t _ fr _ hg Tryz.underlying267 rfl (by kernel_rfl) ?_)
 clear hg
 have hnc : ∀ k : Nat, k < 7 → ∀ w, (Instr.index 267 (.agg ncells) (.int .i64 (k : Int))).run Tryz.prog w = .ok (.string (nmB (nm k))) w := fun k h w => idx_names h w
 generalize ncells = NC at *
 go_loop [6] (fun q => ∃ k : Nat, k ≤ 7 ∧ q = .int .i64 k ∧ Hid (∀ j, j < k → nm j ≠ word)) (fun q => 7 - (intOf q).toNat)
 case atStart => exact ⟨0, by omega, rfl, fun j hj => by omega⟩
 case round =>
  obtain ⟨k, hk7, rfl, hno⟩ := hrel
  by_cases hlt7 : k < 7
  ·have hix := hnc k hlt7
   have hk7i : (k : Int) < 7 := by omega
   have hk7j : (0 : Int) ≤ (k : Int) := by omega
   by_cases heq : nm k = word
   ·have heqb : ((nmB word).toList == (nmB (nm k)).toList) = true := by rw [eqL]; simpa using heq.symm
    have HE : Hid (word ∈ names) := by show word ∈ names; rw [← heq]; exact nm_mem hlt7
    clear heq hnc
    go_wp2
    go_ret
    exact ⟨by rw [decide_eq_true HE.out]; rfl, rfl⟩
   ·have heqb : ((nmB word).toList == (nmB (nm k)).toList) = false := by rw [eqL]; simpa using fun h => heq h.symm
    have HE : Hid (∀ j, j < k + 1 → nm j ≠ word) := fun j hj => by
     by_cases e : j = k
     ·subst e; exact heq
     ·exact hno.out j (by omega)
    clear heq hnc
    go_wp2
    go_round
    case rel => exact ⟨k + 1, by omega, by go_num, HE⟩
    case measure => simp [intOf]; omega
  ·have e : k = 7 := by omega
   subst e
   have HE : Hid (¬ word ∈ names) := by
    show ¬ word ∈ names
    intro hm
    have := find_none hno.out
    rw [List.findIdx?_eq_none_iff] at this
    have := this word hm
    simp at this
   clear hnc
   go_wp2
   go_ret
   exact ⟨by rw [decide_eq_false HE.out]; rfl, rfl⟩
def preB (a b : List UInt8) : Bool := decide (b.length ≤ a.length) && decide (a.take b.length = b)
set_option maxRecDepth 100000 in
set_option maxHeartbeats 400000 in
theorem prefixLite_any (a b : List UInt8) (ha : a.length ≤ 60) (hb : b.length ≤ 60) (w : World) :
    Calls Tryz.prog 135 #[.string (nmB a), .string (nmB b)] w fun e w' => e = .returned (.bool (preB a b)) ∧ w' = w := by
 have hza : (nmB a).size = a.length := nmB_size a
 have hzb : (nmB b).size = b.length := nmB_size b
 by_cases hl : b.length ≤ a.length
 ·have hl2 : ((nmB b).size : Int) ≤ ((nmB a).size : Int) := by omega
  have hl3 : (nmB b).size ≤ (nmB a).size := by omega
  have HX := eqX a b (nmB b).size
  have HP : Hid (preB a b = decide (a.take (nmB b).size = b)) := by show preB a b = _; unfold preB; rw [decide_eq_true hl, hzb]; rfl
  have hA : ((nmB a).size : Int) ≤ 60 := by omega
  have hB : ((nmB b).size : Int) ≤ 60 := by omega
  clear hl hza hzb
  go_enter Tryz.func135, Tryz.ntmps135
  go_wp2
  go_ret
  exact ⟨by rw [HP.out]; first | rfl | (rw [← HX]; rfl), rfl⟩
 ·have hl2 : ¬ ((nmB b).size : Int) ≤ ((nmB a).size : Int) := by omega
  have HP : Hid (preB a b = false) := by show preB a b = _; unfold preB; rw [decide_eq_false hl]; rfl
  have hA : ((nmB a).size : Int) ≤ 60 := by omega
  have hB : ((nmB b).size : Int) ≤ 60 := by omega
  clear hl hza hzb
  go_enter Tryz.func135, Tryz.ntmps135
  go_wp2
  go_ret
  exact ⟨by rw [HP.out]; rfl, rfl⟩
set_option maxHeartbeats 400000 in
theorem prefix_any (a b : List UInt8) (ha : a.length ≤ 60) (hb : b.length ≤ 60) (w : World) :
    Calls Tryz.prog 113 #[.string (nmB a), .string (nmB b)] w fun e w' => e = .returned (.bool (preB a b)) ∧ w' = w := by
 go_enter Tryz.func113, Tryz.ntmps113
 go_wp2_with (go_at_call 135; refine (prefixLite_any a b ha hb _).mono ?_; rintro e w' ⟨rfl, rfl⟩)
 go_ret
 exact ⟨rfl, rfl⟩
def begB (b : List UInt8) : Bool := names.any fun n => preB n b
theorem begB_false {b : List UInt8} (h : ∀ j, j < 7 → preB (nm j) b = false) : begB b = false := by
 unfold begB
 rw [List.any_eq_false]
 intro n hn
 obtain ⟨j, hj, rfl⟩ := List.mem_iff_getElem.1 hn
 have hj7 : j < 7 := by rw [names_count] at hj; exact hj
 rw [← nm_get hj7, h j hj7]; simp
theorem begB_true {b : List UInt8} {j : Nat} (hj : j < 7) (h : preB (nm j) b = true) : begB b = true := by
 unfold begB
 rw [List.any_eq_true]
 exact ⟨nm j, nm_mem hj, h⟩
set_option maxRecDepth 100000 in
set_option maxHeartbeats 400000 in
theorem begins_any (word : List UInt8) (hw : word.length ≤ 60) (w : World) (hg : GN w) :
    Calls Tryz.prog 192 #[.string (nmB word)] w fun e w' => e = .returned (.bool (begB word)) ∧ w' = w := by
 obtain ⟨t, fr, hg⟩ := hg
 go_enter Tryz.func192, Tryz.ntmps192
 go_wp2_with (refine wpList_load_row rfl 267 _ rfl 6 rfl t _ fr _ hg Tryz.underlying267 rfl (by kernel_rfl) ?_)
 clear hg
 have hnc : ∀ k : Nat, k < 7 → ∀ w, (Instr.index 267 (.agg ncells) (.int .i64 (k : Int))).run Tryz.prog w = .ok (.string (nmB (nm k))) w := fun k h w => idx_names h w
 generalize ncells = NC at *
 go_loop [6] (fun q => ∃ k : Nat, k ≤ 7 ∧ q = .int .i64 k ∧ Hid (∀ j, j < k → preB (nm j) word = false)) (fun q => 7 - (intOf q).toNat)
 case atStart => exact ⟨0, by omega, rfl, fun j hj => by omega⟩
 case round =>
  obtain ⟨k, hk7, rfl, hno⟩ := hrel
  by_cases hlt7 : k < 7
  ·have hix := hnc k hlt7
   have hk7i : (k : Int) < 7 := by omega
   have hk7j : (0 : Int) ≤ (k : Int) := by omega
   have PX := fun w => prefix_any (nm k) word (by rw [nm_len hlt7]; omega) hw w
   cases heq : preB (nm k) word
   ·have HE : Hid (∀ j, j < k + 1 → preB (nm j) word = false) := fun j hj => by
       by_cases e : j = k
       ·subst e; exact heq
       ·exact hno.out j (by omega)
    rw [heq] at PX
    clear heq hnc
    go_wp2_with (go_at_call 113; refine (PX _).mono ?_; rintro e w' ⟨rfl, rfl⟩)
    go_round
    case rel => exact ⟨k + 1, by omega, by go_num, HE⟩
    case measure => simp [intOf]; omega
   ·have HE : Hid (begB word = true) := begB_true hlt7 heq
    rw [heq] at PX
    clear heq hnc
    go_wp2_with (go_at_call 113; refine (PX _).mono ?_; rintro e w' ⟨rfl, rfl⟩)
    go_ret
    exact ⟨by rw [HE.out]; rfl, rfl⟩
  ·have e : k = 7 := by omega
   subst e
   have HE : Hid (begB word = false) := begB_false hno.out
   clear hnc
   go_wp2
   go_ret
   exact ⟨by rw [HE.out]; rfl, rfl⟩
theorem preB_snoc (n word : List UInt8) (c : UInt8) : preB n (word ++ [c]) = fit1 word (c.toNat : Int) n := by
 unfold preB fit1
 by_cases hl : word.length < n.length
 ·have h1 : (word ++ [c]).length ≤ n.length := by simp; omega
  rw [decide_eq_true hl, decide_eq_true h1, Bool.true_and, Bool.true_and]
  have e : n.take (word ++ [c]).length = n.take word.length ++ [n.getD word.length 0] := by
   rw [List.length_append, List.length_singleton, List.take_succ_eq_append_getElem hl, List.getD_eq_getElem?_getD, List.getElem?_eq_getElem hl]; rfl
  rw [e]
  by_cases h2 : n.take word.length = word
  ·rw [decide_eq_true h2, Bool.true_and, h2]
   by_cases h3 : n.getD word.length 0 = c
   ·rw [h3]; simp
   ·have : ¬ ((n.getD word.length 0).toNat : Int) = (c.toNat : Int) := fun h => h3 (UInt8.toNat_inj.1 (by omega))
    rw [decide_eq_false this]
    simp only [decide_eq_false_iff_not]
    intro h
    have := List.append_cancel_left h
    simp at this
    exact h3 (by simpa using this)
  ·rw [decide_eq_false h2, Bool.false_and]
   simp only [decide_eq_false_iff_not]
   intro h
   exact h2 (List.append_inj_left' h rfl)
 ·have h1 : ¬ (word ++ [c]).length ≤ n.length := by simp; omega
  rw [decide_eq_false hl, decide_eq_false h1]; rfl
theorem begB_snoc (word : List UInt8) (c : UInt8) : begB (word ++ [c]) = goesOn word (c.toNat : Int) := by
 unfold begB
 show _ = names.any (fit1 word (c.toNat : Int))
 congr 1
 funext n
 exact preB_snoc n word c
end Go.Proofs.YtnfojonmohijpabGreatDoor
namespace Go.Proofs.YtnfojonmohijpabGreatDoor
open Go.RowKit
def cellInt (w : World) (b o : Nat) : Int := match w.cell? ⟨b, o, none⟩ with
 | some v => intOf v
 | none => 0
end Go.Proofs.YtnfojonmohijpabGreatDoor
namespace Go.Proofs.YtnfojonmohijpabGreatDoor
open Go.RowKit
theorem _root_.Go.World.ownsRow.setOther {w : World} {base : Nat} {e : TypeId} {size : Nat} {v : Value} {n : Nat} {xs : List Value} (h : w.ownsRow base e size v n xs) {a : Addr} (ha : v.ownBlock ≠ some a.block) (u : Value) : (w.setCell a u).ownsRow base e size v n xs :=
 h.kept (row := some a.block) ⟨rfl, rfl, rfl, by simp, fun k _ hk => Below.heap_setCell _ _ _ _ (by intro e; exact hk (by rw [e]))⟩ (Or.inr ha)
theorem _root_.Go.World.ownsRow.keep {w w' : World} {base : Nat} {e : TypeId} {size : Nat} {v : Value} {n : Nat} {xs : List Value} {S : List Nat} (h : w.ownsRow base e size v n xs) (hk : Keeps S w w') (hs : ∀ g, v.ownBlock = some g → g ∉ S) : w'.ownsRow base e size v n xs := by
 refine ⟨h.1, ?_⟩
 rcases h.2 with hn | ⟨g, cap, cur, rfl, hb, hgg, rest⟩
 ·exact .inl hn
 ·refine .inr ⟨g, cap, cur, rfl, hb, ?_, rest⟩
  rw [hk.block g (Array.getElem?_eq_some_iff.1 hgg).1 (hs g rfl)]
  exact hgg
end Go.Proofs.YtnfojonmohijpabGreatDoor
namespace Go.Proofs.YtnfojonmohijpabGreatDoor
open Go.RowKit
theorem G.okb {s : ByteArray} {k : Kd} {d g i : Nat} {q : R (Pat × Nat)} (h : G s k d g i q) : ∀ x g1 j, q = .ok (x, g1) j → i ≤ j ∧ (i ≤ s.size → j ≤ s.size) ∧ (k = .piece ∨ k = .single → i < j) ∧ g ≤ g1 ∧ (g ≤ 9 → g1 ≤ 9) := by
 have A : ∀ i, 0 ≤ at' s i → i < s.size := fun i hi => at'_nn hi
 induction h with
 | one d g i g1 j x _ e ih => intro x' g1' j' e'; cases e'; have := ih x g1 j rfl; simp; omega
 | more d g i g1 j x q _ e _ ih ih2 =>
  intro x' g1' j' e'
  cases q with
  | bad l => cases e'
  | ok y l =>
   have h1 := ih x g1 j rfl
   have h2 := ih2 y.1 y.2 l rfl
   cases e'
   have := A j (by omega)
   simp; omega
 | wbad => intro x' g1' j' e'; cases e'
 | nil d g i e => intro x' g1' j' e'; cases e'; simp
 | cons d g i g1 j x q e _ _ ih ih2 =>
  intro x' g1' j' e'
  cases q with
  | bad l => cases e'
  | ok y l =>
   have h1 := ih x g1 j rfl
   have h2 := ih2 y.1 y.2 l rfl
   cases e'
   simp; omega
 | pbad => intro x' g1' j' e'; cases e'
 | rep d g i g1 j x q _ r ih =>
  intro x' g1' j' e'
  cases q with
  | bad l => cases e'
  | ok y l =>
   cases e'
   have h1 := ih x g1 j rfl
   have h2 := r.ok
   simp at h1 ⊢; omega
 | sbad => intro x' g1' j' e'; cases e'
 | deep => intro x' g1' j' e'; cases e'
 | grp d g i g1 j x e o _ c ih => intro x' g1' j' e'; cases e'; have := ih x g1 j rfl; have := A j (by omega); simp; omega
 | gopen => intro x' g1' j' e'; cases e'
 | gbad => intro x' g1' j' e'; cases e'
 | set d g i q e r =>
  intro x' g1' j' e'
  have := A i (by omega)
  cases q with
  | bad l => cases e'
  | ok y l =>
   cases e'
   have hU : ∀ {i f j}, SetU s i (.ok f j) → i < j ∧ j ≤ s.size := by
    intro i f j hu
    have hL : ∀ {f i q}, SetL s f i q → ∀ f' j, q = .ok f' j → i < j ∧ j ≤ s.size := by
     intro f i q hl
     induction hl with
     | done f i e => intro f' j e'; cases e'; have := A i (by omega); omega
     | more f r i j q e e2 _ ih => intro f' j' e'; have := ih f' j' e'; have := rangeS_ok e2; omega
     | bad => intro f' j e'; cases e'
    cases hu with
    | go r _ j' _ e hl => have := rangeS_ok e; have := hL hl f j rfl; omega
   rcases r with ⟨e94, q', hq, hm⟩ | ⟨_, hq⟩
   ·cases q' with
    | bad l => cases hm
    | ok f l => cases hm; have := hU hq; simp; omega
   ·have := hU hq; simp; omega
 | dot d g i e => intro x' g1' j' e'; cases e'; have := A i (by omega); simp; omega
 | esc d g i e =>
  intro x' g1' j' e'
  have := A i (by omega)
  cases r : escS s 0 (i + 1) with
  | bad l => rw [r] at e'; cases e'
  | ok y l => rw [r] at e'; cases e'; have := escS_ok r; simp; omega
 | no => intro x' g1' j' e'; cases e'
 | lit d g i a => intro x' g1' j' e'; cases e'; have := A i (by omega); simp; omega
structure Nd where
 kind : Nat
 f : Nat → Bool
 n : Nat
 mn : Nat
 mx : Int
 kids : List Nat
def ListN (nds : List Nd) (kind : Nat) (l : List Nat) (c : Nat) : Prop := l = [c] ∨ (l.length ≠ 1 ∧ ∃ nd, nds[c]? = some nd ∧ nd.kind = kind ∧ nd.kids = l)
def rep (nds : List Nd) : Pat → List Nat → Prop
 | .set f, l => ∃ k nd, l = [k] ∧ nds[k]? = some nd ∧ nd.kind = 98 ∧ nd.kids = [] ∧ ∀ n, n < 256 → nd.f n = f n
 | .grp j x, l => ∃ k nd c lw, l = [k] ∧ nds[k]? = some nd ∧ nd.kind = 103 ∧ nd.n = j ∧ nd.kids = [c] ∧ rep nds x lw ∧ ListN nds 111 lw c
 | .rep mn mx x, l => ∃ k nd c, l = [k] ∧ nds[k]? = some nd ∧ nd.kind = 114 ∧ nd.mn = mn ∧ nd.mx = mx ∧ nd.kids = [c] ∧ rep nds x [c]
 | .pnil, l => l = []
 | .pcons x r, l => ∃ k l', l = k :: l' ∧ rep nds x [k] ∧ rep nds r l'
 | .wone x, l => ∃ c lp, l = [c] ∧ rep nds x lp ∧ ListN nds 119 lp c
 | .wcons x r, l => ∃ c lp l', l = c :: l' ∧ (rep nds x lp ∧ ListN nds 119 lp c) ∧ rep nds r l'
end Go.Proofs.YtnfojonmohijpabGreatDoor
namespace Go.Proofs.YtnfojonmohijpabGreatDoor
open Go.RowKit
def endOf {α : Type} (s : ByteArray) : R α → Nat
 | .ok _ j => j
 | .bad _ => s.size
theorem endOf_le {s : ByteArray} {k : Kd} {d g i : Nat} {q : R (Pat × Nat)} (h : G s k d g i q) (hi : i ≤ s.size) : endOf s q ≤ s.size := by
 cases q with
 | bad j => exact Nat.le_refl _
 | ok x j => exact (h.okb x.1 x.2 j rfl).2.1 hi
end Go.Proofs.YtnfojonmohijpabGreatDoor
namespace Go.Proofs.YtnfojonmohijpabGreatDoor
open Go.RowKit
def app : List Pat → Pat → Pat
 | [], y => y
 | x :: xs, y => .pcons x (app xs y)
theorem app_snoc (xs : List Pat) (x y : Pat) : app (xs ++ [x]) y = app xs (.pcons x y) := by
 induction xs with
 | nil => rfl
 | cons z zs ih => simp only [List.cons_append, app, ih]
def appW : List Pat → Pat → Pat
 | [], y => y
 | x :: xs, y => .wcons x (appW xs y)
theorem appW_snoc (xs : List Pat) (x y : Pat) : appW (xs ++ [x]) y = appW xs (.wcons x y) := by
 induction xs with
 | nil => rfl
 | cons z zs ih => simp only [List.cons_append, appW, ih]
end Go.Proofs.YtnfojonmohijpabGreatDoor
namespace Go.Proofs.YtnfojonmohijpabGreatDoor
open Go.RowKit
def byteV (u : UInt8) : Value := .int .u8 (u.toNat : Int)
def BY (w : World) (base : Nat) (v : Value) (word : List UInt8) : Prop := w.ownsRow base 5 1 v word.length (word.map byteV)
theorem push_bytes (l : List UInt8) (s : ByteArray) : (l.map fun u => (u.toNat : Int)).foldl (fun r n => r.push (UInt8.ofNat n.toNat)) s = s ++ nmB l := by
 induction l generalizing s with
 | nil =>
  apply ByteArray.ext
  simp [nmB, ByteArray.data_append]
 | cons u l ih =>
  rw [List.map_cons, List.foldl_cons, ih]
  apply ByteArray.ext
  apply Array.ext'
  simp [nmB, ByteArray.data_append, ByteArray.data_push]
theorem conv_name (w : World) (base : Nat) (v : Value) (word : List UInt8) (h : BY w base v word) : (convert 44 9 v).run Tryz.prog w = .ok (.string (nmB word)) w := by
 have hl := h.1
 rcases h.2 with ⟨rfl, hn⟩ | ⟨g, cap, cur, rfl, hb, hgg, hnc, hcm, hcs, htk⟩
 ·have : word = [] := List.length_eq_zero_iff.1 hn
  subst this
  rw [run_convert_bytes_string w _ _ 5 none 0 0 Tryz.underlying44 Tryz.underlying5 Tryz.underlying9]
  rfl
 ·rw [run_convert_bytes_string w _ _ 5 _ _ _ Tryz.underlying44 Tryz.underlying5 Tryz.underlying9]
  have hld : (loadCells ⟨g, 0, none⟩ word.length).run Tryz.prog w = .ok ((word.map fun u => (u.toNat : Int)).map (Value.int .u8)).toArray w := by
   have := run_loadCells_list (P := Tryz.prog) w ⟨g, 0, none⟩ (word.map byteV) (World.ownsRow.cells h rfl)
   rw [List.length_map] at this
   rw [this, List.map_map]
   rfl
  rw [run_bytesToString w _ _ _ _ hld, push_bytes]
  congr 2
theorem BY.keep {w w' : World} {base : Nat} {v : Value} {word : List UInt8} {S : List Nat} (h : BY w base v word) (hk : Keeps S w w') (hs : ∀ g, v.ownBlock = some g → g ∉ S) : BY w' base v word := World.ownsRow.keep h hk hs
theorem conv_one (w : World) (u : UInt8) : (convert 44 9 (.slice (some ⟨w.heap.size, 0, none⟩) 1 1)).run Tryz.prog (w.alloc (.cells #[.int .u8 (u.toNat : Int)] 5)) = .ok (.string (nmB [u])) (w.alloc (.cells #[.int .u8 (u.toNat : Int)] 5)) :=
 conv_name _ 0 _ [u] ⟨by simp, Or.inr ⟨_, 1, #[.int .u8 (u.toNat : Int)], rfl, Nat.zero_le _, heap_alloc_new w _, Nat.le_refl _, by decide, rfl, rfl⟩⟩
theorem nmB_append (a b : List UInt8) : nmB a ++ nmB b = nmB (a ++ b) := by
 apply ByteArray.ext
 simp [nmB, ByteArray.data_append]
set_option maxRecDepth 100000 in
set_option maxHeartbeats 1000000 in
theorem cls1_any (u : UInt8) (nb base : Nat) (v : Value) (word : List UInt8) (hw : word.length ≤ 10) (w : World) (hc : w.cell? ⟨nb, 0, none⟩ = some v) (hby : BY w base v word) (hg : GN w) :
    Calls Tryz.prog 191 #[.int .u8 (u.toNat : Int), .pointer (some ⟨nb, 0, none⟩)] w fun e w' => e = .returned (.bool (goesOn word (u.toNat : Int))) ∧ Keeps [] w w' := by
 have hcv := conv_name w base v word hby
 have hc1 := fun w => conv_one w u
 have hsz : ¬ 9223372036854775807 < (nmB word).size + (nmB [u]).size := by rw [nmB_size, nmB_size]; simp; omega
 have hap := nmB_append word [u]
 have hg2 : GN (w.alloc (.cells #[.int .u8 (u.toNat : Int)] 5)) := hg.keep ((Keeps.refl [] w).alloc _) (by simp)
 have BE := begins_any (word ++ [u]) (by simp; omega) _ hg2
 rw [begB_snoc, ← hap] at BE
 clear hap hg2
 go_enter Tryz.func191, Tryz.ntmps191
 go_wp2_with (go_at_call 192; refine BE.mono ?_; rintro e w' ⟨rfl, rfl⟩)
 go_ret
 exact ⟨rfl, (Keeps.refl [] w).alloc _⟩
theorem cf_cls1 (args : Array Value) (w : World) : (callFunc 191 args).run Tryz.prog w = .ok (.enter 191 args) w := by kernel_rfl
theorem may_cls1 (u : UInt8) (nb base : Nat) (v : Value) (word : List UInt8) (hw : word.length ≤ 10) (w : World) (hc : w.cell? ⟨nb, 0, none⟩ = some v) (hby : BY w base v word) (hg : GN w) :
    May 191 #[.pointer (some ⟨nb, 0, none⟩)] (u.toNat : Int) (goesOn word (u.toNat : Int)) w :=
 ⟨cf_cls1, fun w1 hk => cls1_any u nb base v word hw w1 (keep_cell hk hc) (hby.keep hk (by simp)) (hg.keep hk (by simp))⟩
end Go.Proofs.YtnfojonmohijpabGreatDoor
namespace Go.Proofs.YtnfojonmohijpabGreatDoor
open Go.RowKit
def lenV : Value → Nat
 | .slice _ n _ => n
 | _ => 0
def muN (w : World) (nb : Nat) : Nat := 6 - (match w.cell? ⟨nb, 0, none⟩ with | some v => lenV v | none => 0)
theorem BY.len {w : World} {base : Nat} {v : Value} {word : List UInt8} (h : BY w base v word) : lenV v = word.length := by
 rcases h.2 with ⟨rfl, hn⟩ | ⟨g, cap, cur, rfl, _⟩
 ·exact hn.symm
 ·rfl
theorem muN_eq {w : World} {nb base : Nat} {v : Value} {word : List UInt8} (hc : w.cell? ⟨nb, 0, none⟩ = some v) (h : BY w base v word) : muN w nb = 6 - word.length := by
 unfold muN; rw [hc]; simp only [h.len]
structure CN (p : QS) (b nb : Nat) (w wr : World) (v : Value) (word : List UInt8) (i : Nat) : Prop where
 qb : QB wr b { p with ix := i }
 cell : wr.cell? ⟨nb, 0, none⟩ = some v
 fro : wr.frozen? ⟨nb, 0, none⟩ = false
 bytes : BY wr (nb + 1) v word
 gn : GN wr
 keep : Keeps [b] w wr
 ile : i ≤ p.s.size
 wl : word.length ≤ 5
 w5 : word.length = 5 → word ∈ names
 spec : clsS p.s 6 [] p.ix = clsS p.s (6 - word.length) word i
def NPost (b : Nat) (p : QS) (w : World) (r : R Nat) (e : Ending) (w' : World) : Prop :=
 Keeps [b] w w' ∧ match r with
  | .ok k j => e = .returned (.string (nmB (nm k))) ∧ QB w' b { p with ix := j }
  | .bad j => e = fault j
theorem Keeps.fresh {S S' : List Nat} {a w w' : World} (h : Keeps S a w) (k : Keeps S' w w') (hs : ∀ x, x ∈ S' → x ∈ S ∨ a.heap.size ≤ x) : Keeps S a w' :=
 ⟨k.os.trans h.os, k.tape.trans h.tape, k.output.trans h.output, Nat.le_trans h.size k.size, fun j hj hn => (k.block j (Nat.lt_of_lt_of_le hj h.size) (fun hm => (hs j hm).elim hn (fun hh => Nat.lt_irrefl _ (Nat.lt_of_lt_of_le hj hh)))).trans (h.block j hj hn)⟩
theorem Keeps.ofGrown {w w' : World} {v : Value} (h : w.grownBy w' v.ownBlock) : Keeps v.ownBlock.toList w w' :=
 ⟨h.os, h.tape, h.output, h.size, fun j hj hnj => h.block j hj (by intro e; apply hnj; rw [← e]; simp)⟩
theorem CN.next {p : QS} {b nb : Nat} {w w3 w4 : World} {v : Value} {word : List UInt8} {i g cap : Nat} {u : UInt8} (hk : Keeps [b] w w3) (hq : QB w3 b { p with ix := i + 1 }) (hg3 : GN w3) (hb3 : BY w3 (nb + 1) v word)
    (hc3 : w3.cell? ⟨nb, 0, none⟩ = some v) (hnb : b < nb) (hgl : 6 < nb) (hw : w.heap.size = nb)
    (hown : w4.ownsRow (nb + 1) 5 1 (.slice (some ⟨g, 0, none⟩) (word.length + 1) cap) (word.length + 1) (word.map byteV ++ [byteV u])) (hgrow : (w3.alloc (.cells #[byteV u] 5)).grownBy w4 v.ownBlock)
    (hf4 : w4.frozen? ⟨nb, 0, none⟩ = false) (hilt : i < p.s.size) (hwl : word.length ≤ 4) (h5 : (word ++ [u]).length = 5 → word ++ [u] ∈ names) (hsp : clsS p.s 6 [] p.ix = clsS p.s (5 - word.length) (word ++ [u]) (i + 1)) :
    CN p b nb w (w4.setCell ⟨nb, 0, none⟩ (.slice (some ⟨g, 0, none⟩) (word.length + 1) cap)) (.slice (some ⟨g, 0, none⟩) (word.length + 1) cap) (word ++ [u]) (i + 1) := by
 have hvlt := World.ownsRow.lt hb3
 have hnb3 := World.block_lt_of_cell? w3 _ hc3
 have hg4 := (World.ownsRow.lt hown g rfl)
 have hkA : Keeps v.ownBlock.toList w3 w4 := ((Keeps.refl _ w3).alloc (.cells #[byteV u] 5)).trans (Keeps.ofGrown hgrow)
 have hkB : Keeps (nb :: v.ownBlock.toList) w3 (w4.setCell ⟨nb, 0, none⟩ (.slice (some ⟨g, 0, none⟩) (word.length + 1) cap)) := (hkA.mono (by intro x hx; exact List.mem_cons_of_mem _ hx)).setCell (by simp) _
 have hfar : ∀ x, x ≤ nb → x ∉ v.ownBlock.toList := by
  intro x hx hm
  rw [Option.mem_toList] at hm
  have := (hvlt x hm).1
  omega
 have hnbk : w4.cell? ⟨nb, 0, none⟩ = some v := (World.cell?_of_block (hkA.block nb hnb3 (hfar nb (Nat.le_refl _)))).trans hc3
 refine ⟨hq.keep hkB ?_, ?_, ?_, ?_, hg3.keep hkB ?_, hk.fresh hkB ?_, hilt, by simp; omega, h5, ?_⟩
 ·simp only [List.mem_cons, not_or]; exact ⟨by omega, hfar b (by omega)⟩
 ·exact World.cell?_setCell_same _ _ _ hnbk
 ·rw [World.frozen?_setCell]; exact hf4
 ·have := World.ownsRow.setOther hown (a := ⟨nb, 0, none⟩) (by simp [Value.ownBlock]; omega) (.slice (some ⟨g, 0, none⟩) (word.length + 1) cap)
  unfold BY
  rw [List.length_append, List.map_append]
  exact this
 ·simp only [List.mem_cons, not_or]; exact ⟨by omega, hfar _ (by omega)⟩
 ·intro x hx
  right
  rcases List.mem_cons.1 hx with rfl | hx
  ·omega
  ·rw [Option.mem_toList] at hx
   have := (hvlt x hx).1
   omega
 ·rw [hsp, List.length_append, List.length_singleton]; congr 1; omega
theorem first_name {word : List UInt8} (h : word ∈ names) : ∃ k, k < 7 ∧ nm k = word ∧ ∀ j, j < k → nm j ≠ word := by
 have key : ∀ k j : Fin 7, nm k = nm j → k = j := by decide
 obtain ⟨k, hk, rfl⟩ := List.mem_iff_getElem.1 h
 have hk7 : k < 7 := by rw [names_count] at hk; exact hk
 refine ⟨k, hk7, nm_get hk7, fun j hj e => ?_⟩
 have := key ⟨k, hk7⟩ ⟨j, by omega⟩ ((nm_get hk7).trans e.symm)
 have := congrArg Fin.val this
 simp at this
 omega
theorem Tryz.infoByte : (Tryz.prog.info? 5).map (fun i => (i.zero, i.size, i.bytes)) = some (some (.int .u8 0), 1, 1) := by kernel_rfl
theorem frozen_keep_b {w w' : World} {b : Nat} (h : Keeps [b] w w') {a : Addr} {v : Value} (hb : a.block ≠ b) (hc : w.cell? a = some v) (hf : w.frozen? a = false) : w'.frozen? a = false :=
 (World.frozen?_of_block (h.block a.block (World.block_lt_of_cell? w a hc) (by simpa using hb))).trans hf
set_option maxRecDepth 100000 in
set_option maxHeartbeats 2000000 in
theorem className_prog (b : Nat) (p : QS) (w : World) (hp : QB w b p) (hs : p.s.size ≤ 60) (hle : p.ix ≤ p.s.size) (hg : GN w) (hbg : b ≠ 6) :
    Calls Tryz.prog 181 #[.pointer (some ⟨b, 0, none⟩)] w (NPost b p w (clsS p.s 6 [] p.ix)) := by
 obtain ⟨i0, hi0, hz0, hz1, hz2⟩ := info_parts Tryz.infoByte
 have hmf : ∀ (fn : Fn) (first cap : Array Value) (w : World), (Instr.makeFunc fn first cap).run Tryz.prog w = .ok (.func fn first cap) w := fun _ _ _ _ => rfl
 have hbl := hp.lt
 have hgl := hg.lt
 go_enter Tryz.func181, Tryz.ntmps181
 go_wp2_with fail
 have C0 : CN p b w.heap.size w (w.alloc (.cells #[.slice none 0 0] 44)) (.slice none 0 0) [] p.ix :=
  ⟨hp.keep ((Keeps.refl [] w).alloc _) (by simp), by simp, by simp, World.ownsRow_nil _ _ _ _, hg.keep ((Keeps.refl [] w).alloc _) (by simp), (Keeps.refl [b] w).alloc _, hle, by simp, by simp, rfl⟩
 have hnb : w.heap.size ≠ b := by omega
 have hnb0 : w.heap.size < (w.alloc (.cells #[.slice none 0 0] 44)).heap.size := by simp
 generalize hnbq : w.heap.size = nb at *
 generalize (w.alloc (.cells #[.slice none 0 0] 44)) = W at *
 go_loopw [4] (fun _ wr => ∃ v word i, CN p b nb w wr v word i) (fun _ wr => muN wr nb)
 case atStart => exact ⟨_, _, _, C0⟩
 case round =>
  clear C0
  obtain ⟨v, word, i, C⟩ := hrel
  have hcv := conv_name _ _ _ _ C.bytes
  have hc := C.cell
  have hf := C.fro
  by_cases hm : word ∈ names
  ·have IC := isClass_any word _ C.gn
   rw [decide_eq_true hm] at IC
   go_wp2_with (go_at_call 190; refine IC.mono ?_; rintro e w' ⟨rfl, rfl⟩)
   go_ret
   obtain ⟨k, hk7, hkw⟩ : ∃ k, k < 7 ∧ nm k = word ∧ ∀ j, j < k → nm j ≠ word := first_name hm
   have hr : clsS p.s 6 [] p.ix = .ok k i := by
    rw [C.spec, show 6 - word.length = 1 from by rw [← hkw.1, nm_len hk7], clsS, find_some hk7 hkw.2 hkw.1]
   refine ⟨C.keep, ?_⟩
   rw [hr]
   exact ⟨by rw [hkw.1]; rfl, C.qb⟩
  ·have IC := isClass_any word _ C.gn
   rw [decide_eq_false hm] at IC
   have hw4 : word.length ≤ 4 := by
    have := C.wl
    have h5 := C.w5
    by_cases h : word.length = 5
    ·exact absurd (h5 h) hm
    ·omega
   have HS : Hid (clsS p.s 6 [] p.ix = if goesOn word (at' p.s i) then clsS p.s (5 - word.length) (word ++ [p.s.get! i]) (i + 1) else .bad i) := by
    show clsS p.s 6 [] p.ix = _
    rw [C.spec, show 6 - word.length = (5 - word.length) + 1 from by omega, clsS, find_none (by intro j hj h; exact hm (by rw [← h]; exact nm_mem hj))]
   clear hm
   go_wp2_with (go_at_call 190; refine IC.mono ?_; rintro e w' ⟨rfl, rfl⟩)
   have hmay : 0 ≤ at' p.s i → May 191 #[.pointer (some ⟨nb, 0, none⟩)] (at' p.s i) (goesOn word (at' p.s i)) w' := by
    intro h0
    have hlt : i < p.s.size := at'_nn h0
    rw [at'_lt hlt]
    exact may_cls1 _ nb (nb + 1) v word (by omega) _ C.cell C.bytes C.gn
   refine (take_may b { p with ix := i } 191 _ (goesOn word (at' p.s i)) _ C.qb hs C.ile hmay (if 0 ≤ at' p.s i ∧ goesOn word (at' p.s i) = true then .ok (at' p.s i) (i + 1) else .bad i) rfl).mono ?_
   rintro e w3 ⟨hk3, hc3⟩
   by_cases h2 : 0 ≤ at' p.s i ∧ goesOn word (at' p.s i) = true
   ·rw [if_pos h2] at hc3
    obtain ⟨rfl, hq3⟩ := hc3
    have hlt : i < p.s.size := at'_nn h2.1
    have hgo := h2.2
    have HS2 : Hid (clsS p.s 6 [] p.ix = clsS p.s (5 - word.length) (word ++ [p.s.get! i]) (i + 1)) := by show clsS p.s 6 [] p.ix = _; rw [HS.out, if_pos hgo]
    have HW5 : Hid ((word ++ [p.s.get! i]).length = 5 → word ++ [p.s.get! i] ∈ names) := goesOn_mem hgo hw4 hlt
    have hbyte : at' p.s i = ((p.s.get! i).toNat : Int) := by rw [at'_lt hlt, get!_eq hlt]
    have hc4 := keep_cell_b hk3 hnb C.cell
    have hf4 := frozen_keep_b hk3 hnb C.cell C.fro
    have hvlt := World.ownsRow.lt C.bytes
    have hb4 : BY w3 (nb + 1) v word := C.bytes.keep hk3 (by intro g e; have := (hvlt g e).1; simp; omega)
    have hvlt3 := World.ownsRow.lt hb4
    have hg4 := C.gn.keep hk3 (by simp; omega)
    have hlm : word.length + 1 ≤ maxLen := by unfold maxLen; omega
    have hun := Tryz.underlying44
    have hnb3 := World.block_lt_of_cell? w3 _ hc4
    have hnb3' : nb < w3.heap.size := hnb3
    have hvne : v.ownBlock ≠ some nb := by intro e; have := (hvlt nb e).1; omega
    have hk4 := C.keep.trans hk3
    have hmu := muN_eq C.cell C.bytes
    clear h2 hgo HS hcv hc hf hmay C IC
    rw [hbyte]
    generalize p.s.get! i = u at *
    go_wp2_with (first | (at_builtin; refine wpList_append_lies _ rfl _ _ _ rfl (nb + 1) 5 i0 (.int .u8 0) 1 1 hun hi0 hz0 hz1 hz2 rfl (by decide) v word.length _ rfl (World.ownsRow.alloc hb4 _) ⟨w3.heap.size, 0, none⟩ 1 1 [.int .u8 (u.toNat : Int)] rfl rfl (cell_one_new _ _ _) (by simp [Value.oneCell']) (by omega) hlm (by omega) (by simp; omega) (w3.heap.size + 1) (by simp) ?_; intro g cap w4 hown hgrow hat hlt4; have hfz : w4.frozen? ⟨nb, 0, none⟩ = false := (hgrow.frozen_far ⟨nb, 0, none⟩ (by simp; omega) (Ne.symm hvne)).trans ((World.frozen?_alloc_old w3 _ ⟨nb, 0, none⟩ (by simp; omega)).trans hf4); have hcz : w4.cell? ⟨nb, 0, none⟩ = some v := (hgrow.cell_far ⟨nb, 0, none⟩ (by simp; omega) (Ne.symm hvne)).trans ((World.cell?_alloc_old w3 _ ⟨nb, 0, none⟩ (by simp; omega)).trans hc4)))
    have C5 := CN.next hk4 hq3 hg4 hb4 hc4 hbl hgl hnbq hown hgrow hfz hlt hw4 HW5.out HS2.out
    go_roundw
    case rel => exact ⟨_, _, _, C5⟩
    case measure => rw [hmu, muN_eq C5.cell C5.bytes, List.length_append]; simp; omega
   ·rw [if_neg h2] at hc3
    subst hc3
    have hr : clsS p.s 6 [] p.ix = .bad i := by
     rw [HS.out, if_neg]
     intro hgo
     apply h2
     refine ⟨?_, hgo⟩
     by_cases h0 : i < p.s.size
     ·rw [at'_lt h0]; omega
     ·rw [at'_ge (by omega), goesOn_none] at hgo; cases hgo
    simp only [fault]
    exact ⟨rfl, C.keep.trans hk3, by rw [hr]; rfl⟩
end Go.Proofs.YtnfojonmohijpabGreatDoor
namespace Go.Proofs.YtnfojonmohijpabGreatDoor
open Go.RowKit
def HQ (w : World) (h : Nat) (f : Nat → Bool) : Prop := w.heap[h]? = some (.cells (hcells f) 174 (0, 0))
theorem HQ.lt {w : World} {h : Nat} {f : Nat → Bool} (H : HQ w h f) : h < w.heap.size := (Array.getElem?_eq_some_iff.1 H).1
theorem HQ.keep {w w' : World} {h : Nat} {f : Nat → Bool} {S : List Nat} (H : HQ w h f) (hk : Keeps S w w') (hb : h ∉ S) : HQ w' h f := (hk.block h H.lt hb).trans H
theorem HQ.cell {w : World} {h : Nat} {f : Nat → Bool} (H : HQ w h f) {k : Nat} (hk : k < 256) : w.cell? ⟨h, k, none⟩ = some (.bool (f k)) := by
 unfold HQ at H
 simp [World.cell?, H, hcells_get f hk]
theorem HQ.frozen {w : World} {h : Nat} {f : Nat → Bool} (H : HQ w h f) (k : Nat) : w.frozen? ⟨h, k, none⟩ = false := by
 unfold HQ at H
 simp [World.frozen?, H]
theorem HQ.set {w : World} {h : Nat} {f : Nat → Bool} (H : HQ w h f) (k : Nat) (v : Bool) : HQ (w.setCell ⟨h, k, none⟩ (.bool v)) h (fun n => if n = k then v else f n) := by
 unfold HQ at *
 simp [World.setCell, Array.getElem?_modify, H, hcells_set]
theorem hcells_congr {f g : Nat → Bool} (e : ∀ n, n < 256 → f n = g n) : hcells f = hcells g := by
 apply Array.ext_getElem?
 intro i
 by_cases hi : i < 256
 ·rw [hcells_get _ hi, hcells_get _ hi, e i hi]
 ·rw [Array.getElem?_eq_none (by rw [hcells_size]; omega), Array.getElem?_eq_none (by rw [hcells_size]; omega)]
theorem HQ.congr {w : World} {h : Nat} {f g : Nat → Bool} (H : HQ w h f) (e : ∀ n, n < 256 → f n = g n) : HQ w h g := by
 unfold HQ at *
 rw [H, hcells_congr e]
def ranB (a l : Int) (n : Nat) : Bool := decide (a ≤ n) && decide ((n : Int) ≤ l)
set_option maxRecDepth 100000 in
set_option maxHeartbeats 1000000 in
theorem addRange_any (h : Nat) (f : Nat → Bool) (a l : Int) (w : World) (hh : HQ w h f) (ha0 : 0 ≤ a) (ha1 : a ≤ 255) (hl0 : 0 ≤ l) (hl1 : l ≤ 255) :
    Calls Tryz.prog 183 #[.pointer (some ⟨h, 0, none⟩), .int .u8 a, .int .u8 l] w fun e w' => e = .returned (.tuple #[]) ∧ HQ w' h (fun n => f n || ranB a l n) ∧ Keeps [h] w w' := by
 obtain ⟨A, rfl⟩ : ∃ A : Nat, a = A := ⟨a.toNat, by omega⟩
 go_enter Tryz.func183, Tryz.ntmps183
 go_wp2
 go_loopw [6] (fun q wr => ∃ m : Nat, A ≤ m ∧ m ≤ 256 ∧ ((m : Int) ≤ l + 1 ∨ m = A) ∧ q = .int .i64 m ∧ HQ wr h (fun n => f n || ranB A ((m : Int) - 1) n) ∧ Keeps [h] w wr) (fun q _ => 256 - (intOf q).toNat)
 case atStart => exact ⟨A, Nat.le_refl _, by omega, Or.inr rfl, rfl, hh.congr (fun n hn => by have : ranB A ((A : Int) - 1) n = false := by { unfold ranB; by_cases h1 : (A : Int) ≤ n; { rw [decide_eq_false (show ¬ (n : Int) ≤ (A : Int) - 1 by omega), Bool.and_false] }; { rw [decide_eq_false h1, Bool.false_and] } }; rw [this, Bool.or_false]), Keeps.refl _ _⟩
 case round =>
  obtain ⟨m, hAm, hm, hml, rfl, hq, hk⟩ := hrel
  by_cases hlt : (m : Int) ≤ l
  ·have hm255 : m < 256 := by omega
   have hcm := hq.cell hm255
   have hfm := hq.frozen m
   have hm0 : (0 : Int) ≤ (m : Int) := by omega
   have hm1 : (m : Int) ≤ 255 := by omega
   have HN : HQ (wr.setCell ⟨h, m, none⟩ (.bool true)) h (fun n => f n || ranB A (((m + 1 : Nat) : Int) - 1) n) := (hq.set m true).congr fun n hn => by
    unfold ranB
    by_cases e : n = m
    ·subst e
     rw [if_pos rfl, decide_eq_true (show (A : Int) ≤ n by omega), decide_eq_true (show (n : Int) ≤ ((n + 1 : Nat) : Int) - 1 by omega)]; simp
    ·rw [if_neg e]
     congr 2
     rw [decide_eq_decide]; omega
   go_wp2
   go_roundw
   case rel => exact ⟨m + 1, by omega, by omega, Or.inl (by omega), by go_num, HN, hk.setCell (by simp) _⟩
   case measure => simp [intOf]; omega
  ·go_wp2
   go_end0
   refine ⟨rfl, hq.congr fun n hn => ?_, hk⟩
   unfold ranB
   congr 1
   by_cases h1 : (A : Int) ≤ n
   ·rw [decide_eq_true h1]
    congr 1
    rw [decide_eq_decide]; omega
   ·rw [decide_eq_false h1, Bool.false_and, Bool.false_and]
end Go.Proofs.YtnfojonmohijpabGreatDoor
