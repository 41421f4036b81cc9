/-
  DERIVED. Contracts of IsClass and BeginsClass. Conditions: the variable classNames holds the seven names.
-/
import Derived.Test.YtnfojonmohijpaaGreatDoorJPD
import Derived.Test.YtnfojonmohijpaaGreatDoorJRG
import Derived.Laws.Rows
set_option linter.unusedSimpArgs false
set_option linter.unusedVariables false
namespace Go.Proofs.YtnfojonmohijpaaGreatDoor
open Go.RowKit

/-- The package's variable of the classes' names. -/
def GN (w : World) : Prop := ∃ t fr, w.heap[6]? = some (.cells ncells t fr)
theorem GN.lt {w : World} (H : GN w) : 6 < w.heap.size := by
  obtain ⟨t, fr, h⟩ := H
  exact (Array.getElem?_eq_some_iff.1 h).1
theorem GN.keep {w w' : World} {S : List Nat} (H : GN w) (hk : Keeps S w w') (hb : 6 ∉ S) : GN w' := by
  have hl := H.lt
  obtain ⟨t, fr, h⟩ := H
  exact ⟨t, fr, (hk.block _ hl hb).trans h⟩

theorem idx_n0 (w : World) : (Instr.index 357 (.agg ncells) (.int .i64 0)).run Tryz.prog w = .ok (.string (nmB (nm 0))) w := by kernel_rfl
theorem idx_n1 (w : World) : (Instr.index 357 (.agg ncells) (.int .i64 1)).run Tryz.prog w = .ok (.string (nmB (nm 1))) w := by kernel_rfl
theorem idx_n2 (w : World) : (Instr.index 357 (.agg ncells) (.int .i64 2)).run Tryz.prog w = .ok (.string (nmB (nm 2))) w := by kernel_rfl
theorem idx_n3 (w : World) : (Instr.index 357 (.agg ncells) (.int .i64 3)).run Tryz.prog w = .ok (.string (nmB (nm 3))) w := by kernel_rfl
theorem idx_n4 (w : World) : (Instr.index 357 (.agg ncells) (.int .i64 4)).run Tryz.prog w = .ok (.string (nmB (nm 4))) w := by kernel_rfl
theorem idx_n5 (w : World) : (Instr.index 357 (.agg ncells) (.int .i64 5)).run Tryz.prog w = .ok (.string (nmB (nm 5))) w := by kernel_rfl
theorem idx_n6 (w : World) : (Instr.index 357 (.agg ncells) (.int .i64 6)).run Tryz.prog w = .ok (.string (nmB (nm 6))) w := by kernel_rfl
theorem idx_names {k : Nat} (hk : k < 7) (w : World) : (Instr.index 357 (.agg ncells) (.int .i64 (k : Int))).run Tryz.prog w = .ok (.string (nmB (nm k))) w :=
  match k, hk with
  | 0, _ => idx_n0 w
  | 1, _ => idx_n1 w
  | 2, _ => idx_n2 w
  | 3, _ => idx_n3 w
  | 4, _ => idx_n4 w
  | 5, _ => idx_n5 w
  | 6, _ => idx_n6 w

set_option maxRecDepth 100000 in
set_option maxHeartbeats 400000 in
theorem isClass_any (word : List UInt8) (w : World) (hg : GN w) :
    Calls Tryz.prog 297 #[.string (nmB word)] w fun e w' => e = .returned (.bool (decide (word ∈ names))) ∧ w' = w := by
  obtain ⟨t, fr, hg⟩ := hg
  go_enter Tryz.func297, Tryz.ntmps297
  go_wp2_with (refine wpList_load_row rfl 357 _ rfl 6 rfl t _ fr _ hg Tryz.underlying357 rfl (by kernel_rfl) ?_)
  clear hg
  have hnc : ∀ k : Nat, k < 7 → ∀ w, (Instr.index 357 (.agg ncells) (.int .i64 (k : Int))).run Tryz.prog w = .ok (.string (nmB (nm k))) w := fun k h w => idx_names h w
  generalize ncells = NC at *
  go_loop [6] (fun q => ∃ k : Nat, k ≤ 7 ∧ q = .int .i64 k ∧ Hid (∀ j, j < k → nm j ≠ word)) (fun q => 7 - (intOf q).toNat)
  case atStart => exact ⟨0, by omega, rfl, fun j hj => by omega⟩
  case round =>
    obtain ⟨k, hk7, rfl, hno⟩ := hrel
    by_cases hlt7 : k < 7
    · have hix := hnc k hlt7
      have hk7i : (k : Int) < 7 := by omega
      have hk7j : (0 : Int) ≤ (k : Int) := by omega
      by_cases heq : nm k = word
      · have heqb : ((nmB word).toList == (nmB (nm k)).toList) = true := by rw [eqL]; simpa using heq.symm
        have HE : Hid (word ∈ names) := by show word ∈ names; rw [← heq]; exact nm_mem hlt7
        clear heq hnc
        go_wp2
        go_ret
        exact ⟨by rw [decide_eq_true HE.out]; rfl, rfl⟩
      · have heqb : ((nmB word).toList == (nmB (nm k)).toList) = false := by rw [eqL]; simpa using fun h => heq h.symm
        have HE : Hid (∀ j, j < k + 1 → nm j ≠ word) := fun j hj => by
          by_cases e : j = k
          · subst e; exact heq
          · exact hno.out j (by omega)
        clear heq hnc
        go_wp2
        go_round
        case rel => exact ⟨k + 1, by omega, by go_num, HE⟩
        case measure => simp [intOf]; omega
    · have e : k = 7 := by omega
      subst e
      have HE : Hid (¬ word ∈ names) := by
        show ¬ word ∈ names
        intro hm
        have := find_none hno.out
        rw [List.findIdx?_eq_none_iff] at this
        have := this word hm
        simp at this
      clear hnc
      go_wp2
      go_ret
      exact ⟨by rw [decide_eq_false HE.out]; rfl, rfl⟩

/-- Does a list begin with another? -/
def preB (a b : List UInt8) : Bool := decide (b.length ≤ a.length) && decide (a.take b.length = b)

set_option maxRecDepth 100000 in
set_option maxHeartbeats 400000 in
theorem prefixLite_any (a b : List UInt8) (ha : a.length ≤ 60) (hb : b.length ≤ 60) (w : World) :
    Calls Tryz.prog 233 #[.string (nmB a), .string (nmB b)] w fun e w' => e = .returned (.bool (preB a b)) ∧ w' = w := by
  have hza : (nmB a).size = a.length := nmB_size a
  have hzb : (nmB b).size = b.length := nmB_size b
  by_cases hl : b.length ≤ a.length
  · have hl2 : ((nmB b).size : Int) ≤ ((nmB a).size : Int) := by omega
    have hl3 : (nmB b).size ≤ (nmB a).size := by omega
    have HX := eqX a b (nmB b).size
    have HP : Hid (preB a b = decide (a.take (nmB b).size = b)) := by show preB a b = _; unfold preB; rw [decide_eq_true hl, hzb]; rfl
    have hA : ((nmB a).size : Int) ≤ 60 := by omega
    have hB : ((nmB b).size : Int) ≤ 60 := by omega
    clear hl hza hzb
    go_enter Tryz.func233, Tryz.ntmps233
    go_wp2
    go_ret
    exact ⟨by rw [HP.out]; first | rfl | (rw [← HX]; rfl), rfl⟩
  · have hl2 : ¬ ((nmB b).size : Int) ≤ ((nmB a).size : Int) := by omega
    have HP : Hid (preB a b = false) := by show preB a b = _; unfold preB; rw [decide_eq_false hl]; rfl
    have hA : ((nmB a).size : Int) ≤ 60 := by omega
    have hB : ((nmB b).size : Int) ≤ 60 := by omega
    clear hl hza hzb
    go_enter Tryz.func233, Tryz.ntmps233
    go_wp2
    go_ret
    exact ⟨by rw [HP.out]; rfl, rfl⟩

set_option maxHeartbeats 400000 in
theorem prefix_any (a b : List UInt8) (ha : a.length ≤ 60) (hb : b.length ≤ 60) (w : World) :
    Calls Tryz.prog 194 #[.string (nmB a), .string (nmB b)] w fun e w' => e = .returned (.bool (preB a b)) ∧ w' = w := by
  go_enter Tryz.func194, Tryz.ntmps194
  go_wp2_with (go_at_call 233; refine (prefixLite_any a b ha hb _).mono ?_; rintro e w' ⟨rfl, rfl⟩)
  go_ret
  exact ⟨rfl, rfl⟩

/-- Does the name of some class begin so? -/
def begB (b : List UInt8) : Bool := names.any fun n => preB n b

theorem begB_false {b : List UInt8} (h : ∀ j, j < 7 → preB (nm j) b = false) : begB b = false := by
  unfold begB
  rw [List.any_eq_false]
  intro n hn
  obtain ⟨j, hj, rfl⟩ := List.mem_iff_getElem.1 hn
  have hj7 : j < 7 := by rw [names_count] at hj; exact hj
  rw [← nm_get hj7, h j hj7]; simp
theorem begB_true {b : List UInt8} {j : Nat} (hj : j < 7) (h : preB (nm j) b = true) : begB b = true := by
  unfold begB
  rw [List.any_eq_true]
  exact ⟨nm j, nm_mem hj, h⟩

set_option maxRecDepth 100000 in
set_option maxHeartbeats 400000 in
theorem begins_any (word : List UInt8) (hw : word.length ≤ 60) (w : World) (hg : GN w) :
    Calls Tryz.prog 299 #[.string (nmB word)] w fun e w' => e = .returned (.bool (begB word)) ∧ w' = w := by
  obtain ⟨t, fr, hg⟩ := hg
  go_enter Tryz.func299, Tryz.ntmps299
  go_wp2_with (refine wpList_load_row rfl 357 _ rfl 6 rfl t _ fr _ hg Tryz.underlying357 rfl (by kernel_rfl) ?_)
  clear hg
  have hnc : ∀ k : Nat, k < 7 → ∀ w, (Instr.index 357 (.agg ncells) (.int .i64 (k : Int))).run Tryz.prog w = .ok (.string (nmB (nm k))) w := fun k h w => idx_names h w
  generalize ncells = NC at *
  go_loop [6] (fun q => ∃ k : Nat, k ≤ 7 ∧ q = .int .i64 k ∧ Hid (∀ j, j < k → preB (nm j) word = false)) (fun q => 7 - (intOf q).toNat)
  case atStart => exact ⟨0, by omega, rfl, fun j hj => by omega⟩
  case round =>
    obtain ⟨k, hk7, rfl, hno⟩ := hrel
    by_cases hlt7 : k < 7
    · have hix := hnc k hlt7
      have hk7i : (k : Int) < 7 := by omega
      have hk7j : (0 : Int) ≤ (k : Int) := by omega
      have PX := fun w => prefix_any (nm k) word (by rw [nm_len hlt7]; omega) hw w
      cases heq : preB (nm k) word
      · have HE : Hid (∀ j, j < k + 1 → preB (nm j) word = false) := fun j hj => by
          by_cases e : j = k
          · subst e; exact heq
          · exact hno.out j (by omega)
        rw [heq] at PX
        clear heq hnc
        go_wp2_with (go_at_call 194; refine (PX _).mono ?_; rintro e w' ⟨rfl, rfl⟩)
        go_round
        case rel => exact ⟨k + 1, by omega, by go_num, HE⟩
        case measure => simp [intOf]; omega
      · have HE : Hid (begB word = true) := begB_true hlt7 heq
        rw [heq] at PX
        clear heq hnc
        go_wp2_with (go_at_call 194; refine (PX _).mono ?_; rintro e w' ⟨rfl, rfl⟩)
        go_ret
        exact ⟨by rw [HE.out]; rfl, rfl⟩
    · have e : k = 7 := by omega
      subst e
      have HE : Hid (begB word = false) := begB_false hno.out
      clear hnc
      go_wp2
      go_ret
      exact ⟨by rw [HE.out]; rfl, rfl⟩

theorem preB_snoc (n word : List UInt8) (c : UInt8) : preB n (word ++ [c]) = fit1 word (c.toNat : Int) n := by
  unfold preB fit1
  by_cases hl : word.length < n.length
  · have h1 : (word ++ [c]).length ≤ n.length := by simp; omega
    rw [decide_eq_true hl, decide_eq_true h1, Bool.true_and, Bool.true_and]
    have e : n.take (word ++ [c]).length = n.take word.length ++ [n.getD word.length 0] := by
      rw [List.length_append, List.length_singleton, List.take_succ_eq_append_getElem hl, List.getD_eq_getElem?_getD, List.getElem?_eq_getElem hl]; rfl
    rw [e]
    by_cases h2 : n.take word.length = word
    · rw [decide_eq_true h2, Bool.true_and, h2]
      by_cases h3 : n.getD word.length 0 = c
      · rw [h3]; simp
      · have : ¬ ((n.getD word.length 0).toNat : Int) = (c.toNat : Int) := fun h => h3 (UInt8.toNat_inj.1 (by omega))
        rw [decide_eq_false this]
        simp only [decide_eq_false_iff_not]
        intro h
        have := List.append_cancel_left h
        simp at this
        exact h3 (by simpa using this)
    · rw [decide_eq_false h2, Bool.false_and]
      simp only [decide_eq_false_iff_not]
      intro h
      exact h2 (List.append_inj_left' h rfl)
  · have h1 : ¬ (word ++ [c]).length ≤ n.length := by simp; omega
    rw [decide_eq_false hl, decide_eq_false h1]; rfl
theorem begB_snoc (word : List UInt8) (c : UInt8) : begB (word ++ [c]) = goesOn word (c.toNat : Int) := by
  unfold begB
  show _ = names.any (fit1 word (c.toNat : Int))
  congr 1
  funext n
  exact preB_snoc n word c
end Go.Proofs.YtnfojonmohijpaaGreatDoor
