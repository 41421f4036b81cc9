/-
  DERIVED. Contracts of Others, One and All: sets handed over whole. Conditions: none.
-/
import Derived.Test.YtnfojonmohijpaaGreatDoorJPJ
import Derived.Laws.Tables
import Derived.Great.BuildSlice
set_option linter.unusedSimpArgs false
set_option linter.unusedVariables false
namespace Go.Proofs.YtnfojonmohijpaaGreatDoor
open Go.RowKit

theorem Keeps.setRow {S : List Nat} {a w : World} (h : Keeps S a w) {g : Nat} (hp : g ∈ S ∨ a.heap.size ≤ g) (cs : Array Value) : Keeps S a (w.setRow g cs) :=
  ⟨h.os, h.tape, h.output, by simpa using h.size, fun k hk hn => by
    rw [setRow_other]
    · exact h.block k hk hn
    · rintro rfl
      rcases hp with hp | hp
      · exact hn hp
      · omega⟩

theorem zero_set (w : World) : (Instr.alloc 206 true (.tuple #[])).run Tryz.prog w = .ok (.pointer (some ⟨w.heap.size, 0, none⟩)) (w.alloc (.cells (hcells fun _ => false) 206)) := by kernel_rfl
/-- A new variable that holds the empty set. -/
theorem wpList_zeroSet {ops : Array Oper} {rest : List Oper} {o : Oper} {a : Act} {w : World} {Q : Exit → Act → World → Prop} (hg : o.guard = none) (ho : o.op = .alloc 206) (d : Option Tmp) (hd : o.dst = d)
    (h : wpList Tryz.prog ops Q rest (a.put d (.pointer (some ⟨w.heap.size, 0, none⟩))) (w.alloc (.cells (hcells fun _ => false) 206))) : wpList Tryz.prog ops Q (o :: rest) a w := by
  subst hd
  refine wpList_plain hg fun K hK => ?_
  unfold Oper.wp execOp
  simp only [ho, Sem.run_bind, zero_set, Sem.run_pure, Result.andThen_ok]
  exact hK _ _ h

theorem hcells_one (f : Nat → Bool) : (hcells f).all (·.oneCell') = true := by
  rw [Array.all_eq_true]
  intro i hi
  have hi' : i < 256 := by rw [hcells_size] at hi; exact hi
  have := hcells_get f hi'
  rw [Array.getElem?_eq_getElem hi] at this
  rw [Option.some.inj this]
  rfl
theorem Tryz.infoSet : (Tryz.prog.info? 206).map (·.size) = some 256 := by kernel_rfl
theorem infoSetC (f : Nat → Bool) : (Tryz.prog.info? 206).map (·.size) = some (hcells f).size := by rw [hcells_size]; exact Tryz.infoSet

set_option maxRecDepth 100000 in
set_option maxHeartbeats 400000 in
theorem others_any (f : Nat → Bool) (w : World) :
    Calls Tryz.prog 252 #[.agg (hcells f)] w fun e w' => e = .returned (.agg (hcells fun n => !f n)) ∧ Keeps [] w w' := by
  have hz0 : HQ ((w.alloc (.cells (hcells f) 206)).alloc (.cells (hcells fun _ => false) 206)) w.heap.size f := heap_alloc2_old w _ _
  have hz1 : HQ ((w.alloc (.cells (hcells f) 206)).alloc (.cells (hcells fun _ => false) 206)) (w.heap.size + 1) (fun _ => false) := heap_alloc2_new w _ _
  have hk0 : Keeps [] w ((w.alloc (.cells (hcells f) 206)).alloc (.cells (hcells fun _ => false) 206)) := ((Keeps.refl [] w).alloc _).alloc _
  generalize hC : hcells f = C at *
  go_enter Tryz.func252, Tryz.ntmps252
  go_wp2_with (first | (refine wpList_zeroSet rfl rfl (some 2) rfl ?_))
  generalize (w.alloc (.cells C 206)).alloc (.cells (hcells fun _ => false) 206) = W at *
  obtain ⟨g, hgq⟩ : ∃ g, w.heap.size = g := ⟨_, rfl⟩
  rw [hgq] at hz0 hz1 ⊢
  go_loopw [4] (fun q wr => ∃ m : Nat, m ≤ 256 ∧ q = .int .i64 m ∧ HQ wr g (fun n => if n < m then !f n else f n) ∧ HQ wr (g + 1) (fun _ => false) ∧ Keeps [] w wr) (fun q _ => 256 - (intOf q).toNat)
  case atStart => exact ⟨0, by omega, rfl, hz0.congr (fun n _ => by simp), hz1, hk0⟩
  case round =>
    clear hz0 hz1 hk0
    obtain ⟨m, hm, rfl, hq0, hq1, hk⟩ := hrel
    by_cases hlt : m < 256
    · have hcm := hq0.cell hlt
      rw [if_neg (Nat.lt_irrefl m)] at hcm
      have hfm := hq0.frozen m
      have hm0 : (0 : Int) ≤ (m : Int) := by omega
      have hm1 : (m : Int) < 256 := by omega
      have HN : HQ (wr.setCell ⟨g, m, none⟩ (.bool (!f m))) g (fun n => if n < m + 1 then !f n else f n) := (hq0.set m (!f m)).congr fun n hn => by
        by_cases e : n = m
        · subst e; simp
        · by_cases e2 : n < m
          · rw [if_neg e, if_pos e2, if_pos (by omega)]
          · rw [if_neg e, if_neg e2, if_neg (by omega)]
      have HM : HQ (wr.setCell ⟨g, m, none⟩ (.bool (!f m))) (g + 1) (fun _ => false) := hq1.keep ((Keeps.refl [g] wr).setCell (p := ⟨g, m, none⟩) (by simp) _) (by simp)
      go_wp2
      go_roundw
      case rel => exact ⟨m + 1, by omega, by go_num, HN, HM, hk.setCell (Or.inr (by simp; omega)) _⟩
      case measure => simp [intOf]; omega
    · have e : m = 256 := by omega
      subst e
      have hq2 : HQ wr g (fun n => !f n) := hq0.congr fun n hn => by rw [if_pos hn]
      go_wp2_with (first | (refine wpList_load_row rfl 206 _ rfl g rfl _ _ _ _ hq2 Tryz.underlying206 rfl (infoSetC _) ?_) | (refine wpList_store_row rfl 206 _ _ rfl (g + 1) _ rfl rfl _ _ hq1 (infoSetC _) (by rw [hcells_size, hcells_size]) (hcells_one _) ?_))
      refine bodyPost_ret (results_cell_row rfl _ _ (g + 1) _ _ _ _ rfl (setRow_heap _ _ _ _ _ _ hq1) Tryz.underlying206 rfl (infoSetC _)) rfl ?_
      exact ⟨rfl, hk.setRow (Or.inr (by omega)) _⟩
end Go.Proofs.YtnfojonmohijpaaGreatDoor

/-
  DERIVED. Contracts of One and All: sets handed over whole. Conditions: a byte is from 0 to 255.
-/
namespace Go.Proofs.YtnfojonmohijpaaGreatDoor
open Go.RowKit

set_option maxRecDepth 100000 in
set_option maxHeartbeats 400000 in
theorem one_set (c : Nat) (hc : c < 256) (w : World) :
    Calls Tryz.prog 249 #[.int .u8 (c : Int)] w fun e w' => e = .returned (.agg (hcells fun n => decide (n = c))) ∧ Keeps [] w w' := by
  have hz0 : HQ ((w.alloc (.cells (hcells fun _ => false) 206)).alloc (.cells (hcells fun _ => false) 206)) w.heap.size (fun _ => false) := heap_alloc2_old w _ _
  have hz1 : HQ ((w.alloc (.cells (hcells fun _ => false) 206)).alloc (.cells (hcells fun _ => false) 206)) (w.heap.size + 1) (fun _ => false) := heap_alloc2_new w _ _
  have hk0 : Keeps [] w ((w.alloc (.cells (hcells fun _ => false) 206)).alloc (.cells (hcells fun _ => false) 206)) := ((Keeps.refl [] w).alloc _).alloc _
  have hcm := hz1.cell hc
  have hfm := hz1.frozen c
  have hq2 := (hz1.set c true).congr (g := fun n => decide (n = c)) (fun n _ => by by_cases e : n = c <;> simp [e])
  have hq3 := hz0.keep ((Keeps.refl [w.heap.size + 1] _).setCell (p := ⟨w.heap.size + 1, c, none⟩) (by simp) (.bool true)) (by simp)
  have hk1 := hk0.setCell (p := ⟨w.heap.size + 1, c, none⟩) (Or.inr (by simp)) (.bool true)
  have hc0 : (0 : Int) ≤ (c : Int) := by omega
  have hc1 : (c : Int) < 256 := by omega
  go_enter Tryz.func249, Tryz.ntmps249
  go_wp2_with (first | (refine wpList_zeroSet rfl rfl (some 3) rfl ?_; generalize (w.alloc (.cells (hcells fun _ => false) 206)).alloc (.cells (hcells fun _ => false) 206) = W at *) | (refine wpList_zeroSet rfl rfl (some 2) rfl ?_) | (refine wpList_load_row rfl 206 _ rfl (w.heap.size + 1) rfl _ _ _ _ hq2 Tryz.underlying206 rfl (infoSetC _) ?_) | (refine wpList_store_row rfl 206 _ _ rfl w.heap.size _ rfl rfl _ _ hq3 (infoSetC _) (by rw [hcells_size, hcells_size]) (hcells_one _) ?_))
  refine bodyPost_ret (results_cell_row rfl _ _ w.heap.size _ _ _ _ rfl (setRow_heap _ _ _ _ _ _ hq3) Tryz.underlying206 rfl (infoSetC _)) rfl ?_
  exact ⟨rfl, hk1.setRow (Or.inr (Nat.le_refl _)) _⟩

theorem built_zero : Tryz.prog.built 206 [] = some (hcells fun _ => false) := by kernel_rfl
theorem hcells_true : (hcells fun n => !(fun _ => false : Nat → Bool) n) = hcells fun _ => true := rfl

set_option maxRecDepth 100000 in
set_option maxHeartbeats 400000 in
theorem all_set (w : World) :
    Calls Tryz.prog 207 #[] w fun e w' => e = .returned (.agg (hcells fun _ => true)) ∧ Keeps [] w w' := by
  have hz0 : HQ (w.alloc (.cells (hcells fun _ => false) 206)) w.heap.size (fun _ => false) := heap_alloc_new w _
  have hk0 : Keeps [] w (w.alloc (.cells (hcells fun _ => false) 206)) := (Keeps.refl [] w).alloc _
  have hlt : w.heap.size < (w.alloc (.cells (hcells fun _ => false) 206)).heap.size := by simp
  go_enter Tryz.func207, Tryz.ntmps207
  go_wp2_with (first | (refine wpList_zeroSet rfl rfl (some 0) rfl ?_; generalize w.alloc (.cells (hcells fun _ => false) 206) = W at *) | (refine Great.wpList_buildTo rfl 206 #[] rfl (some 1) rfl (hcells fun _ => false) built_zero ?_) | (go_at_call 252; refine (others_any (fun _ => false) _).mono ?_; rintro e w1 ⟨rfl, hk1⟩; rw [hcells_true]; have hq1 := hz0.keep hk1 (by simp)) | (refine wpList_store_row rfl 206 _ _ rfl w.heap.size _ rfl rfl _ _ hq1 (infoSetC _) (by rw [hcells_size, hcells_size]) (hcells_one _) ?_))
  refine bodyPost_ret (results_cell_row rfl _ _ w.heap.size _ _ _ _ rfl (setRow_heap _ _ _ _ _ _ hq1) Tryz.underlying206 rfl (infoSetC _)) rfl ?_
  exact ⟨rfl, (hk0.trans hk1).setRow (Or.inr (Nat.le_refl _)) _⟩
end Go.Proofs.YtnfojonmohijpaaGreatDoor
