/-
  DERIVED. Contracts of the program's counted and repeat. Conditions: the text is at most 60 bytes long, the place is within it.
-/
import Derived.Test.YtnfojonmohijpaaGreatDoorJPQ
import Derived.Test.YtnfojonmohijpaaGreatDoorJPO
import Derived.Great.BuildSlice
set_option linter.unusedSimpArgs false
set_option linter.unusedVariables false
namespace Go.Proofs.YtnfojonmohijpaaGreatDoor
open Go.RowKit

/-- The block of a repeat. -/
def RRow (w : World) (g : Nat) (cs : List Value) : Prop := w.heap[g]? = some (.cells cs.toArray 210 (0, 0))
theorem RRow.keep {w w' : World} {g : Nat} {cs : List Value} {S : List Nat} (h : RRow w g cs) (hk : Keeps S w w') (hb : g ∉ S) : RRow w' g cs := (hk.block g (Array.getElem?_eq_some_iff.1 h).1 hb).trans h
theorem infoRepC {a b c : Value} : (Tryz.prog.info? 210).map (·.size) = some (#[a, b, c] : Array Value).size := by kernel_rfl
theorem rep_one (o : Bool) (m n : Int) : (#[Value.bool o, Value.int .i64 m, Value.int .i64 n] : Array Value).all (·.oneCell') = true := by simp [Value.oneCell']
theorem repO_size (o : Option (Nat × Int)) : (repC o).toArray.size = 3 := by simp [repC_len]
theorem infoRepO (o : Option (Nat × Int)) : (Tryz.prog.info? 210).map (·.size) = some (repC o).toArray.size := by rw [repO_size]; kernel_rfl
theorem repO_one (o : Option (Nat × Int)) : (repC o).toArray.all (·.oneCell') = true := by cases o <;> simp [repC, Value.oneCell']
theorem alloc_rep (w : World) : (Instr.alloc 210 true (.tuple #[])).run Tryz.prog w = .ok (.pointer (some ⟨w.heap.size, 0, none⟩)) (w.alloc (.cells (repC none).toArray 210)) := by kernel_rfl
/-- A new variable that holds no repeat. -/
theorem wpList_zeroRep {ops : Array Oper} {rest : List Oper} {o : Oper} {a : Act} {w : World} {Q : Exit → Act → World → Prop} (hg : o.guard = none) (ho : o.op = .alloc 210) (d : Option Tmp) (hd : o.dst = d)
    (h : wpList Tryz.prog ops Q rest (a.put d (.pointer (some ⟨w.heap.size, 0, none⟩))) (w.alloc (.cells (repC none).toArray 210))) : wpList Tryz.prog ops Q (o :: rest) a w := by
  subst hd
  refine wpList_plain hg fun K hK => ?_
  unfold Oper.wp execOp
  simp only [ho, Sem.run_bind, alloc_rep, Sem.run_pure, Result.andThen_ok]
  exact hK _ _ h

/-- What a reader of a repeat leaves. -/
def RepPost (b : Nat) (p : QS) (w : World) (q : R (Option (Nat × Int))) (e : Ending) (w' : World) : Prop :=
  Keeps [b] w w' ∧ match q with
    | .ok o j => e = .returned (.agg (repC o).toArray) ∧ QB w' b { p with ix := j }
    | .bad j => e = fault j

set_option maxRecDepth 100000 in
set_option maxHeartbeats 2000000 in
theorem counted_prog (b : Nat) (p : QS) (w : World) (hp : QB w b p) (hs : p.s.size ≤ 60) (hle : p.ix ≤ p.s.size) (q1 : R Nat) (hq1 : NumL p.s 0 0 false p.ix q1) (q : R (Option (Nat × Int))) (hq : Rep2 p.s q1 q) :
    Calls Tryz.prog 251 #[.pointer (some ⟨b, 0, none⟩)] w (RepPost b p w q) := by
  have hbl := hp.lt
  have hr0 : RRow (w.alloc (.cells (repC none).toArray 210)) w.heap.size (repC none) := heap_alloc_new w _
  have hk0 : Keeps [b] w (w.alloc (.cells (repC none).toArray 210)) := (Keeps.refl [b] w).alloc _
  have hq0 : QB (w.alloc (.cells (repC none).toArray 210)) b p := hp.keep ((Keeps.refl [] w).alloc _) (by simp)
  obtain ⟨g, hg⟩ : ∃ g, w.heap.size = g := ⟨_, rfl⟩
  clear hp
  go_enter Tryz.func251, Tryz.ntmps251
  go_wp2_with (first | (refine wpList_zeroRep rfl rfl (some 2) rfl ?_; generalize w.alloc (.cells (repC none).toArray 210) = W at *))
  rw [hg] at hr0 hbl
  refine (number_prog b p 0 _ hq0 hs hle q1 hq1).mono ?_
  rintro e w1 ⟨hk1, hc1⟩
  have hkA : Keeps [b] w w1 := hk0.trans hk1
  have hr1 := hr0.keep hk1 (by simp; omega)
  cases q1 with
  | bad k =>
    subst hc1
    have hq' : q = .bad k := hq
    subst hq'
    simp only [fault]
    exact ⟨rfl, hkA, rfl⟩
  | ok m k =>
    obtain ⟨rfl, hqA⟩ := hc1
    have hok := hq1.ok m k rfl
    have hkle : k ≤ p.s.size := hok.2.1 hle
    have hm5 : m ≤ 5 := hok.2.2.1 (by omega)
    clear hq1 hq0 hr0 hk0 hk1 hok
    go_wp2_with fail
    refine (skip_any b { p with ix := k } 44 (by omega) _ hqA hkle hs).mono ?_
    rintro e w2 ⟨rfl, hqB, hk2⟩
    have hkB : Keeps [b] w w2 := hkA.trans hk2
    have hr2 := hr1.keep hk2 (by simp; omega)
    clear hqA hkA hr1 hk2
    by_cases h44 : at' p.s k = 44
    · obtain ⟨e1, e2⟩ := took_yes (p := { p with ix := k }) h44
      rw [e1]
      rw [e2] at hqB
      have hk1le : k + 1 ≤ p.s.size := at'_nn (by omega)
      clear e1 e2
      go_wp2_with fail
      refine (ahead_any b { p with ix := k + 1 } 125 (by omega) _ hqB hk1le hs).mono ?_
      rintro e w3 ⟨rfl, hqC, hk3⟩
      have hkC : Keeps [b] w w3 := hkB.trans (hk3.mono (by simp))
      have hr3 := hr2.keep hk3 (by simp)
      by_cases h125 : at' p.s (k + 1) = 125
      · have hd : decide (QS.cur { p with ix := k + 1 } = 125) = true := by simpa using (show QS.cur { p with ix := k + 1 } = 125 from h125)
        rw [hd]
        have he : q = .ok (some (m, -1)) (k + 2) := by
          rcases hq with ⟨_, _, e⟩ | ⟨_, h, _⟩ | ⟨h, _⟩
          · exact e
          · exact absurd h125 h
          · exact absurd h44 h
        subst he
        have H125 : at' p.s (k + 1) = 125 := h125
        clear hq h125 hd
        have HX : Hid (at' p.s (k + 1) = 125) := H125
        go_wp2_with fail
        refine (expect_any b { p with ix := (k + 1) } 125 (by omega) _ hqC hk1le hs).mono ?_
        rintro e wf ⟨hkf, hcf⟩
        have hkF : Keeps [b] w wf := hkC.trans hkf
        have hrF : RRow wf g (repC none) := hr3.keep hkf (by simp; omega)
        by_cases hE : at' p.s (k + 1) = 125
        · rw [show needS (QS.s { p with ix := (k + 1) }) 125 (QS.ix { p with ix := (k + 1) }) = .ok () ((k + 1) + 1) from if_pos hE] at hcf
          obtain ⟨rfl, hqF⟩ := hcf
          skip
          clear hE
          go_wp2_with (first | (refine wpList_store_row rfl 210 _ _ rfl g _ rfl rfl _ _ hrF infoRepC rfl (rep_one _ _ _) ?_))
          refine bodyPost_ret (results_cell_row rfl _ _ g _ _ _ _ rfl (setRow_heap _ _ _ _ _ _ hrF) Tryz.underlying210 rfl infoRepC) rfl ?_
          exact ⟨hkF.setRow (Or.inr (by omega)) _, rfl, hqF.keep ((Keeps.refl [g] wf).setRow (by simp) _) (by simp; omega)⟩
        · rw [show needS (QS.s { p with ix := (k + 1) }) 125 (QS.ix { p with ix := (k + 1) }) = .bad (k + 1) from if_neg hE] at hcf
          subst hcf
          exact absurd HX.out hE
      · have hd : decide (QS.cur { p with ix := k + 1 } = 125) = false := by simpa using (show ¬ QS.cur { p with ix := k + 1 } = 125 from h125)
        rw [hd]
        obtain ⟨q2, hN2, hR3⟩ : ∃ q2, NumL p.s m 0 false (k + 1) q2 ∧ Rep3 p.s m q2 q := by
          rcases hq with ⟨_, h, _⟩ | ⟨_, _, q2, h1, h2⟩ | ⟨h, _⟩
          · exact absurd h h125
          · exact ⟨q2, h1, h2⟩
          · exact absurd h44 h
        clear hq h125 hd
        go_wp2_with fail
        refine (number_prog b { p with ix := k + 1 } m _ hqC hs hk1le q2 hN2).mono ?_
        rintro e w4 ⟨hk4, hc4⟩
        have hkD : Keeps [b] w w4 := hkC.trans hk4
        have hr4 := hr3.keep hk4 (by simp; omega)
        cases q2 with
        | bad l =>
          subst hc4
          have hq' : q = .bad l := hR3
          subst hq'
          simp only [fault]
          exact ⟨rfl, hkD, rfl⟩
        | ok n l =>
          obtain ⟨rfl, hqD⟩ := hc4
          have hlle : l ≤ p.s.size := (hN2.ok n l rfl).2.1 hk1le
          have HE : Hid (q = if at' p.s l = 125 then .ok (some (m, (n : Int))) (l + 1) else .bad l) := hR3
          clear hN2 hR3
          go_wp2_with fail
          refine (expect_any b { p with ix := l } 125 (by omega) _ hqD hlle hs).mono ?_
          rintro e wf ⟨hkf, hcf⟩
          have hkF : Keeps [b] w wf := hkD.trans hkf
          have hrF : RRow wf g (repC none) := hr4.keep hkf (by simp; omega)
          by_cases hE : at' p.s l = 125
          · rw [show needS (QS.s { p with ix := l }) 125 (QS.ix { p with ix := l }) = .ok () (l + 1) from if_pos hE] at hcf
            obtain ⟨rfl, hqF⟩ := hcf
            have he := HE.out; rw [if_pos hE] at he; subst he
            clear hE
            go_wp2_with (first | (refine wpList_store_row rfl 210 _ _ rfl g _ rfl rfl _ _ hrF infoRepC rfl (rep_one _ _ _) ?_))
            refine bodyPost_ret (results_cell_row rfl _ _ g _ _ _ _ rfl (setRow_heap _ _ _ _ _ _ hrF) Tryz.underlying210 rfl infoRepC) rfl ?_
            exact ⟨hkF.setRow (Or.inr (by omega)) _, rfl, hqF.keep ((Keeps.refl [g] wf).setRow (by simp) _) (by simp; omega)⟩
          · rw [show needS (QS.s { p with ix := l }) 125 (QS.ix { p with ix := l }) = .bad l from if_neg hE] at hcf
            subst hcf
            have he := HE.out; rw [if_neg hE] at he; subst he
            simp only [fault]
            exact ⟨rfl, hkF, rfl⟩
    · obtain ⟨e1, e2⟩ := took_no (p := { p with ix := k }) h44
      rw [e1]
      rw [e2] at hqB
      have HE : Hid (q = if at' p.s k = 125 then .ok (some (m, (m : Int))) (k + 1) else .bad k) := by
        show q = if at' p.s k = 125 then .ok (some (m, (m : Int))) (k + 1) else .bad k
        rcases hq with ⟨h, _⟩ | ⟨h, _⟩ | ⟨_, h⟩
        · exact absurd h h44
        · exact absurd h h44
        · exact h
      clear e1 e2 hq
      go_wp2_with fail
      refine (expect_any b { p with ix := k } 125 (by omega) _ hqB hkle hs).mono ?_
      rintro e wf ⟨hkf, hcf⟩
      have hkF : Keeps [b] w wf := hkB.trans hkf
      have hrF : RRow wf g (repC none) := hr2.keep hkf (by simp; omega)
      by_cases hE : at' p.s k = 125
      · rw [show needS (QS.s { p with ix := k }) 125 (QS.ix { p with ix := k }) = .ok () (k + 1) from if_pos hE] at hcf
        obtain ⟨rfl, hqF⟩ := hcf
        have he := HE.out; rw [if_pos hE] at he; subst he
        clear hE
        go_wp2_with (first | (refine wpList_store_row rfl 210 _ _ rfl g _ rfl rfl _ _ hrF infoRepC rfl (rep_one _ _ _) ?_))
        refine bodyPost_ret (results_cell_row rfl _ _ g _ _ _ _ rfl (setRow_heap _ _ _ _ _ _ hrF) Tryz.underlying210 rfl infoRepC) rfl ?_
        exact ⟨hkF.setRow (Or.inr (by omega)) _, rfl, hqF.keep ((Keeps.refl [g] wf).setRow (by simp) _) (by simp; omega)⟩
      · rw [show needS (QS.s { p with ix := k }) 125 (QS.ix { p with ix := k }) = .bad k from if_neg hE] at hcf
        subst hcf
        have he := HE.out; rw [if_neg hE] at he; subst he
        simp only [fault]
        exact ⟨rfl, hkF, rfl⟩

set_option maxRecDepth 100000 in
set_option maxHeartbeats 2000000 in
theorem repeat_prog (b : Nat) (p : QS) (w : World) (hp : QB w b p) (hs : p.s.size ≤ 60) (hle : p.ix ≤ p.s.size) (q : R (Option (Nat × Int))) (hq : RepR p.s p.ix q) :
    Calls Tryz.prog 205 #[.pointer (some ⟨b, 0, none⟩)] w (RepPost b p w q) := by
  have hbl := hp.lt
  have hr0 : RRow (w.alloc (.cells (repC none).toArray 210)) w.heap.size (repC none) := heap_alloc_new w _
  have hk0 : Keeps [b] w (w.alloc (.cells (repC none).toArray 210)) := (Keeps.refl [b] w).alloc _
  have hq0 : QB (w.alloc (.cells (repC none).toArray 210)) b p := hp.keep ((Keeps.refl [] w).alloc _) (by simp)
  obtain ⟨g, hg⟩ : ∃ g, w.heap.size = g := ⟨_, rfl⟩
  clear hp
  go_enter Tryz.func205, Tryz.ntmps205
  go_wp2_with (first | (refine wpList_zeroRep rfl rfl (some 2) rfl ?_; generalize w.alloc (.cells (repC none).toArray 210) = W at *))
  rw [hg] at hr0 hbl
  refine (skip_any b p 42 (by omega) _ hq0 hle hs).mono ?_
  rintro e w1 ⟨rfl, hqa1, hk1⟩
  have hkk1 : Keeps [b] w w1 := hk0.trans hk1
  have hr1 := hr0.keep hk1 (by simp; omega)
  by_cases h42 : at' p.s p.ix = 42
  · obtain ⟨e1, e2⟩ := took_yes (p := p) h42
    rw [e1]
    rw [e2] at hqa1
    have he : q = .ok (some (0, -1)) (p.ix + 1) := RepR.det hq (Or.inr (Or.inl ⟨h42, rfl⟩))
    subst he
    clear hq h42 e1 e2
    go_wp2_with (first | (refine wpList_store_row rfl 210 _ _ rfl g _ rfl rfl _ _ hr1 infoRepC rfl (rep_one _ _ _) ?_))
    refine bodyPost_ret (results_cell_row rfl _ _ g _ _ _ _ rfl (setRow_heap _ _ _ _ _ _ hr1) Tryz.underlying210 rfl infoRepC) rfl ?_
    exact ⟨hkk1.setRow (Or.inr (by omega)) _, rfl, hqa1.keep ((Keeps.refl [g] _).setRow (by simp) _) (by simp; omega)⟩
  · obtain ⟨e1, e2⟩ := took_no (p := p) h42
    rw [e1]
    rw [e2] at hqa1
    have hq1 := hqa1
    clear e1 e2
    go_wp2_with fail
    refine (skip_any b p 43 (by omega) _ hq1 hle hs).mono ?_
    rintro e w2 ⟨rfl, hqa2, hk2⟩
    have hkk2 : Keeps [b] w w2 := hkk1.trans hk2
    have hr2 := hr1.keep hk2 (by simp; omega)
    by_cases h43 : at' p.s p.ix = 43
    · obtain ⟨e1, e2⟩ := took_yes (p := p) h43
      rw [e1]
      rw [e2] at hqa2
      have he : q = .ok (some (1, -1)) (p.ix + 1) := RepR.det hq (Or.inr (Or.inr (Or.inl ⟨h43, rfl⟩)))
      subst he
      clear hq h43 e1 e2
      go_wp2_with (first | (refine wpList_store_row rfl 210 _ _ rfl g _ rfl rfl _ _ hr2 infoRepC rfl (rep_one _ _ _) ?_))
      refine bodyPost_ret (results_cell_row rfl _ _ g _ _ _ _ rfl (setRow_heap _ _ _ _ _ _ hr2) Tryz.underlying210 rfl infoRepC) rfl ?_
      exact ⟨hkk2.setRow (Or.inr (by omega)) _, rfl, hqa2.keep ((Keeps.refl [g] _).setRow (by simp) _) (by simp; omega)⟩
    · obtain ⟨e1, e2⟩ := took_no (p := p) h43
      rw [e1]
      rw [e2] at hqa2
      have hq2 := hqa2
      clear e1 e2
      go_wp2_with fail
      refine (skip_any b p 63 (by omega) _ hq2 hle hs).mono ?_
      rintro e w3 ⟨rfl, hqa3, hk3⟩
      have hkk3 : Keeps [b] w w3 := hkk2.trans hk3
      have hr3 := hr2.keep hk3 (by simp; omega)
      by_cases h63 : at' p.s p.ix = 63
      · obtain ⟨e1, e2⟩ := took_yes (p := p) h63
        rw [e1]
        rw [e2] at hqa3
        have he : q = .ok (some (0, 1)) (p.ix + 1) := RepR.det hq (Or.inr (Or.inr (Or.inr (Or.inl ⟨h63, rfl⟩))))
        subst he
        clear hq h63 e1 e2
        go_wp2_with (first | (refine wpList_store_row rfl 210 _ _ rfl g _ rfl rfl _ _ hr3 infoRepC rfl (rep_one _ _ _) ?_))
        refine bodyPost_ret (results_cell_row rfl _ _ g _ _ _ _ rfl (setRow_heap _ _ _ _ _ _ hr3) Tryz.underlying210 rfl infoRepC) rfl ?_
        exact ⟨hkk3.setRow (Or.inr (by omega)) _, rfl, hqa3.keep ((Keeps.refl [g] _).setRow (by simp) _) (by simp; omega)⟩
      · obtain ⟨e1, e2⟩ := took_no (p := p) h63
        rw [e1]
        rw [e2] at hqa3
        have hq3 := hqa3
        clear e1 e2
        go_wp2_with fail
        refine (skip_any b p 123 (by omega) _ hq3 hle hs).mono ?_
        rintro e w4 ⟨rfl, hqa4, hk4⟩
        have hkk4 : Keeps [b] w w4 := hkk3.trans hk4
        have hr4 := hr3.keep hk4 (by simp; omega)
        by_cases h123 : at' p.s p.ix = 123
        · obtain ⟨e1, e2⟩ := took_yes (p := p) h123
          rw [e1]
          rw [e2] at hqa4
          obtain ⟨q1, hN, hR2⟩ : ∃ q1, NumL p.s 0 0 false (p.ix + 1) q1 ∧ Rep2 p.s q1 q := by
            rcases hq with ⟨_, _, _, h, _⟩ | ⟨h, _⟩ | ⟨h, _⟩ | ⟨h, _⟩ | ⟨_, q1, h1, h2⟩
            · exact absurd h123 h
            · omega
            · omega
            · omega
            · exact ⟨q1, h1, h2⟩
          have hle1 : p.ix + 1 ≤ p.s.size := at'_nn (by omega)
          clear hq h123 e1 e2
          go_wp2_with fail
          refine (counted_prog b { p with ix := p.ix + 1 } _ hqa4 hs hle1 q1 hN q hR2).mono ?_
          rintro e w5 ⟨hk5, hc5⟩
          have hkk5 : Keeps [b] w w5 := hkk4.trans hk5
          have hr5 := hr4.keep hk5 (by simp; omega)
          cases q with
          | bad j =>
            subst hc5
            simp only [fault]
            exact ⟨rfl, hkk5, rfl⟩
          | ok o j =>
            obtain ⟨rfl, hq5⟩ := hc5
            go_wp2_with (first | (refine wpList_store_row rfl 210 _ _ rfl g _ rfl rfl _ _ hr5 (infoRepO o) (by rw [repO_size, repO_size]) (repO_one o) ?_))
            refine bodyPost_ret (results_cell_row rfl _ _ g _ _ _ _ rfl (setRow_heap _ _ _ _ _ _ hr5) Tryz.underlying210 rfl (infoRepO o)) rfl ?_
            exact ⟨hkk5.setRow (Or.inr (by omega)) _, rfl, hq5.keep ((Keeps.refl [g] _).setRow (by simp) _) (by simp; omega)⟩
        · obtain ⟨e1, e2⟩ := took_no (p := p) h123
          rw [e1]
          rw [e2] at hqa4
          have hq4 := hqa4
          clear e1 e2
          have he : q = .ok none p.ix := RepR.det hq (Or.inl ⟨h42, h43, h63, h123, rfl⟩)
          subst he
          clear hq h42 h43 h63 h123
          go_wp2_with (first | (refine wpList_store_row rfl 210 _ _ rfl g _ rfl rfl _ _ hr4 infoRepC rfl (rep_one _ _ _) ?_))
          refine bodyPost_ret (results_cell_row rfl _ _ g _ _ _ _ rfl (setRow_heap _ _ _ _ _ _ hr4) Tryz.underlying210 rfl infoRepC) rfl ?_
          exact ⟨hkk4.setRow (Or.inr (by omega)) _, rfl, hqa4.keep ((Keeps.refl [g] _).setRow (by simp) _) (by simp; omega)⟩
end Go.Proofs.YtnfojonmohijpaaGreatDoor
