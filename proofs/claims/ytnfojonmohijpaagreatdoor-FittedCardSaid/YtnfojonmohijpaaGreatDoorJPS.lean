/-
  DERIVED. Contracts of the program's counted and repeat. Conditions: the text is at most 60 bytes long, the place is within it.
-/
import Derived.Test.YtnfojonmohijpaaGreatDoorJPJ
import Derived.Test.YtnfojonmohijpaaGreatDoorJNF
import Derived.Great.BuildSlice
import Derived.Test.YtnfojonmohijpaaGreatDoorJNA
set_option linter.unusedSimpArgs false
set_option linter.unusedVariables false
namespace Go.Proofs.YtnfojonmohijpaaGreatDoor
open Go.RowKit
def RRow (w : World) (g : Nat) (cs : List Value) : Prop := w.heap[g]? = some (.cells cs.toArray 210 (0, 0))
theorem RRow.keep {w w' : World} {g : Nat} {cs : List Value} {S : List Nat} (h : RRow w g cs) (hk : Keeps S w w') (hb : g ∉ S) : RRow w' g cs := (hk.block g (Array.getElem?_eq_some_iff.1 h).1 hb).trans h
theorem infoRepC {a b c : Value} : (Tryz.prog.info? 210).map (·.size) = some (#[a, b, c] : Array Value).size := by kernel_rfl
theorem rep_one (o : Bool) (m n : Int) : (#[Value.bool o, Value.int .i64 m, Value.int .i64 n] : Array Value).all (·.oneCell') = true := by simp [Value.oneCell']
theorem repO_size (o : Option (Nat × Int)) : (repC o).toArray.size = 3 := by simp [repC_len]
theorem infoRepO (o : Option (Nat × Int)) : (Tryz.prog.info? 210).map (·.size) = some (repC o).toArray.size := by rw [repO_size]; kernel_rfl
theorem repO_one (o : Option (Nat × Int)) : (repC o).toArray.all (·.oneCell') = true := by cases o <;> simp [repC, Value.oneCell']
theorem alloc_rep (w : World) : (Instr.alloc 210 true (.tuple #[])).run Tryz.prog w = .ok (.pointer (some ⟨w.heap.size, 0, none⟩)) (w.alloc (.cells (repC none).toArray 210)) := by kernel_rfl
theorem wpList_zeroRep {ops : Array Oper} {rest : List Oper} {o : Oper} {a : Act} {w : World} {Q : Exit → Act → World → Prop} (hg : o.guard = none) (ho : o.op = .alloc 210) (d : Option Tmp) (hd : o.dst = d)
    (h : wpList Tryz.prog ops Q rest (a.put d (.pointer (some ⟨w.heap.size, 0, none⟩))) (w.alloc (.cells (repC none).toArray 210))) : wpList Tryz.prog ops Q (o :: rest) a w := by
 subst hd
 refine wpList_plain hg fun K hK => ?_
 unfold Oper.wp execOp
 simp only [ho, Sem.run_bind, alloc_rep, Sem.run_pure, Result.andThen_ok]
 exact hK _ _ h
def RepPost (b : Nat) (p : QS) (w : World) (q : R (Option (Nat × Int))) (e : Ending) (w' : World) : Prop :=
 Keeps [b] w w' ∧ match q with
  | .ok o j => e = .returned (.agg (repC o).toArray) ∧ QB w' b { p with ix := j }
  | .bad j => e = fault j
set_option maxRecDepth 100000 in
set_option maxHeartbeats 2000000 in
theorem counted_prog (b : Nat) (p : QS) (w : World) (hp : QB w b p) (hs : p.s.size ≤ 60) (hle : p.ix ≤ p.s.size) (q1 : R Nat) (hq1 : NumL p.s 0 0 false p.ix q1) (q : R (Option (Nat × Int))) (hq : Rep2 p.s q1 q) :
    Calls Tryz.prog 251 #[.pointer (some ⟨b, 0, none⟩)] w (RepPost b p w q) := by
 have hbl := hp.lt
 have hr0 : RRow (w.alloc (.cells (repC none).toArray 210)) w.heap.size (repC none) := heap_alloc_new w _
 have hk0 : Keeps [b] w (w.alloc (.cells (repC none).toArray 210)) := (Keeps.refl [b] w).alloc _
 have hq0 : QB (w.alloc (.cells (repC none).toArray 210)) b p := hp.keep ((Keeps.refl [] w).alloc _) (by simp)
 obtain ⟨g, hg⟩ : ∃ g, w.heap.size = g := ⟨_, rfl⟩
 clear hp
 go_enter Tryz.func251, Tryz.ntmps251
 go_wp2_with (first | (refine wpList_zeroRep rfl rfl (some 2) rfl ?_; generalize w.alloc (.cells (repC none).toArray 210) = W at *))
 rw [hg] at hr0 hbl
 refine (number_prog b p 0 _ hq0 hs hle q1 hq1).mono ?_
 rintro e w1 ⟨hk1, hc1⟩
 have hkA : Keeps [b] w w1 := hk0.trans hk1
 have hr1 := hr0.keep hk1 (by simp; omega)
 cases q1 with
 | bad k =>
  subst hc1
  have hq' : q = .bad k := hq
  subst hq'
  simp only [fault]
  exact ⟨rfl, hkA, rfl⟩
 | ok m k =>
  obtain ⟨rfl, hqA⟩ := hc1
  have hok := hq1.ok m k rfl
  have hkle : k ≤ p.s.size := hok.2.1 hle
  have hm5 : m ≤ 5 := hok.2.2.1 (by omega)
  clear hq1 hq0 hr0 hk0 hk1 hok
  go_wp2_with fail
  refine (skip_any b { p with ix := k } 44 (by omega) _ hqA hkle hs).mono ?_
  rintro e w2 ⟨rfl, hqB, hk2⟩
  have hkB : Keeps [b] w w2 := hkA.trans hk2
  have hr2 := hr1.keep hk2 (by simp; omega)
  clear hqA hkA hr1 hk2
  by_cases h44 : at' p.s k = 44
  ·obtain ⟨e1, e2⟩ := took_yes (p := { p with ix := k }) h44
   rw [e1]
   rw [e2] at hqB
   have hk1le : k + 1 ≤ p.s.size := at'_nn (by omega)
   clear e1 e2
   go_wp2_with fail
   refine (ahead_any b { p with ix := k + 1 } 125 (by omega) _ hqB hk1le hs).mono ?_
   rintro e w3 ⟨rfl, hqC, hk3⟩
   have hkC : Keeps [b] w w3 := hkB.trans (hk3.mono (by simp))
   have hr3 := hr2.keep hk3 (by simp)
   by_cases h125 : at' p.s (k + 1) = 125
   ·have hd : decide (QS.cur { p with ix := k + 1 } = 125) = true := by simpa using (show QS.cur { p with ix := k + 1 } = 125 from h125)
    rw [hd]
    have he : q = .ok (some (m, -1)) (k + 2) := by
     rcases hq with ⟨_, _, e⟩ | ⟨_, h, _⟩ | ⟨h, _⟩
     ·exact e
     ·exact absurd h125 h
     ·exact absurd h44 h
    subst he
    have H125 : at' p.s (k + 1) = 125 := h125
    clear hq h125 hd
    have HX : Hid (at' p.s (k + 1) = 125) := H125
    go_wp2_with fail
    refine (expect_any b { p with ix := (k + 1) } 125 (by omega) _ hqC hk1le hs).mono ?_
    rintro e wf ⟨hkf, hcf⟩
    have hkF : Keeps [b] w wf := hkC.trans hkf
    have hrF : RRow wf g (repC none) := hr3.keep hkf (by simp; omega)
    by_cases hE : at' p.s (k + 1) = 125
    ·rw [show needS (QS.s { p with ix := (k + 1) }) 125 (QS.ix { p with ix := (k + 1) }) = .ok () ((k + 1) + 1) from if_pos hE] at hcf
     obtain ⟨rfl, hqF⟩ := hcf
     skip
     clear hE
     go_wp2_with (first | (refine wpList_store_row rfl 210 _ _ rfl g _ rfl rfl _ _ hrF infoRepC rfl (rep_one _ _ _) ?_))
     refine bodyPost_ret (results_cell_row rfl _ _ g _ _ _ _ rfl (setRow_heap _ _ _ _ _ _ hrF) Tryz.underlying210 rfl infoRepC) rfl ?_
     exact ⟨hkF.setRow (Or.inr (by omega)) _, rfl, hqF.keep ((Keeps.refl [g] wf).setRow (by simp) _) (by simp; omega)⟩
    ·rw [show needS (QS.s { p with ix := (k + 1) }) 125 (QS.ix { p with ix := (k + 1) }) = .bad (k + 1) from if_neg hE] at hcf
     subst hcf
     exact absurd HX.out hE
   ·have hd : decide (QS.cur { p with ix := k + 1 } = 125) = false := by simpa using (show ¬ QS.cur { p with ix := k + 1 } = 125 from h125)
    rw [hd]
    obtain ⟨q2, hN2, hR3⟩ : ∃ q2, NumL p.s m 0 false (k + 1) q2 ∧ Rep3 p.s m q2 q := by
     rcases hq with ⟨_, h, _⟩ | ⟨_, _, q2, h1, h2⟩ | ⟨h, _⟩
     ·exact absurd h h125
     ·exact ⟨q2, h1, h2⟩
     ·exact absurd h44 h
    clear hq h125 hd
    go_wp2_with fail
    refine (number_prog b { p with ix := k + 1 } m _ hqC hs hk1le q2 hN2).mono ?_
    rintro e w4 ⟨hk4, hc4⟩
    have hkD : Keeps [b] w w4 := hkC.trans hk4
    have hr4 := hr3.keep hk4 (by simp; omega)
    cases q2 with
    | bad l =>
     subst hc4
     have hq' : q = .bad l := hR3
     subst hq'
     simp only [fault]
     exact ⟨rfl, hkD, rfl⟩
    | ok n l =>
     obtain ⟨rfl, hqD⟩ := hc4
     have hlle : l ≤ p.s.size := (hN2.ok n l rfl).2.1 hk1le
     have HE : Hid (q = if at' p.s l = 125 then .ok (some (m, (n : Int))) (l + 1) else .bad l) := hR3
     clear hN2 hR3
     go_wp2_with fail
     refine (expect_any b { p with ix := l } 125 (by omega) _ hqD hlle hs).mono ?_
     rintro e wf ⟨hkf, hcf⟩
     have hkF : Keeps [b] w wf := hkD.trans hkf
     have hrF : RRow wf g (repC none) := hr4.keep hkf (by simp; omega)
     by_cases hE : at' p.s l = 125
     ·rw [show needS (QS.s { p with ix := l }) 125 (QS.ix { p with ix := l }) = .ok () (l + 1) from if_pos hE] at hcf
      obtain ⟨rfl, hqF⟩ := hcf
      have he := HE.out; rw [if_pos hE] at he; subst he
      clear hE
      go_wp2_with (first | (refine wpList_store_row rfl 210 _ _ rfl g _ rfl rfl _ _ hrF infoRepC rfl (rep_one _ _ _) ?_))
      refine bodyPost_ret (results_cell_row rfl _ _ g _ _ _ _ rfl (setRow_heap _ _ _ _ _ _ hrF) Tryz.underlying210 rfl infoRepC) rfl ?_
      exact ⟨hkF.setRow (Or.inr (by omega)) _, rfl, hqF.keep ((Keeps.refl [g] wf).setRow (by simp) _) (by simp; omega)⟩
     ·rw [show needS (QS.s { p with ix := l }) 125 (QS.ix { p with ix := l }) = .bad l from if_neg hE] at hcf
      subst hcf
      have he := HE.out; rw [if_neg hE] at he; subst he
      simp only [fault]
      exact ⟨rfl, hkF, rfl⟩
  ·obtain ⟨e1, e2⟩ := took_no (p := { p with ix := k }) h44
   rw [e1]
   rw [e2] at hqB
   have HE : Hid (q = if at' p.s k = 125 then .ok (some (m, (m : Int))) (k + 1) else .bad k) := by
    show q = if at' p.s k = 125 then .ok (some (m, (m : Int))) (k + 1) else .bad k
    rcases hq with ⟨h, _⟩ | ⟨h, _⟩ | ⟨_, h⟩
    ·exact absurd h h44
    ·exact absurd h h44
    ·exact h
   clear e1 e2 hq
   go_wp2_with fail
   refine (expect_any b { p with ix := k } 125 (by omega) _ hqB hkle hs).mono ?_
   rintro e wf ⟨hkf, hcf⟩
   have hkF : Keeps [b] w wf := hkB.trans hkf
   have hrF : RRow wf g (repC none) := hr2.keep hkf (by simp; omega)
   by_cases hE : at' p.s k = 125
   ·rw [show needS (QS.s { p with ix := k }) 125 (QS.ix { p with ix := k }) = .ok () (k + 1) from if_pos hE] at hcf
    obtain ⟨rfl, hqF⟩ := hcf
    have he := HE.out; rw [if_pos hE] at he; subst he
    clear hE
    go_wp2_with (first | (refine wpList_store_row rfl 210 _ _ rfl g _ rfl rfl _ _ hrF infoRepC rfl (rep_one _ _ _) ?_))
    refine bodyPost_ret (results_cell_row rfl _ _ g _ _ _ _ rfl (setRow_heap _ _ _ _ _ _ hrF) Tryz.underlying210 rfl infoRepC) rfl ?_
    exact ⟨hkF.setRow (Or.inr (by omega)) _, rfl, hqF.keep ((Keeps.refl [g] wf).setRow (by simp) _) (by simp; omega)⟩
   ·rw [show needS (QS.s { p with ix := k }) 125 (QS.ix { p with ix := k }) = .bad k from if_neg hE] at hcf
    subst hcf
    have he := HE.out; rw [if_neg hE] at he; subst he
    simp only [fault]
    exact ⟨rfl, hkF, rfl⟩
set_option maxRecDepth 100000 in
set_option maxHeartbeats 2000000 in
theorem repeat_prog (b : Nat) (p : QS) (w : World) (hp : QB w b p) (hs : p.s.size ≤ 60) (hle : p.ix ≤ p.s.size) (q : R (Option (Nat × Int))) (hq : RepR p.s p.ix q) :
    Calls Tryz.prog 205 #[.pointer (some ⟨b, 0, none⟩)] w (RepPost b p w q) := by
 have hbl := hp.lt
 have hr0 : RRow (w.alloc (.cells (repC none).toArray 210)) w.heap.size (repC none) := heap_alloc_new w _
 have hk0 : Keeps [b] w (w.alloc (.cells (repC none).toArray 210)) := (Keeps.refl [b] w).alloc _
 have hq0 : QB (w.alloc (.cells (repC none).toArray 210)) b p := hp.keep ((Keeps.refl [] w).alloc _) (by simp)
 obtain ⟨g, hg⟩ : ∃ g, w.heap.size = g := ⟨_, rfl⟩
 clear hp
 go_enter Tryz.func205, Tryz.ntmps205
 go_wp2_with (first | (refine wpList_zeroRep rfl rfl (some 2) rfl ?_; generalize w.alloc (.cells (repC none).toArray 210) = W at *))
 rw [hg] at hr0 hbl
 refine (skip_any b p 42 (by omega) _ hq0 hle hs).mono ?_
 rintro e w1 ⟨rfl, hqa1, hk1⟩
 have hkk1 : Keeps [b] w w1 := hk0.trans hk1
 have hr1 := hr0.keep hk1 (by simp; omega)
 by_cases h42 : at' p.s p.ix = 42
 ·obtain ⟨e1, e2⟩ := took_yes (p := p) h42
  rw [e1]
  rw [e2] at hqa1
  have he : q = .ok (some (0, -1)) (p.ix + 1) := RepR.det hq (Or.inr (Or.inl ⟨h42, rfl⟩))
  subst he
  clear hq h42 e1 e2
  go_wp2_with (first | (refine wpList_store_row rfl 210 _ _ rfl g _ rfl rfl _ _ hr1 infoRepC rfl (rep_one _ _ _) ?_))
  refine bodyPost_ret (results_cell_row rfl _ _ g _ _ _ _ rfl (setRow_heap _ _ _ _ _ _ hr1) Tryz.underlying210 rfl infoRepC) rfl ?_
  exact ⟨hkk1.setRow (Or.inr (by omega)) _, rfl, hqa1.keep ((Keeps.refl [g] _).setRow (by simp) _) (by simp; omega)⟩
 ·obtain ⟨e1, e2⟩ := took_no (p := p) h42
  rw [e1]
  rw [e2] at hqa1
  have hq1 := hqa1
  clear e1 e2
  go_wp2_with fail
  refine (skip_any b p 43 (by omega) _ hq1 hle hs).mono ?_
  rintro e w2 ⟨rfl, hqa2, hk2⟩
  have hkk2 : Keeps [b] w w2 := hkk1.trans hk2
  have hr2 := hr1.keep hk2 (by simp; omega)
  by_cases h43 : at' p.s p.ix = 43
  ·obtain ⟨e1, e2⟩ := took_yes (p := p) h43
   rw [e1]
   rw [e2] at hqa2
   have he : q = .ok (some (1, -1)) (p.ix + 1) := RepR.det hq (Or.inr (Or.inr (Or.inl ⟨h43, rfl⟩)))
   subst he
   clear hq h43 e1 e2
   go_wp2_with (first | (refine wpList_store_row rfl 210 _ _ rfl g _ rfl rfl _ _ hr2 infoRepC rfl (rep_one _ _ _) ?_))
   refine bodyPost_ret (results_cell_row rfl _ _ g _ _ _ _ rfl (setRow_heap _ _ _ _ _ _ hr2) Tryz.underlying210 rfl infoRepC) rfl ?_
   exact ⟨hkk2.setRow (Or.inr (by omega)) _, rfl, hqa2.keep ((Keeps.refl [g] _).setRow (by simp) _) (by simp; omega)⟩
  ·obtain ⟨e1, e2⟩ := took_no (p := p) h43
   rw [e1]
   rw [e2] at hqa2
   have hq2 := hqa2
   clear e1 e2
   go_wp2_with fail
   refine (skip_any b p 63 (by omega) _ hq2 hle hs).mono ?_
   rintro e w3 ⟨rfl, hqa3, hk3⟩
   have hkk3 : Keeps [b] w w3 := hkk2.trans hk3
   have hr3 := hr2.keep hk3 (by simp; omega)
   by_cases h63 : at' p.s p.ix = 63
   ·obtain ⟨e1, e2⟩ := took_yes (p := p) h63
    rw [e1]
    rw [e2] at hqa3
    have he : q = .ok (some (0, 1)) (p.ix + 1) := RepR.det hq (Or.inr (Or.inr (Or.inr (Or.inl ⟨h63, rfl⟩))))
    subst he
    clear hq h63 e1 e2
    go_wp2_with (first | (refine wpList_store_row rfl 210 _ _ rfl g _ rfl rfl _ _ hr3 infoRepC rfl (rep_one _ _ _) ?_))
    refine bodyPost_ret (results_cell_row rfl _ _ g _ _ _ _ rfl (setRow_heap _ _ _ _ _ _ hr3) Tryz.underlying210 rfl infoRepC) rfl ?_
    exact ⟨hkk3.setRow (Or.inr (by omega)) _, rfl, hqa3.keep ((Keeps.refl [g] _).setRow (by simp) _) (by simp; omega)⟩
   ·obtain ⟨e1, e2⟩ := took_no (p := p) h63
    rw [e1]
    rw [e2] at hqa3
    have hq3 := hqa3
    clear e1 e2
    go_wp2_with fail
    refine (skip_any b p 123 (by omega) _ hq3 hle hs).mono ?_
    rintro e w4 ⟨rfl, hqa4, hk4⟩
    have hkk4 : Keeps [b] w w4 := hkk3.trans hk4
    have hr4 := hr3.keep hk4 (by simp; omega)
    by_cases h123 : at' p.s p.ix = 123
    ·obtain ⟨e1, e2⟩ := took_yes (p := p) h123
     rw [e1]
     rw [e2] at hqa4
     obtain ⟨q1, hN, hR2⟩ : ∃ q1, NumL p.s 0 0 false (p.ix + 1) q1 ∧ Rep2 p.s q1 q := by
      rcases hq with ⟨_, _, _, h, _⟩ | ⟨h, _⟩ | ⟨h, _⟩ | ⟨h, _⟩ | ⟨_, q1, h1, h2⟩
      ·exact absurd h123 h
      ·omega
      ·omega
      ·omega
      ·exact ⟨q1, h1, h2⟩
     have hle1 : p.ix + 1 ≤ p.s.size := at'_nn (by omega)
     clear hq h123 e1 e2
     go_wp2_with fail
     refine (counted_prog b { p with ix := p.ix + 1 } _ hqa4 hs hle1 q1 hN q hR2).mono ?_
     rintro e w5 ⟨hk5, hc5⟩
     have hkk5 : Keeps [b] w w5 := hkk4.trans hk5
     have hr5 := hr4.keep hk5 (by simp; omega)
     cases q with
     | bad j =>
      subst hc5
      simp only [fault]
      exact ⟨rfl, hkk5, rfl⟩
     | ok o j =>
      obtain ⟨rfl, hq5⟩ := hc5
      go_wp2_with (first | (refine wpList_store_row rfl 210 _ _ rfl g _ rfl rfl _ _ hr5 (infoRepO o) (by rw [repO_size, repO_size]) (repO_one o) ?_))
      refine bodyPost_ret (results_cell_row rfl _ _ g _ _ _ _ rfl (setRow_heap _ _ _ _ _ _ hr5) Tryz.underlying210 rfl (infoRepO o)) rfl ?_
      exact ⟨hkk5.setRow (Or.inr (by omega)) _, rfl, hq5.keep ((Keeps.refl [g] _).setRow (by simp) _) (by simp; omega)⟩
    ·obtain ⟨e1, e2⟩ := took_no (p := p) h123
     rw [e1]
     rw [e2] at hqa4
     have hq4 := hqa4
     clear e1 e2
     have he : q = .ok none p.ix := RepR.det hq (Or.inl ⟨h42, h43, h63, h123, rfl⟩)
     subst he
     clear hq h42 h43 h63 h123
     go_wp2_with (first | (refine wpList_store_row rfl 210 _ _ rfl g _ rfl rfl _ _ hr4 infoRepC rfl (rep_one _ _ _) ?_))
     refine bodyPost_ret (results_cell_row rfl _ _ g _ _ _ _ rfl (setRow_heap _ _ _ _ _ _ hr4) Tryz.underlying210 rfl infoRepC) rfl ?_
     exact ⟨hkk4.setRow (Or.inr (by omega)) _, rfl, hqa4.keep ((Keeps.refl [g] _).setRow (by simp) _) (by simp; omega)⟩
end Go.Proofs.YtnfojonmohijpaaGreatDoor
namespace Go.Proofs.YtnfojonmohijpaaGreatDoor
open Go.RowKit
def notC_dec (c : Int) : Decidable (0 ≤ c ∧ ¬ notC c) := inferInstanceAs (Decidable (0 ≤ c ∧ ¬ (c = 94 ∨ c = 36 ∨ c = 124 ∨ c = 41 ∨ c = 42 ∨ c = 43 ∨ c = 63 ∨ c = 123)))
def aheadB (c : Int) : Bool := @decide (0 ≤ c ∧ ¬ notC c) (notC_dec c)
set_option maxRecDepth 100000 in
theorem not_idx (c : Int) (h0 : 0 ≤ c) (h1 : c ≤ 255) : decide (Lib.indexByte (ByteArray.data ⟨#[94, 36, 124, 41, 42, 43, 63, 123]⟩).toList c.toNat.toUInt8 < 0) = aheadB c := by
 obtain ⟨n, rfl⟩ : ∃ n : Nat, c = n := ⟨c.toNat, by omega⟩
 have hn : n < 256 := by omega
 have key : ∀ m : Fin 256, decide (Lib.indexByte (ByteArray.data ⟨#[94, 36, 124, 41, 42, 43, 63, 123]⟩).toList ((m.val : Int)).toNat.toUInt8 < 0) = aheadB (m.val : Int) := by decide
 exact key ⟨n, hn⟩
set_option maxRecDepth 100000 in
set_option maxHeartbeats 400000 in
theorem singleAhead_any (b : Nat) (p : QS) (w : World) (hp : QB w b p) (hle : p.ix ≤ p.s.size) (hs : p.s.size ≤ 60) :
    Calls Tryz.prog 203 #[.pointer (some ⟨b, 0, none⟩)] w fun e w' => e = .returned (.bool (aheadB p.cur)) ∧ QB w' b p ∧ Keeps [] w w' := by
 by_cases hlt : p.ix < p.s.size
 ·have h0 : 0 ≤ p.cur := by show 0 ≤ at' p.s p.ix; rw [at'_lt hlt]; omega
  have h1 : p.cur ≤ 255 := (at'_bd p.s p.ix).2
  have hi := not_idx p.cur h0 h1
  by_cases hn : Lib.indexByte (ByteArray.data ⟨#[94, 36, 124, 41, 42, 43, 63, 123]⟩).toList p.cur.toNat.toUInt8 < 0
  ·rw [decide_eq_true hn] at hi
   rw [← hi]
   clear hi
   generalize hgx : Lib.indexByte (ByteArray.data ⟨#[94, 36, 124, 41, 42, 43, 63, 123]⟩).toList p.cur.toNat.toUInt8 = x at *
   go_enter Tryz.func203, Tryz.ntmps203
   go_wp2_with (first | (go_at_call 167; refine (peek_some b p _ hp hlt hs).mono ?_; rintro e w1 ⟨rfl, hp1, hk1⟩) | (go_at_call 246; refine (index_any _ p.cur _).mono ?_; rintro e w2 ⟨rfl, rfl⟩; rw [hgx]))
   go_ret
   exact ⟨ret_bool (by simp), hp1, hk1⟩
  ·rw [decide_eq_false hn] at hi
   rw [← hi]
   clear hi
   generalize hgx : Lib.indexByte (ByteArray.data ⟨#[94, 36, 124, 41, 42, 43, 63, 123]⟩).toList p.cur.toNat.toUInt8 = x at *
   go_enter Tryz.func203, Tryz.ntmps203
   go_wp2_with (first | (go_at_call 167; refine (peek_some b p _ hp hlt hs).mono ?_; rintro e w1 ⟨rfl, hp1, hk1⟩) | (go_at_call 246; refine (index_any _ p.cur _).mono ?_; rintro e w2 ⟨rfl, rfl⟩; rw [hgx]))
   go_ret
   exact ⟨ret_bool (by simp; omega), hp1, hk1⟩
 ·have hge : p.ix = p.s.size := by omega
  have HC : Hid (aheadB p.cur = false) := by
   show aheadB (at' p.s p.ix) = false
   rw [at'_ge (by omega)]; rfl
  go_enter Tryz.func203, Tryz.ntmps203
  go_wp2_with (first | (go_at_call 167; refine (peek_none b p _ hp hge).mono ?_; rintro e w1 ⟨rfl, hp1, hk1⟩))
  go_ret
  exact ⟨by rw [HC.out]; rfl, hp1, hk1⟩
def oddC (c : Int) : Prop := c = 94 ∨ c = 42 ∨ c = 43 ∨ c = 63 ∨ c = 123
def IsSl (v : Value) : Prop := ∃ a n c, v = .slice a n c
theorem IsSl.cells {v : Value} (h : IsSl v) : v.cells = #[v] := by obtain ⟨a, n, c, rfl⟩ := h; rfl
theorem IsSl.one {v : Value} (h : IsSl v) : v.oneCell' = true := by obtain ⟨a, n, c, rfl⟩ := h; rfl
theorem ownsRow_sl {w : World} {e : TypeId} {size : Nat} {v : Value} {n : Nat} {xs : List Value} (h : w.ownsRow 0 e size v n xs) : IsSl v := by
 rcases h.2 with ⟨rfl, _⟩ | ⟨g, cap, cur, rfl, _⟩ <;> exact ⟨_, _, _, rfl⟩
def WPost (kd : Kd) (kr : Kr) (b : Nat) (p : QS) (w : World) (e : Ending) (w' : World) : Prop :=
 ∃ q, G p.s kd p.op p.gr p.ix q ∧ Keeps [b] w w' ∧ match q with
  | .ok (x, g1) j => ∃ v, e = .returned v ∧ Rep w' (fun g => w.heap.size ≤ g) kr x [v] ∧ QB w' b { p with ix := j, gr := g1 }
  | .bad j => e = fault j ∨ ∃ v g1, e = .returned v ∧ IsSl v ∧ QB w' b { p with ix := j, gr := g1 } ∧ oddC (at' p.s j) ∧ p.ix ≤ j
def GSPost (b : Nat) (p : QS) (w : World) (e : Ending) (w' : World) : Prop :=
 ∃ q, G p.s .single p.op p.gr p.ix q ∧ Keeps [b] w w' ∧ match q with
  | .ok (x, g1) j => ∃ cs, e = .returned (.agg cs.toArray) ∧ Rep w' (fun g => w.heap.size ≤ g) .single x cs ∧ QB w' b { p with ix := j, gr := g1 }
  | .bad j => e = fault j
def WaysOk (n : Nat) : Prop := ∀ (b : Nat) (p : QS) (w : World), QB w b p → GN w → b ≠ 6 → p.s.size ≤ 60 → p.ix ≤ p.s.size → p.op ≤ 6 → p.gr ≤ 9 → p.s.size - p.ix < n →
 Calls Tryz.prog 117 #[.pointer (some ⟨b, 0, none⟩)] w (WPost .ways .ways b p w)
def SRow (w : World) (g : Nat) (cs : List Value) : Prop := w.heap[g]? = some (.cells cs.toArray 208 (0, 0))
theorem SRow.lt {w : World} {g : Nat} {cs : List Value} (h : SRow w g cs) : g < w.heap.size := (Array.getElem?_eq_some_iff.1 h).1
theorem SRow.keep {w w' : World} {g : Nat} {cs : List Value} {S : List Nat} (h : SRow w g cs) (hk : Keeps S w w') (hb : g ∉ S) : SRow w' g cs := (hk.block g h.lt hb).trans h
def sz : List Value := sc (.int .i64 0) (.slice none 0 0) fun _ => false
theorem infoSingle : (Tryz.prog.info? 208).map (·.size) = some 258 := by kernel_rfl
theorem infoSingleC {cs : List Value} (h : cs.length = 258) : (Tryz.prog.info? 208).map (·.size) = some cs.toArray.size := by rw [infoSingle]; simp [h]
theorem one_all {cs : List Value} (h : ∀ u ∈ cs, u.oneCell' = true) : cs.toArray.all (·.oneCell') = true := by simpa using h
theorem wpList_zeroSingle {ops : Array Oper} {rest : List Oper} {o : Oper} {a : Act} {w : World} {Q : Exit → Act → World → Prop} (hg : o.guard = none) (ho : o.op = .alloc 208) (d : Option Tmp) (hd : o.dst = d)
    (h : wpList Tryz.prog ops Q rest (a.put d (.pointer (some ⟨w.heap.size, 0, none⟩))) (w.alloc (.cells sz.toArray 208))) : wpList Tryz.prog ops Q (o :: rest) a w := by
 subst hd
 refine wpList_plain hg fun K hK => ?_
 unfold Oper.wp execOp
 simp only [ho, Sem.run_bind, alloc_single, Sem.run_pure, Result.andThen_ok]
 exact hK _ _ h
theorem sz_len : sz.length = 258 := sc_len _ _ _
theorem built_set (f : Nat → Bool) : Tryz.prog.built 208 [(2, .agg (hcells f))] = some (sc (.int .i64 0) (.slice none 0 0) f).toArray := by
 rw [built_single]
 have := fill_one plS 2 (.agg (hcells f)) [] [.int .i64 0, .slice none 0 0] (hcells fun _ => false).toList [] (by simp [plS, hcells_size]) (by simp [Value.cells, hcells_size])
 simp only [List.append_nil] at this
 exact this.trans rfl
theorem built_grp (k : Int) (v : Value) (hv : v.cells = #[v]) : Tryz.prog.built 208 [(0, .int .i64 k), (1, v)] = some (sc (.int .i64 k) v fun _ => false).toArray := by
 rw [built_single]
 have h1 := fill_one plS 0 (.int .i64 k) [(1, v)] [] [.int .i64 0] (.slice none 0 0 :: (hcells fun _ => false).toList) rfl rfl
 have h2 := fill_one plS 1 v [] [.int .i64 k] [.slice none 0 0] (hcells fun _ => false).toList rfl (by rw [hv]; rfl)
 rw [hv] at h2
 exact h1.trans (h2.trans rfl)
theorem wpList_build1 {ops : Array Oper} {rest : List Oper} {o : Oper} {a : Act} {w : World} {Q : Exit → Act → World → Prop} (hg : o.guard = none) (t i0 : Nat) (x0 : Operand) (ho : o.op = .build t #[(i0, x0)]) (d : Option Tmp) (hd : o.dst = d)
    (v0 : Value) (h0 : a.eval x0 = v0) (cells : Array Value) (hf : Tryz.prog.built t [(i0, v0)] = some cells) (h : wpList Tryz.prog ops Q rest (a.put d (.agg cells)) w) : wpList Tryz.prog ops Q (o :: rest) a w := by
 refine wpList_buildTo hg t _ ho d hd cells ?_ h
 subst h0
 simpa using hf
theorem wpList_build2 {ops : Array Oper} {rest : List Oper} {o : Oper} {a : Act} {w : World} {Q : Exit → Act → World → Prop} (hg : o.guard = none) (t i0 i1 : Nat) (x0 x1 : Operand) (ho : o.op = .build t #[(i0, x0), (i1, x1)]) (d : Option Tmp) (hd : o.dst = d)
    (v0 v1 : Value) (h0 : a.eval x0 = v0) (h1 : a.eval x1 = v1) (cells : Array Value) (hf : Tryz.prog.built t [(i0, v0), (i1, v1)] = some cells) (h : wpList Tryz.prog ops Q rest (a.put d (.agg cells)) w) : wpList Tryz.prog ops Q (o :: rest) a w := by
 refine wpList_buildTo hg t _ ho d hd cells ?_ h
 subst h0 h1
 simpa using hf
theorem sz_sc {k v : Value} {f : Nat → Bool} : sz.toArray.size = (sc k v f).toArray.size := by simp [sz_len, sc_len]
set_option maxRecDepth 100000 in
set_option maxHeartbeats 2000000 in
theorem group_prog (n : Nat) (IH : WaysOk n) (b : Nat) (p : QS) (w : World) (hp : QB w b p) (hgn : GN w) (hbg : b ≠ 6) (hs : p.s.size ≤ 60) (h40 : at' p.s p.ix = 40) (hop : p.op ≤ 6) (hgr : p.gr ≤ 9) (hn : p.s.size - p.ix ≤ n) :
    Calls Tryz.prog 247 #[.pointer (some ⟨b, 0, none⟩)] w (GSPost b p w) := by
 have hbl := hp.lt
 have hgl := hgn.lt
 have hlt : p.ix < p.s.size := at'_nn (by omega)
 have hr0 : SRow (w.alloc (.cells sz.toArray 208)) w.heap.size sz := heap_alloc_new w _
 have hk0 : Keeps [b] w (w.alloc (.cells sz.toArray 208)) := (Keeps.refl [b] w).alloc _
 have hq0 : QB (w.alloc (.cells sz.toArray 208)) b p := hp.keep ((Keeps.refl [] w).alloc _) (by simp)
 have hg0 : GN (w.alloc (.cells sz.toArray 208)) := hgn.keep ((Keeps.refl [] w).alloc _) (by simp)
 obtain ⟨g, hg⟩ : ∃ g, w.heap.size = g := ⟨_, rfl⟩
 obtain ⟨_, _, c2, c3, _, f2, f3⟩ := hq0.main
 clear hp hgn
 by_cases hdeep : p.op = 6 ∨ p.gr = 9
 ·have HD : Hid (GSPost b p w (fault p.ix) (w.alloc (.cells sz.toArray 208))) := ⟨.bad p.ix, .deep _ _ _ h40 hdeep, hk0, rfl⟩
  by_cases h6 : p.op = 6
  ·have h6' : ((p.op : Int) == 6) = true := by simpa using (by omega : (p.op : Int) = 6)
   clear hdeep h6
   go_enter Tryz.func247, Tryz.ntmps247
   go_wp2_with (first | (refine wpList_zeroSingle rfl rfl (some 2) rfl ?_; generalize w.alloc (.cells sz.toArray 208) = W at *))
   refine (pfail_any b p _ hq0).mono ?_
   rintro e w4 ⟨rfl, rfl⟩
   have hd := HD.out
   simp only [fault] at hd ⊢
   exact ⟨rfl, hd⟩
  ·have h6' : ((p.op : Int) == 6) = false := by simpa using (by omega : ¬ (p.op : Int) = 6)
   have h9' : ((p.gr : Int) == 9) = true := by simpa using (by omega : (p.gr : Int) = 9)
   clear hdeep h6
   go_enter Tryz.func247, Tryz.ntmps247
   go_wp2_with (first | (refine wpList_zeroSingle rfl rfl (some 2) rfl ?_; generalize w.alloc (.cells sz.toArray 208) = W at *))
   refine (pfail_any b p _ hq0).mono ?_
   rintro e w4 ⟨rfl, rfl⟩
   have hd := HD.out
   simp only [fault] at hd ⊢
   exact ⟨rfl, hd⟩
 ·have h6' : ((p.op : Int) == 6) = false := by simpa using (by omega : ¬ (p.op : Int) = 6)
  have h9' : ((p.gr : Int) == 9) = false := by simpa using (by omega : ¬ (p.gr : Int) = 9)
  have HD : Hid (¬ (p.op = 6 ∨ p.gr = 9)) := hdeep
  have ho5 : p.op ≤ 5 := by omega
  have hg8 : p.gr ≤ 8 := by omega
  clear hdeep
  go_enter Tryz.func247, Tryz.ntmps247
  go_wp2_with (first | (refine wpList_zeroSingle rfl rfl (some 2) rfl ?_; generalize w.alloc (.cells sz.toArray 208) = W at *))
  refine (expect_ok b p 40 (by omega) _ hq0 hs h40).mono ?_
  rintro e w1 ⟨rfl, hq1, hk1⟩
  rw [hg] at hr0 hbl hgl
  have hr1 := hr0.keep hk1 (by simp; omega)
  have hg1 := hg0.keep hk1 (by simp; omega)
  have hkA : Keeps [b] w w1 := hk0.trans hk1
  obtain ⟨_, _, d2, d3, _, k2, k3⟩ := hq1.main
  have hq2 := (hq1.setOp (p.op + 1)).setGr (p.gr + 1)
  have hk2 : Keeps [b] w1 ((w1.setCell ⟨b, 2, none⟩ (.int .i64 ((p.op + 1 : Nat) : Int))).setCell ⟨b, 3, none⟩ (.int .i64 ((p.gr + 1 : Nat) : Int))) := ((Keeps.refl [b] w1).setCell (by simp) _).setCell (by simp) _
  have e1 : ((p.op + 1 : Nat) : Int) = (p.op : Int) + 1 := by omega
  have e2 : ((p.gr + 1 : Nat) : Int) = (p.gr : Int) + 1 := by omega
  rw [e1, e2] at hq2 hk2
  have hr2 := hr1.keep hk2 (by simp; omega)
  have hg2 := hg1.keep hk2 (by simp; omega)
  have hkB := hkA.trans hk2
  have hop1 : ((p.op : Int) + 1) - 1 = p.op := by omega
  clear c2 c3 f2 f3 hk0 hq0 hg0 hr0 hk1 h6' h9' hr1 hg1 hkA e1 e2
  go_wp2_with fail
  generalize (w1.setCell ⟨b, 2, none⟩ (.int .i64 ((p.op : Int) + 1))).setCell ⟨b, 3, none⟩ (.int .i64 ((p.gr : Int) + 1)) = w2 at *
  refine (IH b { p with ix := p.ix + 1, op := p.op + 1, gr := p.gr + 1 } w2 hq2 hg2 hbg hs hlt (by simp; omega) (by simp; omega) (by simp; omega)).mono ?_
  rintro e w3 ⟨q, hG, hk3, hc3⟩
  have hkC := hkB.trans hk3
  have hr3 := hr2.keep hk3 (by simp; omega)
  have hsz2 : g < w2.heap.size := hr2.lt
  clear hq2 hg2 hkB hr2 d2 d3 k2 k3 hq1 hk2
  cases q with
  | bad j =>
   rcases hc3 with rfl | ⟨v, g1, rfl, hv1, hq3, hodd, _⟩
   ·simp only [fault]
    exact ⟨rfl, .bad j, .gbad _ _ _ _ h40 HD.out hG, hkC, rfl⟩
   ·have hj0 : 0 ≤ at' p.s j := by unfold oddC at hodd; simp at hodd; omega
    have hjle : j ≤ p.s.size := Nat.le_of_lt (at'_nn hj0)
    have hj41 : at' p.s j ≠ 41 := by unfold oddC at hodd; simp at hodd; omega
    have HB : Hid (G p.s .single p.op p.gr p.ix (.bad j)) := .gbad _ _ _ _ h40 HD.out hG
    clear hodd hG
    go_wp2_with fail
    refine (expect_bad b { p with ix := j, op := p.op + 1, gr := g1 } 41 (by omega) _ hq3 hjle hs hj41).mono ?_
    rintro e w4 ⟨rfl, hk4⟩
    simp only [fault]
    exact ⟨rfl, .bad j, HB.out, hkC.trans hk4, rfl⟩
  | ok y j =>
   obtain ⟨x, g1⟩ := y
   obtain ⟨v, rfl, hrep, hq3⟩ := hc3
   have hokb := hG.okb x g1 j rfl
   have hjle : j ≤ p.s.size := hokb.2.1 hlt
   by_cases h41 : at' p.s j = 41
   ·have HB : Hid (G p.s .single p.op p.gr p.ix (.ok (.grp (p.gr + 1) x, g1) (j + 1))) := .grp _ _ _ _ _ _ h40 HD.out hG h41
    have hvc : v.cells = #[v] := by
     obtain ⟨u, hu, hu2⟩ := hrep.cells.2
     cases hu
     exact hu2
    clear hG
    go_wp2_with fail
    refine (expect_ok b { p with ix := j, op := p.op + 1, gr := g1 } 41 (by omega) _ hq3 hs h41).mono ?_
    rintro e w4 ⟨rfl, hq4, hk4⟩
    have hkD := hkC.trans hk4
    have hr4 := hr3.keep hk4 (by simp; omega)
    have hrep4 := hrep.keep hk4 (by intro x hx; simp; omega)
    obtain ⟨_, _, d2, d3, _, k2, k3⟩ := hq4.main
    have hq5 := hq4.setOp p.op
    have hk5 : Keeps [b] w4 (w4.setCell ⟨b, 2, none⟩ (.int .i64 (p.op : Int))) := (Keeps.refl [b] w4).setCell (by simp) _
    have hr5 := hr4.keep hk5 (by simp; omega)
    have hkE := hkD.trans hk5
    have hrep5 := hrep4.keep hk5 (by intro x hx; simp; omega)
    have hbg5 := built_grp ((p.gr : Int) + 1) v hvc
    have hd2 : (((p.op + 1 : Nat) : Int)) = (p.op : Int) + 1 := by omega
    simp only [hd2] at d2
    have hgc : ∀ u ∈ sc (.int .i64 ((p.gr : Int) + 1)) v (fun _ => false), u.oneCell' = true := by
     have := (Rep.grp (p.gr + 1) x v (by omega) (by omega) hrep5).cells.1
     simpa using this
    clear hq4 hq3 hr3 hr4 hrep hrep4 hkC hkD hk4 hd2
    go_wp2_with (first | (refine wpList_build2 rfl 208 0 1 _ _ rfl (some 58) rfl _ _ rfl rfl _ hbg5 ?_) | (refine wpList_store_row rfl 208 _ _ rfl g _ rfl rfl _ _ hr5 (infoSingleC (sc_len _ _ _)) sz_sc (one_all hgc) ?_))
    refine bodyPost_ret (results_cell_row rfl _ _ g _ _ _ _ rfl (setRow_heap _ _ _ _ _ _ hr5) Tryz.underlying208 rfl (infoSingleC (sc_len _ _ _))) rfl ?_
    have hkR := (Keeps.refl [g] (w4.setCell ⟨b, 2, none⟩ (.int .i64 (p.op : Int)))).setRow (g := g) (by simp) (sc (.int .i64 ((p.gr : Int) + 1)) v fun _ => false).toArray
    refine ⟨_, HB.out, hkE.setRow (Or.inr (by omega)) _, _, rfl, ?_, hq5.keep hkR (by simp; omega)⟩
    exact Rep.grp (p.gr + 1) x v (by omega) (by omega) ((hrep5.keep hkR (by intro x hx; simp; omega)).mono (by intro x hx _; omega))
   ·have HB : Hid (G p.s .single p.op p.gr p.ix (.bad j)) := .gopen _ _ _ _ _ _ h40 HD.out hG h41
    clear hG
    go_wp2_with fail
    refine (expect_bad b { p with ix := j, op := p.op + 1, gr := g1 } 41 (by omega) _ hq3 hjle hs h41).mono ?_
    rintro e w4 ⟨rfl, hk4⟩
    simp only [fault]
    exact ⟨rfl, .bad j, HB.out, hkC.trans hk4, rfl⟩
end Go.Proofs.YtnfojonmohijpaaGreatDoor
namespace Go.Proofs.YtnfojonmohijpaaGreatDoor
open Go.RowKit
theorem one_stretch {c : Nat} {a : Int} (h : a = c) : hcells (fun n => decide (n = c)) = hcells (stretch a a) := by
 subst h
 refine hcells_congr fun n _ => ?_
 by_cases e : n = c
 ·subst e; simp [stretch]
 ·have : ¬ ((c : Int) ≤ (n : Int) ∧ (n : Int) ≤ (c : Int)) := by omega
  simp only [stretch, e, decide_false]
  rw [eq_comm, Bool.and_eq_false_iff]
  simp only [decide_eq_false_iff_not]
  omega
set_option maxRecDepth 100000 in
set_option maxHeartbeats 2000000 in
theorem single_prog (n : Nat) (IH : WaysOk n) (b : Nat) (p : QS) (w : World) (hp : QB w b p) (hgn : GN w) (hbg : b ≠ 6) (hs : p.s.size ≤ 60) (hah : 0 ≤ at' p.s p.ix ∧ ¬ notC (at' p.s p.ix)) (hop : p.op ≤ 6) (hgr : p.gr ≤ 9) (hn : p.s.size - p.ix ≤ n) :
    Calls Tryz.prog 204 #[.pointer (some ⟨b, 0, none⟩)] w (GSPost b p w) := by
 have hbl := hp.lt
 have hgl := hgn.lt
 have hlt : p.ix < p.s.size := at'_nn hah.1
 have hr0 : SRow (w.alloc (.cells sz.toArray 208)) w.heap.size sz := heap_alloc_new w _
 have hk0 : Keeps [b] w (w.alloc (.cells sz.toArray 208)) := (Keeps.refl [b] w).alloc _
 have hq0 : QB (w.alloc (.cells sz.toArray 208)) b p := hp.keep ((Keeps.refl [] w).alloc _) (by simp)
 have hg0 : GN (w.alloc (.cells sz.toArray 208)) := hgn.keep ((Keeps.refl [] w).alloc _) (by simp)
 obtain ⟨g, hg⟩ : ∃ g, w.heap.size = g := ⟨_, rfl⟩
 clear hp hgn
 go_enter Tryz.func204, Tryz.ntmps204
 go_wp2_with (first | (refine wpList_zeroSingle rfl rfl (some 2) rfl ?_; generalize w.alloc (.cells sz.toArray 208) = W at *))
 rw [hg] at hr0 hbl hgl
 refine (peek_some b p _ hq0 hlt hs).mono ?_
 rintro e w1 ⟨rfl, hq1, hk1⟩
 have hr1 := hr0.keep hk1 (by simp)
 have hg1 := hg0.keep hk1 (by simp)
 have hkA : Keeps [b] w w1 := hk0.trans (hk1.mono (by simp))
 have hsz1 : g < w1.heap.size := hr1.lt
 clear hq0 hr0 hg0 hk0 hk1
 have hcb := (at'_bd p.s p.ix).2
 obtain ⟨c, hc⟩ : ∃ c : Nat, p.cur = c := ⟨p.cur.toNat, by have : 0 ≤ p.cur := hah.1; omega⟩
 have hca : at' p.s p.ix = c := hc
 have hc256 : c < 256 := by omega
 rw [hc]
 by_cases h40 : c = 40
 ·have H40 : Hid (at' p.s p.ix = 40) := by show at' p.s p.ix = 40; omega
  have h40' : ((c : Int) == 40) = true := by simpa using (by omega : (c : Int) = 40)
  clear h40 hc hca
  go_wp2_with fail
  refine (group_prog n IH b p _ hq1 hg1 hbg hs H40.out hop hgr hn).mono ?_
  rintro e w2 ⟨q, hG, hk2, hc2⟩
  have hkB := hkA.trans hk2
  have hr2 := hr1.keep hk2 (by simp; omega)
  cases q with
  | bad j =>
   subst hc2
   simp only [fault]
   exact ⟨rfl, _, hG, hkB, rfl⟩
  | ok y j =>
   obtain ⟨x, g1⟩ := y
   obtain ⟨cs, rfl, hrep, hq2⟩ := hc2
   have hl2 : cs.length = 258 := hrep.cells.2
   have hzz : sz.toArray.size = cs.toArray.size := by simp [sz_len, hl2]
   have hgc := hrep.cells.1
   go_wp2_with (first | (refine wpList_store_row rfl 208 _ _ rfl g _ rfl rfl _ _ hr2 (infoSingleC hl2) hzz (one_all hgc) ?_))
   refine bodyPost_ret (results_cell_row rfl _ _ g _ _ _ _ rfl (setRow_heap _ _ _ _ _ _ hr2) Tryz.underlying208 rfl (infoSingleC hl2)) rfl ?_
   have hkR := (Keeps.refl [g] w2).setRow (g := g) (by simp) cs.toArray
   exact ⟨_, hG, hkB.setRow (Or.inr (by omega)) _, _, rfl, (hrep.keep hkR (by intro x hx; simp; omega)).mono (by intro x hx _; omega), hq2.keep hkR (by simp; omega)⟩
 have h40' : ((c : Int) == 40) = false := by simpa using (by omega : ¬ (c : Int) = 40)
 by_cases h91 : c = 91
 ·have H91 : Hid (at' p.s p.ix = 91) := by show at' p.s p.ix = 91; omega
  have h91' : ((c : Int) == 91) = true := by simpa using (by omega : (c : Int) = 91)
  clear h40 h91 hc hca
  go_wp2_with fail
  refine (set_prog b p _ hq1 hs H91.out hg1 hbg).mono ?_
  rintro e w2 ⟨q, hS, hk2, hc2⟩
  have hkB := hkA.trans hk2
  have hr2 := hr1.keep hk2 (by simp; omega)
  have hG : G p.s .single p.op p.gr p.ix (q.map fun f => (.set f, p.gr)) := .set _ _ _ _ H91.out hS
  cases q with
  | bad j =>
   subst hc2
   simp only [fault]
   exact ⟨rfl, _, hG, hkB, rfl⟩
  | ok f j =>
   obtain ⟨rfl, hq2⟩ := hc2
   have HG : Hid (G p.s .single p.op p.gr p.ix (.ok (.set f, p.gr) j)) := hG
   clear hG hS
   have hbs := built_set f
   have hgc := (Rep.set (w := w2) (S := fun x => w.heap.size ≤ x) f).cells.1
   go_wp2_with (first | (refine wpList_build1 rfl 208 2 (.tmp 28) rfl (some 29) rfl (.agg (hcells f)) rfl _ hbs ?_) | (refine wpList_store_row rfl 208 _ _ rfl g _ rfl rfl _ _ hr2 (infoSingleC (sc_len _ _ _)) sz_sc (one_all hgc) ?_))
   refine bodyPost_ret (results_cell_row rfl _ _ g _ _ _ _ rfl (setRow_heap _ _ _ _ _ _ hr2) Tryz.underlying208 rfl (infoSingleC (sc_len _ _ _))) rfl ?_
   have hkR := (Keeps.refl [g] w2).setRow (g := g) (by simp) (sc (.int .i64 0) (.slice none 0 0) f).toArray
   exact ⟨_, HG.out, hkB.setRow (Or.inr (by omega)) _, _, rfl, Rep.set f, hq2.keep hkR (by simp; omega)⟩
 have h91' : ((c : Int) == 91) = false := by simpa using (by omega : ¬ (c : Int) = 91)
 by_cases h92 : c = 92
 ·have H92 : Hid (at' p.s p.ix = 92) := by show at' p.s p.ix = 92; omega
  have h92' : ((c : Int) == 92) = true := by simpa using (by omega : (c : Int) = 92)
  clear h40 h91 h92 hc hca
  go_wp2_with fail
  refine (escaped_prog b p 0 _ hq1 hs (by omega) (by omega) H92.out).mono ?_
  rintro e w2 ⟨hk2, hc2⟩
  have hkB := hkA.trans hk2
  have hr2 := hr1.keep hk2 (by simp; omega)
  have hG : G p.s .single p.op p.gr p.ix ((escS p.s 0 (p.ix + 1)).map fun a => (.set (stretch a a), p.gr)) := .esc _ _ _ H92.out
  cases hes : escS p.s 0 (p.ix + 1) with
  | bad j =>
   rw [hes] at hc2 hG
   subst hc2
   simp only [fault]
   exact ⟨rfl, _, hG, hkB, rfl⟩
  | ok a j =>
   rw [hes] at hc2 hG
   obtain ⟨rfl, hq2⟩ := hc2
   have hab := escS_ok hes
   obtain ⟨m, hm⟩ : ∃ m : Nat, a = m := ⟨a.toNat, by omega⟩
   have HG : Hid (G p.s .single p.op p.gr p.ix (.ok (.set (stretch a a), p.gr) j)) := hG
   have ho := one_stretch hm
   clear hG hes
   subst hm
   go_wp2_with fail
   refine (one_set m (by omega) _).mono ?_
   rintro e w3 ⟨rfl, hk3⟩
   rw [ho]
   have hkC := hkB.trans (hk3.mono (by simp))
   have hr3 := hr2.keep hk3 (by simp)
   have hq3 := hq2.keep hk3 (by simp)
   clear ho
   have hbs := built_set (stretch (m : Int) (m : Int))
   have hgc := (Rep.set (w := w3) (S := fun x => w.heap.size ≤ x) (stretch (m : Int) (m : Int))).cells.1
   go_wp2_with (first | (refine wpList_build1 rfl 208 2 (.tmp 34) rfl (some 35) rfl (.agg (hcells (stretch (m : Int) (m : Int)))) rfl _ hbs ?_) | (refine wpList_store_row rfl 208 _ _ rfl g _ rfl rfl _ _ hr3 (infoSingleC (sc_len _ _ _)) sz_sc (one_all hgc) ?_))
   refine bodyPost_ret (results_cell_row rfl _ _ g _ _ _ _ rfl (setRow_heap _ _ _ _ _ _ hr3) Tryz.underlying208 rfl (infoSingleC (sc_len _ _ _))) rfl ?_
   have hkR := (Keeps.refl [g] w3).setRow (g := g) (by simp) (sc (.int .i64 0) (.slice none 0 0) (stretch (m : Int) (m : Int))).toArray
   exact ⟨_, HG.out, hkC.setRow (Or.inr (by omega)) _, _, rfl, Rep.set (stretch (m : Int) (m : Int)), hq3.keep hkR (by simp; omega)⟩
 have h92' : ((c : Int) == 92) = false := by simpa using (by omega : ¬ (c : Int) = 92)
 by_cases h46 : c = 46
 ·have H46 : Hid (at' p.s p.ix = 46) := by show at' p.s p.ix = 46; omega
  have h46' : ((c : Int) == 46) = true := by simpa using (by omega : (c : Int) = 46)
  clear h40 h91 h92 h46 hc hca
  go_wp2_with fail
  refine (expect_ok b p 46 (by omega) _ hq1 hs H46.out).mono ?_
  rintro e w2 ⟨rfl, hq2, hk2⟩
  have hkB := hkA.trans hk2
  have hr2 := hr1.keep hk2 (by simp; omega)
  have HG : Hid (G p.s .single p.op p.gr p.ix (.ok (.set fun _ => true, p.gr) (p.ix + 1))) := .dot _ _ _ H46.out
  go_wp2_with fail
  refine (all_set _).mono ?_
  rintro e w3 ⟨rfl, hk3⟩
  have hkC := hkB.trans (hk3.mono (by simp))
  have hr3 := hr2.keep hk3 (by simp)
  have hq3 := hq2.keep hk3 (by simp)
  have hbs := built_set (fun _ => true)
  have hgc := (Rep.set (w := w3) (S := fun x => w.heap.size ≤ x) (fun _ => true)).cells.1
  go_wp2_with (first | (refine wpList_build1 rfl 208 2 (.tmp 42) rfl (some 43) rfl (.agg (hcells (fun _ => true))) rfl _ hbs ?_) | (refine wpList_store_row rfl 208 _ _ rfl g _ rfl rfl _ _ hr3 (infoSingleC (sc_len _ _ _)) sz_sc (one_all hgc) ?_))
  refine bodyPost_ret (results_cell_row rfl _ _ g _ _ _ _ rfl (setRow_heap _ _ _ _ _ _ hr3) Tryz.underlying208 rfl (infoSingleC (sc_len _ _ _))) rfl ?_
  have hkR := (Keeps.refl [g] w3).setRow (g := g) (by simp) (sc (.int .i64 0) (.slice none 0 0) (fun _ => true)).toArray
  exact ⟨_, HG.out, hkC.setRow (Or.inr (by omega)) _, _, rfl, Rep.set (fun _ => true), hq3.keep hkR (by simp; omega)⟩
 have h46' : ((c : Int) == 46) = false := by simpa using (by omega : ¬ (c : Int) = 46)
 have HG : Hid (G p.s .single p.op p.gr p.ix (.ok (.set (stretch (c : Int) (c : Int)), p.gr) (p.ix + 1))) := by
  have := G.lit (s := p.s) p.op p.gr p.ix hah.1 (by omega) (by omega) (by omega) (by omega) hah.2
  rw [hca] at this
  exact this
 have ho := one_stretch (c := c) (a := c) rfl
 clear h40 h91 h92 h46 hca
 go_wp2_with fail
 refine (expect_ok b p c (by omega) _ hq1 hs hc).mono ?_
 rintro e w2 ⟨rfl, hq2, hk2⟩
 have hkB := hkA.trans hk2
 have hr2 := hr1.keep hk2 (by simp; omega)
 clear hc
 go_wp2_with fail
 refine (one_set c hc256 _).mono ?_
 rintro e w3 ⟨rfl, hk3⟩
 rw [ho]
 have hkC := hkB.trans (hk3.mono (by simp))
 have hr3 := hr2.keep hk3 (by simp)
 have hq3 := hq2.keep hk3 (by simp)
 clear ho
 have hbs := built_set (stretch (c : Int) (c : Int))
 have hgc := (Rep.set (w := w3) (S := fun x => w.heap.size ≤ x) (stretch (c : Int) (c : Int))).cells.1
 go_wp2_with (first | (refine wpList_build1 rfl 208 2 (.tmp 19) rfl (some 20) rfl (.agg (hcells (stretch (c : Int) (c : Int)))) rfl _ hbs ?_) | (refine wpList_store_row rfl 208 _ _ rfl g _ rfl rfl _ _ hr3 (infoSingleC (sc_len _ _ _)) sz_sc (one_all hgc) ?_))
 refine bodyPost_ret (results_cell_row rfl _ _ g _ _ _ _ rfl (setRow_heap _ _ _ _ _ _ hr3) Tryz.underlying208 rfl (infoSingleC (sc_len _ _ _))) rfl ?_
 have hkR := (Keeps.refl [g] w3).setRow (g := g) (by simp) (sc (.int .i64 0) (.slice none 0 0) (stretch (c : Int) (c : Int))).toArray
 exact ⟨_, HG.out, hkC.setRow (Or.inr (by omega)) _, _, rfl, Rep.set (stretch (c : Int) (c : Int)), hq3.keep hkR (by simp; omega)⟩
end Go.Proofs.YtnfojonmohijpaaGreatDoor
