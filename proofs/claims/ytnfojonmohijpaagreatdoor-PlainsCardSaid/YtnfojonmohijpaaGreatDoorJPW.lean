/-
  DERIVED. The contract of the program's ways, by induction on what is left. Conditions: the text is at most 60 bytes long, the place is within it, the variable classNames holds the seven names.
-/
import Derived.Test.YtnfojonmohijpaaGreatDoorJPV
set_option linter.unusedSimpArgs false
set_option linter.unusedVariables false
namespace Go.Proofs.YtnfojonmohijpaaGreatDoor
open Go.RowKit

theorem Rep.snocW {w : World} {S : Nat → Prop} {x y : Pat} {u : Value} (hy : Rep w S .way y [u]) : ∀ {ys : List Pat} {cs : List Value}, Rep w S .wlist (appW ys (.wone x)) cs → Rep w S .wlist (appW (ys ++ [x]) (.wone y)) (cs ++ [u])
  | [], cs, h => by
    cases h with
    | wone _ v h1 => exact .wcons x _ v [u] h1 (.wone y u hy)
  | z :: ys, cs, h => by
    cases h with
    | wcons _ _ v vs h1 h2 => exact .wcons z _ v _ h1 (Rep.snocW hy h2)

/-- What ways' loop has so far: whole ways alone. -/
structure ZL (p : QS) (b : Nat) (w wr : World) (v : Value) (ys : List Pat) (x : Pat) (cs : List Value) (i g1 i0 g0 : Nat) : Prop where
  qb : QB wr b { p with ix := i, gr := g1 }
  own : wr.ownsRow 0 204 1 v (ys.length + 1) cs
  fresh : ∀ g, v.ownBlock = some g → w.heap.size ≤ g
  rep : Rep wr (fun g => w.heap.size ≤ g ∧ v.ownBlock ≠ some g) .wlist (appW ys (.wone x)) cs
  gn : GN wr
  keep : Keeps [b] w wr
  ile : i ≤ p.s.size
  len : p.ix + ys.length ≤ i
  gle : g1 ≤ 9
  last : G p.s .way p.op g0 i0 (.ok (x, g1) i)
  spec : ∀ q, G p.s .ways p.op g0 i0 q → G p.s .ways p.op p.gr p.ix (q.map fun y => (appW ys y.1, y.2))
/-- Or it stands at a byte that cannot stand there. -/
structure ZO (p : QS) (b : Nat) (w wr : World) (v : Value) (j g1 : Nat) : Prop where
  qb : QB wr b { p with ix := j, gr := g1 }
  sl : IsSl v
  keep : Keeps [b] w wr
  odd : oddC (at' p.s j)
  ge : p.ix ≤ j
  spec : G p.s .ways p.op p.gr p.ix (.bad j)

theorem ZL.done {p : QS} {b : Nat} {w wr : World} {v : Value} {ys : List Pat} {x : Pat} {cs : List Value} {i g1 i0 g0 : Nat} (L : ZL p b w wr v ys x cs i g1 i0 g0) (h : at' p.s i ≠ 124) : WPost .ways .ways b p w (.returned v) wr := by
  refine ⟨_, L.spec _ (.one _ _ _ _ _ _ L.last h), L.keep, v, rfl, ?_, L.qb⟩
  exact .ways _ cs v _ (L.rep.mono fun g h _ => h.1) L.own fun g hg => L.fresh g hg
theorem ZO.done {p : QS} {b : Nat} {w wr : World} {v : Value} {j g1 : Nat} (L : ZO p b w wr v j g1) : WPost .ways .ways b p w (.returned v) wr :=
  ⟨_, L.spec, L.keep, Or.inr ⟨v, g1, rfl, L.sl, L.qb, L.odd, L.ge⟩⟩

/-- The first way. -/
theorem ZL.first {p : QS} {b : Nat} {w w1 : World} {v : Value} {x : Pat} {g1 j : Nat} (hG : G p.s .way p.op p.gr p.ix (.ok (x, g1) j)) (hk : Keeps [b] w w1) (hrep : Rep w1 (fun g => w.heap.size ≤ g) .way x [v]) (hq : QB w1 b { p with ix := j, gr := g1 })
    (hgn : GN w1) (hle : p.ix ≤ p.s.size) (hgr : p.gr ≤ 9) :
    ZL p b w (w1.alloc (.cells #[v] 204)) (.slice (some ⟨w1.heap.size, 0, none⟩) 1 1) [] x [v] j g1 p.ix p.gr := by
  have hok := hG.okb x g1 j rfl
  have hk1 : Keeps [] w1 (w1.alloc (.cells #[v] 204)) := (Keeps.refl [] w1).alloc _
  refine ⟨hq.keep hk1 (by simp), ⟨rfl, .inr ⟨w1.heap.size, 1, #[v], rfl, Nat.zero_le _, heap_alloc_new w1 _, Nat.le_refl _, by decide, rfl, rfl⟩⟩, ?_, ?_, hgn.keep hk1 (by simp), hk.trans (hk1.mono (by simp)), hok.2.1 hle, by simp; exact hok.1, hok.2.2.2.2 hgr, hG, ?_⟩
  · intro g h
    cases h
    exact hk.size
  · refine .wone x v ((hrep.mono (S' := fun g => w.heap.size ≤ g ∧ g < w1.heap.size) fun g h1 h2 => ⟨h1, h2⟩).keep hk1 (by simp) |>.mono ?_)
    intro g hg _
    refine ⟨hg.1, ?_⟩
    intro e
    cases e
    exact Nat.lt_irrefl _ hg.2
  · intro q hq
    have : (q.map fun y => (appW [] y.1, y.2)) = q := by cases q <;> rfl
    rw [this]; exact hq

/-- A way more. -/
theorem ZL.next {p : QS} {b : Nat} {w w1 w2 w5 w7 : World} {v u : Value} {ys : List Pat} {x y : Pat} {cs : List Value} {i j g1 g2 i0 g0 g' cap : Nat} (L : ZL p b w w1 v ys x cs i g1 i0 g0) (hbl : b < w.heap.size) (hgl : 6 < w.heap.size) (hbg : b ≠ 6)
    (h124 : at' p.s i = 124) (hG : G p.s .way p.op g1 (i + 1) (.ok (y, g2) j)) (hk2 : Keeps [b] w1 w2) (hk5 : Keeps [b] w2 w5) (hrep : Rep w5 (fun g => w2.heap.size ≤ g) .way y [u]) (hq5 : QB w5 b { p with ix := j, gr := g2 })
    (hown : w7.ownsRow 0 204 1 (.slice (some ⟨g', 0, none⟩) (ys.length + 1 + 1) cap) (ys.length + 1 + 1) (cs ++ [u])) (hgrow : (w5.alloc (.cells #[u] 204)).grownBy w7 v.ownBlock) (hat : v.ownBlock = some g' ∨ g' = w5.heap.size + 1) :
    ZL p b w w7 (.slice (some ⟨g', 0, none⟩) (ys.length + 1 + 1) cap) (ys ++ [x]) y (cs ++ [u]) j g2 (i + 1) g1 := by
  have hk7 : Keeps v.ownBlock.toList w5 w7 := ((Keeps.refl v.ownBlock.toList w5).alloc _).trans (Keeps.ofGrown hgrow)
  have hfr : ∀ y, y ∈ v.ownBlock.toList → w.heap.size ≤ y := by
    intro y hy
    rw [Option.mem_toList] at hy
    exact L.fresh y hy
  have hvl := World.ownsRow.lt L.own
  have hk15 : Keeps [b] w1 w5 := hk2.trans hk5
  have s1 := L.keep.size
  have s2 := hk2.size
  have s5 := hk5.size
  have hok := hG.okb y g2 j rfl
  have hilt : i + 1 ≤ p.s.size := at'_nn (by omega)
  refine ⟨hq5.keep hk7 ?_, ?_, ?_, ?_, (L.gn.keep hk15 ?_).keep hk7 ?_, (L.keep.trans hk15).fresh hk7 ?_, hok.2.1 hilt, ?_, hok.2.2.2.2 L.gle, hG, ?_⟩
  · intro h; have := hfr b h; omega
  · rw [List.length_append, List.length_singleton]; exact hown
  · intro y hy
    cases hy
    rcases hat with h | h
    · exact L.fresh _ h
    · show w.heap.size ≤ g'; omega
  · refine Rep.snocW ?_ ?_
    · refine ((hrep.mono (S' := fun y => w2.heap.size ≤ y ∧ y < w5.heap.size) fun y h1 h2 => ⟨h1, h2⟩).keep hk7 ?_).mono ?_
      · intro y hy hm
        rw [Option.mem_toList] at hm
        have := (hvl y hm).2
        have := hy.1
        omega
      · intro y hy _
        refine ⟨by have := hy.1; omega, ?_⟩
        intro e
        cases e
        rcases hat with h | h
        · have := (hvl _ h).2; have := hy.1; simp at this; omega
        · have := hy.2; simp at this; omega
    · refine (((L.rep.mono (S' := fun y => (w.heap.size ≤ y ∧ v.ownBlock ≠ some y) ∧ y < w1.heap.size) fun y h1 h2 => ⟨h1, h2⟩).keep hk15 ?_).keep hk7 ?_).mono ?_
      · intro y hy; have := hy.1.1; simp; omega
      · intro y hy hm
        rw [Option.mem_toList] at hm
        exact hy.1.2 hm
      · intro y hy _
        refine ⟨hy.1.1, ?_⟩
        intro e
        cases e
        rcases hat with h | h
        · exact hy.1.2 h
        · have := hy.2; simp at this; omega
  · simp; omega
  · intro h; have := hfr _ h; omega
  · intro y hy; right; exact hfr y hy
  · rw [List.length_append, List.length_singleton]
    have := L.len
    have := hok.1
    omega
  · intro q' hq'
    have h2 := L.spec _ (.more _ _ _ _ _ _ _ L.last h124 hq')
    rw [Rmap_map] at h2
    have e : (fun z : Pat × Nat => (appW (ys ++ [x]) z.1, z.2)) = fun z => (appW ys (Pat.wcons x z.1), z.2) := by
      funext z; rw [appW_snoc]
    rw [e]
    exact h2

theorem wpList_wslice {ops : Array Oper} {rest : List Oper} {o : Oper} {a : Act} {w : World} {Q : Exit → Act → World → Prop} (hg : o.guard = none) (x : Operand) (ho : o.op = .buildSlice 68 1 #[(0, x)]) (d : Option Tmp) (hd : o.dst = d) (v : Value) (hx : a.eval x = v) (hv : v.cells = #[v])
    (h : wpList Tryz.prog ops Q rest (a.put d (.slice (some ⟨w.heap.size, 0, none⟩) 1 1)) (w.alloc (.cells #[v] 204))) : wpList Tryz.prog ops Q (o :: rest) a w := by
  subst hd
  obtain ⟨i0, hi0, hz0, hz1, hz2⟩ := info_parts infoWay
  refine wpList_buildSlice hg 68 204 1 #[(0, x)] ho #[v] i0 _ Tryz.underlying68 hi0 hz0 (by rw [hz1]; decide) (by rw [hz1]; decide) ?_ h
  rw [hz1]
  have := way_fill v hv
  have e2 : ((#[(0, x)] : Array (Nat × Operand)).map fun (i, x) => (i, a.eval x)).toList = [(0, v)] := by simp [hx]
  rw [e2]
  exact this

set_option maxRecDepth 100000 in
set_option maxHeartbeats 2000000 in
theorem pways_step (n : Nat) (IH : WaysOk n) : WaysOk (n + 1) := by
  intro b p w hp hgn hbg hs hle hop hgr hn
  have hbl := hp.lt
  have hgl := hgn.lt
  go_enter Tryz.func117, Tryz.ntmps117
  go_wp2_with fail
  refine (way_prog n IH b p _ hp hgn hbg hs hle hop hgr (by omega)).mono ?_
  rintro e w1 ⟨q, hG, hk1, hc1⟩
  have hg1 := hgn.keep hk1 (by simp; omega)
  have hS : (∃ j, e = fault j ∧ q = .bad j) ∨ ∃ v, e = .returned v ∧ v.cells = #[v] ∧ v.oneCell' = true ∧ ((∃ x i g1, ZL p b w (w1.alloc (.cells #[v] 204)) (.slice (some ⟨w1.heap.size, 0, none⟩) 1 1) [] x [v] i g1 p.ix p.gr) ∨ ∃ j g1, ZO p b w (w1.alloc (.cells #[v] 204)) (.slice (some ⟨w1.heap.size, 0, none⟩) 1 1) j g1) := by
    cases q with
    | bad j =>
      rcases hc1 with h | ⟨v, g1, h1, h2, h4, h5, h6⟩
      · exact Or.inl ⟨j, h, rfl⟩
      · exact Or.inr ⟨v, h1, h2.cells, h2.one, Or.inr ⟨j, g1, h4.keep ((Keeps.refl [] w1).alloc _) (by simp), ⟨_, _, _, rfl⟩, hk1.trans ((Keeps.refl [b] w1).alloc _), h5, h6, .wbad _ _ _ _ hG⟩⟩
    | ok y j =>
      obtain ⟨x, g1⟩ := y
      obtain ⟨v, h1, hrep, h4⟩ := hc1
      have hc := hrep.cells
      obtain ⟨u, hu, hu2⟩ := hc.2
      cases hu
      exact Or.inr ⟨v, h1, hu2, hc.1 v (by simp), Or.inl ⟨x, j, g1, ZL.first hG hk1 hrep h4 hg1 hle hgr⟩⟩
  rcases hS with ⟨j, rfl, rfl⟩ | ⟨v, rfl, hvc, hv1, hL⟩
  · simp only [fault]
    exact ⟨rfl, _, .wbad _ _ _ _ hG, hk1, Or.inl rfl⟩
  · clear hc1 hG
    go_wp2_with (first | (refine wpList_wslice rfl (.tmp 5) rfl (some 6) rfl v rfl hvc ?_))
    go_loopw [3] (fun z wr => (∃ ys x cs i g1 i0 g0, ZL p b w wr z ys x cs i g1 i0 g0) ∨ ∃ j g1, ZO p b w wr z j g1) (fun _ wr => muQ wr b)
    case atStart =>
      rcases hL with ⟨x, i, g1, L⟩ | ⟨j, g1, L⟩
      · exact Or.inl ⟨[], x, [v], i, g1, p.ix, p.gr, L⟩
      · exact Or.inr ⟨j, g1, L⟩
    case round =>
      clear hL hvc hv1 hg1 hk1 hp hgn
      rcases hrel with ⟨ys, x, cs, i, g1, i0, g0, L⟩ | ⟨j, g1, L⟩
      · have hmu := muQ_eq L.qb
        go_wp2_with fail
        refine (skip_any b { p with ix := i, gr := g1 } 124 (by omega) _ L.qb L.ile hs).mono ?_
        rintro e w2 ⟨rfl, hq2, hk2⟩
        by_cases h124 : at' p.s i = 124
        · obtain ⟨e1, e2⟩ := took_yes (p := { p with ix := i, gr := g1 }) h124
          rw [e1]
          rw [e2] at hq2
          clear e1 e2
          have hilt : i + 1 ≤ p.s.size := at'_nn (by omega)
          have hlen := L.len
          have hg2 := L.gn.keep hk2 (by simp; omega)
          go_wp2_with fail
          refine (way_prog n IH b { p with ix := i + 1, gr := g1 } _ hq2 hg2 hbg hs hilt hop L.gle (by simp; omega)).mono ?_
          rintro e w3 ⟨q, hG, hk3, hc3⟩
          have hbn : u3.ownBlock ≠ some b := by intro e; have := L.fresh b e; omega
          have hown3 : w3.ownsRow 0 204 1 u3 (ys.length + 1) cs := (L.own.keep hk2 (by intro y hy hm; simp at hm; subst hm; exact hbn hy)).keep hk3 (by intro y hy hm; simp at hm; subst hm; exact hbn hy)
          have hS : (∃ j, e = fault j ∧ q = .bad j) ∨ ∃ u, e = .returned u ∧ u.cells = #[u] ∧ u.oneCell' = true ∧ ∀ w7 g' cap, w7.ownsRow 0 204 1 (.slice (some ⟨g', 0, none⟩) (ys.length + 1 + 1) cap) (ys.length + 1 + 1) (cs ++ [u]) → (w3.alloc (.cells #[u] 204)).grownBy w7 u3.ownBlock → (u3.ownBlock = some g' ∨ g' = w3.heap.size + 1) →
              ((∃ ys' x cs i g1 i0 g0, ZL p b w w7 (.slice (some ⟨g', 0, none⟩) (ys.length + 1 + 1) cap) ys' x cs i g1 i0 g0) ∨ ∃ j g1, ZO p b w w7 (.slice (some ⟨g', 0, none⟩) (ys.length + 1 + 1) cap) j g1) ∧ muQ w7 b < muQ wr b := by
            cases q with
            | bad j =>
              rcases hc3 with h | ⟨u, g2, h1, h2, h4, h5, h6⟩
              · exact Or.inl ⟨j, h, rfl⟩
              · refine Or.inr ⟨u, h1, h2.cells, h2.one, ?_⟩
                intro w7 g' cap _ hgrow _
                have hk7 : Keeps u3.ownBlock.toList w3 w7 := ((Keeps.refl u3.ownBlock.toList w3).alloc _).trans (Keeps.ofGrown hgrow)
                have hfr : ∀ y, y ∈ u3.ownBlock.toList → w.heap.size ≤ y := by
                  intro y hy
                  rw [Option.mem_toList] at hy
                  exact L.fresh y hy
                have hq7 : QB w7 b { p with ix := j, gr := g2 } := h4.keep hk7 (by intro h; have := hfr b h; omega)
                have h6' : i + 1 ≤ j := h6
                refine ⟨Or.inr ⟨j, g2, hq7, ⟨_, _, _, rfl⟩, ((L.keep.trans hk2).trans hk3).fresh hk7 (fun y hy => Or.inr (hfr y hy)), h5, by omega, ?_⟩, ?_⟩
                · exact L.spec _ (.more _ _ _ _ _ _ _ L.last h124 (.wbad _ _ _ _ hG))
                · rw [hmu, muQ_eq hq7]; simp; omega
            | ok y j =>
              obtain ⟨y, g2⟩ := y
              obtain ⟨u, h1, hrep, h4⟩ := hc3
              have hc := hrep.cells
              obtain ⟨u', hu, hu2⟩ := hc.2
              cases hu
              refine Or.inr ⟨u, h1, hu2, hc.1 u (by simp), ?_⟩
              intro w7 g' cap hown7 hgrow hat
              have L7 := L.next hbl hgl hbg h124 hG hk2 hk3 hrep h4 hown7 hgrow hat
              have hok := (hG.okb y g2 j rfl).1
              refine ⟨Or.inl ⟨_, _, _, _, _, _, _, L7⟩, ?_⟩
              rw [hmu, muQ_eq L7.qb]; simp; simp at hok; omega
          rcases hS with ⟨j, rfl, rfl⟩ | ⟨u, rfl, huc, hu1, hL⟩
          · simp only [fault]
            exact ⟨rfl, _, L.spec _ (.more _ _ _ _ _ _ _ L.last h124 (.wbad _ _ _ _ hG)), (L.keep.trans hk2).trans hk3, Or.inl rfl⟩
          · obtain ⟨i0', hi0, hz0, hz1, hz2⟩ := info_parts infoWay
            have hlm : ys.length + 1 + 1 ≤ maxLen := by unfold maxLen; omega
            have hun := Tryz.underlying68
            clear hc3 hG
            go_wp2_with (first | (refine wpList_wslice rfl (.tmp 13) rfl (some 14) rfl u rfl huc ?_) | (at_builtin; refine wpList_append_lies _ rfl _ _ _ rfl 0 204 i0' (.slice none 0 0) 1 24 hun hi0 hz0 hz1 hz2 rfl (by decide) u3 (ys.length + 1) cs rfl (hown3.alloc _) ⟨w3.heap.size, 0, none⟩ 1 1 [u] rfl rfl (cell_one_new _ _ _) (by simpa using hu1) (by omega) hlm (by omega) (by simp) (w3.heap.size + 1) (by simp) ?_; intro g' cap w7 hown7 hgrow hat hlt7))
            exact hL _ _ _ hown7 hgrow hat
        · obtain ⟨e1, e2⟩ := took_no (p := { p with ix := i, gr := g1 }) h124
          rw [e1]
          rw [e2] at hq2
          have L2 : ZL p b w w2 u3 ys x cs i g1 i0 g0 := ⟨hq2, L.own.keep hk2 (by intro y hy hm; simp at hm; subst hm; have := L.fresh _ hy; omega), L.fresh, L.rep.keep hk2 (by intro y hy; simp; omega), L.gn.keep hk2 (by simp; omega), L.keep.trans hk2, L.ile, L.len, L.gle, L.last, L.spec⟩
          clear e1 e2
          go_wp2_with fail
          go_ret
          exact L2.done h124
      · have hodd := L.odd
        have hj0 : 0 ≤ at' p.s j := by unfold oddC at hodd; omega
        have h124 : ¬ at' p.s j = 124 := by unfold oddC at hodd; omega
        go_wp2_with fail
        refine (skip_any b { p with ix := j, gr := g1 } 124 (by omega) _ L.qb (Nat.le_of_lt (at'_nn hj0)) hs).mono ?_
        rintro e w2 ⟨rfl, hq2, hk2⟩
        obtain ⟨e1, e2⟩ := took_no (p := { p with ix := j, gr := g1 }) h124
        rw [e1]
        rw [e2] at hq2
        have L2 : ZO p b w w2 u3 j g1 := ⟨hq2, L.sl, L.keep.trans hk2, L.odd, L.ge, L.spec⟩
        clear e1 e2
        go_wp2_with fail
        go_ret
        exact L2.done
/-- The program's ways. -/
theorem ways_prog (n : Nat) : WaysOk n := by
  induction n with
  | zero => intro b p w _ _ _ _ _ _ _ h; omega
  | succ n ih => exact pways_step n ih
end Go.Proofs.YtnfojonmohijpaaGreatDoor
