/-
  DERIVED. The contract of the program's ways, by induction on what is left. Conditions: the text is at most 60 bytes long, the place is within it, the variable classNames holds the seven names.
-/
import Derived.Test.YtnfojonmohijpabGreatDoorJPT
import Derived.Defers
import Derived.Recover
set_option linter.unusedSimpArgs false
set_option linter.unusedVariables false
namespace Go.Proofs.YtnfojonmohijpabGreatDoor
open Go.RowKit
theorem Rep.snocW {w : World} {S : Nat → Prop} {x y : Pat} {u : Value} (hy : Rep w S .way y [u]) : ∀ {ys : List Pat} {cs : List Value}, Rep w S .wlist (appW ys (.wone x)) cs → Rep w S .wlist (appW (ys ++ [x]) (.wone y)) (cs ++ [u])
 | [], cs, h => by
  cases h with
  | wone _ v h1 => exact .wcons x _ v [u] h1 (.wone y u hy)
 | z :: ys, cs, h => by
  cases h with
  | wcons _ _ v vs h1 h2 => exact .wcons z _ v _ h1 (Rep.snocW hy h2)
structure ZL (p : QS) (b : Nat) (w wr : World) (v : Value) (ys : List Pat) (x : Pat) (cs : List Value) (i g1 i0 g0 : Nat) : Prop where
 qb : QB wr b { p with ix := i, gr := g1 }
 own : wr.ownsRow 0 146 1 v (ys.length + 1) cs
 fresh : ∀ g, v.ownBlock = some g → w.heap.size ≤ g
 rep : Rep wr (fun g => w.heap.size ≤ g ∧ v.ownBlock ≠ some g) .wlist (appW ys (.wone x)) cs
 gn : GN wr
 keep : Keeps [b] w wr
 ile : i ≤ p.s.size
 len : p.ix + ys.length ≤ i
 gle : g1 ≤ 9
 last : G p.s .way p.op g0 i0 (.ok (x, g1) i)
 spec : ∀ q, G p.s .ways p.op g0 i0 q → G p.s .ways p.op p.gr p.ix (q.map fun y => (appW ys y.1, y.2))
structure ZO (p : QS) (b : Nat) (w wr : World) (v : Value) (j g1 : Nat) : Prop where
 qb : QB wr b { p with ix := j, gr := g1 }
 sl : IsSl v
 keep : Keeps [b] w wr
 odd : oddC (at' p.s j)
 ge : p.ix ≤ j
 spec : G p.s .ways p.op p.gr p.ix (.bad j)
theorem ZL.done {p : QS} {b : Nat} {w wr : World} {v : Value} {ys : List Pat} {x : Pat} {cs : List Value} {i g1 i0 g0 : Nat} (L : ZL p b w wr v ys x cs i g1 i0 g0) (h : at' p.s i ≠ 124) : WPost .ways .ways b p w (.returned v) wr := by
 refine ⟨_, L.spec _ (.one _ _ _ _ _ _ L.last h), L.keep, v, rfl, ?_, L.qb⟩
 exact .ways _ cs v _ (L.rep.mono fun g h _ => h.1) L.own fun g hg => L.fresh g hg
theorem ZO.done {p : QS} {b : Nat} {w wr : World} {v : Value} {j g1 : Nat} (L : ZO p b w wr v j g1) : WPost .ways .ways b p w (.returned v) wr :=
 ⟨_, L.spec, L.keep, Or.inr ⟨v, g1, rfl, L.sl, L.qb, L.odd, L.ge⟩⟩
theorem ZL.first {p : QS} {b : Nat} {w w1 : World} {v : Value} {x : Pat} {g1 j : Nat} (hG : G p.s .way p.op p.gr p.ix (.ok (x, g1) j)) (hk : Keeps [b] w w1) (hrep : Rep w1 (fun g => w.heap.size ≤ g) .way x [v]) (hq : QB w1 b { p with ix := j, gr := g1 })
    (hgn : GN w1) (hle : p.ix ≤ p.s.size) (hgr : p.gr ≤ 9) :
    ZL p b w (w1.alloc (.cells #[v] 146)) (.slice (some ⟨w1.heap.size, 0, none⟩) 1 1) [] x [v] j g1 p.ix p.gr := by
 have hok := hG.okb x g1 j rfl
 have hk1 : Keeps [] w1 (w1.alloc (.cells #[v] 146)) := (Keeps.refl [] w1).alloc _
 refine ⟨hq.keep hk1 (by simp), ⟨rfl, .inr ⟨w1.heap.size, 1, #[v], rfl, Nat.zero_le _, heap_alloc_new w1 _, Nat.le_refl _, by decide, rfl, rfl⟩⟩, ?_, ?_, hgn.keep hk1 (by simp), hk.trans (hk1.mono (by simp)), hok.2.1 hle, by simp; exact hok.1, hok.2.2.2.2 hgr, hG, ?_⟩
 ·intro g h
  cases h
  exact hk.size
 ·refine .wone x v ((hrep.mono (S' := fun g => w.heap.size ≤ g ∧ g < w1.heap.size) fun g h1 h2 => ⟨h1, h2⟩).keep hk1 (by simp) |>.mono ?_)
  intro g hg _
  refine ⟨hg.1, ?_⟩
  intro e
  cases e
  exact Nat.lt_irrefl _ hg.2
 ·intro q hq
  have : (q.map fun y => (appW [] y.1, y.2)) = q := by cases q <;> rfl
  rw [this]; exact hq
theorem ZL.next {p : QS} {b : Nat} {w w1 w2 w5 w7 : World} {v u : Value} {ys : List Pat} {x y : Pat} {cs : List Value} {i j g1 g2 i0 g0 g' cap : Nat} (L : ZL p b w w1 v ys x cs i g1 i0 g0) (hbl : b < w.heap.size) (hgl : 6 < w.heap.size) (hbg : b ≠ 6)
    (h124 : at' p.s i = 124) (hG : G p.s .way p.op g1 (i + 1) (.ok (y, g2) j)) (hk2 : Keeps [b] w1 w2) (hk5 : Keeps [b] w2 w5) (hrep : Rep w5 (fun g => w2.heap.size ≤ g) .way y [u]) (hq5 : QB w5 b { p with ix := j, gr := g2 })
    (hown : w7.ownsRow 0 146 1 (.slice (some ⟨g', 0, none⟩) (ys.length + 1 + 1) cap) (ys.length + 1 + 1) (cs ++ [u])) (hgrow : (w5.alloc (.cells #[u] 146)).grownBy w7 v.ownBlock) (hat : v.ownBlock = some g' ∨ g' = w5.heap.size + 1) :
    ZL p b w w7 (.slice (some ⟨g', 0, none⟩) (ys.length + 1 + 1) cap) (ys ++ [x]) y (cs ++ [u]) j g2 (i + 1) g1 := by
 have hk7 : Keeps v.ownBlock.toList w5 w7 := ((Keeps.refl v.ownBlock.toList w5).alloc _).trans (Keeps.ofGrown hgrow)
 have hfr : ∀ y, y ∈ v.ownBlock.toList → w.heap.size ≤ y := by
  intro y hy
  rw [Option.mem_toList] at hy
  exact L.fresh y hy
 have hvl := World.ownsRow.lt L.own
 have hk15 : Keeps [b] w1 w5 := hk2.trans hk5
 have s1 := L.keep.size
 have s2 := hk2.size
 have s5 := hk5.size
 have hok := hG.okb y g2 j rfl
 have hilt : i + 1 ≤ p.s.size := at'_nn (by omega)
 refine ⟨hq5.keep hk7 ?_, ?_, ?_, ?_, (L.gn.keep hk15 ?_).keep hk7 ?_, (L.keep.trans hk15).fresh hk7 ?_, hok.2.1 hilt, ?_, hok.2.2.2.2 L.gle, hG, ?_⟩
 ·intro h; have := hfr b h; omega
 ·rw [List.length_append, List.length_singleton]; exact hown
 ·intro y hy
  cases hy
  rcases hat with h | h
  ·exact L.fresh _ h
  ·show w.heap.size ≤ g'; omega
 ·refine Rep.snocW ?_ ?_
  ·refine ((hrep.mono (S' := fun y => w2.heap.size ≤ y ∧ y < w5.heap.size) fun y h1 h2 => ⟨h1, h2⟩).keep hk7 ?_).mono ?_
   ·intro y hy hm
    rw [Option.mem_toList] at hm
    have := (hvl y hm).2
    have := hy.1
    omega
   ·intro y hy _
    refine ⟨by have := hy.1; omega, ?_⟩
    intro e
    cases e
    rcases hat with h | h
    ·have := (hvl _ h).2; have := hy.1; simp at this; omega
    ·have := hy.2; simp at this; omega
  ·refine (((L.rep.mono (S' := fun y => (w.heap.size ≤ y ∧ v.ownBlock ≠ some y) ∧ y < w1.heap.size) fun y h1 h2 => ⟨h1, h2⟩).keep hk15 ?_).keep hk7 ?_).mono ?_
   ·intro y hy; have := hy.1.1; simp; omega
   ·intro y hy hm
    rw [Option.mem_toList] at hm
    exact hy.1.2 hm
   ·intro y hy _
    refine ⟨hy.1.1, ?_⟩
    intro e
    cases e
    rcases hat with h | h
    ·exact hy.1.2 h
    ·have := hy.2; simp at this; omega
 ·simp; omega
 ·intro h; have := hfr _ h; omega
 ·intro y hy; right; exact hfr y hy
 ·rw [List.length_append, List.length_singleton]
  have := L.len
  have := hok.1
  omega
 ·intro q' hq'
  have h2 := L.spec _ (.more _ _ _ _ _ _ _ L.last h124 hq')
  rw [Rmap_map] at h2
  have e : (fun z : Pat × Nat => (appW (ys ++ [x]) z.1, z.2)) = fun z => (appW ys (Pat.wcons x z.1), z.2) := by
   funext z; rw [appW_snoc]
  rw [e]
  exact h2
theorem wpList_wslice {ops : Array Oper} {rest : List Oper} {o : Oper} {a : Act} {w : World} {Q : Exit → Act → World → Prop} (hg : o.guard = none) (x : Operand) (ho : o.op = .buildSlice 56 1 #[(0, x)]) (d : Option Tmp) (hd : o.dst = d) (v : Value) (hx : a.eval x = v) (hv : v.cells = #[v])
    (h : wpList Tryz.prog ops Q rest (a.put d (.slice (some ⟨w.heap.size, 0, none⟩) 1 1)) (w.alloc (.cells #[v] 146))) : wpList Tryz.prog ops Q (o :: rest) a w := by
 subst hd
 obtain ⟨i0, hi0, hz0, hz1, hz2⟩ := info_parts infoWay
 refine wpList_buildSlice hg 56 146 1 #[(0, x)] ho #[v] i0 _ Tryz.underlying56 hi0 hz0 (by rw [hz1]; decide) (by rw [hz1]; decide) ?_ h
 rw [hz1]
 have := way_fill v hv
 have e2 : ((#[(0, x)] : Array (Nat × Operand)).map fun (i, x) => (i, a.eval x)).toList = [(0, v)] := by simp [hx]
 rw [e2]
 exact this
set_option maxRecDepth 100000 in
set_option maxHeartbeats 2000000 in
theorem pways_step (n : Nat) (IH : WaysOk n) : WaysOk (n + 1) := by
 intro b p w hp hgn hbg hs hle hop hgr hn
 have hbl := hp.lt
 have hgl := hgn.lt
 go_enter Tryz.func65, Tryz.ntmps65
 go_wp2_with fail
 refine (way_prog n IH b p _ hp hgn hbg hs hle hop hgr (by omega)).mono ?_
 rintro e w1 ⟨q, hG, hk1, hc1⟩
 have hg1 := hgn.keep hk1 (by simp; omega)
 have hS : (∃ j, e = fault j ∧ q = .bad j) ∨ ∃ v, e = .returned v ∧ v.cells = #[v] ∧ v.oneCell' = true ∧ ((∃ x i g1, ZL p b w (w1.alloc (.cells #[v] 146)) (.slice (some ⟨w1.heap.size, 0, none⟩) 1 1) [] x [v] i g1 p.ix p.gr) ∨ ∃ j g1, ZO p b w (w1.alloc (.cells #[v] 146)) (.slice (some ⟨w1.heap.size, 0, none⟩) 1 1) j g1) := by
  cases q with
  | bad j =>
   rcases hc1 with h | ⟨v, g1, h1, h2, h4, h5, h6⟩
   ·exact Or.inl ⟨j, h, rfl⟩
   ·exact Or.inr ⟨v, h1, h2.cells, h2.one, Or.inr ⟨j, g1, h4.keep ((Keeps.refl [] w1).alloc _) (by simp), ⟨_, _, _, rfl⟩, hk1.trans ((Keeps.refl [b] w1).alloc _), h5, h6, .wbad _ _ _ _ hG⟩⟩
  | ok y j =>
   obtain ⟨x, g1⟩ := y
   obtain ⟨v, h1, hrep, h4⟩ := hc1
   have hc := hrep.cells
   obtain ⟨u, hu, hu2⟩ := hc.2
   cases hu
   exact Or.inr ⟨v, h1, hu2, hc.1 v (by simp), Or.inl ⟨x, j, g1, ZL.first hG hk1 hrep h4 hg1 hle hgr⟩⟩
 rcases hS with ⟨j, rfl, rfl⟩ | ⟨v, rfl, hvc, hv1, hL⟩
 ·simp only [fault]
  exact ⟨rfl, _, .wbad _ _ _ _ hG, hk1, Or.inl rfl⟩
 ·clear hc1 hG
  go_wp2_with (first | (refine wpList_wslice rfl (.tmp 5) rfl (some 6) rfl v rfl hvc ?_))
  go_loopw [3] (fun z wr => (∃ ys x cs i g1 i0 g0, ZL p b w wr z ys x cs i g1 i0 g0) ∨ ∃ j g1, ZO p b w wr z j g1) (fun _ wr => muQ wr b)
  case atStart =>
   rcases hL with ⟨x, i, g1, L⟩ | ⟨j, g1, L⟩
   ·exact Or.inl ⟨[], x, [v], i, g1, p.ix, p.gr, L⟩
   ·exact Or.inr ⟨j, g1, L⟩
  case round =>
   clear hL hvc hv1 hg1 hk1 hp hgn
   rcases hrel with ⟨ys, x, cs, i, g1, i0, g0, L⟩ | ⟨j, g1, L⟩
   ·have hmu := muQ_eq L.qb
    go_wp2_with fail
    refine (skip_any b { p with ix := i, gr := g1 } 124 (by omega) _ L.qb L.ile hs).mono ?_
    rintro e w2 ⟨rfl, hq2, hk2⟩
    by_cases h124 : at' p.s i = 124
    ·obtain ⟨e1, e2⟩ := took_yes (p := { p with ix := i, gr := g1 }) h124
     rw [e1]
     rw [e2] at hq2
     clear e1 e2
     have hilt : i + 1 ≤ p.s.size := at'_nn (by omega)
     have hlen := L.len
     have hg2 := L.gn.keep hk2 (by simp; omega)
     go_wp2_with fail
     refine (way_prog n IH b { p with ix := i + 1, gr := g1 } _ hq2 hg2 hbg hs hilt hop L.gle (by simp; omega)).mono ?_
     rintro e w3 ⟨q, hG, hk3, hc3⟩
     have hbn : u3.ownBlock ≠ some b := by intro e; have := L.fresh b e; omega
     have hown3 : w3.ownsRow 0 146 1 u3 (ys.length + 1) cs := (L.own.keep hk2 (by intro y hy hm; simp at hm; subst hm; exact hbn hy)).keep hk3 (by intro y hy hm; simp at hm; subst hm; exact hbn hy)
     have hS : (∃ j, e = fault j ∧ q = .bad j) ∨ ∃ u, e = .returned u ∧ u.cells = #[u] ∧ u.oneCell' = true ∧ ∀ w7 g' cap, w7.ownsRow 0 146 1 (.slice (some ⟨g', 0, none⟩) (ys.length + 1 + 1) cap) (ys.length + 1 + 1) (cs ++ [u]) → (w3.alloc (.cells #[u] 146)).grownBy w7 u3.ownBlock → (u3.ownBlock = some g' ∨ g' = w3.heap.size + 1) →
         ((∃ ys' x cs i g1 i0 g0, ZL p b w w7 (.slice (some ⟨g', 0, none⟩) (ys.length + 1 + 1) cap) ys' x cs i g1 i0 g0) ∨ ∃ j g1, ZO p b w w7 (.slice (some ⟨g', 0, none⟩) (ys.length + 1 + 1) cap) j g1) ∧ muQ w7 b < muQ wr b := by
      cases q with
      | bad j =>
       rcases hc3 with h | ⟨u, g2, h1, h2, h4, h5, h6⟩
       ·exact Or.inl ⟨j, h, rfl⟩
       ·refine Or.inr ⟨u, h1, h2.cells, h2.one, ?_⟩
        intro w7 g' cap _ hgrow _
        have hk7 : Keeps u3.ownBlock.toList w3 w7 := ((Keeps.refl u3.ownBlock.toList w3).alloc _).trans (Keeps.ofGrown hgrow)
        have hfr : ∀ y, y ∈ u3.ownBlock.toList → w.heap.size ≤ y := by
         intro y hy
         rw [Option.mem_toList] at hy
         exact L.fresh y hy
        have hq7 : QB w7 b { p with ix := j, gr := g2 } := h4.keep hk7 (by intro h; have := hfr b h; omega)
        have h6' : i + 1 ≤ j := h6
        refine ⟨Or.inr ⟨j, g2, hq7, ⟨_, _, _, rfl⟩, ((L.keep.trans hk2).trans hk3).fresh hk7 (fun y hy => Or.inr (hfr y hy)), h5, by omega, ?_⟩, ?_⟩
        ·exact L.spec _ (.more _ _ _ _ _ _ _ L.last h124 (.wbad _ _ _ _ hG))
        ·rw [hmu, muQ_eq hq7]; simp; omega
      | ok y j =>
       obtain ⟨y, g2⟩ := y
       obtain ⟨u, h1, hrep, h4⟩ := hc3
       have hc := hrep.cells
       obtain ⟨u', hu, hu2⟩ := hc.2
       cases hu
       refine Or.inr ⟨u, h1, hu2, hc.1 u (by simp), ?_⟩
       intro w7 g' cap hown7 hgrow hat
       have L7 := L.next hbl hgl hbg h124 hG hk2 hk3 hrep h4 hown7 hgrow hat
       have hok := (hG.okb y g2 j rfl).1
       refine ⟨Or.inl ⟨_, _, _, _, _, _, _, L7⟩, ?_⟩
       rw [hmu, muQ_eq L7.qb]; simp; simp at hok; omega
     rcases hS with ⟨j, rfl, rfl⟩ | ⟨u, rfl, huc, hu1, hL⟩
     ·simp only [fault]
      exact ⟨rfl, _, L.spec _ (.more _ _ _ _ _ _ _ L.last h124 (.wbad _ _ _ _ hG)), (L.keep.trans hk2).trans hk3, Or.inl rfl⟩
     ·obtain ⟨i0', hi0, hz0, hz1, hz2⟩ := info_parts infoWay
      have hlm : ys.length + 1 + 1 ≤ maxLen := by unfold maxLen; omega
      have hun := Tryz.underlying56
      clear hc3 hG
      go_wp2_with (first | (refine wpList_wslice rfl (.tmp 13) rfl (some 14) rfl u rfl huc ?_) | (at_builtin; refine wpList_append_lies _ rfl _ _ _ rfl 0 146 i0' (.slice none 0 0) 1 24 hun hi0 hz0 hz1 hz2 rfl (by decide) u3 (ys.length + 1) cs rfl (hown3.alloc _) ⟨w3.heap.size, 0, none⟩ 1 1 [u] rfl rfl (cell_one_new _ _ _) (by simpa using hu1) (by omega) hlm (by omega) (by simp) (w3.heap.size + 1) (by simp) ?_; intro g' cap w7 hown7 hgrow hat hlt7))
      exact hL _ _ _ hown7 hgrow hat
    ·obtain ⟨e1, e2⟩ := took_no (p := { p with ix := i, gr := g1 }) h124
     rw [e1]
     rw [e2] at hq2
     have L2 : ZL p b w w2 u3 ys x cs i g1 i0 g0 := ⟨hq2, L.own.keep hk2 (by intro y hy hm; simp at hm; subst hm; have := L.fresh _ hy; omega), L.fresh, L.rep.keep hk2 (by intro y hy; simp; omega), L.gn.keep hk2 (by simp; omega), L.keep.trans hk2, L.ile, L.len, L.gle, L.last, L.spec⟩
     clear e1 e2
     go_wp2_with fail
     go_ret
     exact L2.done h124
   ·have hodd := L.odd
    have hj0 : 0 ≤ at' p.s j := by unfold oddC at hodd; omega
    have h124 : ¬ at' p.s j = 124 := by unfold oddC at hodd; omega
    go_wp2_with fail
    refine (skip_any b { p with ix := j, gr := g1 } 124 (by omega) _ L.qb (Nat.le_of_lt (at'_nn hj0)) hs).mono ?_
    rintro e w2 ⟨rfl, hq2, hk2⟩
    obtain ⟨e1, e2⟩ := took_no (p := { p with ix := j, gr := g1 }) h124
    rw [e1]
    rw [e2] at hq2
    have L2 : ZO p b w w2 u3 j g1 := ⟨hq2, L.sl, L.keep.trans hk2, L.odd, L.ge, L.spec⟩
    clear e1 e2
    go_wp2_with fail
    go_ret
    exact L2.done
theorem ways_prog (n : Nat) : WaysOk n := by
 induction n with
 | zero => intro b p w _ _ _ _ _ _ _ h; omega
 | succ n ih => exact pways_step n ih
end Go.Proofs.YtnfojonmohijpabGreatDoor
namespace Go.Proofs.YtnfojonmohijpabGreatDoor
open Go.RowKit
set_option maxHeartbeats 400000 in
theorem new_any (s : ByteArray) (w : World) :
    Calls Tryz.prog 63 #[.string s] w fun e w' => e = .returned (.agg #[.string s, .int .i64 0]) ∧ Keeps [] w w' := by
 go_enter Tryz.func63, Tryz.ntmps63
 go_wp2_with fail
 refine bodyPost_ret (results_cell_row rfl _ _ w.heap.size _ _ _ _ rfl (heap_alloc_new w _) Tryz.underlying138 rfl (by kernel_rfl)) rfl ?_
 exact ⟨rfl, (Keeps.refl [] w).alloc _⟩
def PaPost (s : ByteArray) (w : World) (e : Ending) (w' : World) : Prop :=
 ∃ q, PatR s q ∧ Keeps [] w w' ∧ match q with
  | .ok W _ => ∃ v, e = .returned (.agg #[.bool W.bg, .bool W.en, v, .int .i64 W.g]) ∧ v.oneCell' = true ∧ Rep w' (fun g => w.heap.size ≤ g) .ways W.x [v]
  | .bad j => e = fault j
def P4 (w : World) (r : Nat) (a b c d : Value) : Prop := w.heap[r]? = some (.cells #[a, b, c, d] 58 (0, 0))
theorem P4.lt {w : World} {r : Nat} {a b c d : Value} (h : P4 w r a b c d) : r < w.heap.size := (Array.getElem?_eq_some_iff.1 h).1
theorem P4.keep {w w' : World} {r : Nat} {a b c d : Value} {S : List Nat} (h : P4 w r a b c d) (hk : Keeps S w w') (hb : r ∉ S) : P4 w' r a b c d := (hk.block r h.lt hb).trans h
theorem P4.main {w : World} {r : Nat} {a b c d : Value} (h : P4 w r a b c d) : w.cell? ⟨r, 0, none⟩ = some a ∧ w.cell? ⟨r, 1, none⟩ = some b ∧ w.cell? ⟨r, 2, none⟩ = some c ∧ w.cell? ⟨r, 3, none⟩ = some d ∧
    w.frozen? ⟨r, 0, none⟩ = false ∧ w.frozen? ⟨r, 1, none⟩ = false ∧ w.frozen? ⟨r, 2, none⟩ = false ∧ w.frozen? ⟨r, 3, none⟩ = false := by
 unfold P4 at h
 simp [World.cell?, World.frozen?, h]
theorem P4.set0 {w : World} {r : Nat} {a b c d : Value} (h : P4 w r a b c d) (v : Value) : P4 (w.setCell ⟨r, 0, none⟩ v) r v b c d := by
 unfold P4 at *
 simp [World.setCell, Array.getElem?_modify, h]
theorem P4.set1 {w : World} {r : Nat} {a b c d : Value} (h : P4 w r a b c d) (v : Value) : P4 (w.setCell ⟨r, 1, none⟩ v) r a v c d := by
 unfold P4 at *
 simp [World.setCell, Array.getElem?_modify, h]
theorem P4.set2 {w : World} {r : Nat} {a b c d : Value} (h : P4 w r a b c d) (v : Value) : P4 (w.setCell ⟨r, 2, none⟩ v) r a b v d := by
 unfold P4 at *
 simp [World.setCell, Array.getElem?_modify, h]
theorem P4.set3 {w : World} {r : Nat} {a b c d : Value} (h : P4 w r a b c d) (v : Value) : P4 (w.setCell ⟨r, 3, none⟩ v) r a b c v := by
 unfold P4 at *
 simp [World.setCell, Array.getElem?_modify, h]
theorem infoPat {a b c d : Value} : (Tryz.prog.info? 58).map (·.size) = some (#[a, b, c, d] : Array Value).size := by kernel_rfl
theorem four_one {x y : Bool} {v : Value} {n : Int} (hv : v.oneCell' = true) : (#[.bool x, .bool y, v, .int .i64 n] : Array Value).all (·.oneCell') = true := by
 have h1 : ∀ b, (Value.bool b).oneCell' = true := fun _ => rfl
 have h2 : (Value.int .i64 n).oneCell' = true := rfl
 simp [h1, h2, hv]
set_option maxRecDepth 100000 in
set_option maxHeartbeats 1000000 in
theorem parse_prog (s : ByteArray) (w : World) (hgn : GN w) (hs : s.size ≤ 60) :
    Calls Tryz.prog 33 #[.string s] w (PaPost s w) := by
 go_enter Tryz.func33, Tryz.ntmps33
 go_wp2_with fail
 have hr0 : P4 (w.alloc (.cells #[.bool false, .bool false, .slice none 0 0, .int .i64 0] 58)) w.heap.size (.bool false) (.bool false) (.slice none 0 0) (.int .i64 0) := heap_alloc_new w _
 have hk0 : Keeps [] w (w.alloc (.cells #[.bool false, .bool false, .slice none 0 0, .int .i64 0] 58)) := (Keeps.refl [] w).alloc _
 have hg0 := hgn.keep hk0 (by simp)
 have hgl := hgn.lt
 refine (new_any s _).mono ?_
 rintro e w1 ⟨rfl, hk1⟩
 generalize w.alloc (.cells #[.bool false, .bool false, .slice none 0 0, .int .i64 0] 58) = W0 at *
 have hr1 := hr0.keep hk1 (by simp)
 have hg1 := hg0.keep hk1 (by simp)
 have hkA := hk0.trans hk1
 have hl1 := hr1.lt
 clear hr0 hg0 hk0 hk1 hgn
 go_wp2_with fail
 have hq1 : QB ((w1.alloc (.cells #[.string s, .int .i64 0, .int .i64 0, .int .i64 0] 141)).alloc (.cells #[.bool false, .bool false, .slice none 0 0, .int .i64 0] 58)) w1.heap.size ⟨s, 0, 0, 0⟩ := heap_alloc2_old w1 _ _
 have hp1 : P4 ((w1.alloc (.cells #[.string s, .int .i64 0, .int .i64 0, .int .i64 0] 141)).alloc (.cells #[.bool false, .bool false, .slice none 0 0, .int .i64 0] 58)) (w1.heap.size + 1) (.bool false) (.bool false) (.slice none 0 0) (.int .i64 0) := heap_alloc2_new w1 _ _
 have hk2 : Keeps [] w1 ((w1.alloc (.cells #[.string s, .int .i64 0, .int .i64 0, .int .i64 0] 141)).alloc (.cells #[.bool false, .bool false, .slice none 0 0, .int .i64 0] 58)) := ((Keeps.refl [] w1).alloc _).alloc _
 generalize (w1.alloc (.cells #[.string s, .int .i64 0, .int .i64 0, .int .i64 0] 141)).alloc (.cells #[.bool false, .bool false, .slice none 0 0, .int .i64 0] 58) = w2 at *
 have hr2 := hr1.keep hk2 (by simp)
 have hg2 := hg1.keep hk2 (by simp)
 have hkB := hkA.trans hk2
 have hszA := hkA.size
 obtain ⟨b, hb⟩ : ∃ b, w1.heap.size = b := ⟨_, rfl⟩
 obtain ⟨g, hg⟩ : ∃ g, w.heap.size = g := ⟨_, rfl⟩
 rw [hb, hg] at hszA
 rw [hb] at hq1 hp1 hl1 ⊢
 rw [hg] at hr2 hgl hl1 ⊢
 clear hr1 hg1 hkA hk2 hb
 refine (skip_any b ⟨s, 0, 0, 0⟩ 94 (by omega) _ hq1 (Nat.zero_le _) hs).mono ?_
 rintro e w3 ⟨rfl, hq3, hk3⟩
 have htk : QS.took ⟨s, 0, 0, 0⟩ 94 = ⟨s, wi s, 0, 0⟩ := by
  unfold QS.took wi
  have : QS.cur ⟨s, 0, 0, 0⟩ = at' s 0 := rfl
  rw [this]
  by_cases h : at' s 0 = 94
  ·rw [if_pos h, if_pos h]
  ·rw [if_neg h, if_neg h]
 rw [htk] at hq3
 have hwi : wi s ≤ s.size := by
  unfold wi
  by_cases h : at' s 0 = 94
  ·rw [if_pos h]; exact at'_nn (by omega)
  ·rw [if_neg h]; omega
 have hp3 := hp1.keep hk3 (by simp)
 have hr3 := hr2.keep hk3 (by simp; omega)
 have hg3 := hg2.keep hk3 (by simp; omega)
 have hkC : Keeps [] w w3 := hkB.fresh hk3 (by intro x hx; simp at hx; omega)
 obtain ⟨m0, m1, m2, m3, n0, n1, n2, n3⟩ := hp3.main
 have hp4 := hp3.set0 (.bool (decide (at' s 0 = 94)))
 have hk4 : Keeps [b + 1] w3 (w3.setCell ⟨b + 1, 0, none⟩ (.bool (decide (at' s 0 = 94)))) := (Keeps.refl [b + 1] w3).setCell (by simp) _
 have hcu : decide (QS.cur ⟨s, 0, 0, 0⟩ = 94) = decide (at' s 0 = 94) := rfl
 rw [hcu]
 clear hp1 hr2 hg2 hkB hq1 hk3 htk hcu
 generalize hbg : decide (at' s 0 = 94) = bg at *
 go_wp2_with fail
 have hq4 := hq3.keep hk4 (by simp)
 have hr4 := hr3.keep hk4 (by simp; omega)
 have hg4 := hg3.keep hk4 (by simp; omega)
 have hkD : Keeps [] w _ := hkC.fresh hk4 (by intro x hx; simp at hx; omega)
 clear hp3 hr3 hg3 hkC hq3 hk4 m0 m1 m2 m3 n0 n1 n2 n3
 generalize w3.setCell ⟨b + 1, 0, none⟩ (.bool bg) = w4 at *
 have hszD : g ≤ w4.heap.size := by have := hkD.size; omega
 refine (ways_prog 61 b ⟨s, wi s, 0, 0⟩ w4 hq4 hg4 (by omega) hs hwi (by simp) (by simp) (by simp; omega)).mono ?_
 rintro e w5 ⟨q, hG, hk5, hc5⟩
 have hp5 := hp4.keep hk5 (by simp)
 have hr5 := hr4.keep hk5 (by simp; omega)
 have hg5 := hg4.keep hk5 (by simp; omega)
 have hkE : Keeps [] w w5 := hkD.fresh hk5 (by intro x hx; simp at hx; omega)
 have hp4' := hp4
 clear hp4 hr4 hg4 hq4
 cases q with
 | bad j =>
  have HP : Hid (PatR s (.bad j)) := ⟨_, hG, rfl⟩
  rcases hc5 with rfl | ⟨v, g1, rfl, hvs, hq5, hodd, _⟩
  ·simp only [fault]
   exact ⟨rfl, _, HP.out, hkE, rfl⟩
  ·obtain ⟨va, vn, vc, rfl⟩ := hvs
   have hj0 : 0 ≤ at' s j := by unfold oddC at hodd; simp at hodd; omega
   have hjlt : j < s.size := at'_nn hj0
   have h36 : ¬ at' s j = 36 := by unfold oddC at hodd; simp at hodd; omega
   obtain ⟨m0, m1, m2, m3, n0, n1, n2, n3⟩ := hp5.main
   have hp6 := hp5.set2 (.slice va vn vc)
   have hk6 : Keeps [b + 1] w5 (w5.setCell ⟨b + 1, 2, none⟩ (.slice va vn vc)) := (Keeps.refl [b + 1] w5).setCell (by simp) _
   have hq6 := hq5.keep hk6 (by simp)
   have hkF : Keeps [] w (w5.setCell ⟨b + 1, 2, none⟩ (.slice va vn vc)) := hkE.fresh hk6 (by intro x hx; simp at hx; omega)
   clear hk5 hk6 hp5 hkE hq5 hodd hG
   go_wp2_with fail
   generalize w5.setCell ⟨b + 1, 2, none⟩ (.slice va vn vc) = w6 at *
   refine (skip_any b ⟨s, j, 0, g1⟩ 36 (by omega) _ hq6 (Nat.le_of_lt hjlt) hs).mono ?_
   rintro e w7 ⟨rfl, hq7, hk7⟩
   obtain ⟨e1, e2⟩ := took_no (p := ⟨s, j, 0, g1⟩) h36
   rw [e1]
   rw [e2] at hq7
   have hp7 := hp6.keep hk7 (by simp)
   have hkG : Keeps [] w w7 := hkF.fresh hk7 (by intro x hx; simp at hx; omega)
   clear m0 m1 m2 m3 n0 n1 n2 n3
   obtain ⟨m0, m1, m2, m3, n0, n1, n2, n3⟩ := hp7.main
   have hk8 : Keeps [b + 1] w7 (w7.setCell ⟨b + 1, 1, none⟩ (.bool false)) := (Keeps.refl [b + 1] w7).setCell (by simp) _
   have hq8 := hq7.keep hk8 (by simp)
   have hkH : Keeps [] w (w7.setCell ⟨b + 1, 1, none⟩ (.bool false)) := hkG.fresh hk8 (by intro x hx; simp at hx; omega)
   clear e1 e2 hk7 hk8 hq7 hp7 hkG hkF
   go_wp2_with fail
   refine (end_bad b ⟨s, j, 0, g1⟩ _ hq8 hjlt hs).mono ?_
   rintro e w9 ⟨rfl, hk9⟩
   simp only [fault]
   exact ⟨rfl, _, HP.out, hkH.trans hk9, rfl⟩
 | ok y j =>
  obtain ⟨x, g1⟩ := y
  obtain ⟨v, rfl, hrep, hq5⟩ := hc5
  obtain ⟨va, vn, vc, rfl⟩ : IsSl v := by
   cases hrep with
   | ways _ _ _ _ _ ho _ => exact ownsRow_sl ho
  have hokb := hG.okb x g1 j rfl
  have hjle : j ≤ s.size := hokb.2.1 hwi
  obtain ⟨m0, m1, m2, m3, n0, n1, n2, n3⟩ := hp5.main
  have hp6 := hp5.set2 (.slice va vn vc)
  have hk6 : Keeps [b + 1] w5 (w5.setCell ⟨b + 1, 2, none⟩ (.slice va vn vc)) := (Keeps.refl [b + 1] w5).setCell (by simp) _
  have hq6 := hq5.keep hk6 (by simp)
  have hr6 := hr5.keep hk6 (by simp; omega)
  have hkF : Keeps [] w (w5.setCell ⟨b + 1, 2, none⟩ (.slice va vn vc)) := hkE.fresh hk6 (by intro x hx; simp at hx; omega)
  have hszb : b + 1 < w4.heap.size := hp4'.lt
  have hrep6 := hrep.keep hk6 (by intro y hy; simp; omega)
  have HG : Hid (G s .ways 0 0 (wi s) (.ok (x, g1) j)) := hG
  clear hk5 hk6 hp5 hkE hq5 hG hr5 hrep hokb
  go_wp2_with fail
  generalize w5.setCell ⟨b + 1, 2, none⟩ (.slice va vn vc) = w6 at *
  refine (skip_any b ⟨s, j, 0, g1⟩ 36 (by omega) _ hq6 hjle hs).mono ?_
  rintro e w7 ⟨rfl, hq7, hk7⟩
  obtain ⟨k, hk, hkle, htk⟩ : ∃ k, (if at' s j = 36 then j + 1 else j) = k ∧ k ≤ s.size ∧ QS.took ⟨s, j, 0, g1⟩ 36 = ⟨s, k, 0, g1⟩ := by
   by_cases h : at' s j = 36
   ·rw [if_pos h]
    exact ⟨_, rfl, at'_nn (by omega), (took_yes (p := ⟨s, j, 0, g1⟩) h).2⟩
   ·rw [if_neg h]
    exact ⟨_, rfl, hjle, (took_no (p := ⟨s, j, 0, g1⟩) h).2⟩
  have hen : decide (QS.cur ⟨s, j, 0, g1⟩ = 36) = decide (at' s j = 36) := rfl
  rw [hen]
  rw [htk] at hq7
  have HP : Hid (PatR s (if 0 ≤ at' s k then .bad k else .ok ⟨bg, decide (at' s j = 36), x, g1⟩ k)) := by
   refine ⟨_, HG.out, ?_⟩
   rw [PatE_ok, hk, hbg]
  generalize decide (at' s j = 36) = en at *
  have hp7 := hp6.keep hk7 (by simp)
  have hr7 := hr6.keep hk7 (by simp; omega)
  have hrep7 := hrep6.keep hk7 (by intro y hy; simp; omega)
  have hkG : Keeps [] w w7 := hkF.fresh hk7 (by intro x hx; simp at hx; omega)
  clear m0 m1 m2 m3 n0 n1 n2 n3
  obtain ⟨m0, m1, m2, m3, n0, n1, n2, n3⟩ := hp7.main
  have hk8 : Keeps [b + 1] w7 (w7.setCell ⟨b + 1, 1, none⟩ (.bool en)) := (Keeps.refl [b + 1] w7).setCell (by simp) _
  have hp8 := hp7.set1 (.bool en)
  have hq8 := hq7.keep hk8 (by simp)
  have hr8 := hr7.keep hk8 (by simp; omega)
  have hrep8 := hrep7.keep hk8 (by intro y hy; simp; omega)
  have hkH : Keeps [] w (w7.setCell ⟨b + 1, 1, none⟩ (.bool en)) := hkG.fresh hk8 (by intro x hx; simp at hx; omega)
  clear hk7 hk8 hq7 hp7 hkG hkF hr6 hr7 hp6 hrep6 hrep7 hk htk hen hq6 HG
  go_wp2_with fail
  generalize w7.setCell ⟨b + 1, 1, none⟩ (.bool en) = w8 at *
  by_cases hkb : k < s.size
  ·refine (end_bad b ⟨s, k, 0, g1⟩ _ hq8 hkb hs).mono ?_
   rintro e w9 ⟨rfl, hk9⟩
   simp only [fault]
   have h := HP.out
   have h0 : 0 ≤ at' s k := by rw [at'_lt hkb]; omega
   rw [if_pos h0] at h
   exact ⟨rfl, _, h, hkH.trans hk9, rfl⟩
  ·have hke : k = s.size := by omega
   have h := HP.out
   have h0 : ¬ 0 ≤ at' s k := by rw [at'_ge (by omega)]; omega
   rw [if_neg h0] at h
   have HQ' : Hid (PatR s (.ok ⟨bg, en, x, g1⟩ k)) := h
   clear h h0 HP
   refine (end_ok b ⟨s, k, 0, g1⟩ _ hq8 hke).mono ?_
   rintro e w9 ⟨rfl, hq9, hk9⟩
   have hp9 := hp8.keep hk9 (by simp)
   have hr9 := hr8.keep hk9 (by simp)
   have hrep9 := hrep8.keep hk9 (by simp)
   have hkI := hkH.trans hk9
   clear m0 m1 m2 m3 n0 n1 n2 n3
   obtain ⟨m0, m1, m2, m3, n0, n1, n2, n3⟩ := hp9.main
   obtain ⟨_, _, d2, d3, _, f2, f3⟩ := hq9.main
   have hpA := hp9.set3 (.int .i64 (g1 : Int))
   have hkA : Keeps [b + 1] w9 (w9.setCell ⟨b + 1, 3, none⟩ (.int .i64 (g1 : Int))) := (Keeps.refl [b + 1] w9).setCell (by simp) _
   have hrA := hr9.keep hkA (by simp; omega)
   have hrepA := hrep9.keep hkA (by intro y hy; simp; omega)
   have hkJ : Keeps [] w (w9.setCell ⟨b + 1, 3, none⟩ (.int .i64 (g1 : Int))) := hkI.fresh hkA (by intro x hx; simp at hx; omega)
   clear hk9 hp9 hr9 hrep9 hkI hkH hrep8 hr8 hp8 hq8
   go_wp2_with (first | (refine wpList_load_row rfl 58 _ rfl (b + 1) rfl _ _ _ _ hpA Tryz.underlying58 rfl infoPat ?_) | (refine wpList_store_row rfl 58 _ _ rfl g _ rfl rfl _ _ hrA infoPat rfl (four_one rfl) ?_))
   refine bodyPost_ret (results_cell_row rfl _ _ g _ _ _ _ rfl (setRow_heap _ _ _ _ _ _ hrA) Tryz.underlying58 rfl infoPat) rfl ?_
   have hkR := (Keeps.refl [g] (w9.setCell ⟨b + 1, 3, none⟩ (.int .i64 (g1 : Int)))).setRow (g := g) (by simp) #[.bool bg, .bool en, .slice va vn vc, .int .i64 (g1 : Int)]
   exact ⟨_, HQ'.out, hkJ.setRow (Or.inr (by omega)) _, _, rfl, rfl, (hrepA.keep hkR (by intro y hy; simp; omega)).mono (by intro y hy _; omega)⟩
end Go.Proofs.YtnfojonmohijpabGreatDoor
namespace Go.Proofs.YtnfojonmohijpabGreatDoor
open Go.RowKit
set_option maxRecDepth 100000 in
set_option maxHeartbeats 400000 in
theorem catch_idle (x y z : Value) (w : World) :
    CallsD Tryz.prog 62 #[x, y, z] .returning w fun e u' w' => e = .returned (.tuple #[]) ∧ u' = .returning ∧ w' = w := by
 refine callsD_of_wpS Tryz.func62 rfl fun c₀ cs hu => ?_
 apply wpS_seq
 apply wpS_region
 simp [wpOpsS, go_sem, recoverD, hu, Tryz.ntmps62, Exit.thenS]
 refine wpS_of_wp ?_
 have et : (#[x, y, z] ++ (Array.replicate 12 undef).setIfInBounds 3 Value.nilIface) = #[x, y, z, undef, undef, undef, .nilIface, undef, undef, undef, undef, undef, undef, undef, undef] := rfl
 rw [et]
 go_wp2_with fail
 cases c₀
 simp_all [bodyPostS, results, Tryz.results62]
theorem assert_fault (j : Int) (w : World) : (Instr.typeAssert (.iface 136 (.agg #[.int .i64 j])) 20 136 true).run Tryz.prog w = .ok (.tuple #[.agg #[.int .i64 j], .bool true]) w := by kernel_rfl
set_option maxRecDepth 100000 in
set_option maxHeartbeats 400000 in
theorem catch_fault (j : Nat) (e0 : Int) (ib jb eb : Addr) (a b : Value) (w : World) (h1 : w.cell? ib = some (.int .i64 e0)) (h2 : w.cell? jb = some a) (h3 : w.cell? eb = some b) (f2 : w.frozen? jb = false) (f3 : w.frozen? eb = false) (hne : jb ≠ eb) :
    CallsD Tryz.prog 62 #[.pointer (some ib), .pointer (some jb), .pointer (some eb)] (.panicking [{ v := .iface 136 (.agg #[.int .i64 (j : Int)]), recovered := false }]) w fun e u' w' =>
     e = .returned (.tuple #[]) ∧ u' = .panicking [{ v := .iface 136 (.agg #[.int .i64 (j : Int)]), recovered := true }] ∧ w' = ((w.alloc (.cells #[.int .i64 (j : Int)] 136)).setCell jb (.int .i64 (j : Int))).setCell eb (.int .i64 e0) := by
 refine callsD_of_wpS Tryz.func62 rfl fun c₀ cs hu => ?_
 apply wpS_seq
 apply wpS_region
 simp [wpOpsS, go_sem, recoverD, hu, Tryz.ntmps62, Exit.thenS]
 refine wpS_of_wp ?_
 have et : (#[.pointer (some ib), .pointer (some jb), .pointer (some eb)] ++ (Array.replicate 12 undef).setIfInBounds 3 (.iface 136 (.agg #[.int .i64 (j : Int)]))) = #[.pointer (some ib), .pointer (some jb), .pointer (some eb), undef, undef, undef, .iface 136 (.agg #[.int .i64 (j : Int)]), undef, undef, undef, undef, undef, undef, undef, undef] := rfl
 rw [et]
 have hta := fun w => assert_fault (j : Int) w
 have hka : Keeps [] w (w.alloc (.cells #[.int .i64 (j : Int)] 136)) := (Keeps.refl [] w).alloc _
 have l2 := World.block_lt_of_cell? w _ h2
 have l3 := World.block_lt_of_cell? w _ h3
 have g1 := keep_cell hka h1
 have g2 := keep_cell hka h2
 have g3 := keep_cell hka h3
 have k2 : (w.alloc (.cells #[.int .i64 (j : Int)] 136)).frozen? jb = false := (World.frozen?_alloc_old w _ jb (Nat.ne_of_lt l2)).trans f2
 have k3 : (w.alloc (.cells #[.int .i64 (j : Int)] 136)).frozen? eb = false := (World.frozen?_alloc_old w _ eb (Nat.ne_of_lt l3)).trans f3
 have n3 : ((w.alloc (.cells #[.int .i64 (j : Int)] 136)).setCell jb (.int .i64 (j : Int))).cell? eb = some b := (World.cell?_setCell_other _ _ _ _ hne).trans g3
 have m3 : ((w.alloc (.cells #[.int .i64 (j : Int)] 136)).setCell jb (.int .i64 (j : Int))).frozen? eb = false := by rw [World.frozen?_setCell]; exact k3
 clear et hka l2 l3 h1 h2 h3 f2 f3 hne
 go_wp2_with fail
 cases c₀
 simp_all [bodyPostS, results, Tryz.results62]
theorem cf_parse (args : Array Value) (w : World) : (callFunc 33 args).run Tryz.prog w = .ok (.enter 33 args) w := by kernel_rfl
def z4 : Array Value := #[.bool false, .bool false, .slice none 0 0, .int .i64 0]
def RdPost (s : ByteArray) (w : World) (e : Ending) (w' : World) : Prop :=
 Keeps [] w w' ∧ ((60 < s.size ∧ e = .returned (.tuple #[.agg z4, .int .i64 0, .int .i64 1])) ∨ (s.size ≤ 60 ∧ ∃ q, PatR s q ∧ match q with
   | .ok W _ => ∃ v, e = .returned (.tuple #[.agg #[.bool W.bg, .bool W.en, v, .int .i64 W.g], .int .i64 0, .int .i64 0]) ∧ v.oneCell' = true ∧ Rep w' (fun g => w.heap.size ≤ g) .ways W.x [v]
   | .bad j => e = .returned (.tuple #[.agg z4, .int .i64 j, .int .i64 2])))
theorem loadInt (t : TypeId) (ht : t = 3 ∨ t = 31) (a : Addr) (x : Int) (w : World) (h : w.cell? a = some (.int .i64 x)) : (loadVar t a).run Tryz.prog w = .ok (.int .i64 x) w := by
 rcases ht with rfl | rfl
 ·simp [loadVar, go_sem, h]
 ·simp [loadVar, go_sem, h]
theorem results_read (tmps : Array Value) (w : World) (g : Nat) (a b c d : Value) (x y : Int) (h8 : tmps.getD 8 undef = .pointer (some ⟨g + 1, 0, none⟩)) (h9 : tmps.getD 9 undef = .pointer (some ⟨g + 1 + 1, 0, none⟩)) (h10 : tmps.getD 10 undef = .pointer (some ⟨g + 1 + 1 + 1, 0, none⟩))
    (hp : P4 w (g + 1) a b c d) (hx : w.cell? ⟨g + 1 + 1, 0, none⟩ = some (.int .i64 x)) (hy : w.cell? ⟨g + 1 + 1 + 1, 0, none⟩ = some (.int .i64 y)) :
    (results Tryz.f32 tmps).run Tryz.prog w = .ok (.tuple #[.agg #[a, b, c, d], .int .i64 x, .int .i64 y]) w := by
 have h : Tryz.f32.results = #[.cell 8 58, .cell 9 3, .cell 10 31] := rfl
 have e8 : tmps[8]?.getD undef = .pointer (some ⟨g + 1, 0, none⟩) := by simpa using h8
 have e9 : tmps[9]?.getD undef = .pointer (some ⟨g + 1 + 1, 0, none⟩) := by simpa using h9
 have e10 : tmps[10]?.getD undef = .pointer (some ⟨g + 1 + 1 + 1, 0, none⟩) := by simpa using h10
 have l1 := run_loadVar_row (P := Tryz.prog) w (g + 1) 58 58 #[a, b, c, d] (0, 0) _ hp Tryz.underlying58 rfl infoPat
 have l2 := loadInt 3 (Or.inl rfl) _ x w hx
 have l3 := loadInt 31 (Or.inr rfl) _ y w hy
 simp [results, h, e8, e9, e10, asAddr, l1, l2, l3]
theorem read_boxes (e : Int) (w : World) : ∃ W, ((((w.alloc (.cells #[.int .i64 2] 31)).alloc (.cells #[.bool false, .bool false, .slice none 0 0, .int .i64 0] 58)).alloc (.cells #[.int .i64 0] 3)).alloc (.cells #[.int .i64 e] 31)) = W ∧
    W.cell? ⟨w.heap.size, 0, none⟩ = some (.int .i64 2) ∧ P4 W (w.heap.size + 1) (.bool false) (.bool false) (.slice none 0 0) (.int .i64 0) ∧ W.cell? ⟨w.heap.size + 1 + 1, 0, none⟩ = some (.int .i64 0) ∧ W.cell? ⟨w.heap.size + 1 + 1 + 1, 0, none⟩ = some (.int .i64 e) ∧
    W.frozen? ⟨w.heap.size + 1 + 1, 0, none⟩ = false ∧ W.frozen? ⟨w.heap.size + 1 + 1 + 1, 0, none⟩ = false ∧ Keeps [] w W ∧ W.heap.size = w.heap.size + 4 := by
 have k1 : Keeps [] w (w.alloc (.cells #[.int .i64 2] 31)) := (Keeps.refl [] w).alloc _
 have c1 : (w.alloc (.cells #[.int .i64 2] 31)).cell? ⟨w.heap.size, 0, none⟩ = some (.int .i64 2) := by simp
 have z1 : (w.alloc (.cells #[.int .i64 2] 31)).heap.size = w.heap.size + 1 := by simp
 generalize w.alloc (.cells #[.int .i64 2] 31) = w1 at *
 have k2 : Keeps [] w1 (w1.alloc (.cells #[.bool false, .bool false, .slice none 0 0, .int .i64 0] 58)) := (Keeps.refl [] w1).alloc _
 have c2 : P4 (w1.alloc (.cells #[.bool false, .bool false, .slice none 0 0, .int .i64 0] 58)) w1.heap.size (.bool false) (.bool false) (.slice none 0 0) (.int .i64 0) := heap_alloc_new w1 _
 have z2 : (w1.alloc (.cells #[.bool false, .bool false, .slice none 0 0, .int .i64 0] 58)).heap.size = w1.heap.size + 1 := by simp
 have c1 := keep_cell k2 c1
 generalize w1.alloc (.cells #[.bool false, .bool false, .slice none 0 0, .int .i64 0] 58) = w2 at *
 have k3 : Keeps [] w2 (w2.alloc (.cells #[.int .i64 0] 3)) := (Keeps.refl [] w2).alloc _
 have c3 : (w2.alloc (.cells #[.int .i64 0] 3)).cell? ⟨w2.heap.size, 0, none⟩ = some (.int .i64 0) := by simp
 have f3 : (w2.alloc (.cells #[.int .i64 0] 3)).frozen? ⟨w2.heap.size, 0, none⟩ = false := by simp
 have z3 : (w2.alloc (.cells #[.int .i64 0] 3)).heap.size = w2.heap.size + 1 := by simp
 have c1 := keep_cell k3 c1
 have c2 := c2.keep k3 (by simp)
 generalize w2.alloc (.cells #[.int .i64 0] 3) = w3 at *
 have k4 : Keeps [] w3 (w3.alloc (.cells #[.int .i64 e] 31)) := (Keeps.refl [] w3).alloc _
 have c4 : (w3.alloc (.cells #[.int .i64 e] 31)).cell? ⟨w3.heap.size, 0, none⟩ = some (.int .i64 e) := by simp
 have f4 : (w3.alloc (.cells #[.int .i64 e] 31)).frozen? ⟨w3.heap.size, 0, none⟩ = false := by simp
 have z4 : (w3.alloc (.cells #[.int .i64 e] 31)).heap.size = w3.heap.size + 1 := by simp
 have c1 := keep_cell k4 c1
 have c2 := c2.keep k4 (by simp)
 have f3' : (w3.alloc (.cells #[.int .i64 e] 31)).frozen? ⟨w2.heap.size, 0, none⟩ = false := (World.frozen?_alloc_old w3 _ ⟨w2.heap.size, 0, none⟩ (by simp; omega)).trans f3
 have c3 := keep_cell k4 c3
 generalize w3.alloc (.cells #[.int .i64 e] 31) = w4 at *
 rw [z3, z2, z1] at c4 f4
 rw [z2, z1] at c3 f3'
 rw [z1] at c2
 exact ⟨w4, rfl, c1, c2, c3, c4, f3', f4, ((k1.trans k2).trans k3).trans k4, by omega⟩
set_option maxRecDepth 100000 in
set_option maxHeartbeats 1000000 in
theorem read_long2 (s : ByteArray) (w : World) (hs : 60 < s.size) :
    Calls Tryz.prog 32 #[.string s, .int .i64 60, .func (.func 33) #[] #[], .int .i64 2] w (RdPost s w) := by
 have hmf : ∀ (fn : Fn) (first cap : Array Value) (w : World), (Instr.makeFunc fn first cap).run Tryz.prog w = .ok (.func fn first cap) w := fun _ _ _ _ => rfl
 have hs' : (60 : Int) < (s.size : Int) := by omega
 obtain ⟨W, hW, b0, b1, b2, b3, g2, g3, hk, hz⟩ := read_boxes 1 w
 go_enter_defers Tryz.func32, Tryz.ntmps32
 go_wp2_with fail
 try rw [hW]
 exact ⟨_, results_read _ _ w.heap.size _ _ _ _ 0 1 rfl rfl rfl b1 b2 b3, hk, Or.inl ⟨hs, rfl⟩⟩
set_option maxRecDepth 100000 in
set_option maxHeartbeats 1000000 in
theorem read_prog (s : ByteArray) (w : World) (hgn : GN w) (hs : s.size ≤ 60) :
    Calls Tryz.prog 32 #[.string s, .int .i64 60, .func (.func 33) #[] #[], .int .i64 2] w (RdPost s w) := by
 have hmf : ∀ (fn : Fn) (first cap : Array Value) (w : World), (Instr.makeFunc fn first cap).run Tryz.prog w = .ok (.func fn first cap) w := fun _ _ _ _ => rfl
 have hs' : ¬ (60 : Int) < (s.size : Int) := by omega
 have cfp := cf_parse
 obtain ⟨W, hW, b0, b1, b2, b3, g2, g3, hk, hz⟩ := read_boxes 0 w
 have hgW := hgn.keep hk (by simp)
 go_enter_defers Tryz.func32, Tryz.ntmps32
 go_wp2_with fail
 try rw [hW]
 clear hW
 refine (parse_prog s W hgW hs).mono ?_
 rintro e w5 ⟨q, hP, hk5, hc5⟩
 have hkA := hk.trans hk5
 have a0 := keep_cell hk5 b0
 have a1 := b1.keep hk5 (by simp)
 have a2 := keep_cell hk5 b2
 have a3 := keep_cell hk5 b3
 have h2 : w5.frozen? ⟨w.heap.size + 1 + 1, 0, none⟩ = false := (World.frozen?_of_block (hk5.block _ (World.block_lt_of_cell? W _ b2) (by simp))).trans g2
 have h3 : w5.frozen? ⟨w.heap.size + 1 + 1 + 1, 0, none⟩ = false := (World.frozen?_of_block (hk5.block _ (World.block_lt_of_cell? W _ b3) (by simp))).trans g3
 clear b0 b1 b2 b3 g2 g3 hgW hgn
 obtain ⟨g, hg⟩ : ∃ g, w.heap.size = g := ⟨_, rfl⟩
 rw [hg] at a0 a1 a2 a3 h2 h3 ⊢
 have z5 := hk5.size
 cases q with
 | bad j =>
  subst hc5
  simp only [fault]
  refine leaves_cons (f := 62) (args := #[.pointer (some ⟨g, 0, none⟩), .pointer (some ⟨g + 1 + 1, 0, none⟩), .pointer (some ⟨g + 1 + 1 + 1, 0, none⟩)]) (by simp) (by simp [go_sem]) ?_
  refine (catch_fault j 2 _ _ _ _ _ _ a0 a2 a3 h2 h3 (by simp)).mono ?_
  rintro e u' w6 ⟨rfl, rfl, rfl⟩
  have kf : Keeps [] w5 (w5.alloc (.cells #[.int .i64 (j : Int)] 136)) := (Keeps.refl [] w5).alloc _
  have y1 := keep_cell kf a2
  have y2 := keep_cell kf a3
  have y3 := a1.keep kf (by simp)
  have hkB := hkA.trans kf
  generalize w5.alloc (.cells #[.int .i64 (j : Int)] 136) = w7 at *
  have hkC : Keeps [g + 1 + 1, g + 1 + 1 + 1] w7 ((w7.setCell ⟨g + 1 + 1, 0, none⟩ (.int .i64 (j : Int))).setCell ⟨g + 1 + 1 + 1, 0, none⟩ (.int .i64 2)) := ((Keeps.refl _ w7).setCell (by simp) _).setCell (by simp) _
  have r3 := y3.keep hkC (by simp)
  have r1 : ((w7.setCell ⟨g + 1 + 1, 0, none⟩ (.int .i64 (j : Int))).setCell ⟨g + 1 + 1 + 1, 0, none⟩ (.int .i64 2)).cell? ⟨g + 1 + 1, 0, none⟩ = some (.int .i64 (j : Int)) := by
   rw [World.cell?_setCell_other _ _ _ _ (by simp)]
   exact World.cell?_setCell_same _ _ _ y1
  have r2 : ((w7.setCell ⟨g + 1 + 1, 0, none⟩ (.int .i64 (j : Int))).setCell ⟨g + 1 + 1 + 1, 0, none⟩ (.int .i64 2)).cell? ⟨g + 1 + 1 + 1, 0, none⟩ = some (.int .i64 2) := by
   refine World.cell?_setCell_same _ _ _ (u := .int .i64 0) ?_
   rw [World.cell?_setCell_other _ _ _ _ (by simp)]
   exact y2
  exact ⟨_, results_read _ _ g _ _ _ _ j 2 rfl rfl rfl r3 r1 r2, hkB.fresh hkC (by intro x hx; simp at hx; omega), Or.inr ⟨hs, _, hP, rfl⟩⟩
 | ok Wh j =>
  obtain ⟨v, rfl, hv1, hrep⟩ := hc5
  have o4 : (#[.bool Wh.bg, .bool Wh.en, v, .int .i64 (Wh.g : Int)] : Array Value).all (·.oneCell') = true := four_one hv1
  have hkR := (Keeps.refl [g + 1] w5).setRow (g := g + 1) (by simp) #[.bool Wh.bg, .bool Wh.en, v, .int .i64 (Wh.g : Int)]
  have hbl : ∀ k, k < w5.heap.size → k ≠ g + 1 → (w5.setRow (g + 1) #[.bool Wh.bg, .bool Wh.en, v, .int .i64 (Wh.g : Int)]).heap[k]? = w5.heap[k]? := fun k hk hn => hkR.block k hk (by simpa using hn)
  have s1 : P4 (w5.setRow (g + 1) #[.bool Wh.bg, .bool Wh.en, v, .int .i64 (Wh.g : Int)]) (g + 1) (.bool Wh.bg) (.bool Wh.en) v (.int .i64 (Wh.g : Int)) := setRow_heap _ _ _ _ _ _ a1
  have s2 : (w5.setRow (g + 1) #[.bool Wh.bg, .bool Wh.en, v, .int .i64 (Wh.g : Int)]).cell? ⟨g + 1 + 1, 0, none⟩ = some (.int .i64 0) := (World.cell?_of_block (hbl _ (World.block_lt_of_cell? w5 _ a2) (by simp))).trans a2
  have s3 : (w5.setRow (g + 1) #[.bool Wh.bg, .bool Wh.en, v, .int .i64 (Wh.g : Int)]).cell? ⟨g + 1 + 1 + 1, 0, none⟩ = some (.int .i64 0) := (World.cell?_of_block (hbl _ (World.block_lt_of_cell? w5 _ a3) (by simp; omega))).trans a3
  have t2 : (w5.setRow (g + 1) #[.bool Wh.bg, .bool Wh.en, v, .int .i64 (Wh.g : Int)]).frozen? ⟨g + 1 + 1, 0, none⟩ = false := (World.frozen?_of_block (hbl _ (World.block_lt_of_cell? w5 _ a2) (by simp))).trans h2
  have t3 : (w5.setRow (g + 1) #[.bool Wh.bg, .bool Wh.en, v, .int .i64 (Wh.g : Int)]).frozen? ⟨g + 1 + 1 + 1, 0, none⟩ = false := (World.frozen?_of_block (hbl _ (World.block_lt_of_cell? w5 _ a3) (by simp; omega))).trans h3
  have hrep6 := hrep.keep hkR (by intro y hy; simp; omega)
  have hkB : Keeps [] w (w5.setRow (g + 1) #[.bool Wh.bg, .bool Wh.en, v, .int .i64 (Wh.g : Int)]) := hkA.fresh hkR (by intro x hx; simp at hx; omega)
  clear hbl
  go_wp2_with (first | (refine wpList_store_row rfl 58 _ _ rfl (g + 1) _ rfl rfl _ _ a1 infoPat rfl o4 ?_; generalize w5.setRow (g + 1) #[.bool Wh.bg, .bool Wh.en, v, .int .i64 (Wh.g : Int)] = w6 at *))
  refine leaves_cons (f := 62) (args := #[.pointer (some ⟨g, 0, none⟩), .pointer (some ⟨g + 1 + 1, 0, none⟩), .pointer (some ⟨g + 1 + 1 + 1, 0, none⟩)]) (by simp) (by simp [go_sem]) ?_
  refine (catch_idle _ _ _ _).mono ?_
  rintro e u' w7 ⟨rfl, rfl, rfl⟩
  have hkC : Keeps [g + 1 + 1, g + 1 + 1 + 1] w6 ((w6.setCell ⟨g + 1 + 1, 0, none⟩ (.int .i64 0)).setCell ⟨g + 1 + 1 + 1, 0, none⟩ (.int .i64 0)) := ((Keeps.refl _ w6).setCell (by simp) _).setCell (by simp) _
  have r3 := s1.keep hkC (by simp)
  have r1 : ((w6.setCell ⟨g + 1 + 1, 0, none⟩ (.int .i64 0)).setCell ⟨g + 1 + 1 + 1, 0, none⟩ (.int .i64 0)).cell? ⟨g + 1 + 1, 0, none⟩ = some (.int .i64 0) := by
   rw [World.cell?_setCell_other _ _ _ _ (by simp)]
   exact World.cell?_setCell_same _ _ _ s2
  have r2 : ((w6.setCell ⟨g + 1 + 1, 0, none⟩ (.int .i64 0)).setCell ⟨g + 1 + 1 + 1, 0, none⟩ (.int .i64 0)).cell? ⟨g + 1 + 1 + 1, 0, none⟩ = some (.int .i64 0) := by
   refine World.cell?_setCell_same _ _ _ (u := .int .i64 0) ?_
   rw [World.cell?_setCell_other _ _ _ _ (by simp)]
   exact s3
  exact ⟨_, results_read _ _ g _ _ _ _ 0 0 rfl rfl rfl r3 r1 r2, hkB.fresh hkC (by intro x hx; simp at hx; omega), Or.inr ⟨hs, _, hP, v, rfl, hv1, (hrep6.keep hkC (by intro y hy; simp; omega)).mono (by intro y hy _; omega)⟩⟩
theorem read_whole (s : ByteArray) (w : World) (hgn : GN w) :
    Calls Tryz.prog 32 #[.string s, .int .i64 60, .func (.func 33) #[] #[], .int .i64 2] w (RdPost s w) := by
 by_cases hs : s.size ≤ 60
 ·exact read_prog s w hgn hs
 ·exact read_long2 s w (by omega)
theorem results_rp (tmps : Array Value) (w : World) (g : Nat) (a b c d v3 v4 : Value) (h2 : tmps.getD 2 undef = .pointer (some ⟨g, 0, none⟩)) (h3 : tmps.getD 3 undef = v3) (h4 : tmps.getD 4 undef = v4) (hp : P4 w g a b c d) :
    (results Tryz.f19 tmps).run Tryz.prog w = .ok (.tuple #[.agg #[a, b, c, d], v3, v4]) w := by
 have h : Tryz.f19.results = #[.cell 2 58, .tmp 3, .tmp 4] := rfl
 have e2 : tmps[2]?.getD undef = .pointer (some ⟨g, 0, none⟩) := by simpa using h2
 have e3 : tmps[3]?.getD undef = v3 := by simpa using h3
 have e4 : tmps[4]?.getD undef = v4 := by simpa using h4
 have l1 := run_loadVar_row (P := Tryz.prog) w g 58 58 #[a, b, c, d] (0, 0) _ hp Tryz.underlying58 rfl infoPat
 simp [results, h, e2, e3, e4, asAddr, l1]
set_option maxRecDepth 100000 in
set_option maxHeartbeats 1000000 in
theorem readPattern_prog (s : ByteArray) (w : World) (hgn : GN w) :
    Calls Tryz.prog 19 #[.string s] w (RdPost s w) := by
 have hr0 : P4 (w.alloc (.cells #[.bool false, .bool false, .slice none 0 0, .int .i64 0] 58)) w.heap.size (.bool false) (.bool false) (.slice none 0 0) (.int .i64 0) := heap_alloc_new w _
 have hk0 : Keeps [] w (w.alloc (.cells #[.bool false, .bool false, .slice none 0 0, .int .i64 0] 58)) := (Keeps.refl [] w).alloc _
 have hg0 := hgn.keep hk0 (by simp)
 go_enter Tryz.func19, Tryz.ntmps19
 go_wp2_with fail
 refine (read_whole s _ hg0).mono ?_
 generalize w.alloc (.cells #[.bool false, .bool false, .slice none 0 0, .int .i64 0] 58) = W0 at *
 rintro e w1 ⟨hk1, hc1⟩
 have hr1 := hr0.keep hk1 (by simp)
 have hl0 := hr0.lt
 have hkA := hk0.trans hk1
 have hS : ∃ a b c d x y, e = .returned (.tuple #[.agg #[.bool a, .bool b, c, .int .i64 d], .int .i64 x, .int .i64 y]) ∧ c.oneCell' = true := by
  rcases hc1 with ⟨_, h⟩ | ⟨_, q, _, h⟩
  ·exact ⟨_, _, _, _, _, _, h, rfl⟩
  ·cases q with
   | bad j => exact ⟨_, _, _, _, _, _, h, rfl⟩
   | ok W j => obtain ⟨v, h, hv, _⟩ := h; exact ⟨_, _, _, _, _, _, h, hv⟩
 obtain ⟨a, b, c, d, x, y, rfl, hc⟩ := hS
 have HC : Hid ((60 < s.size ∧ Ending.returned (.tuple #[.agg #[.bool a, .bool b, c, .int .i64 d], .int .i64 x, .int .i64 y]) = .returned (.tuple #[.agg z4, .int .i64 0, .int .i64 1])) ∨ (s.size ≤ 60 ∧ ∃ q, PatR s q ∧ match q with
   | .ok W _ => ∃ v, Ending.returned (.tuple #[.agg #[.bool a, .bool b, c, .int .i64 d], .int .i64 x, .int .i64 y]) = .returned (.tuple #[.agg #[.bool W.bg, .bool W.en, v, .int .i64 W.g], .int .i64 0, .int .i64 0]) ∧ v.oneCell' = true ∧ Rep w1 (fun g => W0.heap.size ≤ g) .ways W.x [v]
   | .bad j => Ending.returned (.tuple #[.agg #[.bool a, .bool b, c, .int .i64 d], .int .i64 x, .int .i64 y]) = .returned (.tuple #[.agg z4, .int .i64 j, .int .i64 2]))) := hc1
 have o4 := four_one (x := a) (y := b) (n := d) hc
 clear hc1 hgn hg0
 go_wp2_with (first | (refine wpList_store_row rfl 58 _ _ rfl w.heap.size _ rfl rfl _ _ hr1 infoPat rfl o4 ?_))
 have hkR := (Keeps.refl [w.heap.size] w1).setRow (g := w.heap.size) (by simp) #[.bool a, .bool b, c, .int .i64 d]
 refine bodyPost_ret (results_rp _ _ w.heap.size _ _ _ _ _ _ rfl rfl rfl (setRow_heap _ _ _ _ _ _ hr1)) rfl ?_
 refine ⟨hkA.fresh hkR (by intro x hx; simp at hx; omega), ?_⟩
 rcases HC.out with h | ⟨hs, q, hq, h⟩
 ·exact Or.inl h
 ·refine Or.inr ⟨hs, q, hq, ?_⟩
  cases q with
  | bad j => exact h
  | ok W j =>
   obtain ⟨v, h1, h2, h3⟩ := h
   exact ⟨v, h1, h2, (h3.keep hkR (by intro y hy; simp; omega)).mono (by intro y hy _; omega)⟩
end Go.Proofs.YtnfojonmohijpabGreatDoor
