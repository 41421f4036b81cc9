/-
  DERIVED. The contract of the program's single, over a contract of ways for what is shorter. Conditions: the text is at most 60 bytes long, the place is within it, a single is ahead, the variable classNames holds the seven names.
-/
import Derived.Test.YtnfojonmohijpaaGreatDoorJPT
set_option linter.unusedSimpArgs false
set_option linter.unusedVariables false
namespace Go.Proofs.YtnfojonmohijpaaGreatDoor
open Go.RowKit

theorem one_stretch {c : Nat} {a : Int} (h : a = c) : hcells (fun n => decide (n = c)) = hcells (stretch a a) := by
  subst h
  refine hcells_congr fun n _ => ?_
  by_cases e : n = c
  · subst e; simp [stretch]
  · have : ¬ ((c : Int) ≤ (n : Int) ∧ (n : Int) ≤ (c : Int)) := by omega
    simp only [stretch, e, decide_false]
    rw [eq_comm, Bool.and_eq_false_iff]
    simp only [decide_eq_false_iff_not]
    omega

set_option maxRecDepth 100000 in
set_option maxHeartbeats 2000000 in
theorem single_prog (n : Nat) (IH : WaysOk n) (b : Nat) (p : QS) (w : World) (hp : QB w b p) (hgn : GN w) (hbg : b ≠ 6) (hs : p.s.size ≤ 60) (hah : 0 ≤ at' p.s p.ix ∧ ¬ notC (at' p.s p.ix)) (hop : p.op ≤ 6) (hgr : p.gr ≤ 9) (hn : p.s.size - p.ix ≤ n) :
    Calls Tryz.prog 204 #[.pointer (some ⟨b, 0, none⟩)] w (GSPost b p w) := by
  have hbl := hp.lt
  have hgl := hgn.lt
  have hlt : p.ix < p.s.size := at'_nn hah.1
  have hr0 : SRow (w.alloc (.cells sz.toArray 208)) w.heap.size sz := heap_alloc_new w _
  have hk0 : Keeps [b] w (w.alloc (.cells sz.toArray 208)) := (Keeps.refl [b] w).alloc _
  have hq0 : QB (w.alloc (.cells sz.toArray 208)) b p := hp.keep ((Keeps.refl [] w).alloc _) (by simp)
  have hg0 : GN (w.alloc (.cells sz.toArray 208)) := hgn.keep ((Keeps.refl [] w).alloc _) (by simp)
  obtain ⟨g, hg⟩ : ∃ g, w.heap.size = g := ⟨_, rfl⟩
  clear hp hgn
  go_enter Tryz.func204, Tryz.ntmps204
  go_wp2_with (first | (refine wpList_zeroSingle rfl rfl (some 2) rfl ?_; generalize w.alloc (.cells sz.toArray 208) = W at *))
  rw [hg] at hr0 hbl hgl
  refine (peek_some b p _ hq0 hlt hs).mono ?_
  rintro e w1 ⟨rfl, hq1, hk1⟩
  have hr1 := hr0.keep hk1 (by simp)
  have hg1 := hg0.keep hk1 (by simp)
  have hkA : Keeps [b] w w1 := hk0.trans (hk1.mono (by simp))
  have hsz1 : g < w1.heap.size := hr1.lt
  clear hq0 hr0 hg0 hk0 hk1
  have hcb := (at'_bd p.s p.ix).2
  obtain ⟨c, hc⟩ : ∃ c : Nat, p.cur = c := ⟨p.cur.toNat, by have : 0 ≤ p.cur := hah.1; omega⟩
  have hca : at' p.s p.ix = c := hc
  have hc256 : c < 256 := by omega
  rw [hc]
  by_cases h40 : c = 40
  · have H40 : Hid (at' p.s p.ix = 40) := by show at' p.s p.ix = 40; omega
    have h40' : ((c : Int) == 40) = true := by simpa using (by omega : (c : Int) = 40)
    clear h40 hc hca
    go_wp2_with fail
    refine (group_prog n IH b p _ hq1 hg1 hbg hs H40.out hop hgr hn).mono ?_
    rintro e w2 ⟨q, hG, hk2, hc2⟩
    have hkB := hkA.trans hk2
    have hr2 := hr1.keep hk2 (by simp; omega)
    cases q with
    | bad j =>
      subst hc2
      simp only [fault]
      exact ⟨rfl, _, hG, hkB, rfl⟩
    | ok y j =>
      obtain ⟨x, g1⟩ := y
      obtain ⟨cs, rfl, hrep, hq2⟩ := hc2
      have hl2 : cs.length = 258 := hrep.cells.2
      have hzz : sz.toArray.size = cs.toArray.size := by simp [sz_len, hl2]
      have hgc := hrep.cells.1
      go_wp2_with (first | (refine wpList_store_row rfl 208 _ _ rfl g _ rfl rfl _ _ hr2 (infoSingleC hl2) hzz (one_all hgc) ?_))
      refine bodyPost_ret (results_cell_row rfl _ _ g _ _ _ _ rfl (setRow_heap _ _ _ _ _ _ hr2) Tryz.underlying208 rfl (infoSingleC hl2)) rfl ?_
      have hkR := (Keeps.refl [g] w2).setRow (g := g) (by simp) cs.toArray
      exact ⟨_, hG, hkB.setRow (Or.inr (by omega)) _, _, rfl, (hrep.keep hkR (by intro x hx; simp; omega)).mono (by intro x hx _; omega), hq2.keep hkR (by simp; omega)⟩
  have h40' : ((c : Int) == 40) = false := by simpa using (by omega : ¬ (c : Int) = 40)
  by_cases h91 : c = 91
  · have H91 : Hid (at' p.s p.ix = 91) := by show at' p.s p.ix = 91; omega
    have h91' : ((c : Int) == 91) = true := by simpa using (by omega : (c : Int) = 91)
    clear h40 h91 hc hca
    go_wp2_with fail
    refine (set_prog b p _ hq1 hs H91.out hg1 hbg).mono ?_
    rintro e w2 ⟨q, hS, hk2, hc2⟩
    have hkB := hkA.trans hk2
    have hr2 := hr1.keep hk2 (by simp; omega)
    have hG : G p.s .single p.op p.gr p.ix (q.map fun f => (.set f, p.gr)) := .set _ _ _ _ H91.out hS
    cases q with
    | bad j =>
      subst hc2
      simp only [fault]
      exact ⟨rfl, _, hG, hkB, rfl⟩
    | ok f j =>
      obtain ⟨rfl, hq2⟩ := hc2
      have HG : Hid (G p.s .single p.op p.gr p.ix (.ok (.set f, p.gr) j)) := hG
      clear hG hS
      have hbs := built_set f
      have hgc := (Rep.set (w := w2) (S := fun x => w.heap.size ≤ x) f).cells.1
      go_wp2_with (first | (refine wpList_build1 rfl 208 2 (.tmp 28) rfl (some 29) rfl (.agg (hcells f)) rfl _ hbs ?_) | (refine wpList_store_row rfl 208 _ _ rfl g _ rfl rfl _ _ hr2 (infoSingleC (sc_len _ _ _)) sz_sc (one_all hgc) ?_))
      refine bodyPost_ret (results_cell_row rfl _ _ g _ _ _ _ rfl (setRow_heap _ _ _ _ _ _ hr2) Tryz.underlying208 rfl (infoSingleC (sc_len _ _ _))) rfl ?_
      have hkR := (Keeps.refl [g] w2).setRow (g := g) (by simp) (sc (.int .i64 0) (.slice none 0 0) f).toArray
      exact ⟨_, HG.out, hkB.setRow (Or.inr (by omega)) _, _, rfl, Rep.set f, hq2.keep hkR (by simp; omega)⟩
  have h91' : ((c : Int) == 91) = false := by simpa using (by omega : ¬ (c : Int) = 91)
  by_cases h92 : c = 92
  · have H92 : Hid (at' p.s p.ix = 92) := by show at' p.s p.ix = 92; omega
    have h92' : ((c : Int) == 92) = true := by simpa using (by omega : (c : Int) = 92)
    clear h40 h91 h92 hc hca
    go_wp2_with fail
    refine (escaped_prog b p 0 _ hq1 hs (by omega) (by omega) H92.out).mono ?_
    rintro e w2 ⟨hk2, hc2⟩
    have hkB := hkA.trans hk2
    have hr2 := hr1.keep hk2 (by simp; omega)
    have hG : G p.s .single p.op p.gr p.ix ((escS p.s 0 (p.ix + 1)).map fun a => (.set (stretch a a), p.gr)) := .esc _ _ _ H92.out
    cases hes : escS p.s 0 (p.ix + 1) with
    | bad j =>
      rw [hes] at hc2 hG
      subst hc2
      simp only [fault]
      exact ⟨rfl, _, hG, hkB, rfl⟩
    | ok a j =>
      rw [hes] at hc2 hG
      obtain ⟨rfl, hq2⟩ := hc2
      have hab := escS_ok hes
      obtain ⟨m, hm⟩ : ∃ m : Nat, a = m := ⟨a.toNat, by omega⟩
      have HG : Hid (G p.s .single p.op p.gr p.ix (.ok (.set (stretch a a), p.gr) j)) := hG
      have ho := one_stretch hm
      clear hG hes
      subst hm
      go_wp2_with fail
      refine (one_set m (by omega) _).mono ?_
      rintro e w3 ⟨rfl, hk3⟩
      rw [ho]
      have hkC := hkB.trans (hk3.mono (by simp))
      have hr3 := hr2.keep hk3 (by simp)
      have hq3 := hq2.keep hk3 (by simp)
      clear ho
      have hbs := built_set (stretch (m : Int) (m : Int))
      have hgc := (Rep.set (w := w3) (S := fun x => w.heap.size ≤ x) (stretch (m : Int) (m : Int))).cells.1
      go_wp2_with (first | (refine wpList_build1 rfl 208 2 (.tmp 34) rfl (some 35) rfl (.agg (hcells (stretch (m : Int) (m : Int)))) rfl _ hbs ?_) | (refine wpList_store_row rfl 208 _ _ rfl g _ rfl rfl _ _ hr3 (infoSingleC (sc_len _ _ _)) sz_sc (one_all hgc) ?_))
      refine bodyPost_ret (results_cell_row rfl _ _ g _ _ _ _ rfl (setRow_heap _ _ _ _ _ _ hr3) Tryz.underlying208 rfl (infoSingleC (sc_len _ _ _))) rfl ?_
      have hkR := (Keeps.refl [g] w3).setRow (g := g) (by simp) (sc (.int .i64 0) (.slice none 0 0) (stretch (m : Int) (m : Int))).toArray
      exact ⟨_, HG.out, hkC.setRow (Or.inr (by omega)) _, _, rfl, Rep.set (stretch (m : Int) (m : Int)), hq3.keep hkR (by simp; omega)⟩
  have h92' : ((c : Int) == 92) = false := by simpa using (by omega : ¬ (c : Int) = 92)
  by_cases h46 : c = 46
  · have H46 : Hid (at' p.s p.ix = 46) := by show at' p.s p.ix = 46; omega
    have h46' : ((c : Int) == 46) = true := by simpa using (by omega : (c : Int) = 46)
    clear h40 h91 h92 h46 hc hca
    go_wp2_with fail
    refine (expect_ok b p 46 (by omega) _ hq1 hs H46.out).mono ?_
    rintro e w2 ⟨rfl, hq2, hk2⟩
    have hkB := hkA.trans hk2
    have hr2 := hr1.keep hk2 (by simp; omega)
    have HG : Hid (G p.s .single p.op p.gr p.ix (.ok (.set fun _ => true, p.gr) (p.ix + 1))) := .dot _ _ _ H46.out
    go_wp2_with fail
    refine (all_set _).mono ?_
    rintro e w3 ⟨rfl, hk3⟩
    have hkC := hkB.trans (hk3.mono (by simp))
    have hr3 := hr2.keep hk3 (by simp)
    have hq3 := hq2.keep hk3 (by simp)
    have hbs := built_set (fun _ => true)
    have hgc := (Rep.set (w := w3) (S := fun x => w.heap.size ≤ x) (fun _ => true)).cells.1
    go_wp2_with (first | (refine wpList_build1 rfl 208 2 (.tmp 42) rfl (some 43) rfl (.agg (hcells (fun _ => true))) rfl _ hbs ?_) | (refine wpList_store_row rfl 208 _ _ rfl g _ rfl rfl _ _ hr3 (infoSingleC (sc_len _ _ _)) sz_sc (one_all hgc) ?_))
    refine bodyPost_ret (results_cell_row rfl _ _ g _ _ _ _ rfl (setRow_heap _ _ _ _ _ _ hr3) Tryz.underlying208 rfl (infoSingleC (sc_len _ _ _))) rfl ?_
    have hkR := (Keeps.refl [g] w3).setRow (g := g) (by simp) (sc (.int .i64 0) (.slice none 0 0) (fun _ => true)).toArray
    exact ⟨_, HG.out, hkC.setRow (Or.inr (by omega)) _, _, rfl, Rep.set (fun _ => true), hq3.keep hkR (by simp; omega)⟩
  have h46' : ((c : Int) == 46) = false := by simpa using (by omega : ¬ (c : Int) = 46)
  have HG : Hid (G p.s .single p.op p.gr p.ix (.ok (.set (stretch (c : Int) (c : Int)), p.gr) (p.ix + 1))) := by
    have := G.lit (s := p.s) p.op p.gr p.ix hah.1 (by omega) (by omega) (by omega) (by omega) hah.2
    rw [hca] at this
    exact this
  have ho := one_stretch (c := c) (a := c) rfl
  clear h40 h91 h92 h46 hca
  go_wp2_with fail
  refine (expect_ok b p c (by omega) _ hq1 hs hc).mono ?_
  rintro e w2 ⟨rfl, hq2, hk2⟩
  have hkB := hkA.trans hk2
  have hr2 := hr1.keep hk2 (by simp; omega)
  clear hc
  go_wp2_with fail
  refine (one_set c hc256 _).mono ?_
  rintro e w3 ⟨rfl, hk3⟩
  rw [ho]
  have hkC := hkB.trans (hk3.mono (by simp))
  have hr3 := hr2.keep hk3 (by simp)
  have hq3 := hq2.keep hk3 (by simp)
  clear ho
  have hbs := built_set (stretch (c : Int) (c : Int))
  have hgc := (Rep.set (w := w3) (S := fun x => w.heap.size ≤ x) (stretch (c : Int) (c : Int))).cells.1
  go_wp2_with (first | (refine wpList_build1 rfl 208 2 (.tmp 19) rfl (some 20) rfl (.agg (hcells (stretch (c : Int) (c : Int)))) rfl _ hbs ?_) | (refine wpList_store_row rfl 208 _ _ rfl g _ rfl rfl _ _ hr3 (infoSingleC (sc_len _ _ _)) sz_sc (one_all hgc) ?_))
  refine bodyPost_ret (results_cell_row rfl _ _ g _ _ _ _ rfl (setRow_heap _ _ _ _ _ _ hr3) Tryz.underlying208 rfl (infoSingleC (sc_len _ _ _))) rfl ?_
  have hkR := (Keeps.refl [g] w3).setRow (g := g) (by simp) (sc (.int .i64 0) (.slice none 0 0) (stretch (c : Int) (c : Int))).toArray
  exact ⟨_, HG.out, hkC.setRow (Or.inr (by omega)) _, _, rfl, Rep.set (stretch (c : Int) (c : Int)), hq3.keep hkR (by simp; omega)⟩
end Go.Proofs.YtnfojonmohijpaaGreatDoor
