/-
  DERIVED. The program's waysFit, over wayFits of what is smaller; all four together; match.Fits. No conditions.
-/
import Derived.Test.YtnfojonmohijpaaGreatDoorJUP
import Derived.Test.YtnfojonmohijpaaGreatDoorJWF
import Derived.Test.YtnfojonmohijpaaGreatDoorJWG
import Derived.Test.YtnfojonmohijpaaGreatDoorJWH
set_option linter.unusedSimpArgs false
set_option linter.unusedVariables false
namespace Go.Proofs.YtnfojonmohijpaaGreatDoor
open Go.RowKit
theorem Rep.isWl {w : World} {S : Nat → Prop} {x : Pat} {vs : List Value} (h : Rep w S .wlist x vs) : isW x := by
 generalize hk : Kr.wlist = k at h
 induction h with
 | wone => trivial
 | wcons _ _ _ _ _ _ _ ih => exact ih rfl
 | _ => cases hk
theorem wl_pos : ∀ {x : Pat}, isW x → 0 < (wl x).length
 | .wone _, _ => by simp [wl]
 | .wcons _ _, _ => by simp [wl]
theorem ways_kind {x : Pat} (h : isW x) : ((wl x).length = 1 ∧ ∃ y, x = .wone y) ∨ (2 ≤ (wl x).length ∧ ∃ y r, x = .wcons y r) := by
 cases x with
 | wone y => exact Or.inl ⟨rfl, y, rfl⟩
 | wcons y r => exact Or.inr ⟨by have := wl_pos (x := r) h; simp [wl]; omega, y, r, rfl⟩
 | _ => exact h.elim
set_option maxRecDepth 100000 in
set_option maxHeartbeats 4000000 in
theorem waysFit_any (n : Nat) (IW : WayF n) : WaysF (n + 1) := by
 intro x hx w S S' v a b c t hrep htv
 obtain ⟨rfl, rfl, va, vn, vc, rfl⟩ := htv.face
 cases hrep with
 | ways _ vs _ wn hwl hown hSv =>
 obtain ⟨wa, wn', wc, rfl⟩ := ownsRow_sl hown
 obtain rfl := ownsRow_lenT hown
 have hW := hwl.isWl
 obtain ⟨_, hll, hat⟩ := hwl.wl_text
 have HL : Hid (wn' = (wl x).length) := by
  have := hown.1
  show wn' = (wl x).length
  omega
 have hwm : (wn' : Int) ≤ 9223372036854775807 := by
  rcases hown.2 with ⟨_, e⟩ | ⟨g, cap, cur, _, _, _, h1, h2, _⟩
  ·omega
  ·unfold maxLen at h2; omega
 have hpos : 0 < wn' := by have := HL.out; have := wl_pos hW; omega
 have hwc : ∀ (d : Nat) (y : Pat), (wl x)[d]? = some y → ∃ u, Rep w S .way y [u] ∧ y.sz < x.sz ∧ vs[d]? = some u := by
  intro d y hy
  obtain ⟨u, h1, h2, h3⟩ := hat d y hy
  exact ⟨u, h2, h3, h1⟩
 obtain ⟨gw, cap, hv, _, hgw⟩ := hown.form hpos
 cases hv
 have hwcell : ∀ (d : Nat) (u : Value), vs[d]? = some u → d < wn' → ∀ X : World, Keeps [] w X → X.cell? ⟨gw, d, none⟩ = some u := fun d u hu hd X hk =>
  (World.cell?_of_block (hk.block gw hgw (by simp))).trans ((World.ownsRow.cellAt hown d (by omega)).trans hu)
 have h3 : P3 (w.alloc (.cells #[.int .u8 t.ltr, .int .i64 t.num, .slice va vn vc] 88)) w.heap.size (.int .u8 t.ltr) (.int .i64 t.num) (.slice va vn vc) := heap_alloc_new w _
 have hk0 : Keeps [] w (w.alloc (.cells #[.int .u8 t.ltr, .int .i64 t.num, .slice va vn vc] 88)) := (Keeps.refl [] w).alloc _
 obtain ⟨d0, d1, d2⟩ := h3.main
 clear hll hat
 go_enter Tryz.func80, Tryz.ntmps80
 go_upto_region 1 with (fail)
 generalize w.alloc (.cells #[.int .u8 t.ltr, .int .i64 t.num, .slice va vn vc] 88) = W at *
 obtain ⟨g3, hg3⟩ : ∃ g, w.heap.size = g := ⟨_, rfl⟩
 rw [hg3] at h3 d0 d1 d2 ⊢
 rcases ways_kind hW with ⟨h1, y, rfl⟩ | ⟨hge, y, r, rfl⟩
 ·have hp1 : ((wn' : Int) == 1) = true := by have := HL.out; simp; omega
  have hpp : (0 : Int) < (wn' : Int) := by have := HL.out; omega
  obtain ⟨u, hru, hysz, hvu⟩ := hwc 0 y rfl
  obtain ⟨ua, un, uc, rfl⟩ : IsSl u := by
   cases hru with
   | way _ _ _ _ _ ho _ => exact ownsRow_sl ho
  have hcu := hwcell 0 _ hvu hpos
  have hi3 : (Tryz.prog.info? 88).map (·.size) = some [Value.int .u8 t.ltr, .int .i64 t.num, .slice va vn vc].length := by kernel_rfl
  have hS0 : P3 W.drew g3 (.int .u8 t.ltr) (.int .i64 t.num) (.slice va vn vc) ∧ Keeps [] w W.drew := ⟨h3, hk0.drewN 1⟩
  clear h1
  go_upto_region 2 with (fail)
  refine wp_region_held (S := fun X => P3 X g3 (.int .u8 t.ltr) (.int .i64 t.num) (.slice va vn vc) ∧ Keeps [] w X) (by kernel_rfl) ?_
  change wpAnyH _ _ _ _ _ _ _ _ (World.drew _)
  generalize W.drew = X0 at *
  refine wpAnyH_tk 0 _ (some 8) (.slice (some ⟨gw, 0, none⟩) wn' wc) rfl rfl (by kernel_rfl) (by kernel_rfl) (by kernel_rfl) (fun _ _ _ h => h) (Or.inl ⟨by rfl, fun X hX => by go_simp⟩) hS0 ?_
  simp only [Act.put, List.setIfInBounds_toArray, List.set_cons_zero, List.set_cons_succ]
  refine wpAnyH_tk 1 _ (some 9) (.pointer (some ⟨gw, 0, none⟩)) rfl rfl (by kernel_rfl) (by kernel_rfl) (by kernel_rfl) (fun _ _ _ h => h) (Or.inl ⟨by rfl, fun X hX => by go_simp⟩) hS0 ?_
  simp only [Act.put, List.setIfInBounds_toArray, List.set_cons_zero, List.set_cons_succ]
  refine wpAnyH_tk 2 _ (some 10) (.slice ua un uc) rfl rfl (by kernel_rfl) (by kernel_rfl) (by kernel_rfl) (fun _ _ _ h => h) (Or.inl ⟨by rfl, fun X hX => by (have hc := hcu X hX.2; go_simp)⟩) hS0 ?_
  simp only [Act.put, List.setIfInBounds_toArray, List.set_cons_zero, List.set_cons_succ]
  refine wpAnyH_tk 3 _ (some 11) (.agg #[.int .u8 t.ltr, .int .i64 t.num, .slice va vn vc]) rfl rfl (by kernel_rfl) (by kernel_rfl) (by kernel_rfl) (fun _ _ _ h => h) (yieldsIf_load_mid (by rfl) 88 _ rfl g3 0 rfl [.int .u8 t.ltr, .int .i64 t.num, .slice va vn vc] _ (fun X hX => rangeAll hX.1) Tryz.underlying88 rfl hi3) hS0 ?_
  simp only [Act.put, List.setIfInBounds_toArray, List.set_cons_zero, List.set_cons_succ]
  refine wpAnyH_ready (rs := [4]) (by kernel_rfl) (by simp) ?_
  refine AllReadyH.cons rfl (fun K hK => ?_) AllReadyH.nil
  go_simp
  refine (IW y (by omega) X0 S S' _ _ _ _ t (hru.keep hS0.2 (by simp)) (htv.keep hS0.2 (by simp))).mono ?_
  rintro e w1 ⟨b, rfl, hbi, hk1⟩
  have hS1 : P3 w1 g3 (.int .u8 t.ltr) (.int .i64 t.num) (.slice va vn vc) ∧ Keeps [] w w1 := ⟨hS0.1.keep hk1 (by simp), hS0.2.trans hk1⟩
  refine hK.out _ _ hS1 (fun _ => ?_)
  clear hK K
  refine wpAnyH_tk 5 _ (some 4) (.bool b) rfl rfl (by kernel_rfl) (by kernel_rfl) (by kernel_rfl) (fun _ _ _ h => h) (Or.inl ⟨by rfl, fun X hX => by go_simp⟩) hS1 ?_
  simp only [Act.put, List.setIfInBounds_toArray, List.set_cons_zero, List.set_cons_succ]
  refine wpAnyH_done (by kernel_rfl) ?_ _
  go_wp2_with fail
  go_ret
  exact ⟨b, rfl, ⟨fun h => .one y t (hbi.1 h), fun h => by cases h; exact hbi.2 (by assumption)⟩, hS1.2⟩
 ·have hp1 : ((wn' : Int) == 1) = false := by have := HL.out; simp; omega
  by_cases hb : t.ltr = 97
  ·obtain ⟨p, u, rfl⟩ : ∃ p u, t = .talt p u := by cases t <;> simp [Tr.ltr] at hb; exact ⟨_, _, rfl⟩
   have e1 : (((Tr.talt p u).ltr : Nat) : Int) = 97 := rfl
   have e2 : (((Tr.talt p u).num : Nat) : Int) = (p : Int) := rfl
   rw [e1] at h3 d0 ⊢
   rw [e2] at h3 d1 ⊢
   clear hge
   by_cases hlt : p < wn'
   ·obtain ⟨yp, hyp⟩ : ∃ yp, (wl (.wcons y r))[p]? = some yp := ⟨_, List.getElem?_eq_getElem (by have := HL.out; omega)⟩
    obtain ⟨uu, hru, hysz, hvu⟩ := hwc p yp hyp
    obtain ⟨ua, un, uc, rfl⟩ : IsSl uu := by
     cases hru with
     | way _ _ _ _ _ ho _ => exact ownsRow_sl ho
    have hcu := hwcell p _ hvu hlt
    cases htv with
    | talt _ _ _ us hu ho hSt =>
    obtain ⟨gv, vc', hv, _, hgv⟩ := ho.form (by decide)
    cases hv
    obtain ⟨k1, n1, da, dn, dc, rfl⟩ := hu.form
    have hgv' : gv < w.heap.size := hgv
    have hrg : ∀ X : World, Keeps [] w X → X.rangeAt gv 0 [.int .u8 k1, .int .i64 n1, .slice da dn dc] := fun X hk j z hz => by
     have hj : j < 3 := (List.getElem?_eq_some_iff.1 hz).1
     rw [Nat.zero_add]
     exact (World.cell?_of_block (hk.block gv hgv' (by simp))).trans ((World.ownsRow.cellAt ho j (by omega)).trans hz)
    have hi3 : (Tryz.prog.info? 88).map (·.size) = some [Value.int .u8 k1, .int .i64 n1, .slice da dn dc].length := by kernel_rfl
    have hpi : (p : Int) < (wn' : Int) := by omega
    have hp0 : (0 : Int) ≤ (p : Int) := by omega
    have HP : Hid ((wl (.wcons y r))[p]? = some yp) := hyp
    have hS0 : P3 W.drew g3 (.int .u8 97) (.int .i64 p) (.slice (some ⟨gv, 0, none⟩) 1 vc) ∧ Keeps [] w W.drew := ⟨h3, hk0.drewN 1⟩
    clear hb e1 e2 hlt hyp hwc hwcell
    go_upto_region 3 with (fail)
    clear d0 d1 d2
    refine wp_region_held (S := fun X => P3 X g3 (.int .u8 97) (.int .i64 p) (.slice (some ⟨gv, 0, none⟩) 1 vc) ∧ Keeps [] w X) (by kernel_rfl) ?_
    change wpAnyH _ _ _ _ _ _ _ _ (World.drew _)
    generalize W.drew = X0 at *
    refine wpAnyH_tk 0 _ (some 13) (.pointer (some ⟨g3, 0, none⟩)) rfl rfl (by kernel_rfl) (by kernel_rfl) (by kernel_rfl) (fun _ _ _ h => h) (Or.inl ⟨by rfl, fun X hX => by go_simp⟩) hS0 ?_
    simp only [Act.put, List.setIfInBounds_toArray, List.set_cons_zero, List.set_cons_succ]
    refine wpAnyH_tk 1 _ (some 14) (.int .u8 97) rfl rfl (by kernel_rfl) (by kernel_rfl) (by kernel_rfl) (fun _ _ _ h => h) (Or.inl ⟨by rfl, fun X hX => by (obtain ⟨q0, q1, q2⟩ := hX.1.main; go_simp)⟩) hS0 ?_
    simp only [Act.put, List.setIfInBounds_toArray, List.set_cons_zero, List.set_cons_succ]
    refine wpAnyH_tk 2 _ (some 15) (.bool true) rfl rfl (by kernel_rfl) (by kernel_rfl) (by kernel_rfl) (fun _ _ _ h => h) (Or.inl ⟨by rfl, fun X hX => by go_simp⟩) hS0 ?_
    simp only [Act.put, List.setIfInBounds_toArray, List.set_cons_zero, List.set_cons_succ]
    refine wpAnyH_tk 3 _ (some 16) (.bool true) rfl rfl (by kernel_rfl) (by kernel_rfl) (by kernel_rfl) (fun _ _ _ h => h) (Or.inl ⟨by rfl, fun X hX => by go_simp⟩) hS0 ?_
    simp only [Act.put, List.setIfInBounds_toArray, List.set_cons_zero, List.set_cons_succ]
    refine wpAnyH_tk 4 _ (some 17) (.pointer (some ⟨g3, 1, none⟩)) rfl rfl (by kernel_rfl) (by kernel_rfl) (by kernel_rfl) (fun _ _ _ h => h) (Or.inl ⟨by rfl, fun X hX => by go_simp⟩) hS0 ?_
    simp only [Act.put, List.setIfInBounds_toArray, List.set_cons_zero, List.set_cons_succ]
    refine wpAnyH_tk 5 _ (some 18) (.int .i64 p) rfl rfl (by kernel_rfl) (by kernel_rfl) (by kernel_rfl) (fun _ _ _ h => h) (Or.inl ⟨by rfl, fun X hX => by (obtain ⟨q0, q1, q2⟩ := hX.1.main; go_simp)⟩) hS0 ?_
    simp only [Act.put, List.setIfInBounds_toArray, List.set_cons_zero, List.set_cons_succ]
    refine wpAnyH_tk 6 _ (some 19) (.slice (some ⟨gw, 0, none⟩) wn' wc) rfl rfl (by kernel_rfl) (by kernel_rfl) (by kernel_rfl) (fun _ _ _ h => h) (Or.inl ⟨by rfl, fun X hX => by go_simp⟩) hS0 ?_
    simp only [Act.put, List.setIfInBounds_toArray, List.set_cons_zero, List.set_cons_succ]
    refine wpAnyH_tk 7 _ (some 20) (.int .i64 wn') rfl rfl (by kernel_rfl) (by kernel_rfl) (by kernel_rfl) (fun _ _ _ h => h) (Or.inl ⟨by rfl, fun X hX => by go_simp⟩) hS0 ?_
    simp only [Act.put, List.setIfInBounds_toArray, List.set_cons_zero, List.set_cons_succ]
    refine wpAnyH_tk 8 _ (some 21) (.bool true) rfl rfl (by kernel_rfl) (by kernel_rfl) (by kernel_rfl) (fun _ _ _ h => h) (Or.inl ⟨by rfl, fun X hX => by go_simp⟩) hS0 ?_
    simp only [Act.put, List.setIfInBounds_toArray, List.set_cons_zero, List.set_cons_succ]
    refine wpAnyH_tk 9 _ (some 22) (.bool true) rfl rfl (by kernel_rfl) (by kernel_rfl) (by kernel_rfl) (fun _ _ _ h => h) (Or.inl ⟨by rfl, fun X hX => by go_simp⟩) hS0 ?_
    simp only [Act.put, List.setIfInBounds_toArray, List.set_cons_zero, List.set_cons_succ]
    refine wpAnyH_tk 10 _ (some 23) (.bool true) rfl rfl (by kernel_rfl) (by kernel_rfl) (by kernel_rfl) (fun _ _ _ h => h) (Or.inl ⟨by rfl, fun X hX => by go_simp⟩) hS0 ?_
    simp only [Act.put, List.setIfInBounds_toArray, List.set_cons_zero, List.set_cons_succ]
    refine wpAnyH_tk 11 _ (some 24) (.slice (some ⟨gw, 0, none⟩) wn' wc) rfl rfl (by kernel_rfl) (by kernel_rfl) (by kernel_rfl) (fun _ _ _ h => h) (Or.inl ⟨by rfl, fun X hX => by go_simp⟩) hS0 ?_
    simp only [Act.put, List.setIfInBounds_toArray, List.set_cons_zero, List.set_cons_succ]
    refine wpAnyH_tk 12 _ (some 25) (.pointer (some ⟨g3, 1, none⟩)) rfl rfl (by kernel_rfl) (by kernel_rfl) (by kernel_rfl) (fun _ _ _ h => h) (Or.inl ⟨by rfl, fun X hX => by go_simp⟩) hS0 ?_
    simp only [Act.put, List.setIfInBounds_toArray, List.set_cons_zero, List.set_cons_succ]
    refine wpAnyH_tk 13 _ (some 26) (.int .i64 p) rfl rfl (by kernel_rfl) (by kernel_rfl) (by kernel_rfl) (fun _ _ _ h => h) (Or.inl ⟨by rfl, fun X hX => by (obtain ⟨q0, q1, q2⟩ := hX.1.main; go_simp)⟩) hS0 ?_
    simp only [Act.put, List.setIfInBounds_toArray, List.set_cons_zero, List.set_cons_succ]
    refine wpAnyH_tk 14 _ (some 27) (.pointer (some ⟨gw, p, none⟩)) rfl rfl (by kernel_rfl) (by kernel_rfl) (by kernel_rfl) (fun _ _ _ h => h) (Or.inl ⟨by rfl, fun X hX => by go_simp⟩) hS0 ?_
    simp only [Act.put, List.setIfInBounds_toArray, List.set_cons_zero, List.set_cons_succ]
    refine wpAnyH_tk 15 _ (some 28) (.slice ua un uc) rfl rfl (by kernel_rfl) (by kernel_rfl) (by kernel_rfl) (fun _ _ _ h => h) (Or.inl ⟨by rfl, fun X hX => by (have hc := hcu X hX.2; go_simp)⟩) hS0 ?_
    simp only [Act.put, List.setIfInBounds_toArray, List.set_cons_zero, List.set_cons_succ]
    refine wpAnyH_tk 16 _ (some 29) (.pointer (some ⟨g3, 2, none⟩)) rfl rfl (by kernel_rfl) (by kernel_rfl) (by kernel_rfl) (fun _ _ _ h => h) (Or.inl ⟨by rfl, fun X hX => by go_simp⟩) hS0 ?_
    simp only [Act.put, List.setIfInBounds_toArray, List.set_cons_zero, List.set_cons_succ]
    refine wpAnyH_tk 17 _ (some 30) (.slice (some ⟨gv, 0, none⟩) 1 vc) rfl rfl (by kernel_rfl) (by kernel_rfl) (by kernel_rfl) (fun _ _ _ h => h) (Or.inl ⟨by rfl, fun X hX => by (obtain ⟨q0, q1, q2⟩ := hX.1.main; go_simp)⟩) hS0 ?_
    simp only [Act.put, List.setIfInBounds_toArray, List.set_cons_zero, List.set_cons_succ]
    refine wpAnyH_tk 18 _ (some 31) (.pointer (some ⟨gv, 0, none⟩)) rfl rfl (by kernel_rfl) (by kernel_rfl) (by kernel_rfl) (fun _ _ _ h => h) (Or.inl ⟨by rfl, fun X hX => by go_simp⟩) hS0 ?_
    simp only [Act.put, List.setIfInBounds_toArray, List.set_cons_zero, List.set_cons_succ]
    refine wpAnyH_tk 19 _ (some 32) (.agg #[.int .u8 k1, .int .i64 n1, .slice da dn dc]) rfl rfl (by kernel_rfl) (by kernel_rfl) (by kernel_rfl) (fun _ _ _ h => h) (yieldsIf_load_mid (by rfl) 88 _ rfl gv 0 rfl [.int .u8 k1, .int .i64 n1, .slice da dn dc] _ (fun X hX => hrg X hX.2) Tryz.underlying88 rfl hi3) hS0 ?_
    simp only [Act.put, List.setIfInBounds_toArray, List.set_cons_zero, List.set_cons_succ]
    refine wpAnyH_ready (rs := [20]) (by kernel_rfl) (by simp) ?_
    refine AllReadyH.cons rfl (fun K hK => ?_) AllReadyH.nil
    go_simp
    refine (IW yp (by omega) X0 S S' _ _ _ _ u (hru.keep hS0.2 (by simp)) (hu.keep hS0.2 (by simp))).mono ?_
    rintro e w1 ⟨b, rfl, hbi, hk1⟩
    have hS1 : P3 w1 g3 (.int .u8 97) (.int .i64 p) (.slice (some ⟨gv, 0, none⟩) 1 vc) ∧ Keeps [] w w1 := ⟨hS0.1.keep hk1 (by simp), hS0.2.trans hk1⟩
    refine hK.out _ _ hS1 (fun _ => ?_)
    clear hK K
    refine wpAnyH_tk 21 _ (some 34) (.bool b) rfl rfl (by kernel_rfl) (by kernel_rfl) (by kernel_rfl) (fun _ _ _ h => h) (Or.inl ⟨by rfl, fun X hX => by go_simp⟩) hS1 ?_
    simp only [Act.put, List.setIfInBounds_toArray, List.set_cons_zero, List.set_cons_succ]
    refine wpAnyH_tk 22 _ (some 4) (.bool b) rfl rfl (by kernel_rfl) (by kernel_rfl) (by kernel_rfl) (fun _ _ _ h => h) (Or.inl ⟨by rfl, fun X hX => by go_simp⟩) hS1 ?_
    simp only [Act.put, List.setIfInBounds_toArray, List.set_cons_zero, List.set_cons_succ]
    refine wpAnyH_done (by kernel_rfl) ?_ _
    go_wp2_with fail
    go_ret
    refine ⟨b, rfl, ⟨fun h => .alt y r p yp u HP.out (hbi.1 h), fun h => ?_⟩, hS1.2⟩
    cases h with
    | alt _ _ _ y' _ h1 h2 =>
     rw [HP.out] at h1
     cases h1
     exact hbi.2 h2
   ·have hnL : decide ((p : Int) < (wn' : Int)) = false := by simp; omega
    have hnL' : decide (p < wn') = false := by simp; omega
    have HF : Hid (¬ Ft (.wcons y r) (.talt p u)) := fun h => by
     cases h with
     | alt _ _ _ y' _ h1 h2 =>
      have := (List.getElem?_eq_some_iff.1 h1).1
      have h5 := HL.out
      omega
    clear hb hlt e1 e2
    go_wp2_with fail
    go_quiet (fail)
    go_wp2_with fail
    go_ret
    exact ⟨_, rfl, ⟨(nomatch ·), fun h => absurd h HF.out⟩, hk0.drewN _⟩
  ·have hkE : ((t.ltr : Int) == 97) = false := by simp; omega
   have hkE' : (t.ltr == 97) = false := by simp; omega
   have HF : Hid (¬ Ft (.wcons y r) t) := fun h => by cases h; exact hb rfl
   clear hb
   go_wp2_with fail
   go_quiet (fail)
   go_wp2_with fail
   go_ret
   exact ⟨_, rfl, ⟨(nomatch ·), fun h => absurd h HF.out⟩, hk0.drewN _⟩
theorem way_zero : WayF 0 := by
 intro x hx w S S' v a b c t hrep _
 exfalso
 cases hrep with
 | way _ _ _ _ h =>
  cases h with
  | pnil => simp [Pat.sz] at hx
  | pcons => simp [Pat.sz] at hx
theorem single_zero : SingleF 0 := by
 intro x hx w S S' cs a b c t hrep _
 exfalso
 cases hrep with
 | set => simp [Pat.sz] at hx
 | grp => simp [Pat.sz] at hx
theorem ways_zero : WaysF 0 := by
 intro x hx w S S' v a b c t hrep _
 exfalso
 cases hrep with
 | ways _ _ _ _ h =>
  cases h with
  | wone => simp [Pat.sz] at hx
  | wcons => simp [Pat.sz] at hx
theorem waysFit_all : ∀ n, WaysF n
 | 0 => ways_zero
 | 1 => waysFit_any 0 way_zero
 | 2 => waysFit_any 1 (wayFits_any 0 (pieceFits_any 0 single_zero))
 | n + 3 => waysFit_any (n + 2) (wayFits_any (n + 1) (pieceFits_any (n + 1) (singleFits_any n (waysFit_all n))))
set_option maxRecDepth 100000 in
set_option maxHeartbeats 1000000 in
theorem mfits_any (x : Pat) (bg en v g a b c : Value) (t : Tr) (w : World) (S S' : Nat → Prop) (ho : bg.oneCell' = true ∧ en.oneCell' = true ∧ v.oneCell' = true ∧ g.oneCell' = true) (hrep : Rep w S .ways x [v]) (htv : TV w S' true t [a, b, c]) :
    Calls Tryz.prog 45 #[.agg #[bg, en, v, g], .agg #[a, b, c]] w (FtA w x t) := by
 obtain ⟨k, nn, va, vn, vc, hf⟩ := htv.form
 simp only [List.cons.injEq, and_true] at hf
 obtain ⟨rfl, rfl, rfl⟩ := hf
 obtain ⟨wa, wn, wc, rfl⟩ : IsSl v := by
  cases hrep with
  | ways _ _ _ _ _ ho _ => exact ownsRow_sl ho
 have h2 : ((w.alloc (.cells #[bg, en, .slice wa wn wc, g] 70)).alloc (.cells #[.int .u8 k, .int .i64 nn, .slice va vn vc] 88)).heap[w.heap.size]? = some (.cells #[bg, en, .slice wa wn wc, g] 70 (0, 0)) := heap_alloc2_old w _ _
 have h3 : P3 ((w.alloc (.cells #[bg, en, .slice wa wn wc, g] 70)).alloc (.cells #[.int .u8 k, .int .i64 nn, .slice va vn vc] 88)) (w.heap.size + 1) (.int .u8 k) (.int .i64 nn) (.slice va vn vc) := heap_alloc2_new w _ _
 have hk0 : Keeps [] w ((w.alloc (.cells #[bg, en, .slice wa wn wc, g] 70)).alloc (.cells #[.int .u8 k, .int .i64 nn, .slice va vn vc] 88)) := ((Keeps.refl [] w).alloc _).alloc _
 have c2 : ((w.alloc (.cells #[bg, en, .slice wa wn wc, g] 70)).alloc (.cells #[.int .u8 k, .int .i64 nn, .slice va vn vc] 88)).cell? ⟨w.heap.size, 2, none⟩ = some (.slice wa wn wc) := by rw [Lib.cell_of_heap h2]; rfl
 go_enter Tryz.func45, Tryz.ntmps45
 go_upto_region 1 with (fail)
 generalize (w.alloc (.cells #[bg, en, .slice wa wn wc, g] 70)).alloc (.cells #[.int .u8 k, .int .i64 nn, .slice va vn vc] 88) = W at *
 go_wp2_with (first | (refine wpList_load_row rfl 88 _ rfl (w.heap.size + 1) rfl _ _ _ _ h3 Tryz.underlying88 rfl (info3 _ _ _) ?_))
 refine (waysFit_all x.sz x (Nat.le_refl _) W S S' _ _ _ _ t (hrep.keep hk0 (by simp)) (htv.keep hk0 (by simp))).mono ?_
 rintro e w1 ⟨b, rfl, hbi, hk1⟩
 go_wp2_with fail
 go_ret
 exact ⟨b, rfl, hbi, hk0.trans hk1⟩
end Go.Proofs.YtnfojonmohijpaaGreatDoor
namespace Go.Proofs.YtnfojonmohijpaaGreatDoor
open Go.RowKit
def FlatA (s : ByteArray) (t : List UInt8) (j n : Int) : Prop :=
 (20000 < s.size ∧ t = [] ∧ j = 0 ∧ n = 1) ∨ (s.size ≤ 20000 ∧ ∃ q, TreeR s q ∧ match q with
   | .bad k => t = [] ∧ j = (k : Int) ∧ n = 3
   | .ok u _ => t = u.flat ∧ j = 0 ∧ n = 0)
theorem FlatA.det {s : ByteArray} {t t' : List UInt8} {j j' n n' : Int} (h : FlatA s t j n) (h' : FlatA s t' j' n') : t = t' ∧ j = j' ∧ n = n' := by
 rcases h with ⟨h1, rfl, rfl, rfl⟩ | ⟨h1, q, hq, h⟩ <;> rcases h' with ⟨h2, rfl, rfl, rfl⟩ | ⟨h2, q', hq', h'⟩
 ·exact ⟨rfl, rfl, rfl⟩
 ·omega
 ·omega
 ·cases hq.det hq'
  cases q with
  | bad k => obtain ⟨rfl, rfl, rfl⟩ := h; obtain ⟨rfl, rfl, rfl⟩ := h'; exact ⟨rfl, rfl, rfl⟩
  | ok u k => obtain ⟨rfl, rfl, rfl⟩ := h; obtain ⟨rfl, rfl, rfl⟩ := h'; exact ⟨rfl, rfl, rfl⟩
def FitsA (p s : ByteArray) (b : Bool) (n : Int) : Prop :=
 (60 < p.size ∧ b = false ∧ n = 1) ∨ (p.size ≤ 60 ∧ ∃ q, PatR p q ∧ match q with
   | .bad _ => b = false ∧ n = 2
   | .ok W _ => (20000 < s.size ∧ b = false ∧ n = 1) ∨ (s.size ≤ 20000 ∧ ∃ q', TreeR s q' ∧ match q' with
       | .bad _ => b = false ∧ n = 3
       | .ok t _ => (b = true ↔ Ft W.x t) ∧ n = 0))
theorem FitsA.det {p s : ByteArray} {b b' : Bool} {n n' : Int} (h : FitsA p s b n) (h' : FitsA p s b' n') : b = b' ∧ n = n' := by
 rcases h with ⟨h1, rfl, rfl⟩ | ⟨h1, q, hq, h⟩ <;> rcases h' with ⟨h2, rfl, rfl⟩ | ⟨h2, q', hq', h'⟩
 ·exact ⟨rfl, rfl⟩
 ·omega
 ·omega
 ·cases hq.det hq'
  cases q with
  | bad k => obtain ⟨rfl, rfl⟩ := h; obtain ⟨rfl, rfl⟩ := h'; exact ⟨rfl, rfl⟩
  | ok W k =>
   rcases h with ⟨h3, rfl, rfl⟩ | ⟨h3, r, hr, h⟩ <;> rcases h' with ⟨h4, rfl, rfl⟩ | ⟨h4, r', hr', h'⟩
   ·exact ⟨rfl, rfl⟩
   ·omega
   ·omega
   ·cases hr.det hr'
    cases r with
    | bad k => obtain ⟨rfl, rfl⟩ := h; obtain ⟨rfl, rfl⟩ := h'; exact ⟨rfl, rfl⟩
    | ok t k =>
     obtain ⟨h5, rfl⟩ := h
     obtain ⟨h6, rfl⟩ := h'
     exact ⟨by rw [Bool.eq_iff_iff, h5, h6], rfl⟩
theorem TreeR.flat {s : ByteArray} {t : Tr} {j : Nat} (h : TreeR s (.ok t j)) (hs : s.size ≤ 20000) : t.flat.length ≤ 20000 := by
 obtain ⟨q0, h, e⟩ := h
 cases q0 with
 | bad => cases e
 | ok u k =>
  by_cases hk : k < s.size
  ·simp only [wholeR, if_pos hk] at e; cases e
  ·simp only [wholeR, if_neg hk, R.ok.injEq] at e
   obtain ⟨rfl, rfl⟩ := e
   have := h.flat _ _ rfl (Nat.zero_le _)
   have := (h.bd (Nat.zero_le _)).2.1
   omega
set_option maxRecDepth 100000 in
set_option maxHeartbeats 2000000 in
theorem yflat_any (s : ByteArray) (w : World) :
    Calls Tryz.prog 19 #[.string s] w fun e w' => ∃ t j n, e = .returned (.tuple #[.string (nmB t), .int .i64 j, .int .i64 n]) ∧ FlatA s t j n ∧ Keeps [] w w' := by
 go_enter Tryz.func19, Tryz.ntmps19
 go_wp2_with fail
 refine (readTree_prog s w).mono ?_
 rintro e w1 ⟨hk1, hc1⟩
 have hz0 : P3 (w1.alloc (.cells #[.int .u8 0, .int .i64 0, .slice none 0 0] 88)) w1.heap.size (.int .u8 0) (.int .i64 0) (.slice none 0 0) := heap_alloc_new w1 _
 have hk2 : Keeps [] w1 (w1.alloc (.cells #[.int .u8 0, .int .i64 0, .slice none 0 0] 88)) := (Keeps.refl [] w1).alloc _
 have hC : (∃ (a b c : Value) (x y : Int), e = .returned (.tuple #[.agg #[a, b, c], .int .i64 x, .int .i64 y]) ∧ a.oneCell' = true ∧ b.oneCell' = true ∧ c.oneCell' = true ∧ y ≠ 0 ∧ FlatA s [] x y) ∨
     ∃ (t : Tr) (a b c : Value) (j : Nat), e = .returned (.tuple #[.agg #[a, b, c], .int .i64 0, .int .i64 0]) ∧ a.oneCell' = true ∧ b.oneCell' = true ∧ c.oneCell' = true ∧ s.size ≤ 20000 ∧ TreeR s (.ok t j) ∧ TV w1 (fun g => w.heap.size ≤ g) true t [a, b, c] := by
  rcases hc1 with ⟨hl, he⟩ | ⟨hs, q, hq, h⟩
  ·exact Or.inl ⟨_, _, _, _, _, he, rfl, rfl, rfl, by decide, Or.inl ⟨hl, rfl, rfl, rfl⟩⟩
  ·cases q with
   | bad j => exact Or.inl ⟨_, _, _, _, _, h, rfl, rfl, rfl, by decide, Or.inr ⟨hs, _, hq, rfl, rfl, rfl⟩⟩
   | ok t j =>
    obtain ⟨a, b, c, he, ha, hb, hc, htv⟩ := h
    exact Or.inr ⟨t, a, b, c, j, he, ha, hb, hc, hs, hq, htv⟩
 clear hc1
 rcases hC with ⟨a, b, c, x, y, rfl, ha, hb, hc, hy, hF⟩ | ⟨t, a, b, c, j, rfl, ha, hb, hc, hs, hq, htv⟩
 ·have hne : (y == 0) = false := by simpa using hy
  have hnn : (y != 0) = true := by simpa using hy
  have HF : Hid (FlatA s [] x y) := hF
  have hkS := (hk1.trans hk2).setRow (g := w1.heap.size) (Or.inr hk1.size) #[a, b, c]
  clear hF hy
  go_wp2_with (first | (refine wpList_store_row rfl 88 _ _ rfl w1.heap.size #[a, b, c] rfl rfl _ _ hz0 (info3 _ _ _) rfl (all3 ha hb hc) ?_))
  go_ret3
  exact ⟨[], x, y, rfl, HF.out, hkS⟩
 ·obtain ⟨k, nn, va, vn, vc, hf⟩ := htv.form
  simp only [List.cons.injEq, and_true] at hf
  obtain ⟨rfl, rfl, rfl⟩ := hf
  have hfl := hq.flat hs
  have HF : Hid (FlatA s t.flat 0 0) := Or.inr ⟨hs, _, hq, rfl, rfl, rfl⟩
  have hkS : Keeps [] w1 ((w1.alloc (.cells #[.int .u8 0, .int .i64 0, .slice none 0 0] 88)).setRow w1.heap.size #[.int .u8 k, .int .i64 nn, .slice va vn vc]) := hk2.setRow (Or.inr (Nat.le_refl _)) _
  have h1 : P3 ((w1.alloc (.cells #[.int .u8 0, .int .i64 0, .slice none 0 0] 88)).setRow w1.heap.size #[.int .u8 k, .int .i64 nn, .slice va vn vc]) w1.heap.size (.int .u8 k) (.int .i64 nn) (.slice va vn vc) := setRow_heap _ _ _ _ _ _ hz0
  have htv1 := htv.keep hkS (by simp)
  have hkA := hk1.trans hkS
  clear hq hs
  go_upto_region 2 with (first | (refine wpList_store_row rfl 88 _ _ rfl w1.heap.size #[.int .u8 k, .int .i64 nn, .slice va vn vc] rfl rfl _ _ hz0 (info3 _ _ _) rfl (all3 rfl rfl rfl) ?_))
  generalize (w1.alloc (.cells #[.int .u8 0, .int .i64 0, .slice none 0 0] 88)).setRow w1.heap.size #[.int .u8 k, .int .i64 nn, .slice va vn vc] = W at *
  go_wp2_with (first | (refine wpList_load_row rfl 88 _ rfl w1.heap.size rfl _ _ _ _ h1 Tryz.underlying88 rfl (info3 _ _ _) ?_))
  refine (tflat_any t _ _ _ W _ htv1 (by omega)).mono ?_
  rintro e w2 ⟨rfl, hk3⟩
  go_wp2_with fail
  go_ret3
  exact ⟨t.flat, 0, 0, rfl, HF.out, hkA.trans hk3⟩
end Go.Proofs.YtnfojonmohijpaaGreatDoor
namespace Go.Proofs.YtnfojonmohijpaaGreatDoor
open Go.RowKit
theorem inside_step (s : ByteArray) (hs : s.size ≤ 20000) (n : Nat) (IR : WRd s n) : WIn s (n + 1) := by
 intro X w b p l hps hW hbad hle hn hdp hll
 by_cases h1 : at' p.s p.ix = 103
 ·exact inside_grp s hs n IR X w b p l hps hW hbad hle hn hdp hll h1
 by_cases h2 : at' p.s p.ix = 114
 ·exact inside_rep s hs n IR X w b p l hps hW hbad hle hn hdp hll h2
 by_cases h3 : at' p.s p.ix = 115
 ·exact inside_ser s hs n IR X w b p l hps hW hbad hle hn hdp hll h3
 by_cases h4 : at' p.s p.ix = 97
 ·exact inside_alt s hs n IR X w b p l hps hW hbad hle hn hdp hll h4
 exact inside_other s hs n IR X w b p l hps hW hbad hle hn hdp hll ⟨h1, h2, h3, h4⟩
theorem wread_all (s : ByteArray) (hs : s.size ≤ 20000) : ∀ n, WRd s n
 | 0 => fun X w b p l _ _ _ _ h => absurd h (Nat.not_lt_zero _)
 | 1 => read_step s hs 0 fun X w b p l _ _ _ _ h => absurd h (Nat.not_lt_zero _)
 | n + 2 => read_step s hs (n + 1) (inside_step s hs n (wread_all s hs n))
set_option maxRecDepth 100000 in
set_option maxHeartbeats 4000000 in
theorem rflat_any (s : ByteArray) (w : World) :
    Calls Tryz.prog 50 #[.string s] w fun e w' => ∃ t j n, e = .returned (.tuple #[.string (nmB t), .int .i64 j, .int .i64 n]) ∧ FlatA s t j n ∧ Keeps [] w w' := by
 by_cases hs : s.size ≤ 20000
 ·have hs' : ¬ (20000 : Int) < (s.size : Int) := by omega
  have hsd : decide ((20000 : Int) < (s.size : Int)) = false := by simp; omega
  have HS : Hid (s.size ≤ 20000) := hs
  have hk0 : Keeps [] w (w.alloc (.cells #[.string s, .int .i64 0, .int .i64 (-1), .int .i64 0, .slice none 0 0] 164)) := (Keeps.refl [] w).alloc _
  have hb0 : WB (w.alloc (.cells #[.string s, .int .i64 0, .int .i64 (-1), .int .i64 0, .slice none 0 0] 164)) w.heap.size ⟨s, 0, -1, 0, .slice none 0 0⟩ := heap_alloc_new w _
  clear hs
  go_enter Tryz.func50, Tryz.ntmps50
  go_upto_region 4 with (fail)
  generalize w.alloc (.cells #[.string s, .int .i64 0, .int .i64 (-1), .int .i64 0, .slice none 0 0] 164) = W at *
  obtain ⟨b, hbe⟩ : ∃ b, w.heap.size = b := ⟨_, rfl⟩
  rw [hbe] at hb0 ⊢
  have hW0 : WI W W b ⟨s, 0, -1, 0, .slice none 0 0⟩ [] := ⟨hb0, World.ownsRow_nil _ _ _ _, by simp [Value.ownBlock], Keeps.refl _ _, hb0.lt⟩
  have hR := wread_all s HS.out (s.size + 1) W W b ⟨s, 0, -1, 0, .slice none 0 0⟩ [] rfl hW0 rfl (Nat.zero_le _) (by simp) (Nat.zero_le _) (by simp)
  go_wp2_with fail
  refine hR.mono ?_
  rintro e w1 ⟨rfl, q, hTG, hA⟩
  have hbd := hTG.bd (Nat.zero_le _)
  have hfresh : ∀ w', Keeps [b] W w' → Keeps [] w w' := fun w' hk => hk0.fresh hk (by intro x hx; simp at hx; omega)
  clear hR hs' hsd hW0
  cases q with
  | bad j =>
   obtain ⟨p', l', hW1, e1, e2, e3⟩ := hA
   have hF : FlatA s [] j 3 := Or.inr ⟨HS.out, _, ⟨_, hTG, rfl⟩, rfl, rfl, rfl⟩
   have HF : Hid (FlatA s [] p'.bad 3) := by rw [e2]; exact hF
   obtain ⟨c0, c1, c2, c3, c4, g1, g2, g3, g4⟩ := hW1.blk.main
   have hnb : decide (p'.bad < 0) = false := by rw [e2]; simp
   have hnb' : ¬ p'.bad < 0 := by rw [e2]; omega
   have hgb : decide (0 ≤ p'.bad) = true := by rw [e2]; simp
   have hgb' : 0 ≤ p'.bad := by rw [e2]; omega
   have hI := wfail_idle b p' w1 hW1.blk hgb'
   have hkA := hfresh _ hW1.keep
   clear hF hTG hbd e2 e1 e3
   by_cases hlt : (p'.ix : Int) < (s.size : Int)
   ·go_wp2_with (first | (go_at_call 90; refine hI.mono ?_; rintro e w2 ⟨rfl, rfl⟩))
    go_quiet (fail)
    go_wp2_with fail
    go_ret3
    exact ⟨[], p'.bad, 3, rfl, HF.out, hkA.drewN _⟩
   ·have hltd : decide ((p'.ix : Int) < (s.size : Int)) = false := by simp; omega
    go_wp2_with fail
    go_quiet (fail)
    go_wp2_with fail
    go_ret3
    exact ⟨[], p'.bad, 3, rfl, HF.out, hkA.drewN _⟩
  | ok t j =>
   obtain ⟨v, hW1⟩ := hA
   have hjl : j ≤ s.size := hbd.2.1
   obtain ⟨c0, c1, c2, c3, c4, g1, g2, g3, g4⟩ := hW1.blk.main
   by_cases hlt : j < s.size
   ·have hlti : (j : Int) < (s.size : Int) := by omega
    have hF : FlatA s [] j 3 := Or.inr ⟨HS.out, _, ⟨_, hTG, rfl⟩, by simp only [wholeR, if_pos hlt]; exact ⟨by trivial, by trivial, by trivial⟩⟩
    have HF : Hid (FlatA s [] j 3) := hF
    have hI := wfail_set b _ w1 hW1.blk rfl
    clear hF hTG hbd hlt hjl
    go_upto_region 7 with (first | (go_at_call 90; refine hI.mono ?_; rintro e w2 ⟨rfl, hp2, hk2⟩))
    obtain ⟨d0, d1, d2, d3, d4, m1, m2, m3, m4⟩ := hp2.main
    have hnb : ¬ (j : Int) < 0 := by omega
    have hgb : (0 : Int) ≤ (j : Int) := by omega
    have hkA := hfresh _ (hW1.keep.trans hk2)
    go_wp2_with fail
    go_quiet (fail)
    go_wp2_with fail
    go_ret3
    exact ⟨[], j, 3, rfl, HF.out, hkA.drewN _⟩
   ·have hlti : ¬ (j : Int) < (s.size : Int) := by omega
    have hF : FlatA s t.flat 0 0 := Or.inr ⟨HS.out, _, ⟨_, hTG, rfl⟩, by simp only [wholeR, if_neg hlt]; exact ⟨by trivial, by trivial, by trivial⟩⟩
    have HF : Hid (FlatA s t.flat 0 0) := hF
    have hby := hW1.by_
    simp only [List.nil_append] at hby
    obtain ⟨xa, xn, xc, hv⟩ := ownsRow_sl hby
    rw [hv] at hby c4
    have hcv := conv_name w1 0 _ _ hby
    have hkA := hfresh _ hW1.keep
    clear hF hTG hbd hlt hjl
    go_wp2_with fail
    go_ret3
    exact ⟨t.flat, 0, 0, rfl, HF.out, hkA⟩
 ·have hs' : (20000 : Int) < (s.size : Int) := by omega
  have HF : Hid (FlatA s [] 0 1) := Or.inl ⟨by omega, rfl, rfl, rfl⟩
  clear hs
  go_enter Tryz.func50, Tryz.ntmps50
  go_wp2_with fail
  go_ret3
  exact ⟨[], 0, 1, rfl, HF.out, Keeps.refl _ _⟩
end Go.Proofs.YtnfojonmohijpaaGreatDoor
