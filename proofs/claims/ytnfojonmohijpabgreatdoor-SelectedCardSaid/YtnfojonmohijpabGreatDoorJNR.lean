/-
  DERIVED. The program's newWay, over newPiece: the statement ahead of its loop. Conditions: the text is at most 100 bytes long.
-/
import Derived.Test.YtnfojonmohijpabGreatDoorJNQ
set_option linter.unusedSimpArgs false
set_option linter.unusedVariables false
namespace Go.Proofs.YtnfojonmohijpabGreatDoor
open Go.RowKit
set_option maxRecDepth 100000 in
set_option maxHeartbeats 4000000 in
theorem newWay_any (s : ByteArray) (N : Nat) (HN : Hid (N = s.size + 1)) (hs : s.size ≤ 100) (k : Nat) (hk9 : k + 1 ≤ 1000) (IP : PieceN s N k) : WayN s N (k + 1) := by
 intro x hx hfair w S v hrep
 obtain ⟨cs, hpl, va, n, vc, rfl, hn, hn2, hown⟩ := hrep.wayIn (Nat.le_trans hx hk9)
 have HNP : Hid (n = (pl x).length) := hn
 have hnm : (n : Int) ≤ 1000 := by omega
 clear hn
 have hz0 : (w.alloc (.cells #[.slice none 0 0, .slice none 0 0] 150)).heap[w.heap.size]? = some (.cells #[.slice none 0 0, .slice none 0 0] 150 (0, 0)) := heap_alloc_new w _
 have hk0 : Keeps [] w (w.alloc (.cells #[.slice none 0 0, .slice none 0 0] 150)) := (Keeps.refl [] w).alloc _
 obtain ⟨M, HM⟩ : ∃ M, Hid (M = n + 1) := ⟨_, rfl⟩
 obtain ⟨ip, hip, hp0, hp1, hp2⟩ := info_parts infoPc
 obtain ⟨im, him, hm0, hm1, hm2⟩ := info_parts infoMap
 have hunP := Tryz.underlying147
 have hunM := Tryz.underlying148
 have hwr : IntKind.i64.wrap ((n : Int) + 1) = (M : Int) := by have := HM.out; rw [wrap_small (by omega) (by omega)]; omega
 go_enter Tryz.func68, Tryz.ntmps68
 go_upto_region 1 with (fail)
 generalize (w.alloc (.cells #[.slice none 0 0, .slice none 0 0] 150)) = W at *
 obtain ⟨g1, hg1⟩ : ∃ g1, g1 = w.heap.size := ⟨_, rfl⟩
 rw [← hg1] at hz0 ⊢
 have hg1W : g1 < W.heap.size := (Array.getElem?_eq_some_iff.1 hz0).1
 have hg1w : w.heap.size ≤ g1 := by omega
 clear hg1
 go_cut [5] from 7 to 14 (fun q5 wx => ∃ gm gp gr, q5 = .pointer (some ⟨gm, 0, none⟩) ∧ WM W wx n M gm gp gr)
 case first =>
  refine wp_region_held (S := fun _ => True) (by kernel_rfl) ?_
  change wpAnyH _ _ _ _ _ _ _ _ (World.drew _)
  have hkX : Keeps [] W W.drew := (Keeps.refl [] W).drewN 1
  generalize W.drew = X0 at *
  refine wpAnyH_tk 0 _ (some 7) (v := .slice va n vc) rfl rfl (by kernel_rfl) (by kernel_rfl) (by kernel_rfl) (fun _ _ _ h => h) (Or.inl ⟨by rfl, fun w _ => by go_simp⟩) trivial ?_
  simp only [Act.put, List.setIfInBounds_toArray, List.set_cons_zero, List.set_cons_succ]
  refine wpAnyH_tk 1 _ (some 8) (v := .int .i64 n) rfl rfl (by kernel_rfl) (by kernel_rfl) (by kernel_rfl) (fun _ _ _ h => h) (Or.inl ⟨by rfl, fun w _ => by go_simp⟩) trivial ?_
  simp only [Act.put, List.setIfInBounds_toArray, List.set_cons_zero, List.set_cons_succ]
  refine wpAnyH_tk 3 _ (some 10) (v := .slice va n vc) rfl rfl (by kernel_rfl) (by kernel_rfl) (by kernel_rfl) (fun _ _ _ h => h) (Or.inl ⟨by rfl, fun w _ => by go_simp⟩) trivial ?_
  simp only [Act.put, List.setIfInBounds_toArray, List.set_cons_zero, List.set_cons_succ]
  refine wpAnyH_tk 4 _ (some 11) (v := .int .i64 n) rfl rfl (by kernel_rfl) (by kernel_rfl) (by kernel_rfl) (fun _ _ _ h => h) (Or.inl ⟨by rfl, fun w _ => by go_simp⟩) trivial ?_
  simp only [Act.put, List.setIfInBounds_toArray, List.set_cons_zero, List.set_cons_succ]
  refine wpAnyH_tk 5 _ (some 12) (v := .int .i64 (M : Int)) rfl rfl (by kernel_rfl) (by kernel_rfl) (by kernel_rfl) (fun _ _ _ h => h) (Or.inl ⟨by rfl, fun w _ => by go_simp⟩) trivial ?_
  simp only [Act.put, List.setIfInBounds_toArray, List.set_cons_zero, List.set_cons_succ]
  refine wpAnyH_ready (rs := [2, 6, 8]) (by kernel_rfl) (by simp) ?_
  refine AllReadyH.cons rfl (fun K hK => ?_) (AllReadyH.cons rfl (fun K hK => ?_) (AllReadyH.cons rfl (fun K hK => ?_) AllReadyH.nil))
  ·rw [if_pos (by rfl)]
   refine wp_make_full X0 (some 9) rfl (.tmp 8) (.tmp 8) 147 rfl 0 193 ip (.agg #[.int .i64 0, .slice none 0 0, .slice none 0 0, .slice none 0 0, .bool false, .int .i64 0, .int .i64 0, .slice none 0 0]) 8 hunP hip hp0 hp1 .i64 .i64 (n : Int) (n : Int) n rfl rfl rfl rfl (by rw [hp2]; omega) (by unfold maxLen; omega) (Nat.zero_le _) (fun X1 hoP hgP => hK.out _ _ trivial (fun _ => ?_))
   clear hK K
   simp only [Act.put, List.setIfInBounds_toArray, List.set_cons_zero, List.set_cons_succ]
   have hkP : Keeps [] X0 X1 := Keeps.ofGrownNone hgP
   have hlP : X0.heap.size < X1.heap.size := (World.ownsRow.lt hoP _ rfl).2
   refine wpAnyH_ready (rs := [6, 8]) (by kernel_rfl) (by simp) ?_
   refine AllReadyH.cons rfl (fun K hK => ?_) (AllReadyH.cons rfl (fun K hK => ?_) AllReadyH.nil)
   ·rw [if_pos (by rfl)]
    refine wp_make_full X1 (some 13) rfl (.tmp 12) (.tmp 12) 148 rfl 0 63 im (.slice none 0 0) 1 hunM him hm0 hm1 .i64 .i64 (M : Int) (M : Int) M rfl rfl rfl rfl (by have := HM.out; rw [hm2]; omega) (by have := HM.out; unfold maxLen; omega) (Nat.zero_le _) (fun X2 hoR hgR => hK.out _ _ trivial (fun _ => ?_))
    clear hK K
    simp only [Act.put, List.setIfInBounds_toArray, List.set_cons_zero, List.set_cons_succ]
    have hkR : Keeps [] X1 X2 := Keeps.ofGrownNone hgR
    have hlR : X1.heap.size < X2.heap.size := (World.ownsRow.lt hoR _ rfl).2
    refine wpAnyH_tk 7 _ (some 14) (v := .agg #[.slice (some ⟨X0.heap.size, 0, none⟩) n n, .slice (some ⟨X1.heap.size, 0, none⟩) M M]) rfl rfl (by kernel_rfl) (by kernel_rfl) (by kernel_rfl) (fun _ _ _ h => h) (Or.inl ⟨by rfl, fun w _ => by go_simp⟩) trivial ?_
    simp only [Act.put, List.setIfInBounds_toArray, List.set_cons_zero, List.set_cons_succ]
    refine wpAnyH_ready (rs := [8]) (by kernel_rfl) (by simp) ?_
    refine AllReadyH.cons rfl (fun K hK => ?_) AllReadyH.nil
    ·rw [if_pos (by rfl)]
     go_simp
     have hzM : (X2.alloc (.cells #[.slice none 0 0, .slice none 0 0] 150)).heap[X2.heap.size]? = some (.cells #[.slice none 0 0, .slice none 0 0] 150 (0, 0)) := heap_alloc_new X2 _
     have hkM : Keeps [] X2 (X2.alloc (.cells #[.slice none 0 0, .slice none 0 0] 150)) := (Keeps.refl [] X2).alloc _
     have hlM : X2.heap.size < (X2.alloc (.cells #[.slice none 0 0, .slice none 0 0] 150)).heap.size := by simp
     refine hK.out _ _ trivial (fun _ => ?_)
     clear hK K
     generalize hGX : X2.alloc (.cells #[.slice none 0 0, .slice none 0 0] 150) = X3 at *
     clear hGX
     have hoP := hoP.keep hkR (by simp)
     have hoP := hoP.keep hkM (by simp)
     have hoR := hoR.keep hkM (by simp)
     refine wpAnyH_ready (rs := [9]) (by kernel_rfl) (by simp) ?_
     refine AllReadyH.cons rfl (fun K hK => ?_) AllReadyH.nil
     rw [if_pos (by rfl)]
     refine wp_store_row 150 _ _ rfl X2.heap.size #[.slice (some ⟨X0.heap.size, 0, none⟩) n n, .slice (some ⟨X1.heap.size, 0, none⟩) M M] rfl rfl _ _ hzM (infoWy _ _) rfl (all2 rfl rfl) (hK.out _ _ trivial (fun _ => ?_))
     refine wpAnyH_done (by kernel_rfl) ?_ _
     have z0 := hkX.size
     have z1 := hkP.size
     have z2 := hkR.size
     have z3 := hkM.size
     have hend := WM.of (W := W) hzM hoP hoR (by omega) (by omega) (by omega) (by omega) (by omega) (by omega) (((hkX.trans hkP).trans hkR).trans hkM)
     generalize X2.heap.size = gm at *
     generalize X0.heap.size = gp at *
     generalize X1.heap.size = gr at *
     go_wp2_with fail
     go_meet
     case rel => exact ⟨_, _, _, rfl, hend⟩
   ·rw [if_pos (by rfl)]
    go_simp
    have hzM : (X1.alloc (.cells #[.slice none 0 0, .slice none 0 0] 150)).heap[X1.heap.size]? = some (.cells #[.slice none 0 0, .slice none 0 0] 150 (0, 0)) := heap_alloc_new X1 _
    have hkM : Keeps [] X1 (X1.alloc (.cells #[.slice none 0 0, .slice none 0 0] 150)) := (Keeps.refl [] X1).alloc _
    have hlM : X1.heap.size < (X1.alloc (.cells #[.slice none 0 0, .slice none 0 0] 150)).heap.size := by simp
    refine hK.out _ _ trivial (fun _ => ?_)
    clear hK K
    generalize hGX : X1.alloc (.cells #[.slice none 0 0, .slice none 0 0] 150) = X2 at *
    clear hGX
    refine wpAnyH_ready (rs := [6]) (by kernel_rfl) (by simp) ?_
    refine AllReadyH.cons rfl (fun K hK => ?_) AllReadyH.nil
    ·rw [if_pos (by rfl)]
     refine wp_make_full X2 (some 13) rfl (.tmp 12) (.tmp 12) 148 rfl 0 63 im (.slice none 0 0) 1 hunM him hm0 hm1 .i64 .i64 (M : Int) (M : Int) M rfl rfl rfl rfl (by have := HM.out; rw [hm2]; omega) (by have := HM.out; unfold maxLen; omega) (Nat.zero_le _) (fun X3 hoR hgR => hK.out _ _ trivial (fun _ => ?_))
     clear hK K
     simp only [Act.put, List.setIfInBounds_toArray, List.set_cons_zero, List.set_cons_succ]
     have hkR : Keeps [] X2 X3 := Keeps.ofGrownNone hgR
     have hlR : X2.heap.size < X3.heap.size := (World.ownsRow.lt hoR _ rfl).2
     refine wpAnyH_tk 7 _ (some 14) (v := .agg #[.slice (some ⟨X0.heap.size, 0, none⟩) n n, .slice (some ⟨X2.heap.size, 0, none⟩) M M]) rfl rfl (by kernel_rfl) (by kernel_rfl) (by kernel_rfl) (fun _ _ _ h => h) (Or.inl ⟨by rfl, fun w _ => by go_simp⟩) trivial ?_
     simp only [Act.put, List.setIfInBounds_toArray, List.set_cons_zero, List.set_cons_succ]
     have hoP := hoP.keep hkM (by simp)
     have hoP := hoP.keep hkR (by simp)
     have hzM := (hkR.block _ (Array.getElem?_eq_some_iff.1 hzM).1 (by simp)).trans hzM
     refine wpAnyH_ready (rs := [9]) (by kernel_rfl) (by simp) ?_
     refine AllReadyH.cons rfl (fun K hK => ?_) AllReadyH.nil
     rw [if_pos (by rfl)]
     refine wp_store_row 150 _ _ rfl X1.heap.size #[.slice (some ⟨X0.heap.size, 0, none⟩) n n, .slice (some ⟨X2.heap.size, 0, none⟩) M M] rfl rfl _ _ hzM (infoWy _ _) rfl (all2 rfl rfl) (hK.out _ _ trivial (fun _ => ?_))
     refine wpAnyH_done (by kernel_rfl) ?_ _
     have z0 := hkX.size
     have z1 := hkP.size
     have z2 := hkM.size
     have z3 := hkR.size
     have hend := WM.of (W := W) hzM hoP hoR (by omega) (by omega) (by omega) (by omega) (by omega) (by omega) (((hkX.trans hkP).trans hkM).trans hkR)
     generalize X1.heap.size = gm at *
     generalize X0.heap.size = gp at *
     generalize X2.heap.size = gr at *
     go_wp2_with fail
     go_meet
     case rel => exact ⟨_, _, _, rfl, hend⟩
  ·rw [if_pos (by rfl)]
   refine wp_make_full X0 (some 13) rfl (.tmp 12) (.tmp 12) 148 rfl 0 63 im (.slice none 0 0) 1 hunM him hm0 hm1 .i64 .i64 (M : Int) (M : Int) M rfl rfl rfl rfl (by have := HM.out; rw [hm2]; omega) (by have := HM.out; unfold maxLen; omega) (Nat.zero_le _) (fun X1 hoR hgR => hK.out _ _ trivial (fun _ => ?_))
   clear hK K
   simp only [Act.put, List.setIfInBounds_toArray, List.set_cons_zero, List.set_cons_succ]
   have hkR : Keeps [] X0 X1 := Keeps.ofGrownNone hgR
   have hlR : X0.heap.size < X1.heap.size := (World.ownsRow.lt hoR _ rfl).2
   refine wpAnyH_ready (rs := [2, 8]) (by kernel_rfl) (by simp) ?_
   refine AllReadyH.cons rfl (fun K hK => ?_) (AllReadyH.cons rfl (fun K hK => ?_) AllReadyH.nil)
   ·rw [if_pos (by rfl)]
    refine wp_make_full X1 (some 9) rfl (.tmp 8) (.tmp 8) 147 rfl 0 193 ip (.agg #[.int .i64 0, .slice none 0 0, .slice none 0 0, .slice none 0 0, .bool false, .int .i64 0, .int .i64 0, .slice none 0 0]) 8 hunP hip hp0 hp1 .i64 .i64 (n : Int) (n : Int) n rfl rfl rfl rfl (by rw [hp2]; omega) (by unfold maxLen; omega) (Nat.zero_le _) (fun X2 hoP hgP => hK.out _ _ trivial (fun _ => ?_))
    clear hK K
    simp only [Act.put, List.setIfInBounds_toArray, List.set_cons_zero, List.set_cons_succ]
    have hkP : Keeps [] X1 X2 := Keeps.ofGrownNone hgP
    have hlP : X1.heap.size < X2.heap.size := (World.ownsRow.lt hoP _ rfl).2
    refine wpAnyH_tk 7 _ (some 14) (v := .agg #[.slice (some ⟨X1.heap.size, 0, none⟩) n n, .slice (some ⟨X0.heap.size, 0, none⟩) M M]) rfl rfl (by kernel_rfl) (by kernel_rfl) (by kernel_rfl) (fun _ _ _ h => h) (Or.inl ⟨by rfl, fun w _ => by go_simp⟩) trivial ?_
    simp only [Act.put, List.setIfInBounds_toArray, List.set_cons_zero, List.set_cons_succ]
    refine wpAnyH_ready (rs := [8]) (by kernel_rfl) (by simp) ?_
    refine AllReadyH.cons rfl (fun K hK => ?_) AllReadyH.nil
    ·rw [if_pos (by rfl)]
     go_simp
     have hzM : (X2.alloc (.cells #[.slice none 0 0, .slice none 0 0] 150)).heap[X2.heap.size]? = some (.cells #[.slice none 0 0, .slice none 0 0] 150 (0, 0)) := heap_alloc_new X2 _
     have hkM : Keeps [] X2 (X2.alloc (.cells #[.slice none 0 0, .slice none 0 0] 150)) := (Keeps.refl [] X2).alloc _
     have hlM : X2.heap.size < (X2.alloc (.cells #[.slice none 0 0, .slice none 0 0] 150)).heap.size := by simp
     refine hK.out _ _ trivial (fun _ => ?_)
     clear hK K
     generalize hGX : X2.alloc (.cells #[.slice none 0 0, .slice none 0 0] 150) = X3 at *
     clear hGX
     have hoR := hoR.keep hkP (by simp)
     have hoR := hoR.keep hkM (by simp)
     have hoP := hoP.keep hkM (by simp)
     refine wpAnyH_ready (rs := [9]) (by kernel_rfl) (by simp) ?_
     refine AllReadyH.cons rfl (fun K hK => ?_) AllReadyH.nil
     rw [if_pos (by rfl)]
     refine wp_store_row 150 _ _ rfl X2.heap.size #[.slice (some ⟨X1.heap.size, 0, none⟩) n n, .slice (some ⟨X0.heap.size, 0, none⟩) M M] rfl rfl _ _ hzM (infoWy _ _) rfl (all2 rfl rfl) (hK.out _ _ trivial (fun _ => ?_))
     refine wpAnyH_done (by kernel_rfl) ?_ _
     have z0 := hkX.size
     have z1 := hkR.size
     have z2 := hkP.size
     have z3 := hkM.size
     have hend := WM.of (W := W) hzM hoP hoR (by omega) (by omega) (by omega) (by omega) (by omega) (by omega) (((hkX.trans hkR).trans hkP).trans hkM)
     generalize X2.heap.size = gm at *
     generalize X1.heap.size = gp at *
     generalize X0.heap.size = gr at *
     go_wp2_with fail
     go_meet
     case rel => exact ⟨_, _, _, rfl, hend⟩
   ·rw [if_pos (by rfl)]
    go_simp
    have hzM : (X1.alloc (.cells #[.slice none 0 0, .slice none 0 0] 150)).heap[X1.heap.size]? = some (.cells #[.slice none 0 0, .slice none 0 0] 150 (0, 0)) := heap_alloc_new X1 _
    have hkM : Keeps [] X1 (X1.alloc (.cells #[.slice none 0 0, .slice none 0 0] 150)) := (Keeps.refl [] X1).alloc _
    have hlM : X1.heap.size < (X1.alloc (.cells #[.slice none 0 0, .slice none 0 0] 150)).heap.size := by simp
    refine hK.out _ _ trivial (fun _ => ?_)
    clear hK K
    generalize hGX : X1.alloc (.cells #[.slice none 0 0, .slice none 0 0] 150) = X2 at *
    clear hGX
    refine wpAnyH_ready (rs := [2]) (by kernel_rfl) (by simp) ?_
    refine AllReadyH.cons rfl (fun K hK => ?_) AllReadyH.nil
    ·rw [if_pos (by rfl)]
     refine wp_make_full X2 (some 9) rfl (.tmp 8) (.tmp 8) 147 rfl 0 193 ip (.agg #[.int .i64 0, .slice none 0 0, .slice none 0 0, .slice none 0 0, .bool false, .int .i64 0, .int .i64 0, .slice none 0 0]) 8 hunP hip hp0 hp1 .i64 .i64 (n : Int) (n : Int) n rfl rfl rfl rfl (by rw [hp2]; omega) (by unfold maxLen; omega) (Nat.zero_le _) (fun X3 hoP hgP => hK.out _ _ trivial (fun _ => ?_))
     clear hK K
     simp only [Act.put, List.setIfInBounds_toArray, List.set_cons_zero, List.set_cons_succ]
     have hkP : Keeps [] X2 X3 := Keeps.ofGrownNone hgP
     have hlP : X2.heap.size < X3.heap.size := (World.ownsRow.lt hoP _ rfl).2
     refine wpAnyH_tk 7 _ (some 14) (v := .agg #[.slice (some ⟨X2.heap.size, 0, none⟩) n n, .slice (some ⟨X0.heap.size, 0, none⟩) M M]) rfl rfl (by kernel_rfl) (by kernel_rfl) (by kernel_rfl) (fun _ _ _ h => h) (Or.inl ⟨by rfl, fun w _ => by go_simp⟩) trivial ?_
     simp only [Act.put, List.setIfInBounds_toArray, List.set_cons_zero, List.set_cons_succ]
     have hoR := hoR.keep hkM (by simp)
     have hoR := hoR.keep hkP (by simp)
     have hzM := (hkP.block _ (Array.getElem?_eq_some_iff.1 hzM).1 (by simp)).trans hzM
     refine wpAnyH_ready (rs := [9]) (by kernel_rfl) (by simp) ?_
     refine AllReadyH.cons rfl (fun K hK => ?_) AllReadyH.nil
     rw [if_pos (by rfl)]
     refine wp_store_row 150 _ _ rfl X1.heap.size #[.slice (some ⟨X2.heap.size, 0, none⟩) n n, .slice (some ⟨X0.heap.size, 0, none⟩) M M] rfl rfl _ _ hzM (infoWy _ _) rfl (all2 rfl rfl) (hK.out _ _ trivial (fun _ => ?_))
     refine wpAnyH_done (by kernel_rfl) ?_ _
     have z0 := hkX.size
     have z1 := hkR.size
     have z2 := hkM.size
     have z3 := hkP.size
     have hend := WM.of (W := W) hzM hoP hoR (by omega) (by omega) (by omega) (by omega) (by omega) (by omega) (((hkX.trans hkR).trans hkM).trans hkP)
     generalize X1.heap.size = gm at *
     generalize X2.heap.size = gp at *
     generalize X0.heap.size = gr at *
     go_wp2_with fail
     go_meet
     case rel => exact ⟨_, _, _, rfl, hend⟩
  ·rw [if_pos (by rfl)]
   go_simp
   have hzM : (X0.alloc (.cells #[.slice none 0 0, .slice none 0 0] 150)).heap[X0.heap.size]? = some (.cells #[.slice none 0 0, .slice none 0 0] 150 (0, 0)) := heap_alloc_new X0 _
   have hkM : Keeps [] X0 (X0.alloc (.cells #[.slice none 0 0, .slice none 0 0] 150)) := (Keeps.refl [] X0).alloc _
   have hlM : X0.heap.size < (X0.alloc (.cells #[.slice none 0 0, .slice none 0 0] 150)).heap.size := by simp
   refine hK.out _ _ trivial (fun _ => ?_)
   clear hK K
   generalize hGX : X0.alloc (.cells #[.slice none 0 0, .slice none 0 0] 150) = X1 at *
   clear hGX
   refine wpAnyH_ready (rs := [2, 6]) (by kernel_rfl) (by simp) ?_
   refine AllReadyH.cons rfl (fun K hK => ?_) (AllReadyH.cons rfl (fun K hK => ?_) AllReadyH.nil)
   ·rw [if_pos (by rfl)]
    refine wp_make_full X1 (some 9) rfl (.tmp 8) (.tmp 8) 147 rfl 0 193 ip (.agg #[.int .i64 0, .slice none 0 0, .slice none 0 0, .slice none 0 0, .bool false, .int .i64 0, .int .i64 0, .slice none 0 0]) 8 hunP hip hp0 hp1 .i64 .i64 (n : Int) (n : Int) n rfl rfl rfl rfl (by rw [hp2]; omega) (by unfold maxLen; omega) (Nat.zero_le _) (fun X2 hoP hgP => hK.out _ _ trivial (fun _ => ?_))
    clear hK K
    simp only [Act.put, List.setIfInBounds_toArray, List.set_cons_zero, List.set_cons_succ]
    have hkP : Keeps [] X1 X2 := Keeps.ofGrownNone hgP
    have hlP : X1.heap.size < X2.heap.size := (World.ownsRow.lt hoP _ rfl).2
    refine wpAnyH_ready (rs := [6]) (by kernel_rfl) (by simp) ?_
    refine AllReadyH.cons rfl (fun K hK => ?_) AllReadyH.nil
    ·rw [if_pos (by rfl)]
     refine wp_make_full X2 (some 13) rfl (.tmp 12) (.tmp 12) 148 rfl 0 63 im (.slice none 0 0) 1 hunM him hm0 hm1 .i64 .i64 (M : Int) (M : Int) M rfl rfl rfl rfl (by have := HM.out; rw [hm2]; omega) (by have := HM.out; unfold maxLen; omega) (Nat.zero_le _) (fun X3 hoR hgR => hK.out _ _ trivial (fun _ => ?_))
     clear hK K
     simp only [Act.put, List.setIfInBounds_toArray, List.set_cons_zero, List.set_cons_succ]
     have hkR : Keeps [] X2 X3 := Keeps.ofGrownNone hgR
     have hlR : X2.heap.size < X3.heap.size := (World.ownsRow.lt hoR _ rfl).2
     refine wpAnyH_tk 7 _ (some 14) (v := .agg #[.slice (some ⟨X1.heap.size, 0, none⟩) n n, .slice (some ⟨X2.heap.size, 0, none⟩) M M]) rfl rfl (by kernel_rfl) (by kernel_rfl) (by kernel_rfl) (fun _ _ _ h => h) (Or.inl ⟨by rfl, fun w _ => by go_simp⟩) trivial ?_
     simp only [Act.put, List.setIfInBounds_toArray, List.set_cons_zero, List.set_cons_succ]
     have hzM := (hkP.block _ (Array.getElem?_eq_some_iff.1 hzM).1 (by simp)).trans hzM
     have hzM := (hkR.block _ (Array.getElem?_eq_some_iff.1 hzM).1 (by simp)).trans hzM
     have hoP := hoP.keep hkR (by simp)
     refine wpAnyH_ready (rs := [9]) (by kernel_rfl) (by simp) ?_
     refine AllReadyH.cons rfl (fun K hK => ?_) AllReadyH.nil
     rw [if_pos (by rfl)]
     refine wp_store_row 150 _ _ rfl X0.heap.size #[.slice (some ⟨X1.heap.size, 0, none⟩) n n, .slice (some ⟨X2.heap.size, 0, none⟩) M M] rfl rfl _ _ hzM (infoWy _ _) rfl (all2 rfl rfl) (hK.out _ _ trivial (fun _ => ?_))
     refine wpAnyH_done (by kernel_rfl) ?_ _
     have z0 := hkX.size
     have z1 := hkM.size
     have z2 := hkP.size
     have z3 := hkR.size
     have hend := WM.of (W := W) hzM hoP hoR (by omega) (by omega) (by omega) (by omega) (by omega) (by omega) (((hkX.trans hkM).trans hkP).trans hkR)
     generalize X0.heap.size = gm at *
     generalize X1.heap.size = gp at *
     generalize X2.heap.size = gr at *
     go_wp2_with fail
     go_meet
     case rel => exact ⟨_, _, _, rfl, hend⟩
   ·rw [if_pos (by rfl)]
    refine wp_make_full X1 (some 13) rfl (.tmp 12) (.tmp 12) 148 rfl 0 63 im (.slice none 0 0) 1 hunM him hm0 hm1 .i64 .i64 (M : Int) (M : Int) M rfl rfl rfl rfl (by have := HM.out; rw [hm2]; omega) (by have := HM.out; unfold maxLen; omega) (Nat.zero_le _) (fun X2 hoR hgR => hK.out _ _ trivial (fun _ => ?_))
    clear hK K
    simp only [Act.put, List.setIfInBounds_toArray, List.set_cons_zero, List.set_cons_succ]
    have hkR : Keeps [] X1 X2 := Keeps.ofGrownNone hgR
    have hlR : X1.heap.size < X2.heap.size := (World.ownsRow.lt hoR _ rfl).2
    refine wpAnyH_ready (rs := [2]) (by kernel_rfl) (by simp) ?_
    refine AllReadyH.cons rfl (fun K hK => ?_) AllReadyH.nil
    ·rw [if_pos (by rfl)]
     refine wp_make_full X2 (some 9) rfl (.tmp 8) (.tmp 8) 147 rfl 0 193 ip (.agg #[.int .i64 0, .slice none 0 0, .slice none 0 0, .slice none 0 0, .bool false, .int .i64 0, .int .i64 0, .slice none 0 0]) 8 hunP hip hp0 hp1 .i64 .i64 (n : Int) (n : Int) n rfl rfl rfl rfl (by rw [hp2]; omega) (by unfold maxLen; omega) (Nat.zero_le _) (fun X3 hoP hgP => hK.out _ _ trivial (fun _ => ?_))
     clear hK K
     simp only [Act.put, List.setIfInBounds_toArray, List.set_cons_zero, List.set_cons_succ]
     have hkP : Keeps [] X2 X3 := Keeps.ofGrownNone hgP
     have hlP : X2.heap.size < X3.heap.size := (World.ownsRow.lt hoP _ rfl).2
     refine wpAnyH_tk 7 _ (some 14) (v := .agg #[.slice (some ⟨X2.heap.size, 0, none⟩) n n, .slice (some ⟨X1.heap.size, 0, none⟩) M M]) rfl rfl (by kernel_rfl) (by kernel_rfl) (by kernel_rfl) (fun _ _ _ h => h) (Or.inl ⟨by rfl, fun w _ => by go_simp⟩) trivial ?_
     simp only [Act.put, List.setIfInBounds_toArray, List.set_cons_zero, List.set_cons_succ]
     have hzM := (hkR.block _ (Array.getElem?_eq_some_iff.1 hzM).1 (by simp)).trans hzM
     have hzM := (hkP.block _ (Array.getElem?_eq_some_iff.1 hzM).1 (by simp)).trans hzM
     have hoR := hoR.keep hkP (by simp)
     refine wpAnyH_ready (rs := [9]) (by kernel_rfl) (by simp) ?_
     refine AllReadyH.cons rfl (fun K hK => ?_) AllReadyH.nil
     rw [if_pos (by rfl)]
     refine wp_store_row 150 _ _ rfl X0.heap.size #[.slice (some ⟨X2.heap.size, 0, none⟩) n n, .slice (some ⟨X1.heap.size, 0, none⟩) M M] rfl rfl _ _ hzM (infoWy _ _) rfl (all2 rfl rfl) (hK.out _ _ trivial (fun _ => ?_))
     refine wpAnyH_done (by kernel_rfl) ?_ _
     have z0 := hkX.size
     have z1 := hkM.size
     have z2 := hkR.size
     have z3 := hkP.size
     have hend := WM.of (W := W) hzM hoP hoR (by omega) (by omega) (by omega) (by omega) (by omega) (by omega) (((hkX.trans hkM).trans hkR).trans hkP)
     generalize X0.heap.size = gm at *
     generalize X2.heap.size = gp at *
     generalize X1.heap.size = gr at *
     go_wp2_with fail
     go_meet
     case rel => exact ⟨_, _, _, rfl, hend⟩
 case rest =>
  obtain ⟨gm, gp, gr, rfl, hWM⟩ := hcut
  obtain ⟨V, hV⟩ : ∃ V : World, V = wc := ⟨_, rfl⟩
  subst hV
  have hmV := hWM.made
  have hgmV : gm < V.heap.size := (Array.getElem?_eq_some_iff.1 hmV).1
  have L0 : WL V V s N x n M gp gr n M := WL.start HN HM HNP hpl hWM
  have hs9 : (s.size : Int) ≤ 100 := by omega
  have HWM : Hid (WM W V n M gm gp gr) := hWM
  clear hWM hwr hp0 hp1 hp2 hip hm0 hm1 hm2 him hunP hunM
  go_upto_region 2 with (fail)
  have hS0 : V.drew.heap[gm]? = some (.cells #[.slice (some ⟨gp, 0, none⟩) n n, .slice (some ⟨gr, 0, none⟩) M M] 150 (0, 0)) ∧ Keeps [gr] V V.drew := ⟨hmV, (Keeps.refl [gr] V).drewN 1⟩
  have hkD : Keeps [] V V.drew := (Keeps.refl [] V).drewN 1
  have hnM : (n : Int) < (M : Int) := by have := HM.out; omega
  have hn0 : (0 : Int) ≤ (n : Int) := by omega
  refine wp_region_held (S := fun X => X.heap[gm]? = some (.cells #[.slice (some ⟨gp, 0, none⟩) n n, .slice (some ⟨gr, 0, none⟩) M M] 150 (0, 0)) ∧ Keeps [gr] V X) (by kernel_rfl) ?_
  change wpAnyH _ _ _ _ _ _ _ _ (World.drew _)
  generalize V.drew = X0 at *
  refine wpAnyH_tk 0 _ (some 15) (.pointer (some ⟨gm, 1, none⟩)) rfl rfl (by kernel_rfl) (by kernel_rfl) (by kernel_rfl) (fun _ _ _ h => h) (Or.inl ⟨by rfl, fun X hX => by go_simp⟩) hS0 ?_
  simp only [Act.put, List.setIfInBounds_toArray, List.set_cons_zero, List.set_cons_succ]
  refine wpAnyH_tk 1 _ (some 16) (.slice (some ⟨gr, 0, none⟩) M M) rfl rfl (by kernel_rfl) (by kernel_rfl) (by kernel_rfl) (fun _ _ _ h => h) (Or.inl ⟨by rfl, fun X hX => by (have hc := wayCells hX.1; obtain ⟨hc0, hc1⟩ := hc; go_simp)⟩) hS0 ?_
  simp only [Act.put, List.setIfInBounds_toArray, List.set_cons_zero, List.set_cons_succ]
  refine wpAnyH_tk 2 _ (some 17) (.slice va n vc) rfl rfl (by kernel_rfl) (by kernel_rfl) (by kernel_rfl) (fun _ _ _ h => h) (Or.inl ⟨by rfl, fun X hX => by go_simp⟩) hS0 ?_
  simp only [Act.put, List.setIfInBounds_toArray, List.set_cons_zero, List.set_cons_succ]
  refine wpAnyH_tk 3 _ (some 18) (.int .i64 n) rfl rfl (by kernel_rfl) (by kernel_rfl) (by kernel_rfl) (fun _ _ _ h => h) (Or.inl ⟨by rfl, fun X hX => by go_simp⟩) hS0 ?_
  simp only [Act.put, List.setIfInBounds_toArray, List.set_cons_zero, List.set_cons_succ]
  refine wpAnyH_tk 4 _ (some 19) (.string s) rfl rfl (by kernel_rfl) (by kernel_rfl) (by kernel_rfl) (fun _ _ _ h => h) (Or.inl ⟨by rfl, fun X hX => by go_simp⟩) hS0 ?_
  simp only [Act.put, List.setIfInBounds_toArray, List.set_cons_zero, List.set_cons_succ]
  refine wpAnyH_tk 5 _ (some 20) (.int .i64 s.size) rfl rfl (by kernel_rfl) (by kernel_rfl) (by kernel_rfl) (fun _ _ _ h => h) (Or.inl ⟨by rfl, fun X hX => by go_simp⟩) hS0 ?_
  simp only [Act.put, List.setIfInBounds_toArray, List.set_cons_zero, List.set_cons_succ]
  refine wpAnyH_ready (rs := [6]) (by kernel_rfl) (by simp) ?_
  refine AllReadyH.cons rfl (fun K hK => ?_) AllReadyH.nil
  go_simp
  refine (empty_mp s.size N HN hs X0).mono ?_
  rintro e w1 ⟨vE, rfl, hE, hkE⟩
  obtain ⟨gE, cE, rfl⟩ := hE.slice
  have hS1 : w1.heap[gm]? = some (.cells #[.slice (some ⟨gp, 0, none⟩) n n, .slice (some ⟨gr, 0, none⟩) M M] 150 (0, 0)) ∧ Keeps [gr] V w1 := ⟨(hkE.block gm (by have := hS0.2.size; omega) (by simp)).trans hS0.1, hS0.2.trans (hkE.mono (by simp))⟩
  have hkD1 := hkD.trans hkE
  refine hK.out _ _ hS1 (fun _ => ?_)
  clear hK K
  have L1 := L0.keeps hkD1
  have hVr := HWM.out.rlt
  obtain ⟨⟨u0, hc0⟩, hf0⟩ := L1.rcell (e := n) (by have := HM.out; omega)
  have L2 := L1.putR (d := n) (by have := HM.out; omega) (by have := HM.out; omega) (u := .slice (some ⟨gE, 0, none⟩) N cE) ((hE.mono (S' := fun y => V.heap.size ≤ y) fun y hy _ => by have := hS0.2.size; omega).congr fun i j _ _ => by rw [HNP.out, (pdrop_end hpl).1]; exact Iff.rfl) hVr HWM.out.pr
  have hkp : Keeps [gr] w1 (w1.setCell ⟨gr, n, none⟩ (.slice (some ⟨gE, 0, none⟩) N cE)) := (Keeps.refl [gr] w1).setCell (p := ⟨gr, n, none⟩) (by simp) _
  have hm2 := (hkp.block gm (by have := hS1.2.size; omega) (by simp; exact HWM.out.mr)).trans hS1.1
  refine wpAnyH_tk 7 _ (some 22) (.pointer (some ⟨gr, n, none⟩)) rfl rfl (by kernel_rfl) (by kernel_rfl) (by kernel_rfl) (fun _ _ _ h => h) (Or.inl ⟨by rfl, fun X hX => by go_simp⟩) hS1 ?_
  simp only [Act.put, List.setIfInBounds_toArray, List.set_cons_zero, List.set_cons_succ]
  refine wpAnyH_ready (rs := [8]) (by kernel_rfl) (by simp) ?_
  refine AllReadyH.cons rfl (fun K hK => ?_) AllReadyH.nil
  go_simp
  refine hK.out _ _ ⟨hm2, hS1.2.trans hkp⟩ (fun _ => ?_)
  clear hK K
  refine wpAnyH_done (by kernel_rfl) ?_ _
  generalize w1.setCell ⟨gr, n, none⟩ (.slice (some ⟨gE, 0, none⟩) N cE) = w2 at *
  clear L0 L1 hE hkE hkD hkD1 hS0 hS1 hkp hc0 hf0
  go_wp2_with fail
  go_loopw [6] (fun q wr => ∃ d : Nat, d ≤ n ∧ q = .int .i64 ((d : Int) - 1) ∧ WL V wr s N x n M gp gr d d ∧ wr.heap[gm]? = some (.cells #[.slice (some ⟨gp, 0, none⟩) n n, .slice (some ⟨gr, 0, none⟩) M M] 150 (0, 0))) (fun q _ => (intOf q + 1).toNat)
  case atStart => exact ⟨n, Nat.le_refl _, rfl, L2, hm2⟩
  case round =>
   clear L2 hm2
   obtain ⟨d, hd, rfl, L, hmr⟩ := hrel
   have hWV := HWM.out.keep.size
   have hgpV := HWM.out.plt
   have hgrV := HWM.out.rlt
   have hlp := HWM.out.lp
   have hlr := HWM.out.lr
   have hw0 := hk0.size
   cases d with
   | zero =>
    have e : (((0 : Nat) : Int) - 1) = -1 := by omega
    rw [e]
    clear e
    have hr1 : wr.heap[g1]? = some (.cells #[.slice none 0 0, .slice none 0 0] 150 (0, 0)) := (L.keep.block g1 (by omega) (by simp; omega)).trans ((HWM.out.keep.block g1 hg1W (by simp)).trans hz0)
    have hkS : Keeps [g1] wr (wr.setRow g1 #[.slice (some ⟨gp, 0, none⟩) n n, .slice (some ⟨gr, 0, none⟩) M M]) := (Keeps.refl [g1] wr).setRow (g := g1) (by simp) _
    have hfin : Mk (wr.setRow g1 #[.slice (some ⟨gp, 0, none⟩) n n, .slice (some ⟨gr, 0, none⟩) M M]) (fun g => w.heap.size ≤ g) s N .way x [.slice (some ⟨gp, 0, none⟩) n n, .slice (some ⟨gr, 0, none⟩) M M] := by
     obtain ⟨zs, hz, hm⟩ := L.prow
     obtain ⟨vs, hv, hb⟩ := L.rrow
     have hm0 : Mk wr (fun y => V.heap.size ≤ y) s N .plist x zs := by simpa [pdrop] using hm
     refine .way x zs _ _ n ((hm0.keep hkS (by intro y hy; simp; omega)).mono fun y hy _ => by omega) (hz.keep hkS (by intro y hy; simp only [Value.ownBlock, Option.some.injEq] at hy; simp; omega)) (by intro y hy; simp only [Value.ownBlock, Option.some.injEq] at hy; omega) ?_
     have hMn := HM.out
     rw [← hMn]
     refine ⟨gr, M, vs, rfl, hv.keep hkS (by intro y hy; simp only [Value.ownBlock, Option.some.injEq] at hy; simp; omega), by omega, fun e he => ?_⟩
     obtain ⟨u, a, b⟩ := hb e (Nat.zero_le _) he
     exact ⟨u, a, (b.keep hkS (by intro y hy; simp; omega)).mono fun y hy _ => by omega⟩
    have hkE : Keeps [] w (wr.setRow g1 #[.slice (some ⟨gp, 0, none⟩) n n, .slice (some ⟨gr, 0, none⟩) M M]) := (keepsM (hk0.trans HWM.out.keep) L.keep (by intro y hy; simp at hy; omega)).setRow (Or.inr hg1w) _
    go_wp2_with (first | (refine wpList_load_row rfl 150 _ rfl gm rfl _ _ _ _ hmr Tryz.underlying150 rfl (infoWy _ _) ?_) | (refine wpList_store_row rfl 150 _ _ rfl g1 #[.slice (some ⟨gp, 0, none⟩) n n, .slice (some ⟨gr, 0, none⟩) M M] rfl rfl _ _ hr1 (infoWy _ _) rfl (all2 rfl rfl) ?_))
    refine bodyPost_ret (results_cell_row rfl _ _ g1 _ _ _ _ rfl (setRow_heap _ _ _ _ _ _ hr1) Tryz.underlying150 rfl (infoWy _ _)) rfl ?_
    exact ⟨[.slice (some ⟨gp, 0, none⟩) n n, .slice (some ⟨gr, 0, none⟩) M M], rfl, hfin, hkE⟩
   | succ i =>
    have e : (((i + 1 : Nat) : Int) - 1) = (i : Int) := by omega
    rw [e]
    clear e
    obtain ⟨c, HC⟩ : ∃ c, Hid (c = i + 1) := ⟨_, rfl⟩
    have Lc : WL V wr s N x n M gp gr (i + 1) c := by have := HC.out; rw [this]; exact L
    have hic : IntKind.i64.wrap ((i : Int) + 1) = (c : Int) := by have := HC.out; rw [wrap_small (by omega) (by omega)]; omega
    have hcM : (c : Int) < (M : Int) := by have := HC.out; have := HM.out; omega
    have hc0 : (0 : Int) ≤ (c : Int) := by omega
    have hi0 : (0 : Int) ≤ (i : Int) := by omega
    have hin : (i : Int) < (n : Int) := by omega
    have hiM : (i : Int) < (M : Int) := by have := HM.out; omega
    have HI : Hid (i < n) := hd
    obtain ⟨y, hy⟩ : ∃ y, (pl x)[i]? = some y := ⟨_, List.getElem?_eq_getElem (by have := HNP.out; omega)⟩
    obtain ⟨ds1, hry, hrc, hysz⟩ := hpl.pl_text.2.2 i y hy
    have HX : Hid (pdrop i x = .pcons y (pdrop (i + 1) x)) := (pdrop_end hpl).2 i y hy
    have hyf := pfair hfair hy
    have hl1 : ds1.length = 261 := hry.cells.2
    obtain ⟨gv, vc', hv, _, hgv⟩ := hown.form (by omega)
    cases hv
    have hgvl : gv < w.heap.size := hgv
    have hrg : ∀ X : World, Keeps [gp, gr] V X → X.rangeAt gv (i * 261) ds1 := fun X hk j u hu => by
     have h1 : cs[i * 261 + j]? = some u := hrc j u hu
     have hj : j < 261 := by rw [← hl1]; exact (List.getElem?_eq_some_iff.1 hu).1
     have h2 : w.cell? ⟨gv, i * 261 + j, none⟩ = some u := (World.ownsRow.cellAt hown (i * 261 + j) (by have := HI.out; omega)).trans h1
     have hk2 : Keeps [gp, gr] w X := keepsM ((hk0.trans HWM.out.keep).mono (by simp)) hk (by intro z hz; exact Or.inl hz)
     exact (World.cell?_of_block (hk2.block gv hgvl (by simp; omega))).trans h2
    have hrX : ∀ X : World, Keeps [gp, gr] V X → Rep X (fun g => g < w.heap.size) .piece y ds1 := fun X hk => by
     have hk2 : Keeps [gp, gr] w X := keepsM ((hk0.trans HWM.out.keep).mono (by simp)) hk (by intro z hz; exact Or.inl hz)
     exact (hry.mono (S' := fun g => g < w.heap.size) fun g _ h => h).keep hk2 (by intro z hz; simp; omega)
    have hS0 : wr.drew.heap[gm]? = some (.cells #[.slice (some ⟨gp, 0, none⟩) n n, .slice (some ⟨gr, 0, none⟩) M M] 150 (0, 0)) ∧ wr.drew.rangeAt gv (i * 261) ds1 ∧ Keeps [gp] wr wr.drew := ⟨hmr, hrg wr.drew (L.keep.drewN 1), (Keeps.refl [gp] wr).drewN 1⟩
    have hkD : Keeps [] wr wr.drew := (Keeps.refl [] wr).drewN 1
    have hisz : (Tryz.prog.info? 180).map (·.size) = some ds1.length := by rw [hl1]; kernel_rfl
    clear hd hy hrc hown hrep
    go_upto_region 6 with (fail)
    refine wp_region_held (S := fun X => X.heap[gm]? = some (.cells #[.slice (some ⟨gp, 0, none⟩) n n, .slice (some ⟨gr, 0, none⟩) M M] 150 (0, 0)) ∧ X.rangeAt gv (i * 261) ds1 ∧ Keeps [gp] wr X) (by kernel_rfl) ?_
    change wpAnyH _ _ _ _ _ _ _ _ (World.drew _)
    generalize wr.drew = X0 at *
    refine wpAnyH_tk 0 _ (some 30) (.pointer (some ⟨gm, 0, none⟩)) rfl rfl (by kernel_rfl) (by kernel_rfl) (by kernel_rfl) (fun _ _ _ h => h) (Or.inl ⟨by rfl, fun X hX => by go_simp⟩) hS0 ?_
    simp only [Act.put, List.setIfInBounds_toArray, List.set_cons_zero, List.set_cons_succ]
    refine wpAnyH_tk 1 _ (some 31) (.slice (some ⟨gp, 0, none⟩) n n) rfl rfl (by kernel_rfl) (by kernel_rfl) (by kernel_rfl) (fun _ _ _ h => h) (Or.inl ⟨by rfl, fun X hX => by (have hc := wayCells hX.1; obtain ⟨hc0, hc1⟩ := hc; go_simp)⟩) hS0 ?_
    simp only [Act.put, List.setIfInBounds_toArray, List.set_cons_zero, List.set_cons_succ]
    refine wpAnyH_tk 2 _ (some 32) (.int .i64 i) rfl rfl (by kernel_rfl) (by kernel_rfl) (by kernel_rfl) (fun _ _ _ h => h) (Or.inl ⟨by rfl, fun X hX => by go_simp⟩) hS0 ?_
    simp only [Act.put, List.setIfInBounds_toArray, List.set_cons_zero, List.set_cons_succ]
    refine wpAnyH_tk 3 _ (some 33) (.slice (some ⟨gv, 0, none⟩) n vc) rfl rfl (by kernel_rfl) (by kernel_rfl) (by kernel_rfl) (fun _ _ _ h => h) (Or.inl ⟨by rfl, fun X hX => by go_simp⟩) hS0 ?_
    simp only [Act.put, List.setIfInBounds_toArray, List.set_cons_zero, List.set_cons_succ]
    refine wpAnyH_tk 4 _ (some 34) (.int .i64 i) rfl rfl (by kernel_rfl) (by kernel_rfl) (by kernel_rfl) (fun _ _ _ h => h) (Or.inl ⟨by rfl, fun X hX => by go_simp⟩) hS0 ?_
    simp only [Act.put, List.setIfInBounds_toArray, List.set_cons_zero, List.set_cons_succ]
    refine wpAnyH_tk 5 _ (some 35) (.pointer (some ⟨gv, i * 261, none⟩)) rfl rfl (by kernel_rfl) (by kernel_rfl) (by kernel_rfl) (fun _ _ _ h => h) (Or.inl ⟨by rfl, fun X hX => by go_simp⟩) hS0 ?_
    simp only [Act.put, List.setIfInBounds_toArray, List.set_cons_zero, List.set_cons_succ]
    refine wpAnyH_tk 6 _ (some 36) (.agg ds1.toArray) rfl rfl (by kernel_rfl) (by kernel_rfl) (by kernel_rfl) (fun _ _ _ h => h) (yieldsIf_load_mid (by rfl) 180 _ rfl gv (i * 261) rfl ds1 _ (fun X hX => hX.2.1) Tryz.underlying180 rfl hisz) hS0 ?_
    simp only [Act.put, List.setIfInBounds_toArray, List.set_cons_zero, List.set_cons_succ]
    refine wpAnyH_tk 7 _ (some 37) (.string s) rfl rfl (by kernel_rfl) (by kernel_rfl) (by kernel_rfl) (fun _ _ _ h => h) (Or.inl ⟨by rfl, fun X hX => by go_simp⟩) hS0 ?_
    simp only [Act.put, List.setIfInBounds_toArray, List.set_cons_zero, List.set_cons_succ]
    refine wpAnyH_ready (rs := [8]) (by kernel_rfl) (by simp) ?_
    refine AllReadyH.cons rfl (fun K hK => ?_) AllReadyH.nil
    go_simp
    refine (IP y (by omega) hyf X0 _ ds1 (hrX X0 (L.keep.trans (hkD.mono (by simp))))).mono ?_
    rintro e w1 ⟨ds, rfl, hm, hk1⟩
    have hkD1 := hkD.trans hk1
    have L1 := Lc.keeps hkD1
    have hl8 : ds.length = 8 := hm.form.2
    have hS1 : w1.heap[gm]? = some (.cells #[.slice (some ⟨gp, 0, none⟩) n n, .slice (some ⟨gr, 0, none⟩) M M] 150 (0, 0)) ∧ w1.rangeAt gv (i * 261) ds1 ∧ Keeps [gp] wr w1 := ⟨(hk1.block gm (Array.getElem?_eq_some_iff.1 hS0.1).1 (by simp)).trans hS0.1, hrg w1 L1.keep, hkD1.mono (by simp)⟩
    refine hK.out _ _ hS1 (fun _ => ?_)
    clear hK K
    refine wpAnyH_tk 9 _ (some 39) (.pointer (some ⟨gp, i * 8, none⟩)) rfl rfl (by kernel_rfl) (by kernel_rfl) (by kernel_rfl) (fun _ _ _ h => h) (Or.inl ⟨by rfl, fun X hX => by go_simp⟩) hS1 ?_
    simp only [Act.put, List.setIfInBounds_toArray, List.set_cons_zero, List.set_cons_succ]
    refine wpAnyH_ready (rs := [10]) (by kernel_rfl) (by simp) ?_
    refine AllReadyH.cons rfl (fun K hK => ?_) AllReadyH.nil
    rw [if_pos (by rfl)]
    have hth : w1.there gp (i * 8) ds.toArray.size := by have := L1.pthere HI.out; simpa [hl8] using this
    have hkp : Keeps [gp] w1 (w1.setCells gp (i * 8) ds) := Keeps.setCells (by simp) ds w1 _ (Keeps.refl [gp] w1)
    have hVw : V.heap.size ≤ w1.heap.size := L1.keep.size
    have hm1 : Mk w1 (fun z => V.heap.size ≤ z) s N .piece y ds := hm.mono fun z hz _ => by have h1 := L.keep.size; have h2 := hkD.size; omega
    have L3 := L1.putP HI.out hm1 HX.out hgpV HWM.out.pr
    have hmk4 : Mk (w1.setCells gp (i * 8) ds) (fun z => V.heap.size ≤ z) s N .piece y ds := hm1.keep hkp (by intro z hz; simp; omega)
    have hgm4 : (w1.setCells gp (i * 8) ds).heap[gm]? = some (.cells #[.slice (some ⟨gp, 0, none⟩) n n, .slice (some ⟨gr, 0, none⟩) M M] 150 (0, 0)) := (hkp.block gm (by omega) (by simp; exact HWM.out.mp)).trans hS1.1
    have hrp4 : (w1.setCells gp (i * 8) ds).rangeAt gp (i * 8) ds := World.rangeAt_setCells_same _ _ _ _ (by have := hth; simpa using this)
    refine wp_store_midD rfl 193 (.tmp 39) (.tmp 38) rfl gp (i * 8) ds.toArray rfl rfl hth (infoPieceM ds hl8) (one_all hm.form.1) (hK.out _ (w1.setCells gp (i * 8) ds) ⟨hgm4, hrg _ L3.keep, hS1.2.2.trans hkp⟩ (fun _ => ?_))
    clear hK K
    simp only [Act.put]
    refine wpAnyH_done (by kernel_rfl) ?_ _
    generalize w1.setCells gp (i * 8) ds = w4 at *
    clear hS0 hS1 L1 Lc L hm hm1 hkp hth hkD hkD1 hk1 hrX hrg hmr
    go_upto_region 7 with (fail)
    obtain ⟨u, hcu, hu⟩ := L3.rat (Nat.le_refl _) (by have := HM.out; have := HC.out; omega)
    obtain ⟨gu, cu, rfl⟩ := hu.slice
    have hS0 : w4.drew.heap[gm]? = some (.cells #[.slice (some ⟨gp, 0, none⟩) n n, .slice (some ⟨gr, 0, none⟩) M M] 150 (0, 0)) ∧ w4.drew.rangeAt gp (i * 8) ds ∧ w4.drew.cell? ⟨gr, c, none⟩ = some (.slice (some ⟨gu, 0, none⟩) N cu) ∧ Keeps [gr] w4 w4.drew := ⟨hgm4, hrp4, hcu, (Keeps.refl [gr] w4).drewN 1⟩
    have hkD : Keeps [] w4 w4.drew := (Keeps.refl [] w4).drewN 1
    have hisz8 : (Tryz.prog.info? 193).map (·.size) = some ds.length := by rw [hl8]; kernel_rfl
    refine wp_region_held (S := fun X => X.heap[gm]? = some (.cells #[.slice (some ⟨gp, 0, none⟩) n n, .slice (some ⟨gr, 0, none⟩) M M] 150 (0, 0)) ∧ X.rangeAt gp (i * 8) ds ∧ X.cell? ⟨gr, c, none⟩ = some (.slice (some ⟨gu, 0, none⟩) N cu) ∧ Keeps [gr] w4 X) (by kernel_rfl) ?_
    change wpAnyH _ _ _ _ _ _ _ _ (World.drew _)
    generalize w4.drew = X0 at *
    refine wpAnyH_tk 0 _ (some 40) (.pointer (some ⟨gm, 1, none⟩)) rfl rfl (by kernel_rfl) (by kernel_rfl) (by kernel_rfl) (fun _ _ _ h => h) (Or.inl ⟨by rfl, fun X hX => by go_simp⟩) hS0 ?_
    simp only [Act.put, List.setIfInBounds_toArray, List.set_cons_zero, List.set_cons_succ]
    refine wpAnyH_tk 1 _ (some 41) (.slice (some ⟨gr, 0, none⟩) M M) rfl rfl (by kernel_rfl) (by kernel_rfl) (by kernel_rfl) (fun _ _ _ h => h) (Or.inl ⟨by rfl, fun X hX => by (have hc := wayCells hX.1; obtain ⟨hc0, hc1⟩ := hc; go_simp)⟩) hS0 ?_
    simp only [Act.put, List.setIfInBounds_toArray, List.set_cons_zero, List.set_cons_succ]
    refine wpAnyH_tk 2 _ (some 42) (.int .i64 i) rfl rfl (by kernel_rfl) (by kernel_rfl) (by kernel_rfl) (fun _ _ _ h => h) (Or.inl ⟨by rfl, fun X hX => by go_simp⟩) hS0 ?_
    simp only [Act.put, List.setIfInBounds_toArray, List.set_cons_zero, List.set_cons_succ]
    refine wpAnyH_tk 3 _ (some 43) (.pointer (some ⟨gm, 0, none⟩)) rfl rfl (by kernel_rfl) (by kernel_rfl) (by kernel_rfl) (fun _ _ _ h => h) (Or.inl ⟨by rfl, fun X hX => by go_simp⟩) hS0 ?_
    simp only [Act.put, List.setIfInBounds_toArray, List.set_cons_zero, List.set_cons_succ]
    refine wpAnyH_tk 4 _ (some 44) (.slice (some ⟨gp, 0, none⟩) n n) rfl rfl (by kernel_rfl) (by kernel_rfl) (by kernel_rfl) (fun _ _ _ h => h) (Or.inl ⟨by rfl, fun X hX => by (have hc := wayCells hX.1; obtain ⟨hc0, hc1⟩ := hc; go_simp)⟩) hS0 ?_
    simp only [Act.put, List.setIfInBounds_toArray, List.set_cons_zero, List.set_cons_succ]
    refine wpAnyH_tk 5 _ (some 45) (.int .i64 i) rfl rfl (by kernel_rfl) (by kernel_rfl) (by kernel_rfl) (fun _ _ _ h => h) (Or.inl ⟨by rfl, fun X hX => by go_simp⟩) hS0 ?_
    simp only [Act.put, List.setIfInBounds_toArray, List.set_cons_zero, List.set_cons_succ]
    refine wpAnyH_tk 6 _ (some 46) (.pointer (some ⟨gp, i * 8, none⟩)) rfl rfl (by kernel_rfl) (by kernel_rfl) (by kernel_rfl) (fun _ _ _ h => h) (Or.inl ⟨by rfl, fun X hX => by go_simp⟩) hS0 ?_
    simp only [Act.put, List.setIfInBounds_toArray, List.set_cons_zero, List.set_cons_succ]
    refine wpAnyH_tk 7 _ (some 47) (.agg ds.toArray) rfl rfl (by kernel_rfl) (by kernel_rfl) (by kernel_rfl) (fun _ _ _ h => h) (yieldsIf_load_mid (by rfl) 193 _ rfl gp (i * 8) rfl ds _ (fun X hX => hX.2.1) Tryz.underlying193 rfl hisz8) hS0 ?_
    simp only [Act.put, List.setIfInBounds_toArray, List.set_cons_zero, List.set_cons_succ]
    refine wpAnyH_tk 9 _ (some 49) (.pointer (some ⟨gm, 1, none⟩)) rfl rfl (by kernel_rfl) (by kernel_rfl) (by kernel_rfl) (fun _ _ _ h => h) (Or.inl ⟨by rfl, fun X hX => by go_simp⟩) hS0 ?_
    simp only [Act.put, List.setIfInBounds_toArray, List.set_cons_zero, List.set_cons_succ]
    refine wpAnyH_tk 10 _ (some 50) (.slice (some ⟨gr, 0, none⟩) M M) rfl rfl (by kernel_rfl) (by kernel_rfl) (by kernel_rfl) (fun _ _ _ h => h) (Or.inl ⟨by rfl, fun X hX => by (have hc := wayCells hX.1; obtain ⟨hc0, hc1⟩ := hc; go_simp)⟩) hS0 ?_
    simp only [Act.put, List.setIfInBounds_toArray, List.set_cons_zero, List.set_cons_succ]
    refine wpAnyH_tk 11 _ (some 51) (.int .i64 i) rfl rfl (by kernel_rfl) (by kernel_rfl) (by kernel_rfl) (fun _ _ _ h => h) (Or.inl ⟨by rfl, fun X hX => by go_simp⟩) hS0 ?_
    simp only [Act.put, List.setIfInBounds_toArray, List.set_cons_zero, List.set_cons_succ]
    refine wpAnyH_tk 12 _ (some 52) (.int .i64 c) rfl rfl (by kernel_rfl) (by kernel_rfl) (by kernel_rfl) (fun _ _ _ h => h) (Or.inl ⟨by rfl, fun X hX => by go_simp⟩) hS0 ?_
    simp only [Act.put, List.setIfInBounds_toArray, List.set_cons_zero, List.set_cons_succ]
    refine wpAnyH_tk 13 _ (some 53) (.pointer (some ⟨gr, c, none⟩)) rfl rfl (by kernel_rfl) (by kernel_rfl) (by kernel_rfl) (fun _ _ _ h => h) (Or.inl ⟨by rfl, fun X hX => by go_simp⟩) hS0 ?_
    simp only [Act.put, List.setIfInBounds_toArray, List.set_cons_zero, List.set_cons_succ]
    refine wpAnyH_tk 14 _ (some 54) (.slice (some ⟨gu, 0, none⟩) N cu) rfl rfl (by kernel_rfl) (by kernel_rfl) (by kernel_rfl) (fun _ _ _ h => h) (Or.inl ⟨by rfl, fun X hX => by (have hc := hX.2.2.1; go_simp)⟩) hS0 ?_
    simp only [Act.put, List.setIfInBounds_toArray, List.set_cons_zero, List.set_cons_succ]
    refine wpAnyH_ready (rs := [8]) (by kernel_rfl) (by simp) ?_
    refine AllReadyH.cons rfl (fun K hK => ?_) AllReadyH.nil
    go_simp
    refine (can_any s N y ds _ X0 (hmk4.keep hkD (by simp))).mono ?_
    rintro e w5 ⟨gc, cc, rfl, hcan, hk5⟩
    have hkD5 := hkD.trans hk5
    have hgmw : gm < w4.heap.size := (Array.getElem?_eq_some_iff.1 hgm4).1
    have hS5 : w5.heap[gm]? = some (.cells #[.slice (some ⟨gp, 0, none⟩) n n, .slice (some ⟨gr, 0, none⟩) M M] 150 (0, 0)) ∧ w5.rangeAt gp (i * 8) ds ∧ w5.cell? ⟨gr, c, none⟩ = some (.slice (some ⟨gu, 0, none⟩) N cu) ∧ Keeps [gr] w4 w5 := ⟨(hkD5.block gm hgmw (by simp)).trans hgm4, fun j v hv => (World.cell?_of_block (hkD5.block gp (by have := L3.keep.size; omega) (by simp))).trans (hrp4 j v hv), (World.cell?_of_block (hkD5.block gr (by have := L3.keep.size; omega) (by simp))).trans hcu, hkD5.mono (by simp)⟩
    refine hK.out _ _ hS5 (fun _ => ?_)
    clear hK K
    refine wpAnyH_ready (rs := [15]) (by kernel_rfl) (by simp) ?_
    refine AllReadyH.cons rfl (fun K hK => ?_) AllReadyH.nil
    go_simp
    refine (then_mp N (by have := HN.out; omega) (fun _ _ => Mt.le (x := y)) (fun i j h hi => by have := HN.out; have := Mt.inn (x := y) h (by omega); omega) w5 hcan (hu.keep hkD5 (by simp))).mono ?_
    rintro e w6 ⟨vt, rfl, hT, hk6⟩
    obtain ⟨gt, ct, rfl⟩ := hT.slice
    have hkD6 := hkD5.trans hk6
    have hS6 : w6.heap[gm]? = some (.cells #[.slice (some ⟨gp, 0, none⟩) n n, .slice (some ⟨gr, 0, none⟩) M M] 150 (0, 0)) ∧ w6.rangeAt gp (i * 8) ds ∧ w6.cell? ⟨gr, c, none⟩ = some (.slice (some ⟨gu, 0, none⟩) N cu) ∧ Keeps [gr] w4 w6 := ⟨(hkD6.block gm hgmw (by simp)).trans hgm4, fun j v hv => (World.cell?_of_block (hkD6.block gp (by have := L3.keep.size; omega) (by simp))).trans (hrp4 j v hv), (World.cell?_of_block (hkD6.block gr (by have := L3.keep.size; omega) (by simp))).trans hcu, hkD6.mono (by simp)⟩
    refine hK.out _ _ hS6 (fun _ => ?_)
    clear hK K
    refine wpAnyH_tk 16 _ (some 56) (.pointer (some ⟨gr, i, none⟩)) rfl rfl (by kernel_rfl) (by kernel_rfl) (by kernel_rfl) (fun _ _ _ h => h) (Or.inl ⟨by rfl, fun X hX => by go_simp⟩) hS6 ?_
    simp only [Act.put, List.setIfInBounds_toArray, List.set_cons_zero, List.set_cons_succ]
    refine wpAnyH_ready (rs := [17]) (by kernel_rfl) (by simp) ?_
    refine AllReadyH.cons rfl (fun K hK => ?_) AllReadyH.nil
    have L6 := L3.keeps hkD6
    obtain ⟨⟨u6, hc6⟩, hf6⟩ := L6.rcell (e := i) (by have := HM.out; have := HI.out; omega)
    have L7 := L6.putR (d := i) (by have := HC.out; omega) (by have := HM.out; have := HI.out; omega) (u := .slice (some ⟨gt, 0, none⟩) N ct) ((hT.mono (S' := fun z => V.heap.size ≤ z) fun z hz _ => by have h1 := L3.keep.size; have h2 := hkD5.size; omega).congr fun a b _ _ => by rw [HX.out, HC.out]; exact Iff.rfl) hgrV HWM.out.pr
    have hkp : Keeps [gr] w6 (w6.setCell ⟨gr, i, none⟩ (.slice (some ⟨gt, 0, none⟩) N ct)) := (Keeps.refl [gr] w6).setCell (p := ⟨gr, i, none⟩) (by simp) _
    have hgm7 : (w6.setCell ⟨gr, i, none⟩ (.slice (some ⟨gt, 0, none⟩) N ct)).heap[gm]? = some (.cells #[.slice (some ⟨gp, 0, none⟩) n n, .slice (some ⟨gr, 0, none⟩) M M] 150 (0, 0)) := (hkp.block gm (by have := hkD6.size; omega) (by simp; exact HWM.out.mr)).trans hS6.1
    have hgc : c ≠ i := by have := HC.out; omega
    have hS7 : (w6.setCell ⟨gr, i, none⟩ (.slice (some ⟨gt, 0, none⟩) N ct)).heap[gm]? = some (.cells #[.slice (some ⟨gp, 0, none⟩) n n, .slice (some ⟨gr, 0, none⟩) M M] 150 (0, 0)) ∧ (w6.setCell ⟨gr, i, none⟩ (.slice (some ⟨gt, 0, none⟩) N ct)).rangeAt gp (i * 8) ds ∧ (w6.setCell ⟨gr, i, none⟩ (.slice (some ⟨gt, 0, none⟩) N ct)).cell? ⟨gr, c, none⟩ = some (.slice (some ⟨gu, 0, none⟩) N cu) ∧ Keeps [gr] w4 (w6.setCell ⟨gr, i, none⟩ (.slice (some ⟨gt, 0, none⟩) N ct)) := ⟨hgm7, fun j v hv => (World.cell?_of_block (hkp.block gp (by have := L3.keep.size; have := hkD6.size; omega) (by simp; exact HWM.out.pr))).trans (hS6.2.1 j v hv), (World.cell?_setCell_other _ _ _ _ (by intro e; cases e; exact hgc rfl)).trans hS6.2.2.1, hS6.2.2.2.trans hkp⟩
    go_simp
    refine hK.out _ _ hS7 (fun _ => ?_)
    clear hK K
    refine wpAnyH_done (by kernel_rfl) ?_ _
    generalize w6.setCell ⟨gr, i, none⟩ (.slice (some ⟨gt, 0, none⟩) N ct) = w8 at *
    clear hS0 hS5 hS6 hS7 L3 L6 hT hcan hk5 hk6 hkD hkD5 hkD6 hkp hc6 hf6 hu hcu hgm4 hrp4 hmk4
    go_wp2_with fail
    go_roundw
    case rel => exact ⟨i, by have := HI.out; omega, by go_num, L7, hgm7⟩
    case measure => simp [intOf]
end Go.Proofs.YtnfojonmohijpabGreatDoor
