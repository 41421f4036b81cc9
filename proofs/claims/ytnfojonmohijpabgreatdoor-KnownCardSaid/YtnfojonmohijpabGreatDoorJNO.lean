/-
  DERIVED. The program's newPiece, over newSingle. Conditions: the text is at most 100 bytes long.
-/
import Derived.Test.YtnfojonmohijpabGreatDoorJQC
import Derived.Deep.RegionHeld3
set_option linter.unusedSimpArgs false
set_option linter.unusedVariables false
namespace Go.Proofs.YtnfojonmohijpabGreatDoor
open Go.RowKit
theorem infoPieceM (l : List Value) (h : l.length = 8) : (Tryz.prog.info? 193).map (·.size) = some l.toArray.size := by
 have : (Tryz.prog.info? 193).map (·.size) = some 8 := by kernel_rfl
 simpa [h] using this
theorem rangeSingleIn {w : World} {g : Nat} {cs ds : List Value} {T : TypeId} {fr : Nat × Nat} (h : w.heap[g]? = some (.cells (cs ++ ds).toArray T fr)) : w.rangeAt g 0 cs := by
 intro j v hv
 rw [Lib.cell_of_heap h, List.getElem?_toArray, Nat.zero_add, List.getElem?_append_left (List.getElem?_eq_some_iff.1 hv).1]
 exact hv
theorem rangeBehind {w : World} {g k : Nat} {cs ds : List Value} {T : TypeId} {fr : Nat × Nat} (hl : cs.length = k) (h : w.heap[g]? = some (.cells (cs ++ ds).toArray T fr)) : w.rangeAt g k ds := by
 intro j v hv
 rw [Lib.cell_of_heap h, List.getElem?_toArray, List.getElem?_append_right (by omega), hl, Nat.add_sub_cancel_left]
 exact hv
theorem infoRepL (o : Option (Nat × Int)) : (Tryz.prog.info? 178).map (·.size) = some (repC o).length := by rw [repC_len]; kernel_rfl
theorem infoSgL {cs : List Value} (h : cs.length = 258) : (Tryz.prog.info? 176).map (·.size) = some cs.length := by have := infoSingleC h; simpa using this
theorem repC_three (o : Option (Nat × Int)) : ∃ b m n, repC o = [b, m, n] ∧ b.oneCell' = true ∧ m.oneCell' = true ∧ n.oneCell' = true := by
 cases o with
 | none => exact ⟨_, _, _, rfl, rfl, rfl, rfl⟩
 | some p => exact ⟨_, _, _, rfl, rfl, rfl, rfl⟩
theorem info8 (a b c d e f g h : Value) : (Tryz.prog.info? 193).map (·.size) = some (#[a, b, c, d, e, f, g, h] : Array Value).size := by kernel_rfl
theorem all8 {a b c d e f g h : Value} (ha : a.oneCell' = true) (hb : b.oneCell' = true) (hc : c.oneCell' = true) (hd : d.oneCell' = true) (he : e.oneCell' = true) (hf : f.oneCell' = true) (hg : g.oneCell' = true) (hh : h.oneCell' = true) :
    (#[a, b, c, d, e, f, g, h] : Array Value).all (·.oneCell') = true := by simp [ha, hb, hc, hd, he, hf, hg, hh]
set_option maxRecDepth 100000 in
set_option maxHeartbeats 2000000 in
theorem newPiece_any (s : ByteArray) (N : Nat) (HN : Hid (N = s.size + 1)) (hs : s.size ≤ 100) (n : Nat) (IS : SingleN s N n) : PieceN s N n := by
 intro y hy hfair w S cs0 hrep
 cases hrep with
 | piece x o cs ho hrx =>
 have hx : x.sz ≤ n := Nat.le_trans (sz_rep x o) hy
 have hxf : x.fair 9 := by cases o with | none => exact hfair | some p => exact hfair.2
 have hl : cs.length = 258 := hrx.cells.2
 have hz0 : ((w.alloc (.cells (cs ++ repC o).toArray 180)).alloc (.cells #[.int .i64 0, .slice none 0 0, .slice none 0 0, .slice none 0 0, .bool false, .int .i64 0, .int .i64 0, .slice none 0 0] 193)).heap[w.heap.size]? = some (.cells (cs ++ repC o).toArray 180 (0, 0)) := heap_alloc2_old w _ _
 have hr0 : ((w.alloc (.cells (cs ++ repC o).toArray 180)).alloc (.cells #[.int .i64 0, .slice none 0 0, .slice none 0 0, .slice none 0 0, .bool false, .int .i64 0, .int .i64 0, .slice none 0 0] 193)).heap[w.heap.size + 1]? = some (.cells #[.int .i64 0, .slice none 0 0, .slice none 0 0, .slice none 0 0, .bool false, .int .i64 0, .int .i64 0, .slice none 0 0] 193 (0, 0)) := heap_alloc2_new w _ _
 have hk0 : Keeps [] w ((w.alloc (.cells (cs ++ repC o).toArray 180)).alloc (.cells #[.int .i64 0, .slice none 0 0, .slice none 0 0, .slice none 0 0, .bool false, .int .i64 0, .int .i64 0, .slice none 0 0] 193)) := ((Keeps.refl [] w).alloc _).alloc _
 have hrW := hrx.keep hk0 (by simp)
 have hl1 : ∀ w' : World, w'.heap[w.heap.size]? = some (.cells (cs ++ repC o).toArray 180 (0, 0)) → w'.rangeAt w.heap.size 0 cs := fun w' h => rangeSingleIn h
 have hl2 : ∀ w' : World, w'.heap[w.heap.size]? = some (.cells (cs ++ repC o).toArray 180 (0, 0)) → w'.rangeAt w.heap.size 258 (repC o) := fun w' h => rangeBehind hl h
 generalize hC : (cs ++ repC o).toArray = C at *
 go_enter Tryz.func103, Tryz.ntmps103
 go_upto_region 1 with (fail)
 generalize ((w.alloc (.cells C 180)).alloc (.cells #[.int .i64 0, .slice none 0 0, .slice none 0 0, .slice none 0 0, .bool false, .int .i64 0, .int .i64 0, .slice none 0 0] 193)) = W at *
 obtain ⟨g0, hg0⟩ : ∃ g0, g0 = w.heap.size := ⟨_, rfl⟩
 obtain ⟨g1, hg1⟩ : ∃ g1, g1 = w.heap.size + 1 := ⟨_, rfl⟩
 rw [← hg1] at hr0 ⊢
 rw [← hg0] at hz0 hl1 hl2 ⊢
 have hg0W : g0 < W.heap.size := (Array.getElem?_eq_some_iff.1 hz0).1
 have hg1W : g1 < W.heap.size := (Array.getElem?_eq_some_iff.1 hr0).1
 have hg1w : w.heap.size ≤ g1 := by omega
 clear hg0 hg1
 go_cut [5] from 6 to 12 (fun q5 wx => ∃ g2 ds, q5 = .pointer (some ⟨g2, 0, none⟩) ∧ Mk wx (fun x => W.heap.size ≤ x ∧ x ≠ g2) s N .single x ds ∧ wx.heap[g2]? = some (.cells (ds ++ repC o ++ [Value.slice none 0 0]).toArray 193 (0, 0)) ∧ W.heap.size ≤ g2 ∧ Keeps [] W wx)
 case first =>
  have IC : ∀ X : World, Keeps [] W X → Calls Tryz.prog 127 #[.agg cs.toArray, .string s] X (NewMk X s N .single x) := fun X hk => IS x hx hxf X S cs (hrW.keep hk (by simp))
  have hS0 : W.drew.heap[g0]? = some (.cells C 180 (0, 0)) ∧ Keeps [] W W.drew := ⟨hz0, (Keeps.refl [] W).drewN 1⟩
  clear hC
  refine wp_region_held (S := fun X => X.heap[g0]? = some (.cells C 180 (0, 0)) ∧ Keeps [] W X) (by kernel_rfl) ?_
  change wpAnyH _ _ _ _ _ _ _ _ (World.drew _)
  refine wpAnyH_take (i := 0) (v := .pointer (some ⟨g0, 0, none⟩)) rfl (by kernel_rfl) (by kernel_rfl) (by kernel_rfl) (fun _ _ _ h => h) (Or.inl ⟨by rfl, fun w _ => by go_simp⟩) hS0 ?_
  refine wpAnyH_take (i := 2) (v := .string s) rfl (by kernel_rfl) (by kernel_rfl) (by kernel_rfl) (fun _ _ _ h => h) (Or.inl ⟨by rfl, fun w _ => by go_simp⟩) hS0 ?_
  refine wpAnyH_take (i := 4) (v := .pointer (some ⟨g0, 258, none⟩)) rfl (by kernel_rfl) (by kernel_rfl) (by kernel_rfl) (fun _ _ _ h => h) (Or.inl ⟨by rfl, fun w _ => by go_simp⟩) hS0 ?_
  refine wpAnyH_take (i := 1) (v := .agg cs.toArray) rfl (by kernel_rfl) (by kernel_rfl) (by kernel_rfl) (fun _ _ _ h => h) (yieldsIf_load_mid (by rfl) 176 _ rfl g0 0 rfl cs _ (fun X hX => hl1 X hX.1) Tryz.underlying176 rfl (infoSgL hl)) hS0 ?_
  refine wpAnyH_take (i := 5) (v := .agg (repC o).toArray) rfl (by kernel_rfl) (by kernel_rfl) (by kernel_rfl) (fun _ _ _ h => h) (yieldsIf_load_mid (by rfl) 178 _ rfl g0 258 rfl (repC o) _ (fun X hX => hl2 X hX.1) Tryz.underlying178 rfl (infoRepL o)) hS0 ?_
  obtain ⟨r0, r1, r2, hro, o0, o1, o2⟩ := repC_three o
  rw [hro]
  refine wpAnyH_ready (rs := [3, 7]) (by kernel_rfl) (by simp) ?_
  refine AllReadyH.cons rfl (fun K hK => ?_) (AllReadyH.cons rfl (fun K hK => ?_) AllReadyH.nil)
  ·go_simp
   refine (IC _ hS0.2).mono ?_
   rintro e w1 ⟨ds, rfl, hm, hk1⟩
   have hS1 : w1.heap[g0]? = some (.cells C 180 (0, 0)) ∧ Keeps [] W w1 := ⟨(hk1.block g0 hg0W (by simp)).trans hS0.1, hS0.2.trans hk1⟩
   obtain ⟨hone, k', a, c, v, rfl, hmp⟩ := id hm.form
   refine hK.out _ _ hS1 (fun _ => ?_)
   clear hK K
   refine wpAnyH_take (i := 6) (v := .agg #[.int .i64 (k' : Nat), a, c, v, r0, r1, r2, .slice none 0 0]) rfl (by kernel_rfl) (by kernel_rfl) (by kernel_rfl) (fun _ _ _ h => h) (Or.inl ⟨by rfl, fun w _ => by go_simp⟩) hS1 ?_
   refine wpAnyH_ready (rs := [7]) (by kernel_rfl) (by simp) ?_
   refine AllReadyH.cons rfl (fun K hK => ?_) AllReadyH.nil
   go_simp
   have hz1 : (w1.alloc (.cells #[.int .i64 0, .slice none 0 0, .slice none 0 0, .slice none 0 0, .bool false, .int .i64 0, .int .i64 0, .slice none 0 0] 193)).heap[w1.heap.size]? = some (.cells #[.int .i64 0, .slice none 0 0, .slice none 0 0, .slice none 0 0, .bool false, .int .i64 0, .int .i64 0, .slice none 0 0] 193 (0, 0)) := heap_alloc_new w1 _
   have hk2 : Keeps [] w1 (w1.alloc (.cells #[.int .i64 0, .slice none 0 0, .slice none 0 0, .slice none 0 0, .bool false, .int .i64 0, .int .i64 0, .slice none 0 0] 193)) := (Keeps.refl [] w1).alloc _
   have hk3 : Keeps [] w1 ((w1.alloc (.cells #[.int .i64 0, .slice none 0 0, .slice none 0 0, .slice none 0 0, .bool false, .int .i64 0, .int .i64 0, .slice none 0 0] 193)).setRow w1.heap.size #[.int .i64 (k' : Nat), a, c, v, r0, r1, r2, .slice none 0 0]) := hk2.setRow (Or.inr (Nat.le_refl _)) _
   have hw1 : W.heap.size ≤ w1.heap.size := hS1.2.size
   have hS2 : (w1.alloc (.cells #[.int .i64 0, .slice none 0 0, .slice none 0 0, .slice none 0 0, .bool false, .int .i64 0, .int .i64 0, .slice none 0 0] 193)).heap[g0]? = some (.cells C 180 (0, 0)) ∧ Keeps [] W (w1.alloc (.cells #[.int .i64 0, .slice none 0 0, .slice none 0 0, .slice none 0 0, .bool false, .int .i64 0, .int .i64 0, .slice none 0 0] 193)) := ⟨(hk2.block g0 (by omega) (by simp)).trans hS1.1, hS1.2.trans hk2⟩
   have hS3 : ((w1.alloc (.cells #[.int .i64 0, .slice none 0 0, .slice none 0 0, .slice none 0 0, .bool false, .int .i64 0, .int .i64 0, .slice none 0 0] 193)).setRow w1.heap.size #[.int .i64 (k' : Nat), a, c, v, r0, r1, r2, .slice none 0 0]).heap[g0]? = some (.cells C 180 (0, 0)) ∧ Keeps [] W ((w1.alloc (.cells #[.int .i64 0, .slice none 0 0, .slice none 0 0, .slice none 0 0, .bool false, .int .i64 0, .int .i64 0, .slice none 0 0] 193)).setRow w1.heap.size #[.int .i64 (k' : Nat), a, c, v, r0, r1, r2, .slice none 0 0]) := ⟨(hk3.block g0 (by omega) (by simp)).trans hS1.1, hS1.2.trans hk3⟩
   refine hK.out _ _ hS2 (fun _ => ?_)
   clear hK K
   refine wpAnyH_ready (rs := [8]) (by kernel_rfl) (by simp) ?_
   refine AllReadyH.cons rfl (fun K hK => ?_) AllReadyH.nil
   rw [if_pos (by rfl)]
   refine wp_store_row 193 _ _ rfl w1.heap.size #[.int .i64 (k' : Nat), a, c, v, r0, r1, r2, .slice none 0 0] rfl rfl _ _ hz1 (info8 _ _ _ _ _ _ _ _) rfl (all8 rfl (hone _ (by simp)) (hone _ (by simp)) (hone _ (by simp)) o0 o1 o2 rfl) (hK.out _ _ hS3 (fun _ => ?_))
   refine wpAnyH_done (by kernel_rfl) ?_ _
   have hrow : ((w1.alloc (.cells #[.int .i64 0, .slice none 0 0, .slice none 0 0, .slice none 0 0, .bool false, .int .i64 0, .int .i64 0, .slice none 0 0] 193)).setRow w1.heap.size #[.int .i64 (k' : Nat), a, c, v, r0, r1, r2, .slice none 0 0]).heap[w1.heap.size]? = some (.cells #[.int .i64 (k' : Nat), a, c, v, r0, r1, r2, .slice none 0 0] 193 (0, 0)) := setRow_heap _ _ _ _ _ _ hz1
   have hm3 := (hm.mono (S' := fun x => W.heap.size ≤ x ∧ x ≠ w1.heap.size) fun x hx hx2 => by simp at hx; omega).keep hk3 (by simp)
   go_wp2_with fail
   go_meet
   case rel => exact ⟨w1.heap.size, [.int .i64 (k' : Nat), a, c, v], rfl, hm3, by rw [hrow, hro]; rfl, hw1, hS3.2⟩
  ·rw [if_pos (by rfl)]
   go_simp
   have hz1 : (W.alloc (.cells #[.int .i64 0, .slice none 0 0, .slice none 0 0, .slice none 0 0, .bool false, .int .i64 0, .int .i64 0, .slice none 0 0] 193)).drew.heap[W.heap.size]? = some (.cells #[.int .i64 0, .slice none 0 0, .slice none 0 0, .slice none 0 0, .bool false, .int .i64 0, .int .i64 0, .slice none 0 0] 193 (0, 0)) := heap_alloc_new W _
   have hk2 : Keeps [] W (W.alloc (.cells #[.int .i64 0, .slice none 0 0, .slice none 0 0, .slice none 0 0, .bool false, .int .i64 0, .int .i64 0, .slice none 0 0] 193)).drew := ((Keeps.refl [] W).alloc _).drewN 1
   have hS2 : (W.alloc (.cells #[.int .i64 0, .slice none 0 0, .slice none 0 0, .slice none 0 0, .bool false, .int .i64 0, .int .i64 0, .slice none 0 0] 193)).drew.heap[g0]? = some (.cells C 180 (0, 0)) ∧ Keeps [] W (W.alloc (.cells #[.int .i64 0, .slice none 0 0, .slice none 0 0, .slice none 0 0, .bool false, .int .i64 0, .int .i64 0, .slice none 0 0] 193)).drew := ⟨(hk2.block g0 hg0W (by simp)).trans hz0, hk2⟩
   have hX : (W.alloc (.cells #[.int .i64 0, .slice none 0 0, .slice none 0 0, .slice none 0 0, .bool false, .int .i64 0, .int .i64 0, .slice none 0 0] 193)).drew.heap.size = W.heap.size + 1 := by simp
   refine hK.out _ _ hS2 (fun _ => ?_)
   clear hK K
   generalize (W.alloc (.cells #[.int .i64 0, .slice none 0 0, .slice none 0 0, .slice none 0 0, .bool false, .int .i64 0, .int .i64 0, .slice none 0 0] 193)).drew = X at *
   refine wpAnyH_ready (rs := [3]) (by kernel_rfl) (by simp) ?_
   refine AllReadyH.cons rfl (fun K hK => ?_) AllReadyH.nil
   obtain ⟨g2, hg2⟩ : ∃ g2, g2 = W.heap.size := ⟨_, rfl⟩
   rw [← hg2] at hz1 hX ⊢
   have hg2W : W.heap.size ≤ g2 := by omega
   clear hg2
   go_simp
   refine (IC X hS2.2).mono ?_
   rintro e w1 ⟨ds, rfl, hm, hk1⟩
   have hS1 : w1.heap[g0]? = some (.cells C 180 (0, 0)) ∧ Keeps [] W w1 := ⟨(hk1.block g0 (by omega) (by simp)).trans hS2.1, hS2.2.trans hk1⟩
   obtain ⟨hone, k', a, c, v, rfl, hmp⟩ := id hm.form
   have hz2 := (hk1.block g2 (by omega) (by simp)).trans hz1
   have hk3 : Keeps [g2] w1 (w1.setRow g2 #[.int .i64 (k' : Nat), a, c, v, r0, r1, r2, .slice none 0 0]) := (Keeps.refl [g2] w1).setRow (g := g2) (by simp) _
   have hS3 : (w1.setRow g2 #[.int .i64 (k' : Nat), a, c, v, r0, r1, r2, .slice none 0 0]).heap[g0]? = some (.cells C 180 (0, 0)) ∧ Keeps [] W (w1.setRow g2 #[.int .i64 (k' : Nat), a, c, v, r0, r1, r2, .slice none 0 0]) := ⟨(hk3.block g0 (by have := hk1.size; omega) (by simp; omega)).trans hS1.1, hS1.2.setRow (Or.inr hg2W) _⟩
   refine hK.out _ _ hS1 (fun _ => ?_)
   clear hK K
   refine wpAnyH_take (i := 6) (v := .agg #[.int .i64 (k' : Nat), a, c, v, r0, r1, r2, .slice none 0 0]) rfl (by kernel_rfl) (by kernel_rfl) (by kernel_rfl) (fun _ _ _ h => h) (Or.inl ⟨by rfl, fun w _ => by go_simp⟩) hS1 ?_
   refine wpAnyH_ready (rs := [8]) (by kernel_rfl) (by simp) ?_
   refine AllReadyH.cons rfl (fun K hK => ?_) AllReadyH.nil
   rw [if_pos (by rfl)]
   refine wp_store_row 193 _ _ rfl g2 #[.int .i64 (k' : Nat), a, c, v, r0, r1, r2, .slice none 0 0] rfl rfl _ _ hz2 (info8 _ _ _ _ _ _ _ _) rfl (all8 rfl (hone _ (by simp)) (hone _ (by simp)) (hone _ (by simp)) o0 o1 o2 rfl) (hK.out _ _ hS3 (fun _ => ?_))
   refine wpAnyH_done (by kernel_rfl) ?_ _
   have hrow : (w1.setRow g2 #[.int .i64 (k' : Nat), a, c, v, r0, r1, r2, .slice none 0 0]).heap[g2]? = some (.cells #[.int .i64 (k' : Nat), a, c, v, r0, r1, r2, .slice none 0 0] 193 (0, 0)) := setRow_heap _ _ _ _ _ _ hz2
   have hm3 := (hm.mono (S' := fun x => W.heap.size ≤ x ∧ x ≠ g2) fun x hx hx2 => by omega).keep hk3 (by intro x hx; simp; exact hx.2)
   go_wp2_with fail
   go_meet
   case rel => exact ⟨g2, [.int .i64 (k' : Nat), a, c, v], rfl, hm3, by rw [hrow, hro]; rfl, hg2W, hS3.2⟩
 case rest =>
  obtain ⟨g2, ds, rfl, hm, hz2, hg2W, hkx⟩ := hcut
  obtain ⟨w2, hw2⟩ : ∃ w2 : World, w2 = wc := ⟨_, rfl⟩
  subst hw2
  obtain ⟨hone, k', a, c, v, rfl, hmp⟩ := id hm.form
  have hz3 := (hkx.block g0 hg0W (by simp)).trans hz0
  have hr3 := (hkx.block g1 hg1W (by simp)).trans hr0
  have hkA := hk0.trans hkx
  have hrg := hl2 _ hz3
  clear hz0 hr0 hl1 hrW
  obtain ⟨gv, cv, fv, rfl, _⟩ := id hmp
  cases o with
  | none =>
   have r0 : w2.cell? ⟨g0, 258, none⟩ = some (.bool false) := hrg 0 _ rfl
   have hz2' : w2.heap[g2]? = some (.cells #[.int .i64 (k' : Nat), a, c, .slice (some ⟨gv, 0, none⟩) N cv, .bool false, .int .i64 0, .int .i64 0, .slice none 0 0] 193 (0, 0)) := hz2
   clear hz2 hrg hl2
   go_wp2_with (first | (refine wpList_load_row rfl 193 _ rfl g2 rfl _ _ _ _ hz2' Tryz.underlying193 rfl (info8 _ _ _ _ _ _ _ _) ?_) | (refine wpList_store_row rfl 193 _ _ rfl g1 #[.int .i64 (k' : Nat), a, c, .slice (some ⟨gv, 0, none⟩) N cv, .bool false, .int .i64 0, .int .i64 0, .slice none 0 0] rfl rfl _ _ hr3 (info8 _ _ _ _ _ _ _ _) rfl (all8 rfl (hone _ (by simp)) (hone _ (by simp)) rfl rfl rfl rfl rfl) ?_))
   refine bodyPost_ret (results_cell_row rfl _ _ g1 _ _ _ _ rfl (setRow_heap _ _ _ _ _ _ hr3) Tryz.underlying193 rfl (info8 _ _ _ _ _ _ _ _)) rfl ?_
   refine ⟨[.int .i64 (k' : Nat), a, c, .slice (some ⟨gv, 0, none⟩) N cv] ++ [.bool false, .int .i64 0, .int .i64 0, .slice none 0 0], rfl, ?_, hkA.setRow (Or.inr hg1w) _⟩
   exact .piece x _ ((hm.keep ((Keeps.refl [g1] w2).setRow (g := g1) (by simp) _) (by intro y hy; simp; omega)).mono fun y hy _ => by have := hk0.size; omega)
  | some p =>
   obtain ⟨mn, mx⟩ := p
   have r0 : w2.cell? ⟨g0, 258, none⟩ = some (.bool true) := hrg 0 _ rfl
   have r1 : w2.cell? ⟨g0, 259, none⟩ = some (.int .i64 mn) := hrg 1 _ rfl
   have r2 : w2.cell? ⟨g0, 260, none⟩ = some (.int .i64 mx) := hrg 2 _ rfl
   have hz2' : w2.heap[g2]? = some (.cells #[.int .i64 (k' : Nat), a, c, .slice (some ⟨gv, 0, none⟩) N cv, .bool true, .int .i64 mn, .int .i64 mx, .slice none 0 0] 193 (0, 0)) := hz2
   have hcv : w2.cell? ⟨g2, 3, none⟩ = some (.slice (some ⟨gv, 0, none⟩) N cv) := by rw [Lib.cell_of_heap hz2']; rfl
   have hmn : mn ≤ 5 := ho.1
   have hmx : -1 ≤ mx ∧ mx ≤ 5 := by rcases ho.2 with h | ⟨q, h, h'⟩ <;> omega
   have hff : mx < 0 ∨ (mn : Int) ≤ mx := hfair.1
   obtain ⟨K, HK⟩ : ∃ K, Hid (K = steps mn mx) := ⟨_, rfl⟩
   obtain ⟨M, HM⟩ : ∃ M, Hid (M = K + 1) := ⟨_, rfl⟩
   have hC := restsOf_any s.size N HN hs mn mx hmn hmx.1 hmx.2 hff K M HK HM gv cv (fun _ _ => Mt.le (x := x)) (fun i j h hi => by have := HN.out; have := Mt.inn (x := x) h (by omega); omega) w2 hmp
   clear hz2 hrg hl2 ho hy hfair
   go_wp2_with fail
   refine hC.mono ?_
   rintro e w3 ⟨gr, rfl, hR, hk3⟩
   have hzz := (hk3.block g2 (Array.getElem?_eq_some_iff.1 hz2').1 (by simp)).trans hz2'
   have hr4 := (hk3.block g1 (Array.getElem?_eq_some_iff.1 hr3).1 (by simp)).trans hr3
   have hm3 := hm.keep hk3 (by simp)
   have hg2l : g2 < w2.heap.size := (Array.getElem?_eq_some_iff.1 hz2').1
   have f7 : w3.frozen? ⟨g2, 7, none⟩ = false := by simp [World.frozen?, hzz]
   have c7 : w3.cell? ⟨g2, 7, none⟩ = some (.slice none 0 0) := by rw [Lib.cell_of_heap hzz]; rfl
   have hk5 : Keeps [g2] w3 (w3.setCell ⟨g2, 7, none⟩ (.slice (some ⟨gr, 0, none⟩) M M)) := (Keeps.refl [g2] w3).setCell (p := ⟨g2, 7, none⟩) (by simp) _
   have hz5 : (w3.setCell ⟨g2, 7, none⟩ (.slice (some ⟨gr, 0, none⟩) M M)).heap[g2]? = some (.cells #[.int .i64 (k' : Nat), a, c, .slice (some ⟨gv, 0, none⟩) N cv, .bool true, .int .i64 mn, .int .i64 mx, .slice (some ⟨gr, 0, none⟩) M M] 193 (0, 0)) := by simp [World.setCell, Array.getElem?_modify, hzz]
   have hr5 := (hk5.block g1 (by have := hk3.size; have := hkx.size; omega) (by simp; omega)).trans hr4
   have hm5 := hm3.keep hk5 (by intro y hy; simp; exact hy.2)
   have hR5 := (hR.mono (S' := fun y => W.heap.size ≤ y ∧ y ≠ g2) fun y hy _ => by have := hkx.size; omega).keep hk5 (by intro y hy; simp; exact hy.2)
   have hkB : Keeps [] w (w3.setCell ⟨g2, 7, none⟩ (.slice (some ⟨gr, 0, none⟩) M M)) := keepsM (hkA.trans hk3) hk5 (by intro y hy; simp at hy; subst hy; right; have := hk0.size; omega)
   clear hC hR hk3 hzz hr4 hm3 hk5 hm hmp hz2' r0 r1 r2 hcv hr3 hz3
   go_wp2_with (first | (refine wpList_load_row rfl 193 _ rfl g2 rfl _ _ _ _ hz5 Tryz.underlying193 rfl (info8 _ _ _ _ _ _ _ _) ?_) | (refine wpList_store_row rfl 193 _ _ rfl g1 #[.int .i64 (k' : Nat), a, c, .slice (some ⟨gv, 0, none⟩) N cv, .bool true, .int .i64 mn, .int .i64 mx, .slice (some ⟨gr, 0, none⟩) M M] rfl rfl _ _ hr5 (info8 _ _ _ _ _ _ _ _) rfl (all8 rfl (hone _ (by simp)) (hone _ (by simp)) rfl rfl rfl rfl rfl) ?_))
   refine bodyPost_ret (results_cell_row rfl _ _ g1 _ _ _ _ rfl (setRow_heap _ _ _ _ _ _ hr5) Tryz.underlying193 rfl (info8 _ _ _ _ _ _ _ _)) rfl ?_
   refine ⟨[.int .i64 (k' : Nat), a, c, .slice (some ⟨gv, 0, none⟩) N cv] ++ [.bool true, .int .i64 mn, .int .i64 mx, .slice (some ⟨gr, 0, none⟩) M M], rfl, ?_, hkB.setRow (Or.inr hg1w) _⟩
   have hkS := (Keeps.refl [g1] (w3.setCell ⟨g2, 7, none⟩ (.slice (some ⟨gr, 0, none⟩) M M))).setRow (g := g1) (by simp) #[.int .i64 (k' : Nat), a, c, .slice (some ⟨gv, 0, none⟩) N cv, .bool true, .int .i64 mn, .int .i64 mx, .slice (some ⟨gr, 0, none⟩) M M]
   have hMK : M = steps mn mx + 1 := by rw [HM.out, HK.out]
   rw [hMK] at hR5 hkS hm5 ⊢
   exact .rep mn mx x _ _ hmn hmx.1 hmx.2 hff ((hm5.keep hkS (by intro y hy; simp; omega)).mono fun y hy _ => by have := hk0.size; omega) ((hR5.keep hkS (by intro y hy; simp; omega)).mono fun y hy _ => by have := hk0.size; omega)
end Go.Proofs.YtnfojonmohijpabGreatDoor
namespace Go.Proofs.YtnfojonmohijpabGreatDoor
open Go.RowKit
theorem MP.slice {w : World} {S : Nat → Prop} {N : Nat} {v : Value} {R : Nat → Nat → Prop} (h : MP w S N v R) : ∃ g c, v = .slice (some ⟨g, 0, none⟩) N c := by
 obtain ⟨g, c, f, e, _⟩ := h
 exact ⟨g, c, e⟩
theorem Mk.piece_cells {w : World} {S : Nat → Prop} {s : ByteArray} {N : Nat} {y : Pat} {cs : List Value} (h : Mk w S s N .piece y cs) :
    (∃ k a c g cv, cs = [.int .i64 (k : Nat), a, c, .slice (some ⟨g, 0, none⟩) N cv, .bool false, .int .i64 0, .int .i64 0, .slice none 0 0] ∧ MP w S N (.slice (some ⟨g, 0, none⟩) N cv) (Mt s y) ∧ ∀ mn mx x, y ≠ .rep mn mx x) ∨
    (∃ k a c g cv, ∃ (mn : Nat) (mx : Int) (x : Pat) (r : Value), y = .rep mn mx x ∧ mn ≤ 5 ∧ -1 ≤ mx ∧ mx ≤ 5 ∧ (mx < 0 ∨ (mn : Int) ≤ mx) ∧ cs = [.int .i64 (k : Nat), a, c, .slice (some ⟨g, 0, none⟩) N cv, .bool true, .int .i64 mn, .int .i64 mx, r] ∧ MP w S N (.slice (some ⟨g, 0, none⟩) N cv) (Mt s x) ∧ RR w S N (steps mn mx + 1) r (Left (Mt s x) mn mx)) := by
 cases h with
 | piece _ cs h =>
  obtain ⟨_, k, a, c, v, rfl, hm⟩ := h.form
  obtain ⟨g, cv, rfl⟩ := hm.slice
  exact Or.inl ⟨k, a, c, g, cv, rfl, hm, by intro mn mx x e; subst e; cases h⟩
 | rep mn mx x cs r h1 h2 h3 h4 h hr =>
  obtain ⟨_, k, a, c, v, rfl, hm⟩ := h.form
  obtain ⟨g, cv, rfl⟩ := hm.slice
  exact Or.inr ⟨k, a, c, g, cv, mn, mx, x, r, rfl, h1, h2, h3, h4, rfl, hm, hr⟩
set_option maxRecDepth 100000 in
set_option maxHeartbeats 2000000 in
theorem can_any (s : ByteArray) (N : Nat) (y : Pat) (cs : List Value) (S : Nat → Prop) (w : World) (h : Mk w S s N .piece y cs) :
    Calls Tryz.prog 104 #[.agg cs.toArray] w fun e w' => ∃ g c, e = .returned (.slice (some ⟨g, 0, none⟩) N c) ∧ MP w' S N (.slice (some ⟨g, 0, none⟩) N c) (Mt s y) ∧ Keeps [] w w' := by
 rcases h.piece_cells with ⟨k, a, c, g, cv, rfl, hm, hnr⟩ | ⟨k, a, c, g, cv, mn, mx, x, r, rfl, h1, h2, h3, h4, rfl, hm, hr⟩
 ·have hz0 : (w.alloc (.cells #[.int .i64 (k : Nat), a, c, .slice (some ⟨g, 0, none⟩) N cv, .bool false, .int .i64 0, .int .i64 0, .slice none 0 0] 193)).heap[w.heap.size]? = some (.cells #[.int .i64 (k : Nat), a, c, .slice (some ⟨g, 0, none⟩) N cv, .bool false, .int .i64 0, .int .i64 0, .slice none 0 0] 193 (0, 0)) := heap_alloc_new w _
  have hk0 : Keeps [] w (w.alloc (.cells #[.int .i64 (k : Nat), a, c, .slice (some ⟨g, 0, none⟩) N cv, .bool false, .int .i64 0, .int .i64 0, .slice none 0 0] 193)) := (Keeps.refl [] w).alloc _
  have c4 : (w.alloc (.cells #[.int .i64 (k : Nat), a, c, .slice (some ⟨g, 0, none⟩) N cv, .bool false, .int .i64 0, .int .i64 0, .slice none 0 0] 193)).cell? ⟨w.heap.size, 4, none⟩ = some (.bool false) := by rw [Lib.cell_of_heap hz0]; rfl
  have c3 : (w.alloc (.cells #[.int .i64 (k : Nat), a, c, .slice (some ⟨g, 0, none⟩) N cv, .bool false, .int .i64 0, .int .i64 0, .slice none 0 0] 193)).cell? ⟨w.heap.size, 3, none⟩ = some (.slice (some ⟨g, 0, none⟩) N cv) := by rw [Lib.cell_of_heap hz0]; rfl
  have hm0 := hm.keep hk0 (by simp)
  clear hz0 hm h
  go_enter Tryz.func104, Tryz.ntmps104
  go_wp2_with fail
  go_ret
  exact ⟨g, cv, rfl, hm0, hk0⟩
 ·obtain ⟨gr, cr, u, rfl, hgr, hSr, hcu, hu⟩ := hr.at (d := 0) (by omega)
  obtain ⟨gu, cu, rfl⟩ := hu.slice
  have hz0 : (w.alloc (.cells #[.int .i64 (k : Nat), a, c, .slice (some ⟨g, 0, none⟩) N cv, .bool true, .int .i64 mn, .int .i64 mx, .slice (some ⟨gr, 0, none⟩) (steps mn mx + 1) cr] 193)).heap[w.heap.size]? = some (.cells #[.int .i64 (k : Nat), a, c, .slice (some ⟨g, 0, none⟩) N cv, .bool true, .int .i64 mn, .int .i64 mx, .slice (some ⟨gr, 0, none⟩) (steps mn mx + 1) cr] 193 (0, 0)) := heap_alloc_new w _
  have hk0 : Keeps [] w (w.alloc (.cells #[.int .i64 (k : Nat), a, c, .slice (some ⟨g, 0, none⟩) N cv, .bool true, .int .i64 mn, .int .i64 mx, .slice (some ⟨gr, 0, none⟩) (steps mn mx + 1) cr] 193)) := (Keeps.refl [] w).alloc _
  have c4 : (w.alloc (.cells #[.int .i64 (k : Nat), a, c, .slice (some ⟨g, 0, none⟩) N cv, .bool true, .int .i64 mn, .int .i64 mx, .slice (some ⟨gr, 0, none⟩) (steps mn mx + 1) cr] 193)).cell? ⟨w.heap.size, 4, none⟩ = some (.bool true) := by rw [Lib.cell_of_heap hz0]; rfl
  have c7 : (w.alloc (.cells #[.int .i64 (k : Nat), a, c, .slice (some ⟨g, 0, none⟩) N cv, .bool true, .int .i64 mn, .int .i64 mx, .slice (some ⟨gr, 0, none⟩) (steps mn mx + 1) cr] 193)).cell? ⟨w.heap.size, 7, none⟩ = some (.slice (some ⟨gr, 0, none⟩) (steps mn mx + 1) cr) := by rw [Lib.cell_of_heap hz0]; rfl
  have hcu0 := (World.cell?_of_block (hk0.block gr hgr (by simp))).trans hcu
  have hm0 : MP (w.alloc (.cells #[.int .i64 (k : Nat), a, c, .slice (some ⟨g, 0, none⟩) N cv, .bool true, .int .i64 mn, .int .i64 mx, .slice (some ⟨gr, 0, none⟩) (steps mn mx + 1) cr] 193)) S N (.slice (some ⟨gu, 0, none⟩) N cu) (Mt s (.rep mn mx x)) := hu.keep hk0 (by simp)
  obtain ⟨M, hM⟩ : ∃ M, M = steps mn mx + 1 := ⟨_, rfl⟩
  have hM0 : (0 : Int) < (M : Int) := by omega
  clear hz0 hm h hr hcu hu
  rw [← hM] at c4 c7 hcu0 hm0 hk0 ⊢
  clear hM
  go_enter Tryz.func104, Tryz.ntmps104
  go_wp2_with fail
  go_ret
  exact ⟨gu, cu, rfl, hm0, hk0⟩
set_option maxRecDepth 100000 in
set_option maxHeartbeats 2000000 in
theorem rest_any (s : ByteArray) (N : Nat) (mn : Nat) (mx : Int) (x : Pat) (cs : List Value) (S : Nat → Prop) (w : World) (h : Mk w S s N .piece (.rep mn mx x) cs) (d : Nat) (hd : d ≤ 200) :
    Calls Tryz.prog 131 #[.agg cs.toArray, .int .i64 d] w fun e w' => ∃ g c, e = .returned (.slice (some ⟨g, 0, none⟩) N c) ∧ MP w' S N (.slice (some ⟨g, 0, none⟩) N c) (Left (Mt s x) mn mx d) ∧ Keeps [] w w' := by
 rcases h.piece_cells with ⟨k, a, c, g, cv, rfl, hm, hnr⟩ | ⟨k, a, c, g, cv, mn', mx', x', r, e, h1, h2, h3, h4, rfl, hm, hr⟩
 ·exact absurd rfl (hnr mn mx x)
 ·cases e
  obtain ⟨t, ht⟩ : ∃ t, t = min d (steps mn mx) := ⟨_, rfl⟩
  obtain ⟨gr, cr, u, rfl, hgr, hSr, hcu, hu⟩ := hr.at (d := t) (by omega)
  obtain ⟨gu, cu, rfl⟩ := hu.slice
  have hz0 : (w.alloc (.cells #[.int .i64 (k : Nat), a, c, .slice (some ⟨g, 0, none⟩) N cv, .bool true, .int .i64 mn, .int .i64 mx, .slice (some ⟨gr, 0, none⟩) (steps mn mx + 1) cr] 193)).heap[w.heap.size]? = some (.cells #[.int .i64 (k : Nat), a, c, .slice (some ⟨g, 0, none⟩) N cv, .bool true, .int .i64 mn, .int .i64 mx, .slice (some ⟨gr, 0, none⟩) (steps mn mx + 1) cr] 193 (0, 0)) := heap_alloc_new w _
  have hk0 : Keeps [] w (w.alloc (.cells #[.int .i64 (k : Nat), a, c, .slice (some ⟨g, 0, none⟩) N cv, .bool true, .int .i64 mn, .int .i64 mx, .slice (some ⟨gr, 0, none⟩) (steps mn mx + 1) cr] 193)) := (Keeps.refl [] w).alloc _
  have c7 : (w.alloc (.cells #[.int .i64 (k : Nat), a, c, .slice (some ⟨g, 0, none⟩) N cv, .bool true, .int .i64 mn, .int .i64 mx, .slice (some ⟨gr, 0, none⟩) (steps mn mx + 1) cr] 193)).cell? ⟨w.heap.size, 7, none⟩ = some (.slice (some ⟨gr, 0, none⟩) (steps mn mx + 1) cr) := by rw [Lib.cell_of_heap hz0]; rfl
  have hcu0 := (World.cell?_of_block (hk0.block gr hgr (by simp))).trans hcu
  have hm0 : MP (w.alloc (.cells #[.int .i64 (k : Nat), a, c, .slice (some ⟨g, 0, none⟩) N cv, .bool true, .int .i64 mn, .int .i64 mx, .slice (some ⟨gr, 0, none⟩) (steps mn mx + 1) cr] 193)) S N (.slice (some ⟨gu, 0, none⟩) N cu) (Left (Mt s x) mn mx d) := by
   refine (hu.keep hk0 (by simp)).congr fun i j _ _ => ?_
   rw [ht]
   rcases Nat.le_total d (steps mn mx) with h | h
   ·rw [Nat.min_eq_left h]
   ·rw [Nat.min_eq_right h]
    refine (Left.past h ?_).symm
    unfold steps
    split <;> omega
  obtain ⟨M, hM⟩ : ∃ M, M = steps mn mx + 1 := ⟨_, rfl⟩
  have hs5 : steps mn mx ≤ 5 := by unfold steps; split <;> omega
  have hM6 : (M : Int) ≤ 6 := by omega
  have hM1 : (1 : Int) ≤ (M : Int) := by omega
  have hd0 : (0 : Int) ≤ (d : Int) := by omega
  have ht0 : (0 : Int) ≤ (t : Int) := by omega
  have ht1 : (t : Int) < (M : Int) := by omega
  have hmin : min (d : Int) ((M : Int) - 1) = (t : Int) := by omega
  clear hz0 hm h hr hcu hu ht hs5
  rw [← hM] at c7 hcu0 hm0 hk0 ⊢
  clear hM
  go_enter Tryz.func131, Tryz.ntmps131
  go_wp2_with fail
  go_ret
  exact ⟨gu, cu, rfl, hm0, hk0⟩
end Go.Proofs.YtnfojonmohijpabGreatDoor
namespace Go.Proofs.YtnfojonmohijpabGreatDoor
open Go.RowKit
theorem wp_make_full {P : Program} (w : World) {o : Oper} {a : Act} {K : Act → World → Prop} {Q : Exit → Act → World → Prop}
    (d : Option Tmp) (hd : o.dst = d) (l c : Operand) (t : TypeId) (hop : o.op = Op.makeSlice t l c)
    (base : Nat) (e : TypeId) (i : TypeInfo) (z : Value) (size : Nat) (h1 : P.underlying t = some (.slice e)) (h2 : P.info? e = some i) (h3 : i.zero = some z) (h4 : i.size = size)
    (kl kc : IntKind) (L C : Int) (n : Nat) (hl : a.eval l = .int kl L) (hc : a.eval c = .int kc C) (hL : L = (n : Int)) (hC : C = (n : Int)) (b2 : i.bytes * n ≤ 281474976710656) (b3 : n ≤ maxLen) (b4 : base ≤ w.heap.size)
    (hK : ∀ w', w'.ownsRow base e size (.slice (some ⟨w.heap.size, 0, none⟩) n n) n (madeCells z.cells (n * size)).toList → w.grownBy w' none → K (a.put d (.slice (some ⟨w.heap.size, 0, none⟩) n n)) w') :
    o.wp P a w K Q := by
 subst hd
 obtain ⟨w', hrun, r1, r2⟩ := run_make_full (P := P) w base t e i z size h1 h2 h3 h4 kl kc n b2 b3 b4
 subst hL
 subst hC
 unfold Oper.wp
 simp [execOp, hop, hl, hc, hrun, Result.andThen]
 exact hK w' r1 r2
theorem wpAnyH_tk {P : Program} {ops : Array Oper} {Q : Exit → Act → World → Prop} {md : Region.Mode} {S : World → Prop} (i : Nat) (oi : Oper) (d : Option Tmp) (v : Value) {fuel : Nat} {listed : Array Bool} {a : Act} {w : World} (hi : ops[i]? = some oi) (hd : oi.dst = d)
    (hs : Region.noSelect ops = true) (hf : Region.free md ops listed i = true) (hr : (Region.ready md ops listed).contains i = true)
    (hQ : ∀ c a w, Q (.panic c) (a.put d v) w → Q (.panic c) a w) (hy : YieldsIf P ops S oi v a) (hS : S w)
    (h : wpAnyH P md ops Q S fuel (listed.setIfInBounds i true) (a.put d v) w) : wpAnyH P md ops Q S (fuel + 1) listed a w := by
 subst hd
 exact wpAnyH_take hi hs hf hr hQ hy hS h
theorem wp_store_midD {P : Program} {op : Oper} {a : Act} {w : World} {K : Act → World → Prop} {Q : Exit → Act → World → Prop} (hd : op.dst = none) (ty : TypeId) (x y : Operand) (ho : op.op = .store ty x y)
    (b o : Nat) (cells : Array Value) (hx : a.eval x = .pointer (some ⟨b, o, none⟩)) (hy : a.eval y = .agg cells)
    (ht : w.there b o cells.size) (hi : (P.info? ty).map (·.size) = some cells.size) (h1 : cells.all (·.oneCell') = true)
    (h : K (a.put none undef) (w.setCells b o cells.toList)) : op.wp P a w K Q := by
 rw [← hd] at h
 exact wp_store_mid ty x y ho b o cells hx hy ht hi h1 h
theorem wrap_small {z : Int} (h0 : 0 ≤ z) (h1 : z ≤ 1000000) : IntKind.i64.wrap z = z := by
 have h2 : z % 18446744073709551616 = z := by omega
 have : IntKind.i64.wrap z = if 9223372036854775808 ≤ z % 18446744073709551616 then z % 18446744073709551616 - 18446744073709551616 else z % 18446744073709551616 := by simp [IntKind.wrap, IntKind.bits, IntKind.signed]
 rw [this, h2, if_neg (by omega)]
theorem infoPc : (Tryz.prog.info? 193).map (fun i => (i.zero, i.size, i.bytes)) = some (some (.agg #[.int .i64 0, .slice none 0 0, .slice none 0 0, .slice none 0 0, .bool false, .int .i64 0, .int .i64 0, .slice none 0 0]), 8, 128) := by kernel_rfl
theorem infoWy (a b : Value) : (Tryz.prog.info? 150).map (·.size) = some (#[a, b] : Array Value).size := by kernel_rfl
structure WM (W wx : World) (n M gm gp gr : Nat) : Prop where
 made : wx.heap[gm]? = some (.cells #[.slice (some ⟨gp, 0, none⟩) n n, .slice (some ⟨gr, 0, none⟩) M M] 150 (0, 0))
 prow : ∃ zs, wx.ownsRow 0 193 8 (.slice (some ⟨gp, 0, none⟩) n n) n zs
 rrow : ∃ zs, wx.ownsRow 0 63 1 (.slice (some ⟨gr, 0, none⟩) M M) M zs
 mp : gm ≠ gp
 mr : gm ≠ gr
 pr : gp ≠ gr
 lm : W.heap.size ≤ gm
 lp : W.heap.size ≤ gp
 lr : W.heap.size ≤ gr
 keep : Keeps [] W wx
def WayIn (w : World) (S : Nat → Prop) (x : Pat) (v : Value) : Prop :=
 ∃ cs, Rep w S .plist x cs ∧ ∃ va n vc, v = .slice va n vc ∧ n = (pl x).length ∧ n ≤ 1000 ∧ w.ownsRow 0 180 261 v n cs
theorem pl_len : ∀ (x : Pat), (pl x).length ≤ x.sz
 | .pcons x r => by have := pl_len r; simp only [pl, List.length_cons, Pat.sz]; omega
 | .set _ => Nat.zero_le _
 | .grp _ _ => Nat.zero_le _
 | .rep _ _ _ => Nat.zero_le _
 | .pnil => Nat.zero_le _
 | .wone _ => Nat.zero_le _
 | .wcons _ _ => Nat.zero_le _
theorem Rep.wayIn {w : World} {S : Nat → Prop} {x : Pat} {v : Value} (h : Rep w S .way x [v]) (hx : x.sz ≤ 1000) : WayIn w S x v := by
 cases h with
 | way _ cs _ n hp ho _ =>
  obtain ⟨va, vn, vc, rfl⟩ := ownsRow_sl ho
  have h1 := ho.1
  have h2 := hp.pl_text.2.1
  have h3 := pl_len x
  have h4 : vn = n := by
   rcases ho.2 with ⟨e, e2⟩ | ⟨g, cap, cur, e, _⟩
   ·cases e
    exact e2.symm
   ·cases e
    rfl
  subst h4
  exact ⟨cs, hp, va, vn, vc, rfl, by omega, by omega, ho⟩
theorem pdrop_end {w : World} {S : Nat → Prop} {x : Pat} {cs : List Value} (h : Rep w S .plist x cs) : pdrop (pl x).length x = .pnil ∧ ∀ (i : Nat) (y : Pat), (pl x)[i]? = some y → pdrop i x = .pcons y (pdrop (i + 1) x) := by
 generalize hk : Kr.plist = kk at h
 induction h with
 | pnil => exact ⟨rfl, by intro i y hy; simp [pl] at hy⟩
 | pcons x r cs ds _ _ _ ih =>
  obtain ⟨a, b⟩ := ih rfl
  refine ⟨by simp only [pl, List.length_cons, pdrop]; exact a, ?_⟩
  intro i y hy
  cases i with
  | zero => simp [pl] at hy; subst hy; rfl
  | succ i => simp only [pdrop]; exact b i y (by simpa [pl] using hy)
 | _ => cases hk
theorem pfair {x : Pat} : ∀ {i : Nat} {y : Pat}, x.fair 9 → (pl x)[i]? = some y → y.fair 9 := by
 induction x with
 | pcons x r _ ih =>
  intro i y h hy
  cases i with
  | zero => simp [pl] at hy; subst hy; exact h.1
  | succ i => exact ih h.2 (by simpa [pl] using hy)
 | _ => intro i y _ hy; simp [pl] at hy
def over : List Value → Nat → List Value → List Value
 | xs, _, [] => xs
 | xs, o, v :: r => over (xs.set o v) (o + 1) r
theorem over_len : ∀ (vs xs : List Value) (o : Nat), (over xs o vs).length = xs.length
 | [], _, _ => rfl
 | v :: r, xs, o => by simp only [over]; rw [over_len]; simp
theorem over_drop : ∀ (vs xs : List Value) (o : Nat), o + vs.length ≤ xs.length → (over xs o vs).drop o = vs ++ xs.drop (o + vs.length)
 | [], xs, o, _ => by simp [over]
 | v :: r, xs, o, h => by
  simp only [over, List.length_cons] at *
  have ih := over_drop r (xs.set o v) (o + 1) (by simp; omega)
  have hl : (over (xs.set o v) (o + 1) r).length = xs.length := by rw [over_len]; simp
  have e0 : (over (xs.set o v) (o + 1) r)[o]? = some v := by
   have : ∀ (vs xs : List Value) (p q : Nat), q < p → (over xs p vs)[q]? = xs[q]? := by
    intro vs
    induction vs with
    | nil => intro xs p q _; rfl
    | cons u vs ih => intro xs p q hq; simp only [over]; rw [ih _ _ _ (by omega), List.getElem?_set_ne (by omega)]
   rw [this _ _ _ _ (by omega), List.getElem?_set_self (by omega)]
  rw [List.drop_eq_getElem_cons (by omega)]
  have e1 : (over (xs.set o v) (o + 1) r)[o]'(by omega) = v := by
   have := List.getElem?_eq_getElem (l := over (xs.set o v) (o + 1) r) (i := o) (by omega)
   rw [e0] at this
   exact (Option.some.inj this).symm
  rw [e1, ih, List.drop_set_of_lt (by omega)]
  have e2 : o + 1 + r.length = o + (r.length + 1) := by omega
  rw [e2]
  rfl
theorem ownsOver {g cap n size : Nat} {e : TypeId} : ∀ (vs : List Value) (w : World) (xs : List Value) (o : Nat), w.ownsRow 0 e size (.slice (some ⟨g, 0, none⟩) n cap) n xs → (w.setCells g o vs).ownsRow 0 e size (.slice (some ⟨g, 0, none⟩) n cap) n (over xs o vs)
 | [], _, _, _, h => h
 | v :: r, w, xs, o, h => by
  simp only [World.setCells, over]
  exact ownsOver r _ _ _ (World.ownsRow.stored h o v).1
theorem Keeps.setCells {S : List Nat} {a : World} {g : Nat} (hg : g ∈ S ∨ a.heap.size ≤ g) : ∀ (vs : List Value) (w : World) (o : Nat), Keeps S a w → Keeps S a (w.setCells g o vs)
 | [], _, _, h => h
 | v :: r, w, o, h => by
  simp only [World.setCells]
  exact Keeps.setCells hg r _ _ (h.setCell (p := ⟨g, o, none⟩) hg v)
theorem WM.of {W X : World} {n M gm gp gr : Nat} {zp zr : List Value} (hm : X.heap[gm]? = some (.cells #[.slice none 0 0, .slice none 0 0] 150 (0, 0))) (hp : X.ownsRow 0 193 8 (.slice (some ⟨gp, 0, none⟩) n n) n zp)
    (hr : X.ownsRow 0 63 1 (.slice (some ⟨gr, 0, none⟩) M M) M zr) (h1 : gm ≠ gp) (h2 : gm ≠ gr) (h3 : gp ≠ gr) (l1 : W.heap.size ≤ gm) (l2 : W.heap.size ≤ gp) (l3 : W.heap.size ≤ gr) (hk : Keeps [] W X) :
    WM W (X.setRow gm #[.slice (some ⟨gp, 0, none⟩) n n, .slice (some ⟨gr, 0, none⟩) M M]) n M gm gp gr := by
 have hk2 : Keeps [gm] X (X.setRow gm #[.slice (some ⟨gp, 0, none⟩) n n, .slice (some ⟨gr, 0, none⟩) M M]) := (Keeps.refl [gm] X).setRow (g := gm) (by simp) _
 exact ⟨setRow_heap _ _ _ _ _ _ hm, ⟨zp, hp.keep hk2 (by intro x hx; simp only [Value.ownBlock, Option.some.injEq] at hx; simp; omega)⟩, ⟨zr, hr.keep hk2 (by intro x hx; simp only [Value.ownBlock, Option.some.injEq] at hx; simp; omega)⟩, h1, h2, h3, l1, l2, l3, hk.setRow (Or.inr l1) _⟩
theorem wayCells {w : World} {g : Nat} {a b : Value} (h : w.heap[g]? = some (.cells #[a, b] 150 (0, 0))) : w.cell? ⟨g, 0, none⟩ = some a ∧ w.cell? ⟨g, 1, none⟩ = some b := by
 constructor <;> (rw [Lib.cell_of_heap h]; rfl)
theorem WM.rlt {W V : World} {n M gm gp gr : Nat} (h : WM W V n M gm gp gr) : gr < V.heap.size := by
 obtain ⟨zs, ho⟩ := h.rrow
 exact (World.ownsRow.lt ho gr rfl).2
theorem WM.plt {W V : World} {n M gm gp gr : Nat} (h : WM W V n M gm gp gr) : gp < V.heap.size := by
 obtain ⟨zs, ho⟩ := h.prow
 exact (World.ownsRow.lt ho gp rfl).2
structure WL (V wr : World) (s : ByteArray) (N : Nat) (x : Pat) (n M gp gr dp dr : Nat) : Prop where
 keep : Keeps [gp, gr] V wr
 prow : ∃ zs, wr.ownsRow 0 193 8 (.slice (some ⟨gp, 0, none⟩) n n) n zs ∧ Mk wr (fun y => V.heap.size ≤ y) s N .plist (pdrop dp x) (zs.drop (dp * 8))
 rrow : ∃ vs, wr.ownsRow 0 63 1 (.slice (some ⟨gr, 0, none⟩) M M) M vs ∧ ∀ e, dr ≤ e → e < M → ∃ u, vs[e]? = some u ∧ MP wr (fun y => V.heap.size ≤ y) N u (Mt s (pdrop e x))
theorem WL.start {W V w : World} {S : Nat → Prop} {s : ByteArray} {N n M gm gp gr : Nat} {x : Pat} {cs : List Value} (HN : Hid (N = s.size + 1)) (HM : Hid (M = n + 1)) (HNP : Hid (n = (pl x).length)) (hpl : Rep w S .plist x cs) (h : WM W V n M gm gp gr) : WL V V s N x n M gp gr n M := by
 obtain ⟨zs, hz⟩ := h.prow
 obtain ⟨vs, hv⟩ := h.rrow
 refine ⟨Keeps.refl _ _, ⟨zs, hz, ?_⟩, ⟨vs, hv, fun e h1 h2 => by omega⟩⟩
 have h1 : zs.length = n * 8 := hz.1
 rw [HNP.out, (pdrop_end hpl).1, ← HNP.out, ← h1, List.drop_length]
 exact .pnil
theorem WL.keeps {V wr w' : World} {s : ByteArray} {N n M gp gr dp dr : Nat} {x : Pat} (h : WL V wr s N x n M gp gr dp dr) (hk : Keeps [] wr w') : WL V w' s N x n M gp gr dp dr := by
 obtain ⟨zs, hz, hm⟩ := h.prow
 obtain ⟨vs, hv, hr⟩ := h.rrow
 refine ⟨h.keep.trans (hk.mono (by simp)), ⟨zs, hz.keep hk (by simp), hm.keep hk (by simp)⟩, ⟨vs, hv.keep hk (by simp), fun e h1 h2 => ?_⟩⟩
 obtain ⟨u, a, b⟩ := hr e h1 h2
 exact ⟨u, a, b.keep hk (by simp)⟩
theorem WL.rcell {V wr : World} {s : ByteArray} {N n M gp gr dp dr : Nat} {x : Pat} (h : WL V wr s N x n M gp gr dp dr) {e : Nat} (he : e < M) : (∃ u, wr.cell? ⟨gr, e, none⟩ = some u) ∧ wr.frozen? ⟨gr, e, none⟩ = false := by
 obtain ⟨vs, a, _⟩ := h.rrow
 have hl : vs.length = M := by have := a.1; omega
 exact ⟨⟨vs[e]'(by omega), by rw [World.ownsRow.cellAt a e (by omega), List.getElem?_eq_getElem]⟩, World.ownsRow.frozenAt a e⟩
theorem WL.rat {V wr : World} {s : ByteArray} {N n M gp gr dp dr : Nat} {x : Pat} (h : WL V wr s N x n M gp gr dp dr) {e : Nat} (hd : dr ≤ e) (he : e < M) : ∃ u, wr.cell? ⟨gr, e, none⟩ = some u ∧ MP wr (fun y => V.heap.size ≤ y) N u (Mt s (pdrop e x)) := by
 obtain ⟨vs, a, b⟩ := h.rrow
 obtain ⟨u, x, y⟩ := b e hd he
 exact ⟨u, (World.ownsRow.cellAt a e (by omega)).trans x, y⟩
theorem WL.pthere {V wr : World} {s : ByteArray} {N n M gp gr dp dr : Nat} {x : Pat} (h : WL V wr s N x n M gp gr dp dr) {i : Nat} (hi : i < n) : wr.there gp (i * 8) 8 := by
 obtain ⟨zs, a, _⟩ := h.prow
 have hl : zs.length = n * 8 := a.1
 intro j hj
 exact ⟨by rw [World.ownsRow.cellAt a (i * 8 + j) (by omega), List.getElem?_eq_getElem (by omega)]; rfl, World.ownsRow.frozenAt a _⟩
theorem WL.putR {V wr : World} {s : ByteArray} {N n M gp gr dp D d : Nat} {x : Pat} (h : WL V wr s N x n M gp gr dp D) (hD : D ≤ d + 1) (hd : d < M) {u : Value} (hu : MP wr (fun y => V.heap.size ≤ y) N u (Mt s (pdrop d x))) (hr : gr < V.heap.size) (hpr : gp ≠ gr) : WL V (wr.setCell ⟨gr, d, none⟩ u) s N x n M gp gr dp d := by
 obtain ⟨zs, hz, hm⟩ := h.prow
 obtain ⟨vs, hv, hb⟩ := h.rrow
 have hl : vs.length = M := by have := hv.1; omega
 have hk : Keeps [gr] wr (wr.setCell ⟨gr, d, none⟩ u) := (Keeps.refl [gr] wr).setCell (p := ⟨gr, d, none⟩) (by simp) _
 have hS : ∀ y, (fun y => V.heap.size ≤ y) y → y ∉ [gr] := by intro y hy; simp at hy ⊢; omega
 refine ⟨h.keep.trans (hk.mono (by simp)), ⟨zs, hz.keep hk (by intro y hy; simp only [Value.ownBlock, Option.some.injEq] at hy; simp; omega), hm.keep hk hS⟩, ⟨vs.set d u, (World.ownsRow.stored hv d u).1, fun e h1 h2 => ?_⟩⟩
 by_cases e1 : e = d
 ·subst e1
  exact ⟨u, by rw [List.getElem?_set_self (by omega)], hu.keep hk hS⟩
 ·obtain ⟨v, x, y⟩ := hb e (by omega) h2
  exact ⟨v, by rw [List.getElem?_set_ne (by omega)]; exact x, y.keep hk hS⟩
theorem WL.putP {V wr : World} {s : ByteArray} {N n M gp gr d dr : Nat} {x y : Pat} {ds : List Value} (h : WL V wr s N x n M gp gr (d + 1) dr) (hd : d < n) (hy : Mk wr (fun z => V.heap.size ≤ z) s N .piece y ds) (hx : pdrop d x = .pcons y (pdrop (d + 1) x)) (hp : gp < V.heap.size) (hpr : gp ≠ gr) :
    WL V (wr.setCells gp (d * 8) ds) s N x n M gp gr d dr := by
 obtain ⟨zs, hz, hm⟩ := h.prow
 obtain ⟨vs, hv, hb⟩ := h.rrow
 have hl8 : ds.length = 8 := hy.form.2
 have hl : zs.length = n * 8 := hz.1
 have hk : Keeps [gp] wr (wr.setCells gp (d * 8) ds) := Keeps.setCells (by simp) ds wr _ (Keeps.refl [gp] wr)
 have hS : ∀ y, (fun y => V.heap.size ≤ y) y → y ∉ [gp] := by intro y hy; simp at hy ⊢; omega
 refine ⟨h.keep.trans (hk.mono (by simp)), ⟨over zs (d * 8) ds, ownsOver ds _ _ _ hz, ?_⟩, ⟨vs, hv.keep hk (by intro y hy; simp only [Value.ownBlock, Option.some.injEq] at hy; simp; omega), fun e h1 h2 => ?_⟩⟩
 ·rw [over_drop _ _ _ (by omega), hx, hl8, show d * 8 + 8 = (d + 1) * 8 by omega]
  exact .pcons _ _ _ _ (hy.keep hk hS) (hm.keep hk hS)
 ·obtain ⟨v, x, y⟩ := hb e h1 h2
  exact ⟨v, x, y.keep hk hS⟩
end Go.Proofs.YtnfojonmohijpabGreatDoor
