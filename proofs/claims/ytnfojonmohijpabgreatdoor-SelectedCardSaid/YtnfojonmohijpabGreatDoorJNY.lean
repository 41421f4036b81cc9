/-
  DERIVED. The program's treeOfPiece, over treeOfSingle and slices.Repeat. Conditions: the stretch is one that matches.
-/
import Derived.Test.YtnfojonmohijpabGreatDoorJNX
set_option linter.unusedSimpArgs false
set_option linter.unusedVariables false
namespace Go.Proofs.YtnfojonmohijpabGreatDoor
open Go.RowKit
def RepeatOk : Prop := ∀ (cs : List Value) (k g c : Nat) (w : World), cs.length = 3 → (∀ u ∈ cs, u.oneCell' = true) → 1 ≤ k → k ≤ 5 → w.ownsRow 0 75 3 (.slice (some ⟨g, 0, none⟩) 1 c) 1 cs →
 Calls Tryz.prog 132 #[.slice (some ⟨g, 0, none⟩) 1 c, .int .i64 k] w fun e w' => ∃ g', e = .returned (.slice (some ⟨g', 0, none⟩) k k) ∧ w'.ownsRow 0 75 3 (.slice (some ⟨g', 0, none⟩) k k) k (List.replicate k cs).flatten ∧ w.heap.size ≤ g' ∧ Keeps [] w w'
theorem infoSgM : (Tryz.prog.info? 191).map (·.size) = some 4 := by kernel_rfl
theorem piece_at {w : World} {g : Nat} {a b c d e f k l : Value} (h : w.heap[g]? = some (.cells #[a, b, c, d, e, f, k, l] 193 (0, 0))) : w.cell? ⟨g, 3, none⟩ = some d ∧ w.cell? ⟨g, 4, none⟩ = some e ∧ w.cell? ⟨g, 5, none⟩ = some f ∧ w.rangeAt g 0 [a, b, c, d] := by
 refine ⟨by rw [Lib.cell_of_heap h]; rfl, by rw [Lib.cell_of_heap h]; rfl, by rw [Lib.cell_of_heap h]; rfl, ?_⟩
 intro j v hv
 match j, hv with
 | 0, hv => simp at hv; subst hv; rw [Lib.cell_of_heap h]; rfl
 | 1, hv => simp at hv; subst hv; rw [Lib.cell_of_heap h]; rfl
 | 2, hv => simp at hv; subst hv; rw [Lib.cell_of_heap h]; rfl
 | 3, hv => simp at hv; subst hv; rw [Lib.cell_of_heap h]; rfl
theorem Mk.single_of {w : World} {S : Nat → Prop} {s : ByteArray} {N : Nat} {y : Pat} {ds : List Value} (h : Mk w S s N .piece y ds) : ∃ x cs rs, ds = cs ++ rs ∧ Mk w S s N .single x cs ∧ (y = x ∨ ∃ mn mx, y = .rep mn mx x) := by
 cases h with
 | piece _ cs h => exact ⟨y, cs, _, rfl, h, Or.inl rfl⟩
 | rep mn mx x cs v _ _ _ _ h _ => exact ⟨x, cs, _, rfl, h, Or.inr ⟨mn, mx, rfl⟩⟩
set_option maxRecDepth 100000 in
set_option maxHeartbeats 4000000 in
theorem treeOfPiece_any (s : ByteArray) (N : Nat) (HN : Hid (N = s.size + 1)) (hs : s.size ≤ 100) (n : Nat) (IS : TSingle s N n) (RO : RepeatOk) : TPiece s N n := by
 intro y hy w S ds m i j hm hM hij hj hmt
 obtain ⟨m0, m1, m2, m3, m5, m6, rfl, o0, o1, o2, o3, o5, o6⟩ := hM.ok
 obtain ⟨x, cs, rs, hds, hmx, hyx⟩ := hm.single_of
 have hal := hm.form.1
 rcases hm.piece_cells with ⟨k, a, c, g, cv, rfl, hmp, hnr⟩ | ⟨k, a, c, g, cv, mn, mx, x', r, rfl, b1, b2, b3, b4, rfl, hmp, hr⟩
 ·have hyx' : y = x := by
     rcases hyx with h | ⟨mn, mx, h⟩
     ·exact h
     ·exact absurd h (hnr mn mx x)
  subst hyx'
  obtain ⟨_, k', a', c', v', rfl, _⟩ := hmx.form
  simp only [List.cons_append, List.nil_append, List.cons.injEq] at hds
  obtain ⟨q1, rfl, rfl, rfl, rfl⟩ := hds
  rw [← q1] at hmx
  clear q1
  have hk0 := keeps3 w (.cells #[m0, m1, m2, m3, .string s, m5, m6] 67) (.cells #[.int .i64 (k : Nat), a, c, .slice (some ⟨g, 0, none⟩) N cv, .bool false, .int .i64 0, .int .i64 0, .slice none 0 0] 193) (.cells #[.int .u8 0, .int .i64 0, .slice none 0 0] 75)
  have h0 := heap3_0 w (.cells #[m0, m1, m2, m3, .string s, m5, m6] 67) (.cells #[.int .i64 (k : Nat), a, c, .slice (some ⟨g, 0, none⟩) N cv, .bool false, .int .i64 0, .int .i64 0, .slice none 0 0] 193) (.cells #[.int .u8 0, .int .i64 0, .slice none 0 0] 75)
  have h1 := heap3_1 w (.cells #[m0, m1, m2, m3, .string s, m5, m6] 67) (.cells #[.int .i64 (k : Nat), a, c, .slice (some ⟨g, 0, none⟩) N cv, .bool false, .int .i64 0, .int .i64 0, .slice none 0 0] 193) (.cells #[.int .u8 0, .int .i64 0, .slice none 0 0] 75)
  have h2 := heap3_2 w (.cells #[m0, m1, m2, m3, .string s, m5, m6] 67) (.cells #[.int .i64 (k : Nat), a, c, .slice (some ⟨g, 0, none⟩) N cv, .bool false, .int .i64 0, .int .i64 0, .slice none 0 0] 193) (.cells #[.int .u8 0, .int .i64 0, .slice none 0 0] 75)
  go_enter Tryz.func110, Tryz.ntmps110
  go_upto_region 1 with (fail)
  generalize (((w.alloc (.cells #[m0, m1, m2, m3, .string s, m5, m6] 67)).alloc (.cells #[.int .i64 (k : Nat), a, c, .slice (some ⟨g, 0, none⟩) N cv, .bool false, .int .i64 0, .int .i64 0, .slice none 0 0] 193)).alloc (.cells #[.int .u8 0, .int .i64 0, .slice none 0 0] 75)) = X at *
  obtain ⟨g0, e0⟩ : ∃ g, g = w.heap.size := ⟨_, rfl⟩
  obtain ⟨g1, e1⟩ : ∃ g, g = w.heap.size + 1 := ⟨_, rfl⟩
  obtain ⟨g2, e2⟩ : ∃ g, g = w.heap.size + 2 := ⟨_, rfl⟩
  rw [← e2] at h2 ⊢
  rw [← e1] at h1 ⊢
  rw [← e0] at h0 ⊢
  have hg2w : w.heap.size ≤ g2 := by omega
  have hg2X : g2 < X.heap.size := (Array.getElem?_eq_some_iff.1 h2).1
  have hg1X : g1 < X.heap.size := (Array.getElem?_eq_some_iff.1 h1).1
  have hg0X : g0 < X.heap.size := (Array.getElem?_eq_some_iff.1 h0).1
  have hwX := hk0.size
  clear e0 e1 e2
  obtain ⟨_, c4, _, hrg⟩ := piece_at h1
  have hC := IS y hy X S _ _ i j (hmx.keep hk0 (by simp)) hM hij hj hmt
  go_wp2_with (first | (refine wpList_load_row rfl 67 _ rfl g0 rfl _ _ _ _ h0 Tryz.underlying67 rfl (info7 _ _ _ _ _ _ _) ?_) | (refine wpList_load_mid rfl 191 _ rfl g1 0 rfl _ _ hrg Tryz.underlying191 rfl infoSgM ?_))
  refine hC.mono ?_
  rintro e w1 ⟨t, ts, rfl, htv, htt, hk1⟩
  obtain ⟨k1, n1, va, vn, vc, rfl⟩ := htv.form
  have h21 := (hk1.block g2 hg2X (by simp)).trans h2
  have hkS : Keeps [g2] w1 (w1.setRow g2 #[.int .u8 k1, .int .i64 n1, .slice va vn vc]) := (Keeps.refl [g2] _).setRow (g := g2) (by simp) _
  go_wp2_with (first | (refine wpList_store_row rfl 75 _ _ rfl g2 #[.int .u8 k1, .int .i64 n1, .slice va vn vc] rfl rfl _ _ h21 (info3 _ _ _) rfl (all3 rfl rfl rfl) ?_))
  refine bodyPost_ret (results_cell_row rfl _ _ g2 _ _ _ _ rfl (setRow_heap _ _ _ _ _ _ h21) Tryz.underlying75 rfl (info3 _ _ _)) rfl ?_
  exact ⟨t, _, rfl, (htv.keep hkS (by intro z hz; simp; omega)).mono fun z hz _ => by omega, htt, (hk0.trans hk1).setRow (Or.inr hg2w) _⟩
 ·have hyx' : x' = x := by
     rcases hyx with h | ⟨mn', mx', h⟩
     ·subst h; cases hmx
     ·cases h; rfl
  subst hyx'
  obtain ⟨_, k', a', c', v', rfl, _⟩ := hmx.form
  simp only [List.cons_append, List.nil_append, List.cons.injEq] at hds
  obtain ⟨q1, rfl, rfl, rfl, rfl⟩ := hds
  rw [← q1] at hmx
  clear q1
  obtain ⟨gr, cr, _, rfl, _, _, _, _⟩ := hr.at (d := 0) (by omega)
  obtain ⟨M, HM⟩ : ∃ M, Hid (M = steps mn mx + 1) := ⟨_, rfl⟩
  have hMM := HM.out
  rw [← hMM] at hm hal hr ⊢
  clear hMM
  have hxsz : x'.sz ≤ n := by simp [Pat.sz] at hy; omega
  have hk0 := keeps3 w (.cells #[m0, m1, m2, m3, .string s, m5, m6] 67) (.cells #[.int .i64 (k : Nat), a, c, .slice (some ⟨g, 0, none⟩) N cv, .bool true, .int .i64 mn, .int .i64 mx, .slice (some ⟨gr, 0, none⟩) M cr] 193) (.cells #[.int .u8 0, .int .i64 0, .slice none 0 0] 75)
  have h0 := heap3_0 w (.cells #[m0, m1, m2, m3, .string s, m5, m6] 67) (.cells #[.int .i64 (k : Nat), a, c, .slice (some ⟨g, 0, none⟩) N cv, .bool true, .int .i64 mn, .int .i64 mx, .slice (some ⟨gr, 0, none⟩) M cr] 193) (.cells #[.int .u8 0, .int .i64 0, .slice none 0 0] 75)
  have h1 := heap3_1 w (.cells #[m0, m1, m2, m3, .string s, m5, m6] 67) (.cells #[.int .i64 (k : Nat), a, c, .slice (some ⟨g, 0, none⟩) N cv, .bool true, .int .i64 mn, .int .i64 mx, .slice (some ⟨gr, 0, none⟩) M cr] 193) (.cells #[.int .u8 0, .int .i64 0, .slice none 0 0] 75)
  have h2 := heap3_2 w (.cells #[m0, m1, m2, m3, .string s, m5, m6] 67) (.cells #[.int .i64 (k : Nat), a, c, .slice (some ⟨g, 0, none⟩) N cv, .bool true, .int .i64 mn, .int .i64 mx, .slice (some ⟨gr, 0, none⟩) M cr] 193) (.cells #[.int .u8 0, .int .i64 0, .slice none 0 0] 75)
  go_enter Tryz.func110, Tryz.ntmps110
  go_upto_region 1 with (fail)
  generalize (((w.alloc (.cells #[m0, m1, m2, m3, .string s, m5, m6] 67)).alloc (.cells #[.int .i64 (k : Nat), a, c, .slice (some ⟨g, 0, none⟩) N cv, .bool true, .int .i64 mn, .int .i64 mx, .slice (some ⟨gr, 0, none⟩) M cr] 193)).alloc (.cells #[.int .u8 0, .int .i64 0, .slice none 0 0] 75)) = X at *
  obtain ⟨g0, e0⟩ : ∃ g, g = w.heap.size := ⟨_, rfl⟩
  obtain ⟨g1, e1⟩ : ∃ g, g = w.heap.size + 1 := ⟨_, rfl⟩
  obtain ⟨g2, e2⟩ : ∃ g, g = w.heap.size + 2 := ⟨_, rfl⟩
  rw [← e2] at h2 ⊢
  rw [← e1] at h1 ⊢
  rw [← e0] at h0 ⊢
  have hg2w : w.heap.size ≤ g2 := by omega
  have hg2X : g2 < X.heap.size := (Array.getElem?_eq_some_iff.1 h2).1
  have hg1X : g1 < X.heap.size := (Array.getElem?_eq_some_iff.1 h1).1
  have hg0X : g0 < X.heap.size := (Array.getElem?_eq_some_iff.1 h0).1
  have hwX := hk0.size
  clear e0 e1 e2
  obtain ⟨c3, c4, c5, hrg⟩ := piece_at h1
  go_upto_region 4 with (fail)
  have G0 := GL.start X
  have HP0 : Hid (PL s x' mn mx i j i []) := PL.start hmt
  go_loopw [2, 9, 10] (fun q2 q9 _ wr => ∃ (c : Nat) (ts : List Tr) (cs : List Value), q2 = .int .i64 c ∧ GL X wr q9 ts cs ∧ Hid (PL s x' mn mx i j c ts)) (fun q2 _ _ _ => j - (intOf q2).toNat)
  case atStart => exact ⟨i, [], [], rfl, G0, HP0⟩
  case round =>
   clear G0 HP0
   obtain ⟨c1, ts, cs, rfl, G, HP⟩ := hrel
   obtain ⟨va, vn, vc, rfl⟩ := ownsRow_sl G.own
   have HV : Hid (vn = ts.length) := ownsRow_lenT G.own
   have h0r := (G.keep.block g0 hg0X (by simp)).trans h0
   have h1r := (G.keep.block g1 hg1X (by simp)).trans h1
   have h2r := (G.keep.block g2 hg2X (by simp)).trans h2
   have hXr := G.keep.size
   have hkr := hk0.trans G.keep
   have hlo := HP.out.lo
   have hhi := HP.out.hi
   by_cases hcj : c1 < j
   ·obtain ⟨d1, HD⟩ : ∃ d1, Hid (d1 = vn + 1) := ⟨_, rfl⟩
    have hwr : IntKind.i64.wrap ((vn : Int) + 1) = (d1 : Int) := by have := HD.out; have := HV.out; rw [wrap_small (by omega) (by omega)]; omega
    have hcj' : (c1 : Int) < (j : Int) := by omega
    have HCJ : Hid (c1 < j) := hcj
    have hS0 : wr.drew.heap[g0]? = some (.cells #[m0, m1, m2, m3, .string s, m5, m6] 67 (0, 0)) ∧ wr.drew.heap[g1]? = some (.cells #[.int .i64 (k : Nat), a, c, .slice (some ⟨g, 0, none⟩) N cv, .bool true, .int .i64 mn, .int .i64 mx, .slice (some ⟨gr, 0, none⟩) M cr] 193 (0, 0)) ∧ Keeps [] wr wr.drew := ⟨h0r, h1r, (Keeps.refl [] wr).drewN 1⟩
    clear hcj
    go_upto_region 5 with (fail)
    refine wp_region_held (S := fun X' => X'.heap[g0]? = some (.cells #[m0, m1, m2, m3, .string s, m5, m6] 67 (0, 0)) ∧ X'.heap[g1]? = some (.cells #[.int .i64 (k : Nat), a, c, .slice (some ⟨g, 0, none⟩) N cv, .bool true, .int .i64 mn, .int .i64 mx, .slice (some ⟨gr, 0, none⟩) M cr] 193 (0, 0)) ∧ Keeps [] wr X') (by kernel_rfl) ?_
    change wpAnyH _ _ _ _ _ _ _ _ (World.drew _)
    generalize wr.drew = X0 at *
    refine wpAnyH_tk 0 _ (some 26) (.pointer (some ⟨g1, 0, none⟩)) rfl rfl (by kernel_rfl) (by kernel_rfl) (by kernel_rfl) (fun _ _ _ h => h) (Or.inl ⟨by rfl, fun X hX => by go_simp⟩) hS0 ?_
    simp only [Act.put, List.setIfInBounds_toArray, List.set_cons_zero, List.set_cons_succ]
    refine wpAnyH_tk 1 _ (some 27) (.pointer (some ⟨g1, 3, none⟩)) rfl rfl (by kernel_rfl) (by kernel_rfl) (by kernel_rfl) (fun _ _ _ h => h) (Or.inl ⟨by rfl, fun X hX => by go_simp⟩) hS0 ?_
    simp only [Act.put, List.setIfInBounds_toArray, List.set_cons_zero, List.set_cons_succ]
    refine wpAnyH_tk 2 _ (some 28) (.slice (some ⟨g, 0, none⟩) N cv) rfl rfl (by kernel_rfl) (by kernel_rfl) (by kernel_rfl) (fun _ _ _ h => h) (Or.inl ⟨by rfl, fun X hX => by (obtain ⟨y3, y4, y5, y6⟩ := piece_at hX.2.1; go_simp)⟩) hS0 ?_
    simp only [Act.put, List.setIfInBounds_toArray, List.set_cons_zero, List.set_cons_succ]
    refine wpAnyH_tk 3 _ (some 29) (.agg #[.int .i64 (k : Nat), a, c, .slice (some ⟨g, 0, none⟩) N cv, .bool true, .int .i64 mn, .int .i64 mx, .slice (some ⟨gr, 0, none⟩) M cr]) rfl rfl (by kernel_rfl) (by kernel_rfl) (by kernel_rfl) (fun _ _ _ h => h) (yieldsIf_load_mid (by rfl) 193 _ rfl g1 0 rfl [.int .i64 (k : Nat), a, c, .slice (some ⟨g, 0, none⟩) N cv, .bool true, .int .i64 mn, .int .i64 mx, .slice (some ⟨gr, 0, none⟩) M cr] _ (fun X hX => rangeAll hX.2.1) Tryz.underlying193 rfl (info8 _ _ _ _ _ _ _ _)) hS0 ?_
    simp only [Act.put, List.setIfInBounds_toArray, List.set_cons_zero, List.set_cons_succ]
    refine wpAnyH_tk 4 _ (some 30) (.slice va vn vc) rfl rfl (by kernel_rfl) (by kernel_rfl) (by kernel_rfl) (fun _ _ _ h => h) (Or.inl ⟨by rfl, fun X hX => by go_simp⟩) hS0 ?_
    simp only [Act.put, List.setIfInBounds_toArray, List.set_cons_zero, List.set_cons_succ]
    refine wpAnyH_tk 5 _ (some 31) (.int .i64 vn) rfl rfl (by kernel_rfl) (by kernel_rfl) (by kernel_rfl) (fun _ _ _ h => h) (Or.inl ⟨by rfl, fun X hX => by go_simp⟩) hS0 ?_
    simp only [Act.put, List.setIfInBounds_toArray, List.set_cons_zero, List.set_cons_succ]
    refine wpAnyH_tk 6 _ (some 32) (.int .i64 d1) rfl rfl (by kernel_rfl) (by kernel_rfl) (by kernel_rfl) (fun _ _ _ h => h) (Or.inl ⟨by rfl, fun X hX => by go_simp⟩) hS0 ?_
    simp only [Act.put, List.setIfInBounds_toArray, List.set_cons_zero, List.set_cons_succ]
    refine wpAnyH_tk 8 _ (some 34) (.int .i64 c1) rfl rfl (by kernel_rfl) (by kernel_rfl) (by kernel_rfl) (fun _ _ _ h => h) (Or.inl ⟨by rfl, fun X hX => by go_simp⟩) hS0 ?_
    simp only [Act.put, List.setIfInBounds_toArray, List.set_cons_zero, List.set_cons_succ]
    refine wpAnyH_tk 9 _ (some 35) (.int .i64 j) rfl rfl (by kernel_rfl) (by kernel_rfl) (by kernel_rfl) (fun _ _ _ h => h) (Or.inl ⟨by rfl, fun X hX => by go_simp⟩) hS0 ?_
    simp only [Act.put, List.setIfInBounds_toArray, List.set_cons_zero, List.set_cons_succ]
    refine wpAnyH_ready (rs := [7]) (by kernel_rfl) (by simp) ?_
    refine AllReadyH.cons rfl (fun K hK => ?_) AllReadyH.nil
    go_simp
    have hmX := hm.keep (hkr.trans hS0.2.2) (by simp)
    refine (rest_any s N mn mx x' _ S X0 hmX d1 (by have := HD.out; have := HV.out; omega)).mono ?_
    rintro e w1 ⟨gR, cR, rfl, hR, hk1⟩
    have hS1 : w1.heap[g0]? = some (.cells #[m0, m1, m2, m3, .string s, m5, m6] 67 (0, 0)) ∧ w1.heap[g1]? = some (.cells #[.int .i64 (k : Nat), a, c, .slice (some ⟨g, 0, none⟩) N cv, .bool true, .int .i64 mn, .int .i64 mx, .slice (some ⟨gr, 0, none⟩) M cr] 193 (0, 0)) ∧ Keeps [] wr w1 := ⟨(hk1.block g0 (Array.getElem?_eq_some_iff.1 hS0.1).1 (by simp)).trans hS0.1, (hk1.block g1 (Array.getElem?_eq_some_iff.1 hS0.2.1).1 (by simp)).trans hS0.2.1, hS0.2.2.trans hk1⟩
    refine hK.out _ _ hS1 (fun _ => ?_)
    clear hK K
    refine wpAnyH_ready (rs := [10]) (by kernel_rfl) (by simp) ?_
    refine AllReadyH.cons rfl (fun K hK => ?_) AllReadyH.nil
    go_simp
    refine (longest_mp N (by have := HN.out; omega) c1 j (by omega) (by have := HN.out; omega) w1 (hmp.keep (hkr.trans hS1.2.2) (by simp)) hR).mono ?_
    rintro e w2 ⟨e1, rfl, hcut, hk2⟩
    have hS2 : w2.heap[g0]? = some (.cells #[m0, m1, m2, m3, .string s, m5, m6] 67 (0, 0)) ∧ w2.heap[g1]? = some (.cells #[.int .i64 (k : Nat), a, c, .slice (some ⟨g, 0, none⟩) N cv, .bool true, .int .i64 mn, .int .i64 mx, .slice (some ⟨gr, 0, none⟩) M cr] 193 (0, 0)) ∧ Keeps [] wr w2 := ⟨(hk2.block g0 (Array.getElem?_eq_some_iff.1 hS1.1).1 (by simp)).trans hS1.1, (hk2.block g1 (Array.getElem?_eq_some_iff.1 hS1.2.1).1 (by simp)).trans hS1.2.1, hS1.2.2.trans hk2⟩
    refine hK.out _ _ hS2 (fun _ => ?_)
    clear hK K
    refine wpAnyH_tk 11 _ (some 10) (.int .i64 e1) rfl rfl (by kernel_rfl) (by kernel_rfl) (by kernel_rfl) (fun _ _ _ h => h) (Or.inl ⟨by rfl, fun X hX => by go_simp⟩) hS2 ?_
    simp only [Act.put, List.setIfInBounds_toArray, List.set_cons_zero, List.set_cons_succ]
    refine wpAnyH_done (by kernel_rfl) ?_ _
    have HC : Hid (Cut (fun m => Mt s x' c1 m ∧ Left (Mt s x') mn mx (ts.length + 1) m j) c1 j e1) := by
     have := HD.out
     have := HV.out
     rw [show ts.length + 1 = d1 by omega]
     exact hcut
    obtain ⟨hce, hmce⟩ := HP.out.mid HCJ.out HC.out
    have hej := HC.out.2.1
    have hk20 := hS2.2.2
    have h0s := hS2.1
    have h1s := hS2.2.1
    obtain ⟨y3, y4, y5, hrg2⟩ := piece_at h1s
    have hIC := IS x' hxsz w2 S _ _ c1 e1 (hmx.keep (hkr.trans hk20) (by simp)) hM (by omega) (by omega) hmce
    have G2 := G.keeps hk20
    clear hS0 hS1 hS2 hcut hR hk1 hk2 h0r h1r
    go_wp2_with (first | (refine wpList_load_row rfl 67 _ rfl g0 rfl _ _ _ _ h0s Tryz.underlying67 rfl (info7 _ _ _ _ _ _ _) ?_) | (refine wpList_load_mid rfl 191 _ rfl g1 0 rfl _ _ hrg2 Tryz.underlying191 rfl infoSgM ?_))
    refine hIC.mono ?_
    rintro e w3 ⟨t, tcs, rfl, htv, htt, hk3⟩
    obtain ⟨k1, n1, ta, tn, tc, rfl⟩ := htv.form
    have G3 := G2.keeps hk3
    obtain ⟨i0, hi0, hz0, hz1, hz2⟩ := info_parts infoTree
    have hun := Tryz.underlying73
    have hlm : ts.length + 1 ≤ maxLen := by unfold maxLen; omega
    have hH : (w3.alloc (.cells #[.int .u8 k1, .int .i64 n1, .slice ta tn tc] 75)).heap.size = w3.heap.size + 1 := by simp
    have hnews : ∀ j u, [Value.int .u8 k1, .int .i64 n1, .slice ta tn tc][j]? = some u → (w3.alloc (.cells #[.int .u8 k1, .int .i64 n1, .slice ta tn tc] 75)).cell? ((⟨w3.heap.size, 0, none⟩ : Addr).add j) = some u := World.news_of_block (cs := #[.int .u8 k1, .int .i64 n1, .slice ta tn tc]) (heap_alloc_new w3 _)
    have hk4 : Keeps [] w3 (w3.alloc (.cells #[.int .u8 k1, .int .i64 n1, .slice ta tn tc] 75)) := (Keeps.refl [] w3).alloc _
    have htv4 := (htv.keep hk4 (by simp)).lone
    have hvl : ∀ z, (Value.slice va vn vc).ownBlock = some z → z < w2.heap.size := fun z hz => (World.ownsRow.lt G2.own z hz).2
    have hX2 : X.heap.size ≤ w2.heap.size := G2.keep.size
    clear hIC htv h0s h1s y3 y4 y5 hrg2
    go_wp2_with (first | (at_builtin; refine wpList_append_lies _ rfl _ _ _ rfl 0 75 i0 _ 3 40 hun hi0 hz0 hz1 hz2 rfl (by decide) (.slice va vn vc) ts.length cs rfl (G3.own.alloc _) ⟨w3.heap.size, 0, none⟩ 1 1 [.int .u8 k1, .int .i64 n1, .slice ta tn tc] rfl rfl hnews (by intro u hu; simp at hu; rcases hu with rfl | rfl | rfl <;> rfl) (by omega) hlm (by omega) (Nat.zero_le _) (w3.heap.size + 1) hH ?_))
    intro g' cap w5 hown5 hgrow hat hlt5
    have G5 := GL.add (w0 := w2) (ms := [t]) G3 htv4 hX2 hvl hk4 hown5 hgrow (by rw [hH]; exact hat)
    have HPn : Hid (PL s x' mn mx i j e1 (ts ++ [t])) := (HP.out.next HCJ.out HC.out (fun _ => htt)).2.2
    clear hown5 hgrow hat hnews hH htv4 G3 G2 G
    go_wp2_with fail
    go_roundw
    case rel => exact ⟨e1, _, _, by go_num, G5, HPn⟩
    case measure => have := HCJ.out; simp [intOf]; omega
   ·have hce : c1 = j := by omega
    subst hce
    have hni : ¬ (c1 : Int) < (c1 : Int) := by omega
    have HPd := HP.out
    obtain ⟨y3, y4, y5, hrg2⟩ := piece_at h1r
    have hv9 : (vn : Int) ≤ 100 := by have := HV.out; omega
    have hm9 : (mn : Int) ≤ 5 := by omega
    have hmt0 := hmt
    by_cases hown : vn < mn
    ·obtain ⟨k2, hk2⟩ : ∃ k2 : Nat, k2 = mn - vn := ⟨_, rfl⟩
     have hsub : (mn : Int) - (vn : Int) = (k2 : Int) := by omega
     have hk20 : (0 : Int) < (k2 : Int) := by omega
     have HK2 : Hid (k2 = mn - ts.length ∧ 1 ≤ k2 ∧ k2 ≤ 5) := ⟨by have := HV.out; omega, by omega, by omega⟩
     have hnull := HP.out.null (by have := HV.out; omega)
     have hIC := IS x' hxsz wr S _ _ c1 c1 (hmx.keep hkr (by simp)) hM (Nat.le_refl _) hj hnull
     clear hk2 hown
     go_wp2_with (first | (refine wpList_load_row rfl 67 _ rfl g0 rfl _ _ _ _ h0r Tryz.underlying67 rfl (info7 _ _ _ _ _ _ _) ?_) | (refine wpList_load_mid rfl 191 _ rfl g1 0 rfl _ _ hrg2 Tryz.underlying191 rfl infoSgM ?_))
     refine hIC.mono ?_
     rintro e w3 ⟨t, tcs, rfl, htv, htt, hk3⟩
     obtain ⟨k1, n1, ta, tn, tc, rfl⟩ := htv.form
     have G3 := G.keeps hk3
     have h2s := (hk3.block g2 (by omega) (by simp)).trans h2r
     have hq0 : (w3.alloc (.cells #[.int .u8 0, .int .i64 0, .slice none 0 0] 75)).heap[w3.heap.size]? = some (.cells #[.int .u8 0, .int .i64 0, .slice none 0 0] 75 (0, 0)) := heap_alloc_new w3 _
     have hkQ : Keeps [] w3 ((w3.alloc (.cells #[.int .u8 0, .int .i64 0, .slice none 0 0] 75)).setRow w3.heap.size #[.int .u8 k1, .int .i64 n1, .slice ta tn tc]) := ((Keeps.refl [] w3).alloc _).setRow (Or.inr (Nat.le_refl _)) _
     have hqR : ((w3.alloc (.cells #[.int .u8 0, .int .i64 0, .slice none 0 0] 75)).setRow w3.heap.size #[.int .u8 k1, .int .i64 n1, .slice ta tn tc]).heap[w3.heap.size]? = some (.cells #[.int .u8 k1, .int .i64 n1, .slice ta tn tc] 75 (0, 0)) := setRow_heap _ _ _ _ _ _ hq0
     have G4 := G3.keeps hkQ
     have h2t := (hkQ.block g2 (by have := hk3.size; omega) (by simp)).trans h2s
     have htv4 := htv.keep hkQ (by simp)
     clear hIC htv h0r h1r y3 y4 y5 hrg2 h2s G3
     go_upto_region 11 with (first | (refine wpList_store_row rfl 75 _ _ rfl w3.heap.size #[.int .u8 k1, .int .i64 n1, .slice ta tn tc] rfl rfl _ _ hq0 (info3 _ _ _) rfl (all3 rfl rfl rfl) ?_; generalize (w3.alloc (.cells #[.int .u8 0, .int .i64 0, .slice none 0 0] 75)).setRow w3.heap.size #[.int .u8 k1, .int .i64 n1, .slice ta tn tc] = w4 at *))
     obtain ⟨gt, hgt⟩ : ∃ g, g = w3.heap.size := ⟨_, rfl⟩
     rw [← hgt] at hqR ⊢
     have hr4 : wr.heap.size ≤ w4.heap.size := Nat.le_trans hk3.size hkQ.size
     clear hgt hq0
     have hk5 : Keeps [] w4 (w4.alloc (.cells #[.int .u8 k1, .int .i64 n1, .slice ta tn tc] 75)) := (Keeps.refl [] w4).alloc _
     have hone5 : (w4.alloc (.cells #[.int .u8 k1, .int .i64 n1, .slice ta tn tc] 75)).ownsRow 0 75 3 (.slice (some ⟨w4.heap.size, 0, none⟩) 1 1) 1 [.int .u8 k1, .int .i64 n1, .slice ta tn tc] := oneTree rfl
     have htv5 := htv4.keep hk5 (by simp)
     have G5 := G4.keeps hk5
     have h2u := (hk5.block g2 (by omega) (by simp)).trans h2t
     have hRC := RO [.int .u8 k1, .int .i64 n1, .slice ta tn tc] k2 w4.heap.size 1 (w4.alloc (.cells #[.int .u8 k1, .int .i64 n1, .slice ta tn tc] 75)) rfl (by intro u hu; simp at hu; rcases hu with rfl | rfl | rfl <;> rfl) HK2.out.2.1 HK2.out.2.2 hone5
     clear hone5 htv4 G4 h2t
     go_wp2_with (first | (refine wpList_load_row rfl 75 _ rfl gt rfl _ _ _ _ hqR Tryz.underlying75 rfl (info3 _ _ _) ?_))
     generalize w4.alloc (.cells #[.int .u8 k1, .int .i64 n1, .slice ta tn tc] 75) = w5 at *
     refine hRC.mono ?_
     rintro e w6 ⟨gR, rfl, hoR, hgR, hk6⟩
     have G6 := G5.keeps hk6
     have h2v := (hk6.block g2 (by have := hk5.size; omega) (by simp)).trans h2u
     have htv6 := (htv5.keep hk6 (by simp)).times k2
     obtain ⟨i0, hi0, hz0, hz1, hz2⟩ := info_parts infoTree
     have hun := Tryz.underlying73
     have hlm : ts.length + k2 ≤ maxLen := by unfold maxLen; have := HK2.out; omega
     have hfl : (List.replicate k2 [Value.int .u8 k1, .int .i64 n1, .slice ta tn tc]).flatten.length = k2 * 3 := hoR.1
     have hnews : ∀ j u, (List.replicate k2 [Value.int .u8 k1, .int .i64 n1, .slice ta tn tc]).flatten[j]? = some u → w6.cell? ((⟨gR, 0, none⟩ : Addr).add j) = some u := World.ownsRow.cells hoR rfl
     have h1c : ∀ u ∈ (List.replicate k2 [Value.int .u8 k1, .int .i64 n1, .slice ta tn tc]).flatten, u.oneCell' = true := by
      intro u hu
      rw [List.mem_flatten] at hu
      obtain ⟨l, hl, hu⟩ := hu
      have := List.eq_of_mem_replicate hl
      subst this
      simp at hu
      rcases hu with rfl | rfl | rfl <;> rfl
     have hH : w6.heap.size = w6.heap.size := rfl
     have hvl : ∀ z, (Value.slice va vn vc).ownBlock = some z → z < wr.heap.size := fun z hz => (World.ownsRow.lt G.own z hz).2
     have h45 := hk5.size
     have h56 := hk6.size
     have hbts : (ts.length + k2) * 40 ≤ 140737488355328 := by have := HK2.out; have := HV.out; omega
     generalize hFL : (List.replicate k2 [Value.int .u8 k1, .int .i64 n1, .slice ta tn tc]).flatten = FL1 at *
     clear hRC htv5 G5 h2u hqR hoR hFL
     go_wp2_with (first | (at_builtin; refine wpList_append_lies _ rfl _ _ _ rfl 0 75 i0 _ 3 40 hun hi0 hz0 hz1 hz2 rfl (by decide) (.slice va vn vc) ts.length cs rfl G6.own ⟨gR, 0, none⟩ k2 k2 FL1 rfl hfl hnews h1c HK2.out.2.1 hlm hbts (Nat.zero_le _) w6.heap.size rfl ?_))
     intro g' cap w7 hown7 hgrow hat hlt7
     have G7 := GL.add (w0 := wr) (ms := List.replicate k2 t) G6 htv6 hXr hvl (Keeps.refl [] w6) (by rw [List.length_replicate]; exact hown7) hgrow hat
     rw [List.length_replicate] at G7
     have h2w : w7.heap[g2]? = some (.cells #[.int .u8 0, .int .i64 0, .slice none 0 0] 75 (0, 0)) := by
      have hg2v : g2 ∉ (Value.slice va vn vc).ownBlock.toList := by
       intro hm
       rw [Option.mem_toList] at hm
       have := G.fresh g2 hm
       omega
      exact ((Keeps.ofGrown hgrow).block g2 (by omega) hg2v).trans h2v
     have HTT : Hid (TT s (.node (.rep mn mx x')) i c1 (.trep (lapp (ts ++ List.replicate k2 t) .lnil))) := .rep mn mx x' i c1 _ (HP.out.owe htt k2 HK2.out.1)
     have hkS : Keeps [g2] w7 (w7.setRow g2 #[.int .u8 114, .int .i64 0, .slice (some ⟨g', 0, none⟩) (ts.length + k2) cap]) := (Keeps.refl [g2] _).setRow (g := g2) (by simp) _
     clear hnews h1c hown7 hgrow hat hfl
     go_wp2_with (first | (refine wpList_store_row rfl 75 _ _ rfl g2 #[.int .u8 114, .int .i64 0, .slice (some ⟨g', 0, none⟩) (ts.length + k2) cap] rfl rfl _ _ h2w (info3 _ _ _) rfl (all3 rfl rfl rfl) ?_))
     refine bodyPost_ret (results_cell_row rfl _ _ g2 _ _ _ _ rfl (setRow_heap _ _ _ _ _ _ h2w) Tryz.underlying75 rfl (info3 _ _ _)) rfl ?_
     refine ⟨_, [.int .u8 114, .int .i64 0, .slice (some ⟨g', 0, none⟩) (ts.length + k2) cap], rfl, ?_, HTT.out, (hk0.trans G7.keep).setRow (Or.inr hg2w) _⟩
     refine .trep _ _ _ _ ((G7.row.keep hkS (by intro z hz; simp; omega)).mono fun z hz _ => by omega) (G7.own.keep hkS (by intro z hz; have := G7.fresh z hz; simp; omega)) fun z hz => by have := G7.fresh z hz; omega
    ·have hsub : (mn : Int) - (vn : Int) ≤ 0 := by omega
     have hn0 : ¬ (0 : Int) < (mn : Int) - (vn : Int) := by omega
     have HTT : Hid (TT s (.node (.rep mn mx x')) i c1 (.trep (lapp ts .lnil))) := .rep mn mx x' i c1 _ (HP.out.done (by have := HV.out; omega))
     have hkS : Keeps [g2] wr (wr.setRow g2 #[.int .u8 114, .int .i64 0, .slice va vn vc]) := (Keeps.refl [g2] _).setRow (g := g2) (by simp) _
     clear hown
     go_wp2_with (first | (refine wpList_store_row rfl 75 _ _ rfl g2 #[.int .u8 114, .int .i64 0, .slice va vn vc] rfl rfl _ _ h2r (info3 _ _ _) rfl (all3 rfl rfl rfl) ?_))
     refine bodyPost_ret (results_cell_row rfl _ _ g2 _ _ _ _ rfl (setRow_heap _ _ _ _ _ _ h2r) Tryz.underlying75 rfl (info3 _ _ _)) rfl ?_
     refine ⟨_, [.int .u8 114, .int .i64 0, .slice va vn vc], rfl, ?_, HTT.out, (hk0.trans G.keep).setRow (Or.inr hg2w) _⟩
     refine .trep _ _ _ _ ((G.row.keep hkS (by intro z hz; simp; omega)).mono fun z hz _ => by omega) (G.own.keep hkS (by intro z hz; have := G.fresh z hz; simp; omega)) fun z hz => by have := G.fresh z hz; omega
end Go.Proofs.YtnfojonmohijpabGreatDoor
