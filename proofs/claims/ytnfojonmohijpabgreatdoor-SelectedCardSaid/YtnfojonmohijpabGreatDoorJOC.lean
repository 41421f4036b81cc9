/-
  DERIVED. The program's treeOfWays, over treeOfWay; the tree builders, by induction; Tree. Conditions: the stretch is one that matches.
-/
import Derived.Test.YtnfojonmohijpabGreatDoorJOA
set_option linter.unusedSimpArgs false
set_option linter.unusedVariables false
namespace Go.Proofs.YtnfojonmohijpabGreatDoor
open Go.RowKit
theorem heap5 (w : World) (A B C D E : Obj) : (((((w.alloc A).alloc B).alloc C).alloc D).alloc E).heap[w.heap.size]? = some A ∧ (((((w.alloc A).alloc B).alloc C).alloc D).alloc E).heap[w.heap.size + 1]? = some B ∧ (((((w.alloc A).alloc B).alloc C).alloc D).alloc E).heap[w.heap.size + 2]? = some C ∧ (((((w.alloc A).alloc B).alloc C).alloc D).alloc E).heap[w.heap.size + 3]? = some D ∧ (((((w.alloc A).alloc B).alloc C).alloc D).alloc E).heap[w.heap.size + 4]? = some E ∧ Keeps [] w (((((w.alloc A).alloc B).alloc C).alloc D).alloc E) := by
 have hk : Keeps [] (((w.alloc A).alloc B).alloc C) (((((w.alloc A).alloc B).alloc C).alloc D).alloc E) := ((Keeps.refl [] _).alloc _).alloc _
 have hz : (((w.alloc A).alloc B).alloc C).heap.size = w.heap.size + 3 := by simp
 have h3 := heap_alloc2_old (((w.alloc A).alloc B).alloc C) D E
 have h4 := heap_alloc2_new (((w.alloc A).alloc B).alloc C) D E
 rw [hz] at h3 h4
 exact ⟨(hk.block _ (by omega) (by simp)).trans (heap3_0 w A B C), (hk.block _ (by omega) (by simp)).trans (heap3_1 w A B C), (hk.block _ (by omega) (by simp)).trans (heap3_2 w A B C), h3, h4, (keeps3 w A B C).trans hk⟩
theorem isW_one {x : Pat} (h : isW x) (hl : (wl x).length = 1) : ∃ y, x = .wone y := by
 cases x with
 | wone y => exact ⟨y, rfl⟩
 | wcons y r =>
  cases r with
  | wone _ => simp [wl] at hl
  | wcons _ _ => simp [wl] at hl
  | _ => exact h.elim
 | _ => exact h.elim
theorem isW_more {x : Pat} (h : isW x) (hl : (wl x).length ≠ 1) : ∃ y r, x = .wcons y r := by
 cases x with
 | wone y => exact absurd rfl hl
 | wcons y r => exact ⟨y, r, rfl⟩
 | _ => exact h.elim
set_option maxRecDepth 100000 in
set_option maxHeartbeats 4000000 in
theorem treeOfWays_any (s : ByteArray) (N : Nat) (HN : Hid (N = s.size + 1)) (hs : s.size ≤ 100) (n : Nat) (hn9 : n + 1 ≤ 1000) (IW : TWay s N n) : TWays s N (n + 1) := by
 intro x hx w S ds m i j hm hM hij hj hmt
 have hW := hm.isWP
 obtain ⟨m0, m1, m2, m3, m5, m6, rfl, o0, o1, o2, o3, o5, o6⟩ := hM.ok
 cases hm with
 | ways _ cs v cc np hwl hown hSv hmp =>
 obtain ⟨va, vn, vc, rfl⟩ := ownsRow_sl hown
 obtain rfl := ownsRow_lenT hown
 have HL : Hid (vn = (wl x).length) := by
  have h1 := hown.1
  have h2 := hwl.wl_at.1
  show vn = (wl x).length
  omega
 have hvm : (vn : Int) ≤ 1000 := by have := HL.out; have := wl_len x; omega
 have hcc := hmp.one.1
 have hmf : ∀ (fn : Fn) (first cap : Array Value) (w : World), (Instr.makeFunc fn first cap).run Tryz.prog w = .ok (.func fn first cap) w := fun _ _ _ _ => rfl
 obtain ⟨h0, h1, h2, h3, h4, hk0⟩ := heap5 w (.cells #[m0, m1, m2, m3, .string s, m5, m6] 67) (.cells #[.slice va vn vc, cc] 65) (.cells #[.int .i64 (i : Int)] 3) (.cells #[.int .i64 (j : Int)] 3) (.cells #[.int .u8 0, .int .i64 0, .slice none 0 0] 75)
 go_enter Tryz.func38, Tryz.ntmps38
 go_upto_region 1 with (fail)
 generalize ((((w.alloc (.cells #[m0, m1, m2, m3, .string s, m5, m6] 67)).alloc (.cells #[.slice va vn vc, cc] 65)).alloc (.cells #[.int .i64 (i : Int)] 3)).alloc (.cells #[.int .i64 (j : Int)] 3)).alloc (.cells #[.int .u8 0, .int .i64 0, .slice none 0 0] 75) = X at *
 obtain ⟨g0, e0⟩ : ∃ g, g = w.heap.size := ⟨_, rfl⟩
 obtain ⟨g1, e1⟩ : ∃ g, g = w.heap.size + 1 := ⟨_, rfl⟩
 obtain ⟨g2, e2⟩ : ∃ g, g = w.heap.size + 2 := ⟨_, rfl⟩
 obtain ⟨g3, e3⟩ : ∃ g, g = w.heap.size + 3 := ⟨_, rfl⟩
 obtain ⟨g4, e4⟩ : ∃ g, g = w.heap.size + 4 := ⟨_, rfl⟩
 rw [← e4] at h4 ⊢
 rw [← e3] at h3 ⊢
 rw [← e2] at h2 ⊢
 rw [← e1] at h1 ⊢
 rw [← e0] at h0 ⊢
 have hg4w : w.heap.size ≤ g4 := by omega
 have hg4X : g4 < X.heap.size := (Array.getElem?_eq_some_iff.1 h4).1
 have hg1X : g1 < X.heap.size := (Array.getElem?_eq_some_iff.1 h1).1
 have hg0X : g0 < X.heap.size := (Array.getElem?_eq_some_iff.1 h0).1
 have hg2X : g2 < X.heap.size := (Array.getElem?_eq_some_iff.1 h2).1
 have hg3X : g3 < X.heap.size := (Array.getElem?_eq_some_iff.1 h3).1
 have hwX := hk0.size
 clear e0 e1 e2 e3 e4
 have a0 : X.cell? ⟨g1, 0, none⟩ = some (.slice va vn vc) := by rw [Lib.cell_of_heap h1]; rfl
 have c2 : X.cell? ⟨g2, 0, none⟩ = some (.int .i64 (i : Int)) := by rw [Lib.cell_of_heap h2]; rfl
 have c3 : X.cell? ⟨g3, 0, none⟩ = some (.int .i64 (j : Int)) := by rw [Lib.cell_of_heap h3]; rfl
 have hIX := indexWay_any s N HN hs x (by omega) cs va vn vc S g2 g3 i j (by omega) hj X (hwl.keep hk0 (by simp)) (hown.keep hk0 (by simp)) c2 c3 hmt
 go_upto_region 2 with (first | (go_at_call 71; refine hIX.mono ?_; rintro e w1 ⟨p, y, rfl, hy, hmy, hno, hk1⟩))
 have hpn : p < vn := by have := HL.out; have := (List.getElem?_eq_some_iff.1 hy).1; omega
 obtain ⟨a, r, ha, hr, hmky, hysz⟩ := hwl.wl_at.2 p y hy
 obtain ⟨gv, vc', hv, _, hgv⟩ := hown.form (by omega)
 cases hv
 have hgvl : gv < w.heap.size := hgv
 have hkw1 := hk0.trans hk1
 have hrg : w1.rangeAt gv (p * 2) [a, r] := range2 ((World.cell?_of_block (hkw1.block gv hgvl (by simp))).trans ((World.ownsRow.cellAt hown (p * 2) (by omega)).trans ha)) ((World.cell?_of_block (hkw1.block gv hgvl (by simp))).trans ((World.ownsRow.cellAt hown (p * 2 + 1) (by omega)).trans hr))
 have hi2 : (Tryz.prog.info? 150).map (·.size) = some 2 := by kernel_rfl
 have hp0 : (0 : Int) ≤ (p : Int) := by omega
 have hp1 : (p : Int) < (vn : Int) := by omega
 have h1w : w1.heap[g1]? = some (.cells #[.slice (some ⟨gv, 0, none⟩) vn vc, cc] 65 (0, 0)) := (hk1.block g1 hg1X (by simp)).trans h1
 have h4w := (hk1.block g4 hg4X (by simp)).trans h4
 have hX1 := hk1.size
 have hS0 : w1.drew.heap[g0]? = some (.cells #[m0, m1, m2, m3, .string s, m5, m6] 67 (0, 0)) ∧ w1.drew.heap[g1]? = some (.cells #[.slice (some ⟨gv, 0, none⟩) vn vc, cc] 65 (0, 0)) ∧ w1.drew.cell? ⟨g2, 0, none⟩ = some (.int .i64 (i : Int)) ∧ w1.drew.cell? ⟨g3, 0, none⟩ = some (.int .i64 (j : Int)) ∧ w1.drew.rangeAt gv (p * 2) [a, r] ∧ Keeps [] w1 w1.drew := ⟨(hk1.block g0 hg0X (by simp)).trans h0, h1w, (World.cell?_of_block (hk1.block g2 hg2X (by simp))).trans c2, (World.cell?_of_block (hk1.block g3 hg3X (by simp))).trans c3, hrg, (Keeps.refl [] w1).drewN 1⟩
 have hkD1 : Keeps [] w1 w1.drew := (Keeps.refl [] w1).drewN 1
 have hSk : ∀ A B : World, (A.heap[g0]? = some (.cells #[m0, m1, m2, m3, .string s, m5, m6] 67 (0, 0)) ∧ A.heap[g1]? = some (.cells #[.slice (some ⟨gv, 0, none⟩) vn vc, cc] 65 (0, 0)) ∧ A.cell? ⟨g2, 0, none⟩ = some (.int .i64 (i : Int)) ∧ A.cell? ⟨g3, 0, none⟩ = some (.int .i64 (j : Int)) ∧ A.rangeAt gv (p * 2) [a, r] ∧ Keeps [] w1 A) → Keeps [] A B → (B.heap[g0]? = some (.cells #[m0, m1, m2, m3, .string s, m5, m6] 67 (0, 0)) ∧ B.heap[g1]? = some (.cells #[.slice (some ⟨gv, 0, none⟩) vn vc, cc] 65 (0, 0)) ∧ B.cell? ⟨g2, 0, none⟩ = some (.int .i64 (i : Int)) ∧ B.cell? ⟨g3, 0, none⟩ = some (.int .i64 (j : Int)) ∧ B.rangeAt gv (p * 2) [a, r] ∧ Keeps [] w1 B) := fun A B h hk => ⟨(hk.block g0 (Array.getElem?_eq_some_iff.1 h.1).1 (by simp)).trans h.1, (hk.block g1 (Array.getElem?_eq_some_iff.1 h.2.1).1 (by simp)).trans h.2.1, (World.cell?_of_block (hk.block g2 (World.block_lt_of_cell? _ _ h.2.2.1) (by simp))).trans h.2.2.1, (World.cell?_of_block (hk.block g3 (World.block_lt_of_cell? _ _ h.2.2.2.1) (by simp))).trans h.2.2.2.1, fun q u hu => (World.cell?_of_block (hk.block gv (World.block_lt_of_cell? _ _ (h.2.2.2.2.1 q u hu)) (by simp))).trans (h.2.2.2.2.1 q u hu), h.2.2.2.2.2.trans hk⟩
 have IC : ∀ A : World, Keeps [] w1 A → Calls Tryz.prog 73 #[.agg #[m0, m1, m2, m3, .string s, m5, m6], .agg #[a, r], .int .i64 (i : Int), .int .i64 (j : Int)] A (TreeRes A s y i j) := fun A hk => IW y (by omega) A S [a, r] _ i j (hmky.keep (hkw1.trans hk) (by simp)) hM hij hj hmy
 have hg1w1 : g1 < w1.heap.size := by omega
 clear hIX a0 c2 c3 ha hr hmky
 go_cut [10] from 15 to 23 (fun q10 wx => ∃ gt t k1 n1 ta tn tc, q10 = .pointer (some ⟨gt, 0, none⟩) ∧ wx.heap[gt]? = some (.cells #[.int .u8 (k1 : Nat), .int .i64 (n1 : Nat), .slice ta tn tc] 75 (0, 0)) ∧ TV wx (fun z => w1.heap.size ≤ z ∧ z ≠ gt) true t [.int .u8 (k1 : Nat), .int .i64 (n1 : Nat), .slice ta tn tc] ∧ TT s (.node y) i j t ∧ w1.heap.size ≤ gt ∧ Keeps [] w1 wx)
 case first =>
  refine wp_region_held (S := fun A => A.heap[g0]? = some (.cells #[m0, m1, m2, m3, .string s, m5, m6] 67 (0, 0)) ∧ A.heap[g1]? = some (.cells #[.slice (some ⟨gv, 0, none⟩) vn vc, cc] 65 (0, 0)) ∧ A.cell? ⟨g2, 0, none⟩ = some (.int .i64 (i : Int)) ∧ A.cell? ⟨g3, 0, none⟩ = some (.int .i64 (j : Int)) ∧ A.rangeAt gv (p * 2) [a, r] ∧ Keeps [] w1 A) (by kernel_rfl) ?_
  change wpAnyH _ _ _ _ _ _ _ _ (World.drew _)
  generalize w1.drew = X0 at *
  refine wpAnyH_tk 0 _ (some 15) (.agg #[m0, m1, m2, m3, .string s, m5, m6]) rfl rfl (by kernel_rfl) (by kernel_rfl) (by kernel_rfl) (fun _ _ _ h => h) (yieldsIf_load_mid (by rfl) 67 _ rfl g0 0 rfl [m0, m1, m2, m3, .string s, m5, m6] _ (fun X hX => rangeAll hX.1) Tryz.underlying67 rfl (info7 _ _ _ _ _ _ _)) hS0 ?_
  simp only [Act.put, List.setIfInBounds_toArray, List.set_cons_zero, List.set_cons_succ]
  refine wpAnyH_tk 1 _ (some 16) (.pointer (some ⟨g1, 0, none⟩)) rfl rfl (by kernel_rfl) (by kernel_rfl) (by kernel_rfl) (fun _ _ _ h => h) (Or.inl ⟨by rfl, fun X hX => by go_simp⟩) hS0 ?_
  simp only [Act.put, List.setIfInBounds_toArray, List.set_cons_zero, List.set_cons_succ]
  refine wpAnyH_tk 2 _ (some 17) (.slice (some ⟨gv, 0, none⟩) vn vc) rfl rfl (by kernel_rfl) (by kernel_rfl) (by kernel_rfl) (fun _ _ _ h => h) (Or.inl ⟨by rfl, fun X hX => by (obtain ⟨q0, q1, _, _⟩ := waysCells hX.2.1; go_simp)⟩) hS0 ?_
  simp only [Act.put, List.setIfInBounds_toArray, List.set_cons_zero, List.set_cons_succ]
  refine wpAnyH_tk 3 _ (some 18) (.int .i64 p) rfl rfl (by kernel_rfl) (by kernel_rfl) (by kernel_rfl) (fun _ _ _ h => h) (Or.inl ⟨by rfl, fun X hX => by go_simp⟩) hS0 ?_
  simp only [Act.put, List.setIfInBounds_toArray, List.set_cons_zero, List.set_cons_succ]
  refine wpAnyH_tk 4 _ (some 19) (.pointer (some ⟨gv, p * 2, none⟩)) rfl rfl (by kernel_rfl) (by kernel_rfl) (by kernel_rfl) (fun _ _ _ h => h) (Or.inl ⟨by rfl, fun X hX => by go_simp⟩) hS0 ?_
  simp only [Act.put, List.setIfInBounds_toArray, List.set_cons_zero, List.set_cons_succ]
  refine wpAnyH_tk 5 _ (some 20) (.agg #[a, r]) rfl rfl (by kernel_rfl) (by kernel_rfl) (by kernel_rfl) (fun _ _ _ h => h) (yieldsIf_load_mid (by rfl) 150 _ rfl gv (p * 2) rfl [a, r] _ (fun X hX => hX.2.2.2.2.1) Tryz.underlying150 rfl hi2) hS0 ?_
  simp only [Act.put, List.setIfInBounds_toArray, List.set_cons_zero, List.set_cons_succ]
  refine wpAnyH_tk 6 _ (some 21) (.int .i64 i) rfl rfl (by kernel_rfl) (by kernel_rfl) (by kernel_rfl) (fun _ _ _ h => h) (Or.inl ⟨by rfl, fun X hX => by (obtain ⟨_, _, q2, q3, _⟩ := hX; go_simp)⟩) hS0 ?_
  simp only [Act.put, List.setIfInBounds_toArray, List.set_cons_zero, List.set_cons_succ]
  refine wpAnyH_tk 7 _ (some 22) (.int .i64 j) rfl rfl (by kernel_rfl) (by kernel_rfl) (by kernel_rfl) (fun _ _ _ h => h) (Or.inl ⟨by rfl, fun X hX => by (obtain ⟨_, _, q2, q3, _⟩ := hX; go_simp)⟩) hS0 ?_
  simp only [Act.put, List.setIfInBounds_toArray, List.set_cons_zero, List.set_cons_succ]
  refine wpAnyH_ready (rs := [8, 9]) (by kernel_rfl) (by simp) ?_
  refine AllReadyH.cons rfl (fun K hK => ?_) (AllReadyH.cons rfl (fun K hK => ?_) AllReadyH.nil)
  ·go_simp
   refine (IC X0 hS0.2.2.2.2.2).mono ?_
   rintro e w2 ⟨t, tcs, rfl, htv, htt, hk2⟩
   obtain ⟨k1, n1, ta, tn, tc, rfl⟩ := htv.form
   have hS1 := hSk _ _ hS0 hk2
   refine hK.out _ _ hS1 (fun _ => ?_)
   clear hK K
   refine wpAnyH_ready (rs := [9]) (by kernel_rfl) (by simp) ?_
   refine AllReadyH.cons rfl (fun K hK => ?_) AllReadyH.nil
   rw [if_pos (by rfl)]
   go_simp
   have hz1 : (w2.alloc (.cells #[.int .u8 0, .int .i64 0, .slice none 0 0] 75)).heap[w2.heap.size]? = some (.cells #[.int .u8 0, .int .i64 0, .slice none 0 0] 75 (0, 0)) := heap_alloc_new w2 _
   have hk3 : Keeps [] w2 (w2.alloc (.cells #[.int .u8 0, .int .i64 0, .slice none 0 0] 75)) := (Keeps.refl [] w2).alloc _
   have hk4 : Keeps [] w2 ((w2.alloc (.cells #[.int .u8 0, .int .i64 0, .slice none 0 0] 75)).setRow w2.heap.size #[.int .u8 k1, .int .i64 n1, .slice ta tn tc]) := hk3.setRow (Or.inr (Nat.le_refl _)) _
   have hrow : ((w2.alloc (.cells #[.int .u8 0, .int .i64 0, .slice none 0 0] 75)).setRow w2.heap.size #[.int .u8 k1, .int .i64 n1, .slice ta tn tc]).heap[w2.heap.size]? = some (.cells #[.int .u8 k1, .int .i64 n1, .slice ta tn tc] 75 (0, 0)) := setRow_heap _ _ _ _ _ _ hz1
   refine hK.out _ _ (hSk _ _ hS1 hk3) (fun _ => ?_)
   clear hK K
   refine wpAnyH_ready (rs := [10]) (by kernel_rfl) (by simp) ?_
   refine AllReadyH.cons rfl (fun K hK => ?_) AllReadyH.nil
   rw [if_pos (by rfl)]
   refine wp_store_row 75 _ _ rfl w2.heap.size #[.int .u8 k1, .int .i64 n1, .slice ta tn tc] rfl rfl _ _ hz1 (info3 _ _ _) rfl (all3 rfl rfl rfl) (hK.out _ _ (hSk _ _ hS1 hk4) (fun _ => ?_))
   refine wpAnyH_done (by kernel_rfl) ?_ _
   have hs0 := hS0.2.2.2.2.2.size
   have hs2 := hk2.size
   have htv4 := (htv.mono (S' := fun z => w1.heap.size ≤ z ∧ z ≠ w2.heap.size) fun z hz hz2 => by omega).keep hk4 (by simp)
   have hkE := (hSk _ _ hS1 hk4).2.2.2.2.2
   go_wp2_with fail
   go_meet
   case rel => exact ⟨w2.heap.size, t, k1, n1, ta, tn, tc, rfl, hrow, htv4, htt, by omega, hkE⟩
  ·rw [if_pos (by rfl)]
   go_simp
   have hz1 : (X0.alloc (.cells #[.int .u8 0, .int .i64 0, .slice none 0 0] 75)).heap[X0.heap.size]? = some (.cells #[.int .u8 0, .int .i64 0, .slice none 0 0] 75 (0, 0)) := heap_alloc_new X0 _
   have hk3 : Keeps [] X0 (X0.alloc (.cells #[.int .u8 0, .int .i64 0, .slice none 0 0] 75)) := (Keeps.refl [] X0).alloc _
   have hX0s : X0.heap.size < (X0.alloc (.cells #[.int .u8 0, .int .i64 0, .slice none 0 0] 75)).heap.size := by simp
   have hS1 := hSk _ _ hS0 hk3
   refine hK.out _ _ hS1 (fun _ => ?_)
   clear hK K
   have hs0 := hS0.2.2.2.2.2.size
   generalize X0.alloc (.cells #[.int .u8 0, .int .i64 0, .slice none 0 0] 75) = X1 at *
   obtain ⟨gt, hgt⟩ : ∃ g, g = X0.heap.size := ⟨_, rfl⟩
   rw [← hgt] at hz1 ⊢
   have hgtl : w1.heap.size ≤ gt := by omega
   have hgtX : gt < X1.heap.size := by omega
   clear hgt
   refine wpAnyH_ready (rs := [8]) (by kernel_rfl) (by simp) ?_
   refine AllReadyH.cons rfl (fun K hK => ?_) AllReadyH.nil
   go_simp
   refine (IC X1 hS1.2.2.2.2.2).mono ?_
   rintro e w2 ⟨t, tcs, rfl, htv, htt, hk2⟩
   obtain ⟨k1, n1, ta, tn, tc, rfl⟩ := htv.form
   have hS2 := hSk _ _ hS1 hk2
   have hz2 := (hk2.block gt hgtX (by simp)).trans hz1
   refine hK.out _ _ hS2 (fun _ => ?_)
   clear hK K
   refine wpAnyH_ready (rs := [10]) (by kernel_rfl) (by simp) ?_
   refine AllReadyH.cons rfl (fun K hK => ?_) AllReadyH.nil
   rw [if_pos (by rfl)]
   have hk4 : Keeps [gt] w2 (w2.setRow gt #[.int .u8 k1, .int .i64 n1, .slice ta tn tc]) := (Keeps.refl [gt] w2).setRow (g := gt) (by simp) _
   have hrow : (w2.setRow gt #[.int .u8 k1, .int .i64 n1, .slice ta tn tc]).heap[gt]? = some (.cells #[.int .u8 k1, .int .i64 n1, .slice ta tn tc] 75 (0, 0)) := setRow_heap _ _ _ _ _ _ hz2
   have hkE : Keeps [] w1 (w2.setRow gt #[.int .u8 k1, .int .i64 n1, .slice ta tn tc]) := hS2.2.2.2.2.2.setRow (Or.inr hgtl) _
   have hS3 := hSk _ _ ⟨(hkD1.block g0 (by omega) (by simp)).symm.trans hS0.1, h1w, (World.cell?_of_block (hkD1.block g2 (by omega) (by simp))).symm.trans hS0.2.2.1, (World.cell?_of_block (hkD1.block g3 (by omega) (by simp))).symm.trans hS0.2.2.2.1, hrg, Keeps.refl [] w1⟩ hkE
   refine wp_store_row 75 _ _ rfl gt #[.int .u8 k1, .int .i64 n1, .slice ta tn tc] rfl rfl _ _ hz2 (info3 _ _ _) rfl (all3 rfl rfl rfl) (hK.out _ _ hS3 (fun _ => ?_))
   refine wpAnyH_done (by kernel_rfl) ?_ _
   have htv4 := (htv.mono (S' := fun z => w1.heap.size ≤ z ∧ z ≠ gt) fun z hz hz2 => by omega).keep hk4 (by intro z hz; simp; exact hz.2)
   go_wp2_with fail
   go_meet
   case rel => exact ⟨gt, t, k1, n1, ta, tn, tc, rfl, hrow, htv4, htt, hgtl, hkE⟩
 case rest =>
  obtain ⟨gt, t, k1, n1, ta, tn, tc, rfl, hrow, htv, htt, hgtl, hkE⟩ := hcut
  obtain ⟨w3, hw3⟩ : ∃ w3 : World, w3 = wc := ⟨_, rfl⟩
  subst hw3
  have h4z := (hkE.block g4 (by omega) (by simp)).trans h4w
  have h1z := (hkE.block g1 hg1w1 (by simp)).trans h1w
  have b0 : w3.cell? ⟨g1, 0, none⟩ = some (.slice (some ⟨gv, 0, none⟩) vn vc) := by rw [Lib.cell_of_heap h1z]; rfl
  have hkA := hkw1.trans hkE
  have hw13 := hkE.size
  have hgt3 : gt < w3.heap.size := (Array.getElem?_eq_some_iff.1 hrow).1
  by_cases hone : vn = 1
  ·have hv1 : ((vn : Int) == 1) = true := by simp [hone]
   have HTT : Hid (TT s (.node x) i j t) := by
    obtain ⟨z, rfl⟩ := isW_one hW (by have := HL.out; omega)
    have hp00 : p = 0 := by omega
    subst hp00
    simp [wl] at hy
    subst hy
    exact .wone _ i j t htt
   have hkS : Keeps [g4] w3 (w3.setRow g4 #[.int .u8 (k1 : Nat), .int .i64 (n1 : Nat), .slice ta tn tc]) := (Keeps.refl [g4] _).setRow (g := g4) (by simp) _
   clear hone
   go_wp2_with (first | (refine wpList_load_row rfl 75 _ rfl gt rfl _ _ _ _ hrow Tryz.underlying75 rfl (info3 _ _ _) ?_) | (refine wpList_store_row rfl 75 _ _ rfl g4 #[.int .u8 (k1 : Nat), .int .i64 (n1 : Nat), .slice ta tn tc] rfl rfl _ _ h4z (info3 _ _ _) rfl (all3 rfl rfl rfl) ?_))
   refine bodyPost_ret (results_cell_row rfl _ _ g4 _ _ _ _ rfl (setRow_heap _ _ _ _ _ _ h4z) Tryz.underlying75 rfl (info3 _ _ _)) rfl ?_
   exact ⟨t, [.int .u8 (k1 : Nat), .int .i64 (n1 : Nat), .slice ta tn tc], rfl, (htv.keep hkS (by intro z hz; simp; omega)).mono fun z hz _ => by omega, HTT.out, hkA.setRow (Or.inr hg4w) _⟩
  ·have hv1 : ((vn : Int) == 1) = false := by simp; omega
   have HTT : Hid (TT s (.node x) i j (.talt p t)) := by
    have h := TT.alts (q := 0) hW hy hmy hno htt
    rw [Nat.zero_add] at h
    show TT s (.node x) i j (.talt p t)
    obtain ⟨z, q, rfl⟩ := isW_more hW (by have := HL.out; omega)
    exact .wcons z q i j _ h
   have hk5 : Keeps [] w3 (w3.alloc (.cells #[.int .u8 (k1 : Nat), .int .i64 (n1 : Nat), .slice ta tn tc] 75)) := (Keeps.refl [] w3).alloc _
   have hone5 : (w3.alloc (.cells #[.int .u8 (k1 : Nat), .int .i64 (n1 : Nat), .slice ta tn tc] 75)).ownsRow 0 75 3 (.slice (some ⟨w3.heap.size, 0, none⟩) 1 1) 1 [.int .u8 (k1 : Nat), .int .i64 (n1 : Nat), .slice ta tn tc] := oneTree rfl
   have h4y := (hk5.block g4 (by omega) (by simp)).trans h4z
   have htv5 := htv.keep hk5 (by simp)
   have hkB := hkA.trans hk5
   have hkS : Keeps [g4] (w3.alloc (.cells #[.int .u8 (k1 : Nat), .int .i64 (n1 : Nat), .slice ta tn tc] 75)) ((w3.alloc (.cells #[.int .u8 (k1 : Nat), .int .i64 (n1 : Nat), .slice ta tn tc] 75)).setRow g4 #[.int .u8 97, .int .i64 p, .slice (some ⟨w3.heap.size, 0, none⟩) 1 1]) := (Keeps.refl [g4] _).setRow (g := g4) (by simp) _
   clear hone
   go_wp2_with (first | (refine wpList_load_row rfl 75 _ rfl gt rfl _ _ _ _ hrow Tryz.underlying75 rfl (info3 _ _ _) ?_) | (refine wpList_store_row rfl 75 _ _ rfl g4 #[.int .u8 97, .int .i64 p, .slice (some ⟨w3.heap.size, 0, none⟩) 1 1] rfl rfl _ _ h4y (info3 _ _ _) rfl (all3 rfl rfl rfl) ?_))
   refine bodyPost_ret (results_cell_row rfl _ _ g4 _ _ _ _ rfl (setRow_heap _ _ _ _ _ _ h4y) Tryz.underlying75 rfl (info3 _ _ _)) rfl ?_
   refine ⟨.talt p t, [.int .u8 97, .int .i64 p, .slice (some ⟨w3.heap.size, 0, none⟩) 1 1], rfl, ?_, HTT.out, hkB.setRow (Or.inr hg4w) _⟩
   refine .talt p t _ _ ((htv5.keep hkS (by intro z hz; simp; omega)).mono fun z hz _ => by omega) (hone5.keep hkS (by intro z hz; simp only [Value.ownBlock, Option.some.injEq] at hz; simp; omega)) ?_
   intro z hz
   simp only [Value.ownBlock, Option.some.injEq] at hz
   omega
end Go.Proofs.YtnfojonmohijpabGreatDoor
namespace Go.Proofs.YtnfojonmohijpabGreatDoor
open Go.RowKit
set_option maxRecDepth 100000 in
set_option maxHeartbeats 1000000 in
theorem mul64_any (k : Nat) (hk : k ≤ 1000) (w : World) : Calls Tryz.prog 134 #[.int .u64 1, .int .u64 k] w fun e w' => e = .returned (.tuple #[.int .u64 0, .int .u64 k]) ∧ w' = w := by
 have h1 : bits .and .u64 (k : Int) 4294967295 = (k : Int) := by
  have := u64_and_nat k 4294967295 (by omega) (by decide)
  rw [show ((4294967295 : Nat) : Int) = 4294967295 from rfl] at this
  rw [this, show (4294967295 : Nat) = 2 ^ 32 - 1 from rfl, Nat.and_two_pow_sub_one_eq_mod]
  have : k % 2 ^ 32 = k := Nat.mod_eq_of_lt (by omega)
  rw [this]
 have h2 : (k : Int) / 4294967296 = 0 := by omega
 have h3 : bits .and .u64 1 4294967295 = 1 := by decide
 have h4 : bits .and .u64 0 4294967295 = 0 := by decide
 have h0 : (0 : Int) ≤ (k : Int) := by omega
 have h9 : (k : Int) ≤ 1000 := by omega
 go_enter Tryz.func134, Tryz.ntmps134
 go_wp2_with fail
 go_ret2
 exact ⟨rfl, rfl⟩
set_option maxRecDepth 100000 in
set_option maxHeartbeats 1000000 in
theorem mul_any (k : Nat) (hk : k ≤ 1000) (w : World) : Calls Tryz.prog 112 #[.int .u64 1, .int .u64 k] w fun e w' => e = .returned (.tuple #[.int .u64 0, .int .u64 k]) ∧ w' = w := by
 go_enter Tryz.func112, Tryz.ntmps112
 go_wp2_with (first | (go_at_call 134; refine (mul64_any k hk _).mono ?_; rintro e w1 ⟨rfl, rfl⟩))
 go_ret2
 exact ⟨rfl, rfl⟩
theorem run_copy_many {P : Program} (w : World) (dT sT ty elem : TypeId) (size b o dLen dCap : Nat) (a : Addr) (sLen sCap n : Nat) (cs : List Value)
    (hu : P.underlying dT = some (.slice elem)) (hs : (P.info? elem).map (·.size) = some size) (hn : Nat.min sLen dLen = n) (hl : cs.length = n * size)
    (hsrc : ∀ j v, cs[j]? = some v → w.cell? (a.add j) = some v) (hc : w.there b o cs.length) (h1 : ∀ v ∈ cs, v.oneCell' = true) :
    (Builtin.copy_ #[dT, sT] ty #[.slice (some ⟨b, o, none⟩) dLen dCap, .slice (some a) sLen sCap]).run P w = .ok (goInt n) (w.setCells b o cs) := by
 have hlo := run_loadCells_list (P := P) w a cs hsrc
 have hst := run_storeCells_cells (P := P) b o cs 0 w (by simpa using fun j hj => (hc j hj).1) (by simpa using fun j hj => (hc j hj).2) h1
 rw [hl] at hlo
 cases hq : P.info? elem with
 | none => simp [hq] at hs
 | some i =>
  have hi : i.size = size := by simpa [hq] using hs
  simp [Builtin.copy_, run_underlying hu, Builtin.lenOf, Builtin.firstCells, sizeOf, typeInfo, hq, hi, hn, hlo, hst]
theorem wp_copy_many {P : Program} {o : Oper} {a : Act} {w : World} {K : Act → World → Prop} {Q : Exit → Act → World → Prop} (d : Option Tmp) (hd : o.dst = d) (x y : Operand) (dT sT : TypeId) (ho : o.op = .call { callee := .builtin .copy, args := #[x, y], argTypes := #[dT, sT] })
    (elem : TypeId) (size b off dLen dCap : Nat) (ad : Addr) (sLen sCap n : Nat) (cs : List Value) (hx : a.eval x = .slice (some ⟨b, off, none⟩) dLen dCap) (hy : a.eval y = .slice (some ad) sLen sCap)
    (hu : P.underlying dT = some (.slice elem)) (hs : (P.info? elem).map (·.size) = some size) (hn : Nat.min sLen dLen = n) (hl : cs.length = n * size)
    (hsrc : ∀ j v, cs[j]? = some v → w.cell? (ad.add j) = some v) (hc : w.there b off cs.length) (h1 : ∀ v ∈ cs, v.oneCell' = true)
    (h : K (a.put d (goInt n)) (w.setCells b off cs)) : o.wp P a w K Q := by
 subst hd
 have hr := run_copy_many (P := P) w dT sT o.type elem size b off dLen dCap ad sLen sCap n cs hu hs hn hl hsrc hc h1
 unfold Oper.wp execOp
 simp only [ho, resolve, invoke, builtin, Sem.run_bind, Sem.run_pure, Result.andThen_ok, List.map_toArray, List.map_cons, List.map_nil, hx, hy, hr]
 exact h
theorem wpList_copy_many {P : Program} {ops : Array Oper} {rest : List Oper} {o : Oper} {a : Act} {w : World} {Q : Exit → Act → World → Prop} (hgd : o.guard = none) (d : Option Tmp) (hd : o.dst = d) (x y : Operand) (dT sT : TypeId) (ho : o.op = .call { callee := .builtin .copy, args := #[x, y], argTypes := #[dT, sT] })
    (elem : TypeId) (size b off dLen dCap : Nat) (ad : Addr) (sLen sCap n : Nat) (cs : List Value) (hx : a.eval x = .slice (some ⟨b, off, none⟩) dLen dCap) (hy : a.eval y = .slice (some ad) sLen sCap)
    (hu : P.underlying dT = some (.slice elem)) (hs : (P.info? elem).map (·.size) = some size) (hn : Nat.min sLen dLen = n) (hl : cs.length = n * size)
    (hsrc : ∀ j v, cs[j]? = some v → w.cell? (ad.add j) = some v) (hc : w.there b off cs.length) (h1 : ∀ v ∈ cs, v.oneCell' = true)
    (h : wpList P ops Q rest (a.put d (goInt n)) (w.setCells b off cs)) : wpList P ops Q (o :: rest) a w :=
 wpList_plain hgd fun _ hK => wp_copy_many d hd x y dT sT ho elem size b off dLen dCap ad sLen sCap n cs hx hy hu hs hn hl hsrc hc h1 (hK _ _ h)
theorem over_low : ∀ (vs xs : List Value) (p q : Nat), q < p → (over xs p vs)[q]? = xs[q]? := by
 intro vs
 induction vs with
 | nil => intro xs p q _; rfl
 | cons u vs ih => intro xs p q hq; simp only [over]; rw [ih _ _ _ (by omega), List.getElem?_set_ne (by omega)]
theorem over_take {vs xs : List Value} {o : Nat} (h : o + vs.length ≤ xs.length) : (over xs o vs).take (o + vs.length) = xs.take o ++ vs := by
 rw [List.take_add, over_drop vs xs o h, List.take_left]
 congr 1
 apply List.ext_getElem?
 intro q
 by_cases hq : q < o
 ·rw [List.getElem?_take_of_lt hq, List.getElem?_take_of_lt hq, over_low _ _ _ _ hq]
 ·rw [List.getElem?_eq_none (by rw [List.length_take]; omega), List.getElem?_eq_none (by rw [List.length_take]; omega)]
theorem rep_len (cs : List Value) (n : Nat) : (List.replicate n cs).flatten.length = n * cs.length := by
 induction n with
 | zero => simp
 | succ n ih => simp [List.replicate_succ, Nat.add_mul, Nat.add_comm]
theorem rep_add (cs : List Value) (n m : Nat) : (List.replicate (n + m) cs).flatten = (List.replicate n cs).flatten ++ (List.replicate m cs).flatten := by
 rw [← List.flatten_append, List.replicate_append_replicate]
theorem rep_take (cs : List Value) {n m : Nat} (h : m ≤ n) : (List.replicate n cs).flatten.take (m * cs.length) = (List.replicate m cs).flatten := by
 rw [show n = m + (n - m) by omega, rep_add, ← rep_len cs m, List.take_left]
end Go.Proofs.YtnfojonmohijpabGreatDoor
namespace Go.Proofs.YtnfojonmohijpabGreatDoor
open Go.RowKit
theorem infoIntR : (Tryz.prog.info? 3).map (fun i => (i.zero, i.size, i.bytes)) = some (some (.int .i64 0), 1, 8) := by kernel_rfl
set_option maxRecDepth 100000 in
set_option maxHeartbeats 2000000 in
theorem repeatInt_any (cs : List Value) (k g c : Nat) (w : World) (hcs : cs.length = 1) (h1c : ∀ u ∈ cs, u.oneCell' = true) (hk1 : 1 ≤ k) (hk5 : k ≤ 100) (hx : w.ownsRow 0 3 1 (.slice (some ⟨g, 0, none⟩) 1 c) 1 cs) :
    Calls Tryz.prog 74 #[.slice (some ⟨g, 0, none⟩) 1 c, .int .i64 k] w fun e w' => ∃ g', e = .returned (.slice (some ⟨g', 0, none⟩) k k) ∧ w'.ownsRow 0 3 1 (.slice (some ⟨g', 0, none⟩) k k) k (List.replicate k cs).flatten ∧ w.heap.size ≤ g' ∧ Keeps [] w w' := by
 obtain ⟨i0, hi0, hz0, hz1, hz2⟩ := info_parts infoIntR
 have hun := Tryz.underlying22
 have hsz : (Tryz.prog.info? 3).map (·.size) = some 1 := by rw [hi0]; simp [hz1]
 have hk0 : (0 : Int) ≤ (k : Int) := by omega
 have hkm : (k : Int) ≤ 100 := by omega
 have hnk : ¬ (k : Int) < 0 := by omega
 have hkd : decide ((9223372036854775807 : Int) < (k : Int)) = false := by simp; omega
 have hgl : g < w.heap.size := (World.ownsRow.lt hx g rfl).2
 have huw : IntKind.u64.wrap (k : Int) = (k : Int) := by
  have : IntKind.u64.wrap (k : Int) = (k : Int) % 18446744073709551616 := by simp [IntKind.wrap, IntKind.bits, IntKind.signed]
  rw [this]
  omega
 go_enter Tryz.func74, Tryz.ntmps74
 go_wp2_with (first | (go_at_call 112; refine (mul_any k (by omega) _).mono ?_; rintro e w1 ⟨rfl, hw1⟩; rw [hw1]; clear hw1 w1) | (refine wpList_make_full w rfl _ _ 22 rfl 0 3 i0 (.int .i64 0) 1 hun hi0 hz0 hz1 .i64 .i64 (k : Int) (k : Int) k rfl rfl rfl rfl (by rw [hz2]; omega) (by unfold maxLen; omega) (Nat.zero_le _) ?_))
 intro w1 hown hgr
 have hk1' : Keeps [] w w1 := Keeps.ofGrownNone hgr
 obtain ⟨gN, hgN⟩ : ∃ g, g = w.heap.size := ⟨_, rfl⟩
 rw [← hgN] at hown ⊢
 have hgNw : w.heap.size ≤ gN := by omega
 have hgg : gN ≠ g := by omega
 clear hgN hgr
 generalize (madeCells _ _).toList = zs at hown
 have hzl : zs.length = k * 1 := hown.1
 have hx1 := hx.keep hk1' (by simp)
 have hth : ∀ (W : World) (xs : List Value) (o l : Nat), W.ownsRow 0 3 1 (.slice (some ⟨gN, 0, none⟩) k k) k xs → o + l ≤ k * 1 → W.there gN o l := by
  intro W xs o l hW hol q hq
  have hl := hW.1
  exact ⟨by rw [World.ownsRow.cellAt hW (o + q) (by omega), List.getElem?_eq_getElem (by omega)]; rfl, World.ownsRow.frozenAt hW _⟩
 have hsrc0 : ∀ q v, cs[q]? = some v → w1.cell? ((⟨g, 0, none⟩ : Addr).add q) = some v := World.ownsRow.cells hx1 rfl
 have hmin0 : Nat.min 1 k = 1 := by simp [Nat.min_def]; omega
 have hown0 := ownsOver cs w1 zs 0 hown
 have htk0 : (over zs 0 cs).take (1 * 1) = (List.replicate 1 cs).flatten := by
  have := over_take (vs := cs) (xs := zs) (o := 0) (by omega)
  rw [hcs, Nat.zero_add] at this
  simpa using this
 have hkp0 : Keeps [] w (w1.setCells gN 0 cs) := Keeps.setCells (by simp; omega) cs w1 0 hk1'
 have hcl : cs.length = 1 * 1 := by omega
 have hth0 := hth w1 zs 0 cs.length hown (by rw [hcs]; omega)
 clear hx hx1
 go_wp2_with (first | (refine wpList_copy_many rfl (some 33) rfl (.tmp 31) (.tmp 32) 22 22 rfl 3 1 gN 0 k k ⟨g, 0, none⟩ 1 c 1 cs rfl rfl hun hsz hmin0 hcl hsrc0 hth0 h1c ?_; generalize w1.setCells gN 0 cs = w2 at *))
 go_loopw [8] (fun q wr => ∃ (n : Nat) (xs : List Value), 1 ≤ n ∧ n ≤ k ∧ q = .int .i64 n ∧ wr.ownsRow 0 3 1 (.slice (some ⟨gN, 0, none⟩) k k) k xs ∧ xs.take (n * 1) = (List.replicate n cs).flatten ∧ Keeps [] w wr) (fun q _ => k - (intOf q).toNat)
 case atStart => exact ⟨1, _, Nat.le_refl _, hk1, rfl, hown0, htk0, hkp0⟩
 case round =>
  clear hown0 htk0 hkp0 hown hsrc0 hth0
  obtain ⟨n, xs, hn1, hnk2, rfl, ho, ht, hK⟩ := hrel
  have hxl : xs.length = k * 1 := ho.1
  by_cases hlt : n < k
  ·have hn0 : (0 : Int) ≤ (n : Int) := by omega
   have hn2 : (n : Int) < (k : Int) := by omega
   have hn3 : (n : Int) ≤ (k : Int) := by omega
   have hne : ¬ k = n := by omega
   obtain ⟨m, hm⟩ : ∃ m, m = Nat.min n (k - n) := ⟨_, rfl⟩
   have hm1 : 1 ≤ m ∧ m ≤ n ∧ n + m ≤ k := by rw [hm]; simp only [Nat.min_def]; split <;> omega
   obtain ⟨n2, hn22⟩ : ∃ n2, n2 = n + m := ⟨_, rfl⟩
   have hwr : IntKind.i64.wrap ((n : Int) + (m : Int)) = (n2 : Int) := by rw [wrap_small (by omega) (by omega)]; omega
   have hfl : (List.replicate m cs).flatten.length = m * 1 := by rw [rep_len, hcs]
   have hsrc : ∀ q v, (List.replicate m cs).flatten[q]? = some v → wr.cell? ((⟨gN, 0, none⟩ : Addr).add q) = some v := by
    intro q v hv
    have hq : q < m * 1 := by rw [← hfl]; exact (List.getElem?_eq_some_iff.1 hv).1
    have e1 : (⟨gN, 0, none⟩ : Addr).add q = ⟨gN, q, none⟩ := by rw [add_off, Nat.zero_add]
    rw [e1, World.ownsRow.cellAt ho q (by omega)]
    have h2 : xs[q]? = (xs.take (n * 1))[q]? := by rw [List.getElem?_take_of_lt (by omega)]
    rw [h2, ht]
    rw [← rep_take cs hm1.2.1, hcs, List.getElem?_take_of_lt hq] at hv
    exact hv
   have h1r : ∀ u ∈ (List.replicate m cs).flatten, u.oneCell' = true := by
    intro u hu
    rw [List.mem_flatten] at hu
    obtain ⟨l, hl, hu⟩ := hu
    rw [List.eq_of_mem_replicate hl] at hu
    exact h1c u hu
   have hthr := hth wr xs (n * 1) (List.replicate m cs).flatten.length ho (by rw [hfl]; omega)
   have ho2 := ownsOver (List.replicate m cs).flatten wr xs (n * 1) ho
   have ht2 : (over xs (n * 1) (List.replicate m cs).flatten).take (n2 * 1) = (List.replicate n2 cs).flatten := by
    have := over_take (vs := (List.replicate m cs).flatten) (xs := xs) (o := n * 1) (by rw [hfl]; omega)
    rw [hfl, ht] at this
    rw [hn22, rep_add, ← this]
    congr 1
    omega
   have hK2 : Keeps [] w (wr.setCells gN (n * 1) (List.replicate m cs).flatten) := Keeps.setCells (by simp; omega) _ wr _ hK
   have HN : Hid (1 ≤ n2 ∧ n2 ≤ k ∧ n < n2) := ⟨by omega, by omega, by omega⟩
   have hmm : Nat.min n (k - n) = m := hm.symm
   generalize (List.replicate m cs).flatten = fl at *
   have hK3 : Keeps [] w (wr.drew.setCells gN (n * 1) fl) := Keeps.setCells (by simp; omega) _ wr.drew _ (hK.drewN 1)
   have hfin : (wr.drew.setCells gN (n * 1) fl).ownsRow 0 3 1 (.slice (some ⟨gN, 0, none⟩) k k) k (over xs (n * 1) fl) := ownsOver fl wr.drew xs (n * 1) (World.ownsRow.drew ho)
   clear hm hn22 hlt hnk2 hn1 ht ho ho2 hK2
   go_upto_region 9 with (fail)
   refine wp_region_held (S := fun _ => True) (by kernel_rfl) ?_
   change wpAnyH _ _ _ _ _ _ _ _ (World.drew _)
   refine wpAnyH_tk 0 _ (some 38) (.int .i64 n) rfl rfl (by kernel_rfl) (by kernel_rfl) (by kernel_rfl) (fun _ _ _ h => h) (Or.inl ⟨by rfl, fun X hX => by go_simp⟩) trivial ?_
   simp only [Act.put, List.setIfInBounds_toArray, List.set_cons_zero, List.set_cons_succ]
   refine wpAnyH_tk 1 _ (some 39) (.slice (some ⟨gN, 0, none⟩) k k) rfl rfl (by kernel_rfl) (by kernel_rfl) (by kernel_rfl) (fun _ _ _ h => h) (Or.inl ⟨by rfl, fun X hX => by go_simp⟩) trivial ?_
   simp only [Act.put, List.setIfInBounds_toArray, List.set_cons_zero, List.set_cons_succ]
   refine wpAnyH_tk 2 _ (some 40) (.int .i64 n) rfl rfl (by kernel_rfl) (by kernel_rfl) (by kernel_rfl) (fun _ _ _ h => h) (Or.inl ⟨by rfl, fun X hX => by go_simp⟩) trivial ?_
   simp only [Act.put, List.setIfInBounds_toArray, List.set_cons_zero, List.set_cons_succ]
   refine wpAnyH_tk 3 _ (some 41) (.slice (some ⟨gN, n * 1, none⟩) (k - n) (k - n)) rfl rfl (by kernel_rfl) (by kernel_rfl) (by kernel_rfl) (fun _ _ _ h => h) (Or.inl ⟨by rfl, fun X hX => by go_simp⟩) trivial ?_
   simp only [Act.put, List.setIfInBounds_toArray, List.set_cons_zero, List.set_cons_succ]
   refine wpAnyH_tk 4 _ (some 42) (.slice (some ⟨gN, 0, none⟩) k k) rfl rfl (by kernel_rfl) (by kernel_rfl) (by kernel_rfl) (fun _ _ _ h => h) (Or.inl ⟨by rfl, fun X hX => by go_simp⟩) trivial ?_
   simp only [Act.put, List.setIfInBounds_toArray, List.set_cons_zero, List.set_cons_succ]
   refine wpAnyH_tk 5 _ (some 43) (.int .i64 n) rfl rfl (by kernel_rfl) (by kernel_rfl) (by kernel_rfl) (fun _ _ _ h => h) (Or.inl ⟨by rfl, fun X hX => by go_simp⟩) trivial ?_
   simp only [Act.put, List.setIfInBounds_toArray, List.set_cons_zero, List.set_cons_succ]
   refine wpAnyH_tk 6 _ (some 44) (.slice (some ⟨gN, 0, none⟩) n k) rfl rfl (by kernel_rfl) (by kernel_rfl) (by kernel_rfl) (fun _ _ _ h => h) (Or.inl ⟨by rfl, fun X hX => by go_simp⟩) trivial ?_
   simp only [Act.put, List.setIfInBounds_toArray, List.set_cons_zero, List.set_cons_succ]
   refine wpAnyH_ready (rs := [7]) (by kernel_rfl) (by simp) ?_
   refine AllReadyH.cons rfl (fun K hK => ?_) AllReadyH.nil
   rw [if_pos (by rfl)]
   refine wp_copy_many (some 45) rfl (.tmp 41) (.tmp 44) 22 22 rfl 3 1 gN (n * 1) (k - n) (k - n) ⟨gN, 0, none⟩ n k m fl rfl rfl hun hsz hmm hfl hsrc hthr h1r (hK.out _ _ trivial (fun _ => ?_))
   clear hK K
   simp only [goInt]
   simp only [Act.put, List.setIfInBounds_toArray, List.set_cons_zero, List.set_cons_succ]
   refine wpAnyH_tk 8 _ (some 46) (.int .i64 n2) rfl rfl (by kernel_rfl) (by kernel_rfl) (by kernel_rfl) (fun _ _ _ h => h) (Or.inl ⟨by rfl, fun X hX => by go_simp⟩) trivial ?_
   simp only [Act.put, List.setIfInBounds_toArray, List.set_cons_zero, List.set_cons_succ]
   refine wpAnyH_tk 9 _ (some 8) (.int .i64 n2) rfl rfl (by kernel_rfl) (by kernel_rfl) (by kernel_rfl) (fun _ _ _ h => h) (Or.inl ⟨by rfl, fun X hX => by go_simp⟩) trivial ?_
   simp only [Act.put, List.setIfInBounds_toArray, List.set_cons_zero, List.set_cons_succ]
   refine wpAnyH_done (by kernel_rfl) ?_ _
   generalize wr.drew.setCells gN (n * 1) fl = w5 at *
   clear hsrc hthr
   go_wp2_with fail
   go_roundw
   case rel => exact ⟨n2, _, HN.out.1, HN.out.2.1, rfl, hfin, ht2, hK3⟩
   case measure => have := HN.out; simp [intOf]; omega
  ·have he : n = k := by omega
   have hni : ¬ (n : Int) < (k : Int) := by omega
   have hfin : wr.ownsRow 0 3 1 (.slice (some ⟨gN, 0, none⟩) k k) k (List.replicate k cs).flatten := by
    rw [he, List.take_of_length_le (by omega)] at ht
    rw [← ht]
    exact ho
   clear ho ht he hlt hnk2
   go_wp2_with fail
   go_ret
   exact ⟨gN, rfl, hfin, hgNw, hK⟩
end Go.Proofs.YtnfojonmohijpabGreatDoor
namespace Go.Proofs.YtnfojonmohijpabGreatDoor
open Go.RowKit
set_option maxRecDepth 100000 in
set_option maxHeartbeats 2000000 in
theorem repeatTree_any (cs : List Value) (k g c : Nat) (w : World) (hcs : cs.length = 3) (h1c : ∀ u ∈ cs, u.oneCell' = true) (hk1 : 1 ≤ k) (hk5 : k ≤ 100) (hx : w.ownsRow 0 75 3 (.slice (some ⟨g, 0, none⟩) 1 c) 1 cs) :
    Calls Tryz.prog 132 #[.slice (some ⟨g, 0, none⟩) 1 c, .int .i64 k] w fun e w' => ∃ g', e = .returned (.slice (some ⟨g', 0, none⟩) k k) ∧ w'.ownsRow 0 75 3 (.slice (some ⟨g', 0, none⟩) k k) k (List.replicate k cs).flatten ∧ w.heap.size ≤ g' ∧ Keeps [] w w' := by
 obtain ⟨i0, hi0, hz0, hz1, hz2⟩ := info_parts infoTree
 have hun := Tryz.underlying73
 have hsz : (Tryz.prog.info? 75).map (·.size) = some 3 := by rw [hi0]; simp [hz1]
 have hk0 : (0 : Int) ≤ (k : Int) := by omega
 have hkm : (k : Int) ≤ 100 := by omega
 have hnk : ¬ (k : Int) < 0 := by omega
 have hkd : decide ((9223372036854775807 : Int) < (k : Int)) = false := by simp; omega
 have hgl : g < w.heap.size := (World.ownsRow.lt hx g rfl).2
 have huw : IntKind.u64.wrap (k : Int) = (k : Int) := by
  have : IntKind.u64.wrap (k : Int) = (k : Int) % 18446744073709551616 := by simp [IntKind.wrap, IntKind.bits, IntKind.signed]
  rw [this]
  omega
 go_enter Tryz.func132, Tryz.ntmps132
 go_wp2_with (first | (go_at_call 112; refine (mul_any k (by omega) _).mono ?_; rintro e w1 ⟨rfl, hw1⟩; rw [hw1]; clear hw1 w1) | (refine wpList_make_full w rfl _ _ 73 rfl 0 75 i0 (.agg #[.int .u8 0, .int .i64 0, .slice none 0 0]) 3 hun hi0 hz0 hz1 .i64 .i64 (k : Int) (k : Int) k rfl rfl rfl rfl (by rw [hz2]; omega) (by unfold maxLen; omega) (Nat.zero_le _) ?_))
 intro w1 hown hgr
 have hk1' : Keeps [] w w1 := Keeps.ofGrownNone hgr
 obtain ⟨gN, hgN⟩ : ∃ g, g = w.heap.size := ⟨_, rfl⟩
 rw [← hgN] at hown ⊢
 have hgNw : w.heap.size ≤ gN := by omega
 have hgg : gN ≠ g := by omega
 clear hgN hgr
 generalize (madeCells _ _).toList = zs at hown
 have hzl : zs.length = k * 3 := hown.1
 have hx1 := hx.keep hk1' (by simp)
 have hth : ∀ (W : World) (xs : List Value) (o l : Nat), W.ownsRow 0 75 3 (.slice (some ⟨gN, 0, none⟩) k k) k xs → o + l ≤ k * 3 → W.there gN o l := by
  intro W xs o l hW hol q hq
  have hl := hW.1
  exact ⟨by rw [World.ownsRow.cellAt hW (o + q) (by omega), List.getElem?_eq_getElem (by omega)]; rfl, World.ownsRow.frozenAt hW _⟩
 have hsrc0 : ∀ q v, cs[q]? = some v → w1.cell? ((⟨g, 0, none⟩ : Addr).add q) = some v := World.ownsRow.cells hx1 rfl
 have hmin0 : Nat.min 1 k = 1 := by simp [Nat.min_def]; omega
 have hown0 := ownsOver cs w1 zs 0 hown
 have htk0 : (over zs 0 cs).take (1 * 3) = (List.replicate 1 cs).flatten := by
  have := over_take (vs := cs) (xs := zs) (o := 0) (by omega)
  rw [hcs, Nat.zero_add] at this
  simpa using this
 have hkp0 : Keeps [] w (w1.setCells gN 0 cs) := Keeps.setCells (by simp; omega) cs w1 0 hk1'
 have hcl : cs.length = 1 * 3 := by omega
 have hth0 := hth w1 zs 0 cs.length hown (by rw [hcs]; omega)
 clear hx hx1
 go_wp2_with (first | (refine wpList_copy_many rfl (some 33) rfl (.tmp 31) (.tmp 32) 73 73 rfl 75 3 gN 0 k k ⟨g, 0, none⟩ 1 c 1 cs rfl rfl hun hsz hmin0 hcl hsrc0 hth0 h1c ?_; generalize w1.setCells gN 0 cs = w2 at *))
 go_loopw [8] (fun q wr => ∃ (n : Nat) (xs : List Value), 1 ≤ n ∧ n ≤ k ∧ q = .int .i64 n ∧ wr.ownsRow 0 75 3 (.slice (some ⟨gN, 0, none⟩) k k) k xs ∧ xs.take (n * 3) = (List.replicate n cs).flatten ∧ Keeps [] w wr) (fun q _ => k - (intOf q).toNat)
 case atStart => exact ⟨1, _, Nat.le_refl _, hk1, rfl, hown0, htk0, hkp0⟩
 case round =>
  clear hown0 htk0 hkp0 hown hsrc0 hth0
  obtain ⟨n, xs, hn1, hnk2, rfl, ho, ht, hK⟩ := hrel
  have hxl : xs.length = k * 3 := ho.1
  by_cases hlt : n < k
  ·have hn0 : (0 : Int) ≤ (n : Int) := by omega
   have hn2 : (n : Int) < (k : Int) := by omega
   have hn3 : (n : Int) ≤ (k : Int) := by omega
   have hne : ¬ k = n := by omega
   obtain ⟨m, hm⟩ : ∃ m, m = Nat.min n (k - n) := ⟨_, rfl⟩
   have hm1 : 1 ≤ m ∧ m ≤ n ∧ n + m ≤ k := by rw [hm]; simp only [Nat.min_def]; split <;> omega
   obtain ⟨n2, hn22⟩ : ∃ n2, n2 = n + m := ⟨_, rfl⟩
   have hwr : IntKind.i64.wrap ((n : Int) + (m : Int)) = (n2 : Int) := by rw [wrap_small (by omega) (by omega)]; omega
   have hfl : (List.replicate m cs).flatten.length = m * 3 := by rw [rep_len, hcs]
   have hsrc : ∀ q v, (List.replicate m cs).flatten[q]? = some v → wr.cell? ((⟨gN, 0, none⟩ : Addr).add q) = some v := by
    intro q v hv
    have hq : q < m * 3 := by rw [← hfl]; exact (List.getElem?_eq_some_iff.1 hv).1
    have e1 : (⟨gN, 0, none⟩ : Addr).add q = ⟨gN, q, none⟩ := by rw [add_off, Nat.zero_add]
    rw [e1, World.ownsRow.cellAt ho q (by omega)]
    have h2 : xs[q]? = (xs.take (n * 3))[q]? := by rw [List.getElem?_take_of_lt (by omega)]
    rw [h2, ht]
    rw [← rep_take cs hm1.2.1, hcs, List.getElem?_take_of_lt hq] at hv
    exact hv
   have h1r : ∀ u ∈ (List.replicate m cs).flatten, u.oneCell' = true := by
    intro u hu
    rw [List.mem_flatten] at hu
    obtain ⟨l, hl, hu⟩ := hu
    rw [List.eq_of_mem_replicate hl] at hu
    exact h1c u hu
   have hthr := hth wr xs (n * 3) (List.replicate m cs).flatten.length ho (by rw [hfl]; omega)
   have ho2 := ownsOver (List.replicate m cs).flatten wr xs (n * 3) ho
   have ht2 : (over xs (n * 3) (List.replicate m cs).flatten).take (n2 * 3) = (List.replicate n2 cs).flatten := by
    have := over_take (vs := (List.replicate m cs).flatten) (xs := xs) (o := n * 3) (by rw [hfl]; omega)
    rw [hfl, ht] at this
    rw [hn22, rep_add, ← this]
    congr 1
    omega
   have hK2 : Keeps [] w (wr.setCells gN (n * 3) (List.replicate m cs).flatten) := Keeps.setCells (by simp; omega) _ wr _ hK
   have HN : Hid (1 ≤ n2 ∧ n2 ≤ k ∧ n < n2) := ⟨by omega, by omega, by omega⟩
   have hmm : Nat.min n (k - n) = m := hm.symm
   generalize (List.replicate m cs).flatten = fl at *
   have hK3 : Keeps [] w (wr.drew.setCells gN (n * 3) fl) := Keeps.setCells (by simp; omega) _ wr.drew _ (hK.drewN 1)
   have hfin : (wr.drew.setCells gN (n * 3) fl).ownsRow 0 75 3 (.slice (some ⟨gN, 0, none⟩) k k) k (over xs (n * 3) fl) := ownsOver fl wr.drew xs (n * 3) (World.ownsRow.drew ho)
   clear hm hn22 hlt hnk2 hn1 ht ho ho2 hK2
   go_upto_region 9 with (fail)
   refine wp_region_held (S := fun _ => True) (by kernel_rfl) ?_
   change wpAnyH _ _ _ _ _ _ _ _ (World.drew _)
   refine wpAnyH_tk 0 _ (some 38) (.int .i64 n) rfl rfl (by kernel_rfl) (by kernel_rfl) (by kernel_rfl) (fun _ _ _ h => h) (Or.inl ⟨by rfl, fun X hX => by go_simp⟩) trivial ?_
   simp only [Act.put, List.setIfInBounds_toArray, List.set_cons_zero, List.set_cons_succ]
   refine wpAnyH_tk 1 _ (some 39) (.slice (some ⟨gN, 0, none⟩) k k) rfl rfl (by kernel_rfl) (by kernel_rfl) (by kernel_rfl) (fun _ _ _ h => h) (Or.inl ⟨by rfl, fun X hX => by go_simp⟩) trivial ?_
   simp only [Act.put, List.setIfInBounds_toArray, List.set_cons_zero, List.set_cons_succ]
   refine wpAnyH_tk 2 _ (some 40) (.int .i64 n) rfl rfl (by kernel_rfl) (by kernel_rfl) (by kernel_rfl) (fun _ _ _ h => h) (Or.inl ⟨by rfl, fun X hX => by go_simp⟩) trivial ?_
   simp only [Act.put, List.setIfInBounds_toArray, List.set_cons_zero, List.set_cons_succ]
   refine wpAnyH_tk 3 _ (some 41) (.slice (some ⟨gN, n * 3, none⟩) (k - n) (k - n)) rfl rfl (by kernel_rfl) (by kernel_rfl) (by kernel_rfl) (fun _ _ _ h => h) (Or.inl ⟨by rfl, fun X hX => by go_simp⟩) trivial ?_
   simp only [Act.put, List.setIfInBounds_toArray, List.set_cons_zero, List.set_cons_succ]
   refine wpAnyH_tk 4 _ (some 42) (.slice (some ⟨gN, 0, none⟩) k k) rfl rfl (by kernel_rfl) (by kernel_rfl) (by kernel_rfl) (fun _ _ _ h => h) (Or.inl ⟨by rfl, fun X hX => by go_simp⟩) trivial ?_
   simp only [Act.put, List.setIfInBounds_toArray, List.set_cons_zero, List.set_cons_succ]
   refine wpAnyH_tk 5 _ (some 43) (.int .i64 n) rfl rfl (by kernel_rfl) (by kernel_rfl) (by kernel_rfl) (fun _ _ _ h => h) (Or.inl ⟨by rfl, fun X hX => by go_simp⟩) trivial ?_
   simp only [Act.put, List.setIfInBounds_toArray, List.set_cons_zero, List.set_cons_succ]
   refine wpAnyH_tk 6 _ (some 44) (.slice (some ⟨gN, 0, none⟩) n k) rfl rfl (by kernel_rfl) (by kernel_rfl) (by kernel_rfl) (fun _ _ _ h => h) (Or.inl ⟨by rfl, fun X hX => by go_simp⟩) trivial ?_
   simp only [Act.put, List.setIfInBounds_toArray, List.set_cons_zero, List.set_cons_succ]
   refine wpAnyH_ready (rs := [7]) (by kernel_rfl) (by simp) ?_
   refine AllReadyH.cons rfl (fun K hK => ?_) AllReadyH.nil
   rw [if_pos (by rfl)]
   refine wp_copy_many (some 45) rfl (.tmp 41) (.tmp 44) 73 73 rfl 75 3 gN (n * 3) (k - n) (k - n) ⟨gN, 0, none⟩ n k m fl rfl rfl hun hsz hmm hfl hsrc hthr h1r (hK.out _ _ trivial (fun _ => ?_))
   clear hK K
   simp only [goInt]
   simp only [Act.put, List.setIfInBounds_toArray, List.set_cons_zero, List.set_cons_succ]
   refine wpAnyH_tk 8 _ (some 46) (.int .i64 n2) rfl rfl (by kernel_rfl) (by kernel_rfl) (by kernel_rfl) (fun _ _ _ h => h) (Or.inl ⟨by rfl, fun X hX => by go_simp⟩) trivial ?_
   simp only [Act.put, List.setIfInBounds_toArray, List.set_cons_zero, List.set_cons_succ]
   refine wpAnyH_tk 9 _ (some 8) (.int .i64 n2) rfl rfl (by kernel_rfl) (by kernel_rfl) (by kernel_rfl) (fun _ _ _ h => h) (Or.inl ⟨by rfl, fun X hX => by go_simp⟩) trivial ?_
   simp only [Act.put, List.setIfInBounds_toArray, List.set_cons_zero, List.set_cons_succ]
   refine wpAnyH_done (by kernel_rfl) ?_ _
   generalize wr.drew.setCells gN (n * 3) fl = w5 at *
   clear hsrc hthr
   go_wp2_with fail
   go_roundw
   case rel => exact ⟨n2, _, HN.out.1, HN.out.2.1, rfl, hfin, ht2, hK3⟩
   case measure => have := HN.out; simp [intOf]; omega
  ·have he : n = k := by omega
   have hni : ¬ (n : Int) < (k : Int) := by omega
   have hfin : wr.ownsRow 0 75 3 (.slice (some ⟨gN, 0, none⟩) k k) k (List.replicate k cs).flatten := by
    rw [he, List.take_of_length_le (by omega)] at ht
    rw [← ht]
    exact ho
   clear ho ht he hlt hnk2
   go_wp2_with fail
   go_ret
   exact ⟨gN, rfl, hfin, hgNw, hK⟩
end Go.Proofs.YtnfojonmohijpabGreatDoor
