/-
  DERIVED. The program's treeOfWay, over treeOfPiece. Conditions: the stretch is one that matches.
-/
import Derived.Test.YtnfojonmohijpabGreatDoorJNY
set_option linter.unusedSimpArgs false
set_option linter.unusedVariables false
namespace Go.Proofs.YtnfojonmohijpabGreatDoor
open Go.RowKit
structure WQ (s : ByteArray) (x : Pat) (i j c : Nat) (ts : List Tr) : Prop where
 rest : Mt s (pdrop ts.length x) c j
 lo : i ≤ c
 hi : c ≤ j
 spec : ∀ u, TT s (.kids (pdrop ts.length x)) c j u → TT s (.kids x) i j (lapp ts u)
theorem WQ.mid {s : ByteArray} {x y : Pat} {i j c e : Nat} {ts : List Tr} (L : WQ s x i j c ts) (hx : pdrop ts.length x = .pcons y (pdrop (ts.length + 1) x)) (hc : Cut (fun m => Mt s y c m ∧ Mt s (pdrop (ts.length + 1) x) m j) c j e) : Mt s y c e ∧ Mt s (pdrop (ts.length + 1) x) e j := by
 have h := L.rest
 rw [hx] at h
 obtain ⟨m, a, b⟩ := h
 exact hc.hit ⟨m, a.le, b.le, a, b⟩
theorem WQ.next {s : ByteArray} {x y : Pat} {i j c e : Nat} {ts : List Tr} {t : Tr} (L : WQ s x i j c ts) (hx : pdrop ts.length x = .pcons y (pdrop (ts.length + 1) x)) (hc : Cut (fun m => Mt s y c m ∧ Mt s (pdrop (ts.length + 1) x) m j) c j e) (ht : TT s (.node y) c e t) : WQ s x i j e (ts ++ [t]) := by
 refine ⟨by rw [List.length_append, List.length_singleton]; exact (L.mid hx hc).2, by have := L.lo; have := hc.1; omega, hc.2.1, ?_⟩
 intro u hu
 rw [List.length_append, List.length_singleton] at hu
 rw [lapp_snoc]
 refine L.spec _ ?_
 rw [hx]
 exact .kgo y _ c j e t u hc ht hu
theorem isP_one {x : Pat} (h : isP x) (hl : (pl x).length = 1) : ∃ y, x = .pcons y .pnil := by
 cases x with
 | pcons y r =>
  cases r with
  | pnil => exact ⟨y, rfl⟩
  | pcons _ _ => simp [pl] at hl
  | _ => exact h.elim
 | pnil => simp [pl] at hl
 | _ => exact h.elim
theorem isP_two {x : Pat} (h : isP x) (hl : 2 ≤ (pl x).length) : ∃ y z r, x = .pcons y (.pcons z r) := by
 cases x with
 | pcons y r =>
  cases r with
  | pnil => simp [pl] at hl
  | pcons z r => exact ⟨y, z, r, rfl⟩
  | _ => exact h.elim
 | pnil => simp [pl] at hl
 | _ => exact h.elim
theorem wayRow {w : World} {g : Nat} {a b : Value} (h : w.heap[g]? = some (.cells #[a, b] 150 (0, 0))) : w.cell? ⟨g, 0, none⟩ = some a ∧ w.cell? ⟨g, 1, none⟩ = some b := wayCells h
set_option maxRecDepth 100000 in
set_option maxHeartbeats 4000000 in
theorem treeOfWay_any (s : ByteArray) (N : Nat) (HN : Hid (N = s.size + 1)) (hs : s.size ≤ 100) (n : Nat) (hn9 : n ≤ 1000) (IP : TPiece s N n) : TWay s N (n + 1) := by
 intro x hx w S ds m i j hm hM hij hj hmt
 have hP := hm.isWP
 obtain ⟨m0, m1, m2, m3, m5, m6, rfl, o0, o1, o2, o3, o5, o6⟩ := hM.ok
 cases hm with
 | way _ cs v r np hpl hown hSv hRR =>
 obtain ⟨va, vn, vc, rfl⟩ := ownsRow_sl hown
 obtain rfl := ownsRow_lenT hown
 obtain ⟨gr, cr, _, rfl, hgr, hSr, _, _⟩ := hRR.at (d := 0) (by omega)
 obtain ⟨M, HM⟩ : ∃ M, Hid (M = vn + 1) := ⟨_, rfl⟩
 have hMM := HM.out
 rw [← hMM] at hRR ⊢
 clear hMM
 have HL : Hid (vn = (pl x).length) := by
  have h1 := hown.1
  have h2 := hpl.pl_at.1
  show vn = (pl x).length
  omega
 have hvm : (vn : Int) ≤ 2000 := by have := HL.out; have := pl_len x; omega
 have hk0 := keeps3 w (.cells #[m0, m1, m2, m3, .string s, m5, m6] 67) (.cells #[.slice va vn vc, .slice (some ⟨gr, 0, none⟩) M cr] 150) (.cells #[.int .u8 0, .int .i64 0, .slice none 0 0] 75)
 have h0 := heap3_0 w (.cells #[m0, m1, m2, m3, .string s, m5, m6] 67) (.cells #[.slice va vn vc, .slice (some ⟨gr, 0, none⟩) M cr] 150) (.cells #[.int .u8 0, .int .i64 0, .slice none 0 0] 75)
 have h1 := heap3_1 w (.cells #[m0, m1, m2, m3, .string s, m5, m6] 67) (.cells #[.slice va vn vc, .slice (some ⟨gr, 0, none⟩) M cr] 150) (.cells #[.int .u8 0, .int .i64 0, .slice none 0 0] 75)
 have h2 := heap3_2 w (.cells #[m0, m1, m2, m3, .string s, m5, m6] 67) (.cells #[.slice va vn vc, .slice (some ⟨gr, 0, none⟩) M cr] 150) (.cells #[.int .u8 0, .int .i64 0, .slice none 0 0] 75)
 go_enter Tryz.func73, Tryz.ntmps73
 go_upto_region 1 with (fail)
 generalize (((w.alloc (.cells #[m0, m1, m2, m3, .string s, m5, m6] 67)).alloc (.cells #[.slice va vn vc, .slice (some ⟨gr, 0, none⟩) M cr] 150)).alloc (.cells #[.int .u8 0, .int .i64 0, .slice none 0 0] 75)) = X at *
 obtain ⟨g0, e0⟩ : ∃ g, g = w.heap.size := ⟨_, rfl⟩
 obtain ⟨g1, e1⟩ : ∃ g, g = w.heap.size + 1 := ⟨_, rfl⟩
 obtain ⟨g2, e2⟩ : ∃ g, g = w.heap.size + 2 := ⟨_, rfl⟩
 rw [← e2] at h2 ⊢
 rw [← e1] at h1 ⊢
 rw [← e0] at h0 ⊢
 have hg2w : w.heap.size ≤ g2 := by omega
 have hg2X : g2 < X.heap.size := (Array.getElem?_eq_some_iff.1 h2).1
 have hg1X : g1 < X.heap.size := (Array.getElem?_eq_some_iff.1 h1).1
 have hg0X : g0 < X.heap.size := (Array.getElem?_eq_some_iff.1 h0).1
 have hwX := hk0.size
 clear e0 e1 e2
 obtain ⟨d0, d1⟩ := wayRow h1
 have hvl : ∀ z, (Value.slice va vn vc).ownBlock = some z → z < w.heap.size := fun z hz => (World.ownsRow.lt hown z hz).2
 by_cases hz : vn = 0
 ·have hx0 : x = .pnil := by
     have := (pdropP hP).1
     rw [← HL.out, hz] at this
     exact this
  subst hx0
  have hv0 : ((vn : Int) == 0) = true := by simp [hz]
  have hkS : Keeps [] w (X.setRow g2 #[.int .u8 101, .int .i64 0, .slice none 0 0]) := hk0.setRow (Or.inr hg2w) _
  clear hz
  go_wp2_with (first | (refine wpList_store_row rfl 75 _ _ rfl g2 #[.int .u8 101, .int .i64 0, .slice none 0 0] rfl rfl _ _ h2 (info3 _ _ _) rfl (all3 rfl rfl rfl) ?_))
  refine bodyPost_ret (results_cell_row rfl _ _ g2 _ _ _ _ rfl (setRow_heap _ _ _ _ _ _ h2) Tryz.underlying75 rfl (info3 _ _ _)) rfl ?_
  exact ⟨.tnil, _, rfl, .tnil, .nil i j, hkS⟩
 have hv0 : ((vn : Int) == 0) = false := by simp; omega
 obtain ⟨gp, cp, hgp, _, hgpl⟩ := hown.form (by omega)
 cases hgp
 have hgpl' : gp < w.heap.size := hgpl
 have hpc : ∀ (d : Nat) (y : Pat), (pl x)[d]? = some y → ∃ es, Mk w S s N .piece y es ∧ y.sz < x.sz ∧ es.length = 8 ∧ ∀ X' : World, Keeps [] w X' → X'.rangeAt gp (d * 8) es := by
  intro d y hy
  obtain ⟨es, h1, h2, h3⟩ := hpl.pl_at.2 d y hy
  have h8 : es.length = 8 := h1.form.2
  refine ⟨es, h1, h3, h8, fun X' hk q u hu => ?_⟩
  have hq : q < 8 := by rw [← h8]; exact (List.getElem?_eq_some_iff.1 hu).1
  have hd : d < vn := by have := HL.out; have := (List.getElem?_eq_some_iff.1 hy).1; omega
  exact (World.cell?_of_block (hk.block gp hgpl' (by simp))).trans ((World.ownsRow.cellAt hown (d * 8 + q) (by omega)).trans (h2 q u hu))
 by_cases hone : vn = 1
 ·obtain ⟨y, rfl⟩ := isP_one hP (by have := HL.out; omega)
  obtain ⟨es, hmy, hysz, h8, hrg⟩ := hpc 0 y rfl
  have hv1 : ((vn : Int) == 1) = true := by simp [hone]
  have hmty : Mt s y i j := by
   obtain ⟨q, a, b⟩ := hmt
   have : q = j := b
   subst this
   exact a
  have h0n : (0 : Int) < (vn : Int) := by omega
  have hisz8 : (Tryz.prog.info? 193).map (·.size) = some es.length := by rw [h8]; kernel_rfl
  have hS0 : X.drew.heap[g0]? = some (.cells #[m0, m1, m2, m3, .string s, m5, m6] 67 (0, 0)) ∧ X.drew.heap[g1]? = some (.cells #[.slice (some ⟨gp, 0, none⟩) vn vc, .slice (some ⟨gr, 0, none⟩) M cr] 150 (0, 0)) ∧ Keeps [] w X.drew := ⟨h0, h1, hk0.drewN 1⟩
  have hkX : Keeps [] X X.drew := (Keeps.refl [] X).drewN 1
  clear hone
  go_upto_region 5 with (fail)
  refine wp_region_held (S := fun X' => X'.heap[g0]? = some (.cells #[m0, m1, m2, m3, .string s, m5, m6] 67 (0, 0)) ∧ X'.heap[g1]? = some (.cells #[.slice (some ⟨gp, 0, none⟩) vn vc, .slice (some ⟨gr, 0, none⟩) M cr] 150 (0, 0)) ∧ Keeps [] w X') (by kernel_rfl) ?_
  change wpAnyH _ _ _ _ _ _ _ _ (World.drew _)
  generalize X.drew = X0 at *
  refine wpAnyH_tk 0 _ (some 21) (.agg #[m0, m1, m2, m3, .string s, m5, m6]) rfl rfl (by kernel_rfl) (by kernel_rfl) (by kernel_rfl) (fun _ _ _ h => h) (yieldsIf_load_mid (by rfl) 67 _ rfl g0 0 rfl [m0, m1, m2, m3, .string s, m5, m6] _ (fun X hX => rangeAll hX.1) Tryz.underlying67 rfl (info7 _ _ _ _ _ _ _)) hS0 ?_
  simp only [Act.put, List.setIfInBounds_toArray, List.set_cons_zero, List.set_cons_succ]
  refine wpAnyH_tk 1 _ (some 22) (.pointer (some ⟨g1, 0, none⟩)) rfl rfl (by kernel_rfl) (by kernel_rfl) (by kernel_rfl) (fun _ _ _ h => h) (Or.inl ⟨by rfl, fun X hX => by go_simp⟩) hS0 ?_
  simp only [Act.put, List.setIfInBounds_toArray, List.set_cons_zero, List.set_cons_succ]
  refine wpAnyH_tk 2 _ (some 23) (.slice (some ⟨gp, 0, none⟩) vn vc) rfl rfl (by kernel_rfl) (by kernel_rfl) (by kernel_rfl) (fun _ _ _ h => h) (Or.inl ⟨by rfl, fun X hX => by (obtain ⟨q0, q1⟩ := wayRow hX.2.1; go_simp)⟩) hS0 ?_
  simp only [Act.put, List.setIfInBounds_toArray, List.set_cons_zero, List.set_cons_succ]
  refine wpAnyH_tk 3 _ (some 24) (.pointer (some ⟨gp, 0 * 8, none⟩)) rfl rfl (by kernel_rfl) (by kernel_rfl) (by kernel_rfl) (fun _ _ _ h => h) (Or.inl ⟨by rfl, fun X hX => by go_simp⟩) hS0 ?_
  simp only [Act.put, List.setIfInBounds_toArray, List.set_cons_zero, List.set_cons_succ]
  refine wpAnyH_tk 4 _ (some 25) (.agg es.toArray) rfl rfl (by kernel_rfl) (by kernel_rfl) (by kernel_rfl) (fun _ _ _ h => h) (yieldsIf_load_mid (by rfl) 193 _ rfl gp (0 * 8) rfl es _ (fun X hX => hrg X hX.2.2) Tryz.underlying193 rfl hisz8) hS0 ?_
  simp only [Act.put, List.setIfInBounds_toArray, List.set_cons_zero, List.set_cons_succ]
  refine wpAnyH_tk 5 _ (some 26) (.int .i64 i) rfl rfl (by kernel_rfl) (by kernel_rfl) (by kernel_rfl) (fun _ _ _ h => h) (Or.inl ⟨by rfl, fun X hX => by go_simp⟩) hS0 ?_
  simp only [Act.put, List.setIfInBounds_toArray, List.set_cons_zero, List.set_cons_succ]
  refine wpAnyH_tk 6 _ (some 27) (.int .i64 j) rfl rfl (by kernel_rfl) (by kernel_rfl) (by kernel_rfl) (fun _ _ _ h => h) (Or.inl ⟨by rfl, fun X hX => by go_simp⟩) hS0 ?_
  simp only [Act.put, List.setIfInBounds_toArray, List.set_cons_zero, List.set_cons_succ]
  refine wpAnyH_ready (rs := [7]) (by kernel_rfl) (by simp) ?_
  refine AllReadyH.cons rfl (fun K hK => ?_) AllReadyH.nil
  go_simp
  refine (IP y (by omega) X0 S es _ i j (hmy.keep hS0.2.2 (by simp)) hM hij hj hmty).mono ?_
  rintro e w1 ⟨t, tcs, rfl, htv, htt, hk1⟩
  obtain ⟨k1, n1, ta, tn, tc, rfl⟩ := htv.form
  have hS1 : w1.heap[g0]? = some (.cells #[m0, m1, m2, m3, .string s, m5, m6] 67 (0, 0)) ∧ w1.heap[g1]? = some (.cells #[.slice (some ⟨gp, 0, none⟩) vn vc, .slice (some ⟨gr, 0, none⟩) M cr] 150 (0, 0)) ∧ Keeps [] w w1 := ⟨(hk1.block g0 (Array.getElem?_eq_some_iff.1 hS0.1).1 (by simp)).trans hS0.1, (hk1.block g1 (Array.getElem?_eq_some_iff.1 hS0.2.1).1 (by simp)).trans hS0.2.1, hS0.2.2.trans hk1⟩
  have h21 := ((hkX.trans hk1).block g2 hg2X (by simp)).trans h2
  have hkX1 := (hkX.trans hk1).size
  have hXX := hkX.size
  refine hK.out _ _ hS1 (fun _ => ?_)
  clear hK K
  refine wpAnyH_ready (rs := [8]) (by kernel_rfl) (by simp) ?_
  refine AllReadyH.cons rfl (fun K hK => ?_) AllReadyH.nil
  rw [if_pos (by rfl)]
  have hkS : Keeps [g2] w1 (w1.setRow g2 #[.int .u8 k1, .int .i64 n1, .slice ta tn tc]) := (Keeps.refl [g2] _).setRow (g := g2) (by simp) _
  have h02 : g0 ≠ g2 := by rintro rfl; rw [h0] at h2; cases h2
  have h12 : g1 ≠ g2 := by rintro rfl; rw [h1] at h2; cases h2
  have hS2 : (w1.setRow g2 #[.int .u8 k1, .int .i64 n1, .slice ta tn tc]).heap[g0]? = some (.cells #[m0, m1, m2, m3, .string s, m5, m6] 67 (0, 0)) ∧ (w1.setRow g2 #[.int .u8 k1, .int .i64 n1, .slice ta tn tc]).heap[g1]? = some (.cells #[.slice (some ⟨gp, 0, none⟩) vn vc, .slice (some ⟨gr, 0, none⟩) M cr] 150 (0, 0)) ∧ Keeps [] w (w1.setRow g2 #[.int .u8 k1, .int .i64 n1, .slice ta tn tc]) := ⟨(hkS.block g0 (Array.getElem?_eq_some_iff.1 hS1.1).1 (by simp; exact h02)).trans hS1.1, (hkS.block g1 (Array.getElem?_eq_some_iff.1 hS1.2.1).1 (by simp; exact h12)).trans hS1.2.1, hS1.2.2.setRow (Or.inr hg2w) _⟩
  refine wp_store_row 75 _ _ rfl g2 #[.int .u8 k1, .int .i64 n1, .slice ta tn tc] rfl rfl _ _ h21 (info3 _ _ _) rfl (all3 rfl rfl rfl) (hK.out _ _ hS2 (fun _ => ?_))
  refine wpAnyH_done (by kernel_rfl) ?_ _
  go_wp2_with fail
  refine bodyPost_ret (results_cell_row rfl _ _ g2 _ _ _ _ rfl (setRow_heap _ _ _ _ _ _ h21) Tryz.underlying75 rfl (info3 _ _ _)) rfl ?_
  exact ⟨t, _, rfl, (htv.keep hkS (by intro z hz; simp; omega)).mono fun z hz _ => by omega, .lone y i j t htt, hS2.2.2⟩
 have hv1 : ((vn : Int) == 1) = false := by simp; omega
 obtain ⟨xa, xb, xr, hxe⟩ := isP_two hP (by have := HL.out; omega)
 have HXE : Hid (x = .pcons xa (.pcons xb xr)) := hxe
 clear hxe
 go_upto_region 8 with (fail)
 have G0 := GL.start X
 have HQ0 : Hid (WQ s x i j i []) := ⟨hmt, Nat.le_refl _, hij, fun u h => h⟩
 go_loopw [2, 9, 10, 11, 12, 32] (fun q2 q9 _ _ _ q32 wr => ∃ (c d : Nat) (ts : List Tr) (cs : List Value), q2 = .int .i64 c ∧ q32 = .int .i64 d ∧ Hid (d = ts.length) ∧ d ≤ vn ∧ GL X wr q9 ts cs ∧ Hid (WQ s x i j c ts)) (fun _ _ _ _ _ q32 _ => vn - (intOf q32).toNat)
 case atStart => exact ⟨i, 0, [], [], rfl, rfl, rfl, Nat.zero_le _, G0, HQ0⟩
 case round =>
  clear G0 HQ0
  obtain ⟨c, d, ts, cs1, rfl, rfl, HD, hd, G, HQ⟩ := hrel
  obtain ⟨xa1, xn1, xc1, rfl⟩ := ownsRow_sl G.own
  have h0r := (G.keep.block g0 hg0X (by simp)).trans h0
  have h1r := (G.keep.block g1 hg1X (by simp)).trans h1
  have h2r := (G.keep.block g2 hg2X (by simp)).trans h2
  have hXr := G.keep.size
  have hkr := hk0.trans G.keep
  have hlo := HQ.out.lo
  have hhi := HQ.out.hi
  have HXN : Hid (xn1 = ts.length) := ownsRow_lenT G.own
  by_cases hlt : d < vn
  ·obtain ⟨y, hy⟩ : ∃ y, (pl x)[d]? = some y := ⟨_, List.getElem?_eq_getElem (by have := HL.out; omega)⟩
   obtain ⟨es, hmy, hysz, h8, hrg⟩ := hpc d y hy
   have HXD : Hid (pdrop d x = .pcons y (pdrop (d + 1) x)) := (pdropP hP).2 d y hy
   have hrgr := hrg wr hkr
   have hd0 : (0 : Int) ≤ (d : Int) := by omega
   have hd1 : (d : Int) < (vn : Int) := by omega
   have HDL : Hid (d < vn) := hlt
   obtain ⟨c2, HC2⟩ : ∃ c2, Hid (c2 = d + 1) := ⟨_, rfl⟩
   have hwr : IntKind.i64.wrap ((d : Int) + 1) = (c2 : Int) := by have := HC2.out; rw [wrap_small (by omega) (by omega)]; omega
   have hc20 : (0 : Int) ≤ (c2 : Int) := by omega
   have hc21 : (c2 : Int) < (M : Int) := by have := HC2.out; have := HM.out; omega
   obtain ⟨_, _, u, hgre, _, _, hcu, hu⟩ := hRR.at (d := c2) (by have := HC2.out; have := HM.out; omega)
   cases hgre
   obtain ⟨gu, cu, rfl⟩ := hu.slice
   have hisz8 : (Tryz.prog.info? 193).map (·.size) = some es.length := by rw [h8]; kernel_rfl
   have hq0 : (wr.alloc (.cells #[.int .i64 0, .slice none 0 0, .slice none 0 0, .slice none 0 0, .bool false, .int .i64 0, .int .i64 0, .slice none 0 0] 193)).heap[wr.heap.size]? = some (.cells #[.int .i64 0, .slice none 0 0, .slice none 0 0, .slice none 0 0, .bool false, .int .i64 0, .int .i64 0, .slice none 0 0] 193 (0, 0)) := heap_alloc_new wr _
   have hk1 : Keeps [] wr ((wr.alloc (.cells #[.int .i64 0, .slice none 0 0, .slice none 0 0, .slice none 0 0, .bool false, .int .i64 0, .int .i64 0, .slice none 0 0] 193)).setRow wr.heap.size es.toArray) := ((Keeps.refl [] wr).alloc _).setRow (Or.inr (Nat.le_refl _)) _
   have hq1 : ((wr.alloc (.cells #[.int .i64 0, .slice none 0 0, .slice none 0 0, .slice none 0 0, .bool false, .int .i64 0, .int .i64 0, .slice none 0 0] 193)).setRow wr.heap.size es.toArray).heap[wr.heap.size]? = some (.cells es.toArray 193 (0, 0)) := setRow_heap _ _ _ _ _ _ hq0
   have hall8 := one_all hmy.form.1
   have hsz8 : (#[.int .i64 0, .slice none 0 0, .slice none 0 0, .slice none 0 0, .bool false, .int .i64 0, .int .i64 0, .slice none 0 0] : Array Value).size = es.toArray.size := by simp [h8]
   clear hlt hd hy hrg
   go_upto_region 10 with (first | (refine wpList_load_mid rfl 193 _ rfl gp (d * 8) rfl es _ hrgr Tryz.underlying193 rfl hisz8 ?_) | (refine wpList_store_row rfl 193 _ _ rfl wr.heap.size es.toArray rfl rfl _ _ hq0 (infoPieceM es h8) hsz8 hall8 ?_; generalize (wr.alloc (.cells #[.int .i64 0, .slice none 0 0, .slice none 0 0, .slice none 0 0, .bool false, .int .i64 0, .int .i64 0, .slice none 0 0] 193)).setRow wr.heap.size es.toArray = w1 at *))
   obtain ⟨go, hgo⟩ : ∃ g, g = wr.heap.size := ⟨_, rfl⟩
   rw [← hgo] at hq1 ⊢
   clear hgo hq0 hsz8
   have h0s := (hk1.block g0 (by omega) (by simp)).trans h0r
   have h1s := (hk1.block g1 (by omega) (by simp)).trans h1r
   have hkw1 := hkr.trans hk1
   have hcu1 := (World.cell?_of_block (hkw1.block gr hgr (by simp))).trans hcu
   have hS0 : w1.drew.heap[g0]? = some (.cells #[m0, m1, m2, m3, .string s, m5, m6] 67 (0, 0)) ∧ w1.drew.heap[g1]? = some (.cells #[.slice (some ⟨gp, 0, none⟩) vn vc, .slice (some ⟨gr, 0, none⟩) M cr] 150 (0, 0)) ∧ w1.drew.heap[go]? = some (.cells es.toArray 193 (0, 0)) ∧ w1.drew.cell? ⟨gr, c2, none⟩ = some (.slice (some ⟨gu, 0, none⟩) N cu) ∧ Keeps [] w1 w1.drew := ⟨h0s, h1s, hq1, hcu1, (Keeps.refl [] w1).drewN 1⟩
   have hSk : ∀ A B : World, (A.heap[g0]? = some (.cells #[m0, m1, m2, m3, .string s, m5, m6] 67 (0, 0)) ∧ A.heap[g1]? = some (.cells #[.slice (some ⟨gp, 0, none⟩) vn vc, .slice (some ⟨gr, 0, none⟩) M cr] 150 (0, 0)) ∧ A.heap[go]? = some (.cells es.toArray 193 (0, 0)) ∧ A.cell? ⟨gr, c2, none⟩ = some (.slice (some ⟨gu, 0, none⟩) N cu) ∧ Keeps [] w1 A) → Keeps [] A B → (B.heap[g0]? = some (.cells #[m0, m1, m2, m3, .string s, m5, m6] 67 (0, 0)) ∧ B.heap[g1]? = some (.cells #[.slice (some ⟨gp, 0, none⟩) vn vc, .slice (some ⟨gr, 0, none⟩) M cr] 150 (0, 0)) ∧ B.heap[go]? = some (.cells es.toArray 193 (0, 0)) ∧ B.cell? ⟨gr, c2, none⟩ = some (.slice (some ⟨gu, 0, none⟩) N cu) ∧ Keeps [] w1 B) := fun A B h hk => ⟨(hk.block g0 (Array.getElem?_eq_some_iff.1 h.1).1 (by simp)).trans h.1, (hk.block g1 (Array.getElem?_eq_some_iff.1 h.2.1).1 (by simp)).trans h.2.1, (hk.block go (Array.getElem?_eq_some_iff.1 h.2.2.1).1 (by simp)).trans h.2.2.1, (World.cell?_of_block (hk.block gr (World.block_lt_of_cell? _ _ h.2.2.2.1) (by simp))).trans h.2.2.2.1, h.2.2.2.2.trans hk⟩
   refine wp_region_held (S := fun A => A.heap[g0]? = some (.cells #[m0, m1, m2, m3, .string s, m5, m6] 67 (0, 0)) ∧ A.heap[g1]? = some (.cells #[.slice (some ⟨gp, 0, none⟩) vn vc, .slice (some ⟨gr, 0, none⟩) M cr] 150 (0, 0)) ∧ A.heap[go]? = some (.cells es.toArray 193 (0, 0)) ∧ A.cell? ⟨gr, c2, none⟩ = some (.slice (some ⟨gu, 0, none⟩) N cu) ∧ Keeps [] w1 A) (by kernel_rfl) ?_
   change wpAnyH _ _ _ _ _ _ _ _ (World.drew _)
   generalize w1.drew = X0 at *
   refine wpAnyH_tk 0 _ (some 37) (.agg es.toArray) rfl rfl (by kernel_rfl) (by kernel_rfl) (by kernel_rfl) (fun _ _ _ h => h) (yieldsIf_load_mid (by rfl) 193 _ rfl go 0 rfl es _ (fun X hX => rangeAll hX.2.2.1) Tryz.underlying193 rfl hisz8) hS0 ?_
   simp only [Act.put, List.setIfInBounds_toArray, List.set_cons_zero, List.set_cons_succ]
   refine wpAnyH_tk 2 _ (some 39) (.pointer (some ⟨g1, 1, none⟩)) rfl rfl (by kernel_rfl) (by kernel_rfl) (by kernel_rfl) (fun _ _ _ h => h) (Or.inl ⟨by rfl, fun X hX => by go_simp⟩) hS0 ?_
   simp only [Act.put, List.setIfInBounds_toArray, List.set_cons_zero, List.set_cons_succ]
   refine wpAnyH_tk 3 _ (some 40) (.slice (some ⟨gr, 0, none⟩) M cr) rfl rfl (by kernel_rfl) (by kernel_rfl) (by kernel_rfl) (fun _ _ _ h => h) (Or.inl ⟨by rfl, fun X hX => by (obtain ⟨q0, q1⟩ := wayRow hX.2.1; go_simp)⟩) hS0 ?_
   simp only [Act.put, List.setIfInBounds_toArray, List.set_cons_zero, List.set_cons_succ]
   refine wpAnyH_tk 4 _ (some 41) (.int .i64 d) rfl rfl (by kernel_rfl) (by kernel_rfl) (by kernel_rfl) (fun _ _ _ h => h) (Or.inl ⟨by rfl, fun X hX => by go_simp⟩) hS0 ?_
   simp only [Act.put, List.setIfInBounds_toArray, List.set_cons_zero, List.set_cons_succ]
   refine wpAnyH_tk 5 _ (some 42) (.int .i64 c2) rfl rfl (by kernel_rfl) (by kernel_rfl) (by kernel_rfl) (fun _ _ _ h => h) (Or.inl ⟨by rfl, fun X hX => by go_simp⟩) hS0 ?_
   simp only [Act.put, List.setIfInBounds_toArray, List.set_cons_zero, List.set_cons_succ]
   refine wpAnyH_tk 6 _ (some 43) (.pointer (some ⟨gr, c2, none⟩)) rfl rfl (by kernel_rfl) (by kernel_rfl) (by kernel_rfl) (fun _ _ _ h => h) (Or.inl ⟨by rfl, fun X hX => by go_simp⟩) hS0 ?_
   simp only [Act.put, List.setIfInBounds_toArray, List.set_cons_zero, List.set_cons_succ]
   refine wpAnyH_tk 7 _ (some 44) (.slice (some ⟨gu, 0, none⟩) N cu) rfl rfl (by kernel_rfl) (by kernel_rfl) (by kernel_rfl) (fun _ _ _ h => h) (Or.inl ⟨by rfl, fun X hX => by (have hc := hX.2.2.2.1; go_simp)⟩) hS0 ?_
   simp only [Act.put, List.setIfInBounds_toArray, List.set_cons_zero, List.set_cons_succ]
   refine wpAnyH_tk 8 _ (some 45) (.int .i64 c) rfl rfl (by kernel_rfl) (by kernel_rfl) (by kernel_rfl) (fun _ _ _ h => h) (Or.inl ⟨by rfl, fun X hX => by go_simp⟩) hS0 ?_
   simp only [Act.put, List.setIfInBounds_toArray, List.set_cons_zero, List.set_cons_succ]
   refine wpAnyH_tk 9 _ (some 46) (.int .i64 j) rfl rfl (by kernel_rfl) (by kernel_rfl) (by kernel_rfl) (fun _ _ _ h => h) (Or.inl ⟨by rfl, fun X hX => by go_simp⟩) hS0 ?_
   simp only [Act.put, List.setIfInBounds_toArray, List.set_cons_zero, List.set_cons_succ]
   refine wpAnyH_ready (rs := [1]) (by kernel_rfl) (by simp) ?_
   refine AllReadyH.cons rfl (fun K hK => ?_) AllReadyH.nil
   go_simp
   refine (can_any s N y es S X0 (hmy.keep (hkw1.trans hS0.2.2.2.2) (by simp))).mono ?_
   rintro e w2 ⟨gc, cc, rfl, hcan, hk2⟩
   have hS1 := hSk _ _ hS0 hk2
   refine hK.out _ _ hS1 (fun _ => ?_)
   clear hK K
   refine wpAnyH_ready (rs := [10]) (by kernel_rfl) (by simp) ?_
   refine AllReadyH.cons rfl (fun K hK => ?_) AllReadyH.nil
   go_simp
   refine (longest_mp N (by have := HN.out; omega) c j (by omega) (by have := HN.out; omega) w2 hcan (hu.keep (hkw1.trans hS1.2.2.2.2) (by simp))).mono ?_
   rintro e w3 ⟨e1, rfl, hcut, hk3⟩
   have hS2 := hSk _ _ hS1 hk3
   refine hK.out _ _ hS2 (fun _ => ?_)
   clear hK K
   refine wpAnyH_tk 11 _ (some 12) (.int .i64 e1) rfl rfl (by kernel_rfl) (by kernel_rfl) (by kernel_rfl) (fun _ _ _ h => h) (Or.inl ⟨by rfl, fun X hX => by go_simp⟩) hS2 ?_
   simp only [Act.put, List.setIfInBounds_toArray, List.set_cons_zero, List.set_cons_succ]
   refine wpAnyH_done (by kernel_rfl) ?_ _
   have HXD' : Hid (pdrop ts.length x = .pcons y (pdrop (ts.length + 1) x)) := by have := HD.out; rw [← this]; exact HXD
   have HC : Hid (Cut (fun m => Mt s y c m ∧ Mt s (pdrop (ts.length + 1) x) m j) c j e1) := by
    have := HD.out
    have := HC2.out
    rw [show ts.length + 1 = c2 by omega]
    exact hcut
   obtain ⟨hmce, hmrest⟩ := HQ.out.mid HXD'.out HC.out
   have hce := HC.out.1
   have hej := HC.out.2.1
   have hk13 := hS2.2.2.2.2
   have h0t := hS2.1
   have hot := hS2.2.2.1
   have hkw3 := hkw1.trans hk13
   have hIC := IP y (by omega) w3 S es _ c e1 (hmy.keep hkw3 (by simp)) hM hce (by omega) hmce
   have G2 := G.keeps (hk1.trans hk13)
   clear hS0 hS1 hS2 hSk hcut hcan hk2 hk3 h0s h1s hq1 hcu1 hrgr
   go_wp2_with (first | (refine wpList_load_row rfl 67 _ rfl g0 rfl _ _ _ _ h0t Tryz.underlying67 rfl (info7 _ _ _ _ _ _ _) ?_) | (refine wpList_load_row rfl 193 _ rfl go rfl _ _ _ _ hot Tryz.underlying193 rfl (infoPieceM es h8) ?_))
   refine hIC.mono ?_
   rintro e w4 ⟨t, tcs, rfl, htv, htt, hk4⟩
   obtain ⟨k1, n1, ta, tn, tc, rfl⟩ := htv.form
   have G3 := G2.keeps hk4
   obtain ⟨i0, hi0, hz0, hz1, hz2⟩ := info_parts infoTree
   have hun := Tryz.underlying73
   have hlm : ts.length + 1 ≤ maxLen := by unfold maxLen; have := HD.out; have := HDL.out; omega
   have hbts : (ts.length + 1) * 40 ≤ 140737488355328 := by have := HD.out; have := HDL.out; omega
   have hH : (w4.alloc (.cells #[.int .u8 k1, .int .i64 n1, .slice ta tn tc] 75)).heap.size = w4.heap.size + 1 := by simp
   have hnews : ∀ j u, [Value.int .u8 k1, .int .i64 n1, .slice ta tn tc][j]? = some u → (w4.alloc (.cells #[.int .u8 k1, .int .i64 n1, .slice ta tn tc] 75)).cell? ((⟨w4.heap.size, 0, none⟩ : Addr).add j) = some u := World.news_of_block (cs := #[.int .u8 k1, .int .i64 n1, .slice ta tn tc]) (heap_alloc_new w4 _)
   have hk5 : Keeps [] w4 (w4.alloc (.cells #[.int .u8 k1, .int .i64 n1, .slice ta tn tc] 75)) := (Keeps.refl [] w4).alloc _
   have htv5 := (htv.keep hk5 (by simp)).lone
   have hvl3 : ∀ z, (Value.slice xa1 xn1 xc1).ownBlock = some z → z < w3.heap.size := fun z hz => (World.ownsRow.lt G2.own z hz).2
   have hX3 : X.heap.size ≤ w3.heap.size := G2.keep.size
   clear hIC htv h0t hot
   go_wp2_with (first | (at_builtin; refine wpList_append_lies _ rfl _ _ _ rfl 0 75 i0 _ 3 40 hun hi0 hz0 hz1 hz2 rfl (by decide) (.slice xa1 xn1 xc1) ts.length cs1 rfl (G3.own.alloc _) ⟨w4.heap.size, 0, none⟩ 1 1 [.int .u8 k1, .int .i64 n1, .slice ta tn tc] rfl rfl hnews (by intro u hu; simp at hu; rcases hu with rfl | rfl | rfl <;> rfl) (by omega) hlm hbts (Nat.zero_le _) (w4.heap.size + 1) hH ?_))
   intro g' cap w6 hown6 hgrow hat hlt6
   have G6 := GL.add (w0 := w3) (ms := [t]) G3 htv5 hX3 hvl3 hk5 hown6 hgrow (by rw [hH]; exact hat)
   have HQn : Hid (WQ s x i j e1 (ts ++ [t])) := HQ.out.next HXD'.out HC.out htt
   clear hown6 hgrow hat hnews hH htv5 G3 G2 G
   go_wp2_with fail
   go_roundw
   case rel => exact ⟨e1, c2, _, _, rfl, rfl, (by show c2 = (ts ++ [t]).length; have := HD.out; have := HC2.out; simp; omega), (by have := HDL.out; have := HC2.out; omega), G6, HQn⟩
   case measure => have := HDL.out; have := HC2.out; simp [intOf]; omega
  ·have hde : d = vn := by omega
   have hni : ¬ (d : Int) < (vn : Int) := by omega
   have hcj : c = j := by
    have := HQ.out.rest
    rw [← HD.out, hde, HL.out, (pdropP hP).1] at this
    exact this
   have HTT : Hid (TT s (.node x) i j (.tser (lapp ts .lnil))) := by
    have h := HQ.out.spec .lnil (by rw [← HD.out, hde, HL.out, (pdropP hP).1]; exact .kend c j)
    show TT s (.node x) i j (.tser (lapp ts .lnil))
    rw [HXE.out] at h ⊢
    exact .row xa xb xr i j _ h
   have hkS : Keeps [g2] wr (wr.setRow g2 #[.int .u8 115, .int .i64 0, .slice xa1 xn1 xc1]) := (Keeps.refl [g2] _).setRow (g := g2) (by simp) _
   clear hde hcj hlt hd
   go_wp2_with (first | (refine wpList_store_row rfl 75 _ _ rfl g2 #[.int .u8 115, .int .i64 0, .slice xa1 xn1 xc1] rfl rfl _ _ h2r (info3 _ _ _) rfl (all3 rfl rfl rfl) ?_))
   refine bodyPost_ret (results_cell_row rfl _ _ g2 _ _ _ _ rfl (setRow_heap _ _ _ _ _ _ h2r) Tryz.underlying75 rfl (info3 _ _ _)) rfl ?_
   refine ⟨_, [.int .u8 115, .int .i64 0, .slice xa1 xn1 xc1], rfl, ?_, HTT.out, (hk0.trans G.keep).setRow (Or.inr hg2w) _⟩
   refine .tser _ _ _ _ ((G.row.keep hkS (by intro z hz; simp; omega)).mono fun z hz _ => by omega) (G.own.keep hkS (by intro z hz; have := G.fresh z hz; simp; omega)) fun z hz => by have := G.fresh z hz; omega
end Go.Proofs.YtnfojonmohijpabGreatDoor
namespace Go.Proofs.YtnfojonmohijpabGreatDoor
open Go.RowKit
theorem cf_way1 : ∀ args w1, (callFunc 72 args).run Tryz.prog w1 = .ok (.enter 72 args) w1 := fun args w1 => by
 kernel_rfl
set_option maxRecDepth 100000 in
set_option maxHeartbeats 2000000 in
theorem way1_any (s : ByteArray) (N : Nat) (HN : Hid (N = s.size + 1)) (hs : s.size ≤ 100) (y : Pat) (a r : Value) (S : Nat → Prop) (bf bt i j : Nat) (hi : i ≤ s.size) (hj : j ≤ s.size) (w : World) (hm : Mk w S s N .way y [a, r]) (hbf : w.cell? ⟨bf, 0, none⟩ = some (.int .i64 i)) (hbt : w.cell? ⟨bt, 0, none⟩ = some (.int .i64 j)) :
    Calls Tryz.prog 72 #[.agg #[a, r], .pointer (some ⟨bf, 0, none⟩), .pointer (some ⟨bt, 0, none⟩)] w fun e w' => ∃ b, e = .returned (.bool b) ∧ (b = true ↔ Mt s y i j) ∧ Keeps [] w w' := by
 obtain ⟨_, Mr, hRR⟩ := hm.way_form
 obtain ⟨gr, cr, ur, rfl, hgr, hSr, hcr, hur⟩ := hRR.at (d := 0) (by omega)
 obtain ⟨gu, cu, f, rfl, hrg, hf, _, hgul⟩ := has_mp N (by have := HN.out; omega) w hur i (by have := HN.out; omega)
 obtain ⟨M, HM⟩ : ∃ M, Hid (M = Mr + 1) := ⟨_, rfl⟩
 have hMM := HM.out
 rw [← hMM] at hm ⊢
 have hM0 : (0 : Int) < (M : Int) := by omega
 have hM1 : ¬ M = 0 := by omega
 have hi0 : (0 : Int) ≤ (i : Int) := by omega
 have hiN : (i : Int) < (N : Int) := by have := HN.out; omega
 have hq0 : (w.alloc (.cells #[a, .slice (some ⟨gr, 0, none⟩) M cr] 150)).heap[w.heap.size]? = some (.cells #[a, .slice (some ⟨gr, 0, none⟩) M cr] 150 (0, 0)) := heap_alloc_new w _
 have hk0 : Keeps [] w (w.alloc (.cells #[a, .slice (some ⟨gr, 0, none⟩) M cr] 150)) := (Keeps.refl [] w).alloc _
 clear hMM hRR
 go_enter Tryz.func72, Tryz.ntmps72
 go_upto_region 1 with (fail)
 generalize w.alloc (.cells #[a, .slice (some ⟨gr, 0, none⟩) M cr] 150) = X at *
 obtain ⟨gb, hgb⟩ : ∃ g, g = w.heap.size := ⟨_, rfl⟩
 rw [← hgb] at hq0 ⊢
 clear hgb
 have hkD : Keeps [] w X.drew := hk0.drewN 1
 have hS0 : X.drew.heap[gb]? = some (.cells #[a, .slice (some ⟨gr, 0, none⟩) M cr] 150 (0, 0)) ∧ X.drew.cell? ⟨gr, 0, none⟩ = some (.slice (some ⟨gu, 0, none⟩) N cu) ∧ X.drew.cell? ⟨bf, 0, none⟩ = some (.int .i64 i) ∧ X.drew.cell? ⟨bt, 0, none⟩ = some (.int .i64 j) ∧ X.drew.rangeAt gu (i * 2) [.int .u64 (wk f 0), .int .u64 (wk f 1)] := ⟨hq0, (World.cell?_of_block (hkD.block gr hgr (by simp))).trans hcr, (World.cell?_of_block (hkD.block bf (World.block_lt_of_cell? _ _ hbf) (by simp))).trans hbf, (World.cell?_of_block (hkD.block bt (World.block_lt_of_cell? _ _ hbt) (by simp))).trans hbt, fun q u hu => (World.cell?_of_block (hkD.block gu hgul (by simp))).trans (hrg q u hu)⟩
 refine wp_region_held (S := fun A => A.heap[gb]? = some (.cells #[a, .slice (some ⟨gr, 0, none⟩) M cr] 150 (0, 0)) ∧ A.cell? ⟨gr, 0, none⟩ = some (.slice (some ⟨gu, 0, none⟩) N cu) ∧ A.cell? ⟨bf, 0, none⟩ = some (.int .i64 i) ∧ A.cell? ⟨bt, 0, none⟩ = some (.int .i64 j) ∧ A.rangeAt gu (i * 2) [.int .u64 (wk f 0), .int .u64 (wk f 1)]) (by kernel_rfl) ?_
 change wpAnyH _ _ _ _ _ _ _ _ (World.drew _)
 generalize X.drew = X0 at *
 refine wpAnyH_tk 0 _ (some 5) (.pointer (some ⟨gb, 1, none⟩)) rfl rfl (by kernel_rfl) (by kernel_rfl) (by kernel_rfl) (fun _ _ _ h => h) (Or.inl ⟨by rfl, fun X hX => by go_simp⟩) hS0 ?_
 simp only [Act.put, List.setIfInBounds_toArray, List.set_cons_zero, List.set_cons_succ]
 refine wpAnyH_tk 1 _ (some 6) (.slice (some ⟨gr, 0, none⟩) M cr) rfl rfl (by kernel_rfl) (by kernel_rfl) (by kernel_rfl) (fun _ _ _ h => h) (Or.inl ⟨by rfl, fun X hX => by (obtain ⟨q0, q1⟩ := wayRow hX.1; go_simp)⟩) hS0 ?_
 simp only [Act.put, List.setIfInBounds_toArray, List.set_cons_zero, List.set_cons_succ]
 refine wpAnyH_tk 2 _ (some 7) (.pointer (some ⟨gr, 0, none⟩)) rfl rfl (by kernel_rfl) (by kernel_rfl) (by kernel_rfl) (fun _ _ _ h => h) (Or.inl ⟨by rfl, fun X hX => by go_simp⟩) hS0 ?_
 simp only [Act.put, List.setIfInBounds_toArray, List.set_cons_zero, List.set_cons_succ]
 refine wpAnyH_tk 3 _ (some 8) (.slice (some ⟨gu, 0, none⟩) N cu) rfl rfl (by kernel_rfl) (by kernel_rfl) (by kernel_rfl) (fun _ _ _ h => h) (Or.inl ⟨by rfl, fun X hX => by (obtain ⟨q0, q1, q2, q3, q4⟩ := hX; go_simp)⟩) hS0 ?_
 simp only [Act.put, List.setIfInBounds_toArray, List.set_cons_zero, List.set_cons_succ]
 refine wpAnyH_tk 4 _ (some 9) (.int .i64 i) rfl rfl (by kernel_rfl) (by kernel_rfl) (by kernel_rfl) (fun _ _ _ h => h) (Or.inl ⟨by rfl, fun X hX => by (obtain ⟨q0, q1, q2, q3, q4⟩ := hX; go_simp)⟩) hS0 ?_
 simp only [Act.put, List.setIfInBounds_toArray, List.set_cons_zero, List.set_cons_succ]
 refine wpAnyH_tk 5 _ (some 10) (.pointer (some ⟨gu, i * 2, none⟩)) rfl rfl (by kernel_rfl) (by kernel_rfl) (by kernel_rfl) (fun _ _ _ h => h) (Or.inl ⟨by rfl, fun X hX => by go_simp⟩) hS0 ?_
 simp only [Act.put, List.setIfInBounds_toArray, List.set_cons_zero, List.set_cons_succ]
 refine wpAnyH_tk 6 _ (some 11) (.agg #[.int .u64 (wk f 0), .int .u64 (wk f 1)]) rfl rfl (by kernel_rfl) (by kernel_rfl) (by kernel_rfl) (fun _ _ _ h => h) (yieldsIf_load_mid (by rfl) 102 _ rfl gu (i * 2) rfl [.int .u64 (wk f 0), .int .u64 (wk f 1)] _ (fun X hX => hX.2.2.2.2) Tryz.underlying102 rfl infoPl2) hS0 ?_
 simp only [Act.put, List.setIfInBounds_toArray, List.set_cons_zero, List.set_cons_succ]
 refine wpAnyH_tk 7 _ (some 12) (.int .i64 j) rfl rfl (by kernel_rfl) (by kernel_rfl) (by kernel_rfl) (fun _ _ _ h => h) (Or.inl ⟨by rfl, fun X hX => by (obtain ⟨q0, q1, q2, q3, q4⟩ := hX; go_simp)⟩) hS0 ?_
 simp only [Act.put, List.setIfInBounds_toArray, List.set_cons_zero, List.set_cons_succ]
 refine wpAnyH_ready (rs := [8]) (by kernel_rfl) (by simp) ?_
 refine AllReadyH.cons rfl (fun K hK => ?_) AllReadyH.nil
 go_simp
 refine (phas_raw f j (by omega) X0).mono ?_
 rintro e w1 ⟨rfl, hk1⟩
 have hS1 : w1.heap[gb]? = some (.cells #[a, .slice (some ⟨gr, 0, none⟩) M cr] 150 (0, 0)) ∧ w1.cell? ⟨gr, 0, none⟩ = some (.slice (some ⟨gu, 0, none⟩) N cu) ∧ w1.cell? ⟨bf, 0, none⟩ = some (.int .i64 i) ∧ w1.cell? ⟨bt, 0, none⟩ = some (.int .i64 j) ∧ w1.rangeAt gu (i * 2) [.int .u64 (wk f 0), .int .u64 (wk f 1)] := ⟨(hk1.block gb (Array.getElem?_eq_some_iff.1 hS0.1).1 (by simp)).trans hS0.1, (World.cell?_of_block (hk1.block gr (World.block_lt_of_cell? _ _ hS0.2.1) (by simp))).trans hS0.2.1, (World.cell?_of_block (hk1.block bf (World.block_lt_of_cell? _ _ hS0.2.2.1) (by simp))).trans hS0.2.2.1, (World.cell?_of_block (hk1.block bt (World.block_lt_of_cell? _ _ hS0.2.2.2.1) (by simp))).trans hS0.2.2.2.1, fun q u hu => (World.cell?_of_block (hk1.block gu (World.block_lt_of_cell? _ _ (hS0.2.2.2.2 q u hu)) (by simp))).trans (hS0.2.2.2.2 q u hu)⟩
 refine hK.out _ _ hS1 (fun _ => ?_)
 clear hK K
 refine wpAnyH_tk 9 _ (some 4) (.bool (f j)) rfl rfl (by kernel_rfl) (by kernel_rfl) (by kernel_rfl) (fun _ _ _ h => h) (Or.inl ⟨by rfl, fun X hX => by go_simp⟩) hS1 ?_
 simp only [Act.put, List.setIfInBounds_toArray, List.set_cons_zero, List.set_cons_succ]
 refine wpAnyH_done (by kernel_rfl) ?_ _
 have hend := hf j (by have := HN.out; omega)
 have hkE := hkD.trans hk1
 clear hS0 hS1
 go_wp2_with fail
 go_ret
 exact ⟨f j, rfl, hend, hkE⟩
set_option maxRecDepth 100000 in
set_option maxHeartbeats 2000000 in
theorem indexWay_any (s : ByteArray) (N : Nat) (HN : Hid (N = s.size + 1)) (hs : s.size ≤ 100) (x : Pat) (hx : x.sz ≤ 1000) (cs : List Value) (va : Option Addr) (vn vc : Nat) (S : Nat → Prop) (bf bt i j : Nat) (hi : i ≤ s.size) (hj : j ≤ s.size) (w : World) (hm : Mk w S s N .wlist x cs) (hown : w.ownsRow 0 150 2 (.slice va vn vc) vn cs) (hbf : w.cell? ⟨bf, 0, none⟩ = some (.int .i64 i)) (hbt : w.cell? ⟨bt, 0, none⟩ = some (.int .i64 j)) (hmt : Mt s x i j) :
    Calls Tryz.prog 71 #[.slice va vn vc, .func (.func 72) #[] #[.pointer (some ⟨bf, 0, none⟩), .pointer (some ⟨bt, 0, none⟩)]] w fun e w' => ∃ (p : Nat) (y : Pat), e = .returned (.int .i64 p) ∧ (wl x)[p]? = some y ∧ Mt s y i j ∧ (∀ (k : Nat) (z : Pat), k < p → (wl x)[k]? = some z → ¬ Mt s z i j) ∧ Keeps [] w w' := by
 have hW := hm.isWP
 have hcf := cf_way1
 have HL : Hid (vn = (wl x).length) := by
  have h1 := hown.1
  have h2 := hm.wl_at.1
  show vn = (wl x).length
  omega
 have hvm : (vn : Int) ≤ 1000 := by have := HL.out; have := wl_len x; omega
 go_enter Tryz.func71, Tryz.ntmps71
 go_wp2_with fail
 go_loopw [5, 8] (fun _ q wr => ∃ k : Nat, k ≤ vn ∧ q = .int .i64 k ∧ Hid (∀ (d : Nat) (z : Pat), d < k → (wl x)[d]? = some z → ¬ Mt s z i j) ∧ Keeps [] w wr) (fun _ q _ => vn - (intOf q).toNat)
 case atStart => exact ⟨0, Nat.zero_le _, rfl, fun d z h => by omega, Keeps.refl _ _⟩
 case round =>
  obtain ⟨k, hk, rfl, HA, hK⟩ := hrel
  by_cases hlt : k < vn
  ·obtain ⟨y, hy⟩ : ∃ y, (wl x)[k]? = some y := ⟨_, List.getElem?_eq_getElem (by have := HL.out; omega)⟩
   obtain ⟨a, r, ha, hr, hmy, _⟩ := hm.wl_at.2 k y hy
   obtain ⟨gv, vc', hv, _, hgv⟩ := hown.form (by omega)
   cases hv
   have hgvl : gv < w.heap.size := hgv
   have c0 : wr.cell? ⟨gv, k * 2, none⟩ = some a := (World.cell?_of_block (hK.block gv hgvl (by simp))).trans ((World.ownsRow.cellAt hown (k * 2) (by omega)).trans ha)
   have c1 : wr.cell? ⟨gv, k * 2 + 1, none⟩ = some r := (World.cell?_of_block (hK.block gv hgvl (by simp))).trans ((World.ownsRow.cellAt hown (k * 2 + 1) (by omega)).trans hr)
   have hrg := range2 c0 c1
   have hC := way1_any s N HN hs y a r S bf bt i j hi hj wr (hmy.keep hK (by simp)) ((World.cell?_of_block (hK.block bf (World.block_lt_of_cell? _ _ hbf) (by simp))).trans hbf) ((World.cell?_of_block (hK.block bt (World.block_lt_of_cell? _ _ hbt) (by simp))).trans hbt)
   have hk0 : (0 : Int) ≤ (k : Int) := by omega
   have hk1 : (k : Int) < (vn : Int) := by omega
   have HK : Hid (k < vn) := hlt
   have HY : Hid ((wl x)[k]? = some y) := hy
   have hi2 : (Tryz.prog.info? 150).map (·.size) = some 2 := by kernel_rfl
   clear hk hlt hy ha hr c0 c1
   go_wp2_with (first | (refine wpList_load_mid rfl 150 _ rfl gv (k * 2) rfl _ _ hrg Tryz.underlying150 rfl hi2 ?_))
   refine hC.mono ?_
   rintro e w2 ⟨b, rfl, hb, hk2⟩
   have hK2 := hK.trans hk2
   cases b with
   | true =>
    have HM : Hid (Mt s y i j) := hb.1 rfl
    clear hb hC
    go_wp2_with fail
    go_ret
    exact ⟨k, y, rfl, HY.out, HM.out, HA.out, hK2⟩
   | false =>
    have HM : Hid (¬ Mt s y i j) := fun h => by have := hb.2 h; cases this
    have HA2 : Hid (∀ (d : Nat) (z : Pat), d < k + 1 → (wl x)[d]? = some z → ¬ Mt s z i j) := fun d z hd hz => by
     by_cases e : d < k
     ·exact HA.out d z e hz
     ·have : d = k := by omega
      subst this
      have h := HY.out
      rw [h] at hz
      cases hz
      exact HM.out
    clear hb hC
    go_wp2_with fail
    go_roundw
    case rel => exact ⟨k + 1, HK.out, by go_num, HA2, hK2⟩
    case measure => have := HK.out; simp [intOf]; omega
  ·exfalso
   obtain ⟨d, z, hz, h⟩ := (Mt.waysW i j hW).1 hmt
   exact HA.out d z (by have := (List.getElem?_eq_some_iff.1 hz).1; have := HL.out; omega) hz h
end Go.Proofs.YtnfojonmohijpabGreatDoor
