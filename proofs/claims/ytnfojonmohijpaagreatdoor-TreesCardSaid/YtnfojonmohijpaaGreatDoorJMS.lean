/-
  DERIVED. The reference's 'Ends' at a repeat. Conditions: what it has in memory lies as it should (TX).
-/
import Derived.Test.YtnfojonmohijpaaGreatDoorJMI
import Derived.Test.YtnfojonmohijpaaGreatDoorJMC
set_option linter.unusedSimpArgs false
set_option linter.unusedVariables false
namespace Go.Proofs.YtnfojonmohijpaaGreatDoor
open Go.RowKit
theorem nodeCells {w : World} {g : Nat} {a b c d e f : Value} (h : w.heap[g]? = some (.cells #[a, b, c, d, e, f] 157 (0, 0))) : w.cell? ⟨g, 3, none⟩ = some d ∧ w.cell? ⟨g, 4, none⟩ = some e ∧ w.cell? ⟨g, 5, none⟩ = some f := by
 refine ⟨?_, ?_, ?_⟩ <;> (rw [Lib.cell_of_heap h]; rfl)
set_option maxRecDepth 100000 in
set_option maxHeartbeats 2000000 in
theorem ends_rep (s : ByteArray) (N : Nat) (HN : Hid (N = s.size + 1)) (nds : List Nd) (hn : nds.length ≤ 1000) (n : Nat) (IH : EndsOk s nds n) (k : Nat) (nd : Nd) (hk : nds[k]? = some nd) (hkind : nd.kind = 114) (c : Nat) (HC : Hid (nd.kids = [c])) (hck : NK nds n c) (hmn : Hid (nd.mn ≤ 5)) (hmx : Hid (-1 ≤ nd.mx ∧ nd.mx ≤ 5)) (hlm : Hid (nd.mx < 0 ∨ (nd.mn : Int) ≤ nd.mx)) (hkl : nd.kids.length ≤ 1000)
    (w : World) (b bp : Nat) (p : PS) (D : List Nat) (E : Value) (Z : List Nat) (i : Nat) (h : TX w b bp s p nds D E Z) (HZ : Hid (∀ x, x ∈ Z → x < w.heap.size)) (hi : i ≤ s.size)
    (eb cap g : Nat) (hE : E = .slice (some ⟨eb, 0, none⟩) nds.length cap) (hg : D[k]? = some g) (hr : w.cell? ⟨eb, k, none⟩ = some (.slice (some ⟨g, 0, none⟩) N N)) (hc : w.cell? ⟨g, i, none⟩ = some (.slice none 0 0)) :
    Calls Tryz.prog 48 #[.pointer (some ⟨b, 0, none⟩), .int .i64 k, .int .i64 i] w (EPo s nds k i w b bp p D E Z) := by
 obtain ⟨i0, hi0, hz0, hz1, hz2⟩ := info_parts infoBool
 have hun := Tryz.underlying98
 obtain ⟨x0, x1, x2, x3⟩ := h.xb.main
 rw [hE] at x3
 obtain ⟨g', cap', hv, kv, hform, hkn, hH, hK, c0, c1, c2, c3, c4, c5⟩ := h.nodes.node hk
 have HK : Hid (nd.kind = 114) := hkind
 rw [hkind] at c0
 obtain ⟨n1, _⟩ := h.pb.nodes
 rw [hform] at n1
 obtain ⟨ha, hn2, hc2, rfl⟩ := hH.1
 have HHV : Hid (HoldsV w (avoA bp (b :: (E.ownBlock.toList ++ (D ++ Z))) p.nodes) (.slice ha hn2 hc2) nd) := hH
 have HKV : Hid (KV w D kv nd.kids) := hK.kv hkl
 obtain ⟨ka, kc, rfl, hkid⟩ := hK.form
 have hs := h.small
 have hk0' : (0 : Int) ≤ (k : Int) := by omega
 have hk1' : (k : Int) < (nds.length : Int) := by omega
 have hi0' : (0 : Int) ≤ (i : Int) := by omega
 have hi1' : (i : Int) < (N : Int) := by have := HN.out; omega
 have hadd : (s.size : Int) + 1 ≤ 9223372036854775807 := by omega
 have HI : Hid (i ≤ s.size) := hi
 have HS : Hid (s.size ≤ 100) := hs
 have HE : Hid (E = .slice (some ⟨eb, 0, none⟩) nds.length cap) := hE
 have HT : Hid (TX w b bp s p nds D E Z) := h
 have HH : Hid (nds[k]? = some nd) := hk
 have hWk := (Keeps.refl [] w).alloc (.cells #[.int .u8 114, .slice ha hn2 hc2, .int .i64 nd.n, .int .i64 nd.mn, .int .i64 nd.mx, .slice ka nd.kids.length kc] 157)
 have hnew := heap_alloc_new w (.cells #[.int .u8 114, .slice ha hn2 hc2, .int .i64 nd.n, .int .i64 nd.mn, .int .i64 nd.mx, .slice ka nd.kids.length kc] 157)
 have HG : Hid (D[k]? = some g) := hg
 have hk2' : (nds.length : Int) ≤ 1000 := by omega
 have hkl' : (nd.kids.length : Int) ≤ 1000 := by omega
 clear h hE hk hi hs hform hH hK hkn hkind hn hkid hg hkl x2
 go_enter Tryz.func48, Tryz.ntmps48
 go_upto_region 4 with (fail)
 clear c0 c1 c2 c3 c4 c5 n1 x0 x1 x3 hr hc
 generalize w.alloc (.cells #[.int .u8 114, .slice ha hn2 hc2, .int .i64 nd.n, .int .i64 nd.mn, .int .i64 nd.mx, .slice ka nd.kids.length kc] 157) = W at *
 obtain ⟨gn, hgn⟩ : ∃ gn, gn = w.heap.size := ⟨_, rfl⟩
 rw [← hgn] at hnew ⊢
 have HGN : Hid (gn = w.heap.size) := hgn
 clear hgn
 have hT0 := HT.out.keep hWk (by simp)
 obtain ⟨y0, y1, _, _⟩ := hT0.xb.main
 clear hT0
 go_upto_region 5 with (first | (refine wpList_make_full W rfl _ _ 98 rfl 0 4 i0 (.bool false) 1 hun hi0 hz0 hz1 .i64 .i64 ((s.size : Int) + 1) ((s.size : Int) + 1) N rfl rfl (by have := HN.out; omega) (by have := HN.out; omega) (by have := HN.out; have := HS.out; rw [hz2]; omega) (by have := HN.out; have := HS.out; unfold maxLen; omega) (Nat.zero_le _) ?_; intro w1 hown hgr))
 rw [Nat.mul_one, show (Value.bool false).cells = #[.bool false] from rfl, bl_made] at hown
 have hk1 : Keeps [] W w1 := Keeps.ofGrownNone hgr
 have hkw1 := hWk.trans hk1
 have hnew1 := (hk1.block gn (Array.getElem?_eq_some_iff.1 hnew).1 (by simp)).trans hnew
 have hT1 := HT.out.keep hkw1 (by simp)
 have HKV1 : Hid (KV w1 D (.slice ka nd.kids.length kc) nd.kids) := HKV.out.keep (hkw1.mono (by simp))
 have e0 : w1.cell? ⟨gn, 0, none⟩ = some (.int .u8 114) := by rw [Lib.cell_of_heap hnew1]; rfl
 have e5 : w1.cell? ⟨gn, 5, none⟩ = some (.slice ka nd.kids.length kc) := by rw [Lib.cell_of_heap hnew1]; rfl
 have hWs := hWk.size
 have hgnW : gn < W.heap.size := (Array.getElem?_eq_some_iff.1 hnew).1
 have HW1 : Hid (w1.heap[gn]? = some (.cells #[.int .u8 114, .slice ha hn2 hc2, .int .i64 nd.n, .int .i64 nd.mn, .int .i64 nd.mx, .slice ka nd.kids.length kc] 157 (0, 0))) := hnew1
 have HGW : Hid (gn < W.heap.size ∧ w.heap.size ≤ W.heap.size) := ⟨hgnW, hWs⟩
 clear y0 y1 hgr hnew hnew1 hgnW hWs hadd hz0 hz1 hz2 hi0 hun hWk hk1
 obtain ⟨ka', kc', ek, _, hkc⟩ := HKV1.out
 obtain ⟨q, off, rfl, hql, hqD, hqc⟩ : ∃ q off, ka = some ⟨q, off, none⟩ ∧ q < w1.heap.size ∧ q ∉ D ∧ w1.cell? ⟨q, off + 0, none⟩ = some (.int .i64 c) := by
  simp only [Value.slice.injEq] at ek
  obtain ⟨rfl, _, rfl⟩ := ek
  exact hkc 0 c (by rw [HC.out]; rfl)
 have hkn' : ((nd.kids.length : Nat) : Int) = 1 := by rw [HC.out]; rfl
 have hkn0 : (0 : Int) < (nd.kids.length : Int) := by omega
 rw [Nat.add_zero] at hqc
 clear hown ek hkc hkn'
 go_upto_region 14 with (fail)
 have hkD : Keeps [] w1 w1.drew := (Keeps.refl [] w1).drewN 1
 have hS0 : w1.drew.heap[gn]? = some (.cells #[.int .u8 114, .slice ha hn2 hc2, .int .i64 nd.n, .int .i64 nd.mn, .int .i64 nd.mx, .slice (some ⟨q, off, none⟩) nd.kids.length kc] 157 (0, 0)) ∧ w1.drew.cell? ⟨q, off, none⟩ = some (.int .i64 c) := ⟨HW1.out, hqc⟩
 have hTD := hT1.keep hkD (by simp)
 have hgD : gn ∉ D := fun hm => by have h1 := HT.out.dlt gn hm; have := HGN.out; omega
 refine wp_region_held (S := fun X' => X'.heap[gn]? = some (.cells #[.int .u8 114, .slice ha hn2 hc2, .int .i64 nd.n, .int .i64 nd.mn, .int .i64 nd.mx, .slice (some ⟨q, off, none⟩) nd.kids.length kc] 157 (0, 0)) ∧ X'.cell? ⟨q, off, none⟩ = some (.int .i64 c)) (by kernel_rfl) ?_
 change wpAnyH _ _ _ _ _ _ _ _ (World.drew _)
 generalize w1.drew = X0 at *
 refine wpAnyH_tk 0 _ (some 92) (.pointer (some ⟨b, 0, none⟩)) rfl rfl (by kernel_rfl) (by kernel_rfl) (by kernel_rfl) (fun _ _ _ h => h) (Or.inl ⟨by rfl, fun X hX => by (go_simp)⟩) hS0 ?_
 simp only [Act.put, List.setIfInBounds_toArray, List.set_cons_zero, List.set_cons_succ]
 refine wpAnyH_tk 1 _ (some 93) (.pointer (some ⟨gn, 5, none⟩)) rfl rfl (by kernel_rfl) (by kernel_rfl) (by kernel_rfl) (fun _ _ _ h => h) (Or.inl ⟨by rfl, fun X hX => by (go_simp)⟩) hS0 ?_
 simp only [Act.put, List.setIfInBounds_toArray, List.set_cons_zero, List.set_cons_succ]
 refine wpAnyH_tk 2 _ (some 94) (.slice (some ⟨q, off, none⟩) nd.kids.length kc) rfl rfl (by kernel_rfl) (by kernel_rfl) (by kernel_rfl) (fun _ _ _ h => h) (Or.inl ⟨by rfl, fun X hX => by (obtain ⟨⟨q3, q4, q5⟩, q6⟩ : (_ ∧ _ ∧ _) ∧ _ := ⟨nodeCells hX.1, hX.2⟩; go_simp)⟩) hS0 ?_
 simp only [Act.put, List.setIfInBounds_toArray, List.set_cons_zero, List.set_cons_succ]
 refine wpAnyH_tk 3 _ (some 95) (.pointer (some ⟨q, off, none⟩)) rfl rfl (by kernel_rfl) (by kernel_rfl) (by kernel_rfl) (fun _ _ _ h => h) (Or.inl ⟨by rfl, fun X hX => by (obtain ⟨⟨q3, q4, q5⟩, q6⟩ : (_ ∧ _ ∧ _) ∧ _ := ⟨nodeCells hX.1, hX.2⟩; go_simp; intro h0; have h1 := HC.out; rw [h0] at h1; cases h1)⟩) hS0 ?_
 simp only [Act.put, List.setIfInBounds_toArray, List.set_cons_zero, List.set_cons_succ]
 refine wpAnyH_tk 4 _ (some 96) (.int .i64 c) rfl rfl (by kernel_rfl) (by kernel_rfl) (by kernel_rfl) (fun _ _ _ h => h) (Or.inl ⟨by rfl, fun X hX => by (obtain ⟨⟨q3, q4, q5⟩, q6⟩ : (_ ∧ _ ∧ _) ∧ _ := ⟨nodeCells hX.1, hX.2⟩; go_simp)⟩) hS0 ?_
 simp only [Act.put, List.setIfInBounds_toArray, List.set_cons_zero, List.set_cons_succ]
 refine wpAnyH_tk 5 _ (some 97) (.pointer (some ⟨gn, 3, none⟩)) rfl rfl (by kernel_rfl) (by kernel_rfl) (by kernel_rfl) (fun _ _ _ h => h) (Or.inl ⟨by rfl, fun X hX => by (go_simp)⟩) hS0 ?_
 simp only [Act.put, List.setIfInBounds_toArray, List.set_cons_zero, List.set_cons_succ]
 refine wpAnyH_tk 6 _ (some 98) (.int .i64 nd.mn) rfl rfl (by kernel_rfl) (by kernel_rfl) (by kernel_rfl) (fun _ _ _ h => h) (Or.inl ⟨by rfl, fun X hX => by (obtain ⟨⟨q3, q4, q5⟩, q6⟩ : (_ ∧ _ ∧ _) ∧ _ := ⟨nodeCells hX.1, hX.2⟩; go_simp)⟩) hS0 ?_
 simp only [Act.put, List.setIfInBounds_toArray, List.set_cons_zero, List.set_cons_succ]
 refine wpAnyH_tk 7 _ (some 99) (.pointer (some ⟨gn, 4, none⟩)) rfl rfl (by kernel_rfl) (by kernel_rfl) (by kernel_rfl) (fun _ _ _ h => h) (Or.inl ⟨by rfl, fun X hX => by (go_simp)⟩) hS0 ?_
 simp only [Act.put, List.setIfInBounds_toArray, List.set_cons_zero, List.set_cons_succ]
 refine wpAnyH_tk 8 _ (some 100) (.int .i64 nd.mx) rfl rfl (by kernel_rfl) (by kernel_rfl) (by kernel_rfl) (fun _ _ _ h => h) (Or.inl ⟨by rfl, fun X hX => by (obtain ⟨⟨q3, q4, q5⟩, q6⟩ : (_ ∧ _ ∧ _) ∧ _ := ⟨nodeCells hX.1, hX.2⟩; go_simp)⟩) hS0 ?_
 simp only [Act.put, List.setIfInBounds_toArray, List.set_cons_zero, List.set_cons_succ]
 refine wpAnyH_tk 9 _ (some 101) (.int .i64 i) rfl rfl (by kernel_rfl) (by kernel_rfl) (by kernel_rfl) (fun _ _ _ h => h) (Or.inl ⟨by rfl, fun X hX => by (go_simp)⟩) hS0 ?_
 simp only [Act.put, List.setIfInBounds_toArray, List.set_cons_zero, List.set_cons_succ]
 refine wpAnyH_ready (rs := [10]) (by kernel_rfl) (by simp) ?_
 refine AllReadyH.cons rfl (fun K hK => ?_) AllReadyH.nil
 go_simp
 refine (rtimes_any s N HN nds n IH c hck X0 b bp p D E Z hTD (fun x hx => Nat.lt_of_lt_of_le (HZ.out x hx) (hkw1.trans hkD).size) nd.mn nd.mx hmn.out hmx.out hlm.out i HI.out).mono ?_
 rintro e w2 ⟨v, rfl, hRS, hfr, hT2, hk2⟩
 have hkw2 : Keeps D w w2 := ((hkw1.trans hkD).mono (by simp)).trans hk2
 obtain ⟨x, c', f, rfl, hRB, hxD, hsay⟩ := hRS
 have hx1 := hfr x rfl
 have hEA : EA w2 s nds D Z k i (.slice (some ⟨x, 0, none⟩) N c') := by
  refine ⟨x, c', f, by rw [← HN.out], by rw [← HN.out]; exact hRB, hxD, fun hz => by have := HZ.out x hz; have := (hkw1.trans hkD).size; omega, fun j hj => ?_⟩
  rw [hsay j hj, MN.rep_iff HH.out HK.out HC.out]
  exact Iff.rfl
 have hS1 : w2.heap[gn]? = some (.cells #[.int .u8 114, .slice ha hn2 hc2, .int .i64 nd.n, .int .i64 nd.mn, .int .i64 nd.mx, .slice (some ⟨q, off, none⟩) nd.kids.length kc] 157 (0, 0)) ∧ w2.cell? ⟨q, off, none⟩ = some (.int .i64 c) := ⟨(hk2.block gn (Array.getElem?_eq_some_iff.1 hS0.1).1 hgD).trans hS0.1, (World.cell?_of_block (hk2.block q (Nat.lt_of_lt_of_le hql hkD.size) hqD)).trans hS0.2⟩
 refine hK.out _ _ hS1 (fun _ => ?_)
 clear hK K
 refine wpAnyH_tk 11 _ (some 8) (.slice (some ⟨x, 0, none⟩) N c') rfl rfl (by kernel_rfl) (by kernel_rfl) (by kernel_rfl) (fun _ _ _ h => h) (Or.inl ⟨by rfl, fun X hX => by go_simp⟩) hS1 ?_
 simp only [Act.put, List.setIfInBounds_toArray, List.set_cons_zero, List.set_cons_succ]
 refine wpAnyH_done (by kernel_rfl) ?_ _
 clear hRB hsay hfr hT1 hk2 e0 e5 hqc hS0 hS1 hTD hkD
 obtain ⟨eb2, cap2, g2, v2, hE2, hg2, hr2, hc2', hf2, _⟩ := hT2.slot (k := k) (i := i) (by omega) HI.out
 have hE3 := HE.out.symm.trans hE2
 simp only [Value.slice.injEq, Option.some.injEq, Addr.mk.injEq, and_true, true_and] at hE3
 obtain ⟨hebe, hcape⟩ := hE3
 subst hebe hcape
 obtain rfl : g = g2 := Option.some.inj (HG.out.symm.trans hg2)
 rw [← HN.out] at hr2
 obtain ⟨z0, z1, _, z3⟩ := hT2.xb.main
 rw [HE.out] at z3
 obtain ⟨hp1, hp2, hp3⟩ := hT2.put HG.out hEA
 have hend := hkw2.trans hp3
 clear hE2 hg2 hEA hT2 hkw2 hp3
 go_wp2_with fail
 go_ret
 exact ⟨_, rfl, hp1, hp2, hend⟩
end Go.Proofs.YtnfojonmohijpaaGreatDoor
namespace Go.Proofs.YtnfojonmohijpaaGreatDoor
open Go.RowKit
theorem nodeCells6 {w : World} {g : Nat} {a b c d e f : Value} (h : w.heap[g]? = some (.cells #[a, b, c, d, e, f] 157 (0, 0))) : w.cell? ⟨g, 0, none⟩ = some a ∧ w.cell? ⟨g, 1, none⟩ = some b ∧ w.cell? ⟨g, 2, none⟩ = some c ∧ w.cell? ⟨g, 3, none⟩ = some d ∧ w.cell? ⟨g, 4, none⟩ = some e ∧ w.cell? ⟨g, 5, none⟩ = some f := by
 refine ⟨?_, ?_, ?_, ?_, ?_, ?_⟩ <;> (rw [Lib.cell_of_heap h]; rfl)
set_option maxRecDepth 100000 in
set_option maxHeartbeats 2000000 in
theorem ends_byte (s : ByteArray) (N : Nat) (HN : Hid (N = s.size + 1)) (nds : List Nd) (hn : nds.length ≤ 1000) (n : Nat) (IH : EndsOk s nds n) (k : Nat) (nd : Nd) (hk : nds[k]? = some nd) (hkind : nd.kind = 98) (hkl : nd.kids.length ≤ 1000)
    (w : World) (b bp : Nat) (p : PS) (D : List Nat) (E : Value) (Z : List Nat) (i : Nat) (h : TX w b bp s p nds D E Z) (HZ : Hid (∀ x, x ∈ Z → x < w.heap.size)) (hi : i ≤ s.size)
    (eb cap g : Nat) (hE : E = .slice (some ⟨eb, 0, none⟩) nds.length cap) (hg : D[k]? = some g) (hr : w.cell? ⟨eb, k, none⟩ = some (.slice (some ⟨g, 0, none⟩) N N)) (hc : w.cell? ⟨g, i, none⟩ = some (.slice none 0 0)) :
    Calls Tryz.prog 48 #[.pointer (some ⟨b, 0, none⟩), .int .i64 k, .int .i64 i] w (EPo s nds k i w b bp p D E Z) := by
 obtain ⟨i0, hi0, hz0, hz1, hz2⟩ := info_parts infoBool
 have hun := Tryz.underlying98
 obtain ⟨x0, x1, x2, x3⟩ := h.xb.main
 rw [hE] at x3
 obtain ⟨g', cap', hv, kv, hform, hkn, hH, hK, c0, c1, c2, c3, c4, c5⟩ := h.nodes.node hk
 have HK : Hid (nd.kind = 98) := hkind
 rw [hkind] at c0
 obtain ⟨n1, _⟩ := h.pb.nodes
 rw [hform] at n1
 obtain ⟨ha, hn2, hc2, rfl⟩ := hH.1
 have HHV : Hid (HoldsV w (avoA bp (b :: (E.ownBlock.toList ++ (D ++ Z))) p.nodes) (.slice ha hn2 hc2) nd) := hH
 have HKV : Hid (KV w D kv nd.kids) := hK.kv hkl
 obtain ⟨ka, kc, rfl, hkid⟩ := hK.form
 have hs := h.small
 have hk0' : (0 : Int) ≤ (k : Int) := by omega
 have hk1' : (k : Int) < (nds.length : Int) := by omega
 have hi0' : (0 : Int) ≤ (i : Int) := by omega
 have hi1' : (i : Int) < (N : Int) := by have := HN.out; omega
 have hadd : (s.size : Int) + 1 ≤ 9223372036854775807 := by omega
 have HI : Hid (i ≤ s.size) := hi
 have HS : Hid (s.size ≤ 100) := hs
 have HE : Hid (E = .slice (some ⟨eb, 0, none⟩) nds.length cap) := hE
 have HT : Hid (TX w b bp s p nds D E Z) := h
 have HH : Hid (nds[k]? = some nd) := hk
 have hWk := (Keeps.refl [] w).alloc (.cells #[.int .u8 98, .slice ha hn2 hc2, .int .i64 nd.n, .int .i64 nd.mn, .int .i64 nd.mx, .slice ka nd.kids.length kc] 157)
 have hnew := heap_alloc_new w (.cells #[.int .u8 98, .slice ha hn2 hc2, .int .i64 nd.n, .int .i64 nd.mn, .int .i64 nd.mx, .slice ka nd.kids.length kc] 157)
 have HG : Hid (D[k]? = some g) := hg
 have hk2' : (nds.length : Int) ≤ 1000 := by omega
 have hkl' : (nd.kids.length : Int) ≤ 1000 := by omega
 clear h hE hk hi hs hform hH hK hkn hkind hn hkid hg hkl x2
 go_enter Tryz.func48, Tryz.ntmps48
 go_upto_region 4 with (fail)
 clear c0 c1 c2 c3 c4 c5 n1 x0 x1 x3 hr hc
 generalize w.alloc (.cells #[.int .u8 98, .slice ha hn2 hc2, .int .i64 nd.n, .int .i64 nd.mn, .int .i64 nd.mx, .slice ka nd.kids.length kc] 157) = W at *
 obtain ⟨gn, hgn⟩ : ∃ gn, gn = w.heap.size := ⟨_, rfl⟩
 rw [← hgn] at hnew ⊢
 have HGN : Hid (gn = w.heap.size) := hgn
 clear hgn
 have hT0 := HT.out.keep hWk (by simp)
 obtain ⟨y0, y1, _, _⟩ := hT0.xb.main
 clear hT0
 go_upto_region 5 with (first | (refine wpList_make_full W rfl _ _ 98 rfl 0 4 i0 (.bool false) 1 hun hi0 hz0 hz1 .i64 .i64 ((s.size : Int) + 1) ((s.size : Int) + 1) N rfl rfl (by have := HN.out; omega) (by have := HN.out; omega) (by have := HN.out; have := HS.out; rw [hz2]; omega) (by have := HN.out; have := HS.out; unfold maxLen; omega) (Nat.zero_le _) ?_; intro w1 hown hgr))
 rw [Nat.mul_one, show (Value.bool false).cells = #[.bool false] from rfl, bl_made] at hown
 have hk1 : Keeps [] W w1 := Keeps.ofGrownNone hgr
 have hkw1 := hWk.trans hk1
 have hnew1 := (hk1.block gn (Array.getElem?_eq_some_iff.1 hnew).1 (by simp)).trans hnew
 have hT1 := HT.out.keep hkw1 (by simp)
 have HKV1 : Hid (KV w1 D (.slice ka nd.kids.length kc) nd.kids) := HKV.out.keep (hkw1.mono (by simp))
 have e0 : w1.cell? ⟨gn, 0, none⟩ = some (.int .u8 98) := by rw [Lib.cell_of_heap hnew1]; rfl
 have e5 : w1.cell? ⟨gn, 5, none⟩ = some (.slice ka nd.kids.length kc) := by rw [Lib.cell_of_heap hnew1]; rfl
 have hWs := hWk.size
 have hgnW : gn < W.heap.size := (Array.getElem?_eq_some_iff.1 hnew).1
 have HW1 : Hid (w1.heap[gn]? = some (.cells #[.int .u8 98, .slice ha hn2 hc2, .int .i64 nd.n, .int .i64 nd.mn, .int .i64 nd.mx, .slice ka nd.kids.length kc] 157 (0, 0))) := hnew1
 have HGW : Hid (gn < W.heap.size ∧ w.heap.size ≤ W.heap.size) := ⟨hgnW, hWs⟩
 clear y0 y1 hgr hnew hnew1 hgnW hWs hadd hz0 hz1 hz2 hi0 hun hWk hk1
 obtain ⟨q, eh, hHB, hqa⟩ := HHV.out.2 HK.out
 simp only [Value.slice.injEq] at eh
 obtain ⟨rfl, rfl, rfl⟩ := eh
 have HHB : Hid (HB w q nd.f) := hHB
 have hWD : W.heap.size ∉ D := fun hm => by have := HT.out.dlt _ hm; have := HGW.out; omega
 have hWZ : W.heap.size ∉ Z := fun hm => by have := HZ.out _ hm; have := HGW.out; omega
 have hWb : W.heap.size ≠ b := by have := HT.out.xb.lt; have := HGW.out; omega
 have hWg : gn ≠ W.heap.size := by have := HGW.out; omega
 obtain ⟨y0, y1, y2, y3⟩ := hT1.xb.main
 clear y2 y3
 have HGO : Hid (w.heap.size ≤ W.heap.size) := HGW.out.2
 obtain ⟨go, ego⟩ : ∃ go, go = W.heap.size := ⟨_, rfl⟩
 rw [← ego] at hown hWD hWZ hWb hWg HGO ⊢
 clear ego hqa hHB
 by_cases hil : i < s.size
 rotate_left
 ·have hil' : ¬ (i : Int) < (s.size : Int) := by omega
  have hT2 := hT1
  have hkw2 : Keeps D w w1 := hkw1.mono (by simp)
  have hEA : EA w1 s nds D Z k i (.slice (some ⟨go, 0, none⟩) N N) := by
   refine ⟨go, N, fun _ => false, by rw [← HN.out], by rw [← HN.out]; exact hown, hWD, hWZ, fun j hj => ?_⟩
   rw [MN.byte_iff HH.out HK.out]
   simp [hil]
  clear hown hT1
  go_upto_region 24 with (fail)
  clear y0 y1
  obtain ⟨eb2, cap2, g2, v2, hE2, hg2, hr2, hc2', hf2, _⟩ := hT2.slot (k := k) (i := i) (by omega) HI.out
  have hE3 := HE.out.symm.trans hE2
  simp only [Value.slice.injEq, Option.some.injEq, Addr.mk.injEq, and_true, true_and] at hE3
  obtain ⟨hebe, hcape⟩ := hE3
  subst hebe hcape
  obtain rfl : g = g2 := Option.some.inj (HG.out.symm.trans hg2)
  rw [← HN.out] at hr2
  obtain ⟨z0, z1, _, z3⟩ := hT2.xb.main
  rw [HE.out] at z3
  obtain ⟨hp1, hp2, hp3⟩ := hT2.put HG.out hEA
  have hend := hkw2.trans hp3
  clear hE2 hg2 hEA hT2 hkw2 hp3
  go_wp2_with fail
  go_ret
  exact ⟨_, rfl, hp1, hp2, hend⟩
 have hil' : (i : Int) < (s.size : Int) := by omega
 have hb1 := (s[i]'hil).toNat_lt
 have hij : (i : Int) + 1 < (N : Int) := by have := HN.out; omega
 have hij0 : (0 : Int) ≤ (i : Int) + 1 := by omega
 have hadd1 : (i : Int) + 1 ≤ 9223372036854775807 := by have := HS.out; omega
 have hwr : IntKind.i64.wrap ((i : Int) + 1) = (i : Int) + 1 := wrap_small (by omega) (by have := HS.out; omega)
 have htn : ((i : Int) + 1).toNat = i + 1 := by omega
 go_upto_region 8 with (fail)
 have hkD : Keeps [] w1 w1.drew := (Keeps.refl [] w1).drewN 1
 have hS0 : w1.drew.heap[gn]? = some (.cells #[.int .u8 98, .slice (some ⟨q, 0, none⟩) 256 256, .int .i64 nd.n, .int .i64 nd.mn, .int .i64 nd.mx, .slice ka nd.kids.length kc] 157 (0, 0)) ∧ w1.drew.cell? ⟨b, 1, none⟩ = some (.string s) := ⟨HW1.out, y1⟩
 have hTD := hT1.keep hkD (by simp)
 have hRD : RB w1.drew (.slice (some ⟨go, 0, none⟩) N N) N (fun _ => false) := RB.keep hown hkD (by simp)
 refine wp_region_held (S := fun X' => X'.heap[gn]? = some (.cells #[.int .u8 98, .slice (some ⟨q, 0, none⟩) 256 256, .int .i64 nd.n, .int .i64 nd.mn, .int .i64 nd.mx, .slice ka nd.kids.length kc] 157 (0, 0)) ∧ X'.cell? ⟨b, 1, none⟩ = some (.string s)) (by kernel_rfl) ?_
 change wpAnyH _ _ _ _ _ _ _ _ (World.drew _)
 generalize w1.drew = X0 at *
 refine wpAnyH_tk 0 _ (some 61) (.slice (some ⟨go, 0, none⟩) N N) rfl rfl (by kernel_rfl) (by kernel_rfl) (by kernel_rfl) (fun _ _ _ h => h) (Or.inl ⟨by rfl, fun X hX => by (go_simp)⟩) hS0 ?_
 simp only [Act.put, List.setIfInBounds_toArray, List.set_cons_zero, List.set_cons_succ]
 refine wpAnyH_tk 1 _ (some 62) (.int .i64 i) rfl rfl (by kernel_rfl) (by kernel_rfl) (by kernel_rfl) (fun _ _ _ h => h) (Or.inl ⟨by rfl, fun X hX => by (go_simp)⟩) hS0 ?_
 simp only [Act.put, List.setIfInBounds_toArray, List.set_cons_zero, List.set_cons_succ]
 refine wpAnyH_tk 2 _ (some 63) (.int .i64 ((i : Int) + 1)) rfl rfl (by kernel_rfl) (by kernel_rfl) (by kernel_rfl) (fun _ _ _ h => h) (Or.inl ⟨by rfl, fun X hX => by (go_simp)⟩) hS0 ?_
 simp only [Act.put, List.setIfInBounds_toArray, List.set_cons_zero, List.set_cons_succ]
 refine wpAnyH_tk 3 _ (some 64) (.pointer (some ⟨b, 0, none⟩)) rfl rfl (by kernel_rfl) (by kernel_rfl) (by kernel_rfl) (fun _ _ _ h => h) (Or.inl ⟨by rfl, fun X hX => by (go_simp)⟩) hS0 ?_
 simp only [Act.put, List.setIfInBounds_toArray, List.set_cons_zero, List.set_cons_succ]
 refine wpAnyH_tk 4 _ (some 65) (.agg #[.int .u8 98, .slice (some ⟨q, 0, none⟩) 256 256, .int .i64 nd.n, .int .i64 nd.mn, .int .i64 nd.mx, .slice ka nd.kids.length kc]) rfl rfl (by kernel_rfl) (by kernel_rfl) (by kernel_rfl) (fun _ _ _ h => h) (Or.inl ⟨by rfl, fun X hX => by (obtain ⟨q0, q1, q2, q3, q4, q5⟩ := nodeCells6 hX.1; have q6 := hX.2; go_simp)⟩) hS0 ?_
 simp only [Act.put, List.setIfInBounds_toArray, List.set_cons_zero, List.set_cons_succ]
 refine wpAnyH_tk 5 _ (some 66) (.pointer (some ⟨b, 0, none⟩)) rfl rfl (by kernel_rfl) (by kernel_rfl) (by kernel_rfl) (fun _ _ _ h => h) (Or.inl ⟨by rfl, fun X hX => by (go_simp)⟩) hS0 ?_
 simp only [Act.put, List.setIfInBounds_toArray, List.set_cons_zero, List.set_cons_succ]
 refine wpAnyH_tk 6 _ (some 67) (.pointer (some ⟨b, 0, none⟩)) rfl rfl (by kernel_rfl) (by kernel_rfl) (by kernel_rfl) (fun _ _ _ h => h) (Or.inl ⟨by rfl, fun X hX => by (go_simp)⟩) hS0 ?_
 simp only [Act.put, List.setIfInBounds_toArray, List.set_cons_zero, List.set_cons_succ]
 refine wpAnyH_tk 7 _ (some 68) (.pointer (some ⟨b, 1, none⟩)) rfl rfl (by kernel_rfl) (by kernel_rfl) (by kernel_rfl) (fun _ _ _ h => h) (Or.inl ⟨by rfl, fun X hX => by (go_simp)⟩) hS0 ?_
 simp only [Act.put, List.setIfInBounds_toArray, List.set_cons_zero, List.set_cons_succ]
 refine wpAnyH_tk 8 _ (some 69) (.string s) rfl rfl (by kernel_rfl) (by kernel_rfl) (by kernel_rfl) (fun _ _ _ h => h) (Or.inl ⟨by rfl, fun X hX => by (obtain ⟨q0, q1, q2, q3, q4, q5⟩ := nodeCells6 hX.1; have q6 := hX.2; go_simp)⟩) hS0 ?_
 simp only [Act.put, List.setIfInBounds_toArray, List.set_cons_zero, List.set_cons_succ]
 refine wpAnyH_tk 9 _ (some 70) (.int .i64 i) rfl rfl (by kernel_rfl) (by kernel_rfl) (by kernel_rfl) (fun _ _ _ h => h) (Or.inl ⟨by rfl, fun X hX => by (go_simp)⟩) hS0 ?_
 simp only [Act.put, List.setIfInBounds_toArray, List.set_cons_zero, List.set_cons_succ]
 refine wpAnyH_tk 10 _ (some 71) (.int .u8 ((s[i]'hil).toNat : Int)) rfl rfl (by kernel_rfl) (by kernel_rfl) (by kernel_rfl) (fun _ _ _ h => h) (Or.inl ⟨by rfl, fun X hX => by (go_simp)⟩) hS0 ?_
 simp only [Act.put, List.setIfInBounds_toArray, List.set_cons_zero, List.set_cons_succ]
 refine wpAnyH_ready (rs := [11]) (by kernel_rfl) (by simp) ?_
 refine AllReadyH.cons rfl (fun K hK => ?_) AllReadyH.nil
 go_simp
 refine (holds_any b q (s[i]'hil).toNat _ E s nd.f (by omega) X0 _ _ _ _ _ _ _ hTD.xb (HHB.out.keep (hkw1.trans hkD) (by simp))).mono ?_
 rintro e w2 ⟨rfl, hk2⟩
 have hS1 : w2.heap[gn]? = some (.cells #[.int .u8 98, .slice (some ⟨q, 0, none⟩) 256 256, .int .i64 nd.n, .int .i64 nd.mn, .int .i64 nd.mx, .slice ka nd.kids.length kc] 157 (0, 0)) ∧ w2.cell? ⟨b, 1, none⟩ = some (.string s) := ⟨(hk2.block gn (Array.getElem?_eq_some_iff.1 hS0.1).1 (by simp)).trans hS0.1, (hk2.cell hS0.2)⟩
 refine hK.out _ _ hS1 (fun _ => ?_)
 clear hK K
 have hR2 : RB w2 (.slice (some ⟨go, 0, none⟩) N N) N (fun _ => false) := RB.keep hRD hk2 (by simp)
 refine wpAnyH_tk 12 _ (some 73) (.pointer (some ⟨go, i + 1, none⟩)) rfl rfl (by kernel_rfl) (by kernel_rfl) (by kernel_rfl) (fun _ _ _ h => h) (Or.inl ⟨by rfl, fun X hX => by go_simp⟩) hS1 ?_
 simp only [Act.put, List.setIfInBounds_toArray, List.set_cons_zero, List.set_cons_succ]
 refine wpAnyH_ready (rs := [13]) (by kernel_rfl) (by simp) ?_
 refine AllReadyH.cons rfl (fun K hK => ?_) AllReadyH.nil
 have ca := RB.at hR2 (j := i + 1) (by have := HN.out; omega)
 have fa := RB.frozen hR2 (i + 1)
 have hkX := (hkw1.trans hkD).trans hk2
 have hkS : Keeps [go] w2 (w2.setCell ⟨go, i + 1, none⟩ (.bool (nd.f (s[i]'hil).toNat))) := (Keeps.refl [go] w2).setCell (p := ⟨go, i + 1, none⟩) (by simp) _
 have hS2 : (w2.setCell ⟨go, i + 1, none⟩ (.bool (nd.f (s[i]'hil).toNat))).heap[gn]? = some (.cells #[.int .u8 98, .slice (some ⟨q, 0, none⟩) 256 256, .int .i64 nd.n, .int .i64 nd.mn, .int .i64 nd.mx, .slice ka nd.kids.length kc] 157 (0, 0)) ∧ (w2.setCell ⟨go, i + 1, none⟩ (.bool (nd.f (s[i]'hil).toNat))).cell? ⟨b, 1, none⟩ = some (.string s) := ⟨(hkS.block gn (Array.getElem?_eq_some_iff.1 hS1.1).1 (by simp; exact hWg)).trans hS1.1, (World.cell?_of_block (hkS.block b (Nat.lt_of_lt_of_le HT.out.xb.lt hkX.size) (by simp; exact fun e => hWb e.symm))).trans hS1.2⟩
 have hT2 : TX (w2.setCell ⟨go, i + 1, none⟩ (.bool (nd.f (s[i]'hil).toNat))) b bp s p nds D E Z :=
  (((HT.out.less (Z' := go :: Z) (by intro x hx; rcases List.mem_cons.1 hx with rfl | hx; exact Or.inr HGO.out; exact Or.inl hx)).keep hkX (by simp)).keep hkS (by intro x hx; simp only [List.mem_singleton] at hx; subst hx; exact Or.inl (by simp))).less (Z' := Z) (fun x hx => Or.inl (List.mem_cons_of_mem _ hx))
 have hkw2 : Keeps D w (w2.setCell ⟨go, i + 1, none⟩ (.bool (nd.f (s[i]'hil).toNat))) := (hkX.setCell (p := ⟨go, i + 1, none⟩) (Or.inr HGO.out) _).mono (by simp)
 have hEA : EA (w2.setCell ⟨go, i + 1, none⟩ (.bool (nd.f (s[i]'hil).toNat))) s nds D Z k i (.slice (some ⟨go, 0, none⟩) N N) := by
  refine ⟨go, N, fun j => if j = i + 1 then nd.f (s[i]'hil).toNat else false, by rw [← HN.out], by rw [← HN.out]; exact RB.put hR2 (i + 1) _, hWD, hWZ, fun j hj => ?_⟩
  rw [MN.byte_iff HH.out HK.out, at'_lt hil]
  by_cases hji : j = i + 1
  ·simp [hji, hil]
  ·simp [hji]
 go_simp
 refine hK.out _ _ hS2 (fun _ => ?_)
 clear hK K
 refine wpAnyH_done (by kernel_rfl) ?_ _
 clear hS0 hS1 hS2 hTD hRD hR2 ca fa hT1 hown hk2 hkD hkS hkX e0 e5 y0 y1 hil' hb1 hij hij0 hadd1 hwr htn
 generalize w2.setCell ⟨go, i + 1, none⟩ (.bool (nd.f (s[i]'hil).toNat)) = w3 at *
 obtain ⟨eb2, cap2, g2, v2, hE2, hg2, hr2, hc2', hf2, _⟩ := hT2.slot (k := k) (i := i) (by omega) HI.out
 have hE3 := HE.out.symm.trans hE2
 simp only [Value.slice.injEq, Option.some.injEq, Addr.mk.injEq, and_true, true_and] at hE3
 obtain ⟨hebe, hcape⟩ := hE3
 subst hebe hcape
 obtain rfl : g = g2 := Option.some.inj (HG.out.symm.trans hg2)
 rw [← HN.out] at hr2
 obtain ⟨z0, z1, _, z3⟩ := hT2.xb.main
 rw [HE.out] at z3
 obtain ⟨hp1, hp2, hp3⟩ := hT2.put HG.out hEA
 have hend := hkw2.trans hp3
 clear hE2 hg2 hEA hT2 hkw2 hp3
 go_wp2_with fail
 go_ret
 exact ⟨_, rfl, hp1, hp2, hend⟩
end Go.Proofs.YtnfojonmohijpaaGreatDoor
