/-
  DERIVED. The reference's 'Ends' at a repeat. Conditions: what it has in memory lies as it should (TX).
-/
import Derived.Test.YtnfojonmohijpaaGreatDoorJMG
import Derived.Test.YtnfojonmohijpaaGreatDoorJNQ
import Derived.Test.YtnfojonmohijpaaGreatDoorJNJ
import Derived.Test.YtnfojonmohijpaaGreatDoorJRU
import Derived.Test.YtnfojonmohijpaaGreatDoorJNS
import Derived.Test.YtnfojonmohijpaaGreatDoorJSpec
set_option linter.unusedSimpArgs false
set_option linter.unusedVariables false
namespace Go.Proofs.YtnfojonmohijpaaGreatDoor
open Go.RowKit
theorem nodeCells {w : World} {g : Nat} {a b c d e f : Value} (h : w.heap[g]? = some (.cells #[a, b, c, d, e, f] 157 (0, 0))) : w.cell? ⟨g, 3, none⟩ = some d ∧ w.cell? ⟨g, 4, none⟩ = some e ∧ w.cell? ⟨g, 5, none⟩ = some f := by
 refine ⟨?_, ?_, ?_⟩ <;> (rw [Lib.cell_of_heap h]; rfl)
set_option maxRecDepth 100000 in
set_option maxHeartbeats 2000000 in
theorem ends_rep (s : ByteArray) (N : Nat) (HN : Hid (N = s.size + 1)) (nds : List Nd) (hn : nds.length ≤ 1000) (n : Nat) (IH : EndsOk s nds n) (k : Nat) (nd : Nd) (hk : nds[k]? = some nd) (hkind : nd.kind = 114) (c : Nat) (HC : Hid (nd.kids = [c])) (hck : NK nds n c) (hmn : Hid (nd.mn ≤ 5)) (hmx : Hid (-1 ≤ nd.mx ∧ nd.mx ≤ 5)) (hlm : Hid (nd.mx < 0 ∨ (nd.mn : Int) ≤ nd.mx)) (hkl : nd.kids.length ≤ 1000)
    (w : World) (b bp : Nat) (p : PS) (D : List Nat) (E : Value) (Z : List Nat) (i : Nat) (h : TX w b bp s p nds D E Z) (HZ : Hid (∀ x, x ∈ Z → x < w.heap.size)) (hi : i ≤ s.size)
    (eb cap g : Nat) (hE : E = .slice (some ⟨eb, 0, none⟩) nds.length cap) (hg : D[k]? = some g) (hr : w.cell? ⟨eb, k, none⟩ = some (.slice (some ⟨g, 0, none⟩) N N)) (hc : w.cell? ⟨g, i, none⟩ = some (.slice none 0 0)) :
    Calls Tryz.prog 48 #[.pointer (some ⟨b, 0, none⟩), .int .i64 k, .int .i64 i] w (EPo s nds k i w b bp p D E Z) := by
 obtain ⟨i0, hi0, hz0, hz1, hz2⟩ := info_parts infoBool
 have hun := Tryz.underlying98
 obtain ⟨x0, x1, x2, x3⟩ := h.xb.main
 rw [hE] at x3
 obtain ⟨g', cap', hv, kv, hform, hkn, hH, hK, c0, c1, c2, c3, c4, c5⟩ := h.nodes.node hk
 have HK : Hid (nd.kind = 114) := hkind
 rw [hkind] at c0
 obtain ⟨n1, _⟩ := h.pb.nodes
 rw [hform] at n1
 obtain ⟨ha, hn2, hc2, rfl⟩ := hH.1
 have HHV : Hid (HoldsF w b (avoA bp (b :: (E.ownBlock.toList ++ (D ++ Z))) p.nodes) (.slice ha hn2 hc2) nd) := hH
 have HKV : Hid (KV w D kv nd.kids) := hK.kv hkl
 obtain ⟨ka, kc, rfl, hkid⟩ := hK.form
 have hs := h.small
 have hk0' : (0 : Int) ≤ (k : Int) := by omega
 have hk1' : (k : Int) < (nds.length : Int) := by omega
 have hi0' : (0 : Int) ≤ (i : Int) := by omega
 have hi1' : (i : Int) < (N : Int) := by have := HN.out; omega
 have hadd : (s.size : Int) + 1 ≤ 9223372036854775807 := by omega
 have HI : Hid (i ≤ s.size) := hi
 have HS : Hid (s.size ≤ 100) := hs
 have HE : Hid (E = .slice (some ⟨eb, 0, none⟩) nds.length cap) := hE
 have HT : Hid (TX w b bp s p nds D E Z) := h
 have HH : Hid (nds[k]? = some nd) := hk
 have hWk := (Keeps.refl [] w).alloc (.cells #[.int .u8 114, .slice ha hn2 hc2, .int .i64 nd.n, .int .i64 nd.mn, .int .i64 nd.mx, .slice ka nd.kids.length kc] 157)
 have hnew := heap_alloc_new w (.cells #[.int .u8 114, .slice ha hn2 hc2, .int .i64 nd.n, .int .i64 nd.mn, .int .i64 nd.mx, .slice ka nd.kids.length kc] 157)
 have HG : Hid (D[k]? = some g) := hg
 have hk2' : (nds.length : Int) ≤ 1000 := by omega
 have hkl' : (nd.kids.length : Int) ≤ 1000 := by omega
 clear h hE hk hi hs hform hH hK hkn hkind hn hkid hg hkl x2
 go_enter Tryz.func48, Tryz.ntmps48
 go_upto_region 4 with (fail)
 clear c0 c1 c2 c3 c4 c5 n1 x0 x1 x3 hr hc
 generalize w.alloc (.cells #[.int .u8 114, .slice ha hn2 hc2, .int .i64 nd.n, .int .i64 nd.mn, .int .i64 nd.mx, .slice ka nd.kids.length kc] 157) = W at *
 obtain ⟨gn, hgn⟩ : ∃ gn, gn = w.heap.size := ⟨_, rfl⟩
 rw [← hgn] at hnew ⊢
 have HGN : Hid (gn = w.heap.size) := hgn
 clear hgn
 have hT0 := HT.out.keep hWk (by simp)
 obtain ⟨y0, y1, _, _⟩ := hT0.xb.main
 clear hT0
 go_upto_region 5 with (first | (refine wpList_make_full W rfl _ _ 98 rfl 0 4 i0 (.bool false) 1 hun hi0 hz0 hz1 .i64 .i64 ((s.size : Int) + 1) ((s.size : Int) + 1) N rfl rfl (by have := HN.out; omega) (by have := HN.out; omega) (by have := HN.out; have := HS.out; rw [hz2]; omega) (by have := HN.out; have := HS.out; unfold maxLen; omega) (Nat.zero_le _) ?_; intro w1 hown hgr))
 rw [Nat.mul_one, show (Value.bool false).cells = #[.bool false] from rfl, bl_made] at hown
 have hk1 : Keeps [] W w1 := Keeps.ofGrownNone hgr
 have hkw1 := hWk.trans hk1
 have hnew1 := (hk1.block gn (Array.getElem?_eq_some_iff.1 hnew).1 (by simp)).trans hnew
 have hT1 := HT.out.keep hkw1 (by simp)
 have HKV1 : Hid (KV w1 D (.slice ka nd.kids.length kc) nd.kids) := HKV.out.keep (hkw1.mono (by simp))
 have e0 : w1.cell? ⟨gn, 0, none⟩ = some (.int .u8 114) := by rw [Lib.cell_of_heap hnew1]; rfl
 have e5 : w1.cell? ⟨gn, 5, none⟩ = some (.slice ka nd.kids.length kc) := by rw [Lib.cell_of_heap hnew1]; rfl
 have hWs := hWk.size
 have hgnW : gn < W.heap.size := (Array.getElem?_eq_some_iff.1 hnew).1
 have HW1 : Hid (w1.heap[gn]? = some (.cells #[.int .u8 114, .slice ha hn2 hc2, .int .i64 nd.n, .int .i64 nd.mn, .int .i64 nd.mx, .slice ka nd.kids.length kc] 157 (0, 0))) := hnew1
 have HGW : Hid (gn < W.heap.size ∧ w.heap.size ≤ W.heap.size) := ⟨hgnW, hWs⟩
 clear y0 y1 hgr hnew hnew1 hgnW hWs hadd hz0 hz1 hz2 hi0 hun hWk hk1
 obtain ⟨ka', kc', ek, _, hkc⟩ := HKV1.out
 obtain ⟨q, off, rfl, hql, hqD, hqc⟩ : ∃ q off, ka = some ⟨q, off, none⟩ ∧ q < w1.heap.size ∧ q ∉ D ∧ w1.cell? ⟨q, off + 0, none⟩ = some (.int .i64 c) := by
  simp only [Value.slice.injEq] at ek
  obtain ⟨rfl, _, rfl⟩ := ek
  exact hkc 0 c (by rw [HC.out]; rfl)
 have hkn' : ((nd.kids.length : Nat) : Int) = 1 := by rw [HC.out]; rfl
 have hkn0 : (0 : Int) < (nd.kids.length : Int) := by omega
 rw [Nat.add_zero] at hqc
 clear hown ek hkc hkn'
 go_upto_region 14 with (fail)
 have hkD : Keeps [] w1 w1.drew := (Keeps.refl [] w1).drewN 1
 have hS0 : w1.drew.heap[gn]? = some (.cells #[.int .u8 114, .slice ha hn2 hc2, .int .i64 nd.n, .int .i64 nd.mn, .int .i64 nd.mx, .slice (some ⟨q, off, none⟩) nd.kids.length kc] 157 (0, 0)) ∧ w1.drew.cell? ⟨q, off, none⟩ = some (.int .i64 c) := ⟨HW1.out, hqc⟩
 have hTD := hT1.keep hkD (by simp)
 have hgD : gn ∉ D := fun hm => by have h1 := HT.out.dlt gn hm; have := HGN.out; omega
 refine wp_region_held (S := fun X' => X'.heap[gn]? = some (.cells #[.int .u8 114, .slice ha hn2 hc2, .int .i64 nd.n, .int .i64 nd.mn, .int .i64 nd.mx, .slice (some ⟨q, off, none⟩) nd.kids.length kc] 157 (0, 0)) ∧ X'.cell? ⟨q, off, none⟩ = some (.int .i64 c)) (by kernel_rfl) ?_
 change wpAnyH _ _ _ _ _ _ _ _ (World.drew _)
 generalize w1.drew = X0 at *
 refine wpAnyH_tk 0 _ (some 92) (.pointer (some ⟨b, 0, none⟩)) rfl rfl (by kernel_rfl) (by kernel_rfl) (by kernel_rfl) (fun _ _ _ h => h) (Or.inl ⟨by rfl, fun X hX => by (go_simp)⟩) hS0 ?_
 simp only [Act.put, List.setIfInBounds_toArray, List.set_cons_zero, List.set_cons_succ]
 refine wpAnyH_tk 1 _ (some 93) (.pointer (some ⟨gn, 5, none⟩)) rfl rfl (by kernel_rfl) (by kernel_rfl) (by kernel_rfl) (fun _ _ _ h => h) (Or.inl ⟨by rfl, fun X hX => by (go_simp)⟩) hS0 ?_
 simp only [Act.put, List.setIfInBounds_toArray, List.set_cons_zero, List.set_cons_succ]
 refine wpAnyH_tk 2 _ (some 94) (.slice (some ⟨q, off, none⟩) nd.kids.length kc) rfl rfl (by kernel_rfl) (by kernel_rfl) (by kernel_rfl) (fun _ _ _ h => h) (Or.inl ⟨by rfl, fun X hX => by (obtain ⟨⟨q3, q4, q5⟩, q6⟩ : (_ ∧ _ ∧ _) ∧ _ := ⟨nodeCells hX.1, hX.2⟩; go_simp)⟩) hS0 ?_
 simp only [Act.put, List.setIfInBounds_toArray, List.set_cons_zero, List.set_cons_succ]
 refine wpAnyH_tk 3 _ (some 95) (.pointer (some ⟨q, off, none⟩)) rfl rfl (by kernel_rfl) (by kernel_rfl) (by kernel_rfl) (fun _ _ _ h => h) (Or.inl ⟨by rfl, fun X hX => by (obtain ⟨⟨q3, q4, q5⟩, q6⟩ : (_ ∧ _ ∧ _) ∧ _ := ⟨nodeCells hX.1, hX.2⟩; go_simp; intro h0; have h1 := HC.out; rw [h0] at h1; cases h1)⟩) hS0 ?_
 simp only [Act.put, List.setIfInBounds_toArray, List.set_cons_zero, List.set_cons_succ]
 refine wpAnyH_tk 4 _ (some 96) (.int .i64 c) rfl rfl (by kernel_rfl) (by kernel_rfl) (by kernel_rfl) (fun _ _ _ h => h) (Or.inl ⟨by rfl, fun X hX => by (obtain ⟨⟨q3, q4, q5⟩, q6⟩ : (_ ∧ _ ∧ _) ∧ _ := ⟨nodeCells hX.1, hX.2⟩; go_simp)⟩) hS0 ?_
 simp only [Act.put, List.setIfInBounds_toArray, List.set_cons_zero, List.set_cons_succ]
 refine wpAnyH_tk 5 _ (some 97) (.pointer (some ⟨gn, 3, none⟩)) rfl rfl (by kernel_rfl) (by kernel_rfl) (by kernel_rfl) (fun _ _ _ h => h) (Or.inl ⟨by rfl, fun X hX => by (go_simp)⟩) hS0 ?_
 simp only [Act.put, List.setIfInBounds_toArray, List.set_cons_zero, List.set_cons_succ]
 refine wpAnyH_tk 6 _ (some 98) (.int .i64 nd.mn) rfl rfl (by kernel_rfl) (by kernel_rfl) (by kernel_rfl) (fun _ _ _ h => h) (Or.inl ⟨by rfl, fun X hX => by (obtain ⟨⟨q3, q4, q5⟩, q6⟩ : (_ ∧ _ ∧ _) ∧ _ := ⟨nodeCells hX.1, hX.2⟩; go_simp)⟩) hS0 ?_
 simp only [Act.put, List.setIfInBounds_toArray, List.set_cons_zero, List.set_cons_succ]
 refine wpAnyH_tk 7 _ (some 99) (.pointer (some ⟨gn, 4, none⟩)) rfl rfl (by kernel_rfl) (by kernel_rfl) (by kernel_rfl) (fun _ _ _ h => h) (Or.inl ⟨by rfl, fun X hX => by (go_simp)⟩) hS0 ?_
 simp only [Act.put, List.setIfInBounds_toArray, List.set_cons_zero, List.set_cons_succ]
 refine wpAnyH_tk 8 _ (some 100) (.int .i64 nd.mx) rfl rfl (by kernel_rfl) (by kernel_rfl) (by kernel_rfl) (fun _ _ _ h => h) (Or.inl ⟨by rfl, fun X hX => by (obtain ⟨⟨q3, q4, q5⟩, q6⟩ : (_ ∧ _ ∧ _) ∧ _ := ⟨nodeCells hX.1, hX.2⟩; go_simp)⟩) hS0 ?_
 simp only [Act.put, List.setIfInBounds_toArray, List.set_cons_zero, List.set_cons_succ]
 refine wpAnyH_tk 9 _ (some 101) (.int .i64 i) rfl rfl (by kernel_rfl) (by kernel_rfl) (by kernel_rfl) (fun _ _ _ h => h) (Or.inl ⟨by rfl, fun X hX => by (go_simp)⟩) hS0 ?_
 simp only [Act.put, List.setIfInBounds_toArray, List.set_cons_zero, List.set_cons_succ]
 refine wpAnyH_ready (rs := [10]) (by kernel_rfl) (by simp) ?_
 refine AllReadyH.cons rfl (fun K hK => ?_) AllReadyH.nil
 go_simp
 refine (rtimes_any s N HN nds n IH c hck X0 b bp p D E Z hTD (fun x hx => Nat.lt_of_lt_of_le (HZ.out x hx) (hkw1.trans hkD).size) nd.mn nd.mx hmn.out hmx.out hlm.out i HI.out).mono ?_
 rintro e w2 ⟨v, rfl, hRS, hfr, hT2, hk2⟩
 have hkw2 : Keeps D w w2 := ((hkw1.trans hkD).mono (by simp)).trans hk2
 obtain ⟨x, c', f, rfl, hRB, hxD, hsay⟩ := hRS
 have hx1 := hfr x rfl
 have hEA : EA w2 s nds D Z k i (.slice (some ⟨x, 0, none⟩) N c') := by
  refine ⟨x, c', f, by rw [← HN.out], by rw [← HN.out]; exact hRB, hxD, fun hz => by have := HZ.out x hz; have := (hkw1.trans hkD).size; omega, fun j hj => ?_⟩
  rw [hsay j hj, MN.rep_iff HH.out HK.out HC.out]
  exact Iff.rfl
 have hS1 : w2.heap[gn]? = some (.cells #[.int .u8 114, .slice ha hn2 hc2, .int .i64 nd.n, .int .i64 nd.mn, .int .i64 nd.mx, .slice (some ⟨q, off, none⟩) nd.kids.length kc] 157 (0, 0)) ∧ w2.cell? ⟨q, off, none⟩ = some (.int .i64 c) := ⟨(hk2.block gn (Array.getElem?_eq_some_iff.1 hS0.1).1 hgD).trans hS0.1, (World.cell?_of_block (hk2.block q (Nat.lt_of_lt_of_le hql hkD.size) hqD)).trans hS0.2⟩
 refine hK.out _ _ hS1 (fun _ => ?_)
 clear hK K
 refine wpAnyH_tk 11 _ (some 8) (.slice (some ⟨x, 0, none⟩) N c') rfl rfl (by kernel_rfl) (by kernel_rfl) (by kernel_rfl) (fun _ _ _ h => h) (Or.inl ⟨by rfl, fun X hX => by go_simp⟩) hS1 ?_
 simp only [Act.put, List.setIfInBounds_toArray, List.set_cons_zero, List.set_cons_succ]
 refine wpAnyH_done (by kernel_rfl) ?_ _
 clear hRB hsay hfr hT1 hk2 e0 e5 hqc hS0 hS1 hTD hkD
 obtain ⟨eb2, cap2, g2, v2, hE2, hg2, hr2, hc2', hf2, _⟩ := hT2.slot (k := k) (i := i) (by omega) HI.out
 have hE3 := HE.out.symm.trans hE2
 simp only [Value.slice.injEq, Option.some.injEq, Addr.mk.injEq, and_true, true_and] at hE3
 obtain ⟨hebe, hcape⟩ := hE3
 subst hebe hcape
 obtain rfl : g = g2 := Option.some.inj (HG.out.symm.trans hg2)
 rw [← HN.out] at hr2
 obtain ⟨z0, z1, _, z3⟩ := hT2.xb.main
 rw [HE.out] at z3
 obtain ⟨hp1, hp2, hp3⟩ := hT2.put HG.out hEA
 have hend := hkw2.trans hp3
 clear hE2 hg2 hEA hT2 hkw2 hp3
 go_wp2_with fail
 go_ret
 exact ⟨_, rfl, hp1, hp2, hend⟩
end Go.Proofs.YtnfojonmohijpaaGreatDoor
namespace Go.Proofs.YtnfojonmohijpaaGreatDoor
open Go.RowKit
theorem nodeCells6 {w : World} {g : Nat} {a b c d e f : Value} (h : w.heap[g]? = some (.cells #[a, b, c, d, e, f] 157 (0, 0))) : w.cell? ⟨g, 0, none⟩ = some a ∧ w.cell? ⟨g, 1, none⟩ = some b ∧ w.cell? ⟨g, 2, none⟩ = some c ∧ w.cell? ⟨g, 3, none⟩ = some d ∧ w.cell? ⟨g, 4, none⟩ = some e ∧ w.cell? ⟨g, 5, none⟩ = some f := by
 refine ⟨?_, ?_, ?_, ?_, ?_, ?_⟩ <;> (rw [Lib.cell_of_heap h]; rfl)
set_option maxRecDepth 100000 in
set_option maxHeartbeats 2000000 in
theorem ends_byte (s : ByteArray) (N : Nat) (HN : Hid (N = s.size + 1)) (nds : List Nd) (hn : nds.length ≤ 1000) (n : Nat) (IH : EndsOk s nds n) (k : Nat) (nd : Nd) (hk : nds[k]? = some nd) (hkind : nd.kind = 98) (hkl : nd.kids.length ≤ 1000)
    (w : World) (b bp : Nat) (p : PS) (D : List Nat) (E : Value) (Z : List Nat) (i : Nat) (h : TX w b bp s p nds D E Z) (HZ : Hid (∀ x, x ∈ Z → x < w.heap.size)) (hi : i ≤ s.size)
    (eb cap g : Nat) (hE : E = .slice (some ⟨eb, 0, none⟩) nds.length cap) (hg : D[k]? = some g) (hr : w.cell? ⟨eb, k, none⟩ = some (.slice (some ⟨g, 0, none⟩) N N)) (hc : w.cell? ⟨g, i, none⟩ = some (.slice none 0 0)) :
    Calls Tryz.prog 48 #[.pointer (some ⟨b, 0, none⟩), .int .i64 k, .int .i64 i] w (EPo s nds k i w b bp p D E Z) := by
 obtain ⟨i0, hi0, hz0, hz1, hz2⟩ := info_parts infoBool
 have hun := Tryz.underlying98
 obtain ⟨x0, x1, x2, x3⟩ := h.xb.main
 rw [hE] at x3
 obtain ⟨g', cap', hv, kv, hform, hkn, hH, hK, c0, c1, c2, c3, c4, c5⟩ := h.nodes.node hk
 have HK : Hid (nd.kind = 98) := hkind
 rw [hkind] at c0
 obtain ⟨n1, _⟩ := h.pb.nodes
 rw [hform] at n1
 obtain ⟨ha, hn2, hc2, rfl⟩ := hH.1
 have HHV : Hid (HoldsF w b (avoA bp (b :: (E.ownBlock.toList ++ (D ++ Z))) p.nodes) (.slice ha hn2 hc2) nd) := hH
 have HKV : Hid (KV w D kv nd.kids) := hK.kv hkl
 obtain ⟨ka, kc, rfl, hkid⟩ := hK.form
 have hs := h.small
 have hk0' : (0 : Int) ≤ (k : Int) := by omega
 have hk1' : (k : Int) < (nds.length : Int) := by omega
 have hi0' : (0 : Int) ≤ (i : Int) := by omega
 have hi1' : (i : Int) < (N : Int) := by have := HN.out; omega
 have hadd : (s.size : Int) + 1 ≤ 9223372036854775807 := by omega
 have HI : Hid (i ≤ s.size) := hi
 have HS : Hid (s.size ≤ 100) := hs
 have HE : Hid (E = .slice (some ⟨eb, 0, none⟩) nds.length cap) := hE
 have HT : Hid (TX w b bp s p nds D E Z) := h
 have HH : Hid (nds[k]? = some nd) := hk
 have hWk := (Keeps.refl [] w).alloc (.cells #[.int .u8 98, .slice ha hn2 hc2, .int .i64 nd.n, .int .i64 nd.mn, .int .i64 nd.mx, .slice ka nd.kids.length kc] 157)
 have hnew := heap_alloc_new w (.cells #[.int .u8 98, .slice ha hn2 hc2, .int .i64 nd.n, .int .i64 nd.mn, .int .i64 nd.mx, .slice ka nd.kids.length kc] 157)
 have HG : Hid (D[k]? = some g) := hg
 have hk2' : (nds.length : Int) ≤ 1000 := by omega
 have hkl' : (nd.kids.length : Int) ≤ 1000 := by omega
 clear h hE hk hi hs hform hH hK hkn hkind hn hkid hg hkl x2
 go_enter Tryz.func48, Tryz.ntmps48
 go_upto_region 4 with (fail)
 clear c0 c1 c2 c3 c4 c5 n1 x0 x1 x3 hr hc
 generalize w.alloc (.cells #[.int .u8 98, .slice ha hn2 hc2, .int .i64 nd.n, .int .i64 nd.mn, .int .i64 nd.mx, .slice ka nd.kids.length kc] 157) = W at *
 obtain ⟨gn, hgn⟩ : ∃ gn, gn = w.heap.size := ⟨_, rfl⟩
 rw [← hgn] at hnew ⊢
 have HGN : Hid (gn = w.heap.size) := hgn
 clear hgn
 have hT0 := HT.out.keep hWk (by simp)
 obtain ⟨y0, y1, _, _⟩ := hT0.xb.main
 clear hT0
 go_upto_region 5 with (first | (refine wpList_make_full W rfl _ _ 98 rfl 0 4 i0 (.bool false) 1 hun hi0 hz0 hz1 .i64 .i64 ((s.size : Int) + 1) ((s.size : Int) + 1) N rfl rfl (by have := HN.out; omega) (by have := HN.out; omega) (by have := HN.out; have := HS.out; rw [hz2]; omega) (by have := HN.out; have := HS.out; unfold maxLen; omega) (Nat.zero_le _) ?_; intro w1 hown hgr))
 rw [Nat.mul_one, show (Value.bool false).cells = #[.bool false] from rfl, bl_made] at hown
 have hk1 : Keeps [] W w1 := Keeps.ofGrownNone hgr
 have hkw1 := hWk.trans hk1
 have hnew1 := (hk1.block gn (Array.getElem?_eq_some_iff.1 hnew).1 (by simp)).trans hnew
 have hT1 := HT.out.keep hkw1 (by simp)
 have HKV1 : Hid (KV w1 D (.slice ka nd.kids.length kc) nd.kids) := HKV.out.keep (hkw1.mono (by simp))
 have e0 : w1.cell? ⟨gn, 0, none⟩ = some (.int .u8 98) := by rw [Lib.cell_of_heap hnew1]; rfl
 have e5 : w1.cell? ⟨gn, 5, none⟩ = some (.slice ka nd.kids.length kc) := by rw [Lib.cell_of_heap hnew1]; rfl
 have hWs := hWk.size
 have hgnW : gn < W.heap.size := (Array.getElem?_eq_some_iff.1 hnew).1
 have HW1 : Hid (w1.heap[gn]? = some (.cells #[.int .u8 98, .slice ha hn2 hc2, .int .i64 nd.n, .int .i64 nd.mn, .int .i64 nd.mx, .slice ka nd.kids.length kc] 157 (0, 0))) := hnew1
 have HGW : Hid (gn < W.heap.size ∧ w.heap.size ≤ W.heap.size) := ⟨hgnW, hWs⟩
 clear y0 y1 hgr hnew hnew1 hgnW hWs hadd hz0 hz1 hz2 hi0 hun hWk hk1
 obtain ⟨q, fo, f0, eh, hfo, hff, hHB, hqa⟩ := HHV.out.2 HK.out
 simp only [Value.slice.injEq] at eh
 obtain ⟨rfl, rfl, rfl⟩ := eh
 have HHB : Hid (HB w q f0 ∧ w.cell? ⟨b, 2, none⟩ = some (.bool fo) ∧ nd.f = foF fo f0) := ⟨hHB, hfo, hff⟩
 clear hfo hff
 have hWD : W.heap.size ∉ D := fun hm => by have := HT.out.dlt _ hm; have := HGW.out; omega
 have hWZ : W.heap.size ∉ Z := fun hm => by have := HZ.out _ hm; have := HGW.out; omega
 have hWb : W.heap.size ≠ b := by have := HT.out.xb.lt; have := HGW.out; omega
 have hWg : gn ≠ W.heap.size := by have := HGW.out; omega
 obtain ⟨y0, y1, y2, y3⟩ := hT1.xb.main
 clear y2 y3
 have HGO : Hid (w.heap.size ≤ W.heap.size) := HGW.out.2
 obtain ⟨go, ego⟩ : ∃ go, go = W.heap.size := ⟨_, rfl⟩
 rw [← ego] at hown hWD hWZ hWb hWg HGO ⊢
 clear ego hqa hHB
 by_cases hil : i < s.size
 rotate_left
 ·have hil' : ¬ (i : Int) < (s.size : Int) := by omega
  have hT2 := hT1
  have hkw2 : Keeps D w w1 := hkw1.mono (by simp)
  have hEA : EA w1 s nds D Z k i (.slice (some ⟨go, 0, none⟩) N N) := by
   refine ⟨go, N, fun _ => false, by rw [← HN.out], by rw [← HN.out]; exact hown, hWD, hWZ, fun j hj => ?_⟩
   rw [MN.byte_iff HH.out HK.out]
   simp [hil]
  clear hown hT1
  go_upto_region 24 with (fail)
  clear y0 y1
  obtain ⟨eb2, cap2, g2, v2, hE2, hg2, hr2, hc2', hf2, _⟩ := hT2.slot (k := k) (i := i) (by omega) HI.out
  have hE3 := HE.out.symm.trans hE2
  simp only [Value.slice.injEq, Option.some.injEq, Addr.mk.injEq, and_true, true_and] at hE3
  obtain ⟨hebe, hcape⟩ := hE3
  subst hebe hcape
  obtain rfl : g = g2 := Option.some.inj (HG.out.symm.trans hg2)
  rw [← HN.out] at hr2
  obtain ⟨z0, z1, _, z3⟩ := hT2.xb.main
  rw [HE.out] at z3
  obtain ⟨hp1, hp2, hp3⟩ := hT2.put HG.out hEA
  have hend := hkw2.trans hp3
  clear hE2 hg2 hEA hT2 hkw2 hp3
  go_wp2_with fail
  go_ret
  exact ⟨_, rfl, hp1, hp2, hend⟩
 have hil' : (i : Int) < (s.size : Int) := by omega
 have hb1 := (s[i]'hil).toNat_lt
 have hij : (i : Int) + 1 < (N : Int) := by have := HN.out; omega
 have hij0 : (0 : Int) ≤ (i : Int) + 1 := by omega
 have hadd1 : (i : Int) + 1 ≤ 9223372036854775807 := by have := HS.out; omega
 have hwr : IntKind.i64.wrap ((i : Int) + 1) = (i : Int) + 1 := wrap_small (by omega) (by have := HS.out; omega)
 have htn : ((i : Int) + 1).toNat = i + 1 := by omega
 go_upto_region 8 with (fail)
 have hkD : Keeps [] w1 w1.drew := (Keeps.refl [] w1).drewN 1
 have hS0 : w1.drew.heap[gn]? = some (.cells #[.int .u8 98, .slice (some ⟨q, 0, none⟩) 256 256, .int .i64 nd.n, .int .i64 nd.mn, .int .i64 nd.mx, .slice ka nd.kids.length kc] 157 (0, 0)) ∧ w1.drew.cell? ⟨b, 1, none⟩ = some (.string s) := ⟨HW1.out, y1⟩
 have hTD := hT1.keep hkD (by simp)
 have hRD : RB w1.drew (.slice (some ⟨go, 0, none⟩) N N) N (fun _ => false) := RB.keep hown hkD (by simp)
 refine wp_region_held (S := fun X' => X'.heap[gn]? = some (.cells #[.int .u8 98, .slice (some ⟨q, 0, none⟩) 256 256, .int .i64 nd.n, .int .i64 nd.mn, .int .i64 nd.mx, .slice ka nd.kids.length kc] 157 (0, 0)) ∧ X'.cell? ⟨b, 1, none⟩ = some (.string s)) (by kernel_rfl) ?_
 change wpAnyH _ _ _ _ _ _ _ _ (World.drew _)
 generalize w1.drew = X0 at *
 refine wpAnyH_tk 0 _ (some 61) (.slice (some ⟨go, 0, none⟩) N N) rfl rfl (by kernel_rfl) (by kernel_rfl) (by kernel_rfl) (fun _ _ _ h => h) (Or.inl ⟨by rfl, fun X hX => by (go_simp)⟩) hS0 ?_
 simp only [Act.put, List.setIfInBounds_toArray, List.set_cons_zero, List.set_cons_succ]
 refine wpAnyH_tk 1 _ (some 62) (.int .i64 i) rfl rfl (by kernel_rfl) (by kernel_rfl) (by kernel_rfl) (fun _ _ _ h => h) (Or.inl ⟨by rfl, fun X hX => by (go_simp)⟩) hS0 ?_
 simp only [Act.put, List.setIfInBounds_toArray, List.set_cons_zero, List.set_cons_succ]
 refine wpAnyH_tk 2 _ (some 63) (.int .i64 ((i : Int) + 1)) rfl rfl (by kernel_rfl) (by kernel_rfl) (by kernel_rfl) (fun _ _ _ h => h) (Or.inl ⟨by rfl, fun X hX => by (go_simp)⟩) hS0 ?_
 simp only [Act.put, List.setIfInBounds_toArray, List.set_cons_zero, List.set_cons_succ]
 refine wpAnyH_tk 3 _ (some 64) (.pointer (some ⟨b, 0, none⟩)) rfl rfl (by kernel_rfl) (by kernel_rfl) (by kernel_rfl) (fun _ _ _ h => h) (Or.inl ⟨by rfl, fun X hX => by (go_simp)⟩) hS0 ?_
 simp only [Act.put, List.setIfInBounds_toArray, List.set_cons_zero, List.set_cons_succ]
 refine wpAnyH_tk 4 _ (some 65) (.agg #[.int .u8 98, .slice (some ⟨q, 0, none⟩) 256 256, .int .i64 nd.n, .int .i64 nd.mn, .int .i64 nd.mx, .slice ka nd.kids.length kc]) rfl rfl (by kernel_rfl) (by kernel_rfl) (by kernel_rfl) (fun _ _ _ h => h) (Or.inl ⟨by rfl, fun X hX => by (obtain ⟨q0, q1, q2, q3, q4, q5⟩ := nodeCells6 hX.1; have q6 := hX.2; go_simp)⟩) hS0 ?_
 simp only [Act.put, List.setIfInBounds_toArray, List.set_cons_zero, List.set_cons_succ]
 refine wpAnyH_tk 5 _ (some 66) (.pointer (some ⟨b, 0, none⟩)) rfl rfl (by kernel_rfl) (by kernel_rfl) (by kernel_rfl) (fun _ _ _ h => h) (Or.inl ⟨by rfl, fun X hX => by (go_simp)⟩) hS0 ?_
 simp only [Act.put, List.setIfInBounds_toArray, List.set_cons_zero, List.set_cons_succ]
 refine wpAnyH_tk 6 _ (some 67) (.pointer (some ⟨b, 0, none⟩)) rfl rfl (by kernel_rfl) (by kernel_rfl) (by kernel_rfl) (fun _ _ _ h => h) (Or.inl ⟨by rfl, fun X hX => by (go_simp)⟩) hS0 ?_
 simp only [Act.put, List.setIfInBounds_toArray, List.set_cons_zero, List.set_cons_succ]
 refine wpAnyH_tk 7 _ (some 68) (.pointer (some ⟨b, 1, none⟩)) rfl rfl (by kernel_rfl) (by kernel_rfl) (by kernel_rfl) (fun _ _ _ h => h) (Or.inl ⟨by rfl, fun X hX => by (go_simp)⟩) hS0 ?_
 simp only [Act.put, List.setIfInBounds_toArray, List.set_cons_zero, List.set_cons_succ]
 refine wpAnyH_tk 8 _ (some 69) (.string s) rfl rfl (by kernel_rfl) (by kernel_rfl) (by kernel_rfl) (fun _ _ _ h => h) (Or.inl ⟨by rfl, fun X hX => by (obtain ⟨q0, q1, q2, q3, q4, q5⟩ := nodeCells6 hX.1; have q6 := hX.2; go_simp)⟩) hS0 ?_
 simp only [Act.put, List.setIfInBounds_toArray, List.set_cons_zero, List.set_cons_succ]
 refine wpAnyH_tk 9 _ (some 70) (.int .i64 i) rfl rfl (by kernel_rfl) (by kernel_rfl) (by kernel_rfl) (fun _ _ _ h => h) (Or.inl ⟨by rfl, fun X hX => by (go_simp)⟩) hS0 ?_
 simp only [Act.put, List.setIfInBounds_toArray, List.set_cons_zero, List.set_cons_succ]
 refine wpAnyH_tk 10 _ (some 71) (.int .u8 ((s[i]'hil).toNat : Int)) rfl rfl (by kernel_rfl) (by kernel_rfl) (by kernel_rfl) (fun _ _ _ h => h) (Or.inl ⟨by rfl, fun X hX => by (go_simp)⟩) hS0 ?_
 simp only [Act.put, List.setIfInBounds_toArray, List.set_cons_zero, List.set_cons_succ]
 refine wpAnyH_ready (rs := [11]) (by kernel_rfl) (by simp) ?_
 refine AllReadyH.cons rfl (fun K hK => ?_) AllReadyH.nil
 go_simp
 refine (holds_any b q (s[i]'hil).toNat f0 nd.f fo HHB.out.2.2 (by omega) X0 _ _ _ _ _ _ _ ((hkw1.trans hkD).cell HHB.out.2.1) (HHB.out.1.keep (hkw1.trans hkD) (by simp))).mono ?_
 rintro e w2 ⟨rfl, hk2⟩
 have hS1 : w2.heap[gn]? = some (.cells #[.int .u8 98, .slice (some ⟨q, 0, none⟩) 256 256, .int .i64 nd.n, .int .i64 nd.mn, .int .i64 nd.mx, .slice ka nd.kids.length kc] 157 (0, 0)) ∧ w2.cell? ⟨b, 1, none⟩ = some (.string s) := ⟨(hk2.block gn (Array.getElem?_eq_some_iff.1 hS0.1).1 (by simp)).trans hS0.1, (hk2.cell hS0.2)⟩
 refine hK.out _ _ hS1 (fun _ => ?_)
 clear hK K
 have hR2 : RB w2 (.slice (some ⟨go, 0, none⟩) N N) N (fun _ => false) := RB.keep hRD hk2 (by simp)
 refine wpAnyH_tk 12 _ (some 73) (.pointer (some ⟨go, i + 1, none⟩)) rfl rfl (by kernel_rfl) (by kernel_rfl) (by kernel_rfl) (fun _ _ _ h => h) (Or.inl ⟨by rfl, fun X hX => by go_simp⟩) hS1 ?_
 simp only [Act.put, List.setIfInBounds_toArray, List.set_cons_zero, List.set_cons_succ]
 refine wpAnyH_ready (rs := [13]) (by kernel_rfl) (by simp) ?_
 refine AllReadyH.cons rfl (fun K hK => ?_) AllReadyH.nil
 have ca := RB.at hR2 (j := i + 1) (by have := HN.out; omega)
 have fa := RB.frozen hR2 (i + 1)
 have hkX := (hkw1.trans hkD).trans hk2
 have hkS : Keeps [go] w2 (w2.setCell ⟨go, i + 1, none⟩ (.bool (nd.f (s[i]'hil).toNat))) := (Keeps.refl [go] w2).setCell (p := ⟨go, i + 1, none⟩) (by simp) _
 have hS2 : (w2.setCell ⟨go, i + 1, none⟩ (.bool (nd.f (s[i]'hil).toNat))).heap[gn]? = some (.cells #[.int .u8 98, .slice (some ⟨q, 0, none⟩) 256 256, .int .i64 nd.n, .int .i64 nd.mn, .int .i64 nd.mx, .slice ka nd.kids.length kc] 157 (0, 0)) ∧ (w2.setCell ⟨go, i + 1, none⟩ (.bool (nd.f (s[i]'hil).toNat))).cell? ⟨b, 1, none⟩ = some (.string s) := ⟨(hkS.block gn (Array.getElem?_eq_some_iff.1 hS1.1).1 (by simp; exact hWg)).trans hS1.1, (World.cell?_of_block (hkS.block b (Nat.lt_of_lt_of_le HT.out.xb.lt hkX.size) (by simp; exact fun e => hWb e.symm))).trans hS1.2⟩
 have hT2 : TX (w2.setCell ⟨go, i + 1, none⟩ (.bool (nd.f (s[i]'hil).toNat))) b bp s p nds D E Z :=
  (((HT.out.less (Z' := go :: Z) (by intro x hx; rcases List.mem_cons.1 hx with rfl | hx; exact Or.inr HGO.out; exact Or.inl hx)).keep hkX (by simp)).keep hkS (by intro x hx; simp only [List.mem_singleton] at hx; subst hx; exact Or.inl (by simp))).less (Z' := Z) (fun x hx => Or.inl (List.mem_cons_of_mem _ hx))
 have hkw2 : Keeps D w (w2.setCell ⟨go, i + 1, none⟩ (.bool (nd.f (s[i]'hil).toNat))) := (hkX.setCell (p := ⟨go, i + 1, none⟩) (Or.inr HGO.out) _).mono (by simp)
 have hEA : EA (w2.setCell ⟨go, i + 1, none⟩ (.bool (nd.f (s[i]'hil).toNat))) s nds D Z k i (.slice (some ⟨go, 0, none⟩) N N) := by
  refine ⟨go, N, fun j => if j = i + 1 then nd.f (s[i]'hil).toNat else false, by rw [← HN.out], by rw [← HN.out]; exact RB.put hR2 (i + 1) _, hWD, hWZ, fun j hj => ?_⟩
  rw [MN.byte_iff HH.out HK.out, at'_lt hil]
  by_cases hji : j = i + 1
  ·simp [hji, hil]
  ·simp [hji]
 go_simp
 refine hK.out _ _ hS2 (fun _ => ?_)
 clear hK K
 refine wpAnyH_done (by kernel_rfl) ?_ _
 clear hS0 hS1 hS2 hTD hRD hR2 ca fa hT1 hown hk2 hkD hkS hkX e0 e5 y0 y1 hil' hb1 hij hij0 hadd1 hwr htn
 generalize w2.setCell ⟨go, i + 1, none⟩ (.bool (nd.f (s[i]'hil).toNat)) = w3 at *
 obtain ⟨eb2, cap2, g2, v2, hE2, hg2, hr2, hc2', hf2, _⟩ := hT2.slot (k := k) (i := i) (by omega) HI.out
 have hE3 := HE.out.symm.trans hE2
 simp only [Value.slice.injEq, Option.some.injEq, Addr.mk.injEq, and_true, true_and] at hE3
 obtain ⟨hebe, hcape⟩ := hE3
 subst hebe hcape
 obtain rfl : g = g2 := Option.some.inj (HG.out.symm.trans hg2)
 rw [← HN.out] at hr2
 obtain ⟨z0, z1, _, z3⟩ := hT2.xb.main
 rw [HE.out] at z3
 obtain ⟨hp1, hp2, hp3⟩ := hT2.put HG.out hEA
 have hend := hkw2.trans hp3
 clear hE2 hg2 hEA hT2 hkw2 hp3
 go_wp2_with fail
 go_ret
 exact ⟨_, rfl, hp1, hp2, hend⟩
end Go.Proofs.YtnfojonmohijpaaGreatDoor
namespace Go.Proofs.YtnfojonmohijpaaGreatDoor
open Go.RowKit
structure WLo (w1 wr : World) (s : ByteArray) (N : Nat) (nds : List Nd) (kids : List Nat) (h : Nat) (b bp : Nat) (p : PS) (D : List Nat) (E : Value) (Z : List Nat) (i m : Nat) (f : Nat → Bool) : Prop where
 row : RB wr (.slice (some ⟨h, 0, none⟩) N N) N f
 tx : TX wr b bp s p nds D E (h :: Z)
 keep : Keeps (h :: D) w1 wr
 says : ∀ j, j ≤ s.size → (f j = true ↔ ∃ t c, t < m ∧ kids[t]? = some c ∧ MN s nds (.node c) i j)
set_option maxRecDepth 100000 in
set_option maxHeartbeats 2000000 in
theorem ends_alt (s : ByteArray) (N : Nat) (HN : Hid (N = s.size + 1)) (nds : List Nd) (hn : nds.length ≤ 1000) (n : Nat) (IH : EndsOk s nds n) (k : Nat) (nd : Nd) (hk : nds[k]? = some nd) (hkind : nd.kind = 111) (hkids : ∀ c, c ∈ nd.kids → NK nds n c) (hkl : nd.kids.length ≤ 1000)
    (w : World) (b bp : Nat) (p : PS) (D : List Nat) (E : Value) (Z : List Nat) (i : Nat) (h : TX w b bp s p nds D E Z) (HZ : Hid (∀ x, x ∈ Z → x < w.heap.size)) (hi : i ≤ s.size)
    (eb cap g : Nat) (hE : E = .slice (some ⟨eb, 0, none⟩) nds.length cap) (hg : D[k]? = some g) (hr : w.cell? ⟨eb, k, none⟩ = some (.slice (some ⟨g, 0, none⟩) N N)) (hc : w.cell? ⟨g, i, none⟩ = some (.slice none 0 0)) :
    Calls Tryz.prog 48 #[.pointer (some ⟨b, 0, none⟩), .int .i64 k, .int .i64 i] w (EPo s nds k i w b bp p D E Z) := by
 obtain ⟨i0, hi0, hz0, hz1, hz2⟩ := info_parts infoBool
 have hun := Tryz.underlying98
 obtain ⟨x0, x1, x2, x3⟩ := h.xb.main
 rw [hE] at x3
 obtain ⟨g', cap', hv, kv, hform, hkn, hH, hK, c0, c1, c2, c3, c4, c5⟩ := h.nodes.node hk
 have HK : Hid (nd.kind = 111) := hkind
 rw [hkind] at c0
 obtain ⟨n1, _⟩ := h.pb.nodes
 rw [hform] at n1
 obtain ⟨ha, hn2, hc2, rfl⟩ := hH.1
 have HHV : Hid (HoldsF w b (avoA bp (b :: (E.ownBlock.toList ++ (D ++ Z))) p.nodes) (.slice ha hn2 hc2) nd) := hH
 have HKV : Hid (KV w D kv nd.kids) := hK.kv hkl
 obtain ⟨ka, kc, rfl, hkid⟩ := hK.form
 have hs := h.small
 have hk0' : (0 : Int) ≤ (k : Int) := by omega
 have hk1' : (k : Int) < (nds.length : Int) := by omega
 have hi0' : (0 : Int) ≤ (i : Int) := by omega
 have hi1' : (i : Int) < (N : Int) := by have := HN.out; omega
 have hadd : (s.size : Int) + 1 ≤ 9223372036854775807 := by omega
 have HI : Hid (i ≤ s.size) := hi
 have HS : Hid (s.size ≤ 100) := hs
 have HE : Hid (E = .slice (some ⟨eb, 0, none⟩) nds.length cap) := hE
 have HT : Hid (TX w b bp s p nds D E Z) := h
 have HH : Hid (nds[k]? = some nd) := hk
 have hWk := (Keeps.refl [] w).alloc (.cells #[.int .u8 111, .slice ha hn2 hc2, .int .i64 nd.n, .int .i64 nd.mn, .int .i64 nd.mx, .slice ka nd.kids.length kc] 157)
 have hnew := heap_alloc_new w (.cells #[.int .u8 111, .slice ha hn2 hc2, .int .i64 nd.n, .int .i64 nd.mn, .int .i64 nd.mx, .slice ka nd.kids.length kc] 157)
 have HG : Hid (D[k]? = some g) := hg
 have hk2' : (nds.length : Int) ≤ 1000 := by omega
 have hkl' : (nd.kids.length : Int) ≤ 1000 := by omega
 clear h hE hk hi hs hform hH hK hkn hkind hn hkid hg hkl x2
 go_enter Tryz.func48, Tryz.ntmps48
 go_upto_region 4 with (fail)
 clear c0 c1 c2 c3 c4 c5 n1 x0 x1 x3 hr hc
 generalize w.alloc (.cells #[.int .u8 111, .slice ha hn2 hc2, .int .i64 nd.n, .int .i64 nd.mn, .int .i64 nd.mx, .slice ka nd.kids.length kc] 157) = W at *
 obtain ⟨gn, hgn⟩ : ∃ gn, gn = w.heap.size := ⟨_, rfl⟩
 rw [← hgn] at hnew ⊢
 have HGN : Hid (gn = w.heap.size) := hgn
 clear hgn
 have hT0 := HT.out.keep hWk (by simp)
 obtain ⟨y0, y1, _, _⟩ := hT0.xb.main
 clear hT0
 go_upto_region 5 with (first | (refine wpList_make_full W rfl _ _ 98 rfl 0 4 i0 (.bool false) 1 hun hi0 hz0 hz1 .i64 .i64 ((s.size : Int) + 1) ((s.size : Int) + 1) N rfl rfl (by have := HN.out; omega) (by have := HN.out; omega) (by have := HN.out; have := HS.out; rw [hz2]; omega) (by have := HN.out; have := HS.out; unfold maxLen; omega) (Nat.zero_le _) ?_; intro w1 hown hgr))
 rw [Nat.mul_one, show (Value.bool false).cells = #[.bool false] from rfl, bl_made] at hown
 have hk1 : Keeps [] W w1 := Keeps.ofGrownNone hgr
 have hkw1 := hWk.trans hk1
 have hnew1 := (hk1.block gn (Array.getElem?_eq_some_iff.1 hnew).1 (by simp)).trans hnew
 have hT1 := HT.out.keep hkw1 (by simp)
 have HKV1 : Hid (KV w1 D (.slice ka nd.kids.length kc) nd.kids) := HKV.out.keep (hkw1.mono (by simp))
 have e0 : w1.cell? ⟨gn, 0, none⟩ = some (.int .u8 111) := by rw [Lib.cell_of_heap hnew1]; rfl
 have e5 : w1.cell? ⟨gn, 5, none⟩ = some (.slice ka nd.kids.length kc) := by rw [Lib.cell_of_heap hnew1]; rfl
 have hWs := hWk.size
 have hgnW : gn < W.heap.size := (Array.getElem?_eq_some_iff.1 hnew).1
 have HW1 : Hid (w1.heap[gn]? = some (.cells #[.int .u8 111, .slice ha hn2 hc2, .int .i64 nd.n, .int .i64 nd.mn, .int .i64 nd.mx, .slice ka nd.kids.length kc] 157 (0, 0))) := hnew1
 have HGW : Hid (gn < W.heap.size ∧ w.heap.size ≤ W.heap.size) := ⟨hgnW, hWs⟩
 clear y0 y1 hgr hnew hnew1 hgnW hWs hadd hz0 hz1 hz2 hi0 hun hWk hk1
 have HGO : Hid (w.heap.size ≤ W.heap.size) := HGW.out.2
 have HKG : Hid (KV w (W.heap.size :: D) (.slice ka nd.kids.length kc) nd.kids) := by
  obtain ⟨ad, cp, e, hl, hc⟩ := HKV.out
  refine ⟨ad, cp, e, hl, fun t c ht => ?_⟩
  obtain ⟨y, off, h1, h2, h3, h4⟩ := hc t c ht
  exact ⟨y, off, h1, h2, by simp only [List.mem_cons, not_or]; exact ⟨by have := HGO.out; omega, h3⟩, h4⟩
 have hWD : W.heap.size ∉ D := fun hm => by have := HT.out.dlt _ hm; have := HGW.out; omega
 have hWZ : W.heap.size ∉ Z := fun hm => by have := HZ.out _ hm; have := HGW.out; omega
 have hWg : gn ∉ W.heap.size :: D := by
  simp only [List.mem_cons, not_or]
  exact ⟨by have := HGW.out; omega, fun hm => by have h1 := HT.out.dlt gn hm; have := HGN.out; omega⟩
 have hgl : W.heap.size < w1.heap.size := (World.ownsRow.lt hown _ rfl).2
 obtain ⟨go, ego⟩ : ∃ go, go = W.heap.size := ⟨_, rfl⟩
 rw [← ego] at hown hWD hWZ hWg HGO HKG hgl ⊢
 have hTG : TX w1 b bp s p nds D E (go :: Z) := (HT.out.less (Z' := go :: Z) (by intro x hx; rcases List.mem_cons.1 hx with rfl | hx; exact Or.inr HGO.out; exact Or.inl hx)).keep hkw1 (by simp)
 have hW0 : WLo w1 w1 s N nds nd.kids go b bp p D E Z i 0 (fun _ => false) := ⟨hown, hTG, Keeps.refl _ _, fun j _ => by simp⟩
 have hNm : (N : Int) ≤ 101 := by have := HN.out; have := HS.out; omega
 have HG1 : Hid (go < w1.heap.size) := hgl
 clear ego hT1 hTG hown hgl
 go_upto_region 16 with (fail)
 go_upto_region 17 with (fail)
 go_loopw [9] (fun q wr => ∃ (m : Nat) (f : Nat → Bool), m ≤ nd.kids.length ∧ q = .int .i64 m ∧ WLo w1 wr s N nds nd.kids go b bp p D E Z i m f) (fun q _ => nd.kids.length - (intOf q).toNat)
 case atStart => exact ⟨0, _, by omega, rfl, hW0⟩
 case round =>
  clear hW0
  obtain ⟨m, f, hm, rfl, L⟩ := hrel
  have hk5 := (World.cell?_of_block (L.keep.block gn (Array.getElem?_eq_some_iff.1 HW1.out).1 hWg)).trans e5
  by_cases hml : m < nd.kids.length
  ·obtain ⟨c, hc⟩ : ∃ c, nd.kids[m]? = some c := ⟨_, List.getElem?_eq_getElem hml⟩
   have hck : NK nds n c := hkids c (List.mem_of_getElem? hc)
   obtain ⟨ad, cp, e1, _, hcs⟩ := HKG.out.keep ((hkw1.mono (by simp)).trans L.keep)
   simp only [Value.slice.injEq] at e1
   obtain ⟨rfl, _, rfl⟩ := e1
   obtain ⟨y, off, rfl, hyl, hyD, hcd⟩ := hcs m c hc
   have hm0' : (0 : Int) ≤ (m : Int) := by omega
   have hm1' : (m : Int) < (nd.kids.length : Int) := by omega
   have HM : Hid (m < nd.kids.length) := hml
   have HC : Hid (nd.kids[m]? = some c) := hc
   have hLr := L.row
   have hLt := L.tx
   have hLk := L.keep
   have HLS : Hid (∀ j, j ≤ s.size → (f j = true ↔ ∃ t c, t < m ∧ nd.kids[t]? = some c ∧ MN s nds (.node c) i j)) := L.says
   clear L hcs hm hml hc
   go_wp2_with fail
   refine (IH c hck wr b bp p D E (go :: Z) i hLt (by intro x hx; have h1 : go < wr.heap.size := (World.ownsRow.lt hLr _ rfl).2; rcases List.mem_cons.1 hx with rfl | hx; exact h1; have h2 := HZ.out x hx; have h3 := HGO.out; omega) HI.out).mono ?_
   rintro e w2 ⟨v, rfl, hEA, htx, hk2⟩
   obtain ⟨x, cc, fe, hve, hRe, hxD, hxZ, hsay⟩ := hEA
   rw [← HN.out] at hve hRe
   subst hve
   have hrow2 := hLr.keep hk2 (by intro y hy; simp only [Value.ownBlock, Option.some.injEq] at hy; subst hy; exact hWD)
   have hxh : x ≠ go := fun e => hxZ (by simp [e])
   have hkw : Keeps (go :: D) w1 w2 := hLk.trans (hk2.mono (by intro y hy; simp [hy]))
   have HSY : Hid (∀ j, j ≤ s.size → (fe j = true ↔ MN s nds (.node c) i j)) := hsay
   clear hLr hLt hLk hk2 hsay hcd hk5
   obtain ⟨wr0, hwr0⟩ : ∃ wr0 : World, wr0 = wr := ⟨_, rfl⟩
   subst hwr0
   have hIL0 : IL w2 w2 s N nds go x cc 0 fe f (.slice (some ⟨x, 0, none⟩) N cc) fe b bp p D E Z 0 f := ⟨hrow2, hRe, hRe, htx, Keeps.refl _ _, fun m _ => by
     constructor
     · exact Or.inl
     · rintro (h | ⟨_, h, _⟩)
       · exact h
       · omega⟩
   have hfg : (Value.slice (some ⟨x, 0, none⟩) N cc).ownBlock ≠ some go := by simp only [Value.ownBlock, ne_eq, Option.some.injEq]; exact hxh
   clear hrow2 hRe htx
   go_wp2_with fail
   go_loopw [11] (fun q wq => ∃ (j : Nat) (f' : Nat → Bool), j ≤ N ∧ q = .int .i64 j ∧ IL w2 wq s N nds go x cc 0 fe f (.slice (some ⟨x, 0, none⟩) N cc) fe b bp p D E Z j f') (fun q _ => N - (intOf q).toNat)
   case atStart => exact ⟨0, f, by omega, rfl, hIL0⟩
   case round =>
    clear hIL0
    obtain ⟨j, f', hj, rfl, L⟩ := hrel
    by_cases hjl : j < N
    ·have hj0' : (0 : Int) ≤ (j : Int) := by omega
     have hj1' : (j : Int) < (N : Int) := by omega
     have ho := L.row.at hjl
     have hoz := L.row.frozen j
     have he := L.ans.at hjl
     have HJ : Hid (j < N) := hjl
     cases h1 : f' j
     all_goals
      cases h2 : fe j
      all_goals
       rw [h1] at ho
       rw [h2] at he
       have HLs : Hid (IL w2 (wr.setCell ⟨go, j, none⟩ (.bool (f' j || fe j))) s N nds go x cc 0 fe f (.slice (some ⟨x, 0, none⟩) N cc) fe b bp p D E Z (j + 1) (fun m => if m = j then (f' j || fe j) else f' m)) := L.step hxh hfg (Nat.zero_le _) rfl
       rw [h1, h2] at HLs
       clear L hj hjl h1 h2
       go_wp2_with fail
       go_roundw
       case rel => exact ⟨j + 1, _, HJ.out, by go_num, HLs.out⟩
       case measure => have := HJ.out; simp [intOf]; omega
    ·have hje : j = N := by omega
     have hnj : ¬ (j : Int) < (N : Int) := by omega
     have hOL : WLo w1 wr s N nds nd.kids go b bp p D E Z i (m + 1) f' := ⟨L.row, L.tx, hkw.trans (L.keep.mono (by intro y hy; simp at hy; simp [hy])), fun j' hj' => by
       have hmN : j' < N := by have := HN.out; omega
       rw [L.says j' hmN, HLS.out j' hj', hje]
       constructor
       · rintro (⟨t, c', a, b'⟩ | ⟨_, _, b'⟩)
         · exact ⟨t, c', by omega, b'⟩
         · exact ⟨m, c, by omega, HC.out, (HSY.out j' hj').1 b'⟩
       · rintro ⟨t, c', a, b', d⟩
         rcases Nat.lt_or_ge t m with h | h
         · exact Or.inl ⟨t, c', h, b', d⟩
         · have : t = m := by omega
           subst this
           cases HC.out.symm.trans b'
           exact Or.inr ⟨Nat.zero_le _, hmN, (HSY.out j' hj').2 d⟩⟩
     clear L hje hjl hj
     go_wp2_with fail
     exact ⟨⟨m + 1, f', HM.out, by go_num, hOL⟩, by have := HM.out; simp [intOf]; omega⟩
  ·have hme : m = nd.kids.length := by omega
   have hnm : ¬ (m : Int) < (nd.kids.length : Int) := by omega
   have hT2 := L.tx.less (Z' := Z) (by intro x hx; exact Or.inl (by simp [hx]))
   have hkw2 : Keeps D w wr := keepsM (hkw1.mono (by simp)) L.keep (by intro x hx; simp at hx; rcases hx with rfl | hx; exact Or.inr HGO.out; exact Or.inl hx)
   have hEA : EA wr s nds D Z k i (.slice (some ⟨go, 0, none⟩) N N) := by
    refine ⟨go, N, f, by rw [← HN.out], by rw [← HN.out]; exact L.row, hWD, hWZ, fun j hj => ?_⟩
    rw [L.says j hj, MN.alt_iff HH.out HK.out, hme]
    constructor
    ·rintro ⟨t, c, _, a, b⟩; exact ⟨c, List.mem_of_getElem? a, b⟩
    ·rintro ⟨c, a, b⟩
     obtain ⟨t, ht⟩ := List.mem_iff_getElem?.1 a
     exact ⟨t, c, (List.getElem?_eq_some_iff.1 ht).1, ht, b⟩
   clear L hml hm hme
   go_upto_region 24 with (fail)
   clear e0 e5 hk5
   obtain ⟨eb2, cap2, g2, v2, hE2, hg2, hr2, hc2', hf2, _⟩ := hT2.slot (k := k) (i := i) (by omega) HI.out
   have hE3 := HE.out.symm.trans hE2
   simp only [Value.slice.injEq, Option.some.injEq, Addr.mk.injEq, and_true, true_and] at hE3
   obtain ⟨hebe, hcape⟩ := hE3
   subst hebe hcape
   obtain rfl : g = g2 := Option.some.inj (HG.out.symm.trans hg2)
   rw [← HN.out] at hr2
   obtain ⟨z0, z1, _, z3⟩ := hT2.xb.main
   rw [HE.out] at z3
   obtain ⟨hp1, hp2, hp3⟩ := hT2.put HG.out hEA
   have hend := hkw2.trans hp3
   clear hE2 hg2 hEA hT2 hkw2 hp3
   go_wp2_with fail
   go_ret
   exact ⟨_, rfl, hp1, hp2, hend⟩
end Go.Proofs.YtnfojonmohijpaaGreatDoor
namespace Go.Proofs.YtnfojonmohijpaaGreatDoor
open Go.RowKit
theorem ends_all (s : ByteArray) (nds : List Nd) (hn : nds.length ≤ 1000) : ∀ n, n ≤ 1000 → EndsOk s nds n := by
 intro n
 induction n with
 | zero => intro _ k hk; obtain ⟨kd, x, _, _, h, _⟩ := hk; exact absurd h (Nat.not_lt_zero _)
 | succ n IH =>
  intro hn1 k hk w b bp p D E Z i h hZ hi
  have IH := IH (by omega)
  obtain ⟨kd, x, h1, h2, h3, h4, h5⟩ := hk
  obtain ⟨nd, hnd, hsub⟩ := NK.cases x.sz h1 h2 (Nat.le_refl _) h4 h5
  have hsub := hsub.up (m := n) (by omega)
  have hkn : k < nds.length := (List.getElem?_eq_some_iff.1 hnd).1
  obtain ⟨eb, cap, g, v, hE, hg, hr, hc, _, hv⟩ := h.slot hkn hi
  rcases hv with rfl | hv
  ·rcases hsub with ⟨hk, hk0⟩ | ⟨hk, c, hkc, hck⟩ | ⟨hk, e1, e2, e3, c, hkc, hck⟩ | ⟨hk | ⟨hk, _⟩, hkl, hkids⟩
   ·exact ends_byte s (s.size + 1) rfl nds hn n IH k nd hnd hk (by rw [hk0]; simp) w b bp p D E Z i h hZ hi eb cap g hE hg hr hc
   ·exact ends_grp s (s.size + 1) rfl nds hn n IH k nd hnd hk c hkc hck (by rw [hkc]; simp) w b bp p D E Z i h hZ hi eb cap g hE hg hr hc
   ·exact ends_rep s (s.size + 1) rfl nds hn n IH k nd hnd hk c hkc hck e1 ⟨e2, e3.1⟩ e3.2 (by rw [hkc]; simp) w b bp p D E Z i h hZ hi eb cap g hE hg hr hc
   ·exact ends_way s (s.size + 1) rfl nds hn n IH k nd hnd hk hkids (by omega) w b bp p D E Z i h hZ hi eb cap g hE hg hr hc
   ·exact ends_alt s (s.size + 1) rfl nds hn n IH k nd hnd hk hkids (by omega) w b bp p D E Z i h hZ hi eb cap g hE hg hr hc
  ·refine (ends_hit s nds k hkn w b bp p D E Z i h hi eb cap g v hE (s.size + 1) rfl hr hc hv).mono ?_
   rintro e w' ⟨rfl, rfl⟩
   exact ⟨v, rfl, hv, h, Keeps.refl _ _⟩
end Go.Proofs.YtnfojonmohijpaaGreatDoor
namespace Go.Proofs.YtnfojonmohijpaaGreatDoor
def Pat.A : Pat → Nat
 | .set _ => 3
 | .grp _ x => x.A + 5
 | .rep mn _ x => (mn + 2) * (x.A + 1) + 3
 | .pnil => 1
 | .pcons x r => x.A + r.A + 4
 | .wone x => x.A + 6
 | .wcons x r => x.A + r.A + 6
def Pat.dep : Pat → Nat
 | .set _ => 0
 | .grp _ x => x.dep
 | .rep _ _ x => x.dep + 1
 | .pnil => 0
 | .pcons x r => max x.dep r.dep
 | .wone x => x.dep
 | .wcons x r => max x.dep r.dep
end Go.Proofs.YtnfojonmohijpaaGreatDoor
namespace Go.Proofs.YtnfojonmohijpaaGreatDoor
def depM : Kd → Nat
 | .single => 6
 | _ => 7
theorem G.fair {s : ByteArray} {k : Kd} {d g i : Nat} {q : R (Pat × Nat)} (h : G s k d g i q) : d ≤ 6 → g ≤ 9 → ∀ x g1 j, q = .ok (x, g1) j → g ≤ g1 ∧ g1 ≤ 9 ∧ x.fair g1 ∧ x.dep + d ≤ depM k := by
 induction h with
 | one d g i g1 j x _ e ih => intro hd hg x' g1' j' e'; cases e'; exact ih hd hg x g1 j rfl
 | more d g i g1 j x q _ e _ ih ih2 =>
  intro hd hg x' g1' j' e'
  cases q with
  | bad l => cases e'
  | ok y l =>
   obtain ⟨a1, a2, a3, a4⟩ := ih hd hg x g1 j rfl
   obtain ⟨b1, b2, b3, b4⟩ := ih2 hd a2 y.1 y.2 l rfl
   cases e'
   refine ⟨by omega, b2, ⟨a3.up b1, b3⟩, ?_⟩
   simp only [Pat.dep, depM] at a4 b4 ⊢
   omega
 | wbad => intro _ _ x' g1' j' e'; cases e'
 | nil d g i e => intro hd hg x' g1' j' e'; cases e'; exact ⟨Nat.le_refl _, hg, trivial, by simp only [Pat.dep, depM]; omega⟩
 | cons d g i g1 j x q e _ _ ih ih2 =>
  intro hd hg x' g1' j' e'
  cases q with
  | bad l => cases e'
  | ok y l =>
   obtain ⟨a1, a2, a3, a4⟩ := ih hd hg x g1 j rfl
   obtain ⟨b1, b2, b3, b4⟩ := ih2 hd a2 y.1 y.2 l rfl
   cases e'
   refine ⟨by omega, b2, ⟨a3.up b1, b3⟩, ?_⟩
   simp only [Pat.dep, depM] at a4 b4 ⊢
   omega
 | pbad => intro _ _ x' g1' j' e'; cases e'
 | rep d g i g1 j x q _ r ih =>
  intro hd hg x' g1' j' e'
  obtain ⟨a1, a2, a3, a4⟩ := ih hd hg x g1 j rfl
  cases q with
  | bad l => cases e'
  | ok o l =>
   cases o with
   | none => cases e'; exact ⟨a1, a2, a3, by simp only [withRep, depM] at a4 ⊢; omega⟩
   | some mm =>
    obtain ⟨mn, mx⟩ := mm
    cases e'
    exact ⟨a1, a2, ⟨r.fair, a3⟩, by simp only [withRep, Pat.dep, depM] at a4 ⊢; omega⟩
 | sbad => intro _ _ x' g1' j' e'; cases e'
 | deep => intro _ _ x' g1' j' e'; cases e'
 | grp d g i g1 j x e o _ c ih =>
  intro hd hg x' g1' j' e'
  cases e'
  obtain ⟨a1, a2, a3, a4⟩ := ih (by omega) (by omega) x g1 j rfl
  exact ⟨by omega, a2, ⟨by omega, a1, a3⟩, by simp only [Pat.dep, depM] at a4 ⊢; omega⟩
 | gopen => intro _ _ x' g1' j' e'; cases e'
 | gbad => intro _ _ x' g1' j' e'; cases e'
 | set d g i q e r =>
  intro hd hg x' g1' j' e'
  cases q with
  | bad l => cases e'
  | ok f l => cases e'; exact ⟨Nat.le_refl _, hg, trivial, by simp only [Pat.dep, depM]; omega⟩
 | dot d g i e => intro hd hg x' g1' j' e'; cases e'; exact ⟨Nat.le_refl _, hg, trivial, by simp only [Pat.dep, depM]; omega⟩
 | esc d g i e =>
  intro hd hg x' g1' j' e'
  cases hq : escS s 0 (i + 1) with
  | bad l => rw [hq] at e'; cases e'
  | ok f l => rw [hq] at e'; cases e'; exact ⟨Nat.le_refl _, hg, trivial, by simp only [Pat.dep, depM]; omega⟩
 | no => intro _ _ x' g1' j' e'; cases e'
 | lit d g i e => intro hd hg x' g1' j' e'; cases e'; exact ⟨Nat.le_refl _, hg, trivial, by simp only [Pat.dep, depM]; omega⟩
end Go.Proofs.YtnfojonmohijpaaGreatDoor
namespace Go.Proofs.YtnfojonmohijpaaGreatDoor
open Go.RowKit
def spV (l : List Int) : List Value := l.map fun x => .int .i64 x
variable {w w' : World} {b bp : Nat} {s : ByteArray} {p : PS} {nds : List Nd} {D : List Nat} {E : Value} {ob : Nat} {sp : Value} {keep : Bool} {g : Nat} {acc : List UInt8} {l : List Int}
end Go.Proofs.YtnfojonmohijpaaGreatDoor
