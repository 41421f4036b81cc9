/-
  DERIVED. The reference's 'Tree' at a byte. Conditions: what it has in memory lies as it should (TS).
-/
import Derived.Test.YtnfojonmohijpaaGreatDoorJMO
set_option linter.unusedSimpArgs false
set_option linter.unusedVariables false
namespace Go.Proofs.YtnfojonmohijpaaGreatDoor
open Go.RowKit
set_option maxRecDepth 100000 in
set_option maxHeartbeats 2000000 in
theorem tree_byte (s : ByteArray) (N : Nat) (HN : Hid (N = s.size + 1)) (nds : List Nd) (hn : nds.length ≤ 1000) (n : Nat) (IHE : EndsOk s nds n) (IHT : TreeOk s nds n) (k : Nat) (nd : Nd) (hk : nds[k]? = some nd) (hkind : nd.kind = 98) (hkl : nd.kids.length ≤ 1000)
    (w : World) (b bp : Nat) (p : PS) (D : List Nat) (E : Value) (ob : Nat) (sp : Value) (keep : Bool) (g : Nat) (acc : List UInt8) (l : List Int) (i j : Nat) (hS : TS w b bp s p nds D E ob sp keep g acc l) (hij : i ≤ j) (hj : j ≤ s.size) (hg : g ≤ 9)
    (hil : i < s.size) (hlen : acc.length + ([98] ++ hexT (at' s i).toNat).length ≤ 4611686018427387904) :
    Calls Tryz.prog 88 #[.pointer (some ⟨b, 0, none⟩), .int .i64 k, .int .i64 i, .int .i64 j, .pointer (some ⟨ob, 0, none⟩)] w (TPo w b bp s p nds D E ob sp keep g acc l ([98] ++ hexT (at' s i).toNat) ([])) := by
 obtain ⟨x0, x1, x2, x3⟩ := hS.tx.xb.main
 obtain ⟨g', cap', hv, kv, hform, hkn, hH, hK, c0, c1, c2, c3, c4, c5⟩ := hS.tx.nodes.node hk
 rw [hkind] at c0
 obtain ⟨n1, _⟩ := hS.tx.pb.nodes
 rw [hform] at n1
 obtain ⟨ha, hn2, hc2, rfl⟩ := hH.1
 have HKV : Hid (KV w (tsB ob sp D) kv nd.kids) := hK.kv2 hkl
 obtain ⟨ka, kc, rfl, hcap⟩ := hK.cap
 have hs := hS.tx.small
 have hk0' : (0 : Int) ≤ (k : Int) := by omega
 have hk1' : (k : Int) < (nds.length : Int) := by omega
 have hk2' : (nds.length : Int) ≤ 1000 := by omega
 have hkl' : (nd.kids.length : Int) ≤ 1000 := by omega
 have HIJ : Hid (i ≤ j ∧ j ≤ s.size ∧ s.size ≤ 100) := ⟨hij, hj, hs⟩
 have HS : Hid (TS w b bp s p nds D E ob sp keep g acc l) := hS
 have hWk := (Keeps.refl [] w).alloc (.cells #[.int .u8 98, .slice ha hn2 hc2, .int .i64 nd.n, .int .i64 nd.mn, .int .i64 nd.mx, .slice ka nd.kids.length kc] 157)
 have hnew := heap_alloc_new w (.cells #[.int .u8 98, .slice ha hn2 hc2, .int .i64 nd.n, .int .i64 nd.mn, .int .i64 nd.mx, .slice ka nd.kids.length kc] 157)
 have HL : Hid (acc.length + ([98] ++ hexT (at' s i).toNat).length ≤ 4611686018427387904) := hlen
 clear hS hk hij hj hs hform hH hK hkn hkind hn hkl x2 x3 hlen
 go_enter Tryz.func88, Tryz.ntmps88
 go_upto_region 1 with (fail)
 clear c0 c1 c2 c3 c4 c5 n1 x0 x1
 generalize w.alloc (.cells #[.int .u8 98, .slice ha hn2 hc2, .int .i64 nd.n, .int .i64 nd.mn, .int .i64 nd.mx, .slice ka nd.kids.length kc] 157) = W at *
 obtain ⟨gn, hgn⟩ : ∃ gn, gn = w.heap.size := ⟨_, rfl⟩
 rw [← hgn] at hnew ⊢
 have hS1 := HS.out.new hWk
 have hgB : gn ∉ tsB ob sp D := by
  intro hm
  have h0 := HS.out
  simp only [tsB, List.mem_cons, List.mem_append, Option.mem_toList] at hm
  rcases hm with h | h | h
  ·have := h0.ot.lt; omega
  ·have := (h0.row.lt _ h).2; omega
  ·have := h0.tx.dlt _ h; omega
 clear hgn
 have e0 : W.cell? ⟨gn, 0, none⟩ = some (.int .u8 98) := by rw [Lib.cell_of_heap hnew]; rfl
 have HNW : Hid (W.heap[gn]? = some (.cells #[.int .u8 98, .slice ha hn2 hc2, .int .i64 nd.n, .int .i64 nd.mn, .int .i64 nd.mx, .slice ka nd.kids.length kc] 157 (0, 0))) := hnew
 have HGI : Hid (gn < W.heap.size) := (Array.getElem?_eq_some_iff.1 hnew).1
 have hkv1 := HKV.out.keep (hWk.mono (by simp))
 clear hnew
 have hil' : (i : Int) < (s.size : Int) := by omega
 have hi0' : (0 : Int) ≤ (i : Int) := by omega
 have hb1 := (s[i]'hil).toNat_lt
 obtain ⟨y0, y1, _, _⟩ := hS1.tx.xb.main
 have hat : (at' s i).toNat = (s[i]'hil).toNat := by rw [at'_lt hil]; simp
 have HAT : Hid ((at' s i).toNat = (s[i]'hil).toNat) := hat
 have hlx : (nmB (hexT (s[i]'hil).toNat)).size ≤ 2 := Nat.le_refl 2
 clear hat
 go_upto_region 3 with (fail)
 clear e0
 go_wp2_with fail
 refine (hexes_any (s[i]'hil).toNat (by omega) W).mono ?_
 rintro e w2 ⟨rfl, nq, rfl⟩
 have hkd : Keeps [] W (W.drewN nq) := (Keeps.refl [] W).drewN nq
 have hS2 := hS1.new hkd
 have hsy := tsay hS2 ([98] ++ hexT (s[i]'hil).toNat) (by have := HL.out; rw [HAT.out] at this; exact this)
 rw [← nmB_appT] at hsy
 clear y0 y1 hS1
 go_wp2_with fail
 refine hsy.mono ?_
 rintro e w3 ⟨rfl, hS3, hk3⟩
 have hkE : Keeps (tsB ob sp D) w w3 := ((hWk.trans hkd).mono (by simp)).trans (hk3.mono fun x hx => tsB_o hx)
 have hSE : TS w3 b bp s p nds D E ob sp keep g (acc ++ ([98] ++ hexT (at' s i).toNat)) (evs l []) := by rw [HAT.out]; exact hS3
 clear hS2 hS3 hk3 hsy
 go_wp2_with fail
 go_end0
 exact ⟨rfl, hSE, hkE⟩
end Go.Proofs.YtnfojonmohijpaaGreatDoor
namespace Go.Proofs.YtnfojonmohijpaaGreatDoor
open Go.RowKit
set_option maxRecDepth 100000 in
set_option maxHeartbeats 2000000 in
theorem tree_grp (s : ByteArray) (N : Nat) (HN : Hid (N = s.size + 1)) (nds : List Nd) (hn : nds.length ≤ 1000) (n : Nat) (IHE : EndsOk s nds n) (IHT : TreeOk s nds n) (k : Nat) (nd : Nd) (hk : nds[k]? = some nd) (hkind : nd.kind = 103) (c : Nat) (HKC : Hid (nd.kids = [c])) (hck : NK nds n c) (hkl : nd.kids.length ≤ 1000)
    (w : World) (b bp : Nat) (p : PS) (D : List Nat) (E : Value) (ob : Nat) (sp : Value) (keep : Bool) (g : Nat) (acc : List UInt8) (l : List Int) (i j : Nat) (t : List UInt8) (ev : List (Nat × Nat × Nat)) (hS : TS w b bp s p nds D E ob sp keep g acc l) (hij : i ≤ j) (hj : j ≤ s.size) (hg : g ≤ 9)
    (hn0 : 0 < nd.n ∧ nd.n ≤ g) (HTN : Hid (TN s nds g (.node c) i j t ev)) (HMN : Hid (MN s nds (.node c) i j)) (hlen : acc.length + ([40, 103] ++ digT nd.n ++ [32] ++ t ++ [41]).length ≤ 4611686018427387904) :
    Calls Tryz.prog 88 #[.pointer (some ⟨b, 0, none⟩), .int .i64 k, .int .i64 i, .int .i64 j, .pointer (some ⟨ob, 0, none⟩)] w (TPo w b bp s p nds D E ob sp keep g acc l ([40, 103] ++ digT nd.n ++ [32] ++ t ++ [41]) ((nd.n, i, j) :: ev)) := by
 obtain ⟨x0, x1, x2, x3⟩ := hS.tx.xb.main
 obtain ⟨g', cap', hv, kv, hform, hkn, hH, hK, c0, c1, c2, c3, c4, c5⟩ := hS.tx.nodes.node hk
 rw [hkind] at c0
 obtain ⟨n1, _⟩ := hS.tx.pb.nodes
 rw [hform] at n1
 obtain ⟨ha, hn2, hc2, rfl⟩ := hH.1
 have HKV : Hid (KV w (tsB ob sp D) kv nd.kids) := hK.kv2 hkl
 obtain ⟨ka, kc, rfl, hcap⟩ := hK.cap
 have hs := hS.tx.small
 have hk0' : (0 : Int) ≤ (k : Int) := by omega
 have hk1' : (k : Int) < (nds.length : Int) := by omega
 have hk2' : (nds.length : Int) ≤ 1000 := by omega
 have hkl' : (nd.kids.length : Int) ≤ 1000 := by omega
 have HIJ : Hid (i ≤ j ∧ j ≤ s.size ∧ s.size ≤ 100) := ⟨hij, hj, hs⟩
 have HS : Hid (TS w b bp s p nds D E ob sp keep g acc l) := hS
 have hWk := (Keeps.refl [] w).alloc (.cells #[.int .u8 103, .slice ha hn2 hc2, .int .i64 nd.n, .int .i64 nd.mn, .int .i64 nd.mx, .slice ka nd.kids.length kc] 157)
 have hnew := heap_alloc_new w (.cells #[.int .u8 103, .slice ha hn2 hc2, .int .i64 nd.n, .int .i64 nd.mn, .int .i64 nd.mx, .slice ka nd.kids.length kc] 157)
 have HL : Hid (acc.length + ([40, 103] ++ digT nd.n ++ [32] ++ t ++ [41]).length ≤ 4611686018427387904) := hlen
 clear hS hk hij hj hs hform hH hK hkn hkind hn hkl x2 x3 hlen
 go_enter Tryz.func88, Tryz.ntmps88
 go_upto_region 1 with (fail)
 clear c0 c1 c2 c3 c4 c5 n1 x0 x1
 generalize w.alloc (.cells #[.int .u8 103, .slice ha hn2 hc2, .int .i64 nd.n, .int .i64 nd.mn, .int .i64 nd.mx, .slice ka nd.kids.length kc] 157) = W at *
 obtain ⟨gn, hgn⟩ : ∃ gn, gn = w.heap.size := ⟨_, rfl⟩
 rw [← hgn] at hnew ⊢
 have hS1 := HS.out.new hWk
 have hgB : gn ∉ tsB ob sp D := by
  intro hm
  have h0 := HS.out
  simp only [tsB, List.mem_cons, List.mem_append, Option.mem_toList] at hm
  rcases hm with h | h | h
  ·have := h0.ot.lt; omega
  ·have := (h0.row.lt _ h).2; omega
  ·have := h0.tx.dlt _ h; omega
 clear hgn
 have e0 : W.cell? ⟨gn, 0, none⟩ = some (.int .u8 103) := by rw [Lib.cell_of_heap hnew]; rfl
 have HNW : Hid (W.heap[gn]? = some (.cells #[.int .u8 103, .slice ha hn2 hc2, .int .i64 nd.n, .int .i64 nd.mn, .int .i64 nd.mx, .slice ka nd.kids.length kc] 157 (0, 0))) := hnew
 have HGI : Hid (gn < W.heap.size) := (Array.getElem?_eq_some_iff.1 hnew).1
 have hkv1 := HKV.out.keep (hWk.mono (by simp))
 clear hnew
 have HC : Hid (nd.kids = [c]) := HKC.out
 obtain ⟨sb, cap, hsp, _, _⟩ := World.ownsRow.form hS1.row (by omega)
 subst hsp
 have hnn : (1 : Int) ≤ (nd.n : Int) := by omega
 have hng : (nd.n : Int) ≤ (g : Int) := by omega
 have hg9 : (g : Int) ≤ 9 := by omega
 have w1 : IntKind.i64.wrap (2 * (nd.n : Int)) = 2 * (nd.n : Int) := wrap_small (by omega) (by omega)
 have w2' : IntKind.i64.wrap (2 * (nd.n : Int) - 2) = 2 * (nd.n : Int) - 2 := wrap_small (by omega) (by omega)
 have w3' : IntKind.i64.wrap (2 * (nd.n : Int) - 1) = 2 * (nd.n : Int) - 1 := wrap_small (by omega) (by omega)
 have t2 : (2 * (nd.n : Int) - 2).toNat = 2 * nd.n - 2 := by omega
 have t1 : (2 * (nd.n : Int) - 1).toNat = 2 * nd.n - 1 := by omega
 have HNW2 := HNW.out
 have hr20 : (0 : Int) ≤ 2 * (nd.n : Int) - 2 := by omega
 have hr21 : 2 * (nd.n : Int) - 2 < 2 * (g : Int) := by omega
 have hr10 : (0 : Int) ≤ 2 * (nd.n : Int) - 1 := by omega
 have hr11 : 2 * (nd.n : Int) - 1 < 2 * (g : Int) := by omega
 go_upto_region 5 with (fail)
 clear e0
 have HNW' : W.heap[gn]? = some (.cells #[.int .u8 103, .slice ha hn2 hc2, .int .i64 nd.n, .int .i64 nd.mn, .int .i64 nd.mx, .slice ka nd.kids.length kc] 157 (0, 0)) := HNW.out
 have hkDW : Keeps [] W W.drew := (Keeps.refl [] W).drewN 1
 have hSDW := hS1.new hkDW
 obtain ⟨ouW, hOBW, _, _⟩ := hSDW.ot
 have hS0 : W.drew.heap[gn]? = some (.cells #[.int .u8 103, .slice ha hn2 hc2, .int .i64 nd.n, .int .i64 nd.mn, .int .i64 nd.mx, .slice ka nd.kids.length kc] 157 (0, 0)) ∧ W.drew.cell? ⟨ob, 2, none⟩ = some (.slice (some ⟨sb, 0, none⟩) (2 * g) cap) := ⟨HNW', hOBW.main.2.2.1⟩
 have HSD : Hid (TS W.drew b bp s p nds D E ob (.slice (some ⟨sb, 0, none⟩) (2 * g) cap) keep g acc l ∧ Keeps [] W W.drew) := ⟨hSDW, hkDW⟩
 refine wp_region_held (S := fun X' : World => X'.heap[gn]? = some (.cells #[.int .u8 103, .slice ha hn2 hc2, .int .i64 nd.n, .int .i64 nd.mn, .int .i64 nd.mx, .slice ka nd.kids.length kc] 157 (0, 0)) ∧ X'.cell? ⟨ob, 2, none⟩ = some (.slice (some ⟨sb, 0, none⟩) (2 * g) cap)) (by kernel_rfl) ?_
 change wpAnyH _ _ _ _ _ _ _ _ (World.drew _)
 clear hSDW hkDW hOBW
 generalize W.drew = X0 at *
 refine wpAnyH_tk 0 _ (some 40) (.pointer (some ⟨ob, 0, none⟩)) rfl rfl (by kernel_rfl) (by kernel_rfl) (by kernel_rfl) (fun _ _ _ h => h) (Or.inl ⟨by rfl, fun X hX => by (go_simp)⟩) hS0 ?_
 simp only [Act.put, List.setIfInBounds_toArray, List.set_cons_zero, List.set_cons_succ]
 refine wpAnyH_tk 1 _ (some 41) (.pointer (some ⟨ob, 0, none⟩)) rfl rfl (by kernel_rfl) (by kernel_rfl) (by kernel_rfl) (fun _ _ _ h => h) (Or.inl ⟨by rfl, fun X hX => by (go_simp)⟩) hS0 ?_
 simp only [Act.put, List.setIfInBounds_toArray, List.set_cons_zero, List.set_cons_succ]
 refine wpAnyH_tk 2 _ (some 42) (.pointer (some ⟨ob, 2, none⟩)) rfl rfl (by kernel_rfl) (by kernel_rfl) (by kernel_rfl) (fun _ _ _ h => h) (Or.inl ⟨by rfl, fun X hX => by (go_simp)⟩) hS0 ?_
 simp only [Act.put, List.setIfInBounds_toArray, List.set_cons_zero, List.set_cons_succ]
 refine wpAnyH_tk 3 _ (some 43) (.slice (some ⟨sb, 0, none⟩) (2 * g) cap) rfl rfl (by kernel_rfl) (by kernel_rfl) (by kernel_rfl) (fun _ _ _ h => h) (Or.inl ⟨by rfl, fun X hX => by (obtain ⟨r0, r1, r2, r3, r4, r5⟩ := cells6 hX.1; have r6 := hX.2; go_simp)⟩) hS0 ?_
 simp only [Act.put, List.setIfInBounds_toArray, List.set_cons_zero, List.set_cons_succ]
 refine wpAnyH_tk 4 _ (some 44) (.pointer (some ⟨gn, 2, none⟩)) rfl rfl (by kernel_rfl) (by kernel_rfl) (by kernel_rfl) (fun _ _ _ h => h) (Or.inl ⟨by rfl, fun X hX => by (go_simp)⟩) hS0 ?_
 simp only [Act.put, List.setIfInBounds_toArray, List.set_cons_zero, List.set_cons_succ]
 refine wpAnyH_tk 5 _ (some 45) (.int .i64 nd.n) rfl rfl (by kernel_rfl) (by kernel_rfl) (by kernel_rfl) (fun _ _ _ h => h) (Or.inl ⟨by rfl, fun X hX => by (obtain ⟨r0, r1, r2, r3, r4, r5⟩ := cells6 hX.1; have r6 := hX.2; go_simp)⟩) hS0 ?_
 simp only [Act.put, List.setIfInBounds_toArray, List.set_cons_zero, List.set_cons_succ]
 refine wpAnyH_tk 6 _ (some 46) (.int .i64 (2 * (nd.n : Int))) rfl rfl (by kernel_rfl) (by kernel_rfl) (by kernel_rfl) (fun _ _ _ h => h) (Or.inl ⟨by rfl, fun X hX => by (go_simp)⟩) hS0 ?_
 simp only [Act.put, List.setIfInBounds_toArray, List.set_cons_zero, List.set_cons_succ]
 refine wpAnyH_tk 7 _ (some 47) (.int .i64 (2 * (nd.n : Int) - 2)) rfl rfl (by kernel_rfl) (by kernel_rfl) (by kernel_rfl) (fun _ _ _ h => h) (Or.inl ⟨by rfl, fun X hX => by (go_simp)⟩) hS0 ?_
 simp only [Act.put, List.setIfInBounds_toArray, List.set_cons_zero, List.set_cons_succ]
 refine wpAnyH_tk 8 _ (some 48) (.int .i64 (i : Int)) rfl rfl (by kernel_rfl) (by kernel_rfl) (by kernel_rfl) (fun _ _ _ h => h) (Or.inl ⟨by rfl, fun X hX => by (go_simp)⟩) hS0 ?_
 simp only [Act.put, List.setIfInBounds_toArray, List.set_cons_zero, List.set_cons_succ]
 refine wpAnyH_tk 9 _ (some 49) (.pointer (some ⟨sb, 2 * nd.n - 2, none⟩)) rfl rfl (by kernel_rfl) (by kernel_rfl) (by kernel_rfl) (fun _ _ _ h => h) (Or.inl ⟨by rfl, fun X hX => by (go_simp; intro hq; exfalso; omega)⟩) hS0 ?_
 simp only [Act.put, List.setIfInBounds_toArray, List.set_cons_zero, List.set_cons_succ]
 refine wpAnyH_ready (rs := [10]) (by kernel_rfl) (by simp) ?_
 refine AllReadyH.cons rfl (fun K hK => ?_) AllReadyH.nil
 have hlL := HSD.out.1.len
 obtain ⟨vz, hvz⟩ : ∃ vz, (spV l)[2 * nd.n - 2]? = some vz := ⟨_, List.getElem?_eq_getElem (by simp only [spV, List.length_map]; omega)⟩
 have ca := (World.ownsRow.cellAt HSD.out.1.row (2 * nd.n - 2) (by omega)).trans hvz
 have fa := World.ownsRow.frozenAt HSD.out.1.row (2 * nd.n - 2)
 obtain ⟨hSW2, hkW2⟩ := HSD.out.1.span rfl (2 * nd.n - 2) (i : Int)
 have hgs : gn ≠ sb := fun e => hgB (by simp [tsB, Value.ownBlock, e])
 have hos : ob ≠ sb := fun e => HSD.out.1.ne (by simp [Value.ownBlock, e])
 have hgl := (Array.getElem?_eq_some_iff.1 hS0.1).1
 have hol := HSD.out.1.ot.lt
 have hS2 : (X0.setCell ⟨sb, 2 * nd.n - 2, none⟩ (.int .i64 (i : Int))).heap[gn]? = some (.cells #[.int .u8 103, .slice ha hn2 hc2, .int .i64 nd.n, .int .i64 nd.mn, .int .i64 nd.mx, .slice ka nd.kids.length kc] 157 (0, 0)) ∧ (X0.setCell ⟨sb, 2 * nd.n - 2, none⟩ (.int .i64 (i : Int))).cell? ⟨ob, 2, none⟩ = some (.slice (some ⟨sb, 0, none⟩) (2 * g) cap) := ⟨(hkW2.block gn hgl (by simp; exact hgs)).trans hS0.1, (World.cell?_of_block (hkW2.block ob hol (by simp; exact hos))).trans hS0.2⟩
 go_simp
 refine hK.out _ _ hS2 (fun _ => ?_)
 clear hK K
 refine wpAnyH_done (by kernel_rfl) ?_ _
 have hkA : Keeps (tsB ob (.slice (some ⟨sb, 0, none⟩) (2 * g) cap) D) W (X0.setCell ⟨sb, 2 * nd.n - 2, none⟩ (.int .i64 (i : Int))) := (HSD.out.2.mono (by simp)).trans (hkW2.mono (by simp [tsB, Value.ownBlock]))
 have HNV := hS2.1
 clear hS0 hS2 ca fa hvz hgl hol HSD hkW2 hS1 HNW2 HNW'
 generalize X0.setCell ⟨sb, 2 * nd.n - 2, none⟩ (.int .i64 (i : Int)) = V at *
 go_upto_region 6 with (fail)
 have hkDV : Keeps [] V V.drew := (Keeps.refl [] V).drewN 1
 have hSDV := hSW2.new hkDV
 obtain ⟨ouV, hOBV, _, _⟩ := hSDV.ot
 have hS0 : V.drew.heap[gn]? = some (.cells #[.int .u8 103, .slice ha hn2 hc2, .int .i64 nd.n, .int .i64 nd.mn, .int .i64 nd.mx, .slice ka nd.kids.length kc] 157 (0, 0)) ∧ V.drew.cell? ⟨ob, 2, none⟩ = some (.slice (some ⟨sb, 0, none⟩) (2 * g) cap) := ⟨HNV, hOBV.main.2.2.1⟩
 have HSD : Hid (TS V.drew b bp s p nds D E ob (.slice (some ⟨sb, 0, none⟩) (2 * g) cap) keep g acc (l.set (2 * nd.n - 2) (i : Int)) ∧ Keeps [] V V.drew) := ⟨hSDV, hkDV⟩
 refine wp_region_held (S := fun X' : World => X'.heap[gn]? = some (.cells #[.int .u8 103, .slice ha hn2 hc2, .int .i64 nd.n, .int .i64 nd.mn, .int .i64 nd.mx, .slice ka nd.kids.length kc] 157 (0, 0)) ∧ X'.cell? ⟨ob, 2, none⟩ = some (.slice (some ⟨sb, 0, none⟩) (2 * g) cap)) (by kernel_rfl) ?_
 change wpAnyH _ _ _ _ _ _ _ _ (World.drew _)
 clear hSDV hkDV hOBV
 generalize V.drew = X1 at *
 refine wpAnyH_tk 0 _ (some 50) (.pointer (some ⟨ob, 0, none⟩)) rfl rfl (by kernel_rfl) (by kernel_rfl) (by kernel_rfl) (fun _ _ _ h => h) (Or.inl ⟨by rfl, fun X hX => by (go_simp)⟩) hS0 ?_
 simp only [Act.put, List.setIfInBounds_toArray, List.set_cons_zero, List.set_cons_succ]
 refine wpAnyH_tk 1 _ (some 51) (.pointer (some ⟨ob, 0, none⟩)) rfl rfl (by kernel_rfl) (by kernel_rfl) (by kernel_rfl) (fun _ _ _ h => h) (Or.inl ⟨by rfl, fun X hX => by (go_simp)⟩) hS0 ?_
 simp only [Act.put, List.setIfInBounds_toArray, List.set_cons_zero, List.set_cons_succ]
 refine wpAnyH_tk 2 _ (some 52) (.pointer (some ⟨ob, 2, none⟩)) rfl rfl (by kernel_rfl) (by kernel_rfl) (by kernel_rfl) (fun _ _ _ h => h) (Or.inl ⟨by rfl, fun X hX => by (go_simp)⟩) hS0 ?_
 simp only [Act.put, List.setIfInBounds_toArray, List.set_cons_zero, List.set_cons_succ]
 refine wpAnyH_tk 3 _ (some 53) (.slice (some ⟨sb, 0, none⟩) (2 * g) cap) rfl rfl (by kernel_rfl) (by kernel_rfl) (by kernel_rfl) (fun _ _ _ h => h) (Or.inl ⟨by rfl, fun X hX => by (obtain ⟨r0, r1, r2, r3, r4, r5⟩ := cells6 hX.1; have r6 := hX.2; go_simp)⟩) hS0 ?_
 simp only [Act.put, List.setIfInBounds_toArray, List.set_cons_zero, List.set_cons_succ]
 refine wpAnyH_tk 4 _ (some 54) (.pointer (some ⟨gn, 2, none⟩)) rfl rfl (by kernel_rfl) (by kernel_rfl) (by kernel_rfl) (fun _ _ _ h => h) (Or.inl ⟨by rfl, fun X hX => by (go_simp)⟩) hS0 ?_
 simp only [Act.put, List.setIfInBounds_toArray, List.set_cons_zero, List.set_cons_succ]
 refine wpAnyH_tk 5 _ (some 55) (.int .i64 nd.n) rfl rfl (by kernel_rfl) (by kernel_rfl) (by kernel_rfl) (fun _ _ _ h => h) (Or.inl ⟨by rfl, fun X hX => by (obtain ⟨r0, r1, r2, r3, r4, r5⟩ := cells6 hX.1; have r6 := hX.2; go_simp)⟩) hS0 ?_
 simp only [Act.put, List.setIfInBounds_toArray, List.set_cons_zero, List.set_cons_succ]
 refine wpAnyH_tk 6 _ (some 56) (.int .i64 (2 * (nd.n : Int))) rfl rfl (by kernel_rfl) (by kernel_rfl) (by kernel_rfl) (fun _ _ _ h => h) (Or.inl ⟨by rfl, fun X hX => by (go_simp)⟩) hS0 ?_
 simp only [Act.put, List.setIfInBounds_toArray, List.set_cons_zero, List.set_cons_succ]
 refine wpAnyH_tk 7 _ (some 57) (.int .i64 (2 * (nd.n : Int) - 1)) rfl rfl (by kernel_rfl) (by kernel_rfl) (by kernel_rfl) (fun _ _ _ h => h) (Or.inl ⟨by rfl, fun X hX => by (go_simp)⟩) hS0 ?_
 simp only [Act.put, List.setIfInBounds_toArray, List.set_cons_zero, List.set_cons_succ]
 refine wpAnyH_tk 8 _ (some 58) (.int .i64 (j : Int)) rfl rfl (by kernel_rfl) (by kernel_rfl) (by kernel_rfl) (fun _ _ _ h => h) (Or.inl ⟨by rfl, fun X hX => by (go_simp)⟩) hS0 ?_
 simp only [Act.put, List.setIfInBounds_toArray, List.set_cons_zero, List.set_cons_succ]
 refine wpAnyH_tk 9 _ (some 59) (.pointer (some ⟨sb, 2 * nd.n - 1, none⟩)) rfl rfl (by kernel_rfl) (by kernel_rfl) (by kernel_rfl) (fun _ _ _ h => h) (Or.inl ⟨by rfl, fun X hX => by (go_simp; intro hq; exfalso; omega)⟩) hS0 ?_
 simp only [Act.put, List.setIfInBounds_toArray, List.set_cons_zero, List.set_cons_succ]
 refine wpAnyH_ready (rs := [10]) (by kernel_rfl) (by simp) ?_
 refine AllReadyH.cons rfl (fun K hK => ?_) AllReadyH.nil
 have hlL := HSD.out.1.len
 obtain ⟨vz, hvz⟩ : ∃ vz, (spV (l.set (2 * nd.n - 2) (i : Int)))[2 * nd.n - 1]? = some vz := ⟨_, List.getElem?_eq_getElem (by simp only [spV, List.length_map]; omega)⟩
 have ca := (World.ownsRow.cellAt HSD.out.1.row (2 * nd.n - 1) (by omega)).trans hvz
 have fa := World.ownsRow.frozenAt HSD.out.1.row (2 * nd.n - 1)
 obtain ⟨hSV2, hkV2⟩ := HSD.out.1.span rfl (2 * nd.n - 1) (j : Int)
 have hgs : gn ≠ sb := fun e => hgB (by simp [tsB, Value.ownBlock, e])
 have hos : ob ≠ sb := fun e => HSD.out.1.ne (by simp [Value.ownBlock, e])
 have hgl := (Array.getElem?_eq_some_iff.1 hS0.1).1
 have hol := HSD.out.1.ot.lt
 have hS2 : (X1.setCell ⟨sb, 2 * nd.n - 1, none⟩ (.int .i64 (j : Int))).heap[gn]? = some (.cells #[.int .u8 103, .slice ha hn2 hc2, .int .i64 nd.n, .int .i64 nd.mn, .int .i64 nd.mx, .slice ka nd.kids.length kc] 157 (0, 0)) ∧ (X1.setCell ⟨sb, 2 * nd.n - 1, none⟩ (.int .i64 (j : Int))).cell? ⟨ob, 2, none⟩ = some (.slice (some ⟨sb, 0, none⟩) (2 * g) cap) := ⟨(hkV2.block gn hgl (by simp; exact hgs)).trans hS0.1, (World.cell?_of_block (hkV2.block ob hol (by simp; exact hos))).trans hS0.2⟩
 go_simp
 refine hK.out _ _ hS2 (fun _ => ?_)
 clear hK K
 refine wpAnyH_done (by kernel_rfl) ?_ _
 have hkB : Keeps (tsB ob (.slice (some ⟨sb, 0, none⟩) (2 * g) cap) D) W (X1.setCell ⟨sb, 2 * nd.n - 1, none⟩ (.int .i64 (j : Int))) := (hkA.trans (HSD.out.2.mono (by simp))).trans (hkV2.mono (by simp [tsB, Value.ownBlock]))
 have HNU := hS2.1
 clear hS0 hS2 ca fa hvz hgl hol HSD hkV2 hSW2 HNV hkA
 generalize X1.setCell ⟨sb, 2 * nd.n - 1, none⟩ (.int .i64 (j : Int)) = U at *
 obtain ⟨_, _, u2, _, _, u5⟩ := cells6 HNU
 have hn9 : nd.n ≤ 9 := by omega
 have HCT : Hid ((nmB digs10).extract nd.n (nd.n + 1) = nmB (digT nd.n)) := digs10_cut nd.n hn9
 have hd1 : (nmB (digT nd.n)).size ≤ 1 := Nat.le_refl 1
 have hd3 : (nmB [40, 103] ++ nmB (digT nd.n)).size ≤ 3 := by rw [nmB_appT, nmB_size]; exact Nat.le_refl 3
 have hsy := tsay hSV2 ([40, 103] ++ digT nd.n ++ [32]) (by have := HL.out; simp only [List.length_append, List.length_cons, List.length_nil] at this ⊢; omega)
 rw [← nmB_appT, ← nmB_appT, ← HCT.out] at hsy
 rw [← HCT.out] at hd1 hd3
 obtain ⟨ad, cp, e1, _, hcs⟩ := id hkv1
 simp only [Value.slice.injEq] at e1
 obtain ⟨rfl, _, rfl⟩ := e1
 obtain ⟨y, off, rfl, _, _, _⟩ := hcs 0 c (by rw [HC.out]; rfl)
 have hkn0 : (0 : Int) < (nd.kids.length : Int) := by rw [HC.out]; simp
 clear hcs
 go_wp2_with fail
 refine hsy.mono ?_
 rintro e w4 ⟨rfl, hS4, hk4⟩
 have hkC : Keeps (tsB ob (.slice (some ⟨sb, 0, none⟩) (2 * g) cap) D) W w4 := hkB.trans (hk4.mono fun x hx => tsB_o hx)
 have e54 : w4.cell? ⟨gn, 5, none⟩ = some (.slice (some ⟨y, off, none⟩) nd.kids.length kc) := by rw [World.cell?_of_block (hkC.block gn HGI.out hgB)]; exact (cells6 HNW.out).2.2.2.2.2
 have hcd4 := (hkv1.keep hkC).cell (m := 0) (c := c) (by rw [HC.out]; rfl)
 rw [Nat.add_zero] at hcd4
 clear hsy hk4 hkB u2 u5 hSV2 HNU hd1 hd3
 go_wp2_with fail
 refine (IHT c hck w4 b bp p D E ob _ keep g (acc ++ ([40, 103] ++ digT nd.n ++ [32])) _ i j t ev hS4 HTN.out HMN.out HIJ.out.2.1 hg (by have := HL.out; simp only [List.length_append, List.length_cons, List.length_nil] at this ⊢; omega)).mono ?_
 rintro e w5 ⟨rfl, hS5, hk5⟩
 have hsz := tsay hS5 [41] (by have := HL.out; simp only [List.length_append, List.length_cons, List.length_nil] at this ⊢; omega)
 clear hS4 e54 hcd4
 go_wp2_with fail
 refine hsz.mono ?_
 rintro e w6 ⟨rfl, hS6, hk6⟩
 have hkE : Keeps (tsB ob (.slice (some ⟨sb, 0, none⟩) (2 * g) cap) D) w w6 := (((hWk.mono (by simp)).trans hkC).trans hk5).trans (hk6.mono fun x hx => tsB_o hx)
 have hSE : TS w6 b bp s p nds D E ob (.slice (some ⟨sb, 0, none⟩) (2 * g) cap) keep g (acc ++ ([40, 103] ++ digT nd.n ++ [32] ++ t ++ [41])) (evs l ((nd.n, i, j) :: ev)) := by
  have h1 := hS6
  have e1 : acc ++ ([40, 103] ++ digT nd.n ++ [32] ++ t ++ [41]) = acc ++ ([40, 103] ++ digT nd.n ++ [32]) ++ t ++ [41] := by simp
  rw [e1]
  exact h1
 clear hsz hS5 hS6 hk6 hk5
 go_wp2_with fail
 go_end0
 exact ⟨rfl, hSE, hkE⟩
end Go.Proofs.YtnfojonmohijpaaGreatDoor
namespace Go.Proofs.YtnfojonmohijpaaGreatDoor
open Go.RowKit
set_option maxRecDepth 100000 in
set_option maxHeartbeats 2000000 in
theorem tree_alt (s : ByteArray) (N : Nat) (HN : Hid (N = s.size + 1)) (nds : List Nd) (hn : nds.length ≤ 1000) (n : Nat) (IHE : EndsOk s nds n) (IHT : TreeOk s nds n) (k : Nat) (nd : Nd) (hk : nds[k]? = some nd) (hkind : nd.kind = 111) (hkids : ∀ c, c ∈ nd.kids → NK nds n c) (hk99 : nd.kids.length ≤ 99) (hkl : nd.kids.length ≤ 1000)
    (w : World) (b bp : Nat) (p : PS) (D : List Nat) (E : Value) (ob : Nat) (sp : Value) (keep : Bool) (g : Nat) (acc : List UInt8) (l : List Int) (i j : Nat) (t : List UInt8) (ev : List (Nat × Nat × Nat)) (hS : TS w b bp s p nds D E ob sp keep g acc l) (hij : i ≤ j) (hj : j ≤ s.size) (hg : g ≤ 9)
    (HTN : Hid (TN s nds g (.alts 0 nd.kids) i j t ev)) (hlen : acc.length + (t).length ≤ 4611686018427387904) :
    Calls Tryz.prog 88 #[.pointer (some ⟨b, 0, none⟩), .int .i64 k, .int .i64 i, .int .i64 j, .pointer (some ⟨ob, 0, none⟩)] w (TPo w b bp s p nds D E ob sp keep g acc l (t) (ev)) := by
 obtain ⟨x0, x1, x2, x3⟩ := hS.tx.xb.main
 obtain ⟨g', cap', hv, kv, hform, hkn, hH, hK, c0, c1, c2, c3, c4, c5⟩ := hS.tx.nodes.node hk
 rw [hkind] at c0
 obtain ⟨n1, _⟩ := hS.tx.pb.nodes
 rw [hform] at n1
 obtain ⟨ha, hn2, hc2, rfl⟩ := hH.1
 have HKV : Hid (KV w (tsB ob sp D) kv nd.kids) := hK.kv2 hkl
 obtain ⟨ka, kc, rfl, hcap⟩ := hK.cap
 have hs := hS.tx.small
 have hk0' : (0 : Int) ≤ (k : Int) := by omega
 have hk1' : (k : Int) < (nds.length : Int) := by omega
 have hk2' : (nds.length : Int) ≤ 1000 := by omega
 have hkl' : (nd.kids.length : Int) ≤ 1000 := by omega
 have HIJ : Hid (i ≤ j ∧ j ≤ s.size ∧ s.size ≤ 100) := ⟨hij, hj, hs⟩
 have HS : Hid (TS w b bp s p nds D E ob sp keep g acc l) := hS
 have hWk := (Keeps.refl [] w).alloc (.cells #[.int .u8 111, .slice ha hn2 hc2, .int .i64 nd.n, .int .i64 nd.mn, .int .i64 nd.mx, .slice ka nd.kids.length kc] 157)
 have hnew := heap_alloc_new w (.cells #[.int .u8 111, .slice ha hn2 hc2, .int .i64 nd.n, .int .i64 nd.mn, .int .i64 nd.mx, .slice ka nd.kids.length kc] 157)
 have HL : Hid (acc.length + (t).length ≤ 4611686018427387904) := hlen
 clear hS hk hij hj hs hform hH hK hkn hkind hn hkl x2 x3 hlen
 go_enter Tryz.func88, Tryz.ntmps88
 go_upto_region 1 with (fail)
 clear c0 c1 c2 c3 c4 c5 n1 x0 x1
 generalize w.alloc (.cells #[.int .u8 111, .slice ha hn2 hc2, .int .i64 nd.n, .int .i64 nd.mn, .int .i64 nd.mx, .slice ka nd.kids.length kc] 157) = W at *
 obtain ⟨gn, hgn⟩ : ∃ gn, gn = w.heap.size := ⟨_, rfl⟩
 rw [← hgn] at hnew ⊢
 have hS1 := HS.out.new hWk
 have hgB : gn ∉ tsB ob sp D := by
  intro hm
  have h0 := HS.out
  simp only [tsB, List.mem_cons, List.mem_append, Option.mem_toList] at hm
  rcases hm with h | h | h
  ·have := h0.ot.lt; omega
  ·have := (h0.row.lt _ h).2; omega
  ·have := h0.tx.dlt _ h; omega
 clear hgn
 have e0 : W.cell? ⟨gn, 0, none⟩ = some (.int .u8 111) := by rw [Lib.cell_of_heap hnew]; rfl
 have HNW : Hid (W.heap[gn]? = some (.cells #[.int .u8 111, .slice ha hn2 hc2, .int .i64 nd.n, .int .i64 nd.mn, .int .i64 nd.mx, .slice ka nd.kids.length kc] 157 (0, 0))) := hnew
 have HGI : Hid (gn < W.heap.size) := (Array.getElem?_eq_some_iff.1 hnew).1
 have hkv1 := HKV.out.keep (hWk.mono (by simp))
 clear hnew
 clear e0
 have q5 : W.cell? ⟨gn, 5, none⟩ = some (.slice ka nd.kids.length kc) := (cells6 HNW.out).2.2.2.2.2
 have q0 : W.cell? ⟨gn, 0, none⟩ = some (.int .u8 111) := (cells6 HNW.out).1
 have hkl9 : (nd.kids.length : Int) ≤ 99 := by omega
 go_upto_region 12 with (fail)
 clear q0 q5
 go_loopw [11] (fun q wr => ∃ m : Nat, q = .int .i64 m ∧ m ≤ nd.kids.length ∧ TN s nds g (.alts m (nd.kids.drop m)) i j t ev ∧ TS wr b bp s p nds D E ob sp keep g acc l ∧ Keeps D W wr) (fun q _ => nd.kids.length - (intOf q).toNat)
 case atStart => exact ⟨0, rfl, by omega, by rw [List.drop_zero]; exact HTN.out, hS1, Keeps.refl _ _⟩
 case round =>
  clear hS1
  obtain ⟨m, rfl, hm, hT, hSr, hkr⟩ := hrel
  have hkW : Keeps (tsB ob sp D) W wr := hkr.mono fun x hx => tsB_D hx
  have e5 : wr.cell? ⟨gn, 5, none⟩ = some (.slice ka nd.kids.length kc) := by rw [World.cell?_of_block (hkW.block gn HGI.out hgB)]; exact (cells6 HNW.out).2.2.2.2.2
  by_cases hml : m < nd.kids.length
  rotate_left
  ·have hme : m = nd.kids.length := by omega
   rw [hme, List.drop_length] at hT
   cases hT
  obtain ⟨c, hc⟩ : ∃ c, nd.kids[m]? = some c := ⟨_, List.getElem?_eq_getElem hml⟩
  have hck : NK nds n c := hkids c (List.mem_of_getElem? hc)
  have hdr : nd.kids.drop m = c :: nd.kids.drop (m + 1) := by
   obtain ⟨h1, h2⟩ := List.getElem?_eq_some_iff.1 hc
   rw [List.drop_eq_getElem_cons h1, h2]
  rw [hdr] at hT
  obtain ⟨ad, cp, e1, _, hcs⟩ := hkv1.keep hkW
  simp only [Value.slice.injEq] at e1
  obtain ⟨rfl, _, rfl⟩ := e1
  obtain ⟨y, off, rfl, hyl, hyB, hcd⟩ := hcs m c hc
  have hm0' : (0 : Int) ≤ (m : Int) := by omega
  have hm1' : (m : Int) < (nd.kids.length : Int) := by omega
  have HM : Hid (m < nd.kids.length) := hml
  have HT : Hid (TN s nds g (.alts m (c :: nd.kids.drop (m + 1))) i j t ev) := hT
  have HC : Hid (nd.kids[m]? = some c) := hc
  have hjN : (j : Int) < (N : Int) := by have := HN.out; have := HIJ.out; omega
  have hj0 : (0 : Int) ≤ (j : Int) := by omega
  clear hcs hm hml hc hdr hT
  go_wp2_with fail
  refine (IHE c hck wr b bp p D E _ i hSr.tx hSr.zin (by have := HIJ.out; omega)).mono ?_
  rintro e w3 ⟨v, rfl, hEA, htx3, hk3⟩
  have hS3 := hSr.ends hk3 htx3
  have hkr3 : Keeps D W w3 := hkr.trans hk3
  have hkW3 : Keeps (tsB ob sp D) W w3 := hkr3.mono fun x hx => tsB_D hx
  obtain ⟨x, cc, fe, hve, hRe, hxD, hxZ, hsay⟩ := hEA
  rw [← HN.out] at hve hRe
  subst hve
  have hcj := hRe.at (j := j) (by omega)
  have HSY : Hid (fe j = true ↔ MN s nds (.node c) i j) := hsay j HIJ.out.2.1
  clear hSr hkr hkW hk3 htx3 hsay hcd e5 hRe
  cases hfe : fe j
  ·rw [hfe] at hcj
   have hT2 : TN s nds g (.alts (m + 1) (nd.kids.drop (m + 1))) i j t ev := by
    cases HT.out with
    | hit _ _ _ _ _ _ _ h1 _ => have := HSY.out.2 h1; rw [hfe] at this; cases this
    | miss _ _ _ _ _ _ _ _ h2 => exact h2
   have HT2 : Hid (TN s nds g (.alts (m + 1) (nd.kids.drop (m + 1))) i j t ev) := hT2
   clear hfe hT2
   go_wp2_with fail
   exact ⟨⟨m + 1, by go_num, HM.out, HT2.out, hS3, hkr3⟩, by have := HM.out; simp [intOf]; omega⟩
  ·rw [hfe] at hcj
   obtain ⟨u, hu, hMN, hTu⟩ : ∃ u, t = [40, 97] ++ decT m ++ [32] ++ u ++ [41] ∧ MN s nds (.node c) i j ∧ TN s nds g (.node c) i j u ev := by
    cases HT.out with
    | hit _ _ _ _ _ u _ h1 h2 => exact ⟨u, rfl, h1, h2⟩
    | miss _ _ _ _ _ _ _ h1 _ => exact absurd (HSY.out.1 hfe) h1
   have HU : Hid (t = [40, 97] ++ decT m ++ [32] ++ u ++ [41] ∧ MN s nds (.node c) i j ∧ TN s nds g (.node c) i j u ev) := ⟨hu, hMN, hTu⟩
   have hd2 : (nmB (decT m)).size ≤ 2 := by rw [nmB_size]; exact decT_len m
   have hd4 : (nmB [40, 97] ++ nmB (decT m)).size ≤ 4 := by rw [nmB_appT, nmB_size, List.length_append]; have := decT_len m; simp only [List.length_cons, List.length_nil]; omega
   have HLU : Hid (acc.length + (4 + (decT m).length + u.length) ≤ 4611686018427387904) := by
    have h1 := HL.out
    rw [hu] at h1
    simp only [List.length_append, List.length_cons, List.length_nil] at h1
    show acc.length + (4 + (decT m).length + u.length) ≤ 4611686018427387904
    omega
   have e53 : w3.cell? ⟨gn, 5, none⟩ = some (.slice (some ⟨y, off, none⟩) nd.kids.length kc) := by rw [World.cell?_of_block (hkW3.block gn HGI.out hgB)]; exact (cells6 HNW.out).2.2.2.2.2
   have hsy := tsay hS3 ([40, 97] ++ decT m ++ [32]) (by have := HLU.out; simp only [List.length_append, List.length_cons, List.length_nil]; omega)
   rw [← nmB_appT, ← nmB_appT] at hsy
   clear hfe hu hMN hTu
   go_wp2_with fail
   refine (digits_any m (by omega) _).mono ?_
   rintro e w' ⟨rfl, rfl⟩
   go_wp2_with fail
   refine hsy.mono ?_
   rintro e w4 ⟨rfl, hS4, hk4⟩
   have hkW4 : Keeps (tsB ob sp D) W w4 := hkW3.trans (hk4.mono fun x hx => tsB_o hx)
   have e54 : w4.cell? ⟨gn, 5, none⟩ = some (.slice (some ⟨y, off, none⟩) nd.kids.length kc) := by rw [World.cell?_of_block (hkW4.block gn HGI.out hgB)]; exact (cells6 HNW.out).2.2.2.2.2
   have hcd4 := (hkv1.keep hkW4).cell HC.out
   clear hsy hS3 hk4 hcj e53
   go_wp2_with fail
   refine (IHT c hck w4 b bp p D E ob sp keep g (acc ++ ([40, 97] ++ decT m ++ [32])) l i j u ev hS4 HU.out.2.2 HU.out.2.1 HIJ.out.2.1 hg (by have := HLU.out; simp only [List.length_append, List.length_cons, List.length_nil]; omega)).mono ?_
   rintro e w5 ⟨rfl, hS5, hk5⟩
   have hsz := tsay hS5 [41] (by have := HLU.out; simp only [List.length_append, List.length_cons, List.length_nil]; omega)
   clear hS4 e54 hcd4
   go_wp2_with fail
   refine hsz.mono ?_
   rintro e w6 ⟨rfl, hS6, hk6⟩
   have hkE : Keeps (tsB ob sp D) w w6 := (((hWk.mono (by simp)).trans hkW4).trans hk5).trans (hk6.mono fun x hx => tsB_o hx)
   have hSE : TS w6 b bp s p nds D E ob sp keep g (acc ++ t) (evs l ev) := by
    have h1 := hS6
    have e1 : acc ++ t = acc ++ ([40, 97] ++ decT m ++ [32]) ++ u ++ [41] := by rw [HU.out.1]; simp
    rw [e1]
    exact h1
   clear hsz hS5 hS6 hk6 hk5
   go_wp2_with fail
   go_end0
   exact ⟨rfl, hSE, hkE⟩
end Go.Proofs.YtnfojonmohijpaaGreatDoor
