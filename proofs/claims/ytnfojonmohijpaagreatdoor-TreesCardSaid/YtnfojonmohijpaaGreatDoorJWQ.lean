/-
  DERIVED. What the reference's fits is claimed to do; rows of numbers and of texts that are only read. No conditions.
-/
import Derived.Test.YtnfojonmohijpaaGreatDoorJWP
import Derived.Test.YtnfojonmohijpaaGreatDoorJMO
import Derived.Test.YtnfojonmohijpaaGreatDoorJMC
set_option linter.unusedSimpArgs false
set_option linter.unusedVariables false
namespace Go.Proofs.YtnfojonmohijpaaGreatDoor
open Go.RowKit
def KR (w : World) (v : Value) (L : List Nat) : Prop := ∃ la lc, v = .slice la L.length lc ∧ ∀ (i c : Nat), L[i]? = some c → ∃ q, la = some ⟨q, 0, none⟩ ∧ w.cell? ⟨q, i, none⟩ = some (.int .i64 c)
def SR (w : World) (v : Value) (L : List Tr) : Prop := ∃ la lc, v = .slice la L.length lc ∧ ∀ (i : Nat) (u : Tr), L[i]? = some u → ∃ q, la = some ⟨q, 0, none⟩ ∧ w.cell? ⟨q, i, none⟩ = some (.string (nmB u.text))
theorem KR.keep {w w' : World} {v : Value} {L : List Nat} (h : KR w v L) (hk : Keeps [] w w') : KR w' v L := by
 obtain ⟨la, lc, e, hc⟩ := h
 refine ⟨la, lc, e, fun i c hi => ?_⟩
 obtain ⟨q, a, b⟩ := hc i c hi
 exact ⟨q, a, hk.cell b⟩
theorem SR.keep {w w' : World} {v : Value} {L : List Tr} (h : SR w v L) (hk : Keeps [] w w') : SR w' v L := by
 obtain ⟨la, lc, e, hc⟩ := h
 refine ⟨la, lc, e, fun i c hi => ?_⟩
 obtain ⟨q, a, b⟩ := hc i c hi
 exact ⟨q, a, hk.cell b⟩
theorem KidsV.kr {w : World} {av : List Nat} {kv : Value} {kids : List Nat} (h : KidsV w av kv kids) : KR w kv kids := by
 obtain ⟨ka, kc, rfl, hk⟩ := h.form
 refine ⟨ka, kc, rfl, fun i c hi => ?_⟩
 obtain ⟨hlt, hc⟩ := List.getElem?_eq_some_iff.1 hi
 obtain ⟨kb, rfl, hcell⟩ := hk i hlt
 exact ⟨kb, rfl, by rw [hcell, hc]⟩
theorem rowI_kr {w : World} {lo : Nat} {v : Value} {L : List Nat} (h : w.ownsRow lo 3 1 v L.length (L.map fun (k : Nat) => Value.int .i64 (k : Int))) : KR w v L := by
 rcases h.2 with ⟨rfl, hz⟩ | ⟨kb, kc, cur, rfl, _⟩
 ·refine ⟨none, 0, by rw [hz], fun i c hi => ?_⟩
  have := (List.getElem?_eq_some_iff.1 hi).1
  omega
 ·refine ⟨some ⟨kb, 0, none⟩, kc, rfl, fun i c hi => ⟨kb, rfl, ?_⟩⟩
  have := h.cells (g := kb) rfl i (.int .i64 c) (by simp [hi])
  simpa [Addr.add_lit] using this
theorem StrRow.sr {w : World} {lo : Nat} {v : Value} {L : List Tr} (h : StrRow w lo v (L.map Tr.text)) : SR w v L := by
 unfold StrRow at h
 rcases h.2 with ⟨rfl, hz⟩ | ⟨kb, kc, cur, rfl, _⟩
 ·rw [List.length_map] at hz
  refine ⟨none, 0, by rw [hz], fun i c hi => ?_⟩
  have := (List.getElem?_eq_some_iff.1 hi).1
  omega
 ·refine ⟨some ⟨kb, 0, none⟩, kc, by rw [List.length_map], fun i c hi => ⟨kb, rfl, ?_⟩⟩
  have := h.cells (g := kb) rfl i (.string (nmB c.text)) (by simp [hi])
  simpa [Addr.add_lit] using this
def FitA (nds : List Nd) (k : Nat) (t : Tr) (w : World) (e : Ending) (w' : World) : Prop := ∃ r, e = .returned (.bool r) ∧ (r = true ↔ FN nds k t) ∧ Keeps [] w w'
def FitOk (nds : List Nd) (n : Nat) : Prop := ∀ (k : Nat), NK nds n k → ∀ (w : World) (bp : Nat) (p : PS) (t : Tr), PB w bp p → NInv w bp [] p.nodes nds → TO true t → t.text.length ≤ 20000 →
 Calls Tryz.prog 91 #[.pointer (some ⟨bp, 0, none⟩), .int .i64 k, .string (nmB t.text)] w (FitA nds k t w)
theorem PB.keep0 {w w' : World} {b : Nat} {p : PS} (h : PB w b p) (hk : Keeps [] w w') : PB w' b p := (hk.block b (Array.getElem?_eq_some_iff.1 h).1 (by simp)).trans h
theorem kid_len {t u : Tr} (h : TO true t) (hu : u ∈ kidL t) : u.text.length < t.text.length := by
 have hp := h.parts.1
 have h2 : u.text.length + 1 ≤ (txts (kidL t)).length := by
  clear hp
  generalize kidL t = L at *
  induction L with
  | nil => cases hu
  | cons a l ih =>
   simp only [txts, List.flatMap_cons, List.length_append, List.length_cons] at *
   rcases List.mem_cons.1 hu with rfl | hm
   ·omega
   ·have := ih hm
    omega
 rw [hp]
 simp only [List.length_append]
 omega
theorem kid_count {t : Tr} (h : TO true t) : (kidL t).length ≤ t.text.length := by
 have hp := h.parts.1
 have h2 : (kidL t).length ≤ (txts (kidL t)).length := by
  generalize kidL t = L
  induction L with
  | nil => simp
  | cons a l ih =>
   simp only [txts, List.flatMap_cons, List.length_append, List.length_cons] at *
   omega
 rw [hp]
 simp only [List.length_append]
 omega
end Go.Proofs.YtnfojonmohijpaaGreatDoor
namespace Go.Proofs.YtnfojonmohijpaaGreatDoor
open Go.RowKit
set_option maxRecDepth 100000 in
set_option maxHeartbeats 4000000 in
theorem fits_grp (nds : List Nd) (hn : nds.length ≤ 1000) (n : Nat) (IH : FitOk nds n) (k : Nat) (nd : Nd) (hk : nds[k]? = some nd) (hkind : nd.kind = 103) (hkl : nd.kids.length ≤ 1000) (c : Nat) (HKC : Hid (nd.kids = [c])) (HNC : Hid (NK nds n c)) (hn9 : Hid (nd.n ≤ 9))
    (w : World) (bp : Nat) (p : PS) (t : Tr) (hpb : PB w bp p) (hni : NInv w bp [] p.nodes nds) (ht : TO true t) (hl : t.text.length ≤ 20000) :
    Calls Tryz.prog 91 #[.pointer (some ⟨bp, 0, none⟩), .int .i64 k, .string (nmB t.text)] w (FitA nds k t w) := by
 obtain ⟨g', cap', hv, kv, hform, hkn, hH, hK, c0, c1, c2, c3, c4, c5⟩ := hni.node hk
 rw [hkind] at c0
 obtain ⟨n1, _⟩ := hpb.nodes
 rw [hform] at n1
 obtain ⟨ha, hn2, hc2, rfl⟩ := hH.1
 have HHV : Hid (HoldsV w (avoA bp [] p.nodes) (.slice ha hn2 hc2) nd) := hH
 have hkr := hK.kr
 obtain ⟨ka, kc, rfl, _⟩ := hK.form
 have HKR : Hid (KR w (.slice ka nd.kids.length kc) nd.kids) := hkr
 have hk0' : (0 : Int) ≤ (k : Int) := by omega
 have hk1' : (k : Int) < (nds.length : Int) := by omega
 have hk2' : (nds.length : Int) ≤ 1000 := by omega
 have hkl' : (nd.kids.length : Int) ≤ 1000 := by omega
 have HI : Hid (PB w bp p ∧ NInv w bp [] p.nodes nds) := ⟨hpb, hni⟩
 have HT : Hid (TO true t ∧ t.text.length ≤ 20000) := ⟨ht, hl⟩
 have HK : Hid (nds[k]? = some nd ∧ nd.kind = 103) := ⟨hk, hkind⟩
 have hWk := (Keeps.refl [] w).alloc (.cells #[.int .u8 103, .slice ha hn2 hc2, .int .i64 nd.n, .int .i64 nd.mn, .int .i64 nd.mx, .slice ka nd.kids.length kc] 157)
 have hnew := heap_alloc_new w (.cells #[.int .u8 103, .slice ha hn2 hc2, .int .i64 nd.n, .int .i64 nd.mn, .int .i64 nd.mx, .slice ka nd.kids.length kc] 157)
 obtain ⟨x, hx⟩ : ∃ x, t.text = x := ⟨_, rfl⟩
 obtain ⟨H, hH0⟩ : ∃ H, headT t = H := ⟨_, rfl⟩
 obtain ⟨KL, hKL⟩ : ∃ L, kidL t = L := ⟨_, rfl⟩
 have hkids := kids_any t ht hl
 rw [hx] at hkids ⊢
 rw [hH0, hKL] at hkids
 have hKn := kid_count ht
 rw [hKL] at hKn
 have hKn' : (KL.length : Int) ≤ 20000 := by omega
 have HX : Hid (t.text = x ∧ headT t = H ∧ kidL t = KL) := ⟨hx, hH0, hKL⟩
 clear hpb hni hk hform hH hK hkn hkind hn hkl ht hl hkr hx hH0 hKL hKn
 go_enter Tryz.func91, Tryz.ntmps91
 go_upto_region 2 with (fail)
 clear c0 c1 c2 c3 c4 c5 n1
 generalize w.alloc (.cells #[.int .u8 103, .slice ha hn2 hc2, .int .i64 nd.n, .int .i64 nd.mn, .int .i64 nd.mx, .slice ka nd.kids.length kc] 157) = W at *
 obtain ⟨gn, hgn⟩ : ∃ gn, gn = w.heap.size := ⟨_, rfl⟩
 rw [← hgn] at hnew ⊢
 clear hgn
 go_upto_region 3 with (first | (go_at_call 145; refine (hkids W).mono ?_; rintro e w1 ⟨v, rfl, hrow, hk1⟩))
 have HSR : Hid (SR w1 v KL) := hrow.sr
 have hSR := hrow.sr
 obtain ⟨va, vc, rfl, _⟩ := hSR
 have hk1w := hWk.trans hk1
 have hB : w1.heap[gn]? = some (.cells #[.int .u8 103, .slice ha hn2 hc2, .int .i64 nd.n, .int .i64 nd.mn, .int .i64 nd.mx, .slice ka nd.kids.length kc] 157 (0, 0)) := (hk1.block gn (Array.getElem?_eq_some_iff.1 hnew).1 (by simp)).trans hnew
 have HKR1 : Hid (KR w1 (.slice ka nd.kids.length kc) nd.kids) := HKR.out.keep hk1w
 obtain ⟨e0, e1, e2, e3, e4, e5⟩ := cells6 hB
 have HB1 : Hid (w1.heap[gn]? = some (.cells #[.int .u8 103, .slice ha hn2 hc2, .int .i64 nd.n, .int .i64 nd.mn, .int .i64 nd.mx, .slice ka nd.kids.length kc] 157 (0, 0))) := hB
 clear hrow hnew hWk hk1 hB hkids
 go_upto_region 5 with (fail)
 obtain ⟨DT, hDT⟩ : ∃ d, decT nd.n = d := ⟨_, rfl⟩
 have hcat := cat40g DT
 have hdig := digits_any nd.n (by have := hn9.out; omega)
 have hsz : (nmB DT).size ≤ 2 := by rw [nmB_size, ← hDT]; unfold decT; split <;> simp [digT]
 have hsz' : ¬ 9223372036854775807 < 2 + (nmB DT).size := by omega
 rw [hDT] at hdig
 have HDT : Hid (decT nd.n = DT) := hDT
 have hn0 : (0 : Int) ≤ (nd.n : Int) := by omega
 clear hDT hsz
 by_cases hh : H = [40, 103] ++ DT
 ·have hq : ((nmB H).toList == (nmB (40 :: 103 :: DT)).toList) = true := by rw [eqL]; simpa using hh
  obtain ⟨u0, hu0⟩ := head_grp (n := nd.n) HT.out.1 (by have := hn9.out; omega) (HX.out.2.1.trans (hh.trans (by rw [HDT.out])))
  have hKL : KL = [u0] := by rw [← HX.out.2.2, hu0]; rfl
  have HFN : Hid (FN nds k t ↔ ∀ (j c : Nat) (u : Tr), nd.kids[j]? = some c → KL[j]? = some u → FN nds c u) := by
   show FN nds k t ↔ _
   rw [FN.grp_iff HK.out.1 HK.out.2 HKC.out, hu0, hKL, HKC.out]
   constructor
   ·rintro ⟨u, e, h⟩ j c' u' hj hu'
    cases j with
    | zero =>
     cases e
     simp only [List.getElem?_cons_zero, Option.some.injEq] at hj hu'
     subst hj hu'
     exact h
    | succ j => simp at hj
   ·intro h
    exact ⟨u0, rfl, h 0 c u0 rfl rfl⟩
  have HLK : Hid (nd.kids.length = KL.length) := by show nd.kids.length = KL.length; rw [HKC.out, hKL]; rfl
  have HNK : Hid (∀ c', c' ∈ nd.kids → NK nds n c') := by
   intro c' hc'
   rw [HKC.out] at hc'
   rw [List.mem_singleton.1 hc']
   exact HNC.out
  clear hh hu0 hKL
  go_upto_region 36 with (first | (go_at_call 111; refine (hdig w1).mono ?_; rintro e w2 ⟨rfl, hw2⟩; have hw2' := hw2.symm; clear hw2; subst hw2'))
  clear e0 e1 e2 e3 e4 e5
  have HLR := HKR1
  have HSR2 := HSR
  have hkT := hk1w
  go_loopw [14, 15] (fun q14 _ wr => ∃ i : Nat, q14 = .int .i64 i ∧ i ≤ nd.kids.length ∧ (∀ (j c : Nat) (u : Tr), j < i → nd.kids[j]? = some c → KL[j]? = some u → FN nds c u) ∧ Keeps [] w1 wr) (fun q _ _ => nd.kids.length - (intOf q).toNat)
  case atStart => exact ⟨0, rfl, Nat.zero_le _, fun j c u h => absurd h (Nat.not_lt_zero _), Keeps.refl _ _⟩
  case round =>
   obtain ⟨i, rfl, hi, hall, hkr⟩ := hrel
   have hi0 : (0 : Int) ≤ (i : Int) := by omega
   have HA : Hid (∀ (j c : Nat) (u : Tr), j < i → nd.kids[j]? = some c → KL[j]? = some u → FN nds c u) := hall
   have HLE : Hid (i ≤ nd.kids.length) := hi
   clear hall hi
   by_cases hlt : i < nd.kids.length
   ·have hltL : (i : Int) < (nd.kids.length : Int) := by omega
    have hltK : (i : Int) < (KL.length : Int) := by have := HLK.out; omega
    have hltK' : i < KL.length := by have := HLK.out; omega
    obtain ⟨c, hc⟩ : ∃ c, nd.kids[i]? = some c := ⟨_, List.getElem?_eq_getElem hlt⟩
    obtain ⟨u, hu⟩ : ∃ u, KL[i]? = some u := ⟨_, List.getElem?_eq_getElem hltK'⟩
    have HC : Hid (nd.kids[i]? = some c ∧ KL[i]? = some u) := ⟨hc, hu⟩
    obtain ⟨la', lc', ele, hq⟩ := HLR.out.keep hkr
    simp only [Value.slice.injEq] at ele
    obtain ⟨rfl, _, rfl⟩ := ele
    obtain ⟨q, rfl, hqc⟩ := hq i c hc
    obtain ⟨va', vc', eve, hv⟩ := HSR2.out.keep hkr
    simp only [Value.slice.injEq] at eve
    obtain ⟨rfl, _, rfl⟩ := eve
    obtain ⟨g, rfl, hgc⟩ := hv i u hu
    have hut : TO true u := HT.out.1.parts.2 u (by rw [HX.out.2.2]; exact List.mem_of_getElem? hu)
    have hul : u.text.length ≤ 20000 := by
     have h1 := kid_len HT.out.1 (u := u) (by rw [HX.out.2.2]; exact List.mem_of_getElem? hu)
     have := HT.out.2
     omega
    have hkD : Keeps [] w wr.drew := (hkT.trans hkr).drewN 1
    have HKX : Hid (Keeps [] wr wr.drew) := (Keeps.refl [] wr).drewN 1
    have hcall := IH c (HNK.out c (List.mem_of_getElem? hc)) wr.drew bp p u (HI.out.1.keep0 hkD) (HI.out.2.keep hkD (by simp)) hut hul
    clear hlt hltK' hc hu hq hv hut hul
    go_upto_region 38 with (fail)
    have hS0 : wr.drew.cell? ⟨q, i, none⟩ = some (.int .i64 c) ∧ wr.drew.cell? ⟨g, i, none⟩ = some (.string (nmB u.text)) := ⟨hqc, hgc⟩
    refine wp_region_held (S := fun X => X.cell? ⟨q, i, none⟩ = some (.int .i64 c) ∧ X.cell? ⟨g, i, none⟩ = some (.string (nmB u.text))) (by kernel_rfl) ?_
    change wpAnyH _ _ _ _ _ _ _ _ (World.drew _)
    generalize wr.drew = X0 at *
    refine wpAnyH_tk 0 _ (some 142) (.pointer (some ⟨bp, 0, none⟩)) rfl rfl (by kernel_rfl) (by kernel_rfl) (by kernel_rfl) (fun _ _ _ h => h) (Or.inl ⟨by rfl, fun X hX => by (obtain ⟨q1, q2⟩ := hX; go_simp)⟩) hS0 ?_
    simp only [Act.put, List.setIfInBounds_toArray, List.set_cons_zero, List.set_cons_succ]
    refine wpAnyH_tk 1 _ (some 143) (.slice (some ⟨q, 0, none⟩) nd.kids.length kc) rfl rfl (by kernel_rfl) (by kernel_rfl) (by kernel_rfl) (fun _ _ _ h => h) (Or.inl ⟨by rfl, fun X hX => by (obtain ⟨q1, q2⟩ := hX; go_simp)⟩) hS0 ?_
    simp only [Act.put, List.setIfInBounds_toArray, List.set_cons_zero, List.set_cons_succ]
    refine wpAnyH_tk 2 _ (some 144) (.int .i64 i) rfl rfl (by kernel_rfl) (by kernel_rfl) (by kernel_rfl) (fun _ _ _ h => h) (Or.inl ⟨by rfl, fun X hX => by (obtain ⟨q1, q2⟩ := hX; go_simp)⟩) hS0 ?_
    simp only [Act.put, List.setIfInBounds_toArray, List.set_cons_zero, List.set_cons_succ]
    refine wpAnyH_tk 3 _ (some 145) (.pointer (some ⟨q, i, none⟩)) rfl rfl (by kernel_rfl) (by kernel_rfl) (by kernel_rfl) (fun _ _ _ h => h) (Or.inl ⟨by rfl, fun X hX => by (obtain ⟨q1, q2⟩ := hX; go_simp)⟩) hS0 ?_
    simp only [Act.put, List.setIfInBounds_toArray, List.set_cons_zero, List.set_cons_succ]
    refine wpAnyH_tk 4 _ (some 146) (.int .i64 c) rfl rfl (by kernel_rfl) (by kernel_rfl) (by kernel_rfl) (fun _ _ _ h => h) (Or.inl ⟨by rfl, fun X hX => by (obtain ⟨q1, q2⟩ := hX; go_simp)⟩) hS0 ?_
    simp only [Act.put, List.setIfInBounds_toArray, List.set_cons_zero, List.set_cons_succ]
    refine wpAnyH_tk 5 _ (some 147) (.slice (some ⟨g, 0, none⟩) KL.length vc) rfl rfl (by kernel_rfl) (by kernel_rfl) (by kernel_rfl) (fun _ _ _ h => h) (Or.inl ⟨by rfl, fun X hX => by (obtain ⟨q1, q2⟩ := hX; go_simp)⟩) hS0 ?_
    simp only [Act.put, List.setIfInBounds_toArray, List.set_cons_zero, List.set_cons_succ]
    refine wpAnyH_tk 6 _ (some 148) (.int .i64 i) rfl rfl (by kernel_rfl) (by kernel_rfl) (by kernel_rfl) (fun _ _ _ h => h) (Or.inl ⟨by rfl, fun X hX => by (obtain ⟨q1, q2⟩ := hX; go_simp)⟩) hS0 ?_
    simp only [Act.put, List.setIfInBounds_toArray, List.set_cons_zero, List.set_cons_succ]
    refine wpAnyH_tk 7 _ (some 149) (.pointer (some ⟨g, i, none⟩)) rfl rfl (by kernel_rfl) (by kernel_rfl) (by kernel_rfl) (fun _ _ _ h => h) (Or.inl ⟨by rfl, fun X hX => by (obtain ⟨q1, q2⟩ := hX; go_simp)⟩) hS0 ?_
    simp only [Act.put, List.setIfInBounds_toArray, List.set_cons_zero, List.set_cons_succ]
    refine wpAnyH_tk 8 _ (some 150) (.string (nmB u.text)) rfl rfl (by kernel_rfl) (by kernel_rfl) (by kernel_rfl) (fun _ _ _ h => h) (Or.inl ⟨by rfl, fun X hX => by (obtain ⟨q1, q2⟩ := hX; go_simp)⟩) hS0 ?_
    simp only [Act.put, List.setIfInBounds_toArray, List.set_cons_zero, List.set_cons_succ]
    refine wpAnyH_ready (rs := [9]) (by kernel_rfl) (by simp) ?_
    refine AllReadyH.cons rfl (fun K hK => ?_) AllReadyH.nil
    go_simp
    refine hcall.mono ?_
    rintro e w2 ⟨r, rfl, hr, hk2⟩
    have hS1 : w2.cell? ⟨q, i, none⟩ = some (.int .i64 c) ∧ w2.cell? ⟨g, i, none⟩ = some (.string (nmB u.text)) := ⟨hk2.cell hS0.1, hk2.cell hS0.2⟩
    refine hK.out _ _ hS1 (fun _ => ?_)
    clear hK K
    refine wpAnyH_tk 10 _ (some 15) (.bool r) rfl rfl (by kernel_rfl) (by kernel_rfl) (by kernel_rfl) (fun _ _ _ h => h) (Or.inl ⟨by rfl, fun X hX => by go_simp⟩) hS1 ?_
    simp only [Act.put, List.setIfInBounds_toArray, List.set_cons_zero, List.set_cons_succ]
    refine wpAnyH_done (by kernel_rfl) ?_ _
    have HR : Hid (r = true ↔ FN nds c u) := hr
    have hkE := hkD.trans hk2
    clear hr hS0 hS1 hqc hgc
    cases r with
    | false =>
     go_wp2_with fail
     go_ret
     exact ⟨false, rfl, ⟨(nomatch ·), fun h => by have := HR.out.2 ((HFN.out.1 h) i c u HC.out.1 HC.out.2); cases this⟩, hkE⟩
    | true =>
     have hip : (i : Int) ≤ 20000 := by omega
     go_wp2_with fail
     exact ⟨⟨i + 1, (by first | exact congrArg (Value.int .i64) (by omega) | omega), by have := hltL; omega, fun j c' u' hj hc' hu' => by
       rcases Nat.lt_or_ge j i with h | h
       · exact HA.out j c' u' h hc' hu'
       · obtain rfl : j = i := by omega
         cases HC.out.1.symm.trans hc'
         cases HC.out.2.symm.trans hu'
         exact HR.out.1 (by first | rfl | trivial), hkr.trans (HKX.out.trans hk2)⟩, by simp [intOf]; omega⟩
   ·have hltL : ¬ (i : Int) < (nd.kids.length : Int) := by omega
    have HE : Hid (i = nd.kids.length) := by have := HLE.out; show i = nd.kids.length; omega
    have hkE := hkT.trans hkr
    clear hlt
    go_wp2_with fail
    go_ret
    exact ⟨true, rfl, ⟨fun _ => HFN.out.2 fun j c u hc hu => HA.out j c u (by rw [HE.out]; exact (List.getElem?_eq_some_iff.1 hc).1) hc hu, fun _ => rfl⟩, hkE⟩
 ·have hq : ((nmB H).toList == (nmB (40 :: 103 :: DT)).toList) = false := by rw [eqL]; simpa using hh
  have HF : Hid (¬ FN nds k t) := by
   intro h
   rw [FN.grp_iff HK.out.1 HK.out.2 HKC.out] at h
   obtain ⟨u, e, _⟩ := h
   apply hh
   rw [← HX.out.2.1, e, ← HDT.out]
   rfl
  clear hh
  go_wp2_with (first | (go_at_call 111; refine (hdig w1).mono ?_; rintro e w2 ⟨rfl, hw2⟩; have hw2' := hw2.symm; clear hw2; subst hw2'))
  go_ret
  exact ⟨false, rfl, ⟨(nomatch ·), fun h => absurd h HF.out⟩, hk1w⟩
end Go.Proofs.YtnfojonmohijpaaGreatDoor
namespace Go.Proofs.YtnfojonmohijpaaGreatDoor
open Go.RowKit
set_option maxRecDepth 100000 in
set_option maxHeartbeats 4000000 in
theorem fits_way (nds : List Nd) (hn : nds.length ≤ 1000) (n : Nat) (IH : FitOk nds n) (k : Nat) (nd : Nd) (hk : nds[k]? = some nd) (hkind : nd.kind = 119) (hkl : nd.kids.length ≤ 1000) (HNK : Hid (∀ c, c ∈ nd.kids → NK nds n c))
    (w : World) (bp : Nat) (p : PS) (t : Tr) (hpb : PB w bp p) (hni : NInv w bp [] p.nodes nds) (ht : TO true t) (hl : t.text.length ≤ 20000) :
    Calls Tryz.prog 91 #[.pointer (some ⟨bp, 0, none⟩), .int .i64 k, .string (nmB t.text)] w (FitA nds k t w) := by
 obtain ⟨g', cap', hv, kv, hform, hkn, hH, hK, c0, c1, c2, c3, c4, c5⟩ := hni.node hk
 rw [hkind] at c0
 obtain ⟨n1, _⟩ := hpb.nodes
 rw [hform] at n1
 obtain ⟨ha, hn2, hc2, rfl⟩ := hH.1
 have HHV : Hid (HoldsV w (avoA bp [] p.nodes) (.slice ha hn2 hc2) nd) := hH
 have hkr := hK.kr
 obtain ⟨ka, kc, rfl, _⟩ := hK.form
 have HKR : Hid (KR w (.slice ka nd.kids.length kc) nd.kids) := hkr
 have hk0' : (0 : Int) ≤ (k : Int) := by omega
 have hk1' : (k : Int) < (nds.length : Int) := by omega
 have hk2' : (nds.length : Int) ≤ 1000 := by omega
 have hkl' : (nd.kids.length : Int) ≤ 1000 := by omega
 have HI : Hid (PB w bp p ∧ NInv w bp [] p.nodes nds) := ⟨hpb, hni⟩
 have HT : Hid (TO true t ∧ t.text.length ≤ 20000) := ⟨ht, hl⟩
 have HK : Hid (nds[k]? = some nd ∧ nd.kind = 119) := ⟨hk, hkind⟩
 have hWk := (Keeps.refl [] w).alloc (.cells #[.int .u8 119, .slice ha hn2 hc2, .int .i64 nd.n, .int .i64 nd.mn, .int .i64 nd.mx, .slice ka nd.kids.length kc] 157)
 have hnew := heap_alloc_new w (.cells #[.int .u8 119, .slice ha hn2 hc2, .int .i64 nd.n, .int .i64 nd.mn, .int .i64 nd.mx, .slice ka nd.kids.length kc] 157)
 obtain ⟨x, hx⟩ : ∃ x, t.text = x := ⟨_, rfl⟩
 obtain ⟨H, hH0⟩ : ∃ H, headT t = H := ⟨_, rfl⟩
 obtain ⟨KL, hKL⟩ : ∃ L, kidL t = L := ⟨_, rfl⟩
 have hkids := kids_any t ht hl
 rw [hx] at hkids ⊢
 rw [hH0, hKL] at hkids
 have hKn := kid_count ht
 rw [hKL] at hKn
 have hKn' : (KL.length : Int) ≤ 20000 := by omega
 have HX : Hid (t.text = x ∧ headT t = H ∧ kidL t = KL) := ⟨hx, hH0, hKL⟩
 clear hpb hni hk hform hH hK hkn hkind hn hkl ht hl hkr hx hH0 hKL hKn
 go_enter Tryz.func91, Tryz.ntmps91
 go_upto_region 2 with (fail)
 clear c0 c1 c2 c3 c4 c5 n1
 generalize w.alloc (.cells #[.int .u8 119, .slice ha hn2 hc2, .int .i64 nd.n, .int .i64 nd.mn, .int .i64 nd.mx, .slice ka nd.kids.length kc] 157) = W at *
 obtain ⟨gn, hgn⟩ : ∃ gn, gn = w.heap.size := ⟨_, rfl⟩
 rw [← hgn] at hnew ⊢
 clear hgn
 go_upto_region 3 with (first | (go_at_call 145; refine (hkids W).mono ?_; rintro e w1 ⟨v, rfl, hrow, hk1⟩))
 have HSR : Hid (SR w1 v KL) := hrow.sr
 have hSR := hrow.sr
 obtain ⟨va, vc, rfl, _⟩ := hSR
 have hk1w := hWk.trans hk1
 have hB : w1.heap[gn]? = some (.cells #[.int .u8 119, .slice ha hn2 hc2, .int .i64 nd.n, .int .i64 nd.mn, .int .i64 nd.mx, .slice ka nd.kids.length kc] 157 (0, 0)) := (hk1.block gn (Array.getElem?_eq_some_iff.1 hnew).1 (by simp)).trans hnew
 have HKR1 : Hid (KR w1 (.slice ka nd.kids.length kc) nd.kids) := HKR.out.keep hk1w
 obtain ⟨e0, e1, e2, e3, e4, e5⟩ := cells6 hB
 have HB1 : Hid (w1.heap[gn]? = some (.cells #[.int .u8 119, .slice ha hn2 hc2, .int .i64 nd.n, .int .i64 nd.mn, .int .i64 nd.mx, .slice ka nd.kids.length kc] 157 (0, 0))) := hB
 clear hrow hnew hWk hk1 hB hkids
 go_upto_region 5 with (fail)
 by_cases h0 : nd.kids = []
 ·have hkz : ((nd.kids.length : Int) == 0) = true := by rw [h0]; rfl
  have HZ : Hid (FN nds k t ↔ x = [101]) := by
   show FN nds k t ↔ x = [101]
   rw [FN.way_iff HK.out.1 HK.out.2, ← HX.out.1]
   constructor
   ·rintro (⟨_, rfl⟩ | ⟨h, _⟩)
    ·rfl
    ·exact absurd h0 h
   ·intro h
    refine Or.inl ⟨h0, ?_⟩
    have ht := HT.out.1
    cases ht with
    | tnil => rfl
    | _ => simp [Tr.text] at h
  clear h0
  by_cases hx1 : x = [101]
  ·have hq : ((nmB x).toList == [101]) = true := by rw [eqLit]; simpa using hx1
   have HF : Hid (FN nds k t) := HZ.out.2 hx1
   clear hx1
   go_wp2_with fail
   go_ret
   exact ⟨true, rfl, ⟨fun _ => HF.out, fun _ => rfl⟩, hk1w⟩
  ·have hq : ((nmB x).toList == [101]) = false := by rw [eqLit]; simpa using hx1
   have HF : Hid (¬ FN nds k t) := fun h => hx1 (HZ.out.1 h)
   clear hx1
   go_wp2_with fail
   go_ret
   exact ⟨false, rfl, ⟨(nomatch ·), fun h => absurd h HF.out⟩, hk1w⟩
 ·have hkz : ((nd.kids.length : Int) == 0) = false := by
     have : nd.kids.length ≠ 0 := fun h => h0 (List.length_eq_zero_iff.1 h)
     simp; omega
  have hkz' : ¬ nd.kids = [] := h0
  have HF0 : Hid (FN nds k t ↔ ∃ l, t = .tser l ∧ (tl l).length = nd.kids.length ∧ ∀ (i c : Nat) (u : Tr), nd.kids[i]? = some c → (tl l)[i]? = some u → FN nds c u) := by
   show FN nds k t ↔ _
   rw [FN.way_iff HK.out.1 HK.out.2]
   constructor
   ·rintro (⟨h, _⟩ | ⟨_, h⟩)
    ·exact absurd h h0
    ·exact h
   ·intro h
    exact Or.inr ⟨h0, h⟩
  clear h0
  by_cases hh : H = [40, 115]
  ·have hq : ((nmB H).toList == [40, 115]) = true := by rw [eqLit]; simpa using hh
   obtain ⟨l0, hl0⟩ := head_ser HT.out.1 (HX.out.2.1.trans hh)
   have hKL : KL = tl l0 := by rw [← HX.out.2.2, hl0]; rfl
   by_cases hlen : nd.kids.length = KL.length
   ·have hlq : ((KL.length : Int) == (nd.kids.length : Int)) = true := by simp; omega
    have HFN : Hid (FN nds k t ↔ ∀ (j c : Nat) (u : Tr), nd.kids[j]? = some c → KL[j]? = some u → FN nds c u) := by
     show FN nds k t ↔ _
     rw [HF0.out, hl0, hKL]
     constructor
     ·rintro ⟨l, e, _, h⟩
      cases e
      exact h
     ·intro h
      exact ⟨l0, rfl, by rw [← hKL]; exact hlen.symm, h⟩
    have HLK : Hid (nd.kids.length = KL.length) := hlen
    clear hh hl0 hKL hlen
    go_upto_region 36 with (fail)
    clear e0 e1 e2 e3 e4 e5
    have HLR := HKR1
    have HSR2 := HSR
    have hkT := hk1w
    go_loopw [14, 15] (fun q14 _ wr => ∃ i : Nat, q14 = .int .i64 i ∧ i ≤ nd.kids.length ∧ (∀ (j c : Nat) (u : Tr), j < i → nd.kids[j]? = some c → KL[j]? = some u → FN nds c u) ∧ Keeps [] w1 wr) (fun q _ _ => nd.kids.length - (intOf q).toNat)
    case atStart => exact ⟨0, rfl, Nat.zero_le _, fun j c u h => absurd h (Nat.not_lt_zero _), Keeps.refl _ _⟩
    case round =>
     obtain ⟨i, rfl, hi, hall, hkr⟩ := hrel
     have hi0 : (0 : Int) ≤ (i : Int) := by omega
     have HA : Hid (∀ (j c : Nat) (u : Tr), j < i → nd.kids[j]? = some c → KL[j]? = some u → FN nds c u) := hall
     have HLE : Hid (i ≤ nd.kids.length) := hi
     clear hall hi
     by_cases hlt : i < nd.kids.length
     ·have hltL : (i : Int) < (nd.kids.length : Int) := by omega
      have hltK : (i : Int) < (KL.length : Int) := by have := HLK.out; omega
      have hltK' : i < KL.length := by have := HLK.out; omega
      obtain ⟨c, hc⟩ : ∃ c, nd.kids[i]? = some c := ⟨_, List.getElem?_eq_getElem hlt⟩
      obtain ⟨u, hu⟩ : ∃ u, KL[i]? = some u := ⟨_, List.getElem?_eq_getElem hltK'⟩
      have HC : Hid (nd.kids[i]? = some c ∧ KL[i]? = some u) := ⟨hc, hu⟩
      obtain ⟨la', lc', ele, hq⟩ := HLR.out.keep hkr
      simp only [Value.slice.injEq] at ele
      obtain ⟨rfl, _, rfl⟩ := ele
      obtain ⟨q, rfl, hqc⟩ := hq i c hc
      obtain ⟨va', vc', eve, hv⟩ := HSR2.out.keep hkr
      simp only [Value.slice.injEq] at eve
      obtain ⟨rfl, _, rfl⟩ := eve
      obtain ⟨g, rfl, hgc⟩ := hv i u hu
      have hut : TO true u := HT.out.1.parts.2 u (by rw [HX.out.2.2]; exact List.mem_of_getElem? hu)
      have hul : u.text.length ≤ 20000 := by
       have h1 := kid_len HT.out.1 (u := u) (by rw [HX.out.2.2]; exact List.mem_of_getElem? hu)
       have := HT.out.2
       omega
      have hkD : Keeps [] w wr.drew := (hkT.trans hkr).drewN 1
      have HKX : Hid (Keeps [] wr wr.drew) := (Keeps.refl [] wr).drewN 1
      have hcall := IH c (HNK.out c (List.mem_of_getElem? hc)) wr.drew bp p u (HI.out.1.keep0 hkD) (HI.out.2.keep hkD (by simp)) hut hul
      clear hlt hltK' hc hu hq hv hut hul
      go_upto_region 38 with (fail)
      have hS0 : wr.drew.cell? ⟨q, i, none⟩ = some (.int .i64 c) ∧ wr.drew.cell? ⟨g, i, none⟩ = some (.string (nmB u.text)) := ⟨hqc, hgc⟩
      refine wp_region_held (S := fun X => X.cell? ⟨q, i, none⟩ = some (.int .i64 c) ∧ X.cell? ⟨g, i, none⟩ = some (.string (nmB u.text))) (by kernel_rfl) ?_
      change wpAnyH _ _ _ _ _ _ _ _ (World.drew _)
      generalize wr.drew = X0 at *
      refine wpAnyH_tk 0 _ (some 142) (.pointer (some ⟨bp, 0, none⟩)) rfl rfl (by kernel_rfl) (by kernel_rfl) (by kernel_rfl) (fun _ _ _ h => h) (Or.inl ⟨by rfl, fun X hX => by (obtain ⟨q1, q2⟩ := hX; go_simp)⟩) hS0 ?_
      simp only [Act.put, List.setIfInBounds_toArray, List.set_cons_zero, List.set_cons_succ]
      refine wpAnyH_tk 1 _ (some 143) (.slice (some ⟨q, 0, none⟩) nd.kids.length kc) rfl rfl (by kernel_rfl) (by kernel_rfl) (by kernel_rfl) (fun _ _ _ h => h) (Or.inl ⟨by rfl, fun X hX => by (obtain ⟨q1, q2⟩ := hX; go_simp)⟩) hS0 ?_
      simp only [Act.put, List.setIfInBounds_toArray, List.set_cons_zero, List.set_cons_succ]
      refine wpAnyH_tk 2 _ (some 144) (.int .i64 i) rfl rfl (by kernel_rfl) (by kernel_rfl) (by kernel_rfl) (fun _ _ _ h => h) (Or.inl ⟨by rfl, fun X hX => by (obtain ⟨q1, q2⟩ := hX; go_simp)⟩) hS0 ?_
      simp only [Act.put, List.setIfInBounds_toArray, List.set_cons_zero, List.set_cons_succ]
      refine wpAnyH_tk 3 _ (some 145) (.pointer (some ⟨q, i, none⟩)) rfl rfl (by kernel_rfl) (by kernel_rfl) (by kernel_rfl) (fun _ _ _ h => h) (Or.inl ⟨by rfl, fun X hX => by (obtain ⟨q1, q2⟩ := hX; go_simp)⟩) hS0 ?_
      simp only [Act.put, List.setIfInBounds_toArray, List.set_cons_zero, List.set_cons_succ]
      refine wpAnyH_tk 4 _ (some 146) (.int .i64 c) rfl rfl (by kernel_rfl) (by kernel_rfl) (by kernel_rfl) (fun _ _ _ h => h) (Or.inl ⟨by rfl, fun X hX => by (obtain ⟨q1, q2⟩ := hX; go_simp)⟩) hS0 ?_
      simp only [Act.put, List.setIfInBounds_toArray, List.set_cons_zero, List.set_cons_succ]
      refine wpAnyH_tk 5 _ (some 147) (.slice (some ⟨g, 0, none⟩) KL.length vc) rfl rfl (by kernel_rfl) (by kernel_rfl) (by kernel_rfl) (fun _ _ _ h => h) (Or.inl ⟨by rfl, fun X hX => by (obtain ⟨q1, q2⟩ := hX; go_simp)⟩) hS0 ?_
      simp only [Act.put, List.setIfInBounds_toArray, List.set_cons_zero, List.set_cons_succ]
      refine wpAnyH_tk 6 _ (some 148) (.int .i64 i) rfl rfl (by kernel_rfl) (by kernel_rfl) (by kernel_rfl) (fun _ _ _ h => h) (Or.inl ⟨by rfl, fun X hX => by (obtain ⟨q1, q2⟩ := hX; go_simp)⟩) hS0 ?_
      simp only [Act.put, List.setIfInBounds_toArray, List.set_cons_zero, List.set_cons_succ]
      refine wpAnyH_tk 7 _ (some 149) (.pointer (some ⟨g, i, none⟩)) rfl rfl (by kernel_rfl) (by kernel_rfl) (by kernel_rfl) (fun _ _ _ h => h) (Or.inl ⟨by rfl, fun X hX => by (obtain ⟨q1, q2⟩ := hX; go_simp)⟩) hS0 ?_
      simp only [Act.put, List.setIfInBounds_toArray, List.set_cons_zero, List.set_cons_succ]
      refine wpAnyH_tk 8 _ (some 150) (.string (nmB u.text)) rfl rfl (by kernel_rfl) (by kernel_rfl) (by kernel_rfl) (fun _ _ _ h => h) (Or.inl ⟨by rfl, fun X hX => by (obtain ⟨q1, q2⟩ := hX; go_simp)⟩) hS0 ?_
      simp only [Act.put, List.setIfInBounds_toArray, List.set_cons_zero, List.set_cons_succ]
      refine wpAnyH_ready (rs := [9]) (by kernel_rfl) (by simp) ?_
      refine AllReadyH.cons rfl (fun K hK => ?_) AllReadyH.nil
      go_simp
      refine hcall.mono ?_
      rintro e w2 ⟨r, rfl, hr, hk2⟩
      have hS1 : w2.cell? ⟨q, i, none⟩ = some (.int .i64 c) ∧ w2.cell? ⟨g, i, none⟩ = some (.string (nmB u.text)) := ⟨hk2.cell hS0.1, hk2.cell hS0.2⟩
      refine hK.out _ _ hS1 (fun _ => ?_)
      clear hK K
      refine wpAnyH_tk 10 _ (some 15) (.bool r) rfl rfl (by kernel_rfl) (by kernel_rfl) (by kernel_rfl) (fun _ _ _ h => h) (Or.inl ⟨by rfl, fun X hX => by go_simp⟩) hS1 ?_
      simp only [Act.put, List.setIfInBounds_toArray, List.set_cons_zero, List.set_cons_succ]
      refine wpAnyH_done (by kernel_rfl) ?_ _
      have HR : Hid (r = true ↔ FN nds c u) := hr
      have hkE := hkD.trans hk2
      clear hr hS0 hS1 hqc hgc
      cases r with
      | false =>
       go_wp2_with fail
       go_ret
       exact ⟨false, rfl, ⟨(nomatch ·), fun h => by have := HR.out.2 ((HFN.out.1 h) i c u HC.out.1 HC.out.2); cases this⟩, hkE⟩
      | true =>
       have hip : (i : Int) ≤ 20000 := by omega
       go_wp2_with fail
       exact ⟨⟨i + 1, (by first | exact congrArg (Value.int .i64) (by omega) | omega), by have := hltL; omega, fun j c' u' hj hc' hu' => by
         rcases Nat.lt_or_ge j i with h | h
         · exact HA.out j c' u' h hc' hu'
         · obtain rfl : j = i := by omega
           cases HC.out.1.symm.trans hc'
           cases HC.out.2.symm.trans hu'
           exact HR.out.1 (by first | rfl | trivial), hkr.trans (HKX.out.trans hk2)⟩, by simp [intOf]; omega⟩
     ·have hltL : ¬ (i : Int) < (nd.kids.length : Int) := by omega
      have HE : Hid (i = nd.kids.length) := by have := HLE.out; show i = nd.kids.length; omega
      have hkE := hkT.trans hkr
      clear hlt
      go_wp2_with fail
      go_ret
      exact ⟨true, rfl, ⟨fun _ => HFN.out.2 fun j c u hc hu => HA.out j c u (by rw [HE.out]; exact (List.getElem?_eq_some_iff.1 hc).1) hc hu, fun _ => rfl⟩, hkE⟩
   ·have hlq : ((KL.length : Int) == (nd.kids.length : Int)) = false := by simp; omega
    have HF : Hid (¬ FN nds k t) := by
     intro h
     obtain ⟨l, e, h2, _⟩ := HF0.out.1 h
     rw [hl0] at e
     cases e
     rw [← hKL] at h2
     exact hlen h2.symm
    clear hh hl0 hKL hlen
    go_wp2_with fail
    go_ret
    exact ⟨false, rfl, ⟨(nomatch ·), fun h => absurd h HF.out⟩, hk1w⟩
  ·have hq : ((nmB H).toList == [40, 115]) = false := by rw [eqLit]; simpa using hh
   have HF : Hid (¬ FN nds k t) := by
    intro h
    obtain ⟨l, e, h2, _⟩ := HF0.out.1 h
    apply hh
    rw [← HX.out.2.1, e]
    rfl
   clear hh
   go_wp2_with fail
   go_ret
   exact ⟨false, rfl, ⟨(nomatch ·), fun h => absurd h HF.out⟩, hk1w⟩
end Go.Proofs.YtnfojonmohijpaaGreatDoor
