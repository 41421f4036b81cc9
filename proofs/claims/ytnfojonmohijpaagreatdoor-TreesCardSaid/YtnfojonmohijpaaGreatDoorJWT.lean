/-
  DERIVED. The reference's 'fits' at a repeat. Conditions: the pattern lies in memory as it was read (PB, NInv); the tree's text is at most 20000 bytes long.
-/
import Derived.Test.YtnfojonmohijpaaGreatDoorJWQ
import Derived.Test.YtnfojonmohijpaaGreatDoorJMC
set_option linter.unusedSimpArgs false
set_option linter.unusedVariables false
namespace Go.Proofs.YtnfojonmohijpaaGreatDoor
open Go.RowKit
theorem infoInt1W : (Tryz.prog.info? 3).map (fun i => (i.zero, i.size, i.bytes)) = some (some (.int .i64 0), 1, 8) := by kernel_rfl
set_option maxRecDepth 100000 in
set_option maxHeartbeats 4000000 in
theorem fits_rep (nds : List Nd) (hn : nds.length ≤ 1000) (n : Nat) (IH : FitOk nds n) (k : Nat) (nd : Nd) (hk : nds[k]? = some nd) (hkind : nd.kind = 114) (hkl : nd.kids.length ≤ 1000) (c : Nat) (HKC : Hid (nd.kids = [c])) (HNC : Hid (NK nds n c))
    (w : World) (bp : Nat) (p : PS) (t : Tr) (hpb : PB w bp p) (hni : NInv w bp [] p.nodes nds) (ht : TO true t) (hl : t.text.length ≤ 20000) :
    Calls Tryz.prog 91 #[.pointer (some ⟨bp, 0, none⟩), .int .i64 k, .string (nmB t.text)] w (FitA nds k t w) := by
 obtain ⟨g', cap', hv, kv, hform, hkn, hH, hK, c0, c1, c2, c3, c4, c5⟩ := hni.node hk
 rw [hkind] at c0
 obtain ⟨n1, _⟩ := hpb.nodes
 rw [hform] at n1
 obtain ⟨ha, hn2, hc2, rfl⟩ := hH.1
 have HHV : Hid (HoldsV w (avoA bp [] p.nodes) (.slice ha hn2 hc2) nd) := hH
 have hkr := hK.kr
 obtain ⟨ka, kc, rfl, _⟩ := hK.form
 have HKR : Hid (KR w (.slice ka nd.kids.length kc) nd.kids) := hkr
 have hk0' : (0 : Int) ≤ (k : Int) := by omega
 have hk1' : (k : Int) < (nds.length : Int) := by omega
 have hk2' : (nds.length : Int) ≤ 1000 := by omega
 have hkl' : (nd.kids.length : Int) ≤ 1000 := by omega
 have HI : Hid (PB w bp p ∧ NInv w bp [] p.nodes nds) := ⟨hpb, hni⟩
 have HT : Hid (TO true t ∧ t.text.length ≤ 20000) := ⟨ht, hl⟩
 have HK : Hid (nds[k]? = some nd ∧ nd.kind = 114) := ⟨hk, hkind⟩
 have hWk := (Keeps.refl [] w).alloc (.cells #[.int .u8 114, .slice ha hn2 hc2, .int .i64 nd.n, .int .i64 nd.mn, .int .i64 nd.mx, .slice ka nd.kids.length kc] 157)
 have hnew := heap_alloc_new w (.cells #[.int .u8 114, .slice ha hn2 hc2, .int .i64 nd.n, .int .i64 nd.mn, .int .i64 nd.mx, .slice ka nd.kids.length kc] 157)
 obtain ⟨x, hx⟩ : ∃ x, t.text = x := ⟨_, rfl⟩
 obtain ⟨H, hH0⟩ : ∃ H, headT t = H := ⟨_, rfl⟩
 obtain ⟨KL, hKL⟩ : ∃ L, kidL t = L := ⟨_, rfl⟩
 have hkids := kids_any t ht hl
 rw [hx] at hkids ⊢
 rw [hH0, hKL] at hkids
 have hKn := kid_count ht
 rw [hKL] at hKn
 have hKn' : (KL.length : Int) ≤ 20000 := by omega
 have HX : Hid (t.text = x ∧ headT t = H ∧ kidL t = KL) := ⟨hx, hH0, hKL⟩
 clear hpb hni hk hform hH hK hkn hkind hn hkl ht hl hkr hx hH0 hKL hKn
 go_enter Tryz.func91, Tryz.ntmps91
 go_upto_region 2 with (fail)
 clear c0 c1 c2 c3 c4 c5 n1
 generalize w.alloc (.cells #[.int .u8 114, .slice ha hn2 hc2, .int .i64 nd.n, .int .i64 nd.mn, .int .i64 nd.mx, .slice ka nd.kids.length kc] 157) = W at *
 obtain ⟨gn, hgn⟩ : ∃ gn, gn = w.heap.size := ⟨_, rfl⟩
 rw [← hgn] at hnew ⊢
 clear hgn
 go_upto_region 3 with (first | (go_at_call 145; refine (hkids W).mono ?_; rintro e w1 ⟨v, rfl, hrow, hk1⟩))
 have HSR : Hid (SR w1 v KL) := hrow.sr
 have hSR := hrow.sr
 obtain ⟨va, vc, rfl, _⟩ := hSR
 have hk1w := hWk.trans hk1
 have hB : w1.heap[gn]? = some (.cells #[.int .u8 114, .slice ha hn2 hc2, .int .i64 nd.n, .int .i64 nd.mn, .int .i64 nd.mx, .slice ka nd.kids.length kc] 157 (0, 0)) := (hk1.block gn (Array.getElem?_eq_some_iff.1 hnew).1 (by simp)).trans hnew
 have HKR1 : Hid (KR w1 (.slice ka nd.kids.length kc) nd.kids) := HKR.out.keep hk1w
 obtain ⟨e0, e1, e2, e3, e4, e5⟩ := cells6 hB
 have HB1 : Hid (w1.heap[gn]? = some (.cells #[.int .u8 114, .slice ha hn2 hc2, .int .i64 nd.n, .int .i64 nd.mn, .int .i64 nd.mx, .slice ka nd.kids.length kc] 157 (0, 0))) := hB
 clear hrow hnew hWk hk1 hB hkids
 go_upto_region 5 with (fail)
 have hC := HKC.out
 have hkl1 : ((nd.kids.length : Nat) : Int) = 1 := by rw [hC]; rfl
 have hkp : (0 : Int) < (nd.kids.length : Int) := by omega
 have hkp' : 0 < nd.kids.length := by omega
 obtain ⟨ka', kc', eka, hkcell⟩ := HKR1.out
 simp only [Value.slice.injEq] at eka
 obtain ⟨rfl, _, rfl⟩ := eka
 obtain ⟨kq, rfl, hkq0⟩ := hkcell 0 c (by rw [hC]; rfl)
 clear hkcell hkl1 hC
 by_cases hh : H = [40, 114]
 rotate_left
 ·have hq : ((nmB H).toList == [40, 114]) = false := by rw [eqLit]; simpa using hh
  have HF : Hid (¬ FN nds k t) := by
   intro h
   rw [FN.rep_iff HK.out.1 HK.out.2 HKC.out] at h
   obtain ⟨l, e, _⟩ := h
   apply hh
   rw [← HX.out.2.1, e]
   rfl
  clear hh
  go_wp2_with fail
  go_ret
  exact ⟨false, rfl, ⟨(nomatch ·), fun h => absurd h HF.out⟩, hk1w⟩
 have hq : ((nmB H).toList == [40, 114]) = true := by rw [eqLit]; simpa using hh
 obtain ⟨l0, hl0⟩ := head_rep HT.out.1 (HX.out.2.1.trans hh)
 have hKL : KL = tl l0 := by rw [← HX.out.2.2, hl0]; rfl
 have HF0 : Hid (FN nds k t ↔ nd.mn ≤ KL.length ∧ (nd.mx < 0 ∨ (KL.length : Int) ≤ nd.mx) ∧ ∀ u, u ∈ KL → FN nds c u) := by
  show FN nds k t ↔ _
  rw [FN.rep_iff HK.out.1 HK.out.2 HKC.out, hl0, hKL]
  constructor
  ·rintro ⟨l, e, h⟩
   cases e
   exact h
  ·intro h
   exact ⟨l0, rfl, h⟩
 clear hh hl0 hKL
 obtain ⟨mx, hmx⟩ : ∃ m, nd.mx = m := ⟨_, rfl⟩
 rw [hmx] at e4 HF0
 have HMX : Hid (nd.mx = mx) := hmx
 obtain ⟨mn, hmn⟩ : ∃ m, nd.mn = m := ⟨_, rfl⟩
 rw [hmn] at e3 HF0
 have HMN : Hid (nd.mn = mn) := hmn
 clear hmx hmn
 by_cases hlo : KL.length < mn
 ·have hlo' : (KL.length : Int) < (mn : Int) := by omega
  have HF : Hid (¬ FN nds k t) := fun h => by have := (HF0.out.1 h).1; omega
  clear hlo
  go_wp2_with fail
  go_ret
  exact ⟨false, rfl, ⟨(nomatch ·), fun h => absurd h HF.out⟩, hk1w⟩
 have hlo' : ¬ (KL.length : Int) < (mn : Int) := by omega
 by_cases hhi : 0 ≤ mx ∧ mx < (KL.length : Int)
 ·obtain ⟨h1, h2⟩ := hhi
  have HF : Hid (¬ FN nds k t) := fun h => by have := (HF0.out.1 h).2.1; omega
  clear hlo
  go_wp2_with fail
  go_ret
  exact ⟨false, rfl, ⟨(nomatch ·), fun h => absurd h HF.out⟩, hk1w⟩
 have HM : Hid (mn ≤ KL.length ∧ (mx < 0 ∨ (KL.length : Int) ≤ mx)) := ⟨by omega, by omega⟩
 have hcs : (decide (0 ≤ mx) = false) ∨ (0 ≤ mx ∧ decide (mx < (KL.length : Int)) = false) := by
  by_cases h : 0 ≤ mx
  ·exact Or.inr ⟨h, by simp; omega⟩
  ·exact Or.inl (by simpa using h)
 clear hlo hhi
 obtain ⟨i0, hin0, hz0, hz1, hz2⟩ := info_parts infoInt1W
 have hun := Tryz.underlying32
 rcases hcs with r1 | ⟨r1, r2⟩
 all_goals
  go_upto_region 32 with (fail)
  try clear r1
  try clear r2
  clear e0 e1 e2 e3 e4 e5
  go_loopw [10, 13] (fun q10 q13 wq => ∃ m : Nat, m ≤ KL.length ∧ q13 = .int .i64 m ∧ wq.ownsRow w1.heap.size 3 1 q10 m ((List.replicate m c).map fun (k : Nat) => Value.int .i64 (k : Int)) ∧ Keeps [] w1 wq) (fun _ q _ => KL.length - (intOf q).toNat)
  case atStart => exact ⟨0, Nat.zero_le _, rfl, World.ownsRow_nil _ _ _ _, Keeps.refl _ _⟩
  case round =>
   obtain ⟨m, hm, rfl, hrow, hkq⟩ := hrel
   have hm0 : (0 : Int) ≤ (m : Int) := by omega
   have HMM : Hid (m ≤ KL.length) := hm
   by_cases hlt : m < KL.length
   ·have hltI : (m : Int) < (KL.length : Int) := by omega
    have HBr := (hkq.block gn (Array.getElem?_eq_some_iff.1 HB1.out).1 (by simp)).trans HB1.out
    obtain ⟨_, _, _, _, _, f5⟩ := cells6 HBr
    have hkc2 := hkq.cell hkq0
    have hlm : m + 1 ≤ maxLen := by unfold maxLen; omega
    obtain ⟨ya, yn, yc, rfl⟩ := ownsRow_slN hrow
    have hmz : m ≤ 20000 := by omega
    have hsz := hkq.size
    have HRW : Hid (wr.ownsRow w1.heap.size 3 1 (.slice ya yn yc) m ((List.replicate m c).map fun (k : Nat) => Value.int .i64 (k : Int))) := hrow
    clear hlt hm hrow HBr
    go_wp2_with (first | (at_builtin; refine wpList_append_lies _ rfl _ _ _ rfl w1.heap.size 3 i0 (.int .i64 0) 1 8 hun hin0 hz0 hz1 hz2 rfl (by decide) (.slice ya yn yc) m _ rfl (World.ownsRow.alloc HRW.out _) ⟨wr.heap.size, 0, none⟩ 1 1 [.int .i64 (c : Int)] rfl rfl (cell_one_new _ _ _) (by simp [Value.oneCell']) (by omega) hlm (by omega) (by simp; omega) (wr.heap.size + 1) (by simp) ?_; intro g cap w4 hown hgrow hat hlt4))
    have hk4 : Keeps [] w1 w4 := by
     have h1 : Keeps [] w1 (wr.alloc (.cells #[.int .i64 (c : Int)] 3)) := hkq.alloc _
     refine h1.fresh (Keeps.ofGrown hgrow) ?_
     intro z hz
     rw [Option.mem_toList] at hz
     exact Or.inr (World.ownsRow.lt HRW.out z hz).1
    have hrow4 : w4.ownsRow w1.heap.size 3 1 (.slice (some ⟨g, 0, none⟩) (m + 1) cap) (m + 1) ((List.replicate (m + 1) c).map fun (k : Nat) => Value.int .i64 (k : Int)) := by
     rw [List.replicate_succ', List.map_append]
     exact hown
    clear hown hgrow hat
    go_wp2_with fail
    go_roundw
    case rel => exact ⟨m + 1, by omega, (by first | exact congrArg (Value.int .i64) (by omega) | omega), hrow4, hk4⟩
    case measure => simp [intOf]; omega
   ·have hltI : ¬ (m : Int) < (KL.length : Int) := by omega
    obtain ⟨L, hL⟩ : ∃ L, List.replicate m c = L := ⟨_, rfl⟩
    have hmL : m = L.length := by rw [← hL]; simp
    have hmK : m = KL.length := by have := HMM.out; omega
    have HLL : Hid (L = List.replicate KL.length c) := by show L = _; rw [← hL, hmK]
    rw [hL] at hrow
    have hrow' : wr.ownsRow w1.heap.size 3 1 u10 L.length (L.map fun (k : Nat) => Value.int .i64 (k : Int)) := by rw [← hmL]; exact hrow
    have HLR : Hid (KR wr u10 L) := rowI_kr hrow'
    have hKR0 := rowI_kr hrow'
    obtain ⟨la, lc, rfl, _⟩ := hKR0
    have HLK : Hid (L.length = KL.length) := by show L.length = _; rw [← hmL]; exact hmK
    have HNK : Hid (∀ c', c' ∈ L → NK nds n c') := by
     intro c' hc'
     rw [HLL.out] at hc'
     rw [(List.mem_replicate.1 hc').2]
     exact HNC.out
    have HFN : Hid (FN nds k t ↔ ∀ (j c : Nat) (u : Tr), L[j]? = some c → KL[j]? = some u → FN nds c u) := by
     show FN nds k t ↔ _
     rw [HF0.out]
     constructor
     ·rintro ⟨_, _, h⟩ j c' u hj hu
      have hc' := List.mem_of_getElem? hj
      rw [HLL.out] at hc'
      rw [(List.mem_replicate.1 hc').2]
      exact h u (List.mem_of_getElem? hu)
     ·intro h
      refine ⟨HM.out.1, HM.out.2, fun u hu => ?_⟩
      obtain ⟨j, hj⟩ := List.getElem?_of_mem hu
      refine h j c u ?_ hj
      rw [HLL.out, List.getElem?_replicate, if_pos (List.getElem?_eq_some_iff.1 hj).1]
    have HSR2 : Hid (SR wr (.slice va KL.length vc) KL) := HSR.out.keep hkq
    have hkT := hk1w.trans hkq
    clear hL hmL hmK hrow hrow' hm hlt
    obtain ⟨wT, hwT⟩ : ∃ X, X = wr := ⟨_, rfl⟩
    subst hwT
    go_upto_region 36 with (fail)
    go_loopw [14, 15] (fun q14 _ wr => ∃ i : Nat, q14 = .int .i64 i ∧ i ≤ L.length ∧ (∀ (j c : Nat) (u : Tr), j < i → L[j]? = some c → KL[j]? = some u → FN nds c u) ∧ Keeps [] wT wr) (fun q _ _ => L.length - (intOf q).toNat)
    case atStart => exact ⟨0, rfl, Nat.zero_le _, fun j c u h => absurd h (Nat.not_lt_zero _), Keeps.refl _ _⟩
    case round =>
     obtain ⟨i, rfl, hi, hall, hkr⟩ := hrel
     have hi0 : (0 : Int) ≤ (i : Int) := by omega
     have HA : Hid (∀ (j c : Nat) (u : Tr), j < i → L[j]? = some c → KL[j]? = some u → FN nds c u) := hall
     have HLE : Hid (i ≤ L.length) := hi
     clear hall hi
     by_cases hlt : i < L.length
     ·have hltL : (i : Int) < (L.length : Int) := by omega
      have hltK : (i : Int) < (KL.length : Int) := by have := HLK.out; omega
      have hltK' : i < KL.length := by have := HLK.out; omega
      obtain ⟨c, hc⟩ : ∃ c, L[i]? = some c := ⟨_, List.getElem?_eq_getElem hlt⟩
      obtain ⟨u, hu⟩ : ∃ u, KL[i]? = some u := ⟨_, List.getElem?_eq_getElem hltK'⟩
      have HC : Hid (L[i]? = some c ∧ KL[i]? = some u) := ⟨hc, hu⟩
      obtain ⟨la', lc', ele, hq⟩ := HLR.out.keep hkr
      simp only [Value.slice.injEq] at ele
      obtain ⟨rfl, _, rfl⟩ := ele
      obtain ⟨q, rfl, hqc⟩ := hq i c hc
      obtain ⟨va', vc', eve, hv⟩ := HSR2.out.keep hkr
      simp only [Value.slice.injEq] at eve
      obtain ⟨rfl, _, rfl⟩ := eve
      obtain ⟨g, rfl, hgc⟩ := hv i u hu
      have hut : TO true u := HT.out.1.parts.2 u (by rw [HX.out.2.2]; exact List.mem_of_getElem? hu)
      have hul : u.text.length ≤ 20000 := by
       have h1 := kid_len HT.out.1 (u := u) (by rw [HX.out.2.2]; exact List.mem_of_getElem? hu)
       have := HT.out.2
       omega
      have hkD : Keeps [] w wr.drew := (hkT.trans hkr).drewN 1
      have HKX : Hid (Keeps [] wr wr.drew) := (Keeps.refl [] wr).drewN 1
      have hcall := IH c (HNK.out c (List.mem_of_getElem? hc)) wr.drew bp p u (HI.out.1.keep0 hkD) (HI.out.2.keep hkD (by simp)) hut hul
      clear hlt hltK' hc hu hq hv hut hul
      go_upto_region 38 with (fail)
      have hS0 : wr.drew.cell? ⟨q, i, none⟩ = some (.int .i64 c) ∧ wr.drew.cell? ⟨g, i, none⟩ = some (.string (nmB u.text)) := ⟨hqc, hgc⟩
      refine wp_region_held (S := fun X => X.cell? ⟨q, i, none⟩ = some (.int .i64 c) ∧ X.cell? ⟨g, i, none⟩ = some (.string (nmB u.text))) (by kernel_rfl) ?_
      change wpAnyH _ _ _ _ _ _ _ _ (World.drew _)
      generalize wr.drew = X0 at *
      refine wpAnyH_tk 0 _ (some 142) (.pointer (some ⟨bp, 0, none⟩)) rfl rfl (by kernel_rfl) (by kernel_rfl) (by kernel_rfl) (fun _ _ _ h => h) (Or.inl ⟨by rfl, fun X hX => by (obtain ⟨q1, q2⟩ := hX; go_simp)⟩) hS0 ?_
      simp only [Act.put, List.setIfInBounds_toArray, List.set_cons_zero, List.set_cons_succ]
      refine wpAnyH_tk 1 _ (some 143) (.slice (some ⟨q, 0, none⟩) L.length lc) rfl rfl (by kernel_rfl) (by kernel_rfl) (by kernel_rfl) (fun _ _ _ h => h) (Or.inl ⟨by rfl, fun X hX => by (obtain ⟨q1, q2⟩ := hX; go_simp)⟩) hS0 ?_
      simp only [Act.put, List.setIfInBounds_toArray, List.set_cons_zero, List.set_cons_succ]
      refine wpAnyH_tk 2 _ (some 144) (.int .i64 i) rfl rfl (by kernel_rfl) (by kernel_rfl) (by kernel_rfl) (fun _ _ _ h => h) (Or.inl ⟨by rfl, fun X hX => by (obtain ⟨q1, q2⟩ := hX; go_simp)⟩) hS0 ?_
      simp only [Act.put, List.setIfInBounds_toArray, List.set_cons_zero, List.set_cons_succ]
      refine wpAnyH_tk 3 _ (some 145) (.pointer (some ⟨q, i, none⟩)) rfl rfl (by kernel_rfl) (by kernel_rfl) (by kernel_rfl) (fun _ _ _ h => h) (Or.inl ⟨by rfl, fun X hX => by (obtain ⟨q1, q2⟩ := hX; go_simp)⟩) hS0 ?_
      simp only [Act.put, List.setIfInBounds_toArray, List.set_cons_zero, List.set_cons_succ]
      refine wpAnyH_tk 4 _ (some 146) (.int .i64 c) rfl rfl (by kernel_rfl) (by kernel_rfl) (by kernel_rfl) (fun _ _ _ h => h) (Or.inl ⟨by rfl, fun X hX => by (obtain ⟨q1, q2⟩ := hX; go_simp)⟩) hS0 ?_
      simp only [Act.put, List.setIfInBounds_toArray, List.set_cons_zero, List.set_cons_succ]
      refine wpAnyH_tk 5 _ (some 147) (.slice (some ⟨g, 0, none⟩) KL.length vc) rfl rfl (by kernel_rfl) (by kernel_rfl) (by kernel_rfl) (fun _ _ _ h => h) (Or.inl ⟨by rfl, fun X hX => by (obtain ⟨q1, q2⟩ := hX; go_simp)⟩) hS0 ?_
      simp only [Act.put, List.setIfInBounds_toArray, List.set_cons_zero, List.set_cons_succ]
      refine wpAnyH_tk 6 _ (some 148) (.int .i64 i) rfl rfl (by kernel_rfl) (by kernel_rfl) (by kernel_rfl) (fun _ _ _ h => h) (Or.inl ⟨by rfl, fun X hX => by (obtain ⟨q1, q2⟩ := hX; go_simp)⟩) hS0 ?_
      simp only [Act.put, List.setIfInBounds_toArray, List.set_cons_zero, List.set_cons_succ]
      refine wpAnyH_tk 7 _ (some 149) (.pointer (some ⟨g, i, none⟩)) rfl rfl (by kernel_rfl) (by kernel_rfl) (by kernel_rfl) (fun _ _ _ h => h) (Or.inl ⟨by rfl, fun X hX => by (obtain ⟨q1, q2⟩ := hX; go_simp)⟩) hS0 ?_
      simp only [Act.put, List.setIfInBounds_toArray, List.set_cons_zero, List.set_cons_succ]
      refine wpAnyH_tk 8 _ (some 150) (.string (nmB u.text)) rfl rfl (by kernel_rfl) (by kernel_rfl) (by kernel_rfl) (fun _ _ _ h => h) (Or.inl ⟨by rfl, fun X hX => by (obtain ⟨q1, q2⟩ := hX; go_simp)⟩) hS0 ?_
      simp only [Act.put, List.setIfInBounds_toArray, List.set_cons_zero, List.set_cons_succ]
      refine wpAnyH_ready (rs := [9]) (by kernel_rfl) (by simp) ?_
      refine AllReadyH.cons rfl (fun K hK => ?_) AllReadyH.nil
      go_simp
      refine hcall.mono ?_
      rintro e w2 ⟨r, rfl, hr, hk2⟩
      have hS1 : w2.cell? ⟨q, i, none⟩ = some (.int .i64 c) ∧ w2.cell? ⟨g, i, none⟩ = some (.string (nmB u.text)) := ⟨hk2.cell hS0.1, hk2.cell hS0.2⟩
      refine hK.out _ _ hS1 (fun _ => ?_)
      clear hK K
      refine wpAnyH_tk 10 _ (some 15) (.bool r) rfl rfl (by kernel_rfl) (by kernel_rfl) (by kernel_rfl) (fun _ _ _ h => h) (Or.inl ⟨by rfl, fun X hX => by go_simp⟩) hS1 ?_
      simp only [Act.put, List.setIfInBounds_toArray, List.set_cons_zero, List.set_cons_succ]
      refine wpAnyH_done (by kernel_rfl) ?_ _
      have HR : Hid (r = true ↔ FN nds c u) := hr
      have hkE := hkD.trans hk2
      clear hr hS0 hS1 hqc hgc
      cases r with
      | false =>
       go_wp2_with fail
       go_ret
       exact ⟨false, rfl, ⟨(nomatch ·), fun h => by have := HR.out.2 ((HFN.out.1 h) i c u HC.out.1 HC.out.2); cases this⟩, hkE⟩
      | true =>
       have hip : (i : Int) ≤ 20000 := by omega
       go_wp2_with fail
       exact ⟨⟨i + 1, (by first | exact congrArg (Value.int .i64) (by omega) | omega), by have := hltL; omega, fun j c' u' hj hc' hu' => by
         rcases Nat.lt_or_ge j i with h | h
         · exact HA.out j c' u' h hc' hu'
         · obtain rfl : j = i := by omega
           cases HC.out.1.symm.trans hc'
           cases HC.out.2.symm.trans hu'
           exact HR.out.1 (by first | rfl | trivial), hkr.trans (HKX.out.trans hk2)⟩, by simp [intOf]; omega⟩
     ·have hltL : ¬ (i : Int) < (L.length : Int) := by omega
      have HE : Hid (i = L.length) := by have := HLE.out; show i = L.length; omega
      have hkE := hkT.trans hkr
      clear hlt
      go_wp2_with fail
      go_ret
      exact ⟨true, rfl, ⟨fun _ => HFN.out.2 fun j c u hc hu => HA.out j c u (by rw [HE.out]; exact (List.getElem?_eq_some_iff.1 hc).1) hc hu, fun _ => rfl⟩, hkE⟩
end Go.Proofs.YtnfojonmohijpaaGreatDoor
namespace Go.Proofs.YtnfojonmohijpaaGreatDoor
open Go.RowKit
set_option maxRecDepth 100000 in
set_option maxHeartbeats 4000000 in
theorem fits_alt (nds : List Nd) (hn : nds.length ≤ 1000) (n : Nat) (IH : FitOk nds n) (k : Nat) (nd : Nd) (hk : nds[k]? = some nd) (hkind : nd.kind = 111) (hkl : nd.kids.length ≤ 1000) (HNK : Hid (∀ c, c ∈ nd.kids → NK nds n c)) (h99 : Hid (nd.kids.length ≤ 99))
    (w : World) (bp : Nat) (p : PS) (t : Tr) (hpb : PB w bp p) (hni : NInv w bp [] p.nodes nds) (ht : TO true t) (hl : t.text.length ≤ 20000) :
    Calls Tryz.prog 91 #[.pointer (some ⟨bp, 0, none⟩), .int .i64 k, .string (nmB t.text)] w (FitA nds k t w) := by
 obtain ⟨g', cap', hv, kv, hform, hkn, hH, hK, c0, c1, c2, c3, c4, c5⟩ := hni.node hk
 rw [hkind] at c0
 obtain ⟨n1, _⟩ := hpb.nodes
 rw [hform] at n1
 obtain ⟨ha, hn2, hc2, rfl⟩ := hH.1
 have HHV : Hid (HoldsV w (avoA bp [] p.nodes) (.slice ha hn2 hc2) nd) := hH
 have hkr := hK.kr
 obtain ⟨ka, kc, rfl, _⟩ := hK.form
 have HKR : Hid (KR w (.slice ka nd.kids.length kc) nd.kids) := hkr
 have hk0' : (0 : Int) ≤ (k : Int) := by omega
 have hk1' : (k : Int) < (nds.length : Int) := by omega
 have hk2' : (nds.length : Int) ≤ 1000 := by omega
 have hkl' : (nd.kids.length : Int) ≤ 1000 := by omega
 have HI : Hid (PB w bp p ∧ NInv w bp [] p.nodes nds) := ⟨hpb, hni⟩
 have HT : Hid (TO true t ∧ t.text.length ≤ 20000) := ⟨ht, hl⟩
 have HK : Hid (nds[k]? = some nd ∧ nd.kind = 111) := ⟨hk, hkind⟩
 have hWk := (Keeps.refl [] w).alloc (.cells #[.int .u8 111, .slice ha hn2 hc2, .int .i64 nd.n, .int .i64 nd.mn, .int .i64 nd.mx, .slice ka nd.kids.length kc] 157)
 have hnew := heap_alloc_new w (.cells #[.int .u8 111, .slice ha hn2 hc2, .int .i64 nd.n, .int .i64 nd.mn, .int .i64 nd.mx, .slice ka nd.kids.length kc] 157)
 obtain ⟨x, hx⟩ : ∃ x, t.text = x := ⟨_, rfl⟩
 obtain ⟨H, hH0⟩ : ∃ H, headT t = H := ⟨_, rfl⟩
 obtain ⟨KL, hKL⟩ : ∃ L, kidL t = L := ⟨_, rfl⟩
 have hkids := kids_any t ht hl
 rw [hx] at hkids ⊢
 rw [hH0, hKL] at hkids
 have hKn := kid_count ht
 rw [hKL] at hKn
 have hKn' : (KL.length : Int) ≤ 20000 := by omega
 have HX : Hid (t.text = x ∧ headT t = H ∧ kidL t = KL) := ⟨hx, hH0, hKL⟩
 clear hpb hni hk hform hH hK hkn hkind hn hkl ht hl hkr hx hH0 hKL hKn
 go_enter Tryz.func91, Tryz.ntmps91
 go_upto_region 2 with (fail)
 clear c0 c1 c2 c3 c4 c5 n1
 generalize w.alloc (.cells #[.int .u8 111, .slice ha hn2 hc2, .int .i64 nd.n, .int .i64 nd.mn, .int .i64 nd.mx, .slice ka nd.kids.length kc] 157) = W at *
 obtain ⟨gn, hgn⟩ : ∃ gn, gn = w.heap.size := ⟨_, rfl⟩
 rw [← hgn] at hnew ⊢
 clear hgn
 go_upto_region 3 with (first | (go_at_call 145; refine (hkids W).mono ?_; rintro e w1 ⟨v, rfl, hrow, hk1⟩))
 have HSR : Hid (SR w1 v KL) := hrow.sr
 have hSR := hrow.sr
 obtain ⟨va, vc, rfl, _⟩ := hSR
 have hk1w := hWk.trans hk1
 have hB : w1.heap[gn]? = some (.cells #[.int .u8 111, .slice ha hn2 hc2, .int .i64 nd.n, .int .i64 nd.mn, .int .i64 nd.mx, .slice ka nd.kids.length kc] 157 (0, 0)) := (hk1.block gn (Array.getElem?_eq_some_iff.1 hnew).1 (by simp)).trans hnew
 have HKR1 : Hid (KR w1 (.slice ka nd.kids.length kc) nd.kids) := HKR.out.keep hk1w
 obtain ⟨e0, e1, e2, e3, e4, e5⟩ := cells6 hB
 have HB1 : Hid (w1.heap[gn]? = some (.cells #[.int .u8 111, .slice ha hn2 hc2, .int .i64 nd.n, .int .i64 nd.mn, .int .i64 nd.mx, .slice ka nd.kids.length kc] 157 (0, 0))) := hB
 clear hrow hnew hWk hk1 hB hkids
 go_upto_region 5 with (fail)
 clear e0 e1 e2 e3 e4
 go_upto_region 17 with (fail)
 clear e5
 go_loopw [12] (fun q12 wr => ∃ i : Nat, q12 = .int .i64 i ∧ i ≤ nd.kids.length ∧ (∀ b, b < i → ¬ H = [40, 97] ++ decT b) ∧ wr = w1) (fun q _ => nd.kids.length - (intOf q).toNat)
 case atStart => exact ⟨0, rfl, Nat.zero_le _, fun b h => absurd h (Nat.not_lt_zero _), rfl⟩
 case round =>
  obtain ⟨i, rfl, hi, hall, hww⟩ := hrel
  have hww' := hww.symm
  clear hww
  subst hww'
  have hi0 : (0 : Int) ≤ (i : Int) := by omega
  have HA : Hid (∀ b, b < i → ¬ H = [40, 97] ++ decT b) := hall
  clear hall
  obtain ⟨_, _, _, _, _, f5⟩ := cells6 HB1.out
  by_cases hlt : i < nd.kids.length
  ·have hltI : (i : Int) < (nd.kids.length : Int) := by omega
   have hi99 : i ≤ 99 := by have := h99.out; omega
   obtain ⟨DT, hDT⟩ : ∃ d, decT i = d := ⟨_, rfl⟩
   have hcat := cat40a DT
   have hdig := digits_any i hi99 w1
   have hsz : (nmB DT).size ≤ 2 := by rw [nmB_size, ← hDT]; unfold decT; split <;> simp [digT]
   have hsz' : ¬ 9223372036854775807 < 2 + (nmB DT).size := by omega
   rw [hDT] at hdig
   have HDT : Hid (decT i = DT) := hDT
   have HLT : Hid (i < nd.kids.length ∧ i ≤ 99) := ⟨hlt, hi99⟩
   clear hDT hsz
   by_cases hh : H = [40, 97] ++ DT
   ·have hq : ((nmB H).toList == (nmB (40 :: 97 :: DT)).toList) = true := by rw [eqL]; simpa using hh
    obtain ⟨u0, hu0⟩ := head_alt (n := i) HT.out.1 hi99 (HX.out.2.1.trans (hh.trans (by rw [HDT.out])))
    have hKL : KL = [u0] := by rw [← HX.out.2.2, hu0]; rfl
    obtain ⟨c, hc⟩ : ∃ c, nd.kids[i]? = some c := ⟨_, List.getElem?_eq_getElem hlt⟩
    have HF : Hid (FN nds k t ↔ FN nds c u0) := by
     show FN nds k t ↔ _
     rw [FN.alt_iff HK.out.1 HK.out.2, hu0]
     constructor
     ·rintro ⟨p', c', u', e, h1, h2⟩
      cases e
      cases hc.symm.trans h1
      exact h2
     ·intro h
      exact ⟨i, c, u0, rfl, hc, h⟩
    obtain ⟨la', lc', ele, hkc⟩ := HKR1.out
    simp only [Value.slice.injEq] at ele
    obtain ⟨rfl, _, rfl⟩ := ele
    obtain ⟨q, rfl, hqc⟩ := hkc i c hc
    obtain ⟨va', vc', eve, hv⟩ := HSR.out
    simp only [Value.slice.injEq] at eve
    obtain ⟨rfl, _, rfl⟩ := eve
    obtain ⟨g, rfl, hgc⟩ := hv 0 u0 (by rw [hKL]; rfl)
    have hK0 : (0 : Int) < (KL.length : Int) := by rw [hKL]; simp
    have hK0' : 0 < KL.length := by rw [hKL]; simp
    have hut : TO true u0 := HT.out.1.parts.2 u0 (by rw [HX.out.2.2, hKL]; simp)
    have hul : u0.text.length ≤ 20000 := by
     have h1 := kid_len HT.out.1 (u := u0) (by rw [HX.out.2.2, hKL]; simp)
     have := HT.out.2
     omega
    have hkD : Keeps [] w w1.drew := hk1w.drewN 1
    have hcall := IH c (HNK.out c (List.mem_of_getElem? hc)) w1.drew bp p u0 (HI.out.1.keep0 hkD) (HI.out.2.keep hkD (by simp)) hut hul
    have hS0 : (fun X => X.heap[gn]? = some (.cells #[.int .u8 111, .slice ha hn2 hc2, .int .i64 nd.n, .int .i64 nd.mn, .int .i64 nd.mx, .slice (some ⟨q, 0, none⟩) nd.kids.length kc] 157 (0, 0)) ∧ X.cell? ⟨q, i, none⟩ = some (.int .i64 c) ∧ X.cell? ⟨g, 0, none⟩ = some (.string (nmB u0.text))) w1.drew := ⟨HB1.out, hqc, hgc⟩
    clear hh hu0 hKL hc hlt hi hi99 hkc hv hut hul
    go_upto_region 20 with (first | (go_at_call 111; refine hdig.mono ?_; rintro e w2 ⟨rfl, hw2⟩; have hw2' := hw2.symm; clear hw2; subst hw2'))
    refine wp_region_held (S := fun X => X.heap[gn]? = some (.cells #[.int .u8 111, .slice ha hn2 hc2, .int .i64 nd.n, .int .i64 nd.mn, .int .i64 nd.mx, .slice (some ⟨q, 0, none⟩) nd.kids.length kc] 157 (0, 0)) ∧ X.cell? ⟨q, i, none⟩ = some (.int .i64 c) ∧ X.cell? ⟨g, 0, none⟩ = some (.string (nmB u0.text))) (by kernel_rfl) ?_
    change wpAnyH _ _ _ _ _ _ _ _ (World.drew _)
    generalize w1.drew = X0 at *
    refine wpAnyH_tk 0 _ (some 72) (.pointer (some ⟨bp, 0, none⟩)) rfl rfl (by kernel_rfl) (by kernel_rfl) (by kernel_rfl) (fun _ _ _ h => h) (Or.inl ⟨by rfl, fun X hX => by (obtain ⟨⟨q0, q1, q2, q3, q4, q5⟩, r1, r2⟩ : (_ ∧ _ ∧ _ ∧ _ ∧ _ ∧ _) ∧ _ ∧ _ := ⟨cells6 hX.1, hX.2.1, hX.2.2⟩; go_simp)⟩) hS0 ?_
    simp only [Act.put, List.setIfInBounds_toArray, List.set_cons_zero, List.set_cons_succ]
    refine wpAnyH_tk 1 _ (some 73) (.pointer (some ⟨gn, 5, none⟩)) rfl rfl (by kernel_rfl) (by kernel_rfl) (by kernel_rfl) (fun _ _ _ h => h) (Or.inl ⟨by rfl, fun X hX => by (obtain ⟨⟨q0, q1, q2, q3, q4, q5⟩, r1, r2⟩ : (_ ∧ _ ∧ _ ∧ _ ∧ _ ∧ _) ∧ _ ∧ _ := ⟨cells6 hX.1, hX.2.1, hX.2.2⟩; go_simp)⟩) hS0 ?_
    simp only [Act.put, List.setIfInBounds_toArray, List.set_cons_zero, List.set_cons_succ]
    refine wpAnyH_tk 2 _ (some 74) (.slice (some ⟨q, 0, none⟩) nd.kids.length kc) rfl rfl (by kernel_rfl) (by kernel_rfl) (by kernel_rfl) (fun _ _ _ h => h) (Or.inl ⟨by rfl, fun X hX => by (obtain ⟨⟨q0, q1, q2, q3, q4, q5⟩, r1, r2⟩ : (_ ∧ _ ∧ _ ∧ _ ∧ _ ∧ _) ∧ _ ∧ _ := ⟨cells6 hX.1, hX.2.1, hX.2.2⟩; go_simp)⟩) hS0 ?_
    simp only [Act.put, List.setIfInBounds_toArray, List.set_cons_zero, List.set_cons_succ]
    refine wpAnyH_tk 3 _ (some 75) (.int .i64 i) rfl rfl (by kernel_rfl) (by kernel_rfl) (by kernel_rfl) (fun _ _ _ h => h) (Or.inl ⟨by rfl, fun X hX => by (obtain ⟨⟨q0, q1, q2, q3, q4, q5⟩, r1, r2⟩ : (_ ∧ _ ∧ _ ∧ _ ∧ _ ∧ _) ∧ _ ∧ _ := ⟨cells6 hX.1, hX.2.1, hX.2.2⟩; go_simp)⟩) hS0 ?_
    simp only [Act.put, List.setIfInBounds_toArray, List.set_cons_zero, List.set_cons_succ]
    refine wpAnyH_tk 4 _ (some 76) (.pointer (some ⟨q, i, none⟩)) rfl rfl (by kernel_rfl) (by kernel_rfl) (by kernel_rfl) (fun _ _ _ h => h) (Or.inl ⟨by rfl, fun X hX => by (obtain ⟨⟨q0, q1, q2, q3, q4, q5⟩, r1, r2⟩ : (_ ∧ _ ∧ _ ∧ _ ∧ _ ∧ _) ∧ _ ∧ _ := ⟨cells6 hX.1, hX.2.1, hX.2.2⟩; go_simp)⟩) hS0 ?_
    simp only [Act.put, List.setIfInBounds_toArray, List.set_cons_zero, List.set_cons_succ]
    refine wpAnyH_tk 5 _ (some 77) (.int .i64 c) rfl rfl (by kernel_rfl) (by kernel_rfl) (by kernel_rfl) (fun _ _ _ h => h) (Or.inl ⟨by rfl, fun X hX => by (obtain ⟨⟨q0, q1, q2, q3, q4, q5⟩, r1, r2⟩ : (_ ∧ _ ∧ _ ∧ _ ∧ _ ∧ _) ∧ _ ∧ _ := ⟨cells6 hX.1, hX.2.1, hX.2.2⟩; go_simp)⟩) hS0 ?_
    simp only [Act.put, List.setIfInBounds_toArray, List.set_cons_zero, List.set_cons_succ]
    refine wpAnyH_tk 6 _ (some 78) (.slice (some ⟨g, 0, none⟩) KL.length vc) rfl rfl (by kernel_rfl) (by kernel_rfl) (by kernel_rfl) (fun _ _ _ h => h) (Or.inl ⟨by rfl, fun X hX => by (obtain ⟨⟨q0, q1, q2, q3, q4, q5⟩, r1, r2⟩ : (_ ∧ _ ∧ _ ∧ _ ∧ _ ∧ _) ∧ _ ∧ _ := ⟨cells6 hX.1, hX.2.1, hX.2.2⟩; go_simp)⟩) hS0 ?_
    simp only [Act.put, List.setIfInBounds_toArray, List.set_cons_zero, List.set_cons_succ]
    refine wpAnyH_tk 7 _ (some 79) (.pointer (some ⟨g, 0, none⟩)) rfl rfl (by kernel_rfl) (by kernel_rfl) (by kernel_rfl) (fun _ _ _ h => h) (Or.inl ⟨by rfl, fun X hX => by (obtain ⟨⟨q0, q1, q2, q3, q4, q5⟩, r1, r2⟩ : (_ ∧ _ ∧ _ ∧ _ ∧ _ ∧ _) ∧ _ ∧ _ := ⟨cells6 hX.1, hX.2.1, hX.2.2⟩; go_simp)⟩) hS0 ?_
    simp only [Act.put, List.setIfInBounds_toArray, List.set_cons_zero, List.set_cons_succ]
    refine wpAnyH_tk 8 _ (some 80) (.string (nmB u0.text)) rfl rfl (by kernel_rfl) (by kernel_rfl) (by kernel_rfl) (fun _ _ _ h => h) (Or.inl ⟨by rfl, fun X hX => by (obtain ⟨⟨q0, q1, q2, q3, q4, q5⟩, r1, r2⟩ : (_ ∧ _ ∧ _ ∧ _ ∧ _ ∧ _) ∧ _ ∧ _ := ⟨cells6 hX.1, hX.2.1, hX.2.2⟩; go_simp)⟩) hS0 ?_
    simp only [Act.put, List.setIfInBounds_toArray, List.set_cons_zero, List.set_cons_succ]
    refine wpAnyH_ready (rs := [9]) (by kernel_rfl) (by simp) ?_
    refine AllReadyH.cons rfl (fun K hK => ?_) AllReadyH.nil
    go_simp
    refine hcall.mono ?_
    rintro e w2 ⟨r, rfl, hr, hk2⟩
    have hS1 : (fun X => X.heap[gn]? = some (.cells #[.int .u8 111, .slice ha hn2 hc2, .int .i64 nd.n, .int .i64 nd.mn, .int .i64 nd.mx, .slice (some ⟨q, 0, none⟩) nd.kids.length kc] 157 (0, 0)) ∧ X.cell? ⟨q, i, none⟩ = some (.int .i64 c) ∧ X.cell? ⟨g, 0, none⟩ = some (.string (nmB u0.text))) w2 := ⟨(hk2.block gn (Array.getElem?_eq_some_iff.1 hS0.1).1 (by simp)).trans hS0.1, hk2.cell hS0.2.1, hk2.cell hS0.2.2⟩
    refine hK.out _ _ hS1 (fun _ => ?_)
    clear hK K
    refine wpAnyH_tk 10 _ (some 6) (.bool r) rfl rfl (by kernel_rfl) (by kernel_rfl) (by kernel_rfl) (fun _ _ _ h => h) (Or.inl ⟨by rfl, fun X hX => by go_simp⟩) hS1 ?_
    simp only [Act.put, List.setIfInBounds_toArray, List.set_cons_zero, List.set_cons_succ]
    refine wpAnyH_done (by kernel_rfl) ?_ _
    go_wp2_with fail
    go_ret
    exact ⟨r, rfl, hr.trans HF.out.symm, hkD.trans hk2⟩
   ·have hq : ((nmB H).toList == (nmB (40 :: 97 :: DT)).toList) = false := by rw [eqL]; simpa using hh
    have HN1 : Hid (¬ H = [40, 97] ++ DT) := hh
    clear hh hlt hi hi99
    go_wp2_with (first | (go_at_call 111; refine hdig.mono ?_; rintro e w2 ⟨rfl, hw2⟩; have hw2' := hw2.symm; clear hw2; subst hw2'))
    exact ⟨⟨i + 1, (by first | exact congrArg (Value.int .i64) (by omega) | omega), by have := HLT.out; omega, fun b hb h => by
      rcases Nat.lt_or_ge b i with h1 | h1
      · exact HA.out b h1 h
      · obtain rfl : b = i := by omega
        rw [HDT.out] at h
        exact HN1.out h, (by first | rfl | trivial)⟩, by have := HLT.out; simp [intOf]; omega⟩
  ·have hltI : ¬ (i : Int) < (nd.kids.length : Int) := by omega
   have HF : Hid (¬ FN nds k t) := fun h => by
    rw [FN.alt_iff HK.out.1 HK.out.2] at h
    obtain ⟨p', c', u', e, h1, h2⟩ := h
    have h3 := (List.getElem?_eq_some_iff.1 h1).1
    refine HA.out p' (by omega) ?_
    rw [← HX.out.2.1, e]
    rfl
   clear hlt hi
   go_wp2_with fail
   go_ret
   exact ⟨false, rfl, ⟨(nomatch ·), fun h => absurd h HF.out⟩, hk1w⟩
end Go.Proofs.YtnfojonmohijpaaGreatDoor
