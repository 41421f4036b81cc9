/-
  DERIVED. The reference's 'row': a way's tree. Conditions: Ends and Tree do as claimed at its kids; what it has in memory lies as it should (TS).
-/
import Derived.Test.YtnfojonmohijpaaGreatDoorJMO
set_option linter.unusedSimpArgs false
set_option linter.unusedVariables false
namespace Go.Proofs.YtnfojonmohijpaaGreatDoor
open Go.RowKit
structure RI (w wr : World) (b bp : Nat) (s : ByteArray) (p : PS) (nds : List Nd) (D : List Nat) (E : Value) (ob : Nat) (sp : Value) (keep : Bool) (g : Nat) (kids : List Nat) (j : Nat) (full : List UInt8) (last : List Int) (m i : Nat) (acc : List UInt8) (l : List Int) (u : List UInt8) (fv : List (Nat × Nat × Nat)) : Prop where
 ts : TS wr b bp s p nds D E ob sp keep g acc l
 tn : TN s nds g (.kids (kids.drop m)) i j u fv
 mn : MN s nds (.row (kids.drop m)) i j
 txt : acc ++ u = full
 evl : evs l fv = last
 keep : Keeps (tsB ob sp D) w wr
theorem TN.kids_nil {s : ByteArray} {nds : List Nd} {g i j : Nat} {t : List UInt8} {ev : List (Nat × Nat × Nat)} (h : TN s nds g (.kids []) i j t ev) : t = [] ∧ ev = [] := by
 cases h
 exact ⟨rfl, rfl⟩
theorem TN.kids_cons {s : ByteArray} {nds : List Nd} {g i j c : Nat} {r : List Nat} {t : List UInt8} {ev : List (Nat × Nat × Nat)} (h : TN s nds g (.kids (c :: r)) i j t ev) :
    ∃ m t1 u ev1 fv, Cut (fun m => MN s nds (.node c) i m ∧ MN s nds (.row r) m j) i j m ∧ TN s nds g (.node c) i m t1 ev1 ∧ TN s nds g (.kids r) m j u fv ∧ t = [32] ++ t1 ++ u ∧ ev = ev1 ++ fv := by
 cases h with
 | kgo _ _ _ _ m t u ev fv h1 h2 h3 => exact ⟨m, t, u, ev, fv, h1, h2, h3, rfl, rfl⟩
set_option maxRecDepth 100000 in
set_option maxHeartbeats 1000000 in
theorem trow_nil (s : ByteArray) (nds : List Nd) (k0 n1 n2 n3 : Int) (hv : Value) (hv1 : hv.oneCell' = true) (ka : Option Addr) (kc : Nat) (w : World) (b bp : Nat) (p : PS) (D : List Nat) (E : Value) (ob : Nat) (sp : Value) (keep : Bool) (g : Nat) (acc : List UInt8) (l : List Int) (i j : Nat)
    (hS : TS w b bp s p nds D E ob sp keep g acc l) (hlen : acc.length + 1 ≤ 4611686018427387904) :
    Calls Tryz.prog 141 #[.pointer (some ⟨b, 0, none⟩), .agg #[.int .u8 k0, hv, .int .i64 n1, .int .i64 n2, .int .i64 n3, .slice ka 0 kc], .int .i64 i, .int .i64 j, .pointer (some ⟨ob, 0, none⟩)] w (TPo w b bp s p nds D E ob sp keep g acc l [101] []) := by
 have hWk := (Keeps.refl [] w).alloc (.cells #[.int .u8 k0, hv, .int .i64 n1, .int .i64 n2, .int .i64 n3, .slice ka 0 kc] 157)
 have hS1 := hS.new hWk
 clear hS
 go_enter Tryz.func141, Tryz.ntmps141
 go_wp2_with fail
 refine (tsay hS1 [101] hlen).mono ?_
 rintro e w2 ⟨rfl, hS2, hk2⟩
 have hkE : Keeps (tsB ob sp D) w w2 := (hWk.mono (by simp)).trans (hk2.mono fun x hx => tsB_o hx)
 clear hS1 hk2
 go_wp2_with fail
 go_end0
 exact ⟨rfl, hS2, hkE⟩
set_option maxRecDepth 100000 in
set_option maxHeartbeats 4000000 in
theorem trow_any (s : ByteArray) (N : Nat) (HN : Hid (N = s.size + 1)) (nds : List Nd) (n : Nat) (IHE : EndsOk s nds n) (IHT : TreeOk s nds n) (kids : List Nat) (hkids : ∀ c, c ∈ kids → NK nds n c) (hne : kids ≠ []) (hkl : kids.length ≤ 1000)
    (k0 n1 n2 n3 : Int) (hv : Value) (hv1 : hv.oneCell' = true) (ka : Option Addr) (kc : Nat) (hcap : kids.length ≤ kc) (w : World) (b bp : Nat) (p : PS) (D : List Nat) (E : Value) (ob : Nat) (sp : Value) (keep : Bool) (g : Nat) (acc : List UInt8) (l : List Int) (i j : Nat) (t : List UInt8) (ev : List (Nat × Nat × Nat))
    (hS : TS w b bp s p nds D E ob sp keep g acc l) (hkv : KV w (tsB ob sp D) (.slice ka kids.length kc) kids) (hT : TN s nds g (.kids kids) i j t ev) (hM : MN s nds (.row kids) i j) (hj : j ≤ s.size) (hg : g ≤ 9) (hlen : acc.length + t.length + 3 ≤ 4611686018427387904) :
    Calls Tryz.prog 141 #[.pointer (some ⟨b, 0, none⟩), .agg #[.int .u8 k0, hv, .int .i64 n1, .int .i64 n2, .int .i64 n3, .slice ka kids.length kc], .int .i64 i, .int .i64 j, .pointer (some ⟨ob, 0, none⟩)] w (TPo w b bp s p nds D E ob sp keep g acc l ([40, 115] ++ t ++ [41]) ev) := by
 have hs := hS.tx.small
 have hWk := (Keeps.refl [] w).alloc (.cells #[.int .u8 k0, hv, .int .i64 n1, .int .i64 n2, .int .i64 n3, .slice ka kids.length kc] 157)
 have hnew := heap_alloc_new w (.cells #[.int .u8 k0, hv, .int .i64 n1, .int .i64 n2, .int .i64 n3, .slice ka kids.length kc] 157)
 have hS1 := hS.new hWk
 have hkv1 := hkv.keep (hWk.mono (by simp))
 have hk0 : ((kids.length : Int) == 0) = false := by
  have : kids.length ≠ 0 := fun e => hne (List.length_eq_zero_iff.1 e)
  simpa using (by omega : ¬ (kids.length : Int) = 0)
 have hkl' : (kids.length : Int) ≤ 1000 := by omega
 have hgB : w.heap.size ∉ tsB ob sp D := by
  intro hm
  simp only [tsB, List.mem_cons, List.mem_append, Option.mem_toList] at hm
  rcases hm with h | h | h
  ·have := hS.ot.lt; omega
  ·have := (hS.row.lt _ h).2; omega
  ·have := hS.tx.dlt _ h; omega
 have HTN : Hid (TN s nds g (.kids kids) i j t ev ∧ MN s nds (.row kids) i j ∧ acc.length + t.length + 3 ≤ 4611686018427387904) := ⟨hT, hM, hlen⟩
 clear hS hkv hT hM hlen
 go_enter Tryz.func141, Tryz.ntmps141
 go_upto_region 1 with (fail)
 generalize (w.alloc (.cells #[.int .u8 k0, hv, .int .i64 n1, .int .i64 n2, .int .i64 n3, .slice ka kids.length kc] 157)) = W at *
 obtain ⟨gn, hgn⟩ : ∃ gn, gn = w.heap.size := ⟨_, rfl⟩
 rw [← hgn] at hnew hgB ⊢
 have HGN : Hid (gn = w.heap.size) := hgn
 clear hgn
 have e5 : W.cell? ⟨gn, 5, none⟩ = some (.slice ka kids.length kc) := by rw [Lib.cell_of_heap hnew]; rfl
 have HNW : Hid (W.heap[gn]? = some (.cells #[.int .u8 k0, hv, .int .i64 n1, .int .i64 n2, .int .i64 n3, .slice ka kids.length kc] 157 (0, 0))) := hnew
 clear hnew
 go_upto_region 3 with (fail)
 clear e5
 go_wp2_with fail
 refine (tsay hS1 [40, 115] (by have := HTN.out.2.2; simp only [List.length_cons, List.length_nil]; omega)).mono ?_
 rintro e w2 ⟨rfl, hS2, hk2⟩
 have hkA : Keeps (tsB ob sp D) W w2 := hk2.mono fun x hx => tsB_o hx
 have hkv2 := hkv1.keep hkA
 have hL0 : RI W w2 b bp s p nds D E ob sp keep g kids j (acc ++ [40, 115] ++ t) (evs l ev) 0 i (acc ++ [40, 115]) l t ev := ⟨hS2, by rw [List.drop_zero]; exact HTN.out.1, by rw [List.drop_zero]; exact HTN.out.2.1, rfl, rfl, hkA⟩
 clear hS1 hk2 hkA hS2 hkv2
 go_wp2_with fail
 go_loopw [2, 10] (fun q1 q2 wr => ∃ (m i' : Nat) (acc' : List UInt8) (l' : List Int) (u : List UInt8) (fv : List (Nat × Nat × Nat)), m ≤ kids.length ∧ q1 = .int .i64 i' ∧ q2 = .int .i64 m ∧ RI W wr b bp s p nds D E ob sp keep g kids j (acc ++ [40, 115] ++ t) (evs l ev) m i' acc' l' u fv) (fun _ q2 _ => kids.length - (intOf q2).toNat)
 case atStart => exact ⟨0, i, _, _, _, _, by omega, rfl, rfl, hL0⟩
 case round =>
  clear hL0
  obtain ⟨m, i', acc', l', u, fv, hm, rfl, rfl, L⟩ := hrel
  have hgW : gn < W.heap.size := (Array.getElem?_eq_some_iff.1 HNW.out).1
  have e5 : wr.cell? ⟨gn, 5, none⟩ = some (.slice ka kids.length kc) := by rw [World.cell?_of_block (L.keep.block gn hgW hgB), Lib.cell_of_heap HNW.out]; rfl
  by_cases hml : m < kids.length
  rotate_left
  ·have hme : m = kids.length := by omega
   have hnm : ¬ (m : Int) < (kids.length : Int) := by omega
   have hLS := L.ts
   have hLk := L.keep
   have HX : Hid (acc' = acc ++ [40, 115] ++ t ∧ l' = evs l ev) := by
    have h1 := L.tn
    rw [hme, List.drop_length] at h1
    obtain ⟨rfl, rfl⟩ := h1.kids_nil
    exact ⟨by have := L.txt; rwa [List.append_nil] at this, L.evl⟩
   clear L hme hml hm
   go_wp2_with fail
   refine (tsay hLS [41] (by have := HTN.out.2.2; rw [HX.out.1]; simp only [List.length_append, List.length_cons, List.length_nil]; omega)).mono ?_
   rintro e w3 ⟨rfl, hS3, hk3⟩
   have hkE : Keeps (tsB ob sp D) w w3 := ((hWk.mono (by simp)).trans hLk).trans (hk3.mono fun x hx => tsB_o hx)
   have hSE : TS w3 b bp s p nds D E ob sp keep g (acc ++ ([40, 115] ++ t ++ [41])) (evs l ev) := by
    have h1 := hS3
    rw [HX.out.1, HX.out.2] at h1
    have e1 : acc ++ ([40, 115] ++ t ++ [41]) = acc ++ [40, 115] ++ t ++ [41] := by simp
    rw [e1]
    exact h1
   clear hLS hLk hS3 hk3 e5
   go_wp2_with fail
   go_end0
   exact ⟨rfl, hSE, hkE⟩
  obtain ⟨c, hc⟩ : ∃ c, kids[m]? = some c := ⟨_, List.getElem?_eq_getElem hml⟩
  have hck : NK nds n c := hkids c (List.mem_of_getElem? hc)
  have hdr : kids.drop m = c :: kids.drop (m + 1) := by
   obtain ⟨h1, h2⟩ := List.getElem?_eq_some_iff.1 hc
   rw [List.drop_eq_getElem_cons h1, h2]
  have h1 := L.tn
  rw [hdr] at h1
  obtain ⟨cq, t1, u1, ev1, fv1, hcut, htn1, htn2, eu, ef⟩ := h1.kids_cons
  have h2 := L.mn
  rw [hdr, MN.row_cons] at h2
  obtain ⟨x0, hx1, hx2⟩ := h2
  have hP := hcut.hit ⟨x0, hx1.le, hx2.le, hx1, hx2⟩
  have hij : i' ≤ j := Nat.le_trans hx1.le hx2.le
  have HCUT : Hid (Cut (fun q => MN s nds (.node c) i' q ∧ MN s nds (.row (kids.drop (m + 1))) q j) i' j cq) := hcut
  have HP : Hid (MN s nds (.node c) i' cq ∧ MN s nds (.row (kids.drop (m + 1))) cq j) := hP
  have HTN1 : Hid (TN s nds g (.node c) i' cq t1 ev1) := htn1
  have HTN2 : Hid (TN s nds g (.kids (kids.drop (m + 1))) cq j u1 fv1) := htn2
  have HEU : Hid (u = [32] ++ t1 ++ u1 ∧ fv = ev1 ++ fv1) := ⟨eu, ef⟩
  have HTX : Hid (acc' ++ u = acc ++ [40, 115] ++ t ∧ evs l' fv = evs l ev) := ⟨L.txt, L.evl⟩
  have hLS := L.ts
  have hLk := L.keep
  have hkvr := hkv1.keep hLk
  obtain ⟨ad, cp, e1, _, hcs⟩ := id hkvr
  simp only [Value.slice.injEq] at e1
  obtain ⟨rfl, _, rfl⟩ := e1
  obtain ⟨y, off, rfl, hyl, hyB, hcd⟩ := hcs m c hc
  have hm0' : (0 : Int) ≤ (m : Int) := by omega
  have hm1' : (m : Int) < (kids.length : Int) := by omega
  have hm2' : (m : Int) + 1 ≤ (kids.length : Int) := by omega
  have HM : Hid (m < kids.length) := hml
  have HIJ : Hid (i' ≤ j ∧ j ≤ s.size ∧ s.size ≤ 100) := ⟨hij, hj, hs⟩
  have HGI : Hid (gn < W.heap.size) := hgW
  have HC : Hid (kids[m]? = some c) := hc
  have HB : Hid (acc'.length + (1 + t1.length + u1.length) = acc.length + 2 + t.length) := by
   have h1 := congrArg List.length L.txt
   rw [eu] at h1
   simp only [List.length_append, List.length_cons, List.length_nil] at h1
   show acc'.length + (1 + t1.length + u1.length) = acc.length + 2 + t.length
   omega
  clear L hcs hm hml hc hdr h1 hx1 hx2 hP hcut htn1 htn2 eu ef hij hgW hk0
  go_wp2_with fail
  refine (IHE c hck wr b bp p D E _ i' hLS.tx hLS.zin (by have := HIJ.out; omega)).mono ?_
  rintro e w3 ⟨v, rfl, hEA, htx3, hk3⟩
  have hS3 := hLS.ends hk3 htx3
  have hkW3 : Keeps (tsB ob sp D) W w3 := hLk.trans (hk3.mono fun x hx => tsB_D hx)
  have hkv3 := hkv1.keep hkW3
  have e53 : w3.cell? ⟨gn, 5, none⟩ = some (.slice (some ⟨y, off, none⟩) kids.length kc) := by rw [World.cell?_of_block (hkW3.block gn HGI.out hgB), Lib.cell_of_heap HNW.out]; rfl
  obtain ⟨x, cc, fe, hve, hRe, hxD, hxZ, hsay⟩ := hEA
  rw [← HN.out] at hve hRe
  subst hve
  have HSY : Hid (∀ q, q ≤ s.size → (fe q = true ↔ MN s nds (.node c) i' q)) := hsay
  clear hLS hLk hk3 htx3 hsay hcd e5 hkvr hkv3
  obtain ⟨wr0, hwr0⟩ : ∃ wr0 : World, wr0 = wr := ⟨_, rfl⟩
  subst hwr0
  go_wp2_with fail
  go_loopw [12] (fun q wq => ∃ cut : Nat, q = .int .i64 cut ∧ i' ≤ cut ∧ cut ≤ j ∧ (∀ z, cut < z → z ≤ j → ¬ (MN s nds (.node c) i' z ∧ MN s nds (.row (kids.drop (m + 1))) z j)) ∧ TS wq b bp s p nds D E ob sp keep g acc' l' ∧ RB wq (.slice (some ⟨x, 0, none⟩) N cc) N fe ∧ Keeps D w3 wq) (fun q _ => (intOf q).toNat - i')
  case atStart => exact ⟨j, rfl, HIJ.out.1, Nat.le_refl _, fun z h1 h2 => by omega, hS3, hRe, Keeps.refl _ _⟩
  case round =>
   clear hS3 hRe
   obtain ⟨cut, rfl, hci, hcj, hno, hS4, hR4, hk4⟩ := hrel
   have e54 : wr.cell? ⟨gn, 5, none⟩ = some (.slice (some ⟨y, off, none⟩) kids.length kc) := by rw [World.cell?_of_block ((hkW3.trans (hk4.mono fun x hx => tsB_D hx)).block gn HGI.out hgB), Lib.cell_of_heap HNW.out]; rfl
   have hkv4 := hkv1.keep (hkW3.trans (hk4.mono fun x hx => tsB_D hx))
   by_cases hgt : i' < cut
   rotate_left
   ·have hce : cut = i' := by omega
    have hngt : ¬ (i' : Int) < (cut : Int) := by omega
    have HCQ : Hid (cut = cq) := (show Cut _ i' j cut from ⟨hci, hcj, fun h => absurd h (by omega), hno⟩).one HCUT.out
    clear hce hgt hno hci hcj hkv4 hR4
    obtain rfl := HCQ.out
    go_wp2_with fail
    refine (tsay hS4 [32] (by have := HB.out; have := HTN.out.2.2; simp only [List.length_cons, List.length_nil]; omega)).mono ?_
    rintro e w6 ⟨rfl, hS6, hk6⟩
    have hkW6 : Keeps (tsB ob sp D) W w6 := (hkW3.trans (hk4.mono fun x hx => tsB_D hx)).trans (hk6.mono fun x hx => tsB_o hx)
    have e56 := (World.cell?_of_block (a := ⟨gn, 5, none⟩) (hkW6.block gn HGI.out hgB)).trans (cells6 HNW.out).2.2.2.2.2
    have hcd6 := (hkv1.keep hkW6).cell HC.out
    clear hk6
    go_wp2_with fail
    refine (IHT c hck w6 b bp p D E ob sp keep g (acc' ++ [32]) l' i' cut t1 ev1 hS6 HTN1.out HP.out.1 (by have h1 := HCUT.out.2.1; have := HIJ.out; omega) hg (by have := HB.out; have := HTN.out.2.2; simp only [List.length_append, List.length_cons, List.length_nil]; omega)).mono ?_
    rintro e w7 ⟨rfl, hS7, hk7⟩
    have hL7 : RI W w7 b bp s p nds D E ob sp keep g kids j (acc ++ [40, 115] ++ t) (evs l ev) (m + 1) cut (acc' ++ [32] ++ t1) (evs l' ev1) u1 fv1 :=
     ⟨hS7, HTN2.out, HP.out.2, by rw [← HTX.out.1, HEU.out.1]; simp, by rw [← HTX.out.2, HEU.out.2, evs_app], hkW6.trans hk7⟩
    clear hS6 hS7 hk7 hkW6 e56 hcd6
    go_wp2_with fail
    first
     | exact ⟨⟨m + 1, cut, _, _, _, _, HM.out, rfl, by go_num, hL7⟩, by have := HM.out; simp [intOf]; omega⟩
     | (go_roundw
        case rel => exact ⟨m + 1, cut, _, _, _, _, HM.out, rfl, by go_num, hL7⟩
        case measure => have := HM.out; simp [intOf]; omega)
   have hgt' : (i' : Int) < (cut : Int) := by omega
   have hmn : IntKind.i64.wrap ((m : Int) + 1) = (m : Int) + 1 := wrap_small (by omega) (by omega)
   have hm1t : ((m : Int) + 1).toNat = m + 1 := by omega
   have hkvd := (hkv4.less (D' := D) fun x hx => tsB_D hx).cut (m := m + 1) (by have := HM.out; omega) hcap
   have HCI : Hid (i' ≤ cut ∧ cut ≤ j ∧ i' < cut) := ⟨hci, hcj, hgt⟩
   have HNO : Hid (∀ z, cut < z → z ≤ j → ¬ (MN s nds (.node c) i' z ∧ MN s nds (.row (kids.drop (m + 1))) z j)) := hno
   clear hgt hno hci hcj hkv4
   go_wp2_with fail
   all_goals
    have hkvx := hkvd
    first
     | (rw [if_pos h, show kc - (m + 1) = 0 by omega] at hkvx; subst h)
     | rw [if_neg h] at hkvx
    refine (row_any s N HN nds n IHE (kids.drop (m + 1)) (fun c hc => hkids c (List.mem_of_mem_drop hc)) wr b bp p D E _ hS4.tx hS4.zin _ hkvx cut (by have := HIJ.out; have := HCI.out; omega)).mono ?_
    rintro e w5 ⟨v, rfl, hRS, hfr, htx5, hk5⟩
    have hS5 := hS4.ends hk5 htx5
    obtain ⟨x2, c2, f2, rfl, hR5, hx2D, hsay5⟩ := hRS
    have hRe5 := hR4.keep hk5 (by intro z hz; simp only [Value.ownBlock, Option.some.injEq] at hz; subst hz; exact hxD)
    have ha := hRe5.at (j := cut) (by have := HIJ.out; have := HCI.out; have := HN.out; omega)
    have hb := hR5.at (j := j) (by have := HIJ.out; have := HN.out; omega)
    have HSB : Hid (f2 j = true ↔ MN s nds (.row (kids.drop (m + 1))) cut j) := hsay5 j HIJ.out.2.1
    have hk45 := hk4.trans hk5
    have hjN : (j : Int) < (N : Int) := by have := HIJ.out; have := HN.out; omega
    have hcN : (cut : Int) < (N : Int) := by have := HIJ.out; have := HCI.out; have := HN.out; omega
    have hj0 : (0 : Int) ≤ (j : Int) := by omega
    have hc0 : (0 : Int) ≤ (cut : Int) := by omega
    have HSA : Hid (fe cut = true ↔ MN s nds (.node c) i' cut) := HSY.out cut (by have := HIJ.out; have := HCI.out; omega)
    have hsub : IntKind.i64.wrap ((cut : Int) - 1) = (cut : Int) - 1 := wrap_small (by have := HCI.out; omega) (by have := HCI.out; have := HIJ.out; omega)
    have hcast : ((cut - 1 : Nat) : Int) = (cut : Int) - 1 := by have := HCI.out; omega
    clear hR5 hS4 hR4 hk4 hk5 htx5 hfr hsay5 hkvx hkvd e54
    cases h1 : fe cut
    ·rw [h1] at ha
     have HNO2 : Hid (∀ z, cut - 1 < z → z ≤ j → ¬ (MN s nds (.node c) i' z ∧ MN s nds (.row (kids.drop (m + 1))) z j)) := by
      intro z hz hzj
      by_cases hzc : z = cut
      ·subst hzc; intro hh; have := HSA.out.2 hh.1; rw [h1] at this; cases this
      ·exact HNO.out z (by omega) hzj
     clear h1
     go_wp2_with fail
     first
      | exact ⟨⟨cut - 1, by rw [hcast], by have := HCI.out; omega, by have := HCI.out; omega, HNO2.out, hS5, hRe5, hk45⟩, by have := HCI.out; simp [intOf]; omega⟩
      | (go_roundw
         case rel => exact ⟨cut - 1, by rw [hcast], by have := HCI.out; omega, by have := HCI.out; omega, HNO2.out, hS5, hRe5, hk45⟩
         case measure => have := HCI.out; simp [intOf]; omega)
    ·rw [h1] at ha
     cases h2 : f2 j
     ·rw [h2] at hb
      have HNO2 : Hid (∀ z, cut - 1 < z → z ≤ j → ¬ (MN s nds (.node c) i' z ∧ MN s nds (.row (kids.drop (m + 1))) z j)) := by
       intro z hz hzj
       by_cases hzc : z = cut
       ·subst hzc; intro hh; have := HSB.out.2 hh.2; rw [h2] at this; cases this
       ·exact HNO.out z (by omega) hzj
      clear h1 h2
      go_wp2_with fail
      first
       | exact ⟨⟨cut - 1, by rw [hcast], by have := HCI.out; omega, by have := HCI.out; omega, HNO2.out, hS5, hRe5, hk45⟩, by have := HCI.out; simp [intOf]; omega⟩
       | (go_roundw
          case rel => exact ⟨cut - 1, by rw [hcast], by have := HCI.out; omega, by have := HCI.out; omega, HNO2.out, hS5, hRe5, hk45⟩
          case measure => have := HCI.out; simp [intOf]; omega)
     ·rw [h2] at hb
      have HCQ : Hid (cut = cq) := (show Cut _ i' j cut from ⟨HCI.out.1, HCI.out.2.1, fun _ => ⟨HSA.out.1 h1, HSB.out.1 h2⟩, HNO.out⟩).one HCUT.out
      clear h1 h2
      obtain rfl := HCQ.out
      go_wp2_with fail
      refine (tsay hS5 [32] (by have := HB.out; have := HTN.out.2.2; simp only [List.length_cons, List.length_nil]; omega)).mono ?_
      rintro e w6 ⟨rfl, hS6, hk6⟩
      have hkW6 : Keeps (tsB ob sp D) W w6 := (hkW3.trans (hk45.mono fun x hx => tsB_D hx)).trans (hk6.mono fun x hx => tsB_o hx)
      have e56 := (World.cell?_of_block (a := ⟨gn, 5, none⟩) (hkW6.block gn HGI.out hgB)).trans (cells6 HNW.out).2.2.2.2.2
      have hcd6 := (hkv1.keep hkW6).cell HC.out
      clear hk6
      go_wp2_with fail
      refine (IHT c hck w6 b bp p D E ob sp keep g (acc' ++ [32]) l' i' cut t1 ev1 hS6 HTN1.out HP.out.1 (by have h1 := HCUT.out.2.1; have := HIJ.out; omega) hg (by have := HB.out; have := HTN.out.2.2; simp only [List.length_append, List.length_cons, List.length_nil]; omega)).mono ?_
      rintro e w7 ⟨rfl, hS7, hk7⟩
      have hL7 : RI W w7 b bp s p nds D E ob sp keep g kids j (acc ++ [40, 115] ++ t) (evs l ev) (m + 1) cut (acc' ++ [32] ++ t1) (evs l' ev1) u1 fv1 :=
       ⟨hS7, HTN2.out, HP.out.2, by rw [← HTX.out.1, HEU.out.1]; simp, by rw [← HTX.out.2, HEU.out.2, evs_app], hkW6.trans hk7⟩
      clear hS6 hS7 hk7 hkW6 e56 hcd6
      go_wp2_with fail
      first
       | exact ⟨⟨m + 1, cut, _, _, _, _, HM.out, rfl, by go_num, hL7⟩, by have := HM.out; simp [intOf]; omega⟩
       | (go_roundw
          case rel => exact ⟨m + 1, cut, _, _, _, _, HM.out, rfl, by go_num, hL7⟩
          case measure => have := HM.out; simp [intOf]; omega)
end Go.Proofs.YtnfojonmohijpaaGreatDoor
namespace Go.Proofs.YtnfojonmohijpaaGreatDoor
open Go.RowKit
set_option maxRecDepth 100000 in
set_option maxHeartbeats 2000000 in
theorem tree_way (s : ByteArray) (N : Nat) (HN : Hid (N = s.size + 1)) (nds : List Nd) (hn : nds.length ≤ 1000) (n : Nat) (IHE : EndsOk s nds n) (IHT : TreeOk s nds n) (k : Nat) (nd : Nd) (hk : nds[k]? = some nd) (hkind : nd.kind = 119) (hkids : ∀ c, c ∈ nd.kids → NK nds n c) (hne : nd.kids ≠ []) (hkl : nd.kids.length ≤ 1000)
    (w : World) (b bp : Nat) (p : PS) (D : List Nat) (E : Value) (ob : Nat) (sp : Value) (keep : Bool) (g : Nat) (acc : List UInt8) (l : List Int) (i j : Nat) (t : List UInt8) (ev : List (Nat × Nat × Nat)) (hS : TS w b bp s p nds D E ob sp keep g acc l) (hij : i ≤ j) (hj : j ≤ s.size) (hg : g ≤ 9)
    (HTN : Hid (TN s nds g (.kids nd.kids) i j t ev)) (HMN : Hid (MN s nds (.row nd.kids) i j)) (hlen : acc.length + ([40, 115] ++ t ++ [41]).length ≤ 4611686018427387904) :
    Calls Tryz.prog 88 #[.pointer (some ⟨b, 0, none⟩), .int .i64 k, .int .i64 i, .int .i64 j, .pointer (some ⟨ob, 0, none⟩)] w (TPo w b bp s p nds D E ob sp keep g acc l ([40, 115] ++ t ++ [41]) (ev)) := by
 obtain ⟨x0, x1, x2, x3⟩ := hS.tx.xb.main
 obtain ⟨g', cap', hv, kv, hform, hkn, hH, hK, c0, c1, c2, c3, c4, c5⟩ := hS.tx.nodes.node hk
 rw [hkind] at c0
 obtain ⟨n1, _⟩ := hS.tx.pb.nodes
 rw [hform] at n1
 obtain ⟨ha, hn2, hc2, rfl⟩ := hH.1
 have HKV : Hid (KV w (tsB ob sp D) kv nd.kids) := hK.kv2 hkl
 obtain ⟨ka, kc, rfl, hcap⟩ := hK.cap
 have hs := hS.tx.small
 have hk0' : (0 : Int) ≤ (k : Int) := by omega
 have hk1' : (k : Int) < (nds.length : Int) := by omega
 have hk2' : (nds.length : Int) ≤ 1000 := by omega
 have hkl' : (nd.kids.length : Int) ≤ 1000 := by omega
 have HIJ : Hid (i ≤ j ∧ j ≤ s.size ∧ s.size ≤ 100) := ⟨hij, hj, hs⟩
 have HS : Hid (TS w b bp s p nds D E ob sp keep g acc l) := hS
 have hWk := (Keeps.refl [] w).alloc (.cells #[.int .u8 119, .slice ha hn2 hc2, .int .i64 nd.n, .int .i64 nd.mn, .int .i64 nd.mx, .slice ka nd.kids.length kc] 157)
 have hnew := heap_alloc_new w (.cells #[.int .u8 119, .slice ha hn2 hc2, .int .i64 nd.n, .int .i64 nd.mn, .int .i64 nd.mx, .slice ka nd.kids.length kc] 157)
 have HL : Hid (acc.length + ([40, 115] ++ t ++ [41]).length ≤ 4611686018427387904) := hlen
 clear hS hk hij hj hs hform hH hK hkn hkind hn hkl x2 x3 hlen
 go_enter Tryz.func88, Tryz.ntmps88
 go_upto_region 1 with (fail)
 clear c0 c1 c2 c3 c4 c5 n1 x0 x1
 generalize w.alloc (.cells #[.int .u8 119, .slice ha hn2 hc2, .int .i64 nd.n, .int .i64 nd.mn, .int .i64 nd.mx, .slice ka nd.kids.length kc] 157) = W at *
 obtain ⟨gn, hgn⟩ : ∃ gn, gn = w.heap.size := ⟨_, rfl⟩
 rw [← hgn] at hnew ⊢
 have hS1 := HS.out.new hWk
 have hgB : gn ∉ tsB ob sp D := by
  intro hm
  have h0 := HS.out
  simp only [tsB, List.mem_cons, List.mem_append, Option.mem_toList] at hm
  rcases hm with h | h | h
  ·have := h0.ot.lt; omega
  ·have := (h0.row.lt _ h).2; omega
  ·have := h0.tx.dlt _ h; omega
 clear hgn
 have e0 : W.cell? ⟨gn, 0, none⟩ = some (.int .u8 119) := by rw [Lib.cell_of_heap hnew]; rfl
 have HNW : Hid (W.heap[gn]? = some (.cells #[.int .u8 119, .slice ha hn2 hc2, .int .i64 nd.n, .int .i64 nd.mn, .int .i64 nd.mx, .slice ka nd.kids.length kc] 157 (0, 0))) := hnew
 have HGI : Hid (gn < W.heap.size) := (Array.getElem?_eq_some_iff.1 hnew).1
 have hkv1 := HKV.out.keep (hWk.mono (by simp))
 clear hnew
 have q0 := cells6 HNW.out
 obtain ⟨q0, q1, q2, q3, q4, q5⟩ := q0
 have hg2 := HIJ.out
 clear e0
 go_upto_region 20 with (fail)
 go_wp2_with fail
 refine (trow_any s N HN nds n IHE IHT nd.kids hkids hne (by omega) 119 nd.n nd.mn nd.mx (.slice ha hn2 hc2) rfl ka kc hcap W b bp p D E ob sp keep g acc l i j t ev hS1 hkv1 HTN.out HMN.out HIJ.out.2.1 hg (by have := HL.out; simp only [List.length_append, List.length_cons, List.length_nil] at this; omega)).mono ?_
 rintro e w3 ⟨rfl, hS3, hk3⟩
 have hkE : Keeps (tsB ob sp D) w w3 := (hWk.mono (by simp)).trans hk3
 clear q0 q1 q2 q3 q4 q5 hS1 hk3
 go_wp2_with fail
 go_end0
 exact ⟨rfl, hS3, hkE⟩
set_option maxRecDepth 100000 in
set_option maxHeartbeats 2000000 in
theorem tree_none (s : ByteArray) (N : Nat) (HN : Hid (N = s.size + 1)) (nds : List Nd) (hn : nds.length ≤ 1000) (n : Nat) (IHE : EndsOk s nds n) (IHT : TreeOk s nds n) (k : Nat) (nd : Nd) (hk : nds[k]? = some nd) (hkind : nd.kind = 119) (HNIL : Hid (nd.kids = [])) (hkl : nd.kids.length ≤ 1000)
    (w : World) (b bp : Nat) (p : PS) (D : List Nat) (E : Value) (ob : Nat) (sp : Value) (keep : Bool) (g : Nat) (acc : List UInt8) (l : List Int) (i j : Nat) (hS : TS w b bp s p nds D E ob sp keep g acc l) (hij : i ≤ j) (hj : j ≤ s.size) (hg : g ≤ 9)
    (hlen : acc.length + ([101]).length ≤ 4611686018427387904) :
    Calls Tryz.prog 88 #[.pointer (some ⟨b, 0, none⟩), .int .i64 k, .int .i64 i, .int .i64 j, .pointer (some ⟨ob, 0, none⟩)] w (TPo w b bp s p nds D E ob sp keep g acc l ([101]) ([])) := by
 obtain ⟨x0, x1, x2, x3⟩ := hS.tx.xb.main
 obtain ⟨g', cap', hv, kv, hform, hkn, hH, hK, c0, c1, c2, c3, c4, c5⟩ := hS.tx.nodes.node hk
 rw [hkind] at c0
 obtain ⟨n1, _⟩ := hS.tx.pb.nodes
 rw [hform] at n1
 obtain ⟨ha, hn2, hc2, rfl⟩ := hH.1
 have HKV : Hid (KV w (tsB ob sp D) kv nd.kids) := hK.kv2 hkl
 obtain ⟨ka, kc, rfl, hcap⟩ := hK.cap
 have hs := hS.tx.small
 have hk0' : (0 : Int) ≤ (k : Int) := by omega
 have hk1' : (k : Int) < (nds.length : Int) := by omega
 have hk2' : (nds.length : Int) ≤ 1000 := by omega
 have hkl' : (nd.kids.length : Int) ≤ 1000 := by omega
 have HIJ : Hid (i ≤ j ∧ j ≤ s.size ∧ s.size ≤ 100) := ⟨hij, hj, hs⟩
 have HS : Hid (TS w b bp s p nds D E ob sp keep g acc l) := hS
 have hWk := (Keeps.refl [] w).alloc (.cells #[.int .u8 119, .slice ha hn2 hc2, .int .i64 nd.n, .int .i64 nd.mn, .int .i64 nd.mx, .slice ka nd.kids.length kc] 157)
 have hnew := heap_alloc_new w (.cells #[.int .u8 119, .slice ha hn2 hc2, .int .i64 nd.n, .int .i64 nd.mn, .int .i64 nd.mx, .slice ka nd.kids.length kc] 157)
 have HL : Hid (acc.length + ([101]).length ≤ 4611686018427387904) := hlen
 clear hS hk hij hj hs hform hH hK hkn hkind hn hkl x2 x3 hlen
 go_enter Tryz.func88, Tryz.ntmps88
 go_upto_region 1 with (fail)
 clear c0 c1 c2 c3 c4 c5 n1 x0 x1
 generalize w.alloc (.cells #[.int .u8 119, .slice ha hn2 hc2, .int .i64 nd.n, .int .i64 nd.mn, .int .i64 nd.mx, .slice ka nd.kids.length kc] 157) = W at *
 obtain ⟨gn, hgn⟩ : ∃ gn, gn = w.heap.size := ⟨_, rfl⟩
 rw [← hgn] at hnew ⊢
 have hS1 := HS.out.new hWk
 have hgB : gn ∉ tsB ob sp D := by
  intro hm
  have h0 := HS.out
  simp only [tsB, List.mem_cons, List.mem_append, Option.mem_toList] at hm
  rcases hm with h | h | h
  ·have := h0.ot.lt; omega
  ·have := (h0.row.lt _ h).2; omega
  ·have := h0.tx.dlt _ h; omega
 clear hgn
 have e0 : W.cell? ⟨gn, 0, none⟩ = some (.int .u8 119) := by rw [Lib.cell_of_heap hnew]; rfl
 have HNW : Hid (W.heap[gn]? = some (.cells #[.int .u8 119, .slice ha hn2 hc2, .int .i64 nd.n, .int .i64 nd.mn, .int .i64 nd.mx, .slice ka nd.kids.length kc] 157 (0, 0))) := hnew
 have HGI : Hid (gn < W.heap.size) := (Array.getElem?_eq_some_iff.1 hnew).1
 have hkv1 := HKV.out.keep (hWk.mono (by simp))
 clear hnew
 obtain ⟨q0, q1, q2, q3, q4, q5⟩ := cells6 HNW.out
 have hk00 : nd.kids.length = 0 := by rw [HNIL.out]; rfl
 rw [hk00] at q5
 clear hk00
 clear e0 hcap hkl'
 go_upto_region 20 with (fail)
 go_wp2_with fail
 refine (trow_nil s nds 119 nd.n nd.mn nd.mx (.slice ha hn2 hc2) rfl ka kc W b bp p D E ob sp keep g acc l i j hS1 (by have := HL.out; simp only [List.length_cons, List.length_nil] at this; omega)).mono ?_
 rintro e w3 ⟨rfl, hS3, hk3⟩
 have hkE : Keeps (tsB ob sp D) w w3 := (hWk.mono (by simp)).trans hk3
 clear q0 q1 q2 q3 q4 q5 hS1 hk3
 go_wp2_with fail
 go_end0
 exact ⟨rfl, hS3, hkE⟩
end Go.Proofs.YtnfojonmohijpaaGreatDoor
