/-
  DERIVED. The reference's 'repeat': a repeat's tree. Conditions: Ends and Tree do as claimed at its kid; what it has in memory lies as it should (TS).
-/
import Derived.Test.YtnfojonmohijpaaGreatDoorJMO
import Derived.Test.YtnfojonmohijpaaGreatDoorJVF
import Derived.Test.YtnfojonmohijpaaGreatDoorJVD
set_option linter.unusedSimpArgs false
set_option linter.unusedVariables false
namespace Go.Proofs.YtnfojonmohijpaaGreatDoor
open Go.RowKit
structure RJ (w wr : World) (b bp : Nat) (s : ByteArray) (p : PS) (nds : List Nd) (D : List Nat) (E : Value) (ob : Nat) (sp : Value) (keep : Bool) (g : Nat) (c j : Nat) (full : List UInt8) (last : List Int) (mn : Nat) (mx : Int) (i : Nat) (acc : List UInt8) (l : List Int) (u : List UInt8) (fv : List (Nat × Nat × Nat)) : Prop where
 ts : TS wr b bp s p nds D E ob sp keep g acc l
 tn : TN s nds g (.times c mn mx) i j u fv
 tm : TmK s nds c mn mx i j
 txt : acc ++ u = full
 evl : evs l fv = last
 keep : Keeps (tsB ob sp D) w wr
 bnd : mn ≤ 5 ∧ -1 ≤ mx ∧ mx ≤ 5 ∧ (mx < 0 ∨ (mn : Int) ≤ mx)
theorem TN.times_end {s : ByteArray} {nds : List Nd} {g i j c mn : Nat} {mx : Int} {t : List UInt8} {ev : List (Nat × Nat × Nat)} (h : TN s nds g (.times c mn mx) i j t ev) (hn : ¬ (i < j ∨ 0 < mn)) : t = [] ∧ ev = [] := by
 cases h with
 | tend => exact ⟨rfl, rfl⟩
 | tgo _ _ _ _ _ _ _ _ _ _ h => exact absurd h hn
theorem TN.times_go {s : ByteArray} {nds : List Nd} {g i j c mn : Nat} {mx : Int} {t : List UInt8} {ev : List (Nat × Nat × Nat)} (h : TN s nds g (.times c mn mx) i j t ev) (hn : i < j ∨ 0 < mn) :
    ∃ m t1 u ev1 fv, Cut (fun m => MN s nds (.node c) i m ∧ TmK s nds c (mn - 1) (less mx) m j) i j m ∧ TN s nds g (.node c) i m t1 ev1 ∧ TN s nds g (.times c (mn - 1) (less mx)) m j u fv ∧ t = [32] ++ t1 ++ u ∧ ev = ev1 ++ fv := by
 cases h with
 | tend _ _ _ _ _ h => exact absurd hn h
 | tgo _ _ _ _ _ m t u ev fv h1 h2 h3 h4 => exact ⟨m, t, u, ev, fv, h2, h3, h4, rfl, rfl⟩
theorem TmN_TmK {s : ByteArray} {nds : List Nd} {c mn : Nat} {mx : Int} {i j : Nat} : TmN s nds c mn mx i j ↔ TmK s nds c mn mx i j := by
 constructor
 ·rintro ⟨n, a, b, h⟩; exact ⟨n, a, b, (MN.it_iff (fun _ _ => Iff.rfl) n i j).2 h⟩
 ·rintro ⟨n, a, b, h⟩; exact ⟨n, a, b, (MN.it_iff (fun _ _ => Iff.rfl) n i j).1 h⟩
set_option maxRecDepth 100000 in
set_option maxHeartbeats 4000000 in
theorem trep_any (s : ByteArray) (N : Nat) (HN : Hid (N = s.size + 1)) (nds : List Nd) (n : Nat) (IHE : EndsOk s nds n) (IHT : TreeOk s nds n) (c : Nat) (hck : NK nds n c) (mn : Nat) (mx : Int) (hmn : mn ≤ 5) (hmx : -1 ≤ mx ∧ mx ≤ 5) (hlm : mx < 0 ∨ (mn : Int) ≤ mx)
    (k0 n1 : Int) (hv : Value) (hv1 : hv.oneCell' = true) (ka : Option Addr) (kl kc : Nat) (hkl : 0 < kl) (w : World) (b bp : Nat) (p : PS) (D : List Nat) (E : Value) (ob : Nat) (sp : Value) (keep : Bool) (g : Nat) (acc : List UInt8) (l : List Int) (i j : Nat) (t : List UInt8) (ev : List (Nat × Nat × Nat))
    (hS : TS w b bp s p nds D E ob sp keep g acc l) (hkv : KV w (tsB ob sp D) (.slice ka kl kc) [c]) (hT : TN s nds g (.times c mn mx) i j t ev) (hM : TmK s nds c mn mx i j) (hj : j ≤ s.size) (hg : g ≤ 9) (hlen : acc.length + t.length + 3 ≤ 4611686018427387904) :
    Calls Tryz.prog 142 #[.pointer (some ⟨b, 0, none⟩), .agg #[.int .u8 k0, hv, .int .i64 n1, .int .i64 mn, .int .i64 mx, .slice ka kl kc], .int .i64 i, .int .i64 j, .pointer (some ⟨ob, 0, none⟩)] w (TPo w b bp s p nds D E ob sp keep g acc l ([40, 114] ++ t ++ [41]) ev) := by
 have hs := hS.tx.small
 have hWk := (Keeps.refl [] w).alloc (.cells #[.int .u8 k0, hv, .int .i64 n1, .int .i64 mn, .int .i64 mx, .slice ka kl kc] 157)
 have hnew := heap_alloc_new w (.cells #[.int .u8 k0, hv, .int .i64 n1, .int .i64 mn, .int .i64 mx, .slice ka kl kc] 157)
 have hS1 := hS.new hWk
 have hkv1 := hkv.keep (hWk.mono (by simp))
 have hkl' : (0 : Int) < (kl : Int) := by omega
 have hgB : w.heap.size ∉ tsB ob sp D := by
  intro hm
  simp only [tsB, List.mem_cons, List.mem_append, Option.mem_toList] at hm
  rcases hm with h | h | h
  ·have := hS.ot.lt; omega
  ·have := (hS.row.lt _ h).2; omega
  ·have := hS.tx.dlt _ h; omega
 have HTN : Hid (TN s nds g (.times c mn mx) i j t ev ∧ TmK s nds c mn mx i j ∧ acc.length + t.length + 3 ≤ 4611686018427387904) := ⟨hT, hM, hlen⟩
 have HBD : Hid (mn ≤ 5 ∧ -1 ≤ mx ∧ mx ≤ 5 ∧ (mx < 0 ∨ (mn : Int) ≤ mx)) := ⟨hmn, hmx.1, hmx.2, hlm⟩
 obtain ⟨ad, cp, e1, _, hcs⟩ := id hkv1
 simp only [Value.slice.injEq] at e1
 obtain ⟨rfl, hkl1, rfl⟩ := e1
 obtain ⟨y, off, rfl, _, _, _⟩ := hcs 0 c rfl
 clear hkl1
 clear hS hkv hT hM hlen hcs hmn hmx hlm hkl
 go_enter Tryz.func142, Tryz.ntmps142
 go_upto_region 1 with (fail)
 generalize (w.alloc (.cells #[.int .u8 k0, hv, .int .i64 n1, .int .i64 mn, .int .i64 mx, .slice (some ⟨y, off, none⟩) kl kc] 157)) = W at *
 obtain ⟨gn, hgn⟩ : ∃ gn, gn = w.heap.size := ⟨_, rfl⟩
 rw [← hgn] at hnew hgB ⊢
 clear hgn
 obtain ⟨_, _, _, e3, e4, _⟩ := cells6 hnew
 have HNW : Hid (W.heap[gn]? = some (.cells #[.int .u8 k0, hv, .int .i64 n1, .int .i64 mn, .int .i64 mx, .slice (some ⟨y, off, none⟩) kl kc] 157 (0, 0))) := hnew
 have HGI : Hid (gn < W.heap.size) := (Array.getElem?_eq_some_iff.1 hnew).1
 clear hnew
 go_upto_region 3 with (fail)
 clear e3 e4
 go_wp2_with fail
 refine (tsay hS1 [40, 114] (by have := HTN.out.2.2; simp only [List.length_cons, List.length_nil]; omega)).mono ?_
 rintro e w2 ⟨rfl, hS2, hk2⟩
 have hkA : Keeps (tsB ob sp D) W w2 := hk2.mono fun x hx => tsB_o hx
 have hL0 : RJ W w2 b bp s p nds D E ob sp keep g c j (acc ++ [40, 114] ++ t) (evs l ev) mn mx i (acc ++ [40, 114]) l t ev := ⟨hS2, HTN.out.1, HTN.out.2.1, rfl, rfl, hkA, HBD.out⟩
 clear hS1 hk2 hkA hS2
 go_wp2_with fail
 go_loopw [2, 10, 11] (fun q1 q2 q3 wr => ∃ (mn' : Nat) (mx' : Int) (i' : Nat) (acc' : List UInt8) (l' : List Int) (u : List UInt8) (fv : List (Nat × Nat × Nat)), q1 = .int .i64 i' ∧ q2 = .int .i64 mn' ∧ q3 = .int .i64 mx' ∧ RJ W wr b bp s p nds D E ob sp keep g c j (acc ++ [40, 114] ++ t) (evs l ev) mn' mx' i' acc' l' u fv) (fun q1 q2 _ _ => (intOf q2).toNat + (j - (intOf q1).toNat))
 case atStart => exact ⟨mn, mx, i, _, _, _, _, rfl, rfl, rfl, hL0⟩
 case round =>
  clear hL0
  obtain ⟨mn', mx', i', acc', l', u, fv, rfl, rfl, rfl, L⟩ := hrel
  have e5 := (World.cell?_of_block (a := ⟨gn, 5, none⟩) (L.keep.block gn HGI.out hgB)).trans (cells6 HNW.out).2.2.2.2.2
  by_cases hgo : i' < j ∨ 0 < mn'
  rotate_left
  ·have h1' : ¬ (i' : Int) < (j : Int) := by omega
   have h2' : ¬ (0 : Int) < (mn' : Int) := by omega
   have hLS := L.ts
   have hLk := L.keep
   have HX : Hid (acc' = acc ++ [40, 114] ++ t ∧ l' = evs l ev) := by
    obtain ⟨rfl, rfl⟩ := L.tn.times_end hgo
    exact ⟨by have := L.txt; rwa [List.append_nil] at this, L.evl⟩
   clear L hgo
   go_wp2_with fail
   refine (tsay hLS [41] (by have := HTN.out.2.2; rw [HX.out.1]; simp only [List.length_append, List.length_cons, List.length_nil]; omega)).mono ?_
   rintro e w3 ⟨rfl, hS3, hk3⟩
   have hkE : Keeps (tsB ob sp D) w w3 := ((hWk.mono (by simp)).trans hLk).trans (hk3.mono fun x hx => tsB_o hx)
   have hSE : TS w3 b bp s p nds D E ob sp keep g (acc ++ ([40, 114] ++ t ++ [41])) (evs l ev) := by
    have h1 := hS3
    rw [HX.out.1, HX.out.2] at h1
    have e1 : acc ++ ([40, 114] ++ t ++ [41]) = acc ++ [40, 114] ++ t ++ [41] := by simp
    rw [e1]
    exact h1
   clear hLS hLk hS3 hk3 e5
   go_wp2_with fail
   go_end0
   exact ⟨rfl, hSE, hkE⟩
  obtain ⟨cq, t1, u1, ev1, fv1, hcut, htn1, htn2, eu, ef⟩ := L.tn.times_go hgo
  obtain ⟨hP, hdec⟩ := Tm.cut (fun _ _ h => h.le) L.tm hgo hcut
  have hij : i' ≤ j := Tm.le (fun _ _ h => h.le) L.tm
  have HCUT : Hid (Cut (fun q => MN s nds (.node c) i' q ∧ TmK s nds c (mn' - 1) (less mx') q j) i' j cq) := hcut
  have HP : Hid (MN s nds (.node c) i' cq ∧ TmK s nds c (mn' - 1) (less mx') cq j) := hP
  have HDEC : Hid ((mn' - 1) + (j - cq) < mn' + (j - i')) := hdec
  have HTN1 : Hid (TN s nds g (.node c) i' cq t1 ev1) := htn1
  have HTN2 : Hid (TN s nds g (.times c (mn' - 1) (less mx')) cq j u1 fv1) := htn2
  have HEU : Hid (u = [32] ++ t1 ++ u1 ∧ fv = ev1 ++ fv1) := ⟨eu, ef⟩
  have HTX : Hid (acc' ++ u = acc ++ [40, 114] ++ t ∧ evs l' fv = evs l ev) := ⟨L.txt, L.evl⟩
  have HB : Hid (acc'.length + (1 + t1.length + u1.length) = acc.length + 2 + t.length) := by
   have h1 := congrArg List.length L.txt
   rw [eu] at h1
   simp only [List.length_append, List.length_cons, List.length_nil] at h1
   show acc'.length + (1 + t1.length + u1.length) = acc.length + 2 + t.length
   omega
  have HIJ : Hid (i' ≤ j ∧ j ≤ s.size ∧ s.size ≤ 100) := ⟨hij, hj, hs⟩
  have HBN : Hid (mn' ≤ 5 ∧ -1 ≤ mx' ∧ mx' ≤ 5 ∧ (mx' < 0 ∨ (mn' : Int) ≤ mx')) := L.bnd
  have hLS := L.ts
  have hLk := L.keep
  have hcd := (hkv1.keep hLk).cell (m := 0) (c := c) rfl
  rw [Nat.add_zero] at hcd
  have HGO : Hid (i' < j ∨ 0 < mn') := hgo
  have hmax : max ((mn' : Int) - 1) 0 = ((mn' - 1 : Nat) : Int) := by omega
  have hwm : IntKind.i64.wrap ((mn' : Int) - 1) = (mn' : Int) - 1 := wrap_any (by omega) (by have := HBN.out; omega)
  have hwx : IntKind.i64.wrap (mx' - 1) = mx' - 1 := wrap_any (by have := HBN.out; omega) (by have := HBN.out; omega)
  clear L hcut htn1 htn2 eu ef hij hdec hP hgo
  obtain ⟨wr0, hwr0⟩ : ∃ wr0 : World, wr0 = wr := ⟨_, rfl⟩
  have hcase : (i' : Int) < (j : Int) ∨ (¬ (i' : Int) < (j : Int) ∧ (0 : Int) < (mn' : Int)) := by have := HGO.out; omega
  rcases hcase with hlt' | ⟨hlt', hmp'⟩
  all_goals
   go_wp2_with fail
   refine (IHE c hck wr b bp p D E _ i' hLS.tx hLS.zin (by have := HIJ.out; omega)).mono ?_
   rintro e w3 ⟨v, rfl, hEA, htx3, hk3⟩
   have hS3 := hLS.ends hk3 htx3
   have hkW3 : Keeps (tsB ob sp D) W w3 := hLk.trans (hk3.mono fun x hx => tsB_D hx)
   obtain ⟨x, cc, fe, hve, hRe, hxD, hxZ, hsay⟩ := hEA
   rw [← HN.out] at hve hRe
   subst hve
   have HSY : Hid (∀ q, q ≤ s.size → (fe q = true ↔ MN s nds (.node c) i' q)) := hsay
   clear hLS hLk hk3 htx3 hsay hcd e5
   subst hwr0
   go_wp2_with fail
   go_loopw [13] (fun q wq => ∃ cut : Nat, q = .int .i64 cut ∧ i' ≤ cut ∧ cut ≤ j ∧ (∀ z, cut < z → z ≤ j → ¬ (MN s nds (.node c) i' z ∧ TmK s nds c (mn' - 1) (less mx') z j)) ∧ TS wq b bp s p nds D E ob sp keep g acc' l' ∧ RB wq (.slice (some ⟨x, 0, none⟩) N cc) N fe ∧ Keeps D w3 wq) (fun q _ => (intOf q).toNat - i')
   case atStart => exact ⟨j, rfl, HIJ.out.1, Nat.le_refl _, fun z h1 h2 => by omega, hS3, hRe, Keeps.refl _ _⟩
   case round =>
    clear hS3 hRe
    obtain ⟨cut, rfl, hci, hcj, hno, hS4, hR4, hk4⟩ := hrel
    have hkW4 := hkW3.trans (hk4.mono fun x hx => tsB_D (ob := ob) (sp := sp) hx)
    have e54 := (World.cell?_of_block (a := ⟨gn, 5, none⟩) (hkW4.block gn HGI.out hgB)).trans (cells6 HNW.out).2.2.2.2.2
    have hcd4 := (hkv1.keep hkW4).cell (m := 0) (c := c) rfl
    rw [Nat.add_zero] at hcd4
    by_cases hgt : i' < cut
    rotate_left
    ·have hce : cut = i' := by omega
     have hngt : ¬ (i' : Int) < (cut : Int) := by omega
     have HCQ : Hid (cut = cq) := (show Cut _ i' j cut from ⟨hci, hcj, fun h => absurd h (by omega), hno⟩).one HCUT.out
     clear hce hgt hno hci hcj hR4 e54 hcd4 hkW4
     by_cases hm0 : 0 < mx'
     ·have HLE : Hid (less mx' = mx' - 1) := by show less mx' = mx' - 1; unfold less; rw [if_pos hm0]
      obtain rfl := HCQ.out
      go_wp2_with fail
      refine (tsay hS4 [32] (by have := HB.out; have := HTN.out.2.2; simp only [List.length_cons, List.length_nil]; omega)).mono ?_
      rintro e w6 ⟨rfl, hS6, hk6⟩
      have hkW6 : Keeps (tsB ob sp D) W w6 := (hkW3.trans (hk4.mono fun x hx => tsB_D hx)).trans (hk6.mono fun x hx => tsB_o hx)
      have e56 := (World.cell?_of_block (a := ⟨gn, 5, none⟩) (hkW6.block gn HGI.out hgB)).trans (cells6 HNW.out).2.2.2.2.2
      have hcd6 := (hkv1.keep hkW6).cell (m := 0) (c := c) rfl
      rw [Nat.add_zero] at hcd6
      clear hk6
      go_wp2_with fail
      refine (IHT c hck w6 b bp p D E ob sp keep g (acc' ++ [32]) l' i' cut t1 ev1 hS6 HTN1.out HP.out.1 (by have h1 := HCUT.out.2.1; have := HIJ.out; omega) hg (by have := HB.out; have := HTN.out.2.2; simp only [List.length_append, List.length_cons, List.length_nil]; omega)).mono ?_
      rintro e w7 ⟨rfl, hS7, hk7⟩
      have hL7 : RJ W w7 b bp s p nds D E ob sp keep g c j (acc ++ [40, 114] ++ t) (evs l ev) (mn' - 1) (less mx') cut (acc' ++ [32] ++ t1) (evs l' ev1) u1 fv1 :=
       ⟨hS7, HTN2.out, HP.out.2, by rw [← HTX.out.1, HEU.out.1]; simp, by rw [← HTX.out.2, HEU.out.2, evs_app], hkW6.trans hk7, by have := HBN.out; rw [HLE.out]; omega⟩
      rw [HLE.out] at hL7
      clear hS6 hS7 hk7 hkW6 e56 hcd6
      go_wp2_with fail
      first
       | exact ⟨⟨_, _, cut, _, _, _, _, rfl, rfl, rfl, hL7⟩, by have := HDEC.out; simp [intOf]; omega⟩
       | (go_roundw
          case rel => exact ⟨_, _, cut, _, _, _, _, rfl, rfl, rfl, hL7⟩
          case measure => have := HDEC.out; simp [intOf]; omega)
     ·have HLE : Hid (less mx' = mx') := by show less mx' = mx'; unfold less; rw [if_neg hm0]
      obtain rfl := HCQ.out
      go_wp2_with fail
      refine (tsay hS4 [32] (by have := HB.out; have := HTN.out.2.2; simp only [List.length_cons, List.length_nil]; omega)).mono ?_
      rintro e w6 ⟨rfl, hS6, hk6⟩
      have hkW6 : Keeps (tsB ob sp D) W w6 := (hkW3.trans (hk4.mono fun x hx => tsB_D hx)).trans (hk6.mono fun x hx => tsB_o hx)
      have e56 := (World.cell?_of_block (a := ⟨gn, 5, none⟩) (hkW6.block gn HGI.out hgB)).trans (cells6 HNW.out).2.2.2.2.2
      have hcd6 := (hkv1.keep hkW6).cell (m := 0) (c := c) rfl
      rw [Nat.add_zero] at hcd6
      clear hk6
      go_wp2_with fail
      refine (IHT c hck w6 b bp p D E ob sp keep g (acc' ++ [32]) l' i' cut t1 ev1 hS6 HTN1.out HP.out.1 (by have h1 := HCUT.out.2.1; have := HIJ.out; omega) hg (by have := HB.out; have := HTN.out.2.2; simp only [List.length_append, List.length_cons, List.length_nil]; omega)).mono ?_
      rintro e w7 ⟨rfl, hS7, hk7⟩
      have hL7 : RJ W w7 b bp s p nds D E ob sp keep g c j (acc ++ [40, 114] ++ t) (evs l ev) (mn' - 1) (less mx') cut (acc' ++ [32] ++ t1) (evs l' ev1) u1 fv1 :=
       ⟨hS7, HTN2.out, HP.out.2, by rw [← HTX.out.1, HEU.out.1]; simp, by rw [← HTX.out.2, HEU.out.2, evs_app], hkW6.trans hk7, by have := HBN.out; rw [HLE.out]; omega⟩
      rw [HLE.out] at hL7
      clear hS6 hS7 hk7 hkW6 e56 hcd6
      go_wp2_with fail
      first
       | exact ⟨⟨_, _, cut, _, _, _, _, rfl, rfl, rfl, hL7⟩, by have := HDEC.out; simp [intOf]; omega⟩
       | (go_roundw
          case rel => exact ⟨_, _, cut, _, _, _, _, rfl, rfl, rfl, hL7⟩
          case measure => have := HDEC.out; simp [intOf]; omega)
    have hgt' : (i' : Int) < (cut : Int) := by omega
    have HCI : Hid (i' ≤ cut ∧ cut ≤ j ∧ i' < cut) := ⟨hci, hcj, hgt⟩
    have HNO : Hid (∀ z, cut < z → z ≤ j → ¬ (MN s nds (.node c) i' z ∧ TmK s nds c (mn' - 1) (less mx') z j)) := hno
    clear hgt hno hci hcj hkW4
    by_cases hm0 : 0 < mx'
    ·have HLE : Hid (less mx' = mx' - 1) := by show less mx' = mx' - 1; unfold less; rw [if_pos hm0]
     go_wp2_with fail
     refine (rtimes_any s N HN nds n IHE c hck wr b bp p D E _ hS4.tx hS4.zin (mn' - 1) _ (by have := HBN.out; omega) (by have := HBN.out; omega) (by have := HBN.out; omega) cut (by have := HIJ.out; have := HCI.out; omega)).mono ?_
     rintro e w5 ⟨v, rfl, hRS, hfr, htx5, hk5⟩
     have hS5 := hS4.ends hk5 htx5
     obtain ⟨x2, c2, f2, rfl, hR5, hx2D, hsay5⟩ := hRS
     have hRe5 := hR4.keep hk5 (by intro z hz; simp only [Value.ownBlock, Option.some.injEq] at hz; subst hz; exact hxD)
     have ha := hRe5.at (j := cut) (by have := HIJ.out; have := HCI.out; have := HN.out; omega)
     have hb := hR5.at (j := j) (by have := HIJ.out; have := HN.out; omega)
     have HSB : Hid (f2 j = true ↔ TmK s nds c (mn' - 1) (less mx') cut j) := by
      show f2 j = true ↔ TmK s nds c (mn' - 1) (less mx') cut j
      rw [HLE.out]
      exact (hsay5 j HIJ.out.2.1).trans TmN_TmK
     have hk45 := hk4.trans hk5
     have hjN : (j : Int) < (N : Int) := by have := HIJ.out; have := HN.out; omega
     have hcN : (cut : Int) < (N : Int) := by have := HIJ.out; have := HCI.out; have := HN.out; omega
     have hj0 : (0 : Int) ≤ (j : Int) := by omega
     have hc0 : (0 : Int) ≤ (cut : Int) := by omega
     have HSA : Hid (fe cut = true ↔ MN s nds (.node c) i' cut) := HSY.out cut (by have := HIJ.out; have := HCI.out; omega)
     have hsub : IntKind.i64.wrap ((cut : Int) - 1) = (cut : Int) - 1 := wrap_small (by have := HCI.out; omega) (by have := HCI.out; have := HIJ.out; omega)
     have hcast : ((cut - 1 : Nat) : Int) = (cut : Int) - 1 := by have := HCI.out; omega
     clear hR5 hS4 hR4 hk4 hk5 htx5 hfr hsay5 e54 hcd4
     cases h1 : fe cut
     ·rw [h1] at ha
      have HNO2 : Hid (∀ z, cut - 1 < z → z ≤ j → ¬ (MN s nds (.node c) i' z ∧ TmK s nds c (mn' - 1) (less mx') z j)) := by
       intro z hz hzj
       by_cases hzc : z = cut
       ·subst hzc; intro hh; have := HSA.out.2 hh.1; rw [h1] at this; cases this
       ·exact HNO.out z (by omega) hzj
      clear h1
      go_wp2_with fail
      first
       | exact ⟨⟨cut - 1, by rw [hcast], by have := HCI.out; omega, by have := HCI.out; omega, HNO2.out, hS5, hRe5, hk45⟩, by have := HCI.out; simp [intOf]; omega⟩
       | (go_roundw
          case rel => exact ⟨cut - 1, by rw [hcast], by have := HCI.out; omega, by have := HCI.out; omega, HNO2.out, hS5, hRe5, hk45⟩
          case measure => have := HCI.out; simp [intOf]; omega)
     ·rw [h1] at ha
      cases h2 : f2 j
      ·rw [h2] at hb
       have HNO2 : Hid (∀ z, cut - 1 < z → z ≤ j → ¬ (MN s nds (.node c) i' z ∧ TmK s nds c (mn' - 1) (less mx') z j)) := by
        intro z hz hzj
        by_cases hzc : z = cut
        ·subst hzc; intro hh; have := HSB.out.2 hh.2; rw [h2] at this; cases this
        ·exact HNO.out z (by omega) hzj
       clear h1 h2
       go_wp2_with fail
       first
        | exact ⟨⟨cut - 1, by rw [hcast], by have := HCI.out; omega, by have := HCI.out; omega, HNO2.out, hS5, hRe5, hk45⟩, by have := HCI.out; simp [intOf]; omega⟩
        | (go_roundw
           case rel => exact ⟨cut - 1, by rw [hcast], by have := HCI.out; omega, by have := HCI.out; omega, HNO2.out, hS5, hRe5, hk45⟩
           case measure => have := HCI.out; simp [intOf]; omega)
      ·rw [h2] at hb
       have HCQ : Hid (cut = cq) := (show Cut _ i' j cut from ⟨HCI.out.1, HCI.out.2.1, fun _ => ⟨HSA.out.1 h1, HSB.out.1 h2⟩, HNO.out⟩).one HCUT.out
       clear h1 h2
       obtain rfl := HCQ.out
       go_wp2_with fail
       refine (tsay hS5 [32] (by have := HB.out; have := HTN.out.2.2; simp only [List.length_cons, List.length_nil]; omega)).mono ?_
       rintro e w6 ⟨rfl, hS6, hk6⟩
       have hkW6 : Keeps (tsB ob sp D) W w6 := (hkW3.trans (hk45.mono fun x hx => tsB_D hx)).trans (hk6.mono fun x hx => tsB_o hx)
       have e56 := (World.cell?_of_block (a := ⟨gn, 5, none⟩) (hkW6.block gn HGI.out hgB)).trans (cells6 HNW.out).2.2.2.2.2
       have hcd6 := (hkv1.keep hkW6).cell (m := 0) (c := c) rfl
       rw [Nat.add_zero] at hcd6
       clear hk6
       go_wp2_with fail
       refine (IHT c hck w6 b bp p D E ob sp keep g (acc' ++ [32]) l' i' cut t1 ev1 hS6 HTN1.out HP.out.1 (by have h1 := HCUT.out.2.1; have := HIJ.out; omega) hg (by have := HB.out; have := HTN.out.2.2; simp only [List.length_append, List.length_cons, List.length_nil]; omega)).mono ?_
       rintro e w7 ⟨rfl, hS7, hk7⟩
       have hL7 : RJ W w7 b bp s p nds D E ob sp keep g c j (acc ++ [40, 114] ++ t) (evs l ev) (mn' - 1) (less mx') cut (acc' ++ [32] ++ t1) (evs l' ev1) u1 fv1 :=
        ⟨hS7, HTN2.out, HP.out.2, by rw [← HTX.out.1, HEU.out.1]; simp, by rw [← HTX.out.2, HEU.out.2, evs_app], hkW6.trans hk7, by have := HBN.out; rw [HLE.out]; omega⟩
       rw [HLE.out] at hL7
       clear hS6 hS7 hk7 hkW6 e56 hcd6
       go_wp2_with fail
       first
        | exact ⟨⟨_, _, cut, _, _, _, _, rfl, rfl, rfl, hL7⟩, by have := HDEC.out; simp [intOf]; omega⟩
        | (go_roundw
           case rel => exact ⟨_, _, cut, _, _, _, _, rfl, rfl, rfl, hL7⟩
           case measure => have := HDEC.out; simp [intOf]; omega)
    ·have HLE : Hid (less mx' = mx') := by show less mx' = mx'; unfold less; rw [if_neg hm0]
     go_wp2_with fail
     refine (rtimes_any s N HN nds n IHE c hck wr b bp p D E _ hS4.tx hS4.zin (mn' - 1) _ (by have := HBN.out; omega) (by have := HBN.out; omega) (by have := HBN.out; omega) cut (by have := HIJ.out; have := HCI.out; omega)).mono ?_
     rintro e w5 ⟨v, rfl, hRS, hfr, htx5, hk5⟩
     have hS5 := hS4.ends hk5 htx5
     obtain ⟨x2, c2, f2, rfl, hR5, hx2D, hsay5⟩ := hRS
     have hRe5 := hR4.keep hk5 (by intro z hz; simp only [Value.ownBlock, Option.some.injEq] at hz; subst hz; exact hxD)
     have ha := hRe5.at (j := cut) (by have := HIJ.out; have := HCI.out; have := HN.out; omega)
     have hb := hR5.at (j := j) (by have := HIJ.out; have := HN.out; omega)
     have HSB : Hid (f2 j = true ↔ TmK s nds c (mn' - 1) (less mx') cut j) := by
      show f2 j = true ↔ TmK s nds c (mn' - 1) (less mx') cut j
      rw [HLE.out]
      exact (hsay5 j HIJ.out.2.1).trans TmN_TmK
     have hk45 := hk4.trans hk5
     have hjN : (j : Int) < (N : Int) := by have := HIJ.out; have := HN.out; omega
     have hcN : (cut : Int) < (N : Int) := by have := HIJ.out; have := HCI.out; have := HN.out; omega
     have hj0 : (0 : Int) ≤ (j : Int) := by omega
     have hc0 : (0 : Int) ≤ (cut : Int) := by omega
     have HSA : Hid (fe cut = true ↔ MN s nds (.node c) i' cut) := HSY.out cut (by have := HIJ.out; have := HCI.out; omega)
     have hsub : IntKind.i64.wrap ((cut : Int) - 1) = (cut : Int) - 1 := wrap_small (by have := HCI.out; omega) (by have := HCI.out; have := HIJ.out; omega)
     have hcast : ((cut - 1 : Nat) : Int) = (cut : Int) - 1 := by have := HCI.out; omega
     clear hR5 hS4 hR4 hk4 hk5 htx5 hfr hsay5 e54 hcd4
     cases h1 : fe cut
     ·rw [h1] at ha
      have HNO2 : Hid (∀ z, cut - 1 < z → z ≤ j → ¬ (MN s nds (.node c) i' z ∧ TmK s nds c (mn' - 1) (less mx') z j)) := by
       intro z hz hzj
       by_cases hzc : z = cut
       ·subst hzc; intro hh; have := HSA.out.2 hh.1; rw [h1] at this; cases this
       ·exact HNO.out z (by omega) hzj
      clear h1
      go_wp2_with fail
      first
       | exact ⟨⟨cut - 1, by rw [hcast], by have := HCI.out; omega, by have := HCI.out; omega, HNO2.out, hS5, hRe5, hk45⟩, by have := HCI.out; simp [intOf]; omega⟩
       | (go_roundw
          case rel => exact ⟨cut - 1, by rw [hcast], by have := HCI.out; omega, by have := HCI.out; omega, HNO2.out, hS5, hRe5, hk45⟩
          case measure => have := HCI.out; simp [intOf]; omega)
     ·rw [h1] at ha
      cases h2 : f2 j
      ·rw [h2] at hb
       have HNO2 : Hid (∀ z, cut - 1 < z → z ≤ j → ¬ (MN s nds (.node c) i' z ∧ TmK s nds c (mn' - 1) (less mx') z j)) := by
        intro z hz hzj
        by_cases hzc : z = cut
        ·subst hzc; intro hh; have := HSB.out.2 hh.2; rw [h2] at this; cases this
        ·exact HNO.out z (by omega) hzj
       clear h1 h2
       go_wp2_with fail
       first
        | exact ⟨⟨cut - 1, by rw [hcast], by have := HCI.out; omega, by have := HCI.out; omega, HNO2.out, hS5, hRe5, hk45⟩, by have := HCI.out; simp [intOf]; omega⟩
        | (go_roundw
           case rel => exact ⟨cut - 1, by rw [hcast], by have := HCI.out; omega, by have := HCI.out; omega, HNO2.out, hS5, hRe5, hk45⟩
           case measure => have := HCI.out; simp [intOf]; omega)
      ·rw [h2] at hb
       have HCQ : Hid (cut = cq) := (show Cut _ i' j cut from ⟨HCI.out.1, HCI.out.2.1, fun _ => ⟨HSA.out.1 h1, HSB.out.1 h2⟩, HNO.out⟩).one HCUT.out
       clear h1 h2
       obtain rfl := HCQ.out
       go_wp2_with fail
       refine (tsay hS5 [32] (by have := HB.out; have := HTN.out.2.2; simp only [List.length_cons, List.length_nil]; omega)).mono ?_
       rintro e w6 ⟨rfl, hS6, hk6⟩
       have hkW6 : Keeps (tsB ob sp D) W w6 := (hkW3.trans (hk45.mono fun x hx => tsB_D hx)).trans (hk6.mono fun x hx => tsB_o hx)
       have e56 := (World.cell?_of_block (a := ⟨gn, 5, none⟩) (hkW6.block gn HGI.out hgB)).trans (cells6 HNW.out).2.2.2.2.2
       have hcd6 := (hkv1.keep hkW6).cell (m := 0) (c := c) rfl
       rw [Nat.add_zero] at hcd6
       clear hk6
       go_wp2_with fail
       refine (IHT c hck w6 b bp p D E ob sp keep g (acc' ++ [32]) l' i' cut t1 ev1 hS6 HTN1.out HP.out.1 (by have h1 := HCUT.out.2.1; have := HIJ.out; omega) hg (by have := HB.out; have := HTN.out.2.2; simp only [List.length_append, List.length_cons, List.length_nil]; omega)).mono ?_
       rintro e w7 ⟨rfl, hS7, hk7⟩
       have hL7 : RJ W w7 b bp s p nds D E ob sp keep g c j (acc ++ [40, 114] ++ t) (evs l ev) (mn' - 1) (less mx') cut (acc' ++ [32] ++ t1) (evs l' ev1) u1 fv1 :=
        ⟨hS7, HTN2.out, HP.out.2, by rw [← HTX.out.1, HEU.out.1]; simp, by rw [← HTX.out.2, HEU.out.2, evs_app], hkW6.trans hk7, by have := HBN.out; rw [HLE.out]; omega⟩
       rw [HLE.out] at hL7
       clear hS6 hS7 hk7 hkW6 e56 hcd6
       go_wp2_with fail
       first
        | exact ⟨⟨_, _, cut, _, _, _, _, rfl, rfl, rfl, hL7⟩, by have := HDEC.out; simp [intOf]; omega⟩
        | (go_roundw
           case rel => exact ⟨_, _, cut, _, _, _, _, rfl, rfl, rfl, hL7⟩
           case measure => have := HDEC.out; simp [intOf]; omega)
end Go.Proofs.YtnfojonmohijpaaGreatDoor
namespace Go.Proofs.YtnfojonmohijpaaGreatDoor
open Go.RowKit
set_option maxRecDepth 100000 in
set_option maxHeartbeats 2000000 in
theorem tree_rep (s : ByteArray) (N : Nat) (HN : Hid (N = s.size + 1)) (nds : List Nd) (hn : nds.length ≤ 1000) (n : Nat) (IHE : EndsOk s nds n) (IHT : TreeOk s nds n) (k : Nat) (nd : Nd) (hk : nds[k]? = some nd) (hkind : nd.kind = 114) (c : Nat) (HC : Hid (nd.kids = [c])) (hck : NK nds n c) (hmn : Hid (nd.mn ≤ 5)) (hmx : Hid (-1 ≤ nd.mx ∧ nd.mx ≤ 5)) (hlm : Hid (nd.mx < 0 ∨ (nd.mn : Int) ≤ nd.mx)) (hkl : nd.kids.length ≤ 1000)
    (w : World) (b bp : Nat) (p : PS) (D : List Nat) (E : Value) (ob : Nat) (sp : Value) (keep : Bool) (g : Nat) (acc : List UInt8) (l : List Int) (i j : Nat) (t : List UInt8) (ev : List (Nat × Nat × Nat)) (hS : TS w b bp s p nds D E ob sp keep g acc l) (hij : i ≤ j) (hj : j ≤ s.size) (hg : g ≤ 9)
    (HTN : Hid (TN s nds g (.times c nd.mn nd.mx) i j t ev)) (HMN : Hid (TmK s nds c nd.mn nd.mx i j)) (hlen : acc.length + ([40, 114] ++ t ++ [41]).length ≤ 4611686018427387904) :
    Calls Tryz.prog 88 #[.pointer (some ⟨b, 0, none⟩), .int .i64 k, .int .i64 i, .int .i64 j, .pointer (some ⟨ob, 0, none⟩)] w (TPo w b bp s p nds D E ob sp keep g acc l ([40, 114] ++ t ++ [41]) (ev)) := by
 obtain ⟨x0, x1, x2, x3⟩ := hS.tx.xb.main
 obtain ⟨g', cap', hv, kv, hform, hkn, hH, hK, c0, c1, c2, c3, c4, c5⟩ := hS.tx.nodes.node hk
 rw [hkind] at c0
 obtain ⟨n1, _⟩ := hS.tx.pb.nodes
 rw [hform] at n1
 obtain ⟨ha, hn2, hc2, rfl⟩ := hH.1
 have HKV : Hid (KV w (tsB ob sp D) kv nd.kids) := hK.kv2 hkl
 obtain ⟨ka, kc, rfl, hcap⟩ := hK.cap
 have hs := hS.tx.small
 have hk0' : (0 : Int) ≤ (k : Int) := by omega
 have hk1' : (k : Int) < (nds.length : Int) := by omega
 have hk2' : (nds.length : Int) ≤ 1000 := by omega
 have hkl' : (nd.kids.length : Int) ≤ 1000 := by omega
 have HIJ : Hid (i ≤ j ∧ j ≤ s.size ∧ s.size ≤ 100) := ⟨hij, hj, hs⟩
 have HS : Hid (TS w b bp s p nds D E ob sp keep g acc l) := hS
 have hWk := (Keeps.refl [] w).alloc (.cells #[.int .u8 114, .slice ha hn2 hc2, .int .i64 nd.n, .int .i64 nd.mn, .int .i64 nd.mx, .slice ka nd.kids.length kc] 157)
 have hnew := heap_alloc_new w (.cells #[.int .u8 114, .slice ha hn2 hc2, .int .i64 nd.n, .int .i64 nd.mn, .int .i64 nd.mx, .slice ka nd.kids.length kc] 157)
 have HL : Hid (acc.length + ([40, 114] ++ t ++ [41]).length ≤ 4611686018427387904) := hlen
 clear hS hk hij hj hs hform hH hK hkn hkind hn hkl x2 x3 hlen
 go_enter Tryz.func88, Tryz.ntmps88
 go_upto_region 1 with (fail)
 clear c0 c1 c2 c3 c4 c5 n1 x0 x1
 generalize w.alloc (.cells #[.int .u8 114, .slice ha hn2 hc2, .int .i64 nd.n, .int .i64 nd.mn, .int .i64 nd.mx, .slice ka nd.kids.length kc] 157) = W at *
 obtain ⟨gn, hgn⟩ : ∃ gn, gn = w.heap.size := ⟨_, rfl⟩
 rw [← hgn] at hnew ⊢
 have hS1 := HS.out.new hWk
 have hgB : gn ∉ tsB ob sp D := by
  intro hm
  have h0 := HS.out
  simp only [tsB, List.mem_cons, List.mem_append, Option.mem_toList] at hm
  rcases hm with h | h | h
  ·have := h0.ot.lt; omega
  ·have := (h0.row.lt _ h).2; omega
  ·have := h0.tx.dlt _ h; omega
 clear hgn
 have e0 : W.cell? ⟨gn, 0, none⟩ = some (.int .u8 114) := by rw [Lib.cell_of_heap hnew]; rfl
 have HNW : Hid (W.heap[gn]? = some (.cells #[.int .u8 114, .slice ha hn2 hc2, .int .i64 nd.n, .int .i64 nd.mn, .int .i64 nd.mx, .slice ka nd.kids.length kc] 157 (0, 0))) := hnew
 have HGI : Hid (gn < W.heap.size) := (Array.getElem?_eq_some_iff.1 hnew).1
 have hkv1 := HKV.out.keep (hWk.mono (by simp))
 clear hnew
 obtain ⟨q0, q1, q2, q3, q4, q5⟩ := cells6 HNW.out
 clear e0
 go_upto_region 22 with (fail)
 go_wp2_with fail
 refine (trep_any s N HN nds n IHE IHT c hck nd.mn nd.mx hmn.out hmx.out hlm.out 114 nd.n (.slice ha hn2 hc2) rfl ka nd.kids.length kc (by rw [HC.out]; simp) W b bp p D E ob sp keep g acc l i j t ev hS1 (by have := hkv1; rw [HC.out] at this ⊢; exact this) HTN.out HMN.out HIJ.out.2.1 hg (by have := HL.out; simp only [List.length_append, List.length_cons, List.length_nil] at this; omega)).mono ?_
 rintro e w3 ⟨rfl, hS3, hk3⟩
 have hkE : Keeps (tsB ob sp D) w w3 := (hWk.mono (by simp)).trans hk3
 clear q0 q1 q2 q3 q4 q5 hS1 hk3
 go_wp2_with fail
 go_end0
 exact ⟨rfl, hS3, hkE⟩
end Go.Proofs.YtnfojonmohijpaaGreatDoor
namespace Go.Proofs.YtnfojonmohijpaaGreatDoor
open Go.RowKit
theorem tree_all (s : ByteArray) (nds : List Nd) (hn : nds.length ≤ 1000) : ∀ n, n ≤ 1000 → TreeOk s nds n := by
 intro n
 induction n with
 | zero => intro _ k hk; obtain ⟨kd, x, _, _, h, _⟩ := hk; exact absurd h (Nat.not_lt_zero _)
 | succ n IH =>
  intro hn1 k hk w b bp p D E ob sp keep g acc l i j t ev hS hT hM hj hg hlen
  have IHT := IH (by omega)
  have IHE := ends_all s nds hn n (by omega)
  obtain ⟨kd, x, h1, h2, h3, h4, h5⟩ := hk
  obtain ⟨nd, hnd, hsub⟩ := NK.cases x.sz h1 h2 (Nat.le_refl _) h4 h5
  have hsub := hsub.up (m := n) (by omega)
  have hij := hM.le
  cases hT with
  | byte _ nd' _ _ e hk =>
   cases hnd.symm.trans e
   have hil : i < s.size := ((MN.byte_iff hnd hk).1 hM).1
   have hkl : nd.kids.length ≤ 1000 := by
    rcases hsub with ⟨_, h⟩ | ⟨h, _⟩ | ⟨h, _⟩ | ⟨h, _⟩
    ·rw [h]; simp
    ·omega
    ·omega
    ·omega
   exact tree_byte s (s.size + 1) rfl nds hn n IHE IHT k nd hnd hk hkl w b bp p D E ob sp keep g acc l i j hS hij hj hg hil hlen
  | grp _ nd' c _ _ t ev e hk hc hn0 h =>
   cases hnd.symm.trans e
   have hck : NK nds n c := by
    rcases hsub with ⟨h, _⟩ | ⟨_, c', h, hc'⟩ | ⟨h, _⟩ | ⟨h, _⟩
    ·omega
    ·rw [hc] at h; cases h; exact hc'
    ·omega
    ·omega
   exact tree_grp s (s.size + 1) rfl nds hn n IHE IHT k nd hnd hk c hc hck (by rw [hc]; simp) w b bp p D E ob sp keep g acc l i j t ev hS hij hj hg hn0 h ((MN.grp_iff hnd hk hc).1 hM) hlen
  | alt _ nd' _ _ _ _ e hk h =>
   cases hnd.symm.trans e
   rcases hsub with ⟨h', _⟩ | ⟨h', _⟩ | ⟨h', _⟩ | ⟨h' | ⟨_, h99⟩, hl, hkids⟩
   ·omega
   ·omega
   ·omega
   ·omega
   ·exact tree_alt s (s.size + 1) rfl nds hn n IHE IHT k nd hnd hk hkids h99 (by omega) w b bp p D E ob sp keep g acc l i j t ev hS hij hj hg h hlen
  | none _ nd' _ _ e hk h0 =>
   cases hnd.symm.trans e
   exact tree_none s (s.size + 1) rfl nds hn n IHE IHT k nd hnd hk h0 (by rw [h0]; simp) w b bp p D E ob sp keep g acc l i j hS hij hj hg hlen
  | way _ nd' _ _ t _ e hk hne h =>
   cases hnd.symm.trans e
   rcases hsub with ⟨h', _⟩ | ⟨h', _⟩ | ⟨h', _⟩ | ⟨h' | ⟨h', _⟩, hl, hkids⟩
   ·omega
   ·omega
   ·omega
   ·exact tree_way s (s.size + 1) rfl nds hn n IHE IHT k nd hnd hk hkids hne (by omega) w b bp p D E ob sp keep g acc l i j t ev hS hij hj hg h ((MN.way_iff hnd hk).1 hM) hlen
   ·omega
  | rep _ nd' c _ _ t _ e hk hc h =>
   cases hnd.symm.trans e
   rcases hsub with ⟨h', _⟩ | ⟨h', _⟩ | ⟨_, e1, e2, e3, c', hkc, hck⟩ | ⟨h' | ⟨h', _⟩, hl, hkids⟩
   ·omega
   ·omega
   ·rw [hc] at hkc
    cases hkc
    obtain ⟨q, a, d, hit⟩ := (MN.rep_iff hnd hk hc).1 hM
    have hTm : TmK s nds c nd.mn nd.mx i j := ⟨q, a, d, (MN.it_iff (fun _ _ => Iff.rfl) q i j).2 hit⟩
    exact tree_rep s (s.size + 1) rfl nds hn n IHE IHT k nd hnd hk c hc hck e1 ⟨e2, e3.1⟩ e3.2 (by rw [hc]; simp) w b bp p D E ob sp keep g acc l i j t ev hS hij hj hg h hTm hlen
   ·omega
   ·omega
end Go.Proofs.YtnfojonmohijpaaGreatDoor
