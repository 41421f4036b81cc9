/-
  DERIVED. The reference's 'fits' at a set of bytes. Conditions: the pattern lies in memory as it was read (PB, NInv); the tree's text is at most 20000 bytes long.
-/
import Derived.Test.YtnfojonmohijpaaGreatDoorJWQ
import Derived.Test.YtnfojonmohijpaaGreatDoorJMO
import Derived.Test.YtnfojonmohijpaaGreatDoorJMC
import Derived.Test.YtnfojonmohijpaaGreatDoorJWM
import Derived.Test.YtnfojonmohijpaaGreatDoorJUG
set_option linter.unusedSimpArgs false
set_option linter.unusedVariables false
namespace Go.Proofs.YtnfojonmohijpaaGreatDoor
open Go.RowKit
def hexD (c : UInt8) : Nat := if c.toNat < 58 then c.toNat - 48 else c.toNat - 87
def hexV : List UInt8 → Nat
 | [a, b] => hexD a * 16 + hexD b
 | _ => 0
set_option maxRecDepth 100000 in
theorem hexV_hex (b : Nat) (h : b < 256) : hexV (hexT b) = b := by
 have key : ∀ a : Fin 256, hexV (hexT a.val) = a.val := by decide
 exact key ⟨b, h⟩
theorem text_byte {t : Tr} (h : TO true t) {b : Nat} (hb : b < 256) (e : t.text = 98 :: hexT b) : t = .tbyte b := by
 cases h with
 | tbyte c hc =>
  have e' : hexT c = hexT b := by simpa [Tr.text] using e
  have : c = b := by rw [← hexV_hex c hc, ← hexV_hex b hb, e']
  rw [this]
 | _ => simp [Tr.text] at e
set_option maxRecDepth 100000 in
set_option maxHeartbeats 4000000 in
theorem fits_byte (nds : List Nd) (hn : nds.length ≤ 1000) (n : Nat) (IH : FitOk nds n) (k : Nat) (nd : Nd) (hk : nds[k]? = some nd) (hkind : nd.kind = 98) (hkl : nd.kids.length ≤ 1000)
    (w : World) (bp : Nat) (p : PS) (t : Tr) (hpb : PB w bp p) (hni : NInv w bp [] p.nodes nds) (ht : TO true t) (hl : t.text.length ≤ 20000) :
    Calls Tryz.prog 91 #[.pointer (some ⟨bp, 0, none⟩), .int .i64 k, .string (nmB t.text)] w (FitA nds k t w) := by
 obtain ⟨g', cap', hv, kv, hform, hkn, hH, hK, c0, c1, c2, c3, c4, c5⟩ := hni.node hk
 rw [hkind] at c0
 obtain ⟨n1, _⟩ := hpb.nodes
 rw [hform] at n1
 obtain ⟨ha, hn2, hc2, rfl⟩ := hH.1
 have HHV : Hid (HoldsV w (avoA bp [] p.nodes) (.slice ha hn2 hc2) nd) := hH
 have hkr := hK.kr
 obtain ⟨ka, kc, rfl, _⟩ := hK.form
 have HKR : Hid (KR w (.slice ka nd.kids.length kc) nd.kids) := hkr
 have hk0' : (0 : Int) ≤ (k : Int) := by omega
 have hk1' : (k : Int) < (nds.length : Int) := by omega
 have hk2' : (nds.length : Int) ≤ 1000 := by omega
 have hkl' : (nd.kids.length : Int) ≤ 1000 := by omega
 have HI : Hid (PB w bp p ∧ NInv w bp [] p.nodes nds) := ⟨hpb, hni⟩
 have HT : Hid (TO true t ∧ t.text.length ≤ 20000) := ⟨ht, hl⟩
 have HK : Hid (nds[k]? = some nd ∧ nd.kind = 98) := ⟨hk, hkind⟩
 have hWk := (Keeps.refl [] w).alloc (.cells #[.int .u8 98, .slice ha hn2 hc2, .int .i64 nd.n, .int .i64 nd.mn, .int .i64 nd.mx, .slice ka nd.kids.length kc] 157)
 have hnew := heap_alloc_new w (.cells #[.int .u8 98, .slice ha hn2 hc2, .int .i64 nd.n, .int .i64 nd.mn, .int .i64 nd.mx, .slice ka nd.kids.length kc] 157)
 obtain ⟨x, hx⟩ : ∃ x, t.text = x := ⟨_, rfl⟩
 obtain ⟨H, hH0⟩ : ∃ H, headT t = H := ⟨_, rfl⟩
 obtain ⟨KL, hKL⟩ : ∃ L, kidL t = L := ⟨_, rfl⟩
 have hkids := kids_any t ht hl
 rw [hx] at hkids ⊢
 rw [hH0, hKL] at hkids
 have hKn := kid_count ht
 rw [hKL] at hKn
 have hKn' : (KL.length : Int) ≤ 20000 := by omega
 have HX : Hid (t.text = x ∧ headT t = H ∧ kidL t = KL) := ⟨hx, hH0, hKL⟩
 clear hpb hni hk hform hH hK hkn hkind hn hkl ht hl hkr hx hH0 hKL hKn
 go_enter Tryz.func91, Tryz.ntmps91
 go_upto_region 2 with (fail)
 clear c0 c1 c2 c3 c4 c5 n1
 generalize w.alloc (.cells #[.int .u8 98, .slice ha hn2 hc2, .int .i64 nd.n, .int .i64 nd.mn, .int .i64 nd.mx, .slice ka nd.kids.length kc] 157) = W at *
 obtain ⟨gn, hgn⟩ : ∃ gn, gn = w.heap.size := ⟨_, rfl⟩
 rw [← hgn] at hnew ⊢
 clear hgn
 go_upto_region 3 with (first | (go_at_call 145; refine (hkids W).mono ?_; rintro e w1 ⟨v, rfl, hrow, hk1⟩))
 have HSR : Hid (SR w1 v KL) := hrow.sr
 have hSR := hrow.sr
 obtain ⟨va, vc, rfl, _⟩ := hSR
 have hk1w := hWk.trans hk1
 have hB : w1.heap[gn]? = some (.cells #[.int .u8 98, .slice ha hn2 hc2, .int .i64 nd.n, .int .i64 nd.mn, .int .i64 nd.mx, .slice ka nd.kids.length kc] 157 (0, 0)) := (hk1.block gn (Array.getElem?_eq_some_iff.1 hnew).1 (by simp)).trans hnew
 have HKR1 : Hid (KR w1 (.slice ka nd.kids.length kc) nd.kids) := HKR.out.keep hk1w
 obtain ⟨e0, e1, e2, e3, e4, e5⟩ := cells6 hB
 have HB1 : Hid (w1.heap[gn]? = some (.cells #[.int .u8 98, .slice ha hn2 hc2, .int .i64 nd.n, .int .i64 nd.mn, .int .i64 nd.mx, .slice ka nd.kids.length kc] 157 (0, 0))) := hB
 clear hrow hnew hWk hk1 hB hkids
 go_upto_region 5 with (fail)
 obtain ⟨q, eh, hHB, _⟩ := HHV.out.2 HK.out.2
 simp only [Value.slice.injEq] at eh
 obtain ⟨rfl, rfl, rfl⟩ := eh
 have HHB : Hid (HB w q nd.f) := hHB
 have HF0 : Hid (FN nds k t ↔ ∃ b, b < 256 ∧ nd.f b = true ∧ x = 98 :: hexT b) := by
  show FN nds k t ↔ _
  rw [FN.byte_iff HK.out.1 HK.out.2, ← HX.out.1]
  constructor
  ·rintro ⟨b, rfl, h1, h2⟩
   exact ⟨b, h1, h2, rfl⟩
  ·rintro ⟨b, h1, h2, h3⟩
   exact ⟨b, text_byte HT.out.1 h1 h3, h1, h2⟩
 clear hHB
 go_upto_region 7 with (fail)
 clear e0 e1 e2 e3 e4 e5
 go_loopw [11] (fun q11 wr => ∃ i : Nat, q11 = .int .i64 i ∧ i ≤ 256 ∧ (∀ b, b < i → ¬ (nd.f b = true ∧ x = 98 :: hexT b)) ∧ Keeps [] w1 wr) (fun q _ => 256 - (intOf q).toNat)
 case atStart => exact ⟨0, rfl, Nat.zero_le _, fun b h => absurd h (Nat.not_lt_zero _), Keeps.refl _ _⟩
 case round =>
  obtain ⟨i, rfl, hi, hall, hkr⟩ := hrel
  have hi0 : (0 : Int) ≤ (i : Int) := by omega
  have HA : Hid (∀ b, b < i → ¬ (nd.f b = true ∧ x = 98 :: hexT b)) := hall
  have hkw := hk1w.trans hkr
  clear hall
  by_cases hlt : i < 256
  ·have hltI : (i : Int) < 256 := by omega
   have HBr := (hkr.block gn (Array.getElem?_eq_some_iff.1 HB1.out).1 (by simp)).trans HB1.out
   obtain ⟨_, f1, _⟩ := cells6 HBr
   have hcell := (HHB.out.keep hkw (by simp)).cell hlt
   obtain ⟨HE, hHE⟩ : ∃ l, hexT i = l := ⟨_, rfl⟩
   have HHE : Hid (hexT i = HE) := hHE
   have hcall := hexes_any i (by omega) wr
   have hcall' : Calls Tryz.prog 140 #[.int .i64 i] wr fun e w' => e = .returned (.string (nmB HE)) ∧ ∃ n, w' = wr.drewN n := by rw [← hHE]; exact hcall
   have hcat := cat98 HE
   have hsz' : ¬ 9223372036854775807 < 1 + (nmB HE).size := by rw [nmB_size, ← hHE]; simp [hexT]
   obtain ⟨fi, hfi⟩ : ∃ b, nd.f i = b := ⟨_, rfl⟩
   rw [hfi] at hcell
   have HFI : Hid (nd.f i = fi) := hfi
   have HLT : Hid (i < 256) := hlt
   clear hcall hHE hfi HBr hlt hi
   cases fi with
   | false =>
    go_wp2_with fail
    exact ⟨⟨i + 1, (by first | exact congrArg (Value.int .i64) (by omega) | omega), by have := HLT.out; omega, fun b hb h => by
      rcases Nat.lt_or_ge b i with h1 | h1
      · exact HA.out b h1 h
      · obtain rfl : b = i := by omega
        rw [HFI.out] at h
        exact absurd h.1 (by simp), hkr⟩, by have := HLT.out; simp [intOf]; omega⟩
   | true =>
    by_cases hx1 : x = 98 :: HE
    ·have hq : ((nmB x).toList == (nmB (98 :: HE)).toList) = true := by rw [eqL]; simpa using hx1
     have HF : Hid (FN nds k t) := HF0.out.2 ⟨i, HLT.out, HFI.out, by rw [HHE.out]; exact hx1⟩
     clear hx1
     go_wp2_with (first | (go_at_call 140; refine hcall'.mono ?_; rintro e w2 ⟨rfl, nn, rfl⟩))
     go_ret
     exact ⟨true, rfl, ⟨fun _ => HF.out, fun _ => rfl⟩, hkw.drewN nn⟩
    ·have hq : ((nmB x).toList == (nmB (98 :: HE)).toList) = false := by rw [eqL]; simpa using hx1
     have HN1 : Hid (¬ x = 98 :: HE) := hx1
     clear hx1
     go_wp2_with (first | (go_at_call 140; refine hcall'.mono ?_; rintro e w2 ⟨rfl, nn, rfl⟩))
     exact ⟨⟨i + 1, (by first | exact congrArg (Value.int .i64) (by omega) | omega), by have := HLT.out; omega, fun b hb h => by
       rcases Nat.lt_or_ge b i with h1 | h1
       · exact HA.out b h1 h
       · obtain rfl : b = i := by omega
         rw [HHE.out] at h
         exact HN1.out h.2, hkr.drewN nn⟩, by have := HLT.out; simp [intOf]; omega⟩
  ·have hltI : ¬ (i : Int) < 256 := by omega
   have HF : Hid (¬ FN nds k t) := fun h => by
    obtain ⟨b, h1, h2, h3⟩ := HF0.out.1 h
    exact HA.out b (by omega) ⟨h2, h3⟩
   clear hlt hi
   go_wp2_with fail
   go_ret
   exact ⟨false, rfl, ⟨(nomatch ·), fun h => absurd h HF.out⟩, hkw⟩
end Go.Proofs.YtnfojonmohijpaaGreatDoor
namespace Go.Proofs.YtnfojonmohijpaaGreatDoor
open Go.RowKit
def muW (w : World) (b : Nat) : Nat := if cellInt w b 2 < 0 then 20003 - (cellInt w b 1).toNat else 0
theorem muW_ok {w : World} {b : Nat} {p : WS} (hp : WB w b p) (hb : p.bad = -1) : muW w b = 20003 - p.ix := by
 obtain ⟨_, h1, h2, _⟩ := hp.main
 rw [hb] at h2
 simp [muW, cellInt, h1, h2, intOf]
theorem muW_bad {w : World} {b j : Nat} {p : WS} (hp : WB w b p) (hb : p.bad = (j : Int)) : muW w b = 0 := by
 obtain ⟨_, h1, h2, _⟩ := hp.main
 rw [hb] at h2
 have : ¬ (j : Int) < 0 := by omega
 simp [muW, cellInt, h1, h2, intOf, this]
theorem flats_snoc (ms : List Tr) (t : Tr) : flats (ms ++ [t]) = flats ms ++ t.flat := by simp [flats]
theorem lapp_flat : ∀ (ms : List Tr), (lapp ms .lnil).flat = flats ms
 | [] => rfl
 | t :: ms => by simp only [lapp, Tr.flat, lapp_flat ms, flats, List.flatMap_cons]
def FGG (FF : R Tr → R Tr) (GG : Tr → Tr) (c : Nat → Prop) : Prop := ∀ (ms : List Tr) (j : Nat), c ms.length → FF (.ok (lapp ms .lnil) j) = .ok (GG (lapp ms .lnil)) j ∧ (GG (lapp ms .lnil)).flat = flats ms
set_option maxRecDepth 100000 in
set_option maxHeartbeats 8000000 in
theorem inside_other (s : ByteArray) (hs : s.size ≤ 20000) (n : Nat) (IR : WRd s n) (X w : World) (b : Nat) (p : WS) (l : List UInt8) (hps : p.s = s) (hW : WI X w b p l) (hbad : p.bad = -1) (hle : p.ix ≤ s.size) (hn : s.size - p.ix < n + 1) (hdp : p.dp ≤ 60) (hll : l.length ≤ p.ix) (hc : at' p.s p.ix ≠ 103 ∧ at' p.s p.ix ≠ 114 ∧ at' p.s p.ix ≠ 115 ∧ at' p.s p.ix ≠ 97) :
    Calls Tryz.prog 144 #[.pointer (some ⟨b, 0, none⟩)] w fun e w' => e = .returned (.tuple #[]) ∧ ∃ q, TG s .body p.dp p.ix q ∧ WAft X b p l (shut s q) w' := by
 subst hps
 have hcb := at'_bd' p.s p.ix
 have hcu : p.cur = at' p.s p.ix := rfl
 have hT := wtake_tab X b p l ⟨#[103, 114, 115, 97]⟩ fG (by decide) (by rw [hcu]; exact idx_G _ hcb.1 hcb.2) w hW hbad hle hs
 rw [hcu] at hT
 have ef : fG (at' p.s p.ix) = none := by unfold fG; rw [if_neg hc.1, if_neg hc.2.1, if_neg hc.2.2.1, if_neg hc.2.2.2]
 rw [ef] at hT
 have HB0 : Hid (TG p.s .body p.dp p.ix (.bad p.ix)) := .other _ _ hc.1 hc.2.2.2 hc.2.2.1 hc.2.1
 clear hcb hcu hc ef
 go_enter Tryz.func144, Tryz.ntmps144
 go_upto_region 1 with (first | (go_at_call 143; refine hT.mono ?_; rintro e w1 ⟨rfl, hWd⟩))
 obtain ⟨pd, hpd0⟩ : ∃ q : WS, q = { p with bad := p.ix } := ⟨_, rfl⟩
 obtain ⟨jd, hjd⟩ : ∃ q, q = p.ix := ⟨_, rfl⟩
 have hpb : pd.bad = (jd : Int) := by rw [hpd0, hjd]
 have hps' : pd.s = p.s := by rw [hpd0]
 have hpd : pd.dp = p.dp := by rw [hpd0]
 rw [← hpd0] at hWd
 have HB : Hid (TG p.s .body p.dp p.ix (.bad jd)) := by rw [hjd]; exact HB0
 clear hpd0 hjd HB0
 go_upto_region 17 with (fail)
 go_loopw [6] (fun q wr => q = .int .i64 0 ∧ WI X wr b pd l) (fun _ _ => 0)
 case atStart => exact ⟨rfl, hWd⟩
 case round =>
  obtain ⟨rfl, hWr⟩ := hrel
  obtain ⟨c0, c1, c2, c3, c4, g1, g2, g3, g4⟩ := hWr.blk.main
  have hnb : decide (pd.bad < 0) = false := by rw [hpb]; simp
  have hnb' : ¬ pd.bad < 0 := by rw [hpb]; omega
  have HPB : Hid (pd.bad = (jd : Int)) := hpb
  clear hpb
  go_wp2_with fail
  go_quiet (fail)
  go_wp2_with fail
  refine (wtake_dead X b pd l ⟨#[41]⟩ _ (hWr.step (hWr.blk.drewN _) rfl ((Keeps.refl [b] wr).drewN _)) (by rw [HPB.out]; omega)).mono ?_
  rintro e w9 ⟨rfl, hW9⟩
  go_wp2_with fail
  go_end0
  exact ⟨rfl, _, HB.out, pd, l, hW9, hps', HPB.out, hpd⟩
set_option maxRecDepth 100000 in
set_option maxHeartbeats 8000000 in
theorem inside_rep (s : ByteArray) (hs : s.size ≤ 20000) (n : Nat) (IR : WRd s n) (X w : World) (b : Nat) (p : WS) (l : List UInt8) (hps : p.s = s) (hW : WI X w b p l) (hbad : p.bad = -1) (hle : p.ix ≤ s.size) (hn : s.size - p.ix < n + 1) (hdp : p.dp ≤ 60) (hll : l.length ≤ p.ix) (hc : at' p.s p.ix = 114) :
    Calls Tryz.prog 144 #[.pointer (some ⟨b, 0, none⟩)] w fun e w' => e = .returned (.tuple #[]) ∧ ∃ q, TG s .body p.dp p.ix q ∧ WAft X b p l (shut s q) w' := by
 subst hps
 have hcb := at'_bd' p.s p.ix
 have hcu : p.cur = at' p.s p.ix := rfl
 have hT := wtake_tab X b p l ⟨#[103, 114, 115, 97]⟩ fG (by decide) (by rw [hcu]; exact idx_G _ hcb.1 hcb.2) w hW hbad hle hs
 rw [hcu] at hT
 rw [hc] at hT
 have HC : Hid (at' p.s p.ix = 114) := hc
 have ef : fG 114 = some 1 := by decide
 rw [ef] at hT
 have hlt := at'_lt_of hc (by decide)
 have HL : Hid (p.ix < p.s.size) := hlt
 have hnm : p.s.size - p.ix < n + 1 := hn
 clear hcb hcu hc ef hlt
 go_enter Tryz.func144, Tryz.ntmps144
 go_upto_region 7 with (first | (go_at_call 143; refine hT.mono ?_; rintro e w1 ⟨rfl, hW1⟩))
 obtain ⟨I0, hI⟩ : ∃ I0, I0 = p.ix + 1 := ⟨_, rfl⟩
 obtain ⟨v0, hv0⟩ : ∃ v0, v0 = p.v := ⟨_, rfl⟩
 have hW0 : WI X w1 b { p with ix := I0, v := v0 } l := by rw [hI, hv0]; exact hW1
 have hI0 : I0 ≤ p.s.size := by have := HL.out; omega
 have hl0 : l.length ≤ I0 := by omega
 obtain ⟨FF, hFF⟩ : ∃ FF : R Tr → R Tr, FF = fun q => q.map .trep := ⟨_, rfl⟩
 obtain ⟨GG, hGG⟩ : ∃ GG : Tr → Tr, GG = .trep := ⟨_, rfl⟩
 have HF : Hid (∀ q, TG p.s (.row 0 true) p.dp I0 q → TG p.s .body p.dp p.ix (FF q)) := fun q h => by rw [hFF]; exact .rep _ _ _ HC.out (hI ▸ h)
 have HFB : Hid (∀ j, FF (.bad j) = .bad j) := fun j => by rw [hFF]; rfl
 have HGG : Hid (FGG FF GG (fun _ => True)) := fun ms j _ => by rw [hFF, hGG]; exact ⟨rfl, lapp_flat ms⟩
 have hnm2 : p.s.size - I0 < n := by have := HL.out; omega
 obtain ⟨c0, c1, c2, c3, c4, g1, g2, g3, g4⟩ := hW1.blk.main
 have hszm : (p.s.size : Int) ≤ 20000 := by omega
 clear hI hv0 hFF hGG
 go_upto_region 17 with (fail)
 go_loopw [6] (fun q wr => ∃ (k : Nat) (ms : List Tr), q = .int .i64 k ∧ k = ms.length ∧ ((∃ (j : Nat) (v : Value), WI X wr b { p with ix := j, v := v } (l ++ flats ms) ∧ I0 ≤ j ∧ j ≤ p.s.size ∧ (l ++ flats ms).length ≤ j ∧ k ≤ j ∧ ∀ q, TG p.s (.row (0 - k) true) p.dp j q → TG p.s (.row 0 true) p.dp I0 (q.map (lapp ms))) ∨ (∃ (p' : WS) (l' : List UInt8) (j : Nat), WI X wr b p' l' ∧ p'.s = p.s ∧ p'.bad = (j : Int) ∧ p'.dp = p.dp ∧ TG p.s (.row 0 true) p.dp I0 (.bad j)))) (fun _ wr => muW wr b)
 case atStart => exact ⟨0, [], rfl, rfl, Or.inl ⟨I0, v0, by simpa [flats] using hW0, Nat.le_refl _, hI0, by simpa [flats] using hl0, Nat.zero_le _, fun q h => by rw [map_lapp_nil]; exact h⟩⟩
 case round =>
  obtain ⟨k, ms, rfl, hkm, ⟨j, v, hWr, hIj, hjl, hlj, hkj, hsp⟩ | ⟨p', l', j, hWr, e1, e2, e3, hTB⟩⟩ := hrel
  ·have HSP : Hid (∀ q, TG p.s (.row (0 - k) true) p.dp j q → TG p.s (.row 0 true) p.dp I0 (q.map (lapp ms))) := hsp
   have hmu := muW_ok hWr.blk hbad
   have HJ : Hid (I0 ≤ j ∧ j ≤ p.s.size ∧ (l ++ flats ms).length ≤ j ∧ k ≤ j ∧ k = ms.length) := ⟨hIj, hjl, hlj, hkj, hkm⟩
   obtain ⟨c0, c1, c2, c3, c4, g1, g2, g3, g4⟩ := hWr.blk.main
   simp only [hbad] at c2
   have hji : (j : Int) ≤ 20000 := by omega
   have hj0 : (0 : Int) ≤ (j : Int) := by omega
   obtain ⟨κ, hκ⟩ : ∃ κ : Int, (k : Int) = κ := ⟨_, rfl⟩
   rw [hκ]
   have hki : κ ≤ 20000 := by omega
   have hk0 : (0 : Int) ≤ κ := by omega
   have HKA : Hid ((k : Int) = κ) := hκ
   clear hsp hIj hlj hkj hkm
   have hkL : decide (κ < 0) = false := by simp; omega
   have hkLi : ¬ κ < 0 := by omega
   by_cases h32 : at' p.s j = 32
   ·have H32 : Hid (at' p.s j = 32) := h32
    have hjlt := at'_lt_of h32 (by decide)
    have hj1 : (j : Int) < (p.s.size : Int) := by omega
    have hks : κ < (p.s.size : Int) := by have := HJ.out; omega
    have hks' : decide (κ < (p.s.size : Int)) = true := by simp; omega
    have hjs' : decide ((j : Int) < (p.s.size : Int)) = true := by simp; omega
    obtain ⟨nc, hnc⟩ : ∃ n, (p.s[j]'hjlt).toNat = n := ⟨_, rfl⟩
    have hn32 : nc = 32 := by have := at'_lt hjlt; omega
    have hq32 : ((nc : Int) == 32) = true := by simp [hn32]
    have HJL : Hid (j < p.s.size) := hjlt
    clear h32 hjl hκ hn32
    go_wp2_with fail
    go_quiet (fail)
    go_wp2_with fail
    have hWq : ∀ m, WI X (wr.drewN m) b { p with ix := j, v := v } (l ++ flats ms) := fun m => hWr.step (hWr.blk.drewN m) rfl ((Keeps.refl [b] wr).drewN m)
    have hcb := at'_bd' p.s j
    refine (wtake_tab X b { p with ix := j, v := v } (l ++ flats ms) ⟨#[32]⟩ (fO 32) (by decide) (idx_32 _ hcb.1 hcb.2) _ (hWq _) hbad HJ.out.2.1 hs).mono ?_
    have hcu : WS.cur { p with ix := j, v := v } = at' p.s j := rfl
    rw [hcu, show fO 32 (at' p.s j) = some 0 from if_pos H32.out]
    rintro e w2 ⟨rfl, hW2⟩
    have hRd := IR X w2 b { p with ix := j + 1, v := v } (l ++ flats ms) rfl hW2 hbad HJL.out (show p.s.size - (j + 1) < n by have := HJ.out; have := HJL.out; have := hnm; omega) hdp (show (l ++ flats ms).length ≤ j + 1 by have := HJ.out; omega)
    obtain ⟨d0, d1, d2, d3, d4, m1, m2, m3, m4⟩ := hW2.blk.main
    simp only [hbad] at d2
    clear hcb hcu hWq c0 c1 c2 c3 c4 g1 g2 g3 g4
    go_wp2_with fail
    refine hRd.mono ?_
    rintro e w3 ⟨rfl, q, hTG, hA⟩
    cases q with
    | bad j' =>
     obtain ⟨p', l', hW3, e1, e2, e3⟩ := hA
     have HT : Hid (TG p.s (.row 0 true) p.dp I0 (.bad j')) := HSP.out _ (.bad _ _ _ _ _ (Or.inr rfl) H32.out hTG)
     have hmu3 := muW_bad hW3.blk e2
     clear hRd hTG
     go_wp2_with fail
     go_roundw
     case rel => exact ⟨ms.length + 1, ms ++ [.tnil], congrArg (Value.int .i64) (by have h1 := HJ.out.2.2.2.2; have h2 := HKA.out; omega), by simp, Or.inr ⟨p', l', j', hW3, e1, e2, e3, HT.out⟩⟩
     case measure => have := HJ.out; rw [hmu, hmu3]; show 0 < 20003 - j; omega
    | ok t j' =>
     obtain ⟨v3, hW3⟩ := hA
     have hbd := hTG.bd HJL.out
     have hfl := hTG.flat _ _ rfl HJL.out
     have HBD : Hid (j + 1 < j' ∧ j' ≤ p.s.size ∧ t.flat.length + (j + 1) ≤ j') := ⟨hbd.2.2 rfl, hbd.2.1, hfl⟩
     have HTG : Hid (TG p.s .thing p.dp (j + 1) (.ok t j')) := hTG
     have hmu3 := muW_ok hW3.blk hbad
     have hW4 : WI X w3 b { p with ix := j', v := v3 } (l ++ flats (ms ++ [t])) := by rw [flats_snoc, ← List.append_assoc]; exact hW3
     clear hbd hfl hRd hTG
     go_wp2_with fail
     go_roundw
     case rel => exact ⟨ms.length + 1, ms ++ [t], congrArg (Value.int .i64) (by have h1 := HJ.out.2.2.2.2; have h2 := HKA.out; omega), by simp, Or.inl ⟨j', v3, hW4, by have := HJ.out; have := HBD.out; omega, HBD.out.2.1, by
       have h1 := HJ.out
       have h2 := HBD.out
       rw [flats_snoc]
       simp only [List.length_append] at h1 ⊢
       omega, by have := HJ.out; have := HBD.out; omega, fun q hq => by
       rw [← map_lapp_snoc]
       have h5 := HJ.out.2.2.2.2
       exact HSP.out _ (.go _ _ _ _ _ _ _ (Or.inr rfl) H32.out HTG.out (by rw [show 0 - k - 1 = 0 - (ms.length + 1) by omega]; exact hq))⟩⟩
     case measure => have := HJ.out; have := HBD.out; rw [hmu, hmu3]; show 20003 - j' < 20003 - j; omega
   ·have H32 : Hid (at' p.s j ≠ 32) := h32
    by_cases hjlt : j < p.s.size
    ·have hj1 : (j : Int) < (p.s.size : Int) := by omega
     have hjs' : decide ((j : Int) < (p.s.size : Int)) = true := by simp; omega
     have hks : κ < (p.s.size : Int) := by have := HJ.out; omega
     have hks' : decide (κ < (p.s.size : Int)) = true := by simp; omega
     obtain ⟨nc, hnc⟩ : ∃ n, (p.s[j]'hjlt).toNat = n := ⟨_, rfl⟩
     have hq32 : ((nc : Int) == 32) = false := by have := at'_lt hjlt; have := H32.out; simp; omega
     have hq32' : (nc == 32) = false := by have := at'_lt hjlt; have := H32.out; simp; omega
     have HJL : Hid (j < p.s.size) := hjlt
     have HQ : Hid (TG p.s .body p.dp p.ix (FF (.ok (lapp ms .lnil) j))) := HF.out _ (HSP.out (.ok .lnil j) (by rw [show 0 - k = 0 by omega]; exact .stop _ _ H32.out))
     have HFL : Hid (FF (.ok (lapp ms .lnil) j) = .ok (GG (lapp ms .lnil)) j ∧ (GG (lapp ms .lnil)).flat = flats ms) := HGG.out ms j (by first | trivial | (have := HJ.out.2.2.2.2; omega))
     clear hκ
     go_wp2_with fail
     go_quiet (fail)
     go_wp2_with fail
     have hWq : ∀ m, WI X (wr.drewN m) b { p with ix := j, v := v } (l ++ flats ms) := fun m => hWr.step (hWr.blk.drewN m) rfl ((Keeps.refl [b] wr).drewN m)
     have hcb := at'_bd' p.s j
     refine (wtake_tab X b { p with ix := j, v := v } (l ++ flats ms) ⟨#[41]⟩ (fO 41) (by decide) (idx_41 _ hcb.1 hcb.2) _ (hWq _) hbad HJ.out.2.1 hs).mono ?_
     have hcu : WS.cur { p with ix := j, v := v } = at' p.s j := rfl
     rw [hcu]
     by_cases h41 : at' p.s j = 41
     ·rw [show fO 41 (at' p.s j) = some 0 from if_pos h41]
      rintro e w2 ⟨rfl, hW2⟩
      have HS : Hid (shut p.s (FF (.ok (lapp ms .lnil) j)) = .ok (GG (lapp ms .lnil)) (j + 1)) := by
       show shut p.s _ = _
       rw [HFL.out.1]
       exact if_pos h41
      clear hcb hcu h41
      go_wp2_with fail
      go_end0
      refine ⟨rfl, _, HQ.out, ?_⟩
      rw [HS.out]
      exact ⟨v, by rw [HFL.out.2]; exact hW2⟩
     ·rw [show fO 41 (at' p.s j) = none from if_neg h41]
      rintro e w2 ⟨rfl, hW2⟩
      have HS : Hid (shut p.s (FF (.ok (lapp ms .lnil) j)) = .bad j) := by
       show shut p.s _ = _
       rw [HFL.out.1]
       exact if_neg h41
      clear hcb hcu h41
      go_wp2_with fail
      go_end0
      refine ⟨rfl, _, HQ.out, ?_⟩
      rw [HS.out]
      exact ⟨_, _, hW2, rfl, rfl, rfl⟩
    ·have hjs' : decide ((j : Int) < (p.s.size : Int)) = false := by simp; omega
     have hjs'' : decide (j < p.s.size) = false := by simp; omega
     by_cases hkk : κ < (p.s.size : Int)
     ·have hks' : decide (κ < (p.s.size : Int)) = true := by simp; omega
      have HQ : Hid (TG p.s .body p.dp p.ix (FF (.ok (lapp ms .lnil) j))) := HF.out _ (HSP.out (.ok .lnil j) (by rw [show 0 - k = 0 by omega]; exact .stop _ _ H32.out))
      have HFL : Hid (FF (.ok (lapp ms .lnil) j) = .ok (GG (lapp ms .lnil)) j ∧ (GG (lapp ms .lnil)).flat = flats ms) := HGG.out ms j (by first | trivial | (have := HJ.out.2.2.2.2; omega))
      clear hκ
      go_wp2_with fail
      go_quiet (fail)
      go_wp2_with fail
      have hWq : ∀ m, WI X (wr.drewN m) b { p with ix := j, v := v } (l ++ flats ms) := fun m => hWr.step (hWr.blk.drewN m) rfl ((Keeps.refl [b] wr).drewN m)
      have hcb := at'_bd' p.s j
      refine (wtake_tab X b { p with ix := j, v := v } (l ++ flats ms) ⟨#[41]⟩ (fO 41) (by decide) (idx_41 _ hcb.1 hcb.2) _ (hWq _) hbad HJ.out.2.1 hs).mono ?_
      have hcu : WS.cur { p with ix := j, v := v } = at' p.s j := rfl
      rw [hcu]
      by_cases h41 : at' p.s j = 41
      ·rw [show fO 41 (at' p.s j) = some 0 from if_pos h41]
       rintro e w2 ⟨rfl, hW2⟩
       have HS : Hid (shut p.s (FF (.ok (lapp ms .lnil) j)) = .ok (GG (lapp ms .lnil)) (j + 1)) := by
        show shut p.s _ = _
        rw [HFL.out.1]
        exact if_pos h41
       clear hcb hcu h41
       go_wp2_with fail
       go_end0
       refine ⟨rfl, _, HQ.out, ?_⟩
       rw [HS.out]
       exact ⟨v, by rw [HFL.out.2]; exact hW2⟩
      ·rw [show fO 41 (at' p.s j) = none from if_neg h41]
       rintro e w2 ⟨rfl, hW2⟩
       have HS : Hid (shut p.s (FF (.ok (lapp ms .lnil) j)) = .bad j) := by
        show shut p.s _ = _
        rw [HFL.out.1]
        exact if_neg h41
       clear hcb hcu h41
       go_wp2_with fail
       go_end0
       refine ⟨rfl, _, HQ.out, ?_⟩
       rw [HS.out]
       exact ⟨_, _, hW2, rfl, rfl, rfl⟩
     ·have hks' : decide (κ < (p.s.size : Int)) = false := by simp; omega
      have HQ : Hid (TG p.s .body p.dp p.ix (FF (.ok (lapp ms .lnil) j))) := HF.out _ (HSP.out (.ok .lnil j) (by rw [show 0 - k = 0 by omega]; exact .stop _ _ H32.out))
      have HFL : Hid (FF (.ok (lapp ms .lnil) j) = .ok (GG (lapp ms .lnil)) j ∧ (GG (lapp ms .lnil)).flat = flats ms) := HGG.out ms j (by first | trivial | (have := HJ.out.2.2.2.2; omega))
      clear hκ
      go_wp2_with fail
      go_quiet (fail)
      go_wp2_with fail
      have hWq : ∀ m, WI X (wr.drewN m) b { p with ix := j, v := v } (l ++ flats ms) := fun m => hWr.step (hWr.blk.drewN m) rfl ((Keeps.refl [b] wr).drewN m)
      have hcb := at'_bd' p.s j
      refine (wtake_tab X b { p with ix := j, v := v } (l ++ flats ms) ⟨#[41]⟩ (fO 41) (by decide) (idx_41 _ hcb.1 hcb.2) _ (hWq _) hbad HJ.out.2.1 hs).mono ?_
      have hcu : WS.cur { p with ix := j, v := v } = at' p.s j := rfl
      rw [hcu]
      by_cases h41 : at' p.s j = 41
      ·rw [show fO 41 (at' p.s j) = some 0 from if_pos h41]
       rintro e w2 ⟨rfl, hW2⟩
       have HS : Hid (shut p.s (FF (.ok (lapp ms .lnil) j)) = .ok (GG (lapp ms .lnil)) (j + 1)) := by
        show shut p.s _ = _
        rw [HFL.out.1]
        exact if_pos h41
       clear hcb hcu h41
       go_wp2_with fail
       go_end0
       refine ⟨rfl, _, HQ.out, ?_⟩
       rw [HS.out]
       exact ⟨v, by rw [HFL.out.2]; exact hW2⟩
      ·rw [show fO 41 (at' p.s j) = none from if_neg h41]
       rintro e w2 ⟨rfl, hW2⟩
       have HS : Hid (shut p.s (FF (.ok (lapp ms .lnil) j)) = .bad j) := by
        show shut p.s _ = _
        rw [HFL.out.1]
        exact if_neg h41
       clear hcb hcu h41
       go_wp2_with fail
       go_end0
       refine ⟨rfl, _, HQ.out, ?_⟩
       rw [HS.out]
       exact ⟨_, _, hW2, rfl, rfl, rfl⟩
  ·obtain ⟨c0, c1, c2, c3, c4, g1, g2, g3, g4⟩ := hWr.blk.main
   have hnb : decide (p'.bad < 0) = false := by rw [e2]; simp
   have hnb' : ¬ p'.bad < 0 := by rw [e2]; omega
   have HE2 : Hid (p'.bad = (j : Int)) := e2
   clear e2
   have HB : Hid (TG p.s .body p.dp p.ix (.bad j)) := by
    have h := HF.out _ hTB
    rw [HFB.out j] at h
    exact h
   clear hTB hkm
   go_wp2_with fail
   go_quiet (fail)
   go_wp2_with fail
   refine (wtake_dead X b p' l' ⟨#[41]⟩ _ (hWr.step (hWr.blk.drewN _) rfl ((Keeps.refl [b] wr).drewN _)) (by rw [HE2.out]; omega)).mono ?_
   rintro e w9 ⟨rfl, hW9⟩
   go_wp2_with fail
   go_end0
   exact ⟨rfl, _, HB.out, p', l', hW9, e1, HE2.out, e3⟩
end Go.Proofs.YtnfojonmohijpaaGreatDoor
