/-
  DERIVED. The reference's reader of what stands behind an open bracket of a tree (inside), arm by arm. Conditions: the text is at most 20000 bytes long.
-/
import Derived.Test.YtnfojonmohijpaaGreatDoorJWV
import Derived.Test.YtnfojonmohijpaaGreatDoorJUG
set_option linter.unusedSimpArgs false
set_option linter.unusedVariables false
namespace Go.Proofs.YtnfojonmohijpaaGreatDoor
open Go.RowKit
set_option maxRecDepth 100000 in
set_option maxHeartbeats 8000000 in
theorem inside_grp (s : ByteArray) (hs : s.size ≤ 20000) (n : Nat) (IR : WRd s n) (X w : World) (b : Nat) (p : WS) (l : List UInt8) (hps : p.s = s) (hW : WI X w b p l) (hbad : p.bad = -1) (hle : p.ix ≤ s.size) (hn : s.size - p.ix < n + 1) (hdp : p.dp ≤ 60) (hll : l.length ≤ p.ix) (hc : at' p.s p.ix = 103) :
    Calls Tryz.prog 144 #[.pointer (some ⟨b, 0, none⟩)] w fun e w' => e = .returned (.tuple #[]) ∧ ∃ q, TG s .body p.dp p.ix q ∧ WAft X b p l (shut s q) w' := by
 subst hps
 have hcb := at'_bd' p.s p.ix
 have hcu : p.cur = at' p.s p.ix := rfl
 have hT := wtake_tab X b p l ⟨#[103, 114, 115, 97]⟩ fG (by decide) (by rw [hcu]; exact idx_G _ hcb.1 hcb.2) w hW hbad hle hs
 rw [hcu] at hT
 rw [hc] at hT
 have HC : Hid (at' p.s p.ix = 103) := hc
 have ef : fG 103 = some 0 := by decide
 rw [ef] at hT
 have hlt := at'_lt_of hc (by decide)
 have HL : Hid (p.ix < p.s.size) := hlt
 have hnm : p.s.size - p.ix < n + 1 := hn
 clear hcb hcu hc ef hlt
 go_enter Tryz.func144, Tryz.ntmps144
 go_upto_region 5 with (first | (go_at_call 143; refine hT.mono ?_; rintro e w1 ⟨rfl, hW1⟩))
 have hcb := at'_bd' p.s (p.ix + 1)
 have hA := wtake_tab X b { p with ix := p.ix + 1 } l ⟨#[49, 50, 51, 52, 53, 54, 55, 56, 57]⟩ fN (by decide) (idx_N _ hcb.1 hcb.2) w1 hW1 hbad HL.out hs
 have hcv : WS.cur { p with ix := p.ix + 1 } = at' p.s (p.ix + 1) := rfl
 rw [hcv] at hA
 by_cases hg : 49 ≤ at' p.s (p.ix + 1) ∧ at' p.s (p.ix + 1) ≤ 57
 ·rw [show fN (at' p.s (p.ix + 1)) = some (at' p.s (p.ix + 1) - 49).toNat from if_pos hg] at hA
  obtain ⟨I0, hI⟩ : ∃ I0, I0 = p.ix + 2 := ⟨_, rfl⟩
  have hI0 : I0 ≤ p.s.size := by have : p.ix + 1 < p.s.size := at'_nn (by omega); omega
  obtain ⟨FF, hFF⟩ : ∃ FF : R Tr → R Tr, FF = fun q => q.map fun t => .tgrp (at' p.s (p.ix + 1) - 48).toNat (hdT t) := ⟨_, rfl⟩
  obtain ⟨GG, hGG⟩ : ∃ GG : Tr → Tr, GG = fun t => .tgrp (at' p.s (p.ix + 1) - 48).toNat (hdT t) := ⟨_, rfl⟩
  have HF : Hid (∀ q, TG p.s (.row 1 false) p.dp I0 q → TG p.s .body p.dp p.ix (FF q)) := fun q h => by rw [hFF]; exact .grp _ _ _ HC.out hg.1 hg.2 (hI ▸ h)
  have HFB : Hid (∀ j, FF (.bad j) = .bad j) := fun j => by rw [hFF]; rfl
  have HGG : Hid (FGG FF GG (fun k => k = 1)) := fun ms j h1 => by
   rw [hFF, hGG]
   obtain ⟨t, rfl⟩ := List.length_eq_one_iff.1 h1
   exact ⟨rfl, by simp [lapp, hdT, Tr.flat, flats]⟩
  obtain ⟨v0, hv0⟩ : ∃ v0, v0 = p.v := ⟨_, rfl⟩
  have hl0 : l.length ≤ I0 := by omega
  have hnm2 : p.s.size - I0 < n := by omega
  clear hFF hGG
  obtain ⟨k9, hk9⟩ : ∃ k9, (at' p.s (p.ix + 1) - 49).toNat = k9 := ⟨_, rfl⟩
  rw [hk9] at hA
  clear hcb hcv hk9 hg
  go_upto_region 16 with (first | (go_at_call 143; refine hA.mono ?_; rintro e w2 ⟨rfl, hW2⟩))
  have hW0 : WI X w2 b { p with ix := I0, v := v0 } l := by rw [hI, hv0]; exact hW2
  clear hI hv0
  go_upto_region 17 with (fail)
  go_loopw [6] (fun q wr => ∃ (k : Nat) (ms : List Tr), q = .int .i64 k ∧ k = ms.length ∧ ((∃ (j : Nat) (v : Value), WI X wr b { p with ix := j, v := v } (l ++ flats ms) ∧ I0 ≤ j ∧ j ≤ p.s.size ∧ (l ++ flats ms).length ≤ j ∧ k ≤ j ∧ k ≤ 1 ∧ ∀ q, TG p.s (.row (1 - k) false) p.dp j q → TG p.s (.row 1 false) p.dp I0 (q.map (lapp ms))) ∨ (∃ (p' : WS) (l' : List UInt8) (j : Nat), WI X wr b p' l' ∧ p'.s = p.s ∧ p'.bad = (j : Int) ∧ p'.dp = p.dp ∧ TG p.s (.row 1 false) p.dp I0 (.bad j)))) (fun _ wr => muW wr b)
  case atStart => exact ⟨0, [], rfl, rfl, Or.inl ⟨I0, v0, by simpa [flats] using hW0, Nat.le_refl _, hI0, by simpa [flats] using hl0, Nat.zero_le _, Nat.zero_le _, fun q h => by rw [map_lapp_nil]; exact h⟩⟩
  case round =>
   obtain ⟨k, ms, rfl, hkm, ⟨j, v, hWr, hIj, hjl, hlj, hkj, hk1b, hsp⟩ | ⟨p', l', j, hWr, e1, e2, e3, hTB⟩⟩ := hrel
   ·have HSP : Hid (∀ q, TG p.s (.row (1 - k) false) p.dp j q → TG p.s (.row 1 false) p.dp I0 (q.map (lapp ms))) := hsp
    have hmu := muW_ok hWr.blk hbad
    have HJ : Hid (I0 ≤ j ∧ j ≤ p.s.size ∧ (l ++ flats ms).length ≤ j ∧ k ≤ j ∧ k = ms.length ∧ k ≤ 1) := ⟨hIj, hjl, hlj, hkj, hkm, hk1b⟩
    obtain ⟨c0, c1, c2, c3, c4, g1, g2, g3, g4⟩ := hWr.blk.main
    simp only [hbad] at c2
    have hji : (j : Int) ≤ 20000 := by omega
    have hj0 : (0 : Int) ≤ (j : Int) := by omega
    obtain ⟨κ, hκ⟩ : ∃ κ : Int, (k : Int) = κ := ⟨_, rfl⟩
    rw [hκ]
    have hki : κ ≤ 20000 := by omega
    have hk0 : (0 : Int) ≤ κ := by omega
    have HKA : Hid ((k : Int) = κ) := hκ
    clear hsp hIj hlj hkj hkm hk1b
    rcases Nat.eq_zero_or_pos k with hz | hz
    ·have hk1 : decide (κ < 1) = true := by simp; omega
     have hk1i : κ < 1 := by omega
     by_cases h32 : at' p.s j = 32
     ·have H32 : Hid (at' p.s j = 32) := h32
      have hjlt := at'_lt_of h32 (by decide)
      have HJL : Hid (j < p.s.size) := hjlt
      clear h32 hjl hκ
      go_wp2_with fail
      go_quiet (fail)
      go_wp2_with fail
      have hWq : ∀ m, WI X (wr.drewN m) b { p with ix := j, v := v } (l ++ flats ms) := fun m => hWr.step (hWr.blk.drewN m) rfl ((Keeps.refl [b] wr).drewN m)
      have hcb := at'_bd' p.s j
      refine (wtake_tab X b { p with ix := j, v := v } (l ++ flats ms) ⟨#[32]⟩ (fO 32) (by decide) (idx_32 _ hcb.1 hcb.2) _ (hWq _) hbad HJ.out.2.1 hs).mono ?_
      have hcu : WS.cur { p with ix := j, v := v } = at' p.s j := rfl
      rw [hcu, show fO 32 (at' p.s j) = some 0 from if_pos H32.out]
      rintro e w2 ⟨rfl, hW2⟩
      have hRd := IR X w2 b { p with ix := j + 1, v := v } (l ++ flats ms) rfl hW2 hbad HJL.out (show p.s.size - (j + 1) < n by have := HJ.out; have := HJL.out; have := hnm; omega) hdp (show (l ++ flats ms).length ≤ j + 1 by have := HJ.out; omega)
      obtain ⟨d0, d1, d2, d3, d4, m1, m2, m3, m4⟩ := hW2.blk.main
      simp only [hbad] at d2
      clear hcb hcu hWq c0 c1 c2 c3 c4 g1 g2 g3 g4
      go_wp2_with fail
      refine hRd.mono ?_
      rintro e w3 ⟨rfl, q, hTG, hA⟩
      cases q with
      | bad j' =>
       obtain ⟨p', l', hW3, e1, e2, e3⟩ := hA
       have HT : Hid (TG p.s (.row 1 false) p.dp I0 (.bad j')) := HSP.out _ (.bad _ _ _ _ _ (Or.inl (by omega)) H32.out hTG)
       have hmu3 := muW_bad hW3.blk e2
       clear hRd hTG
       go_wp2_with fail
       go_roundw
       case rel => exact ⟨ms.length + 1, ms ++ [.tnil], congrArg (Value.int .i64) (by have h1 := HJ.out.2.2.2.2.1; have h2 := HKA.out; omega), by simp, Or.inr ⟨p', l', j', hW3, e1, e2, e3, HT.out⟩⟩
       case measure => have := HJ.out; rw [hmu, hmu3]; show 0 < 20003 - j; omega
      | ok t j' =>
       obtain ⟨v3, hW3⟩ := hA
       have hbd := hTG.bd HJL.out
       have hfl := hTG.flat _ _ rfl HJL.out
       have HBD : Hid (j + 1 < j' ∧ j' ≤ p.s.size ∧ t.flat.length + (j + 1) ≤ j') := ⟨hbd.2.2 rfl, hbd.2.1, hfl⟩
       have HTG : Hid (TG p.s .thing p.dp (j + 1) (.ok t j')) := hTG
       have hmu3 := muW_ok hW3.blk hbad
       have hW4 : WI X w3 b { p with ix := j', v := v3 } (l ++ flats (ms ++ [t])) := by rw [flats_snoc, ← List.append_assoc]; exact hW3
       clear hbd hfl hRd hTG
       go_wp2_with fail
       go_roundw
       case rel => exact ⟨ms.length + 1, ms ++ [t], congrArg (Value.int .i64) (by have h1 := HJ.out.2.2.2.2.1; have h2 := HKA.out; omega), by simp, Or.inl ⟨j', v3, hW4, by have := HJ.out; have := HBD.out; omega, HBD.out.2.1, by
         have h1 := HJ.out
         have h2 := HBD.out
         rw [flats_snoc]
         simp only [List.length_append] at h1 ⊢
         omega, by have := HJ.out; have := HBD.out; omega, by have := HJ.out; omega, fun q hq => by
         rw [← map_lapp_snoc]
         have h5 := HJ.out.2.2.2.2.1
         exact HSP.out _ (.go _ _ _ _ _ _ _ (Or.inl (by omega)) H32.out HTG.out (by rw [show 1 - k - 1 = 1 - (ms.length + 1) by omega]; exact hq))⟩⟩
       case measure => have := HJ.out; have := HBD.out; rw [hmu, hmu3]; show 20003 - j' < 20003 - j; omega
     ·have H32 : Hid (at' p.s j ≠ 32) := h32
      clear h32 hjl hκ
      go_wp2_with fail
      go_quiet (fail)
      go_wp2_with fail
      have hWq : ∀ m, WI X (wr.drewN m) b { p with ix := j, v := v } (l ++ flats ms) := fun m => hWr.step (hWr.blk.drewN m) rfl ((Keeps.refl [b] wr).drewN m)
      have hcb := at'_bd' p.s j
      refine (wtake_tab X b { p with ix := j, v := v } (l ++ flats ms) ⟨#[32]⟩ (fO 32) (by decide) (idx_32 _ hcb.1 hcb.2) _ (hWq _) hbad HJ.out.2.1 hs).mono ?_
      have hcu : WS.cur { p with ix := j, v := v } = at' p.s j := rfl
      rw [hcu, show fO 32 (at' p.s j) = none from if_neg H32.out]
      rintro e w2 ⟨rfl, hW2⟩
      have HT : Hid (TG p.s (.row 1 false) p.dp I0 (.bad j)) := HSP.out _ (.need _ _ _ _ (by omega) H32.out)
      obtain ⟨d0, d1, d2, d3, d4, m1, m2, m3, m4⟩ := hW2.blk.main
      have hnb : ¬ (j : Int) < 0 := by omega
      have hnb' : decide ((j : Int) < 0) = false := by simp
      have hmu3 := muW_bad (j := j) hW2.blk rfl
      clear hcb hcu hWq c0 c1 c2 c3 c4 g1 g2 g3 g4
      go_wp2_with fail
      go_roundw
      case rel => exact ⟨ms.length + 1, ms ++ [.tnil], congrArg (Value.int .i64) (by have h1 := HJ.out.2.2.2.2.1; have h2 := HKA.out; omega), by simp, Or.inr ⟨_, _, j, hW2, rfl, rfl, rfl, HT.out⟩⟩
      case measure => have := HJ.out; rw [hmu, hmu3]; show 0 < 20003 - j; omega
    ·have hk1 : decide (κ < 1) = false := by simp; omega
     have hk1i : ¬ κ < 1 := by omega
     have HQ : Hid (TG p.s .body p.dp p.ix (FF (.ok (lapp ms .lnil) j))) := HF.out _ (HSP.out (.ok .lnil j) (by rw [show 1 - k = 0 by omega]; exact .fin _ _))
     have HFL : Hid (FF (.ok (lapp ms .lnil) j) = .ok (GG (lapp ms .lnil)) j ∧ (GG (lapp ms .lnil)).flat = flats ms) := HGG.out ms j (by first | trivial | (have := HJ.out; omega))
     clear hκ
     go_wp2_with fail
     go_quiet (fail)
     go_wp2_with fail
     have hWq : ∀ m, WI X (wr.drewN m) b { p with ix := j, v := v } (l ++ flats ms) := fun m => hWr.step (hWr.blk.drewN m) rfl ((Keeps.refl [b] wr).drewN m)
     have hcb := at'_bd' p.s j
     refine (wtake_tab X b { p with ix := j, v := v } (l ++ flats ms) ⟨#[41]⟩ (fO 41) (by decide) (idx_41 _ hcb.1 hcb.2) _ (hWq _) hbad HJ.out.2.1 hs).mono ?_
     have hcu : WS.cur { p with ix := j, v := v } = at' p.s j := rfl
     rw [hcu]
     by_cases h41 : at' p.s j = 41
     ·rw [show fO 41 (at' p.s j) = some 0 from if_pos h41]
      rintro e w2 ⟨rfl, hW2⟩
      have HS : Hid (shut p.s (FF (.ok (lapp ms .lnil) j)) = .ok (GG (lapp ms .lnil)) (j + 1)) := by
       show shut p.s _ = _
       rw [HFL.out.1]
       exact if_pos h41
      clear hcb hcu h41
      go_wp2_with fail
      go_end0
      refine ⟨rfl, _, HQ.out, ?_⟩
      rw [HS.out]
      exact ⟨v, by rw [HFL.out.2]; exact hW2⟩
     ·rw [show fO 41 (at' p.s j) = none from if_neg h41]
      rintro e w2 ⟨rfl, hW2⟩
      have HS : Hid (shut p.s (FF (.ok (lapp ms .lnil) j)) = .bad j) := by
       show shut p.s _ = _
       rw [HFL.out.1]
       exact if_neg h41
      clear hcb hcu h41
      go_wp2_with fail
      go_end0
      refine ⟨rfl, _, HQ.out, ?_⟩
      rw [HS.out]
      exact ⟨_, _, hW2, rfl, rfl, rfl⟩
   ·obtain ⟨c0, c1, c2, c3, c4, g1, g2, g3, g4⟩ := hWr.blk.main
    have hnb : decide (p'.bad < 0) = false := by rw [e2]; simp
    have hnb' : ¬ p'.bad < 0 := by rw [e2]; omega
    have HE2 : Hid (p'.bad = (j : Int)) := e2
    clear e2
    have HB : Hid (TG p.s .body p.dp p.ix (.bad j)) := by
     have h := HF.out _ hTB
     rw [HFB.out j] at h
     exact h
    clear hTB hkm
    go_wp2_with fail
    go_quiet (fail)
    go_wp2_with fail
    refine (wtake_dead X b p' l' ⟨#[41]⟩ _ (hWr.step (hWr.blk.drewN _) rfl ((Keeps.refl [b] wr).drewN _)) (by rw [HE2.out]; omega)).mono ?_
    rintro e w9 ⟨rfl, hW9⟩
    go_wp2_with fail
    go_end0
    exact ⟨rfl, _, HB.out, p', l', hW9, e1, HE2.out, e3⟩
 ·rw [show fN (at' p.s (p.ix + 1)) = none from if_neg hg] at hA
  have HB : Hid (TG p.s .body p.dp p.ix (.bad (p.ix + 1))) := .grp1 _ _ HC.out (by omega)
  clear hcb hcv hg
  go_upto_region 16 with (first | (go_at_call 143; refine hA.mono ?_; rintro e w2 ⟨rfl, hW2⟩))
  obtain ⟨pd, hpd0⟩ : ∃ q : WS, q = { p with ix := p.ix + 1, bad := ((p.ix + 1 : Nat) : Int) } := ⟨_, rfl⟩
  obtain ⟨jd, hjd⟩ : ∃ q, q = p.ix + 1 := ⟨_, rfl⟩
  have hpb : pd.bad = (jd : Int) := by rw [hpd0, hjd]
  have hps' : pd.s = p.s := by rw [hpd0]
  have hpd : pd.dp = p.dp := by rw [hpd0]
  have hWd : WI X w2 b pd l := by rw [hpd0]; exact hW2
  rw [← hjd] at HB
  clear hpd0 hjd
  go_upto_region 17 with (fail)
  go_loopw [6] (fun q wr => q = .int .i64 0 ∧ WI X wr b pd l) (fun _ _ => 0)
  case atStart => exact ⟨rfl, hWd⟩
  case round =>
   obtain ⟨rfl, hWr⟩ := hrel
   obtain ⟨c0, c1, c2, c3, c4, g1, g2, g3, g4⟩ := hWr.blk.main
   have hnb : decide (pd.bad < 0) = false := by rw [hpb]; simp
   have hnb' : ¬ pd.bad < 0 := by rw [hpb]; omega
   have HPB : Hid (pd.bad = (jd : Int)) := hpb
   clear hpb
   go_wp2_with fail
   go_quiet (fail)
   go_wp2_with fail
   refine (wtake_dead X b pd l ⟨#[41]⟩ _ (hWr.step (hWr.blk.drewN _) rfl ((Keeps.refl [b] wr).drewN _)) (by rw [HPB.out]; omega)).mono ?_
   rintro e w9 ⟨rfl, hW9⟩
   go_wp2_with fail
   go_end0
   exact ⟨rfl, _, HB.out, pd, l, hW9, hps', HPB.out, hpd⟩
end Go.Proofs.YtnfojonmohijpaaGreatDoor
