/-
  DERIVED. The reference's reader of what stands behind an open bracket of a tree (inside), arm by arm. Conditions: the text is at most 20000 bytes long.
-/
import Derived.Test.YtnfojonmohijpaaGreatDoorJWV
import Derived.Test.YtnfojonmohijpaaGreatDoorJUG
set_option linter.unusedSimpArgs false
set_option linter.unusedVariables false
namespace Go.Proofs.YtnfojonmohijpaaGreatDoor
open Go.RowKit
set_option maxRecDepth 100000 in
set_option maxHeartbeats 8000000 in
theorem inside_alt (s : ByteArray) (hs : s.size ≤ 20000) (n : Nat) (IR : WRd s n) (X w : World) (b : Nat) (p : WS) (l : List UInt8) (hps : p.s = s) (hW : WI X w b p l) (hbad : p.bad = -1) (hle : p.ix ≤ s.size) (hn : s.size - p.ix < n + 1) (hdp : p.dp ≤ 60) (hll : l.length ≤ p.ix) (hc : at' p.s p.ix = 97) :
    Calls Tryz.prog 144 #[.pointer (some ⟨b, 0, none⟩)] w fun e w' => e = .returned (.tuple #[]) ∧ ∃ q, TG s .body p.dp p.ix q ∧ WAft X b p l (shut s q) w' := by
 subst hps
 have hcb := at'_bd' p.s p.ix
 have hcu : p.cur = at' p.s p.ix := rfl
 have hT := wtake_tab X b p l ⟨#[103, 114, 115, 97]⟩ fG (by decide) (by rw [hcu]; exact idx_G _ hcb.1 hcb.2) w hW hbad hle hs
 rw [hcu] at hT
 rw [hc] at hT
 have HC : Hid (at' p.s p.ix = 97) := hc
 have ef : fG 97 = some 3 := by decide
 rw [ef] at hT
 have hlt := at'_lt_of hc (by decide)
 have HL : Hid (p.ix < p.s.size) := hlt
 have hnm : p.s.size - p.ix < n + 1 := hn
 clear hcb hcu hc ef hlt
 go_enter Tryz.func144, Tryz.ntmps144
 go_upto_region 13 with (first | (go_at_call 143; refine hT.mono ?_; rintro e w1 ⟨rfl, hW1⟩))
 have hcb := at'_bd' p.s (p.ix + 1)
 have hA := wtake_tab X b { p with ix := p.ix + 1 } l ⟨#[48, 49, 50, 51, 52, 53, 54, 55, 56, 57]⟩ fD (by decide) (idx_D _ hcb.1 hcb.2) w1 hW1 hbad HL.out hs
 have hcv : WS.cur { p with ix := p.ix + 1 } = at' p.s (p.ix + 1) := rfl
 rw [hcv] at hA
 by_cases hg : 48 ≤ at' p.s (p.ix + 1) ∧ at' p.s (p.ix + 1) ≤ 57
 ·rw [show fD (at' p.s (p.ix + 1)) = some (at' p.s (p.ix + 1) - 48).toNat from if_pos hg] at hA
  have HDG : Hid (digB (at' p.s (p.ix + 1)) = true) := by show _ = _; simp [digB]; exact hg
  obtain ⟨kk, hkk⟩ : ∃ kk, (at' p.s (p.ix + 1) - 48).toNat = kk := ⟨_, rfl⟩
  obtain ⟨α, hα⟩ : ∃ α : Int, (kk : Int) = α := ⟨_, rfl⟩
  simp only [hkk, hα] at hA
  have hα2 : α = at' p.s (p.ix + 1) - 48 := by omega
  obtain ⟨J, hJ⟩ : ∃ J, p.ix + 1 + 1 = J := ⟨_, rfl⟩
  have hJl : J ≤ p.s.size := by have : p.ix + 1 < p.s.size := at'_nn (by omega); omega
  simp only [hJ] at hA
  obtain ⟨v0, hv0⟩ : ∃ v0, v0 = p.v := ⟨_, rfl⟩
  have hlJ : l.length ≤ J := by omega
  have hnJ : p.s.size - J < n := by omega
  have hJi : (J : Int) ≤ 20000 := by omega
  have hJ0 : (0 : Int) ≤ (J : Int) := by omega
  have hα9 : α ≤ 9 := by omega
  have hα0 : 0 ≤ α := by omega
  by_cases hD : plD p.s (p.ix + 1)
  ·obtain ⟨I0, hI⟩ : ∃ I0, I0 = J + 1 := ⟨_, rfl⟩
   have hdj := hD.2.2
   have e2 : at' p.s (p.ix + 1 + 1) = at' p.s J := by rw [hJ]
   rw [e2] at hdj
   have hdd : 48 ≤ at' p.s J ∧ at' p.s J ≤ 57 := by simpa [digB] using hdj
   have hJlt : J < p.s.size := at'_nn (by omega)
   have HI0 : Hid (I0 = plE p.s (p.ix + 1)) := by show I0 = _; unfold plE; rw [if_pos hD]; omega
   have hI0 : I0 ≤ p.s.size := by omega
   have hl0 : l.length ≤ I0 := by omega
   have hnm2 : p.s.size - I0 < n := by omega
   have q1 : decide (0 < α) = true := by have := hD.1; simp; omega
   have q1' : 0 < α := by have := hD.1; omega
   have q2 : decide (α < 6) = true := by have := hD.2.1; simp; omega
   have q2' : α < 6 := by have := hD.2.1; omega
   have q3 : (J : Int) < (p.s.size : Int) := by omega
   have q3' : decide ((J : Int) < (p.s.size : Int)) = true := by simp; omega
   obtain ⟨nc, hnc⟩ : ∃ n, (p.s[J]'hJlt).toNat = n := ⟨_, rfl⟩
   have hncv : at' p.s J = (nc : Int) := by rw [at'_lt hJlt, hnc]
   have q4 : (48 : Int) ≤ (nc : Int) := by omega
   have q4' : decide ((48 : Int) ≤ (nc : Int)) = true := by simp; omega
   have q5 : (nc : Int) ≤ 57 := by omega
   have q5' : decide ((nc : Int) ≤ 57) = true := by simp; omega
   clear hcb hcv hg hkk hα hα2 hJ e2 hdj hdd hD hncv
   go_upto_region 14 with (first | (go_at_call 143; refine hA.mono ?_; rintro e w2 ⟨rfl, hW2⟩))
   obtain ⟨c0, c1, c2, c3, c4, g1, g2, g3, g4⟩ := hW2.blk.main
   go_quiet (fail)
   have hWq : ∀ m, WI X (w2.drewN m) b { p with ix := J } l := fun m => hW2.step (hW2.blk.drewN m) rfl ((Keeps.refl [b] w2).drewN m)
   have hWi : ∀ m, WI X ((w2.drewN m).setCell ⟨b, 1, none⟩ (.int .i64 ((J + 1 : Nat) : Int))) b { p with ix := I0, v := v0 } l := fun m => by
    rw [hI, hv0]
    exact (hWq m).step ((hWq m).blk.setIx (J + 1)) rfl ((Keeps.refl [b] _).setCell (by simp) _)
   have hcast : ((J + 1 : Nat) : Int) = (J : Int) + 1 := by omega
   rw [hcast] at hWi
   go_upto_region 16 with (fail)
   have hW0 := hWi
   clear hWi hWq hI hv0 hcast hnc q1 q1' q2 q2' q3 q3' q4 q4' q5 q5'
   obtain ⟨FF, hFF⟩ : ∃ FF : R Tr → R Tr, FF = fun q => q.map fun t => .talt (plN p.s (p.ix + 1)) (hdT t) := ⟨_, rfl⟩
   obtain ⟨GG, hGG⟩ : ∃ GG : Tr → Tr, GG = fun t => .talt (plN p.s (p.ix + 1)) (hdT t) := ⟨_, rfl⟩
   have HF : Hid (∀ q, TG p.s (.row 1 false) p.dp I0 q → TG p.s .body p.dp p.ix (FF q)) := fun q h => by rw [hFF]; exact .alt _ _ _ HC.out HDG.out (HI0.out ▸ h)
   have HFB : Hid (∀ j, FF (.bad j) = .bad j) := fun j => by rw [hFF]; rfl
   have HGG : Hid (FGG FF GG (fun k => k = 1)) := fun ms j h1 => by
    rw [hFF, hGG]
    obtain ⟨t, rfl⟩ := List.length_eq_one_iff.1 h1
    exact ⟨rfl, by simp [lapp, hdT, Tr.flat, flats]⟩
   clear hFF hGG
   go_upto_region 17 with (fail)
   go_loopw [6] (fun q wr => ∃ (k : Nat) (ms : List Tr), q = .int .i64 k ∧ k = ms.length ∧ ((∃ (j : Nat) (v : Value), WI X wr b { p with ix := j, v := v } (l ++ flats ms) ∧ I0 ≤ j ∧ j ≤ p.s.size ∧ (l ++ flats ms).length ≤ j ∧ k ≤ j ∧ k ≤ 1 ∧ ∀ q, TG p.s (.row (1 - k) false) p.dp j q → TG p.s (.row 1 false) p.dp I0 (q.map (lapp ms))) ∨ (∃ (p' : WS) (l' : List UInt8) (j : Nat), WI X wr b p' l' ∧ p'.s = p.s ∧ p'.bad = (j : Int) ∧ p'.dp = p.dp ∧ TG p.s (.row 1 false) p.dp I0 (.bad j)))) (fun _ wr => muW wr b)
   case atStart => exact ⟨0, [], rfl, rfl, Or.inl ⟨I0, v0, by rw [show l ++ flats [] = l by simp [flats]]; exact hW0 _, Nat.le_refl _, hI0, by simpa [flats] using hl0, Nat.zero_le _, Nat.zero_le _, fun q h => by rw [map_lapp_nil]; exact h⟩⟩
   case round =>
    obtain ⟨k, ms, rfl, hkm, ⟨j, v, hWr, hIj, hjl, hlj, hkj, hk1b, hsp⟩ | ⟨p', l', j, hWr, e1, e2, e3, hTB⟩⟩ := hrel
    ·have HSP : Hid (∀ q, TG p.s (.row (1 - k) false) p.dp j q → TG p.s (.row 1 false) p.dp I0 (q.map (lapp ms))) := hsp
     have hmu := muW_ok hWr.blk hbad
     have HJ : Hid (I0 ≤ j ∧ j ≤ p.s.size ∧ (l ++ flats ms).length ≤ j ∧ k ≤ j ∧ k = ms.length ∧ k ≤ 1) := ⟨hIj, hjl, hlj, hkj, hkm, hk1b⟩
     obtain ⟨c0, c1, c2, c3, c4, g1, g2, g3, g4⟩ := hWr.blk.main
     simp only [hbad] at c2
     have hji : (j : Int) ≤ 20000 := by omega
     have hj0 : (0 : Int) ≤ (j : Int) := by omega
     obtain ⟨κ, hκ⟩ : ∃ κ : Int, (k : Int) = κ := ⟨_, rfl⟩
     rw [hκ]
     have hki : κ ≤ 20000 := by omega
     have hk0 : (0 : Int) ≤ κ := by omega
     have HKA : Hid ((k : Int) = κ) := hκ
     clear hsp hIj hlj hkj hkm hk1b
     rcases Nat.eq_zero_or_pos k with hz | hz
     ·have hk1 : decide (κ < 1) = true := by simp; omega
      have hk1i : κ < 1 := by omega
      by_cases h32 : at' p.s j = 32
      ·have H32 : Hid (at' p.s j = 32) := h32
       have hjlt := at'_lt_of h32 (by decide)
       have HJL : Hid (j < p.s.size) := hjlt
       clear h32 hjl hκ
       go_wp2_with fail
       go_quiet (fail)
       go_wp2_with fail
       have hWq : ∀ m, WI X (wr.drewN m) b { p with ix := j, v := v } (l ++ flats ms) := fun m => hWr.step (hWr.blk.drewN m) rfl ((Keeps.refl [b] wr).drewN m)
       have hcb := at'_bd' p.s j
       refine (wtake_tab X b { p with ix := j, v := v } (l ++ flats ms) ⟨#[32]⟩ (fO 32) (by decide) (idx_32 _ hcb.1 hcb.2) _ (hWq _) hbad HJ.out.2.1 hs).mono ?_
       have hcu : WS.cur { p with ix := j, v := v } = at' p.s j := rfl
       rw [hcu, show fO 32 (at' p.s j) = some 0 from if_pos H32.out]
       rintro e w2 ⟨rfl, hW2⟩
       have hRd := IR X w2 b { p with ix := j + 1, v := v } (l ++ flats ms) rfl hW2 hbad HJL.out (show p.s.size - (j + 1) < n by have := HJ.out; have := HJL.out; have := hnm; omega) hdp (show (l ++ flats ms).length ≤ j + 1 by have := HJ.out; omega)
       obtain ⟨d0, d1, d2, d3, d4, m1, m2, m3, m4⟩ := hW2.blk.main
       simp only [hbad] at d2
       clear hcb hcu hWq c0 c1 c2 c3 c4 g1 g2 g3 g4
       go_wp2_with fail
       refine hRd.mono ?_
       rintro e w3 ⟨rfl, q, hTG, hA⟩
       cases q with
       | bad j' =>
        obtain ⟨p', l', hW3, e1, e2, e3⟩ := hA
        have HT : Hid (TG p.s (.row 1 false) p.dp I0 (.bad j')) := HSP.out _ (.bad _ _ _ _ _ (Or.inl (by omega)) H32.out hTG)
        have hmu3 := muW_bad hW3.blk e2
        clear hRd hTG
        go_wp2_with fail
        go_roundw
        case rel => exact ⟨ms.length + 1, ms ++ [.tnil], congrArg (Value.int .i64) (by have h1 := HJ.out.2.2.2.2.1; have h2 := HKA.out; omega), by simp, Or.inr ⟨p', l', j', hW3, e1, e2, e3, HT.out⟩⟩
        case measure => have := HJ.out; rw [hmu, hmu3]; show 0 < 20003 - j; omega
       | ok t j' =>
        obtain ⟨v3, hW3⟩ := hA
        have hbd := hTG.bd HJL.out
        have hfl := hTG.flat _ _ rfl HJL.out
        have HBD : Hid (j + 1 < j' ∧ j' ≤ p.s.size ∧ t.flat.length + (j + 1) ≤ j') := ⟨hbd.2.2 rfl, hbd.2.1, hfl⟩
        have HTG : Hid (TG p.s .thing p.dp (j + 1) (.ok t j')) := hTG
        have hmu3 := muW_ok hW3.blk hbad
        have hW4 : WI X w3 b { p with ix := j', v := v3 } (l ++ flats (ms ++ [t])) := by rw [flats_snoc, ← List.append_assoc]; exact hW3
        clear hbd hfl hRd hTG
        go_wp2_with fail
        go_roundw
        case rel => exact ⟨ms.length + 1, ms ++ [t], congrArg (Value.int .i64) (by have h1 := HJ.out.2.2.2.2.1; have h2 := HKA.out; omega), by simp, Or.inl ⟨j', v3, hW4, by have := HJ.out; have := HBD.out; omega, HBD.out.2.1, by
          have h1 := HJ.out
          have h2 := HBD.out
          rw [flats_snoc]
          simp only [List.length_append] at h1 ⊢
          omega, by have := HJ.out; have := HBD.out; omega, by have := HJ.out; omega, fun q hq => by
          rw [← map_lapp_snoc]
          have h5 := HJ.out.2.2.2.2.1
          exact HSP.out _ (.go _ _ _ _ _ _ _ (Or.inl (by omega)) H32.out HTG.out (by rw [show 1 - k - 1 = 1 - (ms.length + 1) by omega]; exact hq))⟩⟩
        case measure => have := HJ.out; have := HBD.out; rw [hmu, hmu3]; show 20003 - j' < 20003 - j; omega
      ·have H32 : Hid (at' p.s j ≠ 32) := h32
       clear h32 hjl hκ
       go_wp2_with fail
       go_quiet (fail)
       go_wp2_with fail
       have hWq : ∀ m, WI X (wr.drewN m) b { p with ix := j, v := v } (l ++ flats ms) := fun m => hWr.step (hWr.blk.drewN m) rfl ((Keeps.refl [b] wr).drewN m)
       have hcb := at'_bd' p.s j
       refine (wtake_tab X b { p with ix := j, v := v } (l ++ flats ms) ⟨#[32]⟩ (fO 32) (by decide) (idx_32 _ hcb.1 hcb.2) _ (hWq _) hbad HJ.out.2.1 hs).mono ?_
       have hcu : WS.cur { p with ix := j, v := v } = at' p.s j := rfl
       rw [hcu, show fO 32 (at' p.s j) = none from if_neg H32.out]
       rintro e w2 ⟨rfl, hW2⟩
       have HT : Hid (TG p.s (.row 1 false) p.dp I0 (.bad j)) := HSP.out _ (.need _ _ _ _ (by omega) H32.out)
       obtain ⟨d0, d1, d2, d3, d4, m1, m2, m3, m4⟩ := hW2.blk.main
       have hnb : ¬ (j : Int) < 0 := by omega
       have hnb' : decide ((j : Int) < 0) = false := by simp
       have hmu3 := muW_bad (j := j) hW2.blk rfl
       clear hcb hcu hWq c0 c1 c2 c3 c4 g1 g2 g3 g4
       go_wp2_with fail
       go_roundw
       case rel => exact ⟨ms.length + 1, ms ++ [.tnil], congrArg (Value.int .i64) (by have h1 := HJ.out.2.2.2.2.1; have h2 := HKA.out; omega), by simp, Or.inr ⟨_, _, j, hW2, rfl, rfl, rfl, HT.out⟩⟩
       case measure => have := HJ.out; rw [hmu, hmu3]; show 0 < 20003 - j; omega
     ·have hk1 : decide (κ < 1) = false := by simp; omega
      have hk1i : ¬ κ < 1 := by omega
      have HQ : Hid (TG p.s .body p.dp p.ix (FF (.ok (lapp ms .lnil) j))) := HF.out _ (HSP.out (.ok .lnil j) (by rw [show 1 - k = 0 by omega]; exact .fin _ _))
      have HFL : Hid (FF (.ok (lapp ms .lnil) j) = .ok (GG (lapp ms .lnil)) j ∧ (GG (lapp ms .lnil)).flat = flats ms) := HGG.out ms j (by first | trivial | (have := HJ.out; omega))
      clear hκ
      go_wp2_with fail
      go_quiet (fail)
      go_wp2_with fail
      have hWq : ∀ m, WI X (wr.drewN m) b { p with ix := j, v := v } (l ++ flats ms) := fun m => hWr.step (hWr.blk.drewN m) rfl ((Keeps.refl [b] wr).drewN m)
      have hcb := at'_bd' p.s j
      refine (wtake_tab X b { p with ix := j, v := v } (l ++ flats ms) ⟨#[41]⟩ (fO 41) (by decide) (idx_41 _ hcb.1 hcb.2) _ (hWq _) hbad HJ.out.2.1 hs).mono ?_
      have hcu : WS.cur { p with ix := j, v := v } = at' p.s j := rfl
      rw [hcu]
      by_cases h41 : at' p.s j = 41
      ·rw [show fO 41 (at' p.s j) = some 0 from if_pos h41]
       rintro e w2 ⟨rfl, hW2⟩
       have HS : Hid (shut p.s (FF (.ok (lapp ms .lnil) j)) = .ok (GG (lapp ms .lnil)) (j + 1)) := by
        show shut p.s _ = _
        rw [HFL.out.1]
        exact if_pos h41
       clear hcb hcu h41
       go_wp2_with fail
       go_end0
       refine ⟨rfl, _, HQ.out, ?_⟩
       rw [HS.out]
       exact ⟨v, by rw [HFL.out.2]; exact hW2⟩
      ·rw [show fO 41 (at' p.s j) = none from if_neg h41]
       rintro e w2 ⟨rfl, hW2⟩
       have HS : Hid (shut p.s (FF (.ok (lapp ms .lnil) j)) = .bad j) := by
        show shut p.s _ = _
        rw [HFL.out.1]
        exact if_neg h41
       clear hcb hcu h41
       go_wp2_with fail
       go_end0
       refine ⟨rfl, _, HQ.out, ?_⟩
       rw [HS.out]
       exact ⟨_, _, hW2, rfl, rfl, rfl⟩
    ·obtain ⟨c0, c1, c2, c3, c4, g1, g2, g3, g4⟩ := hWr.blk.main
     have hnb : decide (p'.bad < 0) = false := by rw [e2]; simp
     have hnb' : ¬ p'.bad < 0 := by rw [e2]; omega
     have HE2 : Hid (p'.bad = (j : Int)) := e2
     clear e2
     have HB : Hid (TG p.s .body p.dp p.ix (.bad j)) := by
      have h := HF.out _ hTB
      rw [HFB.out j] at h
      exact h
     clear hTB hkm
     go_wp2_with fail
     go_quiet (fail)
     go_wp2_with fail
     refine (wtake_dead X b p' l' ⟨#[41]⟩ _ (hWr.step (hWr.blk.drewN _) rfl ((Keeps.refl [b] wr).drewN _)) (by rw [HE2.out]; omega)).mono ?_
     rintro e w9 ⟨rfl, hW9⟩
     go_wp2_with fail
     go_end0
     exact ⟨rfl, _, HB.out, p', l', hW9, e1, HE2.out, e3⟩
  ·obtain ⟨I0, hI⟩ : ∃ I0, I0 = J := ⟨_, rfl⟩
   have HI0 : Hid (I0 = plE p.s (p.ix + 1)) := by show I0 = _; unfold plE; rw [if_neg hD]; omega
   have hI0 : I0 ≤ p.s.size := by omega
   have hl0 : l.length ≤ I0 := by omega
   have hnm2 : p.s.size - I0 < n := by omega
   have e2 : at' p.s (p.ix + 1 + 1) = at' p.s J := by rw [hJ]
   have hND : ¬ (49 ≤ at' p.s (p.ix + 1) ∧ at' p.s (p.ix + 1) ≤ 53 ∧ (48 ≤ at' p.s J ∧ at' p.s J ≤ 57)) := fun h => hD ⟨h.1, h.2.1, by rw [e2]; simp [digB]; exact h.2.2⟩
   have hcJ := at'_bd' p.s J
   have hcs : (decide (0 < α) = false) ∨ (decide (0 < α) = true ∧ 0 < α ∧ decide (α < 6) = false) ∨ (decide (0 < α) = true ∧ 0 < α ∧ decide (α < 6) = true ∧ α < 6 ∧ decide ((J : Int) < (p.s.size : Int)) = false ∧ decide (J < p.s.size) = false) ∨
       ∃ nc hJlt, (p.s[J]'hJlt).toNat = nc ∧ decide (0 < α) = true ∧ 0 < α ∧ decide (α < 6) = true ∧ α < 6 ∧ decide ((J : Int) < (p.s.size : Int)) = true ∧ (J : Int) < (p.s.size : Int) ∧ ((decide ((48 : Int) ≤ (nc : Int)) = false ∧ decide (48 ≤ nc) = false) ∨ (decide ((48 : Int) ≤ (nc : Int)) = true ∧ (48 : Int) ≤ (nc : Int) ∧ decide ((nc : Int) ≤ 57) = false ∧ decide (nc ≤ 57) = false)) := by
    by_cases h1 : 0 < α
    ·by_cases h2 : α < 6
     ·by_cases h3 : J < p.s.size
      ·have h4 := at'_lt h3
       refine Or.inr (Or.inr (Or.inr ⟨_, h3, rfl, by simpa using h1, h1, by simpa using h2, h2, by simp; omega, by omega, ?_⟩))
       by_cases h5 : 48 ≤ at' p.s J
       ·exact Or.inr ⟨by simp; omega, by omega, by simp; omega, by simp; omega⟩
       ·exact Or.inl ⟨by simp; omega, by simp; omega⟩
      ·exact Or.inr (Or.inr (Or.inl ⟨by simpa using h1, h1, by simpa using h2, h2, by simp; omega, by simp; omega⟩))
     ·exact Or.inr (Or.inl ⟨by simpa using h1, h1, by simpa using h2⟩)
    ·exact Or.inl (by simpa using h1)
   clear hcb hcv hg hkk hα hα2 hJ e2 hD hND hcJ
   go_upto_region 14 with (first | (go_at_call 143; refine hA.mono ?_; rintro e w2 ⟨rfl, hW2⟩))
   obtain ⟨c0, c1, c2, c3, c4, g1, g2, g3, g4⟩ := hW2.blk.main
   have hWi : ∀ m, WI X (w2.drewN m) b { p with ix := I0, v := v0 } l := fun m => by
    rw [hI, hv0]
    exact hW2.step (hW2.blk.drewN m) rfl ((Keeps.refl [b] w2).drewN m)
   rcases hcs with q1 | ⟨q1, q1', q2⟩ | ⟨q1, q1', q2, q2', q3, q3'⟩ | ⟨nc, hJlt, hnc, q1, q1', q2, q2', q3, q3', ⟨q4, q4'⟩ | ⟨q4, q4', q5, q5'⟩⟩
   all_goals
    go_quiet (fail)
    go_upto_region 16 with (fail)
    have hW0 := hWi
    clear hWi hI hv0
    obtain ⟨FF, hFF⟩ : ∃ FF : R Tr → R Tr, FF = fun q => q.map fun t => .talt (plN p.s (p.ix + 1)) (hdT t) := ⟨_, rfl⟩
    obtain ⟨GG, hGG⟩ : ∃ GG : Tr → Tr, GG = fun t => .talt (plN p.s (p.ix + 1)) (hdT t) := ⟨_, rfl⟩
    have HF : Hid (∀ q, TG p.s (.row 1 false) p.dp I0 q → TG p.s .body p.dp p.ix (FF q)) := fun q h => by rw [hFF]; exact .alt _ _ _ HC.out HDG.out (HI0.out ▸ h)
    have HFB : Hid (∀ j, FF (.bad j) = .bad j) := fun j => by rw [hFF]; rfl
    have HGG : Hid (FGG FF GG (fun k => k = 1)) := fun ms j h1 => by
     rw [hFF, hGG]
     obtain ⟨t, rfl⟩ := List.length_eq_one_iff.1 h1
     exact ⟨rfl, by simp [lapp, hdT, Tr.flat, flats]⟩
    clear hFF hGG
    go_upto_region 17 with (fail)
    go_loopw [6] (fun q wr => ∃ (k : Nat) (ms : List Tr), q = .int .i64 k ∧ k = ms.length ∧ ((∃ (j : Nat) (v : Value), WI X wr b { p with ix := j, v := v } (l ++ flats ms) ∧ I0 ≤ j ∧ j ≤ p.s.size ∧ (l ++ flats ms).length ≤ j ∧ k ≤ j ∧ k ≤ 1 ∧ ∀ q, TG p.s (.row (1 - k) false) p.dp j q → TG p.s (.row 1 false) p.dp I0 (q.map (lapp ms))) ∨ (∃ (p' : WS) (l' : List UInt8) (j : Nat), WI X wr b p' l' ∧ p'.s = p.s ∧ p'.bad = (j : Int) ∧ p'.dp = p.dp ∧ TG p.s (.row 1 false) p.dp I0 (.bad j)))) (fun _ wr => muW wr b)
    case atStart => exact ⟨0, [], rfl, rfl, Or.inl ⟨I0, v0, by rw [show l ++ flats [] = l by simp [flats]]; exact hW0 _, Nat.le_refl _, hI0, by simpa [flats] using hl0, Nat.zero_le _, Nat.zero_le _, fun q h => by rw [map_lapp_nil]; exact h⟩⟩
    case round =>
     obtain ⟨k, ms, rfl, hkm, ⟨j, v, hWr, hIj, hjl, hlj, hkj, hk1b, hsp⟩ | ⟨p', l', j, hWr, e1, e2, e3, hTB⟩⟩ := hrel
     ·have HSP : Hid (∀ q, TG p.s (.row (1 - k) false) p.dp j q → TG p.s (.row 1 false) p.dp I0 (q.map (lapp ms))) := hsp
      have hmu := muW_ok hWr.blk hbad
      have HJ : Hid (I0 ≤ j ∧ j ≤ p.s.size ∧ (l ++ flats ms).length ≤ j ∧ k ≤ j ∧ k = ms.length ∧ k ≤ 1) := ⟨hIj, hjl, hlj, hkj, hkm, hk1b⟩
      obtain ⟨c0, c1, c2, c3, c4, g1, g2, g3, g4⟩ := hWr.blk.main
      simp only [hbad] at c2
      have hji : (j : Int) ≤ 20000 := by omega
      have hj0 : (0 : Int) ≤ (j : Int) := by omega
      obtain ⟨κ, hκ⟩ : ∃ κ : Int, (k : Int) = κ := ⟨_, rfl⟩
      rw [hκ]
      have hki : κ ≤ 20000 := by omega
      have hk0 : (0 : Int) ≤ κ := by omega
      have HKA : Hid ((k : Int) = κ) := hκ
      clear hsp hIj hlj hkj hkm hk1b
      rcases Nat.eq_zero_or_pos k with hz | hz
      ·have hk1 : decide (κ < 1) = true := by simp; omega
       have hk1i : κ < 1 := by omega
       by_cases h32 : at' p.s j = 32
       ·have H32 : Hid (at' p.s j = 32) := h32
        have hjlt := at'_lt_of h32 (by decide)
        have HJL : Hid (j < p.s.size) := hjlt
        clear h32 hjl hκ
        go_wp2_with fail
        go_quiet (fail)
        go_wp2_with fail
        have hWq : ∀ m, WI X (wr.drewN m) b { p with ix := j, v := v } (l ++ flats ms) := fun m => hWr.step (hWr.blk.drewN m) rfl ((Keeps.refl [b] wr).drewN m)
        have hcb := at'_bd' p.s j
        refine (wtake_tab X b { p with ix := j, v := v } (l ++ flats ms) ⟨#[32]⟩ (fO 32) (by decide) (idx_32 _ hcb.1 hcb.2) _ (hWq _) hbad HJ.out.2.1 hs).mono ?_
        have hcu : WS.cur { p with ix := j, v := v } = at' p.s j := rfl
        rw [hcu, show fO 32 (at' p.s j) = some 0 from if_pos H32.out]
        rintro e w2 ⟨rfl, hW2⟩
        have hRd := IR X w2 b { p with ix := j + 1, v := v } (l ++ flats ms) rfl hW2 hbad HJL.out (show p.s.size - (j + 1) < n by have := HJ.out; have := HJL.out; have := hnm; omega) hdp (show (l ++ flats ms).length ≤ j + 1 by have := HJ.out; omega)
        obtain ⟨d0, d1, d2, d3, d4, m1, m2, m3, m4⟩ := hW2.blk.main
        simp only [hbad] at d2
        clear hcb hcu hWq c0 c1 c2 c3 c4 g1 g2 g3 g4
        go_wp2_with fail
        refine hRd.mono ?_
        rintro e w3 ⟨rfl, q, hTG, hA⟩
        cases q with
        | bad j' =>
         obtain ⟨p', l', hW3, e1, e2, e3⟩ := hA
         have HT : Hid (TG p.s (.row 1 false) p.dp I0 (.bad j')) := HSP.out _ (.bad _ _ _ _ _ (Or.inl (by omega)) H32.out hTG)
         have hmu3 := muW_bad hW3.blk e2
         clear hRd hTG
         go_wp2_with fail
         go_roundw
         case rel => exact ⟨ms.length + 1, ms ++ [.tnil], congrArg (Value.int .i64) (by have h1 := HJ.out.2.2.2.2.1; have h2 := HKA.out; omega), by simp, Or.inr ⟨p', l', j', hW3, e1, e2, e3, HT.out⟩⟩
         case measure => have := HJ.out; rw [hmu, hmu3]; show 0 < 20003 - j; omega
        | ok t j' =>
         obtain ⟨v3, hW3⟩ := hA
         have hbd := hTG.bd HJL.out
         have hfl := hTG.flat _ _ rfl HJL.out
         have HBD : Hid (j + 1 < j' ∧ j' ≤ p.s.size ∧ t.flat.length + (j + 1) ≤ j') := ⟨hbd.2.2 rfl, hbd.2.1, hfl⟩
         have HTG : Hid (TG p.s .thing p.dp (j + 1) (.ok t j')) := hTG
         have hmu3 := muW_ok hW3.blk hbad
         have hW4 : WI X w3 b { p with ix := j', v := v3 } (l ++ flats (ms ++ [t])) := by rw [flats_snoc, ← List.append_assoc]; exact hW3
         clear hbd hfl hRd hTG
         go_wp2_with fail
         go_roundw
         case rel => exact ⟨ms.length + 1, ms ++ [t], congrArg (Value.int .i64) (by have h1 := HJ.out.2.2.2.2.1; have h2 := HKA.out; omega), by simp, Or.inl ⟨j', v3, hW4, by have := HJ.out; have := HBD.out; omega, HBD.out.2.1, by
           have h1 := HJ.out
           have h2 := HBD.out
           rw [flats_snoc]
           simp only [List.length_append] at h1 ⊢
           omega, by have := HJ.out; have := HBD.out; omega, by have := HJ.out; omega, fun q hq => by
           rw [← map_lapp_snoc]
           have h5 := HJ.out.2.2.2.2.1
           exact HSP.out _ (.go _ _ _ _ _ _ _ (Or.inl (by omega)) H32.out HTG.out (by rw [show 1 - k - 1 = 1 - (ms.length + 1) by omega]; exact hq))⟩⟩
         case measure => have := HJ.out; have := HBD.out; rw [hmu, hmu3]; show 20003 - j' < 20003 - j; omega
       ·have H32 : Hid (at' p.s j ≠ 32) := h32
        clear h32 hjl hκ
        go_wp2_with fail
        go_quiet (fail)
        go_wp2_with fail
        have hWq : ∀ m, WI X (wr.drewN m) b { p with ix := j, v := v } (l ++ flats ms) := fun m => hWr.step (hWr.blk.drewN m) rfl ((Keeps.refl [b] wr).drewN m)
        have hcb := at'_bd' p.s j
        refine (wtake_tab X b { p with ix := j, v := v } (l ++ flats ms) ⟨#[32]⟩ (fO 32) (by decide) (idx_32 _ hcb.1 hcb.2) _ (hWq _) hbad HJ.out.2.1 hs).mono ?_
        have hcu : WS.cur { p with ix := j, v := v } = at' p.s j := rfl
        rw [hcu, show fO 32 (at' p.s j) = none from if_neg H32.out]
        rintro e w2 ⟨rfl, hW2⟩
        have HT : Hid (TG p.s (.row 1 false) p.dp I0 (.bad j)) := HSP.out _ (.need _ _ _ _ (by omega) H32.out)
        obtain ⟨d0, d1, d2, d3, d4, m1, m2, m3, m4⟩ := hW2.blk.main
        have hnb : ¬ (j : Int) < 0 := by omega
        have hnb' : decide ((j : Int) < 0) = false := by simp
        have hmu3 := muW_bad (j := j) hW2.blk rfl
        clear hcb hcu hWq c0 c1 c2 c3 c4 g1 g2 g3 g4
        go_wp2_with fail
        go_roundw
        case rel => exact ⟨ms.length + 1, ms ++ [.tnil], congrArg (Value.int .i64) (by have h1 := HJ.out.2.2.2.2.1; have h2 := HKA.out; omega), by simp, Or.inr ⟨_, _, j, hW2, rfl, rfl, rfl, HT.out⟩⟩
        case measure => have := HJ.out; rw [hmu, hmu3]; show 0 < 20003 - j; omega
      ·have hk1 : decide (κ < 1) = false := by simp; omega
       have hk1i : ¬ κ < 1 := by omega
       have HQ : Hid (TG p.s .body p.dp p.ix (FF (.ok (lapp ms .lnil) j))) := HF.out _ (HSP.out (.ok .lnil j) (by rw [show 1 - k = 0 by omega]; exact .fin _ _))
       have HFL : Hid (FF (.ok (lapp ms .lnil) j) = .ok (GG (lapp ms .lnil)) j ∧ (GG (lapp ms .lnil)).flat = flats ms) := HGG.out ms j (by first | trivial | (have := HJ.out; omega))
       clear hκ
       go_wp2_with fail
       go_quiet (fail)
       go_wp2_with fail
       have hWq : ∀ m, WI X (wr.drewN m) b { p with ix := j, v := v } (l ++ flats ms) := fun m => hWr.step (hWr.blk.drewN m) rfl ((Keeps.refl [b] wr).drewN m)
       have hcb := at'_bd' p.s j
       refine (wtake_tab X b { p with ix := j, v := v } (l ++ flats ms) ⟨#[41]⟩ (fO 41) (by decide) (idx_41 _ hcb.1 hcb.2) _ (hWq _) hbad HJ.out.2.1 hs).mono ?_
       have hcu : WS.cur { p with ix := j, v := v } = at' p.s j := rfl
       rw [hcu]
       by_cases h41 : at' p.s j = 41
       ·rw [show fO 41 (at' p.s j) = some 0 from if_pos h41]
        rintro e w2 ⟨rfl, hW2⟩
        have HS : Hid (shut p.s (FF (.ok (lapp ms .lnil) j)) = .ok (GG (lapp ms .lnil)) (j + 1)) := by
         show shut p.s _ = _
         rw [HFL.out.1]
         exact if_pos h41
        clear hcb hcu h41
        go_wp2_with fail
        go_end0
        refine ⟨rfl, _, HQ.out, ?_⟩
        rw [HS.out]
        exact ⟨v, by rw [HFL.out.2]; exact hW2⟩
       ·rw [show fO 41 (at' p.s j) = none from if_neg h41]
        rintro e w2 ⟨rfl, hW2⟩
        have HS : Hid (shut p.s (FF (.ok (lapp ms .lnil) j)) = .bad j) := by
         show shut p.s _ = _
         rw [HFL.out.1]
         exact if_neg h41
        clear hcb hcu h41
        go_wp2_with fail
        go_end0
        refine ⟨rfl, _, HQ.out, ?_⟩
        rw [HS.out]
        exact ⟨_, _, hW2, rfl, rfl, rfl⟩
     ·obtain ⟨c0, c1, c2, c3, c4, g1, g2, g3, g4⟩ := hWr.blk.main
      have hnb : decide (p'.bad < 0) = false := by rw [e2]; simp
      have hnb' : ¬ p'.bad < 0 := by rw [e2]; omega
      have HE2 : Hid (p'.bad = (j : Int)) := e2
      clear e2
      have HB : Hid (TG p.s .body p.dp p.ix (.bad j)) := by
       have h := HF.out _ hTB
       rw [HFB.out j] at h
       exact h
      clear hTB hkm
      go_wp2_with fail
      go_quiet (fail)
      go_wp2_with fail
      refine (wtake_dead X b p' l' ⟨#[41]⟩ _ (hWr.step (hWr.blk.drewN _) rfl ((Keeps.refl [b] wr).drewN _)) (by rw [HE2.out]; omega)).mono ?_
      rintro e w9 ⟨rfl, hW9⟩
      go_wp2_with fail
      go_end0
      exact ⟨rfl, _, HB.out, p', l', hW9, e1, HE2.out, e3⟩
 ·rw [show fD (at' p.s (p.ix + 1)) = none from if_neg hg] at hA
  have HB0 : Hid (TG p.s .body p.dp p.ix (.bad (p.ix + 1))) := .alt1 _ _ HC.out (by simp [digB]; omega)
  clear hcb hcv hg
  go_upto_region 14 with (first | (go_at_call 143; refine hA.mono ?_; rintro e w2 ⟨rfl, hW2'⟩))
  go_quiet (fail)
  have hW2 : ∀ m, WI X (w2.drewN m) b { p with ix := p.ix + 1, bad := ((p.ix + 1 : Nat) : Int) } l := fun m => hW2'.step (hW2'.blk.drewN m) rfl ((Keeps.refl [b] w2).drewN m)
  obtain ⟨pd, hpd0⟩ : ∃ q : WS, q = { p with ix := p.ix + 1, bad := ((p.ix + 1 : Nat) : Int) } := ⟨_, rfl⟩
  obtain ⟨jd, hjd⟩ : ∃ q, q = p.ix + 1 := ⟨_, rfl⟩
  have hpb : pd.bad = (jd : Int) := by rw [hpd0, hjd]
  have hps' : pd.s = p.s := by rw [hpd0]
  have hpd : pd.dp = p.dp := by rw [hpd0]
  rw [← hpd0] at hW2
  have HB : Hid (TG p.s .body p.dp p.ix (.bad jd)) := by rw [hjd]; exact HB0
  clear hpd0 hjd HB0
  go_upto_region 17 with (fail)
  go_loopw [6] (fun q wr => q = .int .i64 0 ∧ WI X wr b pd l) (fun _ _ => 0)
  case atStart => exact ⟨rfl, hW2 _⟩
  case round =>
   obtain ⟨rfl, hWr⟩ := hrel
   obtain ⟨c0, c1, c2, c3, c4, g1, g2, g3, g4⟩ := hWr.blk.main
   have hnb : decide (pd.bad < 0) = false := by rw [hpb]; simp
   have hnb' : ¬ pd.bad < 0 := by rw [hpb]; omega
   have HPB : Hid (pd.bad = (jd : Int)) := hpb
   clear hpb
   go_wp2_with fail
   go_quiet (fail)
   go_wp2_with fail
   refine (wtake_dead X b pd l ⟨#[41]⟩ _ (hWr.step (hWr.blk.drewN _) rfl ((Keeps.refl [b] wr).drewN _)) (by rw [HPB.out]; omega)).mono ?_
   rintro e w9 ⟨rfl, hW9⟩
   go_wp2_with fail
   go_end0
   exact ⟨rfl, _, HB.out, pd, l, hW9, hps', HPB.out, hpd⟩
end Go.Proofs.YtnfojonmohijpaaGreatDoor
