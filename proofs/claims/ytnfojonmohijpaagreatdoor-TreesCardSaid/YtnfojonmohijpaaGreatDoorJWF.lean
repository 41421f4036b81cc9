/-
  DERIVED. The reference's reader of what stands behind an open bracket of a tree (inside), arm by arm. Conditions: the text is at most 20000 bytes long.
-/
import Derived.Test.YtnfojonmohijpaaGreatDoorJWV
import Derived.Test.YtnfojonmohijpaaGreatDoorJUG
set_option linter.unusedSimpArgs false
set_option linter.unusedVariables false
namespace Go.Proofs.YtnfojonmohijpaaGreatDoor
open Go.RowKit
set_option maxRecDepth 100000 in
set_option maxHeartbeats 8000000 in
theorem inside_ser (s : ByteArray) (hs : s.size ≤ 20000) (n : Nat) (IR : WRd s n) (X w : World) (b : Nat) (p : WS) (l : List UInt8) (hps : p.s = s) (hW : WI X w b p l) (hbad : p.bad = -1) (hle : p.ix ≤ s.size) (hn : s.size - p.ix < n + 1) (hdp : p.dp ≤ 60) (hll : l.length ≤ p.ix) (hc : at' p.s p.ix = 115) :
    Calls Tryz.prog 144 #[.pointer (some ⟨b, 0, none⟩)] w fun e w' => e = .returned (.tuple #[]) ∧ ∃ q, TG s .body p.dp p.ix q ∧ WAft X b p l (shut s q) w' := by
 subst hps
 have hcb := at'_bd' p.s p.ix
 have hcu : p.cur = at' p.s p.ix := rfl
 have hT := wtake_tab X b p l ⟨#[103, 114, 115, 97]⟩ fG (by decide) (by rw [hcu]; exact idx_G _ hcb.1 hcb.2) w hW hbad hle hs
 rw [hcu] at hT
 rw [hc] at hT
 have HC : Hid (at' p.s p.ix = 115) := hc
 have ef : fG 115 = some 2 := by decide
 rw [ef] at hT
 have hlt := at'_lt_of hc (by decide)
 have HL : Hid (p.ix < p.s.size) := hlt
 have hnm : p.s.size - p.ix < n + 1 := hn
 clear hcb hcu hc ef hlt
 go_enter Tryz.func144, Tryz.ntmps144
 go_upto_region 10 with (first | (go_at_call 143; refine hT.mono ?_; rintro e w1 ⟨rfl, hW1⟩))
 obtain ⟨I0, hI⟩ : ∃ I0, I0 = p.ix + 1 := ⟨_, rfl⟩
 obtain ⟨v0, hv0⟩ : ∃ v0, v0 = p.v := ⟨_, rfl⟩
 have hW0 : WI X w1 b { p with ix := I0, v := v0 } l := by rw [hI, hv0]; exact hW1
 have hI0 : I0 ≤ p.s.size := by have := HL.out; omega
 have hl0 : l.length ≤ I0 := by omega
 obtain ⟨FF, hFF⟩ : ∃ FF : R Tr → R Tr, FF = fun q => q.map .tser := ⟨_, rfl⟩
 obtain ⟨GG, hGG⟩ : ∃ GG : Tr → Tr, GG = .tser := ⟨_, rfl⟩
 have HF : Hid (∀ q, TG p.s (.row 2 true) p.dp I0 q → TG p.s .body p.dp p.ix (FF q)) := fun q h => by rw [hFF]; exact .ser _ _ _ HC.out (hI ▸ h)
 have HFB : Hid (∀ j, FF (.bad j) = .bad j) := fun j => by rw [hFF]; rfl
 have HGG : Hid (FGG FF GG (fun _ => True)) := fun ms j _ => by rw [hFF, hGG]; exact ⟨rfl, lapp_flat ms⟩
 have hnm2 : p.s.size - I0 < n := by have := HL.out; omega
 obtain ⟨c0, c1, c2, c3, c4, g1, g2, g3, g4⟩ := hW1.blk.main
 have hszm : (p.s.size : Int) ≤ 20000 := by omega
 clear hI hv0 hFF hGG
 go_upto_region 17 with (fail)
 go_loopw [6] (fun q wr => ∃ (k : Nat) (ms : List Tr), q = .int .i64 k ∧ k = ms.length ∧ ((∃ (j : Nat) (v : Value), WI X wr b { p with ix := j, v := v } (l ++ flats ms) ∧ I0 ≤ j ∧ j ≤ p.s.size ∧ (l ++ flats ms).length ≤ j ∧ k ≤ j ∧ ∀ q, TG p.s (.row (2 - k) true) p.dp j q → TG p.s (.row 2 true) p.dp I0 (q.map (lapp ms))) ∨ (∃ (p' : WS) (l' : List UInt8) (j : Nat), WI X wr b p' l' ∧ p'.s = p.s ∧ p'.bad = (j : Int) ∧ p'.dp = p.dp ∧ TG p.s (.row 2 true) p.dp I0 (.bad j)))) (fun _ wr => muW wr b)
 case atStart => exact ⟨0, [], rfl, rfl, Or.inl ⟨I0, v0, by simpa [flats] using hW0, Nat.le_refl _, hI0, by simpa [flats] using hl0, Nat.zero_le _, fun q h => by rw [map_lapp_nil]; exact h⟩⟩
 case round =>
  obtain ⟨k, ms, rfl, hkm, ⟨j, v, hWr, hIj, hjl, hlj, hkj, hsp⟩ | ⟨p', l', j, hWr, e1, e2, e3, hTB⟩⟩ := hrel
  ·have HSP : Hid (∀ q, TG p.s (.row (2 - k) true) p.dp j q → TG p.s (.row 2 true) p.dp I0 (q.map (lapp ms))) := hsp
   have hmu := muW_ok hWr.blk hbad
   have HJ : Hid (I0 ≤ j ∧ j ≤ p.s.size ∧ (l ++ flats ms).length ≤ j ∧ k ≤ j ∧ k = ms.length) := ⟨hIj, hjl, hlj, hkj, hkm⟩
   obtain ⟨c0, c1, c2, c3, c4, g1, g2, g3, g4⟩ := hWr.blk.main
   simp only [hbad] at c2
   have hji : (j : Int) ≤ 20000 := by omega
   have hj0 : (0 : Int) ≤ (j : Int) := by omega
   obtain ⟨κ, hκ⟩ : ∃ κ : Int, (k : Int) = κ := ⟨_, rfl⟩
   rw [hκ]
   have hki : κ ≤ 20000 := by omega
   have hk0 : (0 : Int) ≤ κ := by omega
   have HKA : Hid ((k : Int) = κ) := hκ
   clear hsp hIj hlj hkj hkm
   by_cases hkL0 : k < 2
   ·have hkL : decide (κ < 2) = true := by simp; omega
    have hkLi : κ < 2 := by omega
    by_cases h32 : at' p.s j = 32
    ·have H32 : Hid (at' p.s j = 32) := h32
     have hjlt := at'_lt_of h32 (by decide)
     have hj1 : (j : Int) < (p.s.size : Int) := by omega
     have hks : κ < (p.s.size : Int) := by have := HJ.out; omega
     have hks' : decide (κ < (p.s.size : Int)) = true := by simp; omega
     have hjs' : decide ((j : Int) < (p.s.size : Int)) = true := by simp; omega
     obtain ⟨nc, hnc⟩ : ∃ n, (p.s[j]'hjlt).toNat = n := ⟨_, rfl⟩
     have hn32 : nc = 32 := by have := at'_lt hjlt; omega
     have hq32 : ((nc : Int) == 32) = true := by simp [hn32]
     have HJL : Hid (j < p.s.size) := hjlt
     clear h32 hjl hκ hn32
     go_wp2_with fail
     go_quiet (fail)
     go_wp2_with fail
     have hWq : ∀ m, WI X (wr.drewN m) b { p with ix := j, v := v } (l ++ flats ms) := fun m => hWr.step (hWr.blk.drewN m) rfl ((Keeps.refl [b] wr).drewN m)
     have hcb := at'_bd' p.s j
     refine (wtake_tab X b { p with ix := j, v := v } (l ++ flats ms) ⟨#[32]⟩ (fO 32) (by decide) (idx_32 _ hcb.1 hcb.2) _ (hWq _) hbad HJ.out.2.1 hs).mono ?_
     have hcu : WS.cur { p with ix := j, v := v } = at' p.s j := rfl
     rw [hcu, show fO 32 (at' p.s j) = some 0 from if_pos H32.out]
     rintro e w2 ⟨rfl, hW2⟩
     have hRd := IR X w2 b { p with ix := j + 1, v := v } (l ++ flats ms) rfl hW2 hbad HJL.out (show p.s.size - (j + 1) < n by have := HJ.out; have := HJL.out; have := hnm; omega) hdp (show (l ++ flats ms).length ≤ j + 1 by have := HJ.out; omega)
     obtain ⟨d0, d1, d2, d3, d4, m1, m2, m3, m4⟩ := hW2.blk.main
     simp only [hbad] at d2
     clear hcb hcu hWq c0 c1 c2 c3 c4 g1 g2 g3 g4
     go_wp2_with fail
     refine hRd.mono ?_
     rintro e w3 ⟨rfl, q, hTG, hA⟩
     cases q with
     | bad j' =>
      obtain ⟨p', l', hW3, e1, e2, e3⟩ := hA
      have HT : Hid (TG p.s (.row 2 true) p.dp I0 (.bad j')) := HSP.out _ (.bad _ _ _ _ _ (Or.inl (by omega)) H32.out hTG)
      have hmu3 := muW_bad hW3.blk e2
      clear hRd hTG
      go_wp2_with fail
      go_roundw
      case rel => exact ⟨ms.length + 1, ms ++ [.tnil], congrArg (Value.int .i64) (by have h1 := HJ.out.2.2.2.2; have h2 := HKA.out; omega), by simp, Or.inr ⟨p', l', j', hW3, e1, e2, e3, HT.out⟩⟩
      case measure => have := HJ.out; rw [hmu, hmu3]; show 0 < 20003 - j; omega
     | ok t j' =>
      obtain ⟨v3, hW3⟩ := hA
      have hbd := hTG.bd HJL.out
      have hfl := hTG.flat _ _ rfl HJL.out
      have HBD : Hid (j + 1 < j' ∧ j' ≤ p.s.size ∧ t.flat.length + (j + 1) ≤ j') := ⟨hbd.2.2 rfl, hbd.2.1, hfl⟩
      have HTG : Hid (TG p.s .thing p.dp (j + 1) (.ok t j')) := hTG
      have hmu3 := muW_ok hW3.blk hbad
      have hW4 : WI X w3 b { p with ix := j', v := v3 } (l ++ flats (ms ++ [t])) := by rw [flats_snoc, ← List.append_assoc]; exact hW3
      clear hbd hfl hRd hTG
      go_wp2_with fail
      go_roundw
      case rel => exact ⟨ms.length + 1, ms ++ [t], congrArg (Value.int .i64) (by have h1 := HJ.out.2.2.2.2; have h2 := HKA.out; omega), by simp, Or.inl ⟨j', v3, hW4, by have := HJ.out; have := HBD.out; omega, HBD.out.2.1, by
        have h1 := HJ.out
        have h2 := HBD.out
        rw [flats_snoc]
        simp only [List.length_append] at h1 ⊢
        omega, by have := HJ.out; have := HBD.out; omega, fun q hq => by
        rw [← map_lapp_snoc]
        have h5 := HJ.out.2.2.2.2
        exact HSP.out _ (.go _ _ _ _ _ _ _ (Or.inl (by omega)) H32.out HTG.out (by rw [show 2 - k - 1 = 2 - (ms.length + 1) by omega]; exact hq))⟩⟩
      case measure => have := HJ.out; have := HBD.out; rw [hmu, hmu3]; show 20003 - j' < 20003 - j; omega
    ·have H32 : Hid (at' p.s j ≠ 32) := h32
     clear h32 hjl hκ
     go_wp2_with fail
     go_quiet (fail)
     go_wp2_with fail
     have hWq : ∀ m, WI X (wr.drewN m) b { p with ix := j, v := v } (l ++ flats ms) := fun m => hWr.step (hWr.blk.drewN m) rfl ((Keeps.refl [b] wr).drewN m)
     have hcb := at'_bd' p.s j
     refine (wtake_tab X b { p with ix := j, v := v } (l ++ flats ms) ⟨#[32]⟩ (fO 32) (by decide) (idx_32 _ hcb.1 hcb.2) _ (hWq _) hbad HJ.out.2.1 hs).mono ?_
     have hcu : WS.cur { p with ix := j, v := v } = at' p.s j := rfl
     rw [hcu, show fO 32 (at' p.s j) = none from if_neg H32.out]
     rintro e w2 ⟨rfl, hW2⟩
     have HT : Hid (TG p.s (.row 2 true) p.dp I0 (.bad j)) := HSP.out _ (.need _ _ _ _ (by omega) H32.out)
     obtain ⟨d0, d1, d2, d3, d4, m1, m2, m3, m4⟩ := hW2.blk.main
     have hnb : ¬ (j : Int) < 0 := by omega
     have hnb' : decide ((j : Int) < 0) = false := by simp
     have hmu3 := muW_bad (j := j) hW2.blk rfl
     clear hcb hcu hWq c0 c1 c2 c3 c4 g1 g2 g3 g4
     go_wp2_with fail
     go_roundw
     case rel => exact ⟨ms.length + 1, ms ++ [.tnil], congrArg (Value.int .i64) (by have h1 := HJ.out.2.2.2.2; have h2 := HKA.out; omega), by simp, Or.inr ⟨_, _, j, hW2, rfl, rfl, rfl, HT.out⟩⟩
     case measure => have := HJ.out; rw [hmu, hmu3]; show 0 < 20003 - j; omega
   ·have hkL : decide (κ < 2) = false := by simp; omega
    have hkLi : ¬ κ < 2 := by omega
    by_cases h32 : at' p.s j = 32
    ·have H32 : Hid (at' p.s j = 32) := h32
     have hjlt := at'_lt_of h32 (by decide)
     have hj1 : (j : Int) < (p.s.size : Int) := by omega
     have hks : κ < (p.s.size : Int) := by have := HJ.out; omega
     have hks' : decide (κ < (p.s.size : Int)) = true := by simp; omega
     have hjs' : decide ((j : Int) < (p.s.size : Int)) = true := by simp; omega
     obtain ⟨nc, hnc⟩ : ∃ n, (p.s[j]'hjlt).toNat = n := ⟨_, rfl⟩
     have hn32 : nc = 32 := by have := at'_lt hjlt; omega
     have hq32 : ((nc : Int) == 32) = true := by simp [hn32]
     have HJL : Hid (j < p.s.size) := hjlt
     clear h32 hjl hκ hn32
     go_wp2_with fail
     go_quiet (fail)
     go_wp2_with fail
     have hWq : ∀ m, WI X (wr.drewN m) b { p with ix := j, v := v } (l ++ flats ms) := fun m => hWr.step (hWr.blk.drewN m) rfl ((Keeps.refl [b] wr).drewN m)
     have hcb := at'_bd' p.s j
     refine (wtake_tab X b { p with ix := j, v := v } (l ++ flats ms) ⟨#[32]⟩ (fO 32) (by decide) (idx_32 _ hcb.1 hcb.2) _ (hWq _) hbad HJ.out.2.1 hs).mono ?_
     have hcu : WS.cur { p with ix := j, v := v } = at' p.s j := rfl
     rw [hcu, show fO 32 (at' p.s j) = some 0 from if_pos H32.out]
     rintro e w2 ⟨rfl, hW2⟩
     have hRd := IR X w2 b { p with ix := j + 1, v := v } (l ++ flats ms) rfl hW2 hbad HJL.out (show p.s.size - (j + 1) < n by have := HJ.out; have := HJL.out; have := hnm; omega) hdp (show (l ++ flats ms).length ≤ j + 1 by have := HJ.out; omega)
     obtain ⟨d0, d1, d2, d3, d4, m1, m2, m3, m4⟩ := hW2.blk.main
     simp only [hbad] at d2
     clear hcb hcu hWq c0 c1 c2 c3 c4 g1 g2 g3 g4
     go_wp2_with fail
     refine hRd.mono ?_
     rintro e w3 ⟨rfl, q, hTG, hA⟩
     cases q with
     | bad j' =>
      obtain ⟨p', l', hW3, e1, e2, e3⟩ := hA
      have HT : Hid (TG p.s (.row 2 true) p.dp I0 (.bad j')) := HSP.out _ (.bad _ _ _ _ _ (Or.inr rfl) H32.out hTG)
      have hmu3 := muW_bad hW3.blk e2
      clear hRd hTG
      go_wp2_with fail
      go_roundw
      case rel => exact ⟨ms.length + 1, ms ++ [.tnil], congrArg (Value.int .i64) (by have h1 := HJ.out.2.2.2.2; have h2 := HKA.out; omega), by simp, Or.inr ⟨p', l', j', hW3, e1, e2, e3, HT.out⟩⟩
      case measure => have := HJ.out; rw [hmu, hmu3]; show 0 < 20003 - j; omega
     | ok t j' =>
      obtain ⟨v3, hW3⟩ := hA
      have hbd := hTG.bd HJL.out
      have hfl := hTG.flat _ _ rfl HJL.out
      have HBD : Hid (j + 1 < j' ∧ j' ≤ p.s.size ∧ t.flat.length + (j + 1) ≤ j') := ⟨hbd.2.2 rfl, hbd.2.1, hfl⟩
      have HTG : Hid (TG p.s .thing p.dp (j + 1) (.ok t j')) := hTG
      have hmu3 := muW_ok hW3.blk hbad
      have hW4 : WI X w3 b { p with ix := j', v := v3 } (l ++ flats (ms ++ [t])) := by rw [flats_snoc, ← List.append_assoc]; exact hW3
      clear hbd hfl hRd hTG
      go_wp2_with fail
      go_roundw
      case rel => exact ⟨ms.length + 1, ms ++ [t], congrArg (Value.int .i64) (by have h1 := HJ.out.2.2.2.2; have h2 := HKA.out; omega), by simp, Or.inl ⟨j', v3, hW4, by have := HJ.out; have := HBD.out; omega, HBD.out.2.1, by
        have h1 := HJ.out
        have h2 := HBD.out
        rw [flats_snoc]
        simp only [List.length_append] at h1 ⊢
        omega, by have := HJ.out; have := HBD.out; omega, fun q hq => by
        rw [← map_lapp_snoc]
        have h5 := HJ.out.2.2.2.2
        exact HSP.out _ (.go _ _ _ _ _ _ _ (Or.inr rfl) H32.out HTG.out (by rw [show 2 - k - 1 = 2 - (ms.length + 1) by omega]; exact hq))⟩⟩
      case measure => have := HJ.out; have := HBD.out; rw [hmu, hmu3]; show 20003 - j' < 20003 - j; omega
    ·have H32 : Hid (at' p.s j ≠ 32) := h32
     by_cases hjlt : j < p.s.size
     ·have hj1 : (j : Int) < (p.s.size : Int) := by omega
      have hjs' : decide ((j : Int) < (p.s.size : Int)) = true := by simp; omega
      have hks : κ < (p.s.size : Int) := by have := HJ.out; omega
      have hks' : decide (κ < (p.s.size : Int)) = true := by simp; omega
      obtain ⟨nc, hnc⟩ : ∃ n, (p.s[j]'hjlt).toNat = n := ⟨_, rfl⟩
      have hq32 : ((nc : Int) == 32) = false := by have := at'_lt hjlt; have := H32.out; simp; omega
      have hq32' : (nc == 32) = false := by have := at'_lt hjlt; have := H32.out; simp; omega
      have HJL : Hid (j < p.s.size) := hjlt
      have HQ : Hid (TG p.s .body p.dp p.ix (FF (.ok (lapp ms .lnil) j))) := HF.out _ (HSP.out (.ok .lnil j) (by rw [show 2 - k = 0 by omega]; exact .stop _ _ H32.out))
      have HFL : Hid (FF (.ok (lapp ms .lnil) j) = .ok (GG (lapp ms .lnil)) j ∧ (GG (lapp ms .lnil)).flat = flats ms) := HGG.out ms j (by first | trivial | (have := HJ.out.2.2.2.2; omega))
      clear hκ
      go_wp2_with fail
      go_quiet (fail)
      go_wp2_with fail
      have hWq : ∀ m, WI X (wr.drewN m) b { p with ix := j, v := v } (l ++ flats ms) := fun m => hWr.step (hWr.blk.drewN m) rfl ((Keeps.refl [b] wr).drewN m)
      have hcb := at'_bd' p.s j
      refine (wtake_tab X b { p with ix := j, v := v } (l ++ flats ms) ⟨#[41]⟩ (fO 41) (by decide) (idx_41 _ hcb.1 hcb.2) _ (hWq _) hbad HJ.out.2.1 hs).mono ?_
      have hcu : WS.cur { p with ix := j, v := v } = at' p.s j := rfl
      rw [hcu]
      by_cases h41 : at' p.s j = 41
      ·rw [show fO 41 (at' p.s j) = some 0 from if_pos h41]
       rintro e w2 ⟨rfl, hW2⟩
       have HS : Hid (shut p.s (FF (.ok (lapp ms .lnil) j)) = .ok (GG (lapp ms .lnil)) (j + 1)) := by
        show shut p.s _ = _
        rw [HFL.out.1]
        exact if_pos h41
       clear hcb hcu h41
       go_wp2_with fail
       go_end0
       refine ⟨rfl, _, HQ.out, ?_⟩
       rw [HS.out]
       exact ⟨v, by rw [HFL.out.2]; exact hW2⟩
      ·rw [show fO 41 (at' p.s j) = none from if_neg h41]
       rintro e w2 ⟨rfl, hW2⟩
       have HS : Hid (shut p.s (FF (.ok (lapp ms .lnil) j)) = .bad j) := by
        show shut p.s _ = _
        rw [HFL.out.1]
        exact if_neg h41
       clear hcb hcu h41
       go_wp2_with fail
       go_end0
       refine ⟨rfl, _, HQ.out, ?_⟩
       rw [HS.out]
       exact ⟨_, _, hW2, rfl, rfl, rfl⟩
     ·have hjs' : decide ((j : Int) < (p.s.size : Int)) = false := by simp; omega
      have hjs'' : decide (j < p.s.size) = false := by simp; omega
      by_cases hkk : κ < (p.s.size : Int)
      ·have hks' : decide (κ < (p.s.size : Int)) = true := by simp; omega
       have HQ : Hid (TG p.s .body p.dp p.ix (FF (.ok (lapp ms .lnil) j))) := HF.out _ (HSP.out (.ok .lnil j) (by rw [show 2 - k = 0 by omega]; exact .stop _ _ H32.out))
       have HFL : Hid (FF (.ok (lapp ms .lnil) j) = .ok (GG (lapp ms .lnil)) j ∧ (GG (lapp ms .lnil)).flat = flats ms) := HGG.out ms j (by first | trivial | (have := HJ.out.2.2.2.2; omega))
       clear hκ
       go_wp2_with fail
       go_quiet (fail)
       go_wp2_with fail
       have hWq : ∀ m, WI X (wr.drewN m) b { p with ix := j, v := v } (l ++ flats ms) := fun m => hWr.step (hWr.blk.drewN m) rfl ((Keeps.refl [b] wr).drewN m)
       have hcb := at'_bd' p.s j
       refine (wtake_tab X b { p with ix := j, v := v } (l ++ flats ms) ⟨#[41]⟩ (fO 41) (by decide) (idx_41 _ hcb.1 hcb.2) _ (hWq _) hbad HJ.out.2.1 hs).mono ?_
       have hcu : WS.cur { p with ix := j, v := v } = at' p.s j := rfl
       rw [hcu]
       by_cases h41 : at' p.s j = 41
       ·rw [show fO 41 (at' p.s j) = some 0 from if_pos h41]
        rintro e w2 ⟨rfl, hW2⟩
        have HS : Hid (shut p.s (FF (.ok (lapp ms .lnil) j)) = .ok (GG (lapp ms .lnil)) (j + 1)) := by
         show shut p.s _ = _
         rw [HFL.out.1]
         exact if_pos h41
        clear hcb hcu h41
        go_wp2_with fail
        go_end0
        refine ⟨rfl, _, HQ.out, ?_⟩
        rw [HS.out]
        exact ⟨v, by rw [HFL.out.2]; exact hW2⟩
       ·rw [show fO 41 (at' p.s j) = none from if_neg h41]
        rintro e w2 ⟨rfl, hW2⟩
        have HS : Hid (shut p.s (FF (.ok (lapp ms .lnil) j)) = .bad j) := by
         show shut p.s _ = _
         rw [HFL.out.1]
         exact if_neg h41
        clear hcb hcu h41
        go_wp2_with fail
        go_end0
        refine ⟨rfl, _, HQ.out, ?_⟩
        rw [HS.out]
        exact ⟨_, _, hW2, rfl, rfl, rfl⟩
      ·have hks' : decide (κ < (p.s.size : Int)) = false := by simp; omega
       have HQ : Hid (TG p.s .body p.dp p.ix (FF (.ok (lapp ms .lnil) j))) := HF.out _ (HSP.out (.ok .lnil j) (by rw [show 2 - k = 0 by omega]; exact .stop _ _ H32.out))
       have HFL : Hid (FF (.ok (lapp ms .lnil) j) = .ok (GG (lapp ms .lnil)) j ∧ (GG (lapp ms .lnil)).flat = flats ms) := HGG.out ms j (by first | trivial | (have := HJ.out.2.2.2.2; omega))
       clear hκ
       go_wp2_with fail
       go_quiet (fail)
       go_wp2_with fail
       have hWq : ∀ m, WI X (wr.drewN m) b { p with ix := j, v := v } (l ++ flats ms) := fun m => hWr.step (hWr.blk.drewN m) rfl ((Keeps.refl [b] wr).drewN m)
       have hcb := at'_bd' p.s j
       refine (wtake_tab X b { p with ix := j, v := v } (l ++ flats ms) ⟨#[41]⟩ (fO 41) (by decide) (idx_41 _ hcb.1 hcb.2) _ (hWq _) hbad HJ.out.2.1 hs).mono ?_
       have hcu : WS.cur { p with ix := j, v := v } = at' p.s j := rfl
       rw [hcu]
       by_cases h41 : at' p.s j = 41
       ·rw [show fO 41 (at' p.s j) = some 0 from if_pos h41]
        rintro e w2 ⟨rfl, hW2⟩
        have HS : Hid (shut p.s (FF (.ok (lapp ms .lnil) j)) = .ok (GG (lapp ms .lnil)) (j + 1)) := by
         show shut p.s _ = _
         rw [HFL.out.1]
         exact if_pos h41
        clear hcb hcu h41
        go_wp2_with fail
        go_end0
        refine ⟨rfl, _, HQ.out, ?_⟩
        rw [HS.out]
        exact ⟨v, by rw [HFL.out.2]; exact hW2⟩
       ·rw [show fO 41 (at' p.s j) = none from if_neg h41]
        rintro e w2 ⟨rfl, hW2⟩
        have HS : Hid (shut p.s (FF (.ok (lapp ms .lnil) j)) = .bad j) := by
         show shut p.s _ = _
         rw [HFL.out.1]
         exact if_neg h41
        clear hcb hcu h41
        go_wp2_with fail
        go_end0
        refine ⟨rfl, _, HQ.out, ?_⟩
        rw [HS.out]
        exact ⟨_, _, hW2, rfl, rfl, rfl⟩
  ·obtain ⟨c0, c1, c2, c3, c4, g1, g2, g3, g4⟩ := hWr.blk.main
   have hnb : decide (p'.bad < 0) = false := by rw [e2]; simp
   have hnb' : ¬ p'.bad < 0 := by rw [e2]; omega
   have HE2 : Hid (p'.bad = (j : Int)) := e2
   clear e2
   have HB : Hid (TG p.s .body p.dp p.ix (.bad j)) := by
    have h := HF.out _ hTB
    rw [HFB.out j] at h
    exact h
   clear hTB hkm
   go_wp2_with fail
   go_quiet (fail)
   go_wp2_with fail
   refine (wtake_dead X b p' l' ⟨#[41]⟩ _ (hWr.step (hWr.blk.drewN _) rfl ((Keeps.refl [b] wr).drewN _)) (by rw [HE2.out]; omega)).mono ?_
   rintro e w9 ⟨rfl, hW9⟩
   go_wp2_with fail
   go_end0
   exact ⟨rfl, _, HB.out, p', l', hW9, e1, HE2.out, e3⟩
end Go.Proofs.YtnfojonmohijpaaGreatDoor
