/-
  DERIVED. The contract of the reference's 'single' that writes a set. Conditions: the set's 256 cells lie in one block.
-/
import Derived.Test.YtnfojonmohijpaaGreatDoorJTA
set_option linter.unusedSimpArgs false
set_option linter.unusedVariables false
namespace Go.Proofs.YtnfojonmohijpaaGreatDoor
open Go.RowKit

theorem runE_step {f : Nat → Bool} {k : Nat} (h : k < 255) (hf : f (k + 1) = true) (n : Nat) : runE f (n + 1) k = runE f n (k + 1) := by
  rw [runE, if_pos ⟨h, hf⟩]
theorem runE_stop {f : Nat → Bool} {k : Nat} (h : ¬ (k < 255 ∧ f (k + 1) = true)) (n : Nat) : runE f n k = k := by
  cases n with
  | zero => rfl
  | succ n => rw [runE, if_neg h]
theorem outAt_no {f : Nat → Bool} {m : Nat} (h : f m = false) : outAt f m = [] := by simp [outAt, h]
theorem outAt_in {f : Nat → Bool} {m : Nat} (h0 : m ≠ 0) (h : f (m - 1) = true) : outAt f m = [] := by simp [outAt, h0, h]
theorem outAt_yes {f : Nat → Bool} {m : Nat} (h : f m = true) (h' : m = 0 ∨ f (m - 1) = false) : outAt f m = oneT m ++ (if m < runEnd f m then [45] ++ oneT (runEnd f m) else []) := by
  unfold outAt; rw [if_pos ⟨h, h'⟩]

/-- What the loop over the bytes has so far. -/
def TRel (h : Nat) (f : Nat → Bool) (w : World) (o c q : Value) (wr : World) : Prop :=
  ∃ m : Nat, m ≤ 256 ∧ q = .int .i64 m ∧ o = .string (nmB (outTo f m)) ∧ c = .int .i64 (cntTo f m) ∧ HB wr h f ∧ Keeps [] w wr

set_option maxRecDepth 100000 in
set_option maxHeartbeats 2000000 in
theorem single_text (h : Nat) (f : Nat → Bool) (w : World) (hh : HB w h f) :
    Calls Tryz.prog 122 #[.slice (some ⟨h, 0, none⟩) 256 256] w fun e w' => e = .returned (.string (nmB (setT f))) ∧ Keeps [] w w' := by
  go_enter Tryz.func122, Tryz.ntmps122
  go_wp2_with fail
  go_loopw [3, 4, 5] (fun o c q wr => TRel h f w o c q wr) (fun _ _ q _ => 256 - (intOf q).toNat)
  case atStart => exact ⟨0, by omega, rfl, rfl, rfl, hh, Keeps.refl _ _⟩
  case round =>
    clear hh
    obtain ⟨m, hm, rfl, rfl, rfl, hh, hk⟩ := hrel
    have hlo := outTo_len f m
    have hcn := cntTo_le f m
    have hcn0 : (0 : Int) ≤ (cntTo f m : Int) := by omega
    have hcn1 : (cntTo f m : Int) ≤ 256 := by omega
    by_cases hlt : m < 256
    · have hmi : (m : Int) < 256 := by omega
      have hmj : (0 : Int) ≤ (m : Int) := by omega
      have hcm := hh.cell hlt
      cases hf : f m
      · have HO : Hid (outTo f (m + 1) = outTo f m) := by show outTo f m ++ outAt f m = outTo f m; rw [outAt_no hf, List.append_nil]
        have HC : Hid (cntTo f (m + 1) = cntTo f m) := by show cntTo f m + (if f m then 1 else 0) = cntTo f m; rw [hf]; rfl
        go_wp2_with fail
        go_roundw
        case rel => exact ⟨m + 1, by omega, by go_num, by rw [HO.out], by rw [HC.out], hh, hk⟩
        case measure => simp [intOf]; omega
      · have HC : Hid (cntTo f (m + 1) = cntTo f m + 1) := by show cntTo f m + (if f m then 1 else 0) = cntTo f m + 1; rw [hf]; rfl
        by_cases hin : m ≠ 0 ∧ f (m - 1) = true
        · obtain ⟨hm0, hf1⟩ := hin
          have HO : Hid (outTo f (m + 1) = outTo f m) := by show outTo f m ++ outAt f m = outTo f m; rw [outAt_in hm0 hf1, List.append_nil]
          obtain ⟨m1, rfl⟩ : ∃ m1, m = m1 + 1 := ⟨m - 1, by omega⟩
          have hf2 : f m1 = true := hf1
          have hcm1 := hh.cell (k := m1) (by omega)
          have hmk : (0 : Int) < ((m1 + 1 : Nat) : Int) := by omega
          clear hf1 hm0
          go_wp2_with fail
          go_roundw
          case rel => exact ⟨m1 + 1 + 1, by omega, by go_num, by rw [HO.out], by rw [HC.out]; go_num, hh, hk⟩
          case measure => simp [intOf]; omega
        · have hst : m = 0 ∨ f (m - 1) = false := by
            by_cases h0 : m = 0
            · exact Or.inl h0
            · right; cases h1 : f (m - 1)
              · rfl
              · exact absurd ⟨h0, h1⟩ hin
          have HA := outAt_yes hf hst
          have HO : Hid (outTo f (m + 1) = outTo f m ++ (oneT m ++ (if m < runEnd f m then [45] ++ oneT (runEnd f m) else []))) := by show outTo f m ++ outAt f m = _; rw [HA]
          clear HA hin
          by_cases h00 : m = 0
          · have hmk : ¬ (0 : Int) < (m : Int) := by omega
            clear h00 hst
            go_wp2_with fail
            go_loop [6] (fun q => ∃ k : Nat, m ≤ k ∧ k ≤ 255 ∧ q = .int .i64 k ∧ Hid (runE f (255 - (k - m)) k = runEnd f m)) (fun q => 255 - (intOf q).toNat)
            case atStart => exact ⟨m, Nat.le_refl _, by omega, rfl, by show runE f (255 - (m - m)) m = runEnd f m; rw [Nat.sub_self]; rfl⟩
            case round =>
              obtain ⟨k, hk0, hk255, rfl, hrun⟩ := hrel
              by_cases hgo : k < 255 ∧ f (k + 1) = true
              · obtain ⟨hk1, hf1⟩ := hgo
                have hck := hh.cell (k := k + 1) (by omega)
                have hki : (k : Int) < 255 := by omega
                have hkj : (0 : Int) ≤ (k : Int) := by omega
                have HR : Hid (runE f (255 - (k + 1 - m)) (k + 1) = runEnd f m) := by
                  show runE f (255 - (k + 1 - m)) (k + 1) = runEnd f m
                  rw [← hrun.out, show 255 - (k - m) = (255 - (k + 1 - m)) + 1 from by omega, runE_step hk1 hf1]
                go_wp2_with fail
                go_round
                case rel => exact ⟨k + 1, by omega, by omega, by go_num, HR⟩
                case measure => simp [intOf]; omega
              · have HE : Hid (runEnd f m = k) := by show runEnd f m = k; rw [← hrun.out]; exact runE_stop hgo _
                have hl1 := oneT_len m
                have hl2 := oneT_len k
                have hs1 : (nmB (outTo f m)).size ≤ 2304 := by rw [nmB_size]; omega
                have hs2 : (nmB (oneT m)).size ≤ 4 := by rw [nmB_size]; omega
                have hs3 : (nmB (oneT k)).size ≤ 4 := by rw [nmB_size]; omega
                have hkj : (0 : Int) ≤ (k : Int) := by omega
                have hkl : (k : Int) ≤ 255 := by omega
                by_cases hkm : m < k
                · have hkmi : ((m : Nat) : Int) < (k : Int) := by omega
                  have HO2 : Hid (nmB (outTo f m) ++ nmB (oneT m) ++ nmB [45] ++ nmB (oneT k) = nmB (outTo f (m + 1))) := by
                    show _ = nmB (outTo f (m + 1))
                    rw [HO.out, HE.out, if_pos hkm, nmB_appT, nmB_appT, nmB_appT]
                    simp only [List.append_assoc]
                  have hs4 : (nmB (outTo f m) ++ nmB (oneT m)).size ≤ 2308 := by rw [nmB_appT, nmB_size, List.length_append]; omega
                  have hs5 : (nmB (outTo f m) ++ nmB (oneT m) ++ nmB [45]).size ≤ 2309 := by rw [nmB_appT, nmB_appT, nmB_size, List.length_append, List.length_append]; simp; omega
                  clear hl1 hl2 hkm
                  by_cases hk5 : k < 255
                  · have hki : (k : Int) < 255 := by omega
                    have hff : f (k + 1) = false := by
                      cases h1 : f (k + 1)
                      · rfl
                      · exact absurd ⟨hk5, h1⟩ hgo
                    have hck := hh.cell (k := k + 1) (by omega)
                    clear hgo
                    go_wp2_with fail
                    refine (one_any m (by omega) _).mono ?_
                    rintro e w1 ⟨rfl, hk1⟩
                    go_wp2_with fail
                    refine (one_any k (by omega) _).mono ?_
                    rintro e w2 ⟨rfl, hk2⟩
                    go_wp2_with fail
                    go_roundw
                    case rel => exact ⟨m + 1, by omega, by go_num, by rw [← HO2.out]; rfl, by rw [HC.out]; go_num, (hh.keep hk1 (by simp)).keep hk2 (by simp), (hk.trans hk1).trans hk2⟩
                    case measure => simp [intOf]; omega
                  · have hki : ¬ (k : Int) < 255 := by omega
                    clear hgo
                    go_wp2_with fail
                    refine (one_any m (by omega) _).mono ?_
                    rintro e w1 ⟨rfl, hk1⟩
                    go_wp2_with fail
                    refine (one_any k (by omega) _).mono ?_
                    rintro e w2 ⟨rfl, hk2⟩
                    go_wp2_with fail
                    go_roundw
                    case rel => exact ⟨m + 1, by omega, by go_num, by rw [← HO2.out]; rfl, by rw [HC.out]; go_num, (hh.keep hk1 (by simp)).keep hk2 (by simp), (hk.trans hk1).trans hk2⟩
                    case measure => simp [intOf]; omega
                · have hkmi : ¬ ((m : Nat) : Int) < (k : Int) := by omega
                  have HO2 : Hid (nmB (outTo f m) ++ nmB (oneT m) = nmB (outTo f (m + 1))) := by
                    show _ = nmB (outTo f (m + 1))
                    rw [HO.out, HE.out, if_neg hkm, nmB_appT, List.append_nil]
                  clear hl1 hl2 hkm
                  by_cases hk5 : k < 255
                  · have hki : (k : Int) < 255 := by omega
                    have hff : f (k + 1) = false := by
                      cases h1 : f (k + 1)
                      · rfl
                      · exact absurd ⟨hk5, h1⟩ hgo
                    have hck := hh.cell (k := k + 1) (by omega)
                    clear hgo
                    go_wp2_with fail
                    refine (one_any m (by omega) _).mono ?_
                    rintro e w1 ⟨rfl, hk1⟩
                    go_wp2_with fail
                    go_roundw
                    case rel => exact ⟨m + 1, by omega, by go_num, by rw [← HO2.out], by rw [HC.out]; go_num, hh.keep hk1 (by simp), hk.trans hk1⟩
                    case measure => simp [intOf]; omega
                  · have hki : ¬ (k : Int) < 255 := by omega
                    clear hgo
                    exfalso; omega
          · have h0 : f (m - 1) = false := by
              rcases hst with h | h
              · exact absurd h h00
              · exact h
            obtain ⟨m1, rfl⟩ : ∃ m1, m = m1 + 1 := ⟨m - 1, by omega⟩
            have hf2 : f m1 = false := h0
            have hcm1 := hh.cell (k := m1) (by omega)
            have hmk : (0 : Int) < ((m1 + 1 : Nat) : Int) := by omega
            clear h00 h0 hst
            go_wp2_with fail
            go_loop [6] (fun q => ∃ k : Nat, (m1 + 1) ≤ k ∧ k ≤ 255 ∧ q = .int .i64 k ∧ Hid (runE f (255 - (k - (m1 + 1))) k = runEnd f (m1 + 1))) (fun q => 255 - (intOf q).toNat)
            case atStart => exact ⟨(m1 + 1), Nat.le_refl _, by omega, rfl, by show runE f (255 - ((m1 + 1) - (m1 + 1))) (m1 + 1) = runEnd f (m1 + 1); rw [Nat.sub_self]; rfl⟩
            case round =>
              obtain ⟨k, hk0, hk255, rfl, hrun⟩ := hrel
              by_cases hgo : k < 255 ∧ f (k + 1) = true
              · obtain ⟨hk1, hf1⟩ := hgo
                have hck := hh.cell (k := k + 1) (by omega)
                have hki : (k : Int) < 255 := by omega
                have hkj : (0 : Int) ≤ (k : Int) := by omega
                have HR : Hid (runE f (255 - (k + 1 - (m1 + 1))) (k + 1) = runEnd f (m1 + 1)) := by
                  show runE f (255 - (k + 1 - (m1 + 1))) (k + 1) = runEnd f (m1 + 1)
                  rw [← hrun.out, show 255 - (k - (m1 + 1)) = (255 - (k + 1 - (m1 + 1))) + 1 from by omega, runE_step hk1 hf1]
                go_wp2_with fail
                go_round
                case rel => exact ⟨k + 1, by omega, by omega, by go_num, HR⟩
                case measure => simp [intOf]; omega
              · have HE : Hid (runEnd f (m1 + 1) = k) := by show runEnd f (m1 + 1) = k; rw [← hrun.out]; exact runE_stop hgo _
                have hl1 := oneT_len (m1 + 1)
                have hl2 := oneT_len k
                have hs1 : (nmB (outTo f (m1 + 1))).size ≤ 2304 := by rw [nmB_size]; omega
                have hs2 : (nmB (oneT (m1 + 1))).size ≤ 4 := by rw [nmB_size]; omega
                have hs3 : (nmB (oneT k)).size ≤ 4 := by rw [nmB_size]; omega
                have hkj : (0 : Int) ≤ (k : Int) := by omega
                have hkl : (k : Int) ≤ 255 := by omega
                by_cases hkm : (m1 + 1) < k
                · have hkmi : (((m1 + 1) : Nat) : Int) < (k : Int) := by omega
                  have HO2 : Hid (nmB (outTo f (m1 + 1)) ++ nmB (oneT (m1 + 1)) ++ nmB [45] ++ nmB (oneT k) = nmB (outTo f ((m1 + 1) + 1))) := by
                    show _ = nmB (outTo f ((m1 + 1) + 1))
                    rw [HO.out, HE.out, if_pos hkm, nmB_appT, nmB_appT, nmB_appT]
                    simp only [List.append_assoc]
                  have hs4 : (nmB (outTo f (m1 + 1)) ++ nmB (oneT (m1 + 1))).size ≤ 2308 := by rw [nmB_appT, nmB_size, List.length_append]; omega
                  have hs5 : (nmB (outTo f (m1 + 1)) ++ nmB (oneT (m1 + 1)) ++ nmB [45]).size ≤ 2309 := by rw [nmB_appT, nmB_appT, nmB_size, List.length_append, List.length_append]; simp; omega
                  clear hl1 hl2 hkm
                  by_cases hk5 : k < 255
                  · have hki : (k : Int) < 255 := by omega
                    have hff : f (k + 1) = false := by
                      cases h1 : f (k + 1)
                      · rfl
                      · exact absurd ⟨hk5, h1⟩ hgo
                    have hck := hh.cell (k := k + 1) (by omega)
                    clear hgo
                    go_wp2_with fail
                    refine (one_any (m1 + 1) (by omega) _).mono ?_
                    rintro e w1 ⟨rfl, hk1⟩
                    go_wp2_with fail
                    refine (one_any k (by omega) _).mono ?_
                    rintro e w2 ⟨rfl, hk2⟩
                    go_wp2_with fail
                    go_roundw
                    case rel => exact ⟨(m1 + 1) + 1, by omega, by go_num, by rw [← HO2.out]; rfl, by rw [HC.out]; go_num, (hh.keep hk1 (by simp)).keep hk2 (by simp), (hk.trans hk1).trans hk2⟩
                    case measure => simp [intOf]; omega
                  · have hki : ¬ (k : Int) < 255 := by omega
                    clear hgo
                    go_wp2_with fail
                    refine (one_any (m1 + 1) (by omega) _).mono ?_
                    rintro e w1 ⟨rfl, hk1⟩
                    go_wp2_with fail
                    refine (one_any k (by omega) _).mono ?_
                    rintro e w2 ⟨rfl, hk2⟩
                    go_wp2_with fail
                    go_roundw
                    case rel => exact ⟨(m1 + 1) + 1, by omega, by go_num, by rw [← HO2.out]; rfl, by rw [HC.out]; go_num, (hh.keep hk1 (by simp)).keep hk2 (by simp), (hk.trans hk1).trans hk2⟩
                    case measure => simp [intOf]; omega
                · have hkmi : ¬ (((m1 + 1) : Nat) : Int) < (k : Int) := by omega
                  have HO2 : Hid (nmB (outTo f (m1 + 1)) ++ nmB (oneT (m1 + 1)) = nmB (outTo f ((m1 + 1) + 1))) := by
                    show _ = nmB (outTo f ((m1 + 1) + 1))
                    rw [HO.out, HE.out, if_neg hkm, nmB_appT, List.append_nil]
                  clear hl1 hl2 hkm
                  by_cases hk5 : k < 255
                  · have hki : (k : Int) < 255 := by omega
                    have hff : f (k + 1) = false := by
                      cases h1 : f (k + 1)
                      · rfl
                      · exact absurd ⟨hk5, h1⟩ hgo
                    have hck := hh.cell (k := k + 1) (by omega)
                    clear hgo
                    go_wp2_with fail
                    refine (one_any (m1 + 1) (by omega) _).mono ?_
                    rintro e w1 ⟨rfl, hk1⟩
                    go_wp2_with fail
                    go_roundw
                    case rel => exact ⟨(m1 + 1) + 1, by omega, by go_num, by rw [← HO2.out], by rw [HC.out]; go_num, hh.keep hk1 (by simp), hk.trans hk1⟩
                    case measure => simp [intOf]; omega
                  · have hki : ¬ (k : Int) < 255 := by omega
                    clear hgo
                    go_wp2_with fail
                    refine (one_any (m1 + 1) (by omega) _).mono ?_
                    rintro e w1 ⟨rfl, hk1⟩
                    go_wp2_with fail
                    go_roundw
                    case rel => exact ⟨(m1 + 1) + 1, by omega, by go_num, by rw [← HO2.out], by rw [HC.out]; go_num, hh.keep hk1 (by simp), hk.trans hk1⟩
                    case measure => simp [intOf]; omega
    · have e : m = 256 := by omega
      subst e
      have hs1 : (nmB (outTo f 256)).size ≤ 2304 := by rw [nmB_size]; omega
      have hs2 : (nmB [91] ++ nmB (outTo f 256)).size ≤ 2305 := by rw [nmB_appT, nmB_size, List.length_append]; simp; omega
      obtain ⟨c, hc⟩ : ∃ c, c = cntTo f 256 := ⟨_, rfl⟩
      rw [← hc] at hcn hcn0 hcn1
      have HCC : Hid (c = cntTo f 256) := hc
      rw [← hc]
      clear hc
      by_cases c0 : c = 0
      · have q0 : ((c : Int) == 0) = true := by simpa using (by omega : (c : Int) = 0)
        have HT : Hid (setT f = [91, 94, 92, 120, 48, 48, 45, 92, 120, 102, 102, 93]) := by show setT f = _; unfold setT; rw [if_pos (by rw [← HCC.out]; exact c0)]
        clear c0
        go_wp2_with fail
        go_ret
        exact ⟨ret_str (by rw [HT.out]; rfl), hk⟩
      · have q0 : ((c : Int) == 0) = false := by simpa using (by omega : ¬ (c : Int) = 0)
        by_cases c1 : c = 1
        · have q1 : ((c : Int) == 1) = true := by simpa using (by omega : (c : Int) = 1)
          have HT : Hid (setT f = outTo f 256) := by show setT f = _; unfold setT; rw [if_neg (by rw [← HCC.out]; exact c0), if_pos (by rw [← HCC.out]; exact c1)]
          clear c0 c1
          go_wp2_with fail
          go_ret
          exact ⟨ret_str (by rw [HT.out]), hk⟩
        · have q1 : ((c : Int) == 1) = false := by simpa using (by omega : ¬ (c : Int) = 1)
          by_cases c2 : c = 256
          · have q2 : ((c : Int) == 256) = true := by simpa using (by omega : (c : Int) = 256)
            have HT : Hid (setT f = [46]) := by show setT f = _; unfold setT; rw [if_neg (by rw [← HCC.out]; exact c0), if_neg (by rw [← HCC.out]; exact c1), if_pos (by rw [← HCC.out]; exact c2)]
            clear c0 c1 c2
            go_wp2_with fail
            go_ret
            exact ⟨ret_str (by rw [HT.out]; rfl), hk⟩
          · have q2 : ((c : Int) == 256) = false := by simpa using (by omega : ¬ (c : Int) = 256)
            have HT : Hid (setT f = [91] ++ outTo f 256 ++ [93]) := by show setT f = _; unfold setT; rw [if_neg (by rw [← HCC.out]; exact c0), if_neg (by rw [← HCC.out]; exact c1), if_neg (by rw [← HCC.out]; exact c2)]
            clear c0 c1 c2
            go_wp2_with fail
            go_ret
            exact ⟨ret_str (by rw [HT.out, ← nmB_appT, ← nmB_appT]; rfl), hk⟩
end Go.Proofs.YtnfojonmohijpaaGreatDoor
