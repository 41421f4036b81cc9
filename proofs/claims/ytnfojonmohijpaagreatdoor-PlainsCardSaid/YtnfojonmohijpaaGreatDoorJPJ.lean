/-
  DERIVED. The contract of the program's addRange. Conditions: the text is at most 60 bytes long, the place is within it, the variable classNames holds the seven names, the parser, the set and that variable lie apart.
-/
import Derived.Test.YtnfojonmohijpaaGreatDoorJPI
set_option linter.unusedSimpArgs false
set_option linter.unusedVariables false
namespace Go.Proofs.YtnfojonmohijpaaGreatDoor
open Go.RowKit

def EPost (b : Nat) (p : QS) (w : World) (r : R Unit) (e : Ending) (w' : World) : Prop :=
  Keeps [b] w w' ∧ match r with
    | .ok _ j => e = .returned (.tuple #[]) ∧ QB w' b { p with ix := j }
    | .bad j => e = fault j
theorem expect_any (b : Nat) (p : QS) (c : Int) (hc : 0 ≤ c) (w : World) (hp : QB w b p) (hle : p.ix ≤ p.s.size) (hs : p.s.size ≤ 60) :
    Calls Tryz.prog 221 #[.pointer (some ⟨b, 0, none⟩), .int .u8 c] w (EPost b p w (needS p.s c p.ix)) := by
  by_cases h : p.cur = c
  · refine (expect_ok b p c hc w hp hs h).mono ?_
    rintro e w' ⟨rfl, hq, hk⟩
    refine ⟨hk, ?_⟩
    unfold needS
    rw [if_pos (show at' p.s p.ix = c from h)]
    exact ⟨rfl, hq⟩
  · refine (expect_bad b p c hc w hp hle hs h).mono ?_
    rintro e w' ⟨rfl, hk⟩
    refine ⟨hk, ?_⟩
    unfold needS
    rw [if_neg (show ¬ at' p.s p.ix = c from h)]
theorem needS_okB {s : ByteArray} {c : Int} {i j : Nat} {u : Unit} (hc : 0 ≤ c) (h : needS s c i = .ok u j) : i < j ∧ j ≤ s.size := by
  unfold needS at h
  by_cases e : at' s i = c
  · rw [if_pos e] at h
    cases h
    have : i < s.size := at'_nn (by omega)
    omega
  · rw [if_neg e] at h; cases h

/-- What addRange leaves. -/
def RPost (b h : Nat) (p : QS) (f : Nat → Bool) (w : World) (r : R (Nat → Bool)) (e : Ending) (w' : World) : Prop :=
  Keeps [b, h] w w' ∧ match r with
    | .ok r j => e = .returned (.tuple #[]) ∧ QB w' b { p with ix := j } ∧ HQ w' h (fun n => f n || r n)
    | .bad j => e = fault j

theorem took_yes {p : QS} {c : Int} (h : at' p.s p.ix = c) : decide (p.cur = c) = true ∧ p.took c = { p with ix := p.ix + 1 } := by
  have h' : p.cur = c := h
  exact ⟨by simpa using h', by unfold QS.took; rw [if_pos h']⟩
theorem took_no {p : QS} {c : Int} (h : ¬ at' p.s p.ix = c) : decide (p.cur = c) = false ∧ p.took c = p := by
  have h' : ¬ p.cur = c := h
  exact ⟨by simpa using h', by unfold QS.took; rw [if_neg h']⟩

set_option maxRecDepth 100000 in
set_option maxHeartbeats 2000000 in
theorem addRange_prog (b h : Nat) (p : QS) (f : Nat → Bool) (w : World) (hp : QB w b p) (hh : HQ w h f) (hs : p.s.size ≤ 60) (hle : p.ix ≤ p.s.size) (hg : GN w) (hbg : b ≠ 6) (hbh : b ≠ h) :
    Calls Tryz.prog 275 #[.pointer (some ⟨b, 0, none⟩), .pointer (some ⟨h, 0, none⟩)] w (RPost b h p f w (rangeS p.s p.ix)) := by
  go_enter Tryz.func275, Tryz.ntmps275
  go_wp2_with fail
  refine (skip_any b p 91 (by omega) _ hp hle hs).mono ?_
  rintro e w1 ⟨rfl, hq1, hk1⟩
  have hh1 : HQ w1 h f := hh.keep hk1 (by simp; omega)
  have hg1 : GN w1 := hg.keep hk1 (by simp; omega)
  have hkA : Keeps [b, h] w w1 := hk1.mono (by simp)
  by_cases h91 : at' p.s p.ix = 91
  · obtain ⟨hd, htk⟩ := took_yes h91
    rw [htk] at hq1
    have hlt : p.ix + 1 ≤ p.s.size := at'_nn (by omega)
    have HA : Hid (rangeS p.s p.ix = ((needS p.s 58 (p.ix + 1)).bind fun _ j => (clsS p.s 6 [] j).bind fun k j => (needS p.s 58 j).bind fun _ j => (needS p.s 93 j).bind fun _ j => .ok k j).bind fun k j => .ok (fun n : Nat => clsB k n) j) := by
      show rangeS p.s p.ix = _
      unfold rangeS; rw [if_pos h91]; rfl
    clear h91 htk
    rw [hd]
    go_wp2_with fail
    refine (expect_any b { p with ix := p.ix + 1 } 58 (by omega) _ hq1 hlt hs).mono ?_
    rintro e w2 ⟨hk2, hc2⟩
    have hh2 : HQ w2 h f := hh1.keep hk2 (by simp; omega)
    have hg2 : GN w2 := hg1.keep hk2 (by simp; omega)
    have hkB : Keeps [b, h] w w2 := hkA.trans (hk2.mono (by simp))
    have hr2' : ∀ r, needS p.s 58 (p.ix + 1) = r → needS (QS.s { p with ix := p.ix + 1 }) 58 (QS.ix { p with ix := p.ix + 1 }) = r := fun r h => h
    cases hr2 : needS p.s 58 (p.ix + 1) with
    | bad j =>
      rw [hr2' _ hr2] at hc2
      subst hc2
      simp only [fault]
      exact ⟨rfl, hkB, by rw [HA.out, hr2]; rfl⟩
    | ok u j2 =>
      rw [hr2' _ hr2] at hc2
      obtain ⟨rfl, hq2⟩ := hc2
      have hj2 := (needS_okB (by omega) hr2).2
      have HB : Hid (rangeS p.s p.ix = ((clsS p.s 6 [] j2).bind fun k j => (needS p.s 58 j).bind fun _ j => (needS p.s 93 j).bind fun _ j => .ok k j).bind fun k j => .ok (fun n : Nat => clsB k n) j) := by
        show rangeS p.s p.ix = _; rw [HA.out, hr2]; rfl
      clear hr2 HA hr2'
      go_wp2_with fail
      refine (className_prog b { p with ix := j2 } _ hq2 hs hj2 hg2 hbg).mono ?_
      rintro e w3 ⟨hk3, hc3⟩
      have hh3 : HQ w3 h f := hh2.keep hk3 (by simp; omega)
      have hkC : Keeps [b, h] w w3 := hkB.trans (hk3.mono (by simp))
      have hr3' : ∀ r, clsS p.s 6 [] j2 = r → clsS (QS.s { p with ix := j2 }) 6 [] (QS.ix { p with ix := j2 }) = r := fun r h => h
      cases hr3 : clsS p.s 6 [] j2 with
      | bad j =>
        rw [hr3' _ hr3] at hc3
        subst hc3
        simp only [fault]
        exact ⟨rfl, hkC, by rw [HB.out, hr3]; rfl⟩
      | ok k j3 =>
        rw [hr3' _ hr3] at hc3
        obtain ⟨rfl, hq3⟩ := hc3
        have hj3 := clsS_ok 6 hr3
        have hj3' := hj3.2.1 hj2
        have HC : Hid (rangeS p.s p.ix = ((needS p.s 58 j3).bind fun _ j => (needS p.s 93 j).bind fun _ j => .ok k j).bind fun k j => .ok (fun n : Nat => clsB k n) j) := by
          show rangeS p.s p.ix = _; rw [HB.out, hr3]; rfl
        have AC := fun w1 h1 => addClass_any h k hj3.2.2 f w1 h1
        clear hr3 HB hr3' hj3
        generalize nmB (nm k) = S at *
        go_wp2_with fail
        refine (AC _ hh3).mono ?_
        rintro e w4 ⟨rfl, hh4, hk4⟩
        have hq4 : QB w4 b { p with ix := j3 } := hq3.keep hk4 (by simp; omega)
        have hkD : Keeps [b, h] w w4 := hkC.trans (hk4.mono (by simp))
        clear AC hh3 hq3 hk4
        go_wp2_with fail
        refine (expect_any b { p with ix := j3 } 58 (by omega) _ hq4 hj3' hs).mono ?_
        rintro e w5 ⟨hk5, hc5⟩
        have hh5 := hh4.keep hk5 (by simp; omega)
        have hkE : Keeps [b, h] w w5 := hkD.trans (hk5.mono (by simp))
        have hr5' : ∀ r, needS p.s 58 j3 = r → needS (QS.s { p with ix := j3 }) 58 (QS.ix { p with ix := j3 }) = r := fun r h => h
        cases hr5 : needS p.s 58 j3 with
        | bad j =>
          rw [hr5' _ hr5] at hc5
          subst hc5
          simp only [fault]
          exact ⟨rfl, hkE, by rw [HC.out, hr5]; rfl⟩
        | ok u5 j5 =>
          rw [hr5' _ hr5] at hc5
          obtain ⟨rfl, hq5⟩ := hc5
          have hj5 := (needS_okB (by omega) hr5).2
          have HD : Hid (rangeS p.s p.ix = ((needS p.s 93 j5).bind fun _ j => R.ok k j).bind fun k j => .ok (fun n : Nat => clsB k n) j) := by
            show rangeS p.s p.ix = _; rw [HC.out, hr5]; rfl
          clear hr5 HC hr5'
          go_wp2_with fail
          refine (expect_any b { p with ix := j5 } 93 (by omega) _ hq5 hj5 hs).mono ?_
          rintro e w6 ⟨hk6, hc6⟩
          have hh6 := hh5.keep hk6 (by simp; omega)
          have hkF : Keeps [b, h] w w6 := hkE.trans (hk6.mono (by simp))
          have hr6' : ∀ r, needS p.s 93 j5 = r → needS (QS.s { p with ix := j5 }) 93 (QS.ix { p with ix := j5 }) = r := fun r h => h
          cases hr6 : needS p.s 93 j5 with
          | bad j =>
            rw [hr6' _ hr6] at hc6
            subst hc6
            simp only [fault]
            exact ⟨rfl, hkF, by rw [HD.out, hr6]; rfl⟩
          | ok u6 j6 =>
            rw [hr6' _ hr6] at hc6
            obtain ⟨rfl, hq6⟩ := hc6
            have HE : Hid (rangeS p.s p.ix = .ok (fun n : Nat => clsB k n) j6) := by
              show rangeS p.s p.ix = _; rw [HD.out, hr6]; rfl
            clear hr6 HD hr6'
            go_wp2_with fail
            refine bodyPost_ret (results_none rfl _ _ _) rfl ?_
            refine ⟨hkF, ?_⟩
            rw [HE.out]
            exact ⟨rfl, hq6, hh6⟩
  · obtain ⟨hd, htk⟩ := took_no h91
    rw [htk] at hq1
    have HA : Hid (rangeS p.s p.ix = (innS p.s 0 p.ix).bind fun a j => if at' p.s j = 45 then (innS p.s a (j + 1)).bind fun c k => .ok (stretch a c) k else .ok (stretch a a) j) := by
      show rangeS p.s p.ix = _
      unfold rangeS; rw [if_neg h91]
    clear h91 htk
    rw [hd]
    go_wp2_with fail
    refine (inner_prog b p 0 _ hq1 hs hle (by omega) (by omega)).mono ?_
    rintro e w2 ⟨hk2, hc2⟩
    have hh2 : HQ w2 h f := hh1.keep hk2 (by simp; omega)
    have hkB : Keeps [b, h] w w2 := hkA.trans (hk2.mono (by simp))
    cases hr2 : innS p.s 0 p.ix with
    | bad j =>
      rw [hr2] at hc2
      subst hc2
      simp only [fault]
      exact ⟨rfl, hkB, by rw [HA.out, hr2]; rfl⟩
    | ok a j2 =>
      rw [hr2] at hc2
      obtain ⟨rfl, hq2⟩ := hc2
      obtain ⟨_, hj2, ha0, ha1⟩ := innS_ok hr2
      have HB : Hid (rangeS p.s p.ix = if at' p.s j2 = 45 then (innS p.s a (j2 + 1)).bind fun c k => .ok (stretch a c) k else .ok (stretch a a) j2) := by
        show rangeS p.s p.ix = _; rw [HA.out, hr2]; rfl
      clear hr2 HA
      go_wp2_with fail
      refine (skip_any b { p with ix := j2 } 45 (by omega) _ hq2 hj2 hs).mono ?_
      rintro e w3 ⟨rfl, hq3, hk3⟩
      have hh3 : HQ w3 h f := hh2.keep hk3 (by simp; omega)
      have hkC : Keeps [b, h] w w3 := hkB.trans (hk3.mono (by simp))
      by_cases h45 : at' p.s j2 = 45
      · obtain ⟨hd3, htk3⟩ := took_yes (p := { p with ix := j2 }) h45
        rw [htk3] at hq3
        have hlt3 : j2 + 1 ≤ p.s.size := at'_nn (by omega)
        have HC : Hid (rangeS p.s p.ix = (innS p.s a (j2 + 1)).bind fun c k => .ok (stretch a c) k) := by
          show rangeS p.s p.ix = _; rw [HB.out, if_pos h45]
        clear h45 htk3 HB
        rw [hd3]
        go_wp2_with fail
        refine (inner_prog b { p with ix := j2 + 1 } a _ hq3 hs hlt3 ha0 ha1).mono ?_
        rintro e w4 ⟨hk4, hc4⟩
        have hh4 : HQ w4 h f := hh3.keep hk4 (by simp; omega)
        have hkD : Keeps [b, h] w w4 := hkC.trans (hk4.mono (by simp))
        have hr4' : ∀ r, innS p.s a (j2 + 1) = r → innS (QS.s { p with ix := j2 + 1 }) a (QS.ix { p with ix := j2 + 1 }) = r := fun r h => h
        cases hr4 : innS p.s a (j2 + 1) with
        | bad j =>
          rw [hr4' _ hr4] at hc4
          subst hc4
          simp only [fault]
          exact ⟨rfl, hkD, by rw [HC.out, hr4]; rfl⟩
        | ok c j4 =>
          rw [hr4' _ hr4] at hc4
          obtain ⟨rfl, hq4⟩ := hc4
          obtain ⟨_, hj4, hc0, hc1⟩ := innS_ok hr4
          have HD : Hid (rangeS p.s p.ix = .ok (stretch a c) j4) := by
            show rangeS p.s p.ix = _; rw [HC.out, hr4]; rfl
          clear hr4 HC hr4'
          go_wp2_with fail
          refine (addRange_any h f a c _ hh4 ha0 ha1 hc0 hc1).mono ?_
          rintro e w5 ⟨rfl, hh5, hk5⟩
          have hq5 : QB w5 b { p with ix := j4 } := hq4.keep hk5 (by simp; omega)
          have hkE : Keeps [b, h] w w5 := hkD.trans (hk5.mono (by simp))
          go_wp2_with fail
          go_end0
          refine ⟨hkE, ?_⟩
          rw [HD.out]
          exact ⟨rfl, hq5, hh5⟩
      · obtain ⟨hd3, htk3⟩ := took_no (p := { p with ix := j2 }) h45
        rw [htk3] at hq3
        have HC : Hid (rangeS p.s p.ix = .ok (stretch a a) j2) := by
          show rangeS p.s p.ix = _; rw [HB.out, if_neg h45]
        clear h45 htk3 HB
        rw [hd3]
        go_wp2_with fail
        refine (addRange_any h f a a _ hh3 ha0 ha1 ha0 ha1).mono ?_
        rintro e w5 ⟨rfl, hh5, hk5⟩
        have hq5 : QB w5 b { p with ix := j2 } := hq3.keep hk5 (by simp; omega)
        have hkE : Keeps [b, h] w w5 := hkC.trans (hk5.mono (by simp))
        go_wp2_with fail
        go_end0
        refine ⟨hkE, ?_⟩
        rw [HC.out]
        exact ⟨rfl, hq5, hh5⟩
end Go.Proofs.YtnfojonmohijpaaGreatDoor
