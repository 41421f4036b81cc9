/-
  DERIVED. Contracts of the reference's 'escaped' and 'inner'. Conditions: the pattern is at most 60 bytes long, nothing was wrong so far.
-/
import Derived.Test.YtnfojonmohijpaaGreatDoorJRA
import Derived.Test.YtnfojonmohijpaaGreatDoorJSpec
set_option linter.unusedSimpArgs false
set_option linter.unusedVariables false
namespace Go.Proofs.YtnfojonmohijpaaGreatDoor
open Go.RowKit

theorem moreB_false_good {p : PS} (hm : moreB p = false) (hb : p.bad < 0) : p.s.size ≤ p.ix := by
  simp [moreB] at hm; have := hm hb; omega

theorem hex_good (b : Nat) (p : PS) (w : World) (ahead least : Int) (last : Bool) (hp : PB w b p) (hb : p.bad < 0) (hs : p.s.size ≤ 60)
    (ha0 : 0 ≤ ahead) (ha1 : ahead ≤ 240) (hl0 : 0 ≤ least) (hl1 : least ≤ 255) :
    Calls Tryz.prog 283 #[.pointer (some ⟨b, 0, none⟩), .int .i64 ahead, .bool last, .int .i64 least] w fun e w' =>
      ∃ v, e = .returned (.int .i64 v) ∧ 0 ≤ v ∧ v ≤ 15 ∧ (∀ a j, hexS p.s ahead last least p.ix = .ok a j → v = a) ∧ PB w' b (p.after (hexS p.s ahead last least p.ix)) ∧ Keeps [b] w w' := by
  cases hm : moreB p
  · refine (hex_none b p w ahead least last hp hm).mono ?_
    rintro e w' ⟨rfl, hp1, hk⟩
    have h1 := moreB_false_good hm hb
    have h2 : hexS p.s ahead last least p.ix = .bad p.ix := by unfold hexS; rw [at'_ge h1, if_pos (Or.inl (by decide))]
    exact ⟨0, rfl, by omega, by omega, by rw [h2]; simp, by rw [h2]; simpa [PS.failed, hb, PS.after] using hp1, hk⟩
  · exact hex_some b p w ahead least last hp hm hs ha0 ha1 hl0 hl1

theorem hex_bad (b : Nat) (p : PS) (w : World) (ahead least : Int) (last : Bool) (hp : PB w b p) (hb : 0 ≤ p.bad) :
    Calls Tryz.prog 283 #[.pointer (some ⟨b, 0, none⟩), .int .i64 ahead, .bool last, .int .i64 least] w fun e w' =>
      e = .returned (.int .i64 0) ∧ PB w' b p ∧ Keeps [b] w w' := by
  refine (hex_none b p w ahead least last hp (by simp [moreB]; omega)).mono ?_
  rintro e w' ⟨rfl, hp1, hk⟩
  exact ⟨rfl, by simpa [PS.failed, Int.not_lt.2 hb] using hp1, hk⟩

theorem after_ok {α : Type} {p : PS} {r : R α} {a : α} {j : Nat} (h : r = .ok a j) : p.after r = { p with ix := j } := by rw [h]; rfl
theorem after_bad {α : Type} {p : PS} {r : R α} {j : Nat} (h : r = .bad j) : p.after r = { p with bad := j, ix := j } := by rw [h]; rfl

set_option maxHeartbeats 1000000 in
/-- 'escaped', of a hex pair. -/
theorem esc_x (b : Nat) (p : PS) (w : World) (least : Int) (hp : PB w b p) (hb : p.bad < 0) (hs : p.s.size ≤ 60) (hk : p.ix < p.s.size)
    (hl0 : 0 ≤ least) (hl1 : least ≤ 255) (hx : at' p.s (p.ix + 1) = 120) :
    Calls Tryz.prog 263 #[.pointer (some ⟨b, 0, none⟩), .int .i64 least] w fun e w' =>
      ∃ v, e = .returned (.int .i64 v) ∧ Val (escS p.s least (p.ix + 1)) v ∧ PB w' b (p.after (escS p.s least (p.ix + 1))) ∧ Keeps [b] w w' := by
  obtain ⟨c0, h6, h7, f6, f7⟩ := hp.main
  have hk0 : (0 : Int) ≤ (p.ix : Int) := by omega
  have hk6 : (p.ix : Int) ≤ 60 := by omega
  rw [escS_x hx]
  have hp0 := hp.setIx (p.ix + 1)
  have hcur : PS.cur { p with ix := p.ix + 1 } = 120 := by simp [PS.cur, hb, hx]
  have hd : decide (PS.cur { p with ix := p.ix + 1 } = 120) = true := by simpa using hcur
  have htk : PS.took { p with ix := p.ix + 1 } 120 = { p with ix := p.ix + 2 } := by simp [PS.took, hcur]
  have Hx : Hid (at' p.s (p.ix + 1) = 120) := hx
  clear hx hcur
  have hlt := at'_nn (by rw [Hx.out]; omega)
  cases r1 : hexS p.s 0 false least (p.ix + 2) with
  | bad j =>
    have hj := hexS_bad r1
    subst hj
    have HP : Hid (hexPS p.s least (p.ix + 2) = .bad (p.ix + 2)) := by show hexPS p.s least (p.ix + 2) = _; simp [hexPS, r1, R.bind]
    have H1 : Hid (hexS p.s 0 false least (p.ix + 2) = .bad (p.ix + 2)) := r1
    clear r1
    go_enter Tryz.func263, Tryz.ntmps263
    go_wp2_with (first | (go_at_call 81; refine (take_any b { p with ix := p.ix + 1 } 120 _ hp0 (by omega) hs).mono ?_; rintro e w1 ⟨rfl, hp1, hk1⟩; rw [htk] at hp1))
    refine (hex_good b { p with ix := p.ix + 2 } _ 0 least false hp1 hb hs (by omega) (by omega) hl0 hl1).mono ?_
    rintro e w2 ⟨v, rfl, hv0, hv1, hva, hp2, hk2⟩
    rw [after_bad (show hexS _ 0 false least _ = _ from H1.out)] at hp2
    clear hva
    go_wp2_with (first | (go_at_call 283; refine (hex_bad b _ _ (16 * v) least true hp2 (Int.natCast_nonneg _)).mono ?_; rintro e w3 ⟨rfl, hp3, hk3⟩))
    go_ret
    refine ⟨16 * v, rfl, ⟨by omega, by omega, by rw [HP.out]; simp⟩, by rw [HP.out]; exact hp3, (((Keeps.refl _ _).setCell (by simp) _).trans hk1).trans (hk2.trans hk3)⟩
  | ok a j =>
    obtain ⟨rfl, ha0, ha1, hlt2, _⟩ := hexS_ok r1
    have H1 : Hid (hexS p.s 0 false least (p.ix + 2) = .ok a (p.ix + 2 + 1)) := r1
    have HP : Hid (hexPS p.s least (p.ix + 2) = (hexS p.s (16 * a) true least (p.ix + 3)).bind fun b k => .ok (16 * a + b) k) := by show hexPS p.s least (p.ix + 2) = _; simp [hexPS, r1, R.bind]
    clear r1
    go_enter Tryz.func263, Tryz.ntmps263
    go_wp2_with (first | (go_at_call 81; refine (take_any b { p with ix := p.ix + 1 } 120 _ hp0 (by omega) hs).mono ?_; rintro e w1 ⟨rfl, hp1, hk1⟩; rw [htk] at hp1))
    refine (hex_good b { p with ix := p.ix + 2 } _ 0 least false hp1 hb hs (by omega) (by omega) hl0 hl1).mono ?_
    rintro e w2 ⟨v, rfl, hv0, hv1, hva, hp2, hk2⟩
    rw [after_ok (show hexS _ 0 false least _ = _ from H1.out)] at hp2
    have hva' : v = a := hva a _ H1.out
    subst hva'
    clear hva
    go_wp2_with (first | (go_at_call 283; refine (hex_good b { p with ix := p.ix + 3 } _ (16 * v) least true hp2 hb hs (by omega) (by omega) hl0 hl1).mono ?_; rintro e w3 ⟨u, rfl, hu0, hu1, hua, hp3, hk3⟩))
    go_ret
    have hkk := (((Keeps.refl [b] w).setCell (p := ⟨b, 7, none⟩) (by simp) (.int .i64 ((p.ix + 1 : Nat) : Int))).trans hk1).trans (hk2.trans hk3)
    cases r2 : hexS p.s (16 * v) true least (p.ix + 3) with
    | bad j =>
      refine ⟨16 * v + u, rfl, ⟨by omega, by omega, by rw [HP.out, r2]; simp [R.bind]⟩, ?_, hkk⟩
      rw [after_bad (show hexS _ (16 * v) true least _ = _ from r2)] at hp3
      rw [HP.out, r2]; exact hp3
    | ok c j =>
      have hu : u = c := hua c j r2
      subst hu
      refine ⟨16 * v + u, rfl, ⟨by omega, by omega, by rw [HP.out, r2]; simp [R.bind]⟩, ?_, hkk⟩
      rw [after_ok (show hexS _ (16 * v) true least _ = _ from r2)] at hp3
      rw [HP.out, r2]; exact hp3

set_option maxHeartbeats 1000000 in
/-- 'escaped', of a sign. -/
theorem esc_sign (b : Nat) (p : PS) (w : World) (least : Int) (hp : PB w b p) (hb : p.bad < 0) (hs : p.s.size ≤ 60) (hk : p.ix < p.s.size)
    (hl0 : 0 ≤ least) (hl1 : least ≤ 255) (hx : at' p.s (p.ix + 1) ≠ 120) :
    Calls Tryz.prog 263 #[.pointer (some ⟨b, 0, none⟩), .int .i64 least] w fun e w' =>
      ∃ v, e = .returned (.int .i64 v) ∧ Val (escS p.s least (p.ix + 1)) v ∧ PB w' b (p.after (escS p.s least (p.ix + 1))) ∧ Keeps [b] w w' := by
  obtain ⟨c0, h6, h7, f6, f7⟩ := hp.main
  have hk0 : (0 : Int) ≤ (p.ix : Int) := by omega
  have hk6 : (p.ix : Int) ≤ 60 := by omega
  have hp0 := hp.setIx (p.ix + 1)
  have hcur : ¬ PS.cur { p with ix := p.ix + 1 } = 120 := by simp [PS.cur, hb, hx]
  have hd : decide (PS.cur { p with ix := p.ix + 1 } = 120) = false := by simpa using hcur
  have htk : PS.took { p with ix := p.ix + 1 } 120 = { p with ix := p.ix + 1 } := by simp [PS.took, hcur]
  have Hx : Hid (at' p.s (p.ix + 1) ≠ 120) := hx
  clear hx hcur
  have TK := fun w1 h1 => take_any b { p with ix := p.ix + 1 } 120 w1 h1 (by omega) hs
  cases hm : moreB { p with ix := p.ix + 1 }
  · have h1 := moreB_false_good hm hb
    have HE : Hid (escS p.s least (p.ix + 1) = .bad (p.ix + 1)) := by
      show escS p.s least (p.ix + 1) = _
      unfold escS
      rw [at'_ge h1, if_neg (by omega), if_pos (Or.inl (by omega))]
    go_enter Tryz.func263, Tryz.ntmps263
    go_wp2_with (first | (go_at_call 81; refine (TK _ hp0).mono ?_; rintro e w1 ⟨rfl, hp1, hk1⟩; rw [htk] at hp1) | (go_at_call 83; refine (more_any b _ _ hp1).mono ?_; rintro e w' ⟨rfl, n, rfl⟩) | (go_at_call 84; refine (fail_good b { p with ix := p.ix + 1 } _ (hp1.drewN n) hb).mono ?_; rintro e w' ⟨rfl, rfl⟩))
    go_ret
    refine ⟨0, rfl, ⟨by omega, by omega, by rw [HE.out]; simp⟩, by rw [HE.out]; exact (hp1.drewN n).setBad _, ((((Keeps.refl _ _).setCell (by simp) _).trans hk1).drewN n).setCell (by simp) _⟩
  · have hlt' : p.ix + 1 < p.s.size := (PS.cur_more hm).1
    have ec := at'_lt hlt'
    have hki : ((p.ix + 1 : Nat) : Int) < (p.s.size : Int) := by omega
    have hkj : (0 : Int) ≤ ((p.ix + 1 : Nat) : Int) := by omega
    have hkk : ((p.ix + 1 : Nat) : Int) ≤ 60 := by omega
    have hc1 := (p.s[p.ix + 1]).toNat_lt
    have hcl : (0 : Int) ≤ (p.s[p.ix + 1].toNat : Int) := by omega
    have hcu : (p.s[p.ix + 1].toNat : Int) ≤ 255 := by omega
    clear hc1
    generalize hgc : (p.s[p.ix + 1].toNat : Int) = c at *
    have hx' : c ≠ 120 := by rw [← ec]; exact Hx.out
    have HE : Hid (escS p.s least (p.ix + 1) = if alnB c = true ∨ c < least then .bad (p.ix + 1) else .ok c (p.ix + 2)) := by
      show escS p.s least (p.ix + 1) = _
      unfold escS
      rw [ec, if_neg hx']
      by_cases hh : alnB c = true ∨ c < least
      · rw [if_pos (Or.inr hh), if_pos hh]
      · rw [if_neg (by rintro (h | h); omega; exact hh h), if_neg hh]
    clear ec hx'
    cases ha : alnB c
    · by_cases hl : c < least
      · have HB : Hid (escS p.s least (p.ix + 1) = .bad (p.ix + 1)) := by show escS p.s least (p.ix + 1) = _; rw [HE.out, if_pos (Or.inr hl)]
        clear HE
        go_enter Tryz.func263, Tryz.ntmps263
        go_wp2_with (first | (go_at_call 81; refine (TK _ hp0).mono ?_; rintro e w1 ⟨rfl, hp1, hk1⟩; rw [htk] at hp1; obtain ⟨d0, d6, d7, e6, e7⟩ := hp1.main) | (go_at_call 83; refine (more_any b _ _ hp1).mono ?_; rintro e w' ⟨rfl, n, rfl⟩))
        go_quiet (fail)
        go_wp2_with (first | (go_at_call 210; refine (alnum_any c _).mono ?_; rintro e w' ⟨rfl, rfl⟩) | (go_at_call 84; refine (fail_good b { p with ix := p.ix + 1 } _ (hp1.drewN _) hb).mono ?_; rintro e w' ⟨rfl, rfl⟩))
        go_ret
        refine ⟨0, rfl, ⟨by omega, by omega, by rw [HB.out]; simp⟩, by rw [HB.out]; exact (hp1.drewN _).setBad _, ((((Keeps.refl _ _).setCell (by simp) _).trans hk1).drewN _).setCell (by simp) _⟩
      · have HB : Hid (escS p.s least (p.ix + 1) = .ok c (p.ix + 2)) := by show escS p.s least (p.ix + 1) = _; rw [HE.out, if_neg (by simp [ha, hl])]
        clear HE
        go_enter Tryz.func263, Tryz.ntmps263
        go_wp2_with (first | (go_at_call 81; refine (TK _ hp0).mono ?_; rintro e w1 ⟨rfl, hp1, hk1⟩; rw [htk] at hp1; obtain ⟨d0, d6, d7, e6, e7⟩ := hp1.main) | (go_at_call 83; refine (more_any b _ _ hp1).mono ?_; rintro e w' ⟨rfl, n, rfl⟩))
        go_quiet (fail)
        go_wp2_with (first | (go_at_call 210; refine (alnum_any c _).mono ?_; rintro e w' ⟨rfl, rfl⟩))
        go_ret
        refine ⟨c, rfl, ⟨by omega, by omega, by rw [HB.out]; intro a j h; cases h; rfl⟩, by rw [HB.out]; exact (hp1.drewN _).setIx (p.ix + 2), ((((Keeps.refl _ _).setCell (by simp) _).trans hk1).drewN _).setCell (by simp) _⟩
    · have HB : Hid (escS p.s least (p.ix + 1) = .bad (p.ix + 1)) := by show escS p.s least (p.ix + 1) = _; rw [HE.out, if_pos (Or.inl ha)]
      clear HE
      go_enter Tryz.func263, Tryz.ntmps263
      go_wp2_with (first | (go_at_call 81; refine (TK _ hp0).mono ?_; rintro e w1 ⟨rfl, hp1, hk1⟩; rw [htk] at hp1; obtain ⟨d0, d6, d7, e6, e7⟩ := hp1.main) | (go_at_call 83; refine (more_any b _ _ hp1).mono ?_; rintro e w' ⟨rfl, n, rfl⟩))
      go_quiet (fail)
      go_wp2_with (first | (go_at_call 210; refine (alnum_any c _).mono ?_; rintro e w' ⟨rfl, rfl⟩) | (go_at_call 84; refine (fail_good b { p with ix := p.ix + 1 } _ (hp1.drewN _) hb).mono ?_; rintro e w' ⟨rfl, rfl⟩))
      go_ret
      refine ⟨0, rfl, ⟨by omega, by omega, by rw [HB.out]; simp⟩, by rw [HB.out]; exact (hp1.drewN _).setBad _, ((((Keeps.refl _ _).setCell (by simp) _).trans hk1).drewN _).setCell (by simp) _⟩

/-- 'escaped', whatever stands there. -/
theorem esc_any (b : Nat) (p : PS) (w : World) (least : Int) (hp : PB w b p) (hb : p.bad < 0) (hs : p.s.size ≤ 60) (hk : p.ix < p.s.size)
    (hl0 : 0 ≤ least) (hl1 : least ≤ 255) :
    Calls Tryz.prog 263 #[.pointer (some ⟨b, 0, none⟩), .int .i64 least] w fun e w' =>
      ∃ v, e = .returned (.int .i64 v) ∧ Val (escS p.s least (p.ix + 1)) v ∧ PB w' b (p.after (escS p.s least (p.ix + 1))) ∧ Keeps [b] w w' := by
  by_cases hx : at' p.s (p.ix + 1) = 120
  · exact esc_x b p w least hp hb hs hk hl0 hl1 hx
  · exact esc_sign b p w least hp hb hs hk hl0 hl1 hx
end Go.Proofs.YtnfojonmohijpaaGreatDoor

/-
  DERIVED. The contract of the reference's 'inner'. Conditions: the pattern is at most 60 bytes long, nothing was wrong so far.
-/
namespace Go.Proofs.YtnfojonmohijpaaGreatDoor
open Go.RowKit

theorem has_inner (c : Int) : hasB ⟨#[91, 93, 45, 94]⟩ c (ByteArray.size ⟨#[91, 93, 45, 94]⟩) = decide (c = 91 ∨ c = 93 ∨ c = 45 ∨ c = 94) := by
  have h : (hasB ⟨#[91, 93, 45, 94]⟩ c (ByteArray.size ⟨#[91, 93, 45, 94]⟩) = true) ↔ (c = 91 ∨ c = 93 ∨ c = 45 ∨ c = 94) := by
    simp [hasB, ByteArray.size]
    omega
  by_cases hc : c = 91 ∨ c = 93 ∨ c = 45 ∨ c = 94
  · rw [decide_eq_true hc]; exact h.2 hc
  · rw [decide_eq_false hc]; exact Bool.eq_false_iff.2 fun e => hc (h.1 e)

set_option maxHeartbeats 1000000 in
theorem inner_any (b : Nat) (p : PS) (w : World) (least : Int) (hp : PB w b p) (hb : p.bad < 0) (hs : p.s.size ≤ 60)
    (hl0 : 0 ≤ least) (hl1 : least ≤ 255) :
    Calls Tryz.prog 282 #[.pointer (some ⟨b, 0, none⟩), .int .i64 least] w fun e w' =>
      ∃ v, e = .returned (.int .i64 v) ∧ Val (innS p.s least p.ix) v ∧ PB w' b (p.after (innS p.s least p.ix)) ∧ Keeps [b] w w' := by
  obtain ⟨c0, h6, h7, f6, f7⟩ := hp.main
  cases hm : moreB p
  · have h1 := moreB_false_good hm hb
    have HE : Hid (innS p.s least p.ix = .bad p.ix) := by
      show innS p.s least p.ix = _
      unfold innS
      rw [at'_ge h1, if_neg (by omega), if_pos (Or.inl (by omega))]
    clear h1
    go_enter Tryz.func282, Tryz.ntmps282
    go_wp2_with (first | (go_at_call 83; refine (more_any b _ _ hp).mono ?_; rintro e w' ⟨rfl, n, rfl⟩) | (go_at_call 84; refine (fail_good b p _ (hp.drewN n) hb).mono ?_; rintro e w' ⟨rfl, rfl⟩))
    go_ret
    refine ⟨0, rfl, ⟨by omega, by omega, by rw [HE.out]; simp⟩, by rw [HE.out]; exact (hp.drewN n).setBad _, ((Keeps.refl _ _).drewN n).setCell (by simp) _⟩
  · have hlt : p.ix < p.s.size := (PS.cur_more hm).1
    have ec := at'_lt hlt
    have hki : (p.ix : Int) < (p.s.size : Int) := by omega
    have hkj : (0 : Int) ≤ (p.ix : Int) := by omega
    have hkk : (p.ix : Int) ≤ 60 := by omega
    have hc1 := (p.s[p.ix]).toNat_lt
    have hcl : (0 : Int) ≤ (p.s[p.ix].toNat : Int) := by omega
    have hcu : (p.s[p.ix].toNat : Int) ≤ 255 := by omega
    clear hc1
    generalize hgc : (p.s[p.ix].toNat : Int) = c at *
    have HI : Hid (innS p.s least p.ix = if c = 92 then escS p.s least (p.ix + 1) else if (c = 91 ∨ c = 93 ∨ c = 45 ∨ c = 94) ∨ c < least then .bad p.ix else .ok c (p.ix + 1)) := by
      show innS p.s least p.ix = _
      unfold innS
      rw [ec]
      by_cases h : c = 92
      · rw [if_pos h, if_pos h]
      · rw [if_neg h, if_neg h]
        by_cases h' : (c = 91 ∨ c = 93 ∨ c = 45 ∨ c = 94) ∨ c < least
        · rw [if_pos h', if_pos (by omega)]
        · rw [if_neg h', if_neg (by omega)]
    clear ec
    by_cases h92 : c = 92
    · have HE : Hid (innS p.s least p.ix = escS p.s least (p.ix + 1)) := by show innS p.s least p.ix = _; rw [HI.out, if_pos h92]
      have hq : (c == 92) = true := by simpa using h92
      clear HI h92
      go_enter Tryz.func282, Tryz.ntmps282
      go_wp2_with (first | (go_at_call 83; refine (more_any b _ _ hp).mono ?_; rintro e w' ⟨rfl, n, rfl⟩))
      go_quiet (fail)
      go_wp2_with (first | (go_at_call 263; refine (esc_any b p _ least (hp.drewN _) hb hs hlt hl0 hl1).mono ?_; rintro e w1 ⟨v, rfl, hv, hp1, hk1⟩))
      go_ret
      exact ⟨v, rfl, by rw [HE.out]; exact hv, by rw [HE.out]; exact hp1, ((Keeps.refl _ _).drewN _).trans hk1⟩
    · have hq : (c == 92) = false := by simpa using h92
      by_cases hset : c = 91 ∨ c = 93 ∨ c = 45 ∨ c = 94
      · have HE : Hid (innS p.s least p.ix = .bad p.ix) := by show innS p.s least p.ix = _; rw [HI.out, if_neg h92, if_pos (Or.inl hset)]
        have HH := has_inner c
        rw [decide_eq_true hset] at HH
        clear HI h92 hset
        go_enter Tryz.func282, Tryz.ntmps282
        go_wp2_with (first | (go_at_call 83; refine (more_any b _ _ hp).mono ?_; rintro e w' ⟨rfl, n, rfl⟩))
        go_quiet (fail)
        go_wp2_with (first | (go_at_call 109; refine (has_any _ c _ (by decide)).mono ?_; rintro e w' ⟨rfl, rfl⟩; rw [HH]) | (go_at_call 84; refine (fail_good b p _ (hp.drewN _) hb).mono ?_; rintro e w' ⟨rfl, rfl⟩))
        go_ret
        exact ⟨0, rfl, ⟨by omega, by omega, by rw [HE.out]; simp⟩, by rw [HE.out]; exact (hp.drewN _).setBad _, ((Keeps.refl _ _).drewN _).setCell (by simp) _⟩
      · have HH := has_inner c
        rw [decide_eq_false hset] at HH
        by_cases hl : c < least
        · have HE : Hid (innS p.s least p.ix = .bad p.ix) := by show innS p.s least p.ix = _; rw [HI.out, if_neg h92, if_pos (Or.inr hl)]
          clear HI h92 hset
          go_enter Tryz.func282, Tryz.ntmps282
          go_wp2_with (first | (go_at_call 83; refine (more_any b _ _ hp).mono ?_; rintro e w' ⟨rfl, n, rfl⟩))
          go_quiet (fail)
          go_wp2_with (first | (go_at_call 109; refine (has_any _ c _ (by decide)).mono ?_; rintro e w' ⟨rfl, rfl⟩; rw [HH]) | (go_at_call 84; refine (fail_good b p _ (hp.drewN _) hb).mono ?_; rintro e w' ⟨rfl, rfl⟩))
          go_ret
          exact ⟨0, rfl, ⟨by omega, by omega, by rw [HE.out]; simp⟩, by rw [HE.out]; exact (hp.drewN _).setBad _, ((Keeps.refl _ _).drewN _).setCell (by simp) _⟩
        · have HE : Hid (innS p.s least p.ix = .ok c (p.ix + 1)) := by show innS p.s least p.ix = _; rw [HI.out, if_neg h92, if_neg (by rintro (h | h); exact hset h; exact hl h)]
          clear HI h92 hset
          go_enter Tryz.func282, Tryz.ntmps282
          go_wp2_with (first | (go_at_call 83; refine (more_any b _ _ hp).mono ?_; rintro e w' ⟨rfl, n, rfl⟩))
          go_quiet (fail)
          go_wp2_with (first | (go_at_call 109; refine (has_any _ c _ (by decide)).mono ?_; rintro e w' ⟨rfl, rfl⟩; rw [HH]))
          go_ret
          exact ⟨c, rfl, ⟨by omega, by omega, by rw [HE.out]; intro a j h; cases h; rfl⟩, by rw [HE.out]; exact (hp.drewN _).setIx (p.ix + 1), ((Keeps.refl _ _).drewN _).setCell (by simp) _⟩
end Go.Proofs.YtnfojonmohijpaaGreatDoor
