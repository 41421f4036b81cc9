/-
  DERIVED. Contracts of the program's escaped and inner. Conditions: the text is at most 60 bytes long, the place is within it, the least byte is one.
-/
import Derived.Test.YtnfojonmohijpaaGreatDoorJPC
set_option linter.unusedSimpArgs false
set_option linter.unusedVariables false
namespace Go.Proofs.YtnfojonmohijpaaGreatDoor
open Go.RowKit

set_option maxRecDepth 100000 in
set_option maxHeartbeats 1000000 in
theorem escaped_prog (b : Nat) (p : QS) (least : Int) (w : World) (hp : QB w b p) (hs : p.s.size ≤ 60) (hl0 : 0 ≤ least) (hl1 : least ≤ 255) (h92 : p.cur = 92) :
    Calls Tryz.prog 250 #[.pointer (some ⟨b, 0, none⟩), .int .u8 least] w (PPost b p w (escS p.s least (p.ix + 1))) := by
  have hmf : ∀ (fn : Fn) (first cap : Array Value) (w : World), (Instr.makeFunc fn first cap).run Tryz.prog w = .ok (.func fn first cap) w := fun _ _ _ _ => rfl
  obtain ⟨hq0, hl, hk0, hne⟩ := boxed b p least w hp
  have hlt : p.ix < p.s.size := at'_nn (by show 0 ≤ p.cur; omega)
  have EX := fun w1 h => expect_ok b p 92 (by omega) w1 h hs h92
  clear h92
  go_enter Tryz.func250, Tryz.ntmps250
  go_wp2_with fail
  generalize (w.alloc (.cells #[.int .u8 least] 5)) = W at *
  generalize w.heap.size = lb at *
  refine (EX _ hq0).mono ?_
  rintro e w1 ⟨rfl, hq1, hk1⟩
  have hl2 := keep_cell_b hk1 hne hl
  go_wp2_with fail
  refine (skip_any b { p with ix := p.ix + 1 } 120 (by omega) _ hq1 hlt hs).mono ?_
  rintro e w2 ⟨rfl, hq2, hk2⟩
  have hl3 := keep_cell_b hk2 hne hl2
  have hkA : Keeps [b] w w2 := (hk0.trans hk1).trans hk2
  by_cases hx : at' p.s (p.ix + 1) = 120
  · have hd : decide (QS.cur { p with ix := p.ix + 1 } = 120) = true := by simpa using (show QS.cur { p with ix := p.ix + 1 } = 120 from hx)
    have htk : QS.took { p with ix := p.ix + 1 } 120 = { p with ix := p.ix + 2 } := by unfold QS.took; rw [if_pos (show QS.cur { p with ix := p.ix + 1 } = 120 from hx)]
    rw [htk] at hq2
    have hlt2 : p.ix + 1 < p.s.size := at'_nn (by omega)
    have HE : Hid (escS p.s least (p.ix + 1) = hexPS p.s least (p.ix + 2)) := escS_x hx
    clear hx
    rw [hd]
    go_wp2_with fail
    refine (hexPair_prog b { p with ix := p.ix + 2 } least _ hq2 hs hlt2 hl0 hl1).mono ?_
    rintro e w3 ⟨hk3, hc3⟩
    cases hr : hexPS p.s least (p.ix + 2) with
    | ok v j =>
      rw [show hexPS (QS.s { p with ix := p.ix + 2 }) least (QS.ix { p with ix := p.ix + 2 }) = .ok v j from hr] at hc3
      obtain ⟨rfl, hq3⟩ := hc3
      have HE2 : Hid (escS p.s least (p.ix + 1) = .ok v j) := HE.out.trans hr
      clear hr
      go_wp2_with fail
      go_ret
      refine ⟨hkA.trans hk3, ?_⟩
      rw [HE2.out]
      exact ⟨rfl, hq3⟩
    | bad j =>
      rw [show hexPS (QS.s { p with ix := p.ix + 2 }) least (QS.ix { p with ix := p.ix + 2 }) = .bad j from hr] at hc3
      subst hc3
      simp only [fault]
      exact ⟨rfl, hkA.trans hk3, by rw [HE.out, hr]; rfl⟩
  · have hd : decide (QS.cur { p with ix := p.ix + 1 } = 120) = false := by simpa using (show ¬ QS.cur { p with ix := p.ix + 1 } = 120 from hx)
    have htk : QS.took { p with ix := p.ix + 1 } 120 = { p with ix := p.ix + 1 } := by unfold QS.took; rw [if_neg (show ¬ QS.cur { p with ix := p.ix + 1 } = 120 from hx)]
    rw [htk] at hq2
    have HE : Hid (escS p.s least (p.ix + 1) = if 0 ≤ at' p.s (p.ix + 1) ∧ (!alnB (at' p.s (p.ix + 1)) && decide (least ≤ at' p.s (p.ix + 1))) = true then .ok (at' p.s (p.ix + 1)) (p.ix + 2) else .bad (p.ix + 1)) := by
      show escS p.s least (p.ix + 1) = _
      unfold escS
      rw [if_neg hx]
      by_cases hc : at' p.s (p.ix + 1) < 0 ∨ alnB (at' p.s (p.ix + 1)) = true ∨ at' p.s (p.ix + 1) < least
      · rw [if_pos hc, if_neg]
        rintro ⟨a, bb⟩
        simp at bb
        rcases hc with h | h | h
        · omega
        · rw [h] at bb; cases bb.1
        · omega
      · rw [if_neg hc, if_pos]
        refine ⟨Int.not_lt.1 fun h => hc (Or.inl h), ?_⟩
        have h1 : alnB (at' p.s (p.ix + 1)) = false := Bool.eq_false_iff.2 fun h => hc (Or.inr (Or.inl h))
        have h2 : least ≤ at' p.s (p.ix + 1) := Int.not_lt.1 fun h => hc (Or.inr (Or.inr h))
        simp [h1, h2]
    clear hx
    rw [hd]
    go_wp2_with fail
    refine (take_may b { p with ix := p.ix + 1 } 277 _ _ _ hq2 hs hlt (fun h => may_esc1 hl3) (if 0 ≤ at' p.s (p.ix + 1) ∧ (!alnB (at' p.s (p.ix + 1)) && decide (least ≤ at' p.s (p.ix + 1))) = true then .ok (at' p.s (p.ix + 1)) (p.ix + 2) else .bad (p.ix + 1)) rfl).mono ?_
    rintro e w3 ⟨hk3, hc3⟩
    by_cases hc : 0 ≤ at' p.s (p.ix + 1) ∧ (!alnB (at' p.s (p.ix + 1)) && decide (least ≤ at' p.s (p.ix + 1))) = true
    · rw [if_pos hc] at hc3
      obtain ⟨rfl, hq3⟩ := hc3
      have HE2 : Hid (escS p.s least (p.ix + 1) = .ok (at' p.s (p.ix + 1)) (p.ix + 2)) := by show escS p.s least (p.ix + 1) = _; rw [HE.out, if_pos hc]
      clear hc
      go_wp2_with fail
      go_ret
      refine ⟨hkA.trans hk3, ?_⟩
      rw [HE2.out]
      exact ⟨rfl, hq3⟩
    · rw [if_neg hc] at hc3
      subst hc3
      simp only [fault]
      exact ⟨rfl, hkA.trans hk3, by rw [HE.out, if_neg hc]; rfl⟩

set_option maxRecDepth 100000 in
set_option maxHeartbeats 1000000 in
theorem inner_prog (b : Nat) (p : QS) (least : Int) (w : World) (hp : QB w b p) (hs : p.s.size ≤ 60) (hle : p.ix ≤ p.s.size) (hl0 : 0 ≤ least) (hl1 : least ≤ 255) :
    Calls Tryz.prog 290 #[.pointer (some ⟨b, 0, none⟩), .int .u8 least] w (PPost b p w (innS p.s least p.ix)) := by
  have hmf : ∀ (fn : Fn) (first cap : Array Value) (w : World), (Instr.makeFunc fn first cap).run Tryz.prog w = .ok (.func fn first cap) w := fun _ _ _ _ => rfl
  obtain ⟨hq0, hl, hk0, hne⟩ := boxed b p least w hp
  have hcb := at'_bd p.s p.ix
  go_enter Tryz.func290, Tryz.ntmps290
  go_wp2_with fail
  generalize (w.alloc (.cells #[.int .u8 least] 5)) = W at *
  generalize w.heap.size = lb at *
  refine (ahead_any b p 92 (by omega) _ hq0 hle hs).mono ?_
  rintro e w1 ⟨rfl, hq1, hk1⟩
  have hl2 := keep_cell hk1 hl
  have hkA : Keeps [b] w w1 := hk0.trans (hk1.mono (by simp))
  by_cases hx : at' p.s p.ix = 92
  · have hd : decide (p.cur = 92) = true := by simpa using (show p.cur = 92 from hx)
    have HE : Hid (innS p.s least p.ix = escS p.s least (p.ix + 1)) := by show innS p.s least p.ix = _; unfold innS; rw [if_pos hx]
    have hcur : p.cur = 92 := hx
    have EC := fun w1 h => escaped_prog b p least w1 h hs hl0 hl1 hcur
    clear hx hcur
    rw [hd]
    go_wp2_with fail
    refine (EC _ hq1).mono ?_
    rintro e w3 ⟨hk3, hc3⟩
    cases hr : escS p.s least (p.ix + 1) with
    | ok v j =>
      rw [hr] at hc3
      obtain ⟨rfl, hq3⟩ := hc3
      have HE2 : Hid (innS p.s least p.ix = .ok v j) := HE.out.trans hr
      clear hr
      go_wp2_with fail
      go_ret
      refine ⟨hkA.trans hk3, ?_⟩
      rw [HE2.out]
      exact ⟨rfl, hq3⟩
    | bad j =>
      rw [hr] at hc3
      subst hc3
      simp only [fault]
      exact ⟨rfl, hkA.trans hk3, by rw [HE.out, hr]; rfl⟩
  · have hd : decide (p.cur = 92) = false := by simpa using (show ¬ p.cur = 92 from hx)
    have HE : Hid (innS p.s least p.ix = if 0 ≤ at' p.s p.ix ∧ (!decide (at' p.s p.ix = 91 ∨ at' p.s p.ix = 93 ∨ at' p.s p.ix = 45 ∨ at' p.s p.ix = 94) && decide (least ≤ at' p.s p.ix)) = true then .ok (at' p.s p.ix) (p.ix + 1) else .bad p.ix) := by
      show innS p.s least p.ix = _
      unfold innS
      rw [if_neg hx]
      by_cases hc : at' p.s p.ix < 0 ∨ at' p.s p.ix = 91 ∨ at' p.s p.ix = 93 ∨ at' p.s p.ix = 45 ∨ at' p.s p.ix = 94 ∨ at' p.s p.ix < least
      · rw [if_pos hc, if_neg]
        rintro ⟨a, bb⟩
        simp at bb
        omega
      · rw [if_neg hc, if_pos]
        refine ⟨by omega, ?_⟩
        have h1 : ¬ (at' p.s p.ix = 91 ∨ at' p.s p.ix = 93 ∨ at' p.s p.ix = 45 ∨ at' p.s p.ix = 94) := by omega
        have h2 : least ≤ at' p.s p.ix := by omega
        simp only [decide_eq_false h1, decide_eq_true h2]; rfl
    clear hx
    rw [hd]
    go_wp2_with fail
    refine (take_may b p 300 _ _ _ hq1 hs hle (fun h => may_inn1 h hcb.2 hl2) (if 0 ≤ at' p.s p.ix ∧ (!decide (at' p.s p.ix = 91 ∨ at' p.s p.ix = 93 ∨ at' p.s p.ix = 45 ∨ at' p.s p.ix = 94) && decide (least ≤ at' p.s p.ix)) = true then .ok (at' p.s p.ix) (p.ix + 1) else .bad p.ix) rfl).mono ?_
    rintro e w3 ⟨hk3, hc3⟩
    by_cases hc : 0 ≤ at' p.s p.ix ∧ (!decide (at' p.s p.ix = 91 ∨ at' p.s p.ix = 93 ∨ at' p.s p.ix = 45 ∨ at' p.s p.ix = 94) && decide (least ≤ at' p.s p.ix)) = true
    · rw [if_pos hc] at hc3
      obtain ⟨rfl, hq3⟩ := hc3
      have HE2 : Hid (innS p.s least p.ix = .ok (at' p.s p.ix) (p.ix + 1)) := by show innS p.s least p.ix = _; rw [HE.out, if_pos hc]
      clear hc
      go_wp2_with fail
      go_ret
      refine ⟨hkA.trans hk3, ?_⟩
      rw [HE2.out]
      exact ⟨rfl, hq3⟩
    · rw [if_neg hc] at hc3
      subst hc3
      simp only [fault]
      exact ⟨rfl, hkA.trans hk3, by rw [HE.out, if_neg hc]; rfl⟩
end Go.Proofs.YtnfojonmohijpaaGreatDoor
