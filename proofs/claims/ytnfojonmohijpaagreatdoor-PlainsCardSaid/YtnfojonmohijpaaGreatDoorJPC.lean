/-
  DERIVED. Contracts of the program's hexPair, escaped and inner, held against the plain functions of the texts Spec and SB. Conditions: the text is at most 60 bytes long, the place is within it, the least byte is one.
-/
import Derived.Test.YtnfojonmohijpaaGreatDoorJPB
set_option linter.unusedSimpArgs false
set_option linter.unusedVariables false
namespace Go.Proofs.YtnfojonmohijpaaGreatDoor
open Go.RowKit

theorem cf_hp1 (args : Array Value) (w : World) : (callFunc 292 args).run Tryz.prog w = .ok (.enter 292 args) w := by kernel_rfl
theorem cf_hp2 (args : Array Value) (w : World) : (callFunc 293 args).run Tryz.prog w = .ok (.enter 293 args) w := by kernel_rfl
theorem cf_esc1 (args : Array Value) (w : World) : (callFunc 277 args).run Tryz.prog w = .ok (.enter 277 args) w := by kernel_rfl
theorem cf_inn1 (args : Array Value) (w : World) : (callFunc 300 args).run Tryz.prog w = .ok (.enter 300 args) w := by kernel_rfl

theorem keep_cell {w w' : World} (h : Keeps [] w w') {a : Addr} {v : Value} (hc : w.cell? a = some v) : w'.cell? a = some v :=
  (World.cell?_of_block (h.block a.block (World.block_lt_of_cell? w a hc) (by simp))).trans hc
theorem keep_cell_b {w w' : World} {b : Nat} (h : Keeps [b] w w') {a : Addr} {v : Value} (hb : a.block ≠ b) (hc : w.cell? a = some v) : w'.cell? a = some v :=
  (World.cell?_of_block (h.block a.block (World.block_lt_of_cell? w a hc) (by simpa using hb))).trans hc

/-- What a reader of one byte of the program leaves: the byte, and the place behind it; or it gives up at the place of what cannot stand there. -/
def PPost (b : Nat) (p : QS) (w : World) (r : R Int) (e : Ending) (w' : World) : Prop :=
  Keeps [b] w w' ∧ match r with
    | .ok v j => e = .returned (.int .u8 v) ∧ QB w' b { p with ix := j }
    | .bad j => e = fault j

theorem may_hp1 {c l : Int} (h0 : 0 ≤ c) (h1 : c ≤ 255) {lb : Nat} {w : World} (hl : w.cell? ⟨lb, 0, none⟩ = some (.int .u8 l)) : May 292 #[.pointer (some ⟨lb, 0, none⟩)] c (decide (0 ≤ hexd c) && decide (l ≤ 16 * hexd c + 15)) w :=
  ⟨cf_hp1, fun w1 hk => (hp1_any c l h0 h1 lb w1 (keep_cell hk hl)).mono fun e w2 ⟨he, n, hw⟩ => ⟨he, by rw [hw]; exact (Keeps.refl _ _).drewN n⟩⟩
theorem may_hp2 {c l a : Int} (h0 : 0 ≤ c) (h1 : c ≤ 255) (ha0 : 0 ≤ a) (ha1 : a ≤ 15) {ab lb : Nat} {w : World} (hla : w.cell? ⟨ab, 0, none⟩ = some (.int .u8 a)) (hl : w.cell? ⟨lb, 0, none⟩ = some (.int .u8 l)) : May 293 #[.pointer (some ⟨ab, 0, none⟩), .pointer (some ⟨lb, 0, none⟩)] c (decide (0 ≤ hexd c) && decide (l ≤ 16 * a + hexd c)) w :=
  ⟨cf_hp2, fun w1 hk => (hp2_any c l a h0 h1 ha0 ha1 ab lb w1 (keep_cell hk hla) (keep_cell hk hl)).mono fun e w2 ⟨he, n, hw⟩ => ⟨he, by rw [hw]; exact (Keeps.refl _ _).drewN n⟩⟩
theorem may_esc1 {c l : Int} {lb : Nat} {w : World} (hl : w.cell? ⟨lb, 0, none⟩ = some (.int .u8 l)) : May 277 #[.pointer (some ⟨lb, 0, none⟩)] c (!alnB c && decide (l ≤ c)) w :=
  ⟨cf_esc1, fun w1 hk => (esc1_any c l lb w1 (keep_cell hk hl)).mono fun e w2 ⟨he, hw⟩ => ⟨he, by rw [hw]; exact Keeps.refl _ _⟩⟩
theorem may_inn1 {c l : Int} (h0 : 0 ≤ c) (h1 : c ≤ 255) {lb : Nat} {w : World} (hl : w.cell? ⟨lb, 0, none⟩ = some (.int .u8 l)) : May 300 #[.pointer (some ⟨lb, 0, none⟩)] c (!decide (c = 91 ∨ c = 93 ∨ c = 45 ∨ c = 94) && decide (l ≤ c)) w :=
  ⟨cf_inn1, fun w1 hk => (inn1_any c l h0 h1 lb w1 (keep_cell hk hl)).mono fun e w2 ⟨he, hw⟩ => ⟨he, by rw [hw]; exact Keeps.refl _ _⟩⟩

/-- Take, whatever the test answers. -/
theorem take_may (b : Nat) (p : QS) (F : Nat) (caps : Array Value) (v : Bool) (w : World) (hp : QB w b p) (hs : p.s.size ≤ 60) (hle : p.ix ≤ p.s.size) (hm : 0 ≤ p.cur → May F caps p.cur v w) (r : R Int)
    (hr : r = if 0 ≤ p.cur ∧ v = true then .ok p.cur (p.ix + 1) else .bad p.ix) :
    Calls Tryz.prog 218 #[.pointer (some ⟨b, 0, none⟩), .func (.func F) #[] caps] w (PPost b p w r) := by
  subst hr
  by_cases hlt : p.ix < p.s.size
  · have h0 : 0 ≤ p.cur := by show 0 ≤ at' p.s p.ix; rw [at'_lt hlt]; omega
    cases v
    · rw [if_neg (by simp)]
      refine (take_bad b p F caps w hp hs hlt (hm h0)).mono ?_
      rintro e w' ⟨rfl, hk⟩
      exact ⟨hk, rfl⟩
    · rw [if_pos ⟨h0, rfl⟩]
      refine (take_ok b p F caps w hp hs hlt (hm h0)).mono ?_
      rintro e w' ⟨rfl, hq, hk⟩
      exact ⟨hk, rfl, hq⟩
  · have hge : p.ix = p.s.size := by omega
    have h0 : p.cur = -1 := at'_ge (by omega)
    rw [if_neg (by rw [h0]; omega)]
    refine (take_end b p _ w hp hge).mono ?_
    rintro e w' ⟨rfl, hk⟩
    exact ⟨hk, rfl⟩

/-- A parameter that a test captures lies in a block of its own. -/
theorem boxed (b : Nat) (p : QS) (l : Int) (w : World) (hp : QB w b p) : QB (w.alloc (.cells #[.int .u8 l] 5)) b p ∧ (w.alloc (.cells #[.int .u8 l] 5)).cell? ⟨w.heap.size, 0, none⟩ = some (.int .u8 l) ∧ Keeps [b] w (w.alloc (.cells #[.int .u8 l] 5)) ∧ w.heap.size ≠ b :=
  ⟨hp.keep ((Keeps.refl [] w).alloc _) (by simp), by simp, (Keeps.refl [b] w).alloc _, by have := hp.lt; omega⟩

theorem hexS_iff (s : ByteArray) (ahead : Int) (last : Bool) (least : Int) (i : Nat) (g : Int) (hg : g = if last then ahead + hexd (at' s i) else 16 * (ahead + hexd (at' s i)) + 15) :
    hexS s ahead last least i = (if 0 ≤ at' s i ∧ (decide (0 ≤ hexd (at' s i)) && decide (least ≤ g)) = true then .ok (hexd (at' s i)) (i + 1) else .bad i) := by
  unfold hexS
  rw [← hg]
  by_cases h : 0 ≤ hexd (at' s i) ∧ least ≤ g
  · have hc : 0 ≤ at' s i := by
      by_cases hh : 0 ≤ at' s i
      · exact hh
      · exfalso
        have := h.1
        unfold hexd at this; rw [if_neg (by omega), if_neg (by omega)] at this; omega
    rw [if_neg (by omega), if_pos ⟨hc, by simp [h.1, h.2]⟩]
  · rw [if_pos (by omega), if_neg (by rintro ⟨_, hh⟩; simp at hh; exact h hh)]

set_option maxRecDepth 100000 in
set_option maxHeartbeats 1000000 in
theorem hexPair_prog (b : Nat) (p : QS) (least : Int) (w : World) (hp : QB w b p) (hs : p.s.size ≤ 60) (hle : p.ix ≤ p.s.size) (hl0 : 0 ≤ least) (hl1 : least ≤ 255) :
    Calls Tryz.prog 276 #[.pointer (some ⟨b, 0, none⟩), .int .u8 least] w (PPost b p w (hexPS p.s least p.ix)) := by
  have hmf : ∀ (fn : Fn) (first cap : Array Value) (w : World), (Instr.makeFunc fn first cap).run Tryz.prog w = .ok (.func fn first cap) w := fun _ _ _ _ => rfl
  obtain ⟨hq0, hl, hk0, hne⟩ := boxed b p least w hp
  have hcb := at'_bd p.s p.ix
  have hcur : p.cur = at' p.s p.ix := rfl
  go_enter Tryz.func276, Tryz.ntmps276
  go_wp2_with fail
  generalize (w.alloc (.cells #[.int .u8 least] 5)) = W at *
  generalize w.heap.size = lb at *
  have r1 : hexS p.s 0 false least p.ix = (if 0 ≤ p.cur ∧ (decide (0 ≤ hexd p.cur) && decide (least ≤ 16 * hexd p.cur + 15)) = true then .ok (hexd p.cur) (p.ix + 1) else .bad p.ix) := by
    have := hexS_iff p.s 0 false least p.ix (16 * hexd (at' p.s p.ix) + 15) (by simp)
    exact this
  refine (take_may b p 292 _ _ W hq0 hs hle (fun h => may_hp1 h (by omega) hl) _ rfl).mono ?_
  rintro e w1 ⟨hk1, hc1⟩
  by_cases h1 : 0 ≤ p.cur ∧ (decide (0 ≤ hexd p.cur) && decide (least ≤ 16 * hexd p.cur + 15)) = true
  · rw [if_pos h1] at hc1 r1
    obtain ⟨rfl, hq1⟩ := hc1
    have hx0 : 0 ≤ hexd p.cur := by have := h1.2; simp at this; exact this.1
    have hx1 := (hexd_bd p.cur).2
    have HV := hexValue_any p.cur h1.1 (by rw [hcur]; omega) hx0
    have hl1' := keep_cell_b hk1 hne hl
    generalize hexd p.cur = x at *
    clear hcur h1 hcb
    go_wp2_with (first | (go_at_call 220; refine (HV _).mono ?_; rintro e w1 ⟨rfl, rfl⟩))
    obtain ⟨hq2, hla, hk2, hne2⟩ := boxed b { p with ix := p.ix + 1 } x w1 hq1
    have hl2 := keep_cell ((Keeps.refl [] w1).alloc (.cells #[.int .u8 x] 5)) hl1'
    generalize (w1.alloc (.cells #[.int .u8 x] 5)) = W2 at *
    generalize w1.heap.size = ab at *
    have hle2 : p.ix + 1 ≤ p.s.size := by
      have := (hexS_ok r1).2.2.2.1
      exact this
    have hcb := at'_bd p.s (p.ix + 1)
    have r2 : hexS p.s (16 * x) true least (p.ix + 1) = (if 0 ≤ at' p.s (p.ix + 1) ∧ (decide (0 ≤ hexd (at' p.s (p.ix + 1))) && decide (least ≤ 16 * x + hexd (at' p.s (p.ix + 1)))) = true then .ok (hexd (at' p.s (p.ix + 1))) (p.ix + 2) else .bad (p.ix + 1)) :=
      hexS_iff p.s (16 * x) true least (p.ix + 1) (16 * x + hexd (at' p.s (p.ix + 1))) (by simp)
    have HP : hexPS p.s least p.ix = (hexS p.s (16 * x) true least (p.ix + 1)).bind fun b k => .ok (16 * x + b) k := by
      unfold hexPS; rw [r1]; rfl
    refine (take_may b { p with ix := p.ix + 1 } 293 _ _ W2 hq2 hs hle2 (fun h => may_hp2 h hcb.2 hx0 hx1 hla hl2) (if 0 ≤ at' p.s (p.ix + 1) ∧ (decide (0 ≤ hexd (at' p.s (p.ix + 1))) && decide (least ≤ 16 * x + hexd (at' p.s (p.ix + 1)))) = true then .ok (at' p.s (p.ix + 1)) (p.ix + 2) else .bad (p.ix + 1)) rfl).mono ?_
    rintro e w3 ⟨hk3, hc3⟩
    have hkk : Keeps [b] w w3 := ((hk0.trans hk1).trans hk2).trans hk3
    by_cases h2 : 0 ≤ at' p.s (p.ix + 1) ∧ (decide (0 ≤ hexd (at' p.s (p.ix + 1))) && decide (least ≤ 16 * x + hexd (at' p.s (p.ix + 1)))) = true
    · rw [if_pos h2] at r2
      rw [if_pos h2] at hc3
      obtain ⟨rfl, hq3⟩ := hc3
      have hy0 : 0 ≤ hexd (at' p.s (p.ix + 1)) := by have := h2.2; simp at this; exact this.1
      have hy1 := (hexd_bd (at' p.s (p.ix + 1))).2
      have HV2 := hexValue_any (at' p.s (p.ix + 1)) h2.1 hcb.2 hy0
      have HF : Hid (hexPS p.s least p.ix = .ok (16 * x + hexd (at' p.s (p.ix + 1))) (p.ix + 2)) := by show hexPS p.s least p.ix = _; rw [HP, r2]; rfl
      have ho := or_hex x (hexd (at' p.s (p.ix + 1))) hx0 hx1 hy0 hy1
      have hla3 := keep_cell_b hk3 hne2 hla
      clear r1 r2 HP h2 hcb
      go_wp2_with (first | (go_at_call 220; refine (HV2 _).mono ?_; rintro e w3 ⟨rfl, rfl⟩))
      go_ret
      refine ⟨hkk, ?_⟩
      rw [HF.out]
      exact ⟨ret_int (by first | rfl | exact ho), hq3⟩
    · rw [if_neg h2] at r2
      rw [if_neg h2] at hc3
      subst hc3
      simp only [fault]
      exact ⟨rfl, hkk, by rw [HP, r2]; rfl⟩
  · rw [if_neg h1] at hc1 r1
    subst hc1
    simp only [fault]
    exact ⟨rfl, hk0.trans hk1, by unfold hexPS; rw [r1]; rfl⟩
end Go.Proofs.YtnfojonmohijpaaGreatDoor
