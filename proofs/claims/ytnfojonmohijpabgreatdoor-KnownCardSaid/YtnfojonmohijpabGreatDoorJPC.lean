/-
  DERIVED. Contracts of the program's hexPair, escaped and inner, held against the plain functions of the texts Spec and SB. Conditions: the text is at most 60 bytes long, the place is within it, the least byte is one.
-/
import Derived.Test.YtnfojonmohijpabGreatDoorJNH
import Derived.Test.YtnfojonmohijpabGreatDoorJMA
import Derived.Laws.Rows
import Derived.Laws.BytesString
set_option linter.unusedSimpArgs false
set_option linter.unusedVariables false
namespace Go.Proofs.YtnfojonmohijpabGreatDoor
open Go.RowKit
theorem cf_hp1 (args : Array Value) (w : World) : (callFunc 185 args).run Tryz.prog w = .ok (.enter 185 args) w := by kernel_rfl
theorem cf_hp2 (args : Array Value) (w : World) : (callFunc 187 args).run Tryz.prog w = .ok (.enter 187 args) w := by kernel_rfl
theorem cf_esc1 (args : Array Value) (w : World) : (callFunc 176 args).run Tryz.prog w = .ok (.enter 176 args) w := by kernel_rfl
theorem cf_inn1 (args : Array Value) (w : World) : (callFunc 193 args).run Tryz.prog w = .ok (.enter 193 args) w := by kernel_rfl
theorem keep_cell {w w' : World} (h : Keeps [] w w') {a : Addr} {v : Value} (hc : w.cell? a = some v) : w'.cell? a = some v :=
 (World.cell?_of_block (h.block a.block (World.block_lt_of_cell? w a hc) (by simp))).trans hc
theorem keep_cell_b {w w' : World} {b : Nat} (h : Keeps [b] w w') {a : Addr} {v : Value} (hb : a.block ≠ b) (hc : w.cell? a = some v) : w'.cell? a = some v :=
 (World.cell?_of_block (h.block a.block (World.block_lt_of_cell? w a hc) (by simpa using hb))).trans hc
def PPost (b : Nat) (p : QS) (w : World) (r : R Int) (e : Ending) (w' : World) : Prop :=
 Keeps [b] w w' ∧ match r with
  | .ok v j => e = .returned (.int .u8 v) ∧ QB w' b { p with ix := j }
  | .bad j => e = fault j
theorem may_hp1 {c l : Int} (h0 : 0 ≤ c) (h1 : c ≤ 255) {lb : Nat} {w : World} (hl : w.cell? ⟨lb, 0, none⟩ = some (.int .u8 l)) : May 185 #[.pointer (some ⟨lb, 0, none⟩)] c (decide (0 ≤ hexd c) && decide (l ≤ 16 * hexd c + 15)) w :=
 ⟨cf_hp1, fun w1 hk => (hp1_any c l h0 h1 lb w1 (keep_cell hk hl)).mono fun e w2 ⟨he, n, hw⟩ => ⟨he, by rw [hw]; exact (Keeps.refl _ _).drewN n⟩⟩
theorem may_hp2 {c l a : Int} (h0 : 0 ≤ c) (h1 : c ≤ 255) (ha0 : 0 ≤ a) (ha1 : a ≤ 15) {ab lb : Nat} {w : World} (hla : w.cell? ⟨ab, 0, none⟩ = some (.int .u8 a)) (hl : w.cell? ⟨lb, 0, none⟩ = some (.int .u8 l)) : May 187 #[.pointer (some ⟨ab, 0, none⟩), .pointer (some ⟨lb, 0, none⟩)] c (decide (0 ≤ hexd c) && decide (l ≤ 16 * a + hexd c)) w :=
 ⟨cf_hp2, fun w1 hk => (hp2_any c l a h0 h1 ha0 ha1 ab lb w1 (keep_cell hk hla) (keep_cell hk hl)).mono fun e w2 ⟨he, n, hw⟩ => ⟨he, by rw [hw]; exact (Keeps.refl _ _).drewN n⟩⟩
theorem may_esc1 {c l : Int} {lb : Nat} {w : World} (hl : w.cell? ⟨lb, 0, none⟩ = some (.int .u8 l)) : May 176 #[.pointer (some ⟨lb, 0, none⟩)] c (!alnB c && decide (l ≤ c)) w :=
 ⟨cf_esc1, fun w1 hk => (esc1_any c l lb w1 (keep_cell hk hl)).mono fun e w2 ⟨he, hw⟩ => ⟨he, by rw [hw]; exact Keeps.refl _ _⟩⟩
theorem may_inn1 {c l : Int} (h0 : 0 ≤ c) (h1 : c ≤ 255) {lb : Nat} {w : World} (hl : w.cell? ⟨lb, 0, none⟩ = some (.int .u8 l)) : May 193 #[.pointer (some ⟨lb, 0, none⟩)] c (!decide (c = 91 ∨ c = 93 ∨ c = 45 ∨ c = 94) && decide (l ≤ c)) w :=
 ⟨cf_inn1, fun w1 hk => (inn1_any c l h0 h1 lb w1 (keep_cell hk hl)).mono fun e w2 ⟨he, hw⟩ => ⟨he, by rw [hw]; exact Keeps.refl _ _⟩⟩
theorem take_may (b : Nat) (p : QS) (F : Nat) (caps : Array Value) (v : Bool) (w : World) (hp : QB w b p) (hs : p.s.size ≤ 60) (hle : p.ix ≤ p.s.size) (hm : 0 ≤ p.cur → May F caps p.cur v w) (r : R Int)
    (hr : r = if 0 ≤ p.cur ∧ v = true then .ok p.cur (p.ix + 1) else .bad p.ix) :
    Calls Tryz.prog 136 #[.pointer (some ⟨b, 0, none⟩), .func (.func F) #[] caps] w (PPost b p w r) := by
 subst hr
 by_cases hlt : p.ix < p.s.size
 ·have h0 : 0 ≤ p.cur := by show 0 ≤ at' p.s p.ix; rw [at'_lt hlt]; omega
  cases v
  ·rw [if_neg (by simp)]
   refine (take_bad b p F caps w hp hs hlt (hm h0)).mono ?_
   rintro e w' ⟨rfl, hk⟩
   exact ⟨hk, rfl⟩
  ·rw [if_pos ⟨h0, rfl⟩]
   refine (take_ok b p F caps w hp hs hlt (hm h0)).mono ?_
   rintro e w' ⟨rfl, hq, hk⟩
   exact ⟨hk, rfl, hq⟩
 ·have hge : p.ix = p.s.size := by omega
  have h0 : p.cur = -1 := at'_ge (by omega)
  rw [if_neg (by rw [h0]; omega)]
  refine (take_end b p _ w hp hge).mono ?_
  rintro e w' ⟨rfl, hk⟩
  exact ⟨hk, rfl⟩
theorem boxed (b : Nat) (p : QS) (l : Int) (w : World) (hp : QB w b p) : QB (w.alloc (.cells #[.int .u8 l] 5)) b p ∧ (w.alloc (.cells #[.int .u8 l] 5)).cell? ⟨w.heap.size, 0, none⟩ = some (.int .u8 l) ∧ Keeps [b] w (w.alloc (.cells #[.int .u8 l] 5)) ∧ w.heap.size ≠ b :=
 ⟨hp.keep ((Keeps.refl [] w).alloc _) (by simp), by simp, (Keeps.refl [b] w).alloc _, by have := hp.lt; omega⟩
theorem hexS_iff (s : ByteArray) (ahead : Int) (last : Bool) (least : Int) (i : Nat) (g : Int) (hg : g = if last then ahead + hexd (at' s i) else 16 * (ahead + hexd (at' s i)) + 15) :
    hexS s ahead last least i = (if 0 ≤ at' s i ∧ (decide (0 ≤ hexd (at' s i)) && decide (least ≤ g)) = true then .ok (hexd (at' s i)) (i + 1) else .bad i) := by
 unfold hexS
 rw [← hg]
 by_cases h : 0 ≤ hexd (at' s i) ∧ least ≤ g
 ·have hc : 0 ≤ at' s i := by
     by_cases hh : 0 ≤ at' s i
     ·exact hh
     ·exfalso
      have := h.1
      unfold hexd at this; rw [if_neg (by omega), if_neg (by omega)] at this; omega
  rw [if_neg (by omega), if_pos ⟨hc, by simp [h.1, h.2]⟩]
 ·rw [if_pos (by omega), if_neg (by rintro ⟨_, hh⟩; simp at hh; exact h hh)]
set_option maxRecDepth 100000 in
set_option maxHeartbeats 1000000 in
theorem hexPair_prog (b : Nat) (p : QS) (least : Int) (w : World) (hp : QB w b p) (hs : p.s.size ≤ 60) (hle : p.ix ≤ p.s.size) (hl0 : 0 ≤ least) (hl1 : least ≤ 255) :
    Calls Tryz.prog 175 #[.pointer (some ⟨b, 0, none⟩), .int .u8 least] w (PPost b p w (hexPS p.s least p.ix)) := by
 have hmf : ∀ (fn : Fn) (first cap : Array Value) (w : World), (Instr.makeFunc fn first cap).run Tryz.prog w = .ok (.func fn first cap) w := fun _ _ _ _ => rfl
 obtain ⟨hq0, hl, hk0, hne⟩ := boxed b p least w hp
 have hcb := at'_bd p.s p.ix
 have hcur : p.cur = at' p.s p.ix := rfl
 go_enter Tryz.func175, Tryz.ntmps175
 go_wp2_with fail
 generalize (w.alloc (.cells #[.int .u8 least] 5)) = W at *
 generalize w.heap.size = lb at *
 have r1 : hexS p.s 0 false least p.ix = (if 0 ≤ p.cur ∧ (decide (0 ≤ hexd p.cur) && decide (least ≤ 16 * hexd p.cur + 15)) = true then .ok (hexd p.cur) (p.ix + 1) else .bad p.ix) := by
  have := hexS_iff p.s 0 false least p.ix (16 * hexd (at' p.s p.ix) + 15) (by simp)
  exact this
 refine (take_may b p 185 _ _ W hq0 hs hle (fun h => may_hp1 h (by omega) hl) _ rfl).mono ?_
 rintro e w1 ⟨hk1, hc1⟩
 by_cases h1 : 0 ≤ p.cur ∧ (decide (0 ≤ hexd p.cur) && decide (least ≤ 16 * hexd p.cur + 15)) = true
 ·rw [if_pos h1] at hc1 r1
  obtain ⟨rfl, hq1⟩ := hc1
  have hx0 : 0 ≤ hexd p.cur := by have := h1.2; simp at this; exact this.1
  have hx1 := (hexd_bd p.cur).2
  have HV := hexValue_any p.cur h1.1 (by rw [hcur]; omega) hx0
  have hl1' := keep_cell_b hk1 hne hl
  generalize hexd p.cur = x at *
  clear hcur h1 hcb
  go_wp2_with (first | (go_at_call 184; refine (HV _).mono ?_; rintro e w1 ⟨rfl, rfl⟩))
  obtain ⟨hq2, hla, hk2, hne2⟩ := boxed b { p with ix := p.ix + 1 } x w1 hq1
  have hl2 := keep_cell ((Keeps.refl [] w1).alloc (.cells #[.int .u8 x] 5)) hl1'
  generalize (w1.alloc (.cells #[.int .u8 x] 5)) = W2 at *
  generalize w1.heap.size = ab at *
  have hle2 : p.ix + 1 ≤ p.s.size := by
   have := (hexS_ok r1).2.2.2.1
   exact this
  have hcb := at'_bd p.s (p.ix + 1)
  have r2 : hexS p.s (16 * x) true least (p.ix + 1) = (if 0 ≤ at' p.s (p.ix + 1) ∧ (decide (0 ≤ hexd (at' p.s (p.ix + 1))) && decide (least ≤ 16 * x + hexd (at' p.s (p.ix + 1)))) = true then .ok (hexd (at' p.s (p.ix + 1))) (p.ix + 2) else .bad (p.ix + 1)) :=
   hexS_iff p.s (16 * x) true least (p.ix + 1) (16 * x + hexd (at' p.s (p.ix + 1))) (by simp)
  have HP : hexPS p.s least p.ix = (hexS p.s (16 * x) true least (p.ix + 1)).bind fun b k => .ok (16 * x + b) k := by
   unfold hexPS; rw [r1]; rfl
  refine (take_may b { p with ix := p.ix + 1 } 187 _ _ W2 hq2 hs hle2 (fun h => may_hp2 h hcb.2 hx0 hx1 hla hl2) (if 0 ≤ at' p.s (p.ix + 1) ∧ (decide (0 ≤ hexd (at' p.s (p.ix + 1))) && decide (least ≤ 16 * x + hexd (at' p.s (p.ix + 1)))) = true then .ok (at' p.s (p.ix + 1)) (p.ix + 2) else .bad (p.ix + 1)) rfl).mono ?_
  rintro e w3 ⟨hk3, hc3⟩
  have hkk : Keeps [b] w w3 := ((hk0.trans hk1).trans hk2).trans hk3
  by_cases h2 : 0 ≤ at' p.s (p.ix + 1) ∧ (decide (0 ≤ hexd (at' p.s (p.ix + 1))) && decide (least ≤ 16 * x + hexd (at' p.s (p.ix + 1)))) = true
  ·rw [if_pos h2] at r2
   rw [if_pos h2] at hc3
   obtain ⟨rfl, hq3⟩ := hc3
   have hy0 : 0 ≤ hexd (at' p.s (p.ix + 1)) := by have := h2.2; simp at this; exact this.1
   have hy1 := (hexd_bd (at' p.s (p.ix + 1))).2
   have HV2 := hexValue_any (at' p.s (p.ix + 1)) h2.1 hcb.2 hy0
   have HF : Hid (hexPS p.s least p.ix = .ok (16 * x + hexd (at' p.s (p.ix + 1))) (p.ix + 2)) := by show hexPS p.s least p.ix = _; rw [HP, r2]; rfl
   have ho := or_hex x (hexd (at' p.s (p.ix + 1))) hx0 hx1 hy0 hy1
   have hla3 := keep_cell_b hk3 hne2 hla
   clear r1 r2 HP h2 hcb
   go_wp2_with (first | (go_at_call 184; refine (HV2 _).mono ?_; rintro e w3 ⟨rfl, rfl⟩))
   go_ret
   refine ⟨hkk, ?_⟩
   rw [HF.out]
   exact ⟨ret_int (by first | rfl | exact ho), hq3⟩
  ·rw [if_neg h2] at r2
   rw [if_neg h2] at hc3
   subst hc3
   simp only [fault]
   exact ⟨rfl, hkk, by rw [HP, r2]; rfl⟩
 ·rw [if_neg h1] at hc1 r1
  subst hc1
  simp only [fault]
  exact ⟨rfl, hk0.trans hk1, by unfold hexPS; rw [r1]; rfl⟩
end Go.Proofs.YtnfojonmohijpabGreatDoor
namespace Go.Proofs.YtnfojonmohijpabGreatDoor
open Go.RowKit
set_option maxRecDepth 100000 in
set_option maxHeartbeats 1000000 in
theorem escaped_prog (b : Nat) (p : QS) (least : Int) (w : World) (hp : QB w b p) (hs : p.s.size ≤ 60) (hl0 : 0 ≤ least) (hl1 : least ≤ 255) (h92 : p.cur = 92) :
    Calls Tryz.prog 158 #[.pointer (some ⟨b, 0, none⟩), .int .u8 least] w (PPost b p w (escS p.s least (p.ix + 1))) := by
 have hmf : ∀ (fn : Fn) (first cap : Array Value) (w : World), (Instr.makeFunc fn first cap).run Tryz.prog w = .ok (.func fn first cap) w := fun _ _ _ _ => rfl
 obtain ⟨hq0, hl, hk0, hne⟩ := boxed b p least w hp
 have hlt : p.ix < p.s.size := at'_nn (by show 0 ≤ p.cur; omega)
 have EX := fun w1 h => expect_ok b p 92 (by omega) w1 h hs h92
 clear h92
 go_enter Tryz.func158, Tryz.ntmps158
 go_wp2_with fail
 generalize (w.alloc (.cells #[.int .u8 least] 5)) = W at *
 generalize w.heap.size = lb at *
 refine (EX _ hq0).mono ?_
 rintro e w1 ⟨rfl, hq1, hk1⟩
 have hl2 := keep_cell_b hk1 hne hl
 go_wp2_with fail
 refine (skip_any b { p with ix := p.ix + 1 } 120 (by omega) _ hq1 hlt hs).mono ?_
 rintro e w2 ⟨rfl, hq2, hk2⟩
 have hl3 := keep_cell_b hk2 hne hl2
 have hkA : Keeps [b] w w2 := (hk0.trans hk1).trans hk2
 by_cases hx : at' p.s (p.ix + 1) = 120
 ·have hd : decide (QS.cur { p with ix := p.ix + 1 } = 120) = true := by simpa using (show QS.cur { p with ix := p.ix + 1 } = 120 from hx)
  have htk : QS.took { p with ix := p.ix + 1 } 120 = { p with ix := p.ix + 2 } := by unfold QS.took; rw [if_pos (show QS.cur { p with ix := p.ix + 1 } = 120 from hx)]
  rw [htk] at hq2
  have hlt2 : p.ix + 1 < p.s.size := at'_nn (by omega)
  have HE : Hid (escS p.s least (p.ix + 1) = hexPS p.s least (p.ix + 2)) := escS_x hx
  clear hx
  rw [hd]
  go_wp2_with fail
  refine (hexPair_prog b { p with ix := p.ix + 2 } least _ hq2 hs hlt2 hl0 hl1).mono ?_
  rintro e w3 ⟨hk3, hc3⟩
  cases hr : hexPS p.s least (p.ix + 2) with
  | ok v j =>
   rw [show hexPS (QS.s { p with ix := p.ix + 2 }) least (QS.ix { p with ix := p.ix + 2 }) = .ok v j from hr] at hc3
   obtain ⟨rfl, hq3⟩ := hc3
   have HE2 : Hid (escS p.s least (p.ix + 1) = .ok v j) := HE.out.trans hr
   clear hr
   go_wp2_with fail
   go_ret
   refine ⟨hkA.trans hk3, ?_⟩
   rw [HE2.out]
   exact ⟨rfl, hq3⟩
  | bad j =>
   rw [show hexPS (QS.s { p with ix := p.ix + 2 }) least (QS.ix { p with ix := p.ix + 2 }) = .bad j from hr] at hc3
   subst hc3
   simp only [fault]
   exact ⟨rfl, hkA.trans hk3, by rw [HE.out, hr]; rfl⟩
 ·have hd : decide (QS.cur { p with ix := p.ix + 1 } = 120) = false := by simpa using (show ¬ QS.cur { p with ix := p.ix + 1 } = 120 from hx)
  have htk : QS.took { p with ix := p.ix + 1 } 120 = { p with ix := p.ix + 1 } := by unfold QS.took; rw [if_neg (show ¬ QS.cur { p with ix := p.ix + 1 } = 120 from hx)]
  rw [htk] at hq2
  have HE : Hid (escS p.s least (p.ix + 1) = if 0 ≤ at' p.s (p.ix + 1) ∧ (!alnB (at' p.s (p.ix + 1)) && decide (least ≤ at' p.s (p.ix + 1))) = true then .ok (at' p.s (p.ix + 1)) (p.ix + 2) else .bad (p.ix + 1)) := by
   show escS p.s least (p.ix + 1) = _
   unfold escS
   rw [if_neg hx]
   by_cases hc : at' p.s (p.ix + 1) < 0 ∨ alnB (at' p.s (p.ix + 1)) = true ∨ at' p.s (p.ix + 1) < least
   ·rw [if_pos hc, if_neg]
    rintro ⟨a, bb⟩
    simp at bb
    rcases hc with h | h | h
    ·omega
    ·rw [h] at bb; cases bb.1
    ·omega
   ·rw [if_neg hc, if_pos]
    refine ⟨Int.not_lt.1 fun h => hc (Or.inl h), ?_⟩
    have h1 : alnB (at' p.s (p.ix + 1)) = false := Bool.eq_false_iff.2 fun h => hc (Or.inr (Or.inl h))
    have h2 : least ≤ at' p.s (p.ix + 1) := Int.not_lt.1 fun h => hc (Or.inr (Or.inr h))
    simp [h1, h2]
  clear hx
  rw [hd]
  go_wp2_with fail
  refine (take_may b { p with ix := p.ix + 1 } 176 _ _ _ hq2 hs hlt (fun h => may_esc1 hl3) (if 0 ≤ at' p.s (p.ix + 1) ∧ (!alnB (at' p.s (p.ix + 1)) && decide (least ≤ at' p.s (p.ix + 1))) = true then .ok (at' p.s (p.ix + 1)) (p.ix + 2) else .bad (p.ix + 1)) rfl).mono ?_
  rintro e w3 ⟨hk3, hc3⟩
  by_cases hc : 0 ≤ at' p.s (p.ix + 1) ∧ (!alnB (at' p.s (p.ix + 1)) && decide (least ≤ at' p.s (p.ix + 1))) = true
  ·rw [if_pos hc] at hc3
   obtain ⟨rfl, hq3⟩ := hc3
   have HE2 : Hid (escS p.s least (p.ix + 1) = .ok (at' p.s (p.ix + 1)) (p.ix + 2)) := by show escS p.s least (p.ix + 1) = _; rw [HE.out, if_pos hc]
   clear hc
   go_wp2_with fail
   go_ret
   refine ⟨hkA.trans hk3, ?_⟩
   rw [HE2.out]
   exact ⟨rfl, hq3⟩
  ·rw [if_neg hc] at hc3
   subst hc3
   simp only [fault]
   exact ⟨rfl, hkA.trans hk3, by rw [HE.out, if_neg hc]; rfl⟩
set_option maxRecDepth 100000 in
set_option maxHeartbeats 1000000 in
theorem inner_prog (b : Nat) (p : QS) (least : Int) (w : World) (hp : QB w b p) (hs : p.s.size ≤ 60) (hle : p.ix ≤ p.s.size) (hl0 : 0 ≤ least) (hl1 : least ≤ 255) :
    Calls Tryz.prog 182 #[.pointer (some ⟨b, 0, none⟩), .int .u8 least] w (PPost b p w (innS p.s least p.ix)) := by
 have hmf : ∀ (fn : Fn) (first cap : Array Value) (w : World), (Instr.makeFunc fn first cap).run Tryz.prog w = .ok (.func fn first cap) w := fun _ _ _ _ => rfl
 obtain ⟨hq0, hl, hk0, hne⟩ := boxed b p least w hp
 have hcb := at'_bd p.s p.ix
 go_enter Tryz.func182, Tryz.ntmps182
 go_wp2_with fail
 generalize (w.alloc (.cells #[.int .u8 least] 5)) = W at *
 generalize w.heap.size = lb at *
 refine (ahead_any b p 92 (by omega) _ hq0 hle hs).mono ?_
 rintro e w1 ⟨rfl, hq1, hk1⟩
 have hl2 := keep_cell hk1 hl
 have hkA : Keeps [b] w w1 := hk0.trans (hk1.mono (by simp))
 by_cases hx : at' p.s p.ix = 92
 ·have hd : decide (p.cur = 92) = true := by simpa using (show p.cur = 92 from hx)
  have HE : Hid (innS p.s least p.ix = escS p.s least (p.ix + 1)) := by show innS p.s least p.ix = _; unfold innS; rw [if_pos hx]
  have hcur : p.cur = 92 := hx
  have EC := fun w1 h => escaped_prog b p least w1 h hs hl0 hl1 hcur
  clear hx hcur
  rw [hd]
  go_wp2_with fail
  refine (EC _ hq1).mono ?_
  rintro e w3 ⟨hk3, hc3⟩
  cases hr : escS p.s least (p.ix + 1) with
  | ok v j =>
   rw [hr] at hc3
   obtain ⟨rfl, hq3⟩ := hc3
   have HE2 : Hid (innS p.s least p.ix = .ok v j) := HE.out.trans hr
   clear hr
   go_wp2_with fail
   go_ret
   refine ⟨hkA.trans hk3, ?_⟩
   rw [HE2.out]
   exact ⟨rfl, hq3⟩
  | bad j =>
   rw [hr] at hc3
   subst hc3
   simp only [fault]
   exact ⟨rfl, hkA.trans hk3, by rw [HE.out, hr]; rfl⟩
 ·have hd : decide (p.cur = 92) = false := by simpa using (show ¬ p.cur = 92 from hx)
  have HE : Hid (innS p.s least p.ix = if 0 ≤ at' p.s p.ix ∧ (!decide (at' p.s p.ix = 91 ∨ at' p.s p.ix = 93 ∨ at' p.s p.ix = 45 ∨ at' p.s p.ix = 94) && decide (least ≤ at' p.s p.ix)) = true then .ok (at' p.s p.ix) (p.ix + 1) else .bad p.ix) := by
   show innS p.s least p.ix = _
   unfold innS
   rw [if_neg hx]
   by_cases hc : at' p.s p.ix < 0 ∨ at' p.s p.ix = 91 ∨ at' p.s p.ix = 93 ∨ at' p.s p.ix = 45 ∨ at' p.s p.ix = 94 ∨ at' p.s p.ix < least
   ·rw [if_pos hc, if_neg]
    rintro ⟨a, bb⟩
    simp at bb
    omega
   ·rw [if_neg hc, if_pos]
    refine ⟨by omega, ?_⟩
    have h1 : ¬ (at' p.s p.ix = 91 ∨ at' p.s p.ix = 93 ∨ at' p.s p.ix = 45 ∨ at' p.s p.ix = 94) := by omega
    have h2 : least ≤ at' p.s p.ix := by omega
    simp only [decide_eq_false h1, decide_eq_true h2]; rfl
  clear hx
  rw [hd]
  go_wp2_with fail
  refine (take_may b p 193 _ _ _ hq1 hs hle (fun h => may_inn1 h hcb.2 hl2) (if 0 ≤ at' p.s p.ix ∧ (!decide (at' p.s p.ix = 91 ∨ at' p.s p.ix = 93 ∨ at' p.s p.ix = 45 ∨ at' p.s p.ix = 94) && decide (least ≤ at' p.s p.ix)) = true then .ok (at' p.s p.ix) (p.ix + 1) else .bad p.ix) rfl).mono ?_
  rintro e w3 ⟨hk3, hc3⟩
  by_cases hc : 0 ≤ at' p.s p.ix ∧ (!decide (at' p.s p.ix = 91 ∨ at' p.s p.ix = 93 ∨ at' p.s p.ix = 45 ∨ at' p.s p.ix = 94) && decide (least ≤ at' p.s p.ix)) = true
  ·rw [if_pos hc] at hc3
   obtain ⟨rfl, hq3⟩ := hc3
   have HE2 : Hid (innS p.s least p.ix = .ok (at' p.s p.ix) (p.ix + 1)) := by show innS p.s least p.ix = _; rw [HE.out, if_pos hc]
   clear hc
   go_wp2_with fail
   go_ret
   refine ⟨hkA.trans hk3, ?_⟩
   rw [HE2.out]
   exact ⟨rfl, hq3⟩
  ·rw [if_neg hc] at hc3
   subst hc3
   simp only [fault]
   exact ⟨rfl, hkA.trans hk3, by rw [HE.out, if_neg hc]; rfl⟩
end Go.Proofs.YtnfojonmohijpabGreatDoor
namespace Go.Proofs.YtnfojonmohijpabGreatDoor
open Go.RowKit
def GN (w : World) : Prop := ∃ t fr, w.heap[6]? = some (.cells ncells t fr)
theorem GN.lt {w : World} (H : GN w) : 6 < w.heap.size := by
 obtain ⟨t, fr, h⟩ := H
 exact (Array.getElem?_eq_some_iff.1 h).1
theorem GN.keep {w w' : World} {S : List Nat} (H : GN w) (hk : Keeps S w w') (hb : 6 ∉ S) : GN w' := by
 have hl := H.lt
 obtain ⟨t, fr, h⟩ := H
 exact ⟨t, fr, (hk.block _ hl hb).trans h⟩
theorem idx_n0 (w : World) : (Instr.index 267 (.agg ncells) (.int .i64 0)).run Tryz.prog w = .ok (.string (nmB (nm 0))) w := by kernel_rfl
theorem idx_n1 (w : World) : (Instr.index 267 (.agg ncells) (.int .i64 1)).run Tryz.prog w = .ok (.string (nmB (nm 1))) w := by kernel_rfl
theorem idx_n2 (w : World) : (Instr.index 267 (.agg ncells) (.int .i64 2)).run Tryz.prog w = .ok (.string (nmB (nm 2))) w := by kernel_rfl
theorem idx_n3 (w : World) : (Instr.index 267 (.agg ncells) (.int .i64 3)).run Tryz.prog w = .ok (.string (nmB (nm 3))) w := by kernel_rfl
theorem idx_n4 (w : World) : (Instr.index 267 (.agg ncells) (.int .i64 4)).run Tryz.prog w = .ok (.string (nmB (nm 4))) w := by kernel_rfl
theorem idx_n5 (w : World) : (Instr.index 267 (.agg ncells) (.int .i64 5)).run Tryz.prog w = .ok (.string (nmB (nm 5))) w := by kernel_rfl
theorem idx_n6 (w : World) : (Instr.index 267 (.agg ncells) (.int .i64 6)).run Tryz.prog w = .ok (.string (nmB (nm 6))) w := by kernel_rfl
theorem idx_names {k : Nat} (hk : k < 7) (w : World) : (Instr.index 267 (.agg ncells) (.int .i64 (k : Int))).run Tryz.prog w = .ok (.string (nmB (nm k))) w :=
 match k, hk with
 | 0, _ => idx_n0 w
 | 1, _ => idx_n1 w
 | 2, _ => idx_n2 w
 | 3, _ => idx_n3 w
 | 4, _ => idx_n4 w
 | 5, _ => idx_n5 w
 | 6, _ => idx_n6 w
set_option maxRecDepth 100000 in
set_option maxHeartbeats 400000 in
theorem isClass_any (word : List UInt8) (w : World) (hg : GN w) :
    Calls Tryz.prog 190 #[.string (nmB word)] w fun e w' => e = .returned (.bool (decide (word ∈ names))) ∧ w' = w := by
 obtain ⟨t, fr, hg⟩ := hg
 go_enter Tryz.func190, Tryz.ntmps190
 go_wp2_with (refine wpList_load_row rfl 267 _ rfl 6 rfl t _ fr _ hg Tryz.underlying267 rfl (by kernel_rfl) ?_)
 clear hg
 have hnc : ∀ k : Nat, k < 7 → ∀ w, (Instr.index 267 (.agg ncells) (.int .i64 (k : Int))).run Tryz.prog w = .ok (.string (nmB (nm k))) w := fun k h w => idx_names h w
 generalize ncells = NC at *
 go_loop [6] (fun q => ∃ k : Nat, k ≤ 7 ∧ q = .int .i64 k ∧ Hid (∀ j, j < k → nm j ≠ word)) (fun q => 7 - (intOf q).toNat)
 case atStart => exact ⟨0, by omega, rfl, fun j hj => by omega⟩
 case round =>
  obtain ⟨k, hk7, rfl, hno⟩ := hrel
  by_cases hlt7 : k < 7
  ·have hix := hnc k hlt7
   have hk7i : (k : Int) < 7 := by omega
   have hk7j : (0 : Int) ≤ (k : Int) := by omega
   by_cases heq : nm k = word
   ·have heqb : ((nmB word).toList == (nmB (nm k)).toList) = true := by rw [eqL]; simpa using heq.symm
    have HE : Hid (word ∈ names) := by show word ∈ names; rw [← heq]; exact nm_mem hlt7
    clear heq hnc
    go_wp2
    go_ret
    exact ⟨by rw [decide_eq_true HE.out]; rfl, rfl⟩
   ·have heqb : ((nmB word).toList == (nmB (nm k)).toList) = false := by rw [eqL]; simpa using fun h => heq h.symm
    have HE : Hid (∀ j, j < k + 1 → nm j ≠ word) := fun j hj => by
     by_cases e : j = k
     ·subst e; exact heq
     ·exact hno.out j (by omega)
    clear heq hnc
    go_wp2
    go_round
    case rel => exact ⟨k + 1, by omega, by go_num, HE⟩
    case measure => simp [intOf]; omega
  ·have e : k = 7 := by omega
   subst e
   have HE : Hid (¬ word ∈ names) := by
    show ¬ word ∈ names
    intro hm
    have := find_none hno.out
    rw [List.findIdx?_eq_none_iff] at this
    have := this word hm
    simp at this
   clear hnc
   go_wp2
   go_ret
   exact ⟨by rw [decide_eq_false HE.out]; rfl, rfl⟩
def preB (a b : List UInt8) : Bool := decide (b.length ≤ a.length) && decide (a.take b.length = b)
set_option maxRecDepth 100000 in
set_option maxHeartbeats 400000 in
theorem prefixLite_any (a b : List UInt8) (ha : a.length ≤ 60) (hb : b.length ≤ 60) (w : World) :
    Calls Tryz.prog 135 #[.string (nmB a), .string (nmB b)] w fun e w' => e = .returned (.bool (preB a b)) ∧ w' = w := by
 have hza : (nmB a).size = a.length := nmB_size a
 have hzb : (nmB b).size = b.length := nmB_size b
 by_cases hl : b.length ≤ a.length
 ·have hl2 : ((nmB b).size : Int) ≤ ((nmB a).size : Int) := by omega
  have hl3 : (nmB b).size ≤ (nmB a).size := by omega
  have HX := eqX a b (nmB b).size
  have HP : Hid (preB a b = decide (a.take (nmB b).size = b)) := by show preB a b = _; unfold preB; rw [decide_eq_true hl, hzb]; rfl
  have hA : ((nmB a).size : Int) ≤ 60 := by omega
  have hB : ((nmB b).size : Int) ≤ 60 := by omega
  clear hl hza hzb
  go_enter Tryz.func135, Tryz.ntmps135
  go_wp2
  go_ret
  exact ⟨by rw [HP.out]; first | rfl | (rw [← HX]; rfl), rfl⟩
 ·have hl2 : ¬ ((nmB b).size : Int) ≤ ((nmB a).size : Int) := by omega
  have HP : Hid (preB a b = false) := by show preB a b = _; unfold preB; rw [decide_eq_false hl]; rfl
  have hA : ((nmB a).size : Int) ≤ 60 := by omega
  have hB : ((nmB b).size : Int) ≤ 60 := by omega
  clear hl hza hzb
  go_enter Tryz.func135, Tryz.ntmps135
  go_wp2
  go_ret
  exact ⟨by rw [HP.out]; rfl, rfl⟩
set_option maxHeartbeats 400000 in
theorem prefix_any (a b : List UInt8) (ha : a.length ≤ 60) (hb : b.length ≤ 60) (w : World) :
    Calls Tryz.prog 113 #[.string (nmB a), .string (nmB b)] w fun e w' => e = .returned (.bool (preB a b)) ∧ w' = w := by
 go_enter Tryz.func113, Tryz.ntmps113
 go_wp2_with (go_at_call 135; refine (prefixLite_any a b ha hb _).mono ?_; rintro e w' ⟨rfl, rfl⟩)
 go_ret
 exact ⟨rfl, rfl⟩
def begB (b : List UInt8) : Bool := names.any fun n => preB n b
theorem begB_false {b : List UInt8} (h : ∀ j, j < 7 → preB (nm j) b = false) : begB b = false := by
 unfold begB
 rw [List.any_eq_false]
 intro n hn
 obtain ⟨j, hj, rfl⟩ := List.mem_iff_getElem.1 hn
 have hj7 : j < 7 := by rw [names_count] at hj; exact hj
 rw [← nm_get hj7, h j hj7]; simp
theorem begB_true {b : List UInt8} {j : Nat} (hj : j < 7) (h : preB (nm j) b = true) : begB b = true := by
 unfold begB
 rw [List.any_eq_true]
 exact ⟨nm j, nm_mem hj, h⟩
set_option maxRecDepth 100000 in
set_option maxHeartbeats 400000 in
theorem begins_any (word : List UInt8) (hw : word.length ≤ 60) (w : World) (hg : GN w) :
    Calls Tryz.prog 192 #[.string (nmB word)] w fun e w' => e = .returned (.bool (begB word)) ∧ w' = w := by
 obtain ⟨t, fr, hg⟩ := hg
 go_enter Tryz.func192, Tryz.ntmps192
 go_wp2_with (refine wpList_load_row rfl 267 _ rfl 6 rfl t _ fr _ hg Tryz.underlying267 rfl (by kernel_rfl) ?_)
 clear hg
 have hnc : ∀ k : Nat, k < 7 → ∀ w, (Instr.index 267 (.agg ncells) (.int .i64 (k : Int))).run Tryz.prog w = .ok (.string (nmB (nm k))) w := fun k h w => idx_names h w
 generalize ncells = NC at *
 go_loop [6] (fun q => ∃ k : Nat, k ≤ 7 ∧ q = .int .i64 k ∧ Hid (∀ j, j < k → preB (nm j) word = false)) (fun q => 7 - (intOf q).toNat)
 case atStart => exact ⟨0, by omega, rfl, fun j hj => by omega⟩
 case round =>
  obtain ⟨k, hk7, rfl, hno⟩ := hrel
  by_cases hlt7 : k < 7
  ·have hix := hnc k hlt7
   have hk7i : (k : Int) < 7 := by omega
   have hk7j : (0 : Int) ≤ (k : Int) := by omega
   have PX := fun w => prefix_any (nm k) word (by rw [nm_len hlt7]; omega) hw w
   cases heq : preB (nm k) word
   ·have HE : Hid (∀ j, j < k + 1 → preB (nm j) word = false) := fun j hj => by
       by_cases e : j = k
       ·subst e; exact heq
       ·exact hno.out j (by omega)
    rw [heq] at PX
    clear heq hnc
    go_wp2_with (go_at_call 113; refine (PX _).mono ?_; rintro e w' ⟨rfl, rfl⟩)
    go_round
    case rel => exact ⟨k + 1, by omega, by go_num, HE⟩
    case measure => simp [intOf]; omega
   ·have HE : Hid (begB word = true) := begB_true hlt7 heq
    rw [heq] at PX
    clear heq hnc
    go_wp2_with (go_at_call 113; refine (PX _).mono ?_; rintro e w' ⟨rfl, rfl⟩)
    go_ret
    exact ⟨by rw [HE.out]; rfl, rfl⟩
  ·have e : k = 7 := by omega
   subst e
   have HE : Hid (begB word = false) := begB_false hno.out
   clear hnc
   go_wp2
   go_ret
   exact ⟨by rw [HE.out]; rfl, rfl⟩
theorem preB_snoc (n word : List UInt8) (c : UInt8) : preB n (word ++ [c]) = fit1 word (c.toNat : Int) n := by
 unfold preB fit1
 by_cases hl : word.length < n.length
 ·have h1 : (word ++ [c]).length ≤ n.length := by simp; omega
  rw [decide_eq_true hl, decide_eq_true h1, Bool.true_and, Bool.true_and]
  have e : n.take (word ++ [c]).length = n.take word.length ++ [n.getD word.length 0] := by
   rw [List.length_append, List.length_singleton, List.take_succ_eq_append_getElem hl, List.getD_eq_getElem?_getD, List.getElem?_eq_getElem hl]; rfl
  rw [e]
  by_cases h2 : n.take word.length = word
  ·rw [decide_eq_true h2, Bool.true_and, h2]
   by_cases h3 : n.getD word.length 0 = c
   ·rw [h3]; simp
   ·have : ¬ ((n.getD word.length 0).toNat : Int) = (c.toNat : Int) := fun h => h3 (UInt8.toNat_inj.1 (by omega))
    rw [decide_eq_false this]
    simp only [decide_eq_false_iff_not]
    intro h
    have := List.append_cancel_left h
    simp at this
    exact h3 (by simpa using this)
  ·rw [decide_eq_false h2, Bool.false_and]
   simp only [decide_eq_false_iff_not]
   intro h
   exact h2 (List.append_inj_left' h rfl)
 ·have h1 : ¬ (word ++ [c]).length ≤ n.length := by simp; omega
  rw [decide_eq_false hl, decide_eq_false h1]; rfl
theorem begB_snoc (word : List UInt8) (c : UInt8) : begB (word ++ [c]) = goesOn word (c.toNat : Int) := by
 unfold begB
 show _ = names.any (fit1 word (c.toNat : Int))
 congr 1
 funext n
 exact preB_snoc n word c
end Go.Proofs.YtnfojonmohijpabGreatDoor
namespace Go.Proofs.YtnfojonmohijpabGreatDoor
open Go.RowKit
def byteV (u : UInt8) : Value := .int .u8 (u.toNat : Int)
def BY (w : World) (base : Nat) (v : Value) (word : List UInt8) : Prop := w.ownsRow base 5 1 v word.length (word.map byteV)
theorem push_bytes (l : List UInt8) (s : ByteArray) : (l.map fun u => (u.toNat : Int)).foldl (fun r n => r.push (UInt8.ofNat n.toNat)) s = s ++ nmB l := by
 induction l generalizing s with
 | nil =>
  apply ByteArray.ext
  simp [nmB, ByteArray.data_append]
 | cons u l ih =>
  rw [List.map_cons, List.foldl_cons, ih]
  apply ByteArray.ext
  apply Array.ext'
  simp [nmB, ByteArray.data_append, ByteArray.data_push]
theorem conv_name (w : World) (base : Nat) (v : Value) (word : List UInt8) (h : BY w base v word) : (convert 44 9 v).run Tryz.prog w = .ok (.string (nmB word)) w := by
 have hl := h.1
 rcases h.2 with ⟨rfl, hn⟩ | ⟨g, cap, cur, rfl, hb, hgg, hnc, hcm, hcs, htk⟩
 ·have : word = [] := List.length_eq_zero_iff.1 hn
  subst this
  rw [run_convert_bytes_string w _ _ 5 none 0 0 Tryz.underlying44 Tryz.underlying5 Tryz.underlying9]
  rfl
 ·rw [run_convert_bytes_string w _ _ 5 _ _ _ Tryz.underlying44 Tryz.underlying5 Tryz.underlying9]
  have hld : (loadCells ⟨g, 0, none⟩ word.length).run Tryz.prog w = .ok ((word.map fun u => (u.toNat : Int)).map (Value.int .u8)).toArray w := by
   have := run_loadCells_list (P := Tryz.prog) w ⟨g, 0, none⟩ (word.map byteV) (World.ownsRow.cells h rfl)
   rw [List.length_map] at this
   rw [this, List.map_map]
   rfl
  rw [run_bytesToString w _ _ _ _ hld, push_bytes]
  congr 2
theorem BY.keep {w w' : World} {base : Nat} {v : Value} {word : List UInt8} {S : List Nat} (h : BY w base v word) (hk : Keeps S w w') (hs : ∀ g, v.ownBlock = some g → g ∉ S) : BY w' base v word := World.ownsRow.keep h hk hs
theorem conv_one (w : World) (u : UInt8) : (convert 44 9 (.slice (some ⟨w.heap.size, 0, none⟩) 1 1)).run Tryz.prog (w.alloc (.cells #[.int .u8 (u.toNat : Int)] 5)) = .ok (.string (nmB [u])) (w.alloc (.cells #[.int .u8 (u.toNat : Int)] 5)) :=
 conv_name _ 0 _ [u] ⟨by simp, Or.inr ⟨_, 1, #[.int .u8 (u.toNat : Int)], rfl, Nat.zero_le _, heap_alloc_new w _, Nat.le_refl _, by decide, rfl, rfl⟩⟩
theorem nmB_append (a b : List UInt8) : nmB a ++ nmB b = nmB (a ++ b) := by
 apply ByteArray.ext
 simp [nmB, ByteArray.data_append]
set_option maxRecDepth 100000 in
set_option maxHeartbeats 1000000 in
theorem cls1_any (u : UInt8) (nb base : Nat) (v : Value) (word : List UInt8) (hw : word.length ≤ 10) (w : World) (hc : w.cell? ⟨nb, 0, none⟩ = some v) (hby : BY w base v word) (hg : GN w) :
    Calls Tryz.prog 191 #[.int .u8 (u.toNat : Int), .pointer (some ⟨nb, 0, none⟩)] w fun e w' => e = .returned (.bool (goesOn word (u.toNat : Int))) ∧ Keeps [] w w' := by
 have hcv := conv_name w base v word hby
 have hc1 := fun w => conv_one w u
 have hsz : ¬ 9223372036854775807 < (nmB word).size + (nmB [u]).size := by rw [nmB_size, nmB_size]; simp; omega
 have hap := nmB_append word [u]
 have hg2 : GN (w.alloc (.cells #[.int .u8 (u.toNat : Int)] 5)) := hg.keep ((Keeps.refl [] w).alloc _) (by simp)
 have BE := begins_any (word ++ [u]) (by simp; omega) _ hg2
 rw [begB_snoc, ← hap] at BE
 clear hap hg2
 go_enter Tryz.func191, Tryz.ntmps191
 go_wp2_with (go_at_call 192; refine BE.mono ?_; rintro e w' ⟨rfl, rfl⟩)
 go_ret
 exact ⟨rfl, (Keeps.refl [] w).alloc _⟩
theorem cf_cls1 (args : Array Value) (w : World) : (callFunc 191 args).run Tryz.prog w = .ok (.enter 191 args) w := by kernel_rfl
theorem may_cls1 (u : UInt8) (nb base : Nat) (v : Value) (word : List UInt8) (hw : word.length ≤ 10) (w : World) (hc : w.cell? ⟨nb, 0, none⟩ = some v) (hby : BY w base v word) (hg : GN w) :
    May 191 #[.pointer (some ⟨nb, 0, none⟩)] (u.toNat : Int) (goesOn word (u.toNat : Int)) w :=
 ⟨cf_cls1, fun w1 hk => cls1_any u nb base v word hw w1 (keep_cell hk hc) (hby.keep hk (by simp)) (hg.keep hk (by simp))⟩
end Go.Proofs.YtnfojonmohijpabGreatDoor
namespace Go.Proofs.YtnfojonmohijpabGreatDoor
open Go.RowKit
def lenV : Value → Nat
 | .slice _ n _ => n
 | _ => 0
def muN (w : World) (nb : Nat) : Nat := 6 - (match w.cell? ⟨nb, 0, none⟩ with | some v => lenV v | none => 0)
theorem BY.len {w : World} {base : Nat} {v : Value} {word : List UInt8} (h : BY w base v word) : lenV v = word.length := by
 rcases h.2 with ⟨rfl, hn⟩ | ⟨g, cap, cur, rfl, _⟩
 ·exact hn.symm
 ·rfl
theorem muN_eq {w : World} {nb base : Nat} {v : Value} {word : List UInt8} (hc : w.cell? ⟨nb, 0, none⟩ = some v) (h : BY w base v word) : muN w nb = 6 - word.length := by
 unfold muN; rw [hc]; simp only [h.len]
structure CN (p : QS) (b nb : Nat) (w wr : World) (v : Value) (word : List UInt8) (i : Nat) : Prop where
 qb : QB wr b { p with ix := i }
 cell : wr.cell? ⟨nb, 0, none⟩ = some v
 fro : wr.frozen? ⟨nb, 0, none⟩ = false
 bytes : BY wr (nb + 1) v word
 gn : GN wr
 keep : Keeps [b] w wr
 ile : i ≤ p.s.size
 wl : word.length ≤ 5
 w5 : word.length = 5 → word ∈ names
 spec : clsS p.s 6 [] p.ix = clsS p.s (6 - word.length) word i
def NPost (b : Nat) (p : QS) (w : World) (r : R Nat) (e : Ending) (w' : World) : Prop :=
 Keeps [b] w w' ∧ match r with
  | .ok k j => e = .returned (.string (nmB (nm k))) ∧ QB w' b { p with ix := j }
  | .bad j => e = fault j
theorem Keeps.fresh {S S' : List Nat} {a w w' : World} (h : Keeps S a w) (k : Keeps S' w w') (hs : ∀ x, x ∈ S' → x ∈ S ∨ a.heap.size ≤ x) : Keeps S a w' :=
 ⟨k.os.trans h.os, k.tape.trans h.tape, k.output.trans h.output, Nat.le_trans h.size k.size, fun j hj hn => (k.block j (Nat.lt_of_lt_of_le hj h.size) (fun hm => (hs j hm).elim hn (fun hh => Nat.lt_irrefl _ (Nat.lt_of_lt_of_le hj hh)))).trans (h.block j hj hn)⟩
theorem Keeps.ofGrown {w w' : World} {v : Value} (h : w.grownBy w' v.ownBlock) : Keeps v.ownBlock.toList w w' :=
 ⟨h.os, h.tape, h.output, h.size, fun j hj hnj => h.block j hj (by intro e; apply hnj; rw [← e]; simp)⟩
theorem CN.next {p : QS} {b nb : Nat} {w w3 w4 : World} {v : Value} {word : List UInt8} {i g cap : Nat} {u : UInt8} (hk : Keeps [b] w w3) (hq : QB w3 b { p with ix := i + 1 }) (hg3 : GN w3) (hb3 : BY w3 (nb + 1) v word)
    (hc3 : w3.cell? ⟨nb, 0, none⟩ = some v) (hnb : b < nb) (hgl : 6 < nb) (hw : w.heap.size = nb)
    (hown : w4.ownsRow (nb + 1) 5 1 (.slice (some ⟨g, 0, none⟩) (word.length + 1) cap) (word.length + 1) (word.map byteV ++ [byteV u])) (hgrow : (w3.alloc (.cells #[byteV u] 5)).grownBy w4 v.ownBlock)
    (hf4 : w4.frozen? ⟨nb, 0, none⟩ = false) (hilt : i < p.s.size) (hwl : word.length ≤ 4) (h5 : (word ++ [u]).length = 5 → word ++ [u] ∈ names) (hsp : clsS p.s 6 [] p.ix = clsS p.s (5 - word.length) (word ++ [u]) (i + 1)) :
    CN p b nb w (w4.setCell ⟨nb, 0, none⟩ (.slice (some ⟨g, 0, none⟩) (word.length + 1) cap)) (.slice (some ⟨g, 0, none⟩) (word.length + 1) cap) (word ++ [u]) (i + 1) := by
 have hvlt := World.ownsRow.lt hb3
 have hnb3 := World.block_lt_of_cell? w3 _ hc3
 have hg4 := (World.ownsRow.lt hown g rfl)
 have hkA : Keeps v.ownBlock.toList w3 w4 := ((Keeps.refl _ w3).alloc (.cells #[byteV u] 5)).trans (Keeps.ofGrown hgrow)
 have hkB : Keeps (nb :: v.ownBlock.toList) w3 (w4.setCell ⟨nb, 0, none⟩ (.slice (some ⟨g, 0, none⟩) (word.length + 1) cap)) := (hkA.mono (by intro x hx; exact List.mem_cons_of_mem _ hx)).setCell (by simp) _
 have hfar : ∀ x, x ≤ nb → x ∉ v.ownBlock.toList := by
  intro x hx hm
  rw [Option.mem_toList] at hm
  have := (hvlt x hm).1
  omega
 have hnbk : w4.cell? ⟨nb, 0, none⟩ = some v := (World.cell?_of_block (hkA.block nb hnb3 (hfar nb (Nat.le_refl _)))).trans hc3
 refine ⟨hq.keep hkB ?_, ?_, ?_, ?_, hg3.keep hkB ?_, hk.fresh hkB ?_, hilt, by simp; omega, h5, ?_⟩
 ·simp only [List.mem_cons, not_or]; exact ⟨by omega, hfar b (by omega)⟩
 ·exact World.cell?_setCell_same _ _ _ hnbk
 ·rw [World.frozen?_setCell]; exact hf4
 ·have := World.ownsRow.setOther hown (a := ⟨nb, 0, none⟩) (by simp [Value.ownBlock]; omega) (.slice (some ⟨g, 0, none⟩) (word.length + 1) cap)
  unfold BY
  rw [List.length_append, List.map_append]
  exact this
 ·simp only [List.mem_cons, not_or]; exact ⟨by omega, hfar _ (by omega)⟩
 ·intro x hx
  right
  rcases List.mem_cons.1 hx with rfl | hx
  ·omega
  ·rw [Option.mem_toList] at hx
   have := (hvlt x hx).1
   omega
 ·rw [hsp, List.length_append, List.length_singleton]; congr 1; omega
theorem first_name {word : List UInt8} (h : word ∈ names) : ∃ k, k < 7 ∧ nm k = word ∧ ∀ j, j < k → nm j ≠ word := by
 have key : ∀ k j : Fin 7, nm k = nm j → k = j := by decide
 obtain ⟨k, hk, rfl⟩ := List.mem_iff_getElem.1 h
 have hk7 : k < 7 := by rw [names_count] at hk; exact hk
 refine ⟨k, hk7, nm_get hk7, fun j hj e => ?_⟩
 have := key ⟨k, hk7⟩ ⟨j, by omega⟩ ((nm_get hk7).trans e.symm)
 have := congrArg Fin.val this
 simp at this
 omega
theorem Tryz.infoByte : (Tryz.prog.info? 5).map (fun i => (i.zero, i.size, i.bytes)) = some (some (.int .u8 0), 1, 1) := by kernel_rfl
theorem frozen_keep_b {w w' : World} {b : Nat} (h : Keeps [b] w w') {a : Addr} {v : Value} (hb : a.block ≠ b) (hc : w.cell? a = some v) (hf : w.frozen? a = false) : w'.frozen? a = false :=
 (World.frozen?_of_block (h.block a.block (World.block_lt_of_cell? w a hc) (by simpa using hb))).trans hf
set_option maxRecDepth 100000 in
set_option maxHeartbeats 2000000 in
theorem className_prog (b : Nat) (p : QS) (w : World) (hp : QB w b p) (hs : p.s.size ≤ 60) (hle : p.ix ≤ p.s.size) (hg : GN w) (hbg : b ≠ 6) :
    Calls Tryz.prog 181 #[.pointer (some ⟨b, 0, none⟩)] w (NPost b p w (clsS p.s 6 [] p.ix)) := by
 obtain ⟨i0, hi0, hz0, hz1, hz2⟩ := info_parts Tryz.infoByte
 have hmf : ∀ (fn : Fn) (first cap : Array Value) (w : World), (Instr.makeFunc fn first cap).run Tryz.prog w = .ok (.func fn first cap) w := fun _ _ _ _ => rfl
 have hbl := hp.lt
 have hgl := hg.lt
 go_enter Tryz.func181, Tryz.ntmps181
 go_wp2_with fail
 have C0 : CN p b w.heap.size w (w.alloc (.cells #[.slice none 0 0] 44)) (.slice none 0 0) [] p.ix :=
  ⟨hp.keep ((Keeps.refl [] w).alloc _) (by simp), by simp, by simp, World.ownsRow_nil _ _ _ _, hg.keep ((Keeps.refl [] w).alloc _) (by simp), (Keeps.refl [b] w).alloc _, hle, by simp, by simp, rfl⟩
 have hnb : w.heap.size ≠ b := by omega
 have hnb0 : w.heap.size < (w.alloc (.cells #[.slice none 0 0] 44)).heap.size := by simp
 generalize hnbq : w.heap.size = nb at *
 generalize (w.alloc (.cells #[.slice none 0 0] 44)) = W at *
 go_loopw [4] (fun _ wr => ∃ v word i, CN p b nb w wr v word i) (fun _ wr => muN wr nb)
 case atStart => exact ⟨_, _, _, C0⟩
 case round =>
  clear C0
  obtain ⟨v, word, i, C⟩ := hrel
  have hcv := conv_name _ _ _ _ C.bytes
  have hc := C.cell
  have hf := C.fro
  by_cases hm : word ∈ names
  ·have IC := isClass_any word _ C.gn
   rw [decide_eq_true hm] at IC
   go_wp2_with (go_at_call 190; refine IC.mono ?_; rintro e w' ⟨rfl, rfl⟩)
   go_ret
   obtain ⟨k, hk7, hkw⟩ : ∃ k, k < 7 ∧ nm k = word ∧ ∀ j, j < k → nm j ≠ word := first_name hm
   have hr : clsS p.s 6 [] p.ix = .ok k i := by
    rw [C.spec, show 6 - word.length = 1 from by rw [← hkw.1, nm_len hk7], clsS, find_some hk7 hkw.2 hkw.1]
   refine ⟨C.keep, ?_⟩
   rw [hr]
   exact ⟨by rw [hkw.1]; rfl, C.qb⟩
  ·have IC := isClass_any word _ C.gn
   rw [decide_eq_false hm] at IC
   have hw4 : word.length ≤ 4 := by
    have := C.wl
    have h5 := C.w5
    by_cases h : word.length = 5
    ·exact absurd (h5 h) hm
    ·omega
   have HS : Hid (clsS p.s 6 [] p.ix = if goesOn word (at' p.s i) then clsS p.s (5 - word.length) (word ++ [p.s.get! i]) (i + 1) else .bad i) := by
    show clsS p.s 6 [] p.ix = _
    rw [C.spec, show 6 - word.length = (5 - word.length) + 1 from by omega, clsS, find_none (by intro j hj h; exact hm (by rw [← h]; exact nm_mem hj))]
   clear hm
   go_wp2_with (go_at_call 190; refine IC.mono ?_; rintro e w' ⟨rfl, rfl⟩)
   have hmay : 0 ≤ at' p.s i → May 191 #[.pointer (some ⟨nb, 0, none⟩)] (at' p.s i) (goesOn word (at' p.s i)) w' := by
    intro h0
    have hlt : i < p.s.size := at'_nn h0
    rw [at'_lt hlt]
    exact may_cls1 _ nb (nb + 1) v word (by omega) _ C.cell C.bytes C.gn
   refine (take_may b { p with ix := i } 191 _ (goesOn word (at' p.s i)) _ C.qb hs C.ile hmay (if 0 ≤ at' p.s i ∧ goesOn word (at' p.s i) = true then .ok (at' p.s i) (i + 1) else .bad i) rfl).mono ?_
   rintro e w3 ⟨hk3, hc3⟩
   by_cases h2 : 0 ≤ at' p.s i ∧ goesOn word (at' p.s i) = true
   ·rw [if_pos h2] at hc3
    obtain ⟨rfl, hq3⟩ := hc3
    have hlt : i < p.s.size := at'_nn h2.1
    have hgo := h2.2
    have HS2 : Hid (clsS p.s 6 [] p.ix = clsS p.s (5 - word.length) (word ++ [p.s.get! i]) (i + 1)) := by show clsS p.s 6 [] p.ix = _; rw [HS.out, if_pos hgo]
    have HW5 : Hid ((word ++ [p.s.get! i]).length = 5 → word ++ [p.s.get! i] ∈ names) := goesOn_mem hgo hw4 hlt
    have hbyte : at' p.s i = ((p.s.get! i).toNat : Int) := by rw [at'_lt hlt, get!_eq hlt]
    have hc4 := keep_cell_b hk3 hnb C.cell
    have hf4 := frozen_keep_b hk3 hnb C.cell C.fro
    have hvlt := World.ownsRow.lt C.bytes
    have hb4 : BY w3 (nb + 1) v word := C.bytes.keep hk3 (by intro g e; have := (hvlt g e).1; simp; omega)
    have hvlt3 := World.ownsRow.lt hb4
    have hg4 := C.gn.keep hk3 (by simp; omega)
    have hlm : word.length + 1 ≤ maxLen := by unfold maxLen; omega
    have hun := Tryz.underlying44
    have hnb3 := World.block_lt_of_cell? w3 _ hc4
    have hnb3' : nb < w3.heap.size := hnb3
    have hvne : v.ownBlock ≠ some nb := by intro e; have := (hvlt nb e).1; omega
    have hk4 := C.keep.trans hk3
    have hmu := muN_eq C.cell C.bytes
    clear h2 hgo HS hcv hc hf hmay C IC
    rw [hbyte]
    generalize p.s.get! i = u at *
    go_wp2_with (first | (at_builtin; refine wpList_append_lies _ rfl _ _ _ rfl (nb + 1) 5 i0 (.int .u8 0) 1 1 hun hi0 hz0 hz1 hz2 rfl (by decide) v word.length _ rfl (World.ownsRow.alloc hb4 _) ⟨w3.heap.size, 0, none⟩ 1 1 [.int .u8 (u.toNat : Int)] rfl rfl (cell_one_new _ _ _) (by simp [Value.oneCell']) (by omega) hlm (by omega) (by simp; omega) (w3.heap.size + 1) (by simp) ?_; intro g cap w4 hown hgrow hat hlt4; have hfz : w4.frozen? ⟨nb, 0, none⟩ = false := (hgrow.frozen_far ⟨nb, 0, none⟩ (by simp; omega) (Ne.symm hvne)).trans ((World.frozen?_alloc_old w3 _ ⟨nb, 0, none⟩ (by simp; omega)).trans hf4); have hcz : w4.cell? ⟨nb, 0, none⟩ = some v := (hgrow.cell_far ⟨nb, 0, none⟩ (by simp; omega) (Ne.symm hvne)).trans ((World.cell?_alloc_old w3 _ ⟨nb, 0, none⟩ (by simp; omega)).trans hc4)))
    have C5 := CN.next hk4 hq3 hg4 hb4 hc4 hbl hgl hnbq hown hgrow hfz hlt hw4 HW5.out HS2.out
    go_roundw
    case rel => exact ⟨_, _, _, C5⟩
    case measure => rw [hmu, muN_eq C5.cell C5.bytes, List.length_append]; simp; omega
   ·rw [if_neg h2] at hc3
    subst hc3
    have hr : clsS p.s 6 [] p.ix = .bad i := by
     rw [HS.out, if_neg]
     intro hgo
     apply h2
     refine ⟨?_, hgo⟩
     by_cases h0 : i < p.s.size
     ·rw [at'_lt h0]; omega
     ·rw [at'_ge (by omega), goesOn_none] at hgo; cases hgo
    simp only [fault]
    exact ⟨rfl, C.keep.trans hk3, by rw [hr]; rfl⟩
end Go.Proofs.YtnfojonmohijpabGreatDoor
