/-
  DERIVED. Contracts of the program's hexPair, escaped and inner, held against the plain functions of the texts Spec and SB. Conditions: the text is at most 60 bytes long, the place is within it, the least byte is one.
-/
import Derived.Test.YtnfojonmohijpaaGreatDoorJRF
import Derived.Test.YtnfojonmohijpaaGreatDoorJSB
set_option linter.unusedSimpArgs false
set_option linter.unusedVariables false
namespace Go.Proofs.YtnfojonmohijpaaGreatDoor
open Go.RowKit
theorem cf_hp1 (args : Array Value) (w : World) : (callFunc 292 args).run Tryz.prog w = .ok (.enter 292 args) w := by kernel_rfl
theorem cf_hp2 (args : Array Value) (w : World) : (callFunc 293 args).run Tryz.prog w = .ok (.enter 293 args) w := by kernel_rfl
theorem cf_esc1 (args : Array Value) (w : World) : (callFunc 277 args).run Tryz.prog w = .ok (.enter 277 args) w := by kernel_rfl
theorem cf_inn1 (args : Array Value) (w : World) : (callFunc 300 args).run Tryz.prog w = .ok (.enter 300 args) w := by kernel_rfl
theorem keep_cell {w w' : World} (h : Keeps [] w w') {a : Addr} {v : Value} (hc : w.cell? a = some v) : w'.cell? a = some v :=
 (World.cell?_of_block (h.block a.block (World.block_lt_of_cell? w a hc) (by simp))).trans hc
theorem keep_cell_b {w w' : World} {b : Nat} (h : Keeps [b] w w') {a : Addr} {v : Value} (hb : a.block ≠ b) (hc : w.cell? a = some v) : w'.cell? a = some v :=
 (World.cell?_of_block (h.block a.block (World.block_lt_of_cell? w a hc) (by simpa using hb))).trans hc
def PPost (b : Nat) (p : QS) (w : World) (r : R Int) (e : Ending) (w' : World) : Prop :=
 Keeps [b] w w' ∧ match r with
  | .ok v j => e = .returned (.int .u8 v) ∧ QB w' b { p with ix := j }
  | .bad j => e = fault j
theorem may_hp1 {c l : Int} (h0 : 0 ≤ c) (h1 : c ≤ 255) {lb : Nat} {w : World} (hl : w.cell? ⟨lb, 0, none⟩ = some (.int .u8 l)) : May 292 #[.pointer (some ⟨lb, 0, none⟩)] c (decide (0 ≤ hexd c) && decide (l ≤ 16 * hexd c + 15)) w :=
 ⟨cf_hp1, fun w1 hk => (hp1_any c l h0 h1 lb w1 (keep_cell hk hl)).mono fun e w2 ⟨he, n, hw⟩ => ⟨he, by rw [hw]; exact (Keeps.refl _ _).drewN n⟩⟩
theorem may_hp2 {c l a : Int} (h0 : 0 ≤ c) (h1 : c ≤ 255) (ha0 : 0 ≤ a) (ha1 : a ≤ 15) {ab lb : Nat} {w : World} (hla : w.cell? ⟨ab, 0, none⟩ = some (.int .u8 a)) (hl : w.cell? ⟨lb, 0, none⟩ = some (.int .u8 l)) : May 293 #[.pointer (some ⟨ab, 0, none⟩), .pointer (some ⟨lb, 0, none⟩)] c (decide (0 ≤ hexd c) && decide (l ≤ 16 * a + hexd c)) w :=
 ⟨cf_hp2, fun w1 hk => (hp2_any c l a h0 h1 ha0 ha1 ab lb w1 (keep_cell hk hla) (keep_cell hk hl)).mono fun e w2 ⟨he, n, hw⟩ => ⟨he, by rw [hw]; exact (Keeps.refl _ _).drewN n⟩⟩
theorem may_esc1 {c l : Int} {lb : Nat} {w : World} (hl : w.cell? ⟨lb, 0, none⟩ = some (.int .u8 l)) : May 277 #[.pointer (some ⟨lb, 0, none⟩)] c (!alnB c && decide (l ≤ c)) w :=
 ⟨cf_esc1, fun w1 hk => (esc1_any c l lb w1 (keep_cell hk hl)).mono fun e w2 ⟨he, hw⟩ => ⟨he, by rw [hw]; exact Keeps.refl _ _⟩⟩
theorem may_inn1 {c l : Int} (h0 : 0 ≤ c) (h1 : c ≤ 255) {lb : Nat} {w : World} (hl : w.cell? ⟨lb, 0, none⟩ = some (.int .u8 l)) : May 300 #[.pointer (some ⟨lb, 0, none⟩)] c (!decide (c = 91 ∨ c = 93 ∨ c = 45 ∨ c = 94) && decide (l ≤ c)) w :=
 ⟨cf_inn1, fun w1 hk => (inn1_any c l h0 h1 lb w1 (keep_cell hk hl)).mono fun e w2 ⟨he, hw⟩ => ⟨he, by rw [hw]; exact Keeps.refl _ _⟩⟩
theorem take_may (b : Nat) (p : QS) (F : Nat) (caps : Array Value) (v : Bool) (w : World) (hp : QB w b p) (hs : p.s.size ≤ 60) (hle : p.ix ≤ p.s.size) (hm : 0 ≤ p.cur → May F caps p.cur v w) (r : R Int)
    (hr : r = if 0 ≤ p.cur ∧ v = true then .ok p.cur (p.ix + 1) else .bad p.ix) :
    Calls Tryz.prog 218 #[.pointer (some ⟨b, 0, none⟩), .func (.func F) #[] caps] w (PPost b p w r) := by
 subst hr
 by_cases hlt : p.ix < p.s.size
 ·have h0 : 0 ≤ p.cur := by show 0 ≤ at' p.s p.ix; rw [at'_lt hlt]; omega
  cases v
  ·rw [if_neg (by simp)]
   refine (take_bad b p F caps w hp hs hlt (hm h0)).mono ?_
   rintro e w' ⟨rfl, hk⟩
   exact ⟨hk, rfl⟩
  ·rw [if_pos ⟨h0, rfl⟩]
   refine (take_ok b p F caps w hp hs hlt (hm h0)).mono ?_
   rintro e w' ⟨rfl, hq, hk⟩
   exact ⟨hk, rfl, hq⟩
 ·have hge : p.ix = p.s.size := by omega
  have h0 : p.cur = -1 := at'_ge (by omega)
  rw [if_neg (by rw [h0]; omega)]
  refine (take_end b p _ w hp hge).mono ?_
  rintro e w' ⟨rfl, hk⟩
  exact ⟨hk, rfl⟩
theorem boxed (b : Nat) (p : QS) (l : Int) (w : World) (hp : QB w b p) : QB (w.alloc (.cells #[.int .u8 l] 5)) b p ∧ (w.alloc (.cells #[.int .u8 l] 5)).cell? ⟨w.heap.size, 0, none⟩ = some (.int .u8 l) ∧ Keeps [b] w (w.alloc (.cells #[.int .u8 l] 5)) ∧ w.heap.size ≠ b :=
 ⟨hp.keep ((Keeps.refl [] w).alloc _) (by simp), by simp, (Keeps.refl [b] w).alloc _, by have := hp.lt; omega⟩
theorem hexS_iff (s : ByteArray) (ahead : Int) (last : Bool) (least : Int) (i : Nat) (g : Int) (hg : g = if last then ahead + hexd (at' s i) else 16 * (ahead + hexd (at' s i)) + 15) :
    hexS s ahead last least i = (if 0 ≤ at' s i ∧ (decide (0 ≤ hexd (at' s i)) && decide (least ≤ g)) = true then .ok (hexd (at' s i)) (i + 1) else .bad i) := by
 unfold hexS
 rw [← hg]
 by_cases h : 0 ≤ hexd (at' s i) ∧ least ≤ g
 ·have hc : 0 ≤ at' s i := by
     by_cases hh : 0 ≤ at' s i
     ·exact hh
     ·exfalso
      have := h.1
      unfold hexd at this; rw [if_neg (by omega), if_neg (by omega)] at this; omega
  rw [if_neg (by omega), if_pos ⟨hc, by simp [h.1, h.2]⟩]
 ·rw [if_pos (by omega), if_neg (by rintro ⟨_, hh⟩; simp at hh; exact h hh)]
set_option maxRecDepth 100000 in
set_option maxHeartbeats 1000000 in
theorem hexPair_prog (b : Nat) (p : QS) (least : Int) (w : World) (hp : QB w b p) (hs : p.s.size ≤ 60) (hle : p.ix ≤ p.s.size) (hl0 : 0 ≤ least) (hl1 : least ≤ 255) :
    Calls Tryz.prog 276 #[.pointer (some ⟨b, 0, none⟩), .int .u8 least] w (PPost b p w (hexPS p.s least p.ix)) := by
 have hmf : ∀ (fn : Fn) (first cap : Array Value) (w : World), (Instr.makeFunc fn first cap).run Tryz.prog w = .ok (.func fn first cap) w := fun _ _ _ _ => rfl
 obtain ⟨hq0, hl, hk0, hne⟩ := boxed b p least w hp
 have hcb := at'_bd p.s p.ix
 have hcur : p.cur = at' p.s p.ix := rfl
 go_enter Tryz.func276, Tryz.ntmps276
 go_wp2_with fail
 generalize (w.alloc (.cells #[.int .u8 least] 5)) = W at *
 generalize w.heap.size = lb at *
 have r1 : hexS p.s 0 false least p.ix = (if 0 ≤ p.cur ∧ (decide (0 ≤ hexd p.cur) && decide (least ≤ 16 * hexd p.cur + 15)) = true then .ok (hexd p.cur) (p.ix + 1) else .bad p.ix) := by
  have := hexS_iff p.s 0 false least p.ix (16 * hexd (at' p.s p.ix) + 15) (by simp)
  exact this
 refine (take_may b p 292 _ _ W hq0 hs hle (fun h => may_hp1 h (by omega) hl) _ rfl).mono ?_
 rintro e w1 ⟨hk1, hc1⟩
 by_cases h1 : 0 ≤ p.cur ∧ (decide (0 ≤ hexd p.cur) && decide (least ≤ 16 * hexd p.cur + 15)) = true
 ·rw [if_pos h1] at hc1 r1
  obtain ⟨rfl, hq1⟩ := hc1
  have hx0 : 0 ≤ hexd p.cur := by have := h1.2; simp at this; exact this.1
  have hx1 := (hexd_bd p.cur).2
  have HV := hexValue_any p.cur h1.1 (by rw [hcur]; omega) hx0
  have hl1' := keep_cell_b hk1 hne hl
  generalize hexd p.cur = x at *
  clear hcur h1 hcb
  go_wp2_with (first | (go_at_call 220; refine (HV _).mono ?_; rintro e w1 ⟨rfl, rfl⟩))
  obtain ⟨hq2, hla, hk2, hne2⟩ := boxed b { p with ix := p.ix + 1 } x w1 hq1
  have hl2 := keep_cell ((Keeps.refl [] w1).alloc (.cells #[.int .u8 x] 5)) hl1'
  generalize (w1.alloc (.cells #[.int .u8 x] 5)) = W2 at *
  generalize w1.heap.size = ab at *
  have hle2 : p.ix + 1 ≤ p.s.size := by
   have := (hexS_ok r1).2.2.2.1
   exact this
  have hcb := at'_bd p.s (p.ix + 1)
  have r2 : hexS p.s (16 * x) true least (p.ix + 1) = (if 0 ≤ at' p.s (p.ix + 1) ∧ (decide (0 ≤ hexd (at' p.s (p.ix + 1))) && decide (least ≤ 16 * x + hexd (at' p.s (p.ix + 1)))) = true then .ok (hexd (at' p.s (p.ix + 1))) (p.ix + 2) else .bad (p.ix + 1)) :=
   hexS_iff p.s (16 * x) true least (p.ix + 1) (16 * x + hexd (at' p.s (p.ix + 1))) (by simp)
  have HP : hexPS p.s least p.ix = (hexS p.s (16 * x) true least (p.ix + 1)).bind fun b k => .ok (16 * x + b) k := by
   unfold hexPS; rw [r1]; rfl
  refine (take_may b { p with ix := p.ix + 1 } 293 _ _ W2 hq2 hs hle2 (fun h => may_hp2 h hcb.2 hx0 hx1 hla hl2) (if 0 ≤ at' p.s (p.ix + 1) ∧ (decide (0 ≤ hexd (at' p.s (p.ix + 1))) && decide (least ≤ 16 * x + hexd (at' p.s (p.ix + 1)))) = true then .ok (at' p.s (p.ix + 1)) (p.ix + 2) else .bad (p.ix + 1)) rfl).mono ?_
  rintro e w3 ⟨hk3, hc3⟩
  have hkk : Keeps [b] w w3 := ((hk0.trans hk1).trans hk2).trans hk3
  by_cases h2 : 0 ≤ at' p.s (p.ix + 1) ∧ (decide (0 ≤ hexd (at' p.s (p.ix + 1))) && decide (least ≤ 16 * x + hexd (at' p.s (p.ix + 1)))) = true
  ·rw [if_pos h2] at r2
   rw [if_pos h2] at hc3
   obtain ⟨rfl, hq3⟩ := hc3
   have hy0 : 0 ≤ hexd (at' p.s (p.ix + 1)) := by have := h2.2; simp at this; exact this.1
   have hy1 := (hexd_bd (at' p.s (p.ix + 1))).2
   have HV2 := hexValue_any (at' p.s (p.ix + 1)) h2.1 hcb.2 hy0
   have HF : Hid (hexPS p.s least p.ix = .ok (16 * x + hexd (at' p.s (p.ix + 1))) (p.ix + 2)) := by show hexPS p.s least p.ix = _; rw [HP, r2]; rfl
   have ho := or_hex x (hexd (at' p.s (p.ix + 1))) hx0 hx1 hy0 hy1
   have hla3 := keep_cell_b hk3 hne2 hla
   clear r1 r2 HP h2 hcb
   go_wp2_with (first | (go_at_call 220; refine (HV2 _).mono ?_; rintro e w3 ⟨rfl, rfl⟩))
   go_ret
   refine ⟨hkk, ?_⟩
   rw [HF.out]
   exact ⟨ret_int (by first | rfl | exact ho), hq3⟩
  ·rw [if_neg h2] at r2
   rw [if_neg h2] at hc3
   subst hc3
   simp only [fault]
   exact ⟨rfl, hkk, by rw [HP, r2]; rfl⟩
 ·rw [if_neg h1] at hc1 r1
  subst hc1
  simp only [fault]
  exact ⟨rfl, hk0.trans hk1, by unfold hexPS; rw [r1]; rfl⟩
end Go.Proofs.YtnfojonmohijpaaGreatDoor
namespace Go.Proofs.YtnfojonmohijpaaGreatDoor
open Go.RowKit
structure US where
 s : ByteArray
 ix : Nat
 op : Nat
def US.cells (p : US) : Array Value := #[.string p.s, .int .i64 p.ix, .int .i64 p.op]
def UB (w : World) (b : Nat) (p : US) : Prop := w.heap[b]? = some (.cells p.cells 232 (0, 0))
theorem UB.lt {w : World} {b : Nat} {p : US} (h : UB w b p) : b < w.heap.size := (Array.getElem?_eq_some_iff.1 h).1
theorem UB.keep {w w' : World} {b : Nat} {p : US} {S : List Nat} (h : UB w b p) (hk : Keeps S w w') (hb : b ∉ S) : UB w' b p := (hk.block b h.lt hb).trans h
theorem UB.drewN {w : World} {b : Nat} {p : US} (h : UB w b p) (n : Nat) : UB (w.drewN n) b p := h
theorem UB.main {w : World} {b : Nat} {p : US} (h : UB w b p) :
    w.cell? ⟨b, 0, none⟩ = some (.string p.s) ∧ w.cell? ⟨b, 1, none⟩ = some (.int .i64 p.ix) ∧ w.cell? ⟨b, 2, none⟩ = some (.int .i64 p.op) ∧
    w.frozen? ⟨b, 1, none⟩ = false ∧ w.frozen? ⟨b, 2, none⟩ = false := by
 unfold UB at h
 simp [World.cell?, World.frozen?, h, US.cells]
theorem UB.setIx {w : World} {b : Nat} {p : US} (h : UB w b p) (x : Nat) : UB (w.setCell ⟨b, 1, none⟩ (.int .i64 x)) b { p with ix := x } := by
 unfold UB at *
 simp [World.setCell, Array.getElem?_modify, h, US.cells]
theorem UB.setOp {w : World} {b : Nat} {p : US} (h : UB w b p) (x : Nat) : UB (w.setCell ⟨b, 2, none⟩ (.int .i64 x)) b { p with op := x } := by
 unfold UB at *
 simp [World.setCell, Array.getElem?_modify, h, US.cells]
def US.cur (p : US) : Int := at' p.s p.ix
set_option maxHeartbeats 400000 in
theorem upeek_some (b : Nat) (p : US) (w : World) (hp : UB w b p) (hlt : p.ix < p.s.size) (hs : p.s.size ≤ 20000) :
    Calls Tryz.prog 167 #[.pointer (some ⟨b, 0, none⟩)] w fun e w' => e = .returned (.tuple #[.int .u8 p.cur, .bool true]) ∧ UB w' b p ∧ Keeps [] w w' := by
 obtain ⟨c0, c1, _, f1, _⟩ := hp.main
 have hki : (p.ix : Int) < (p.s.size : Int) := by omega
 have hk0 : (0 : Int) ≤ (p.ix : Int) := by omega
 have hne : ((p.ix : Int) == (p.s.size : Int)) = false := by simpa using (by omega : ¬ (p.ix : Int) = (p.s.size : Int))
 have HC : Hid (p.cur = (p.s[p.ix].toNat : Int)) := at'_lt hlt
 go_enter Tryz.func167, Tryz.ntmps167
 go_wp2_with fail
 go_quiet (fail)
 go_wp2_with fail
 go_quiet (fail)
 go_wp2_with fail
 go_ret2
 exact ⟨by rw [HC.out]; rfl, (hp.drewN _).drewN _, ((Keeps.refl _ _).drewN _).drewN _⟩
set_option maxHeartbeats 400000 in
theorem upeek_none (b : Nat) (p : US) (w : World) (hp : UB w b p) (hge : p.ix = p.s.size) :
    Calls Tryz.prog 167 #[.pointer (some ⟨b, 0, none⟩)] w fun e w' => e = .returned (.tuple #[.int .u8 0, .bool false]) ∧ UB w' b p ∧ Keeps [] w w' := by
 obtain ⟨c0, c1, _, f1, _⟩ := hp.main
 have hne : ((p.ix : Int) == (p.s.size : Int)) = true := by simpa using (by omega : (p.ix : Int) = (p.s.size : Int))
 clear hge
 go_enter Tryz.func167, Tryz.ntmps167
 go_wp2_with fail
 go_quiet (fail)
 go_wp2_with fail
 go_ret2
 exact ⟨rfl, (hp.drewN _), (Keeps.refl _ _).drewN _⟩
set_option maxHeartbeats 400000 in
theorem uahead_any (b : Nat) (p : US) (c : Int) (hc : 0 ≤ c) (w : World) (hp : UB w b p) (hle : p.ix ≤ p.s.size) (hs : p.s.size ≤ 20000) :
    Calls Tryz.prog 165 #[.pointer (some ⟨b, 0, none⟩), .int .u8 c] w fun e w' => e = .returned (.bool (decide (p.cur = c))) ∧ UB w' b p ∧ Keeps [] w w' := by
 by_cases hlt : p.ix < p.s.size
 ·go_enter Tryz.func165, Tryz.ntmps165
  go_wp2_with (first | (go_at_call 167; refine (upeek_some b p _ hp hlt hs).mono ?_; rintro e w1 ⟨rfl, hp1, hk1⟩))
  go_ret
  exact ⟨by simp [BEq.beq], hp1, hk1⟩
 ·have hge : p.ix = p.s.size := by omega
  have HC : Hid (p.cur = -1) := at'_ge (by omega)
  go_enter Tryz.func165, Tryz.ntmps165
  go_wp2_with (first | (go_at_call 167; refine (upeek_none b p _ hp hge).mono ?_; rintro e w1 ⟨rfl, hp1, hk1⟩))
  go_ret
  exact ⟨by rw [HC.out]; simp; omega, hp1, hk1⟩
def US.took (p : US) (c : Int) : US := if p.cur = c then { p with ix := p.ix + 1 } else p
set_option maxHeartbeats 400000 in
theorem uskip_any (b : Nat) (p : US) (c : Int) (hc : 0 ≤ c) (w : World) (hp : UB w b p) (hle : p.ix ≤ p.s.size) (hs : p.s.size ≤ 20000) :
    Calls Tryz.prog 116 #[.pointer (some ⟨b, 0, none⟩), .int .u8 c] w fun e w' => e = .returned (.bool (decide (p.cur = c))) ∧ UB w' b (p.took c) ∧ Keeps [b] w w' := by
 by_cases h : p.cur = c
 ·have hd : decide (p.cur = c) = true := by simpa using h
  have H : Hid (p.cur = c) := h
  have hlt : p.ix < p.s.size := at'_nn (by show 0 ≤ p.cur; omega)
  have hb1 : (0 : Int) ≤ (p.ix : Int) := by omega
  have hb2 : (p.ix : Int) ≤ 20000 := by omega
  clear h
  go_enter Tryz.func116, Tryz.ntmps116
  go_wp2_with (first | (go_at_call 165; refine (uahead_any b p c hc _ hp hle hs).mono ?_; rintro e w1 ⟨rfl, hp1, hk1⟩; obtain ⟨c0, c1, _, f1, _⟩ := hp1.main))
  go_ret
  exact ⟨by simp [hd], by simp only [US.took, H.out, if_true]; exact hp1.setIx (p.ix + 1), (hk1.mono (by simp)).setCell (by simp) _⟩
 ·have hd : decide (p.cur = c) = false := by simpa using h
  have H : Hid (¬ p.cur = c) := h
  clear h
  go_enter Tryz.func116, Tryz.ntmps116
  go_wp2_with (first | (go_at_call 165; refine (uahead_any b p c hc _ hp hle hs).mono ?_; rintro e w1 ⟨rfl, hp1, hk1⟩))
  go_ret
  exact ⟨by simp [hd], by simp only [US.took, H.out, if_false]; exact hp1, hk1.mono (by simp)⟩
set_option maxHeartbeats 400000 in
theorem upfail_any (b : Nat) (p : US) (w : World) (hp : UB w b p) :
    Calls Tryz.prog 168 #[.pointer (some ⟨b, 0, none⟩)] w fun e w' => e = fault p.ix ∧ w' = w := by
 obtain ⟨c0, c1, _, f1, _⟩ := hp.main
 go_enter Tryz.func168, Tryz.ntmps168
 go_wp2_with fail
 exact ⟨rfl, rfl, rfl⟩
set_option maxHeartbeats 400000 in
theorem uexpect_ok (b : Nat) (p : US) (c : Int) (hc : 0 ≤ c) (w : World) (hp : UB w b p) (hs : p.s.size ≤ 20000) (h : p.cur = c) :
    Calls Tryz.prog 221 #[.pointer (some ⟨b, 0, none⟩), .int .u8 c] w fun e w' => e = .returned (.tuple #[]) ∧ UB w' b { p with ix := p.ix + 1 } ∧ Keeps [b] w w' := by
 have hlt : p.ix < p.s.size := at'_nn (by show 0 ≤ p.cur; omega)
 have hd : decide (p.cur = c) = true := by simpa using h
 have htk : p.took c = { p with ix := p.ix + 1 } := by unfold US.took; rw [if_pos h]
 clear h
 go_enter Tryz.func221, Tryz.ntmps221
 go_wp2_with (first | (go_at_call 116; refine (uskip_any b p c hc _ hp (Nat.le_of_lt hlt) hs).mono ?_; rintro e w1 ⟨rfl, hp1, hk1⟩; rw [htk] at hp1))
 go_end0
 exact ⟨rfl, hp1, hk1⟩
set_option maxHeartbeats 400000 in
theorem uexpect_bad (b : Nat) (p : US) (c : Int) (hc : 0 ≤ c) (w : World) (hp : UB w b p) (hle : p.ix ≤ p.s.size) (hs : p.s.size ≤ 20000) (h : p.cur ≠ c) :
    Calls Tryz.prog 221 #[.pointer (some ⟨b, 0, none⟩), .int .u8 c] w fun e w' => e = fault p.ix ∧ Keeps [b] w w' := by
 have hd : decide (p.cur = c) = false := by simpa using h
 have htk : p.took c = p := by unfold US.took; rw [if_neg h]
 clear h
 go_enter Tryz.func221, Tryz.ntmps221
 go_wp2_with (first | (go_at_call 168; refine (upfail_any b p _ hp1).mono ?_; rintro e w2 ⟨rfl, rfl⟩; simp only [fault]) | (go_at_call 116; refine (uskip_any b p c hc _ hp hle hs).mono ?_; rintro e w1 ⟨rfl, hp1, hk1⟩; rw [htk] at hp1))
 exact ⟨rfl, rfl, hk1⟩
set_option maxHeartbeats 400000 in
theorem uend_ok (b : Nat) (p : US) (w : World) (hp : UB w b p) (h : p.ix = p.s.size) :
    Calls Tryz.prog 118 #[.pointer (some ⟨b, 0, none⟩)] w fun e w' => e = .returned (.tuple #[]) ∧ UB w' b p ∧ Keeps [] w w' := by
 go_enter Tryz.func118, Tryz.ntmps118
 go_wp2_with (first | (go_at_call 167; refine (upeek_none b p _ hp h).mono ?_; rintro e w1 ⟨rfl, hp1, hk1⟩))
 go_end0
 exact ⟨rfl, hp1, hk1⟩
set_option maxHeartbeats 400000 in
theorem uend_bad (b : Nat) (p : US) (w : World) (hp : UB w b p) (h : p.ix < p.s.size) (hs : p.s.size ≤ 20000) :
    Calls Tryz.prog 118 #[.pointer (some ⟨b, 0, none⟩)] w fun e w' => e = fault p.ix ∧ Keeps [] w w' := by
 go_enter Tryz.func118, Tryz.ntmps118
 go_wp2_with (first | (go_at_call 167; refine (upeek_some b p _ hp h hs).mono ?_; rintro e w1 ⟨rfl, hp1, hk1⟩) | (go_at_call 168; refine (upfail_any b p _ hp1).mono ?_; rintro e w2 ⟨rfl, rfl⟩; simp only [fault]))
 exact ⟨rfl, rfl, hk1⟩
set_option maxRecDepth 100000 in
set_option maxHeartbeats 400000 in
theorem utake_ok (b : Nat) (p : US) (F : Nat) (caps : Array Value) (w : World) (hp : UB w b p) (hs : p.s.size ≤ 20000) (hlt : p.ix < p.s.size) (hm : May F caps p.cur true w) :
    Calls Tryz.prog 218 #[.pointer (some ⟨b, 0, none⟩), .func (.func F) #[] caps] w fun e w' => e = .returned (.int .u8 p.cur) ∧ UB w' b { p with ix := p.ix + 1 } ∧ Keeps [b] w w' := by
 have hb1 : (0 : Int) ≤ (p.ix : Int) := by omega
 have hb2 : (p.ix : Int) ≤ 20000 := by omega
 obtain ⟨hcf, hcall⟩ := hm
 go_enter Tryz.func218, Tryz.ntmps218
 go_wp2_with (first | (go_at_call 167; refine (upeek_some b p _ hp hlt hs).mono ?_; rintro e w1 ⟨rfl, hp1, hk1⟩))
 refine (hcall _ hk1).mono ?_
 rintro e w2 ⟨rfl, hk2⟩
 have hp2 := hp1.keep hk2 (by simp)
 obtain ⟨c0, c1, _, f1, _⟩ := hp2.main
 go_wp2_with fail
 go_ret
 exact ⟨rfl, hp2.setIx (p.ix + 1), ((hk1.trans hk2).mono (by simp)).setCell (by simp) _⟩
set_option maxRecDepth 100000 in
set_option maxHeartbeats 400000 in
theorem utake_bad (b : Nat) (p : US) (F : Nat) (caps : Array Value) (w : World) (hp : UB w b p) (hs : p.s.size ≤ 20000) (hlt : p.ix < p.s.size) (hm : May F caps p.cur false w) :
    Calls Tryz.prog 218 #[.pointer (some ⟨b, 0, none⟩), .func (.func F) #[] caps] w fun e w' => e = fault p.ix ∧ Keeps [b] w w' := by
 obtain ⟨hcf, hcall⟩ := hm
 go_enter Tryz.func218, Tryz.ntmps218
 go_wp2_with (first | (go_at_call 167; refine (upeek_some b p _ hp hlt hs).mono ?_; rintro e w1 ⟨rfl, hp1, hk1⟩))
 refine (hcall _ hk1).mono ?_
 rintro e w2 ⟨rfl, hk2⟩
 have hp2 := hp1.keep hk2 (by simp)
 go_wp2_with (first | (go_at_call 168; refine (upfail_any b p _ hp2).mono ?_; rintro e w3 ⟨rfl, rfl⟩; simp only [fault]))
 exact ⟨rfl, rfl, (hk1.trans hk2).mono (by simp)⟩
set_option maxRecDepth 100000 in
set_option maxHeartbeats 400000 in
theorem utake_end (b : Nat) (p : US) (fv : Value) (w : World) (hp : UB w b p) (hge : p.ix = p.s.size) :
    Calls Tryz.prog 218 #[.pointer (some ⟨b, 0, none⟩), fv] w fun e w' => e = fault p.ix ∧ Keeps [b] w w' := by
 go_enter Tryz.func218, Tryz.ntmps218
 go_wp2_with (first | (go_at_call 167; refine (upeek_none b p _ hp hge).mono ?_; rintro e w1 ⟨rfl, hp1, hk1⟩) | (go_at_call 168; refine (upfail_any b p _ hp1).mono ?_; rintro e w3 ⟨rfl, rfl⟩; simp only [fault]))
 exact ⟨rfl, rfl, hk1.mono (by simp)⟩
end Go.Proofs.YtnfojonmohijpaaGreatDoor
namespace Go.Proofs.YtnfojonmohijpaaGreatDoor
inductive NumL (s : ByteArray) (least : Nat) : Nat → Bool → Nat → R Nat → Prop
 | dig (n x : Nat) (any : Bool) (i : Nat) (q : R Nat) : digB (at' s i) = true → (x : Int) = 10 * n + (at' s i - 48) → x ≤ 5 → (x = 0 ∨ least ≤ x) → NumL s least x true (i + 1) q → NumL s least n any i q
 | big (n x : Nat) (any : Bool) (i : Nat) : digB (at' s i) = true → (x : Int) = 10 * n + (at' s i - 48) → ¬ (x ≤ 5 ∧ (x = 0 ∨ least ≤ x)) → NumL s least n any i (.bad i)
 | done (n i : Nat) : digB (at' s i) = false → least ≤ n → NumL s least n true i (.ok n i)
 | short (n : Nat) (any : Bool) (i : Nat) : digB (at' s i) = false → (any = false ∨ n < least) → NumL s least n any i (.bad i)
theorem NumL.det {s : ByteArray} {least n : Nat} {any : Bool} {i : Nat} {q q' : R Nat} (h : NumL s least n any i q) (h' : NumL s least n any i q') : q = q' := by
 induction h with
 | dig n x any i q hd hx h5 hl _ ih => cases h' with
  | dig _ x' _ _ _ hd' hx' h5' hl' hr =>
   have : x = x' := by omega
   subst this
   exact ih hr
  | big _ x' _ _ hd' hx' hn =>
   have : x = x' := by omega
   subst this
   exact absurd ⟨h5, hl⟩ hn
  | done _ _ hd' => rw [hd] at hd'; cases hd'
  | short _ _ _ hd' => rw [hd] at hd'; cases hd'
 | big n x any i hd hx hn => cases h' with
  | dig _ x' _ _ _ hd' hx' h5' hl' hr =>
   have : x = x' := by omega
   subst this
   exact absurd ⟨h5', hl'⟩ hn
  | big _ x' _ _ hd' hx' hn => rfl
  | done _ _ hd' => rw [hd] at hd'; cases hd'
  | short _ _ _ hd' => rfl
 | done n i hd hl => cases h' with
  | dig _ x' _ _ _ hd' => rw [hd] at hd'; cases hd'
  | big _ x' _ _ hd' => rw [hd] at hd'; cases hd'
  | done _ _ hd' => rfl
  | short _ _ _ hd' ho => (exfalso; simp at ho; omega)
 | short n any i hd ho => cases h' with
  | dig _ x' _ _ _ hd' => rw [hd] at hd'; cases hd'
  | big _ x' _ _ hd' => rfl
  | done _ _ hd' hl' => (exfalso; simp at ho; omega)
  | short _ _ _ hd' ho => rfl
theorem NumL.ok {s : ByteArray} {least n : Nat} {any : Bool} {i : Nat} {q : R Nat} (h : NumL s least n any i q) : ∀ m j, q = .ok m j → i ≤ j ∧ (i ≤ s.size → j ≤ s.size) ∧ (n ≤ 5 → m ≤ 5) ∧ (any = false → i < j) := by
 induction h with
 | dig n x any i q hd hx h5 hl _ ih =>
  intro m j e
  have := ih m j e
  have hnn : 0 ≤ at' s i := by simp [digB] at hd; omega
  have := at'_nn hnn
  omega
 | big => intro m j e; cases e
 | done n i hd hl => intro m j e; cases e; simp
 | short => intro m j e; cases e
end Go.Proofs.YtnfojonmohijpaaGreatDoor
