/-
  DERIVED. Contracts of the program's hexPair, escaped and inner, held against the plain functions of the texts Spec and SB. Conditions: the text is at most 60 bytes long, the place is within it, the least byte is one.
-/
import Derived.Test.YtnfojonmohijpaaGreatDoorJSpec
set_option linter.unusedSimpArgs false
set_option linter.unusedVariables false
namespace Go.Proofs.YtnfojonmohijpaaGreatDoor
open Go.RowKit
theorem cf_hp1 (args : Array Value) (w : World) : (callFunc 292 args).run Tryz.prog w = .ok (.enter 292 args) w := by kernel_rfl
theorem cf_hp2 (args : Array Value) (w : World) : (callFunc 293 args).run Tryz.prog w = .ok (.enter 293 args) w := by kernel_rfl
theorem cf_esc1 (args : Array Value) (w : World) : (callFunc 277 args).run Tryz.prog w = .ok (.enter 277 args) w := by kernel_rfl
theorem cf_inn1 (args : Array Value) (w : World) : (callFunc 300 args).run Tryz.prog w = .ok (.enter 300 args) w := by kernel_rfl
theorem keep_cell {w w' : World} (h : Keeps [] w w') {a : Addr} {v : Value} (hc : w.cell? a = some v) : w'.cell? a = some v :=
 (World.cell?_of_block (h.block a.block (World.block_lt_of_cell? w a hc) (by simp))).trans hc
theorem keep_cell_b {w w' : World} {b : Nat} (h : Keeps [b] w w') {a : Addr} {v : Value} (hb : a.block ≠ b) (hc : w.cell? a = some v) : w'.cell? a = some v :=
 (World.cell?_of_block (h.block a.block (World.block_lt_of_cell? w a hc) (by simpa using hb))).trans hc
def PPost (b : Nat) (p : QS) (w : World) (r : R Int) (e : Ending) (w' : World) : Prop :=
 Keeps [b] w w' ∧ match r with
  | .ok v j => e = .returned (.int .u8 v) ∧ QB w' b { p with ix := j }
  | .bad j => e = fault j
theorem may_hp1 {c l : Int} (h0 : 0 ≤ c) (h1 : c ≤ 255) {lb : Nat} {w : World} (hl : w.cell? ⟨lb, 0, none⟩ = some (.int .u8 l)) : May 292 #[.pointer (some ⟨lb, 0, none⟩)] c (decide (0 ≤ hexd c) && decide (l ≤ 16 * hexd c + 15)) w :=
 ⟨cf_hp1, fun w1 hk => (hp1_any c l h0 h1 lb w1 (keep_cell hk hl)).mono fun e w2 ⟨he, n, hw⟩ => ⟨he, by rw [hw]; exact (Keeps.refl _ _).drewN n⟩⟩
theorem may_hp2 {c l a : Int} (h0 : 0 ≤ c) (h1 : c ≤ 255) (ha0 : 0 ≤ a) (ha1 : a ≤ 15) {ab lb : Nat} {w : World} (hla : w.cell? ⟨ab, 0, none⟩ = some (.int .u8 a)) (hl : w.cell? ⟨lb, 0, none⟩ = some (.int .u8 l)) : May 293 #[.pointer (some ⟨ab, 0, none⟩), .pointer (some ⟨lb, 0, none⟩)] c (decide (0 ≤ hexd c) && decide (l ≤ 16 * a + hexd c)) w :=
 ⟨cf_hp2, fun w1 hk => (hp2_any c l a h0 h1 ha0 ha1 ab lb w1 (keep_cell hk hla) (keep_cell hk hl)).mono fun e w2 ⟨he, n, hw⟩ => ⟨he, by rw [hw]; exact (Keeps.refl _ _).drewN n⟩⟩
theorem may_esc1 {c l : Int} {lb : Nat} {w : World} (hl : w.cell? ⟨lb, 0, none⟩ = some (.int .u8 l)) : May 277 #[.pointer (some ⟨lb, 0, none⟩)] c (!alnB c && decide (l ≤ c)) w :=
 ⟨cf_esc1, fun w1 hk => (esc1_any c l lb w1 (keep_cell hk hl)).mono fun e w2 ⟨he, hw⟩ => ⟨he, by rw [hw]; exact Keeps.refl _ _⟩⟩
theorem may_inn1 {c l : Int} (h0 : 0 ≤ c) (h1 : c ≤ 255) {lb : Nat} {w : World} (hl : w.cell? ⟨lb, 0, none⟩ = some (.int .u8 l)) : May 300 #[.pointer (some ⟨lb, 0, none⟩)] c (!decide (c = 91 ∨ c = 93 ∨ c = 45 ∨ c = 94) && decide (l ≤ c)) w :=
 ⟨cf_inn1, fun w1 hk => (inn1_any c l h0 h1 lb w1 (keep_cell hk hl)).mono fun e w2 ⟨he, hw⟩ => ⟨he, by rw [hw]; exact Keeps.refl _ _⟩⟩
theorem take_may (b : Nat) (p : QS) (F : Nat) (caps : Array Value) (v : Bool) (w : World) (hp : QB w b p) (hs : p.s.size ≤ 60) (hle : p.ix ≤ p.s.size) (hm : 0 ≤ p.cur → May F caps p.cur v w) (r : R Int)
    (hr : r = if 0 ≤ p.cur ∧ v = true then .ok p.cur (p.ix + 1) else .bad p.ix) :
    Calls Tryz.prog 218 #[.pointer (some ⟨b, 0, none⟩), .func (.func F) #[] caps] w (PPost b p w r) := by
 subst hr
 by_cases hlt : p.ix < p.s.size
 ·have h0 : 0 ≤ p.cur := by show 0 ≤ at' p.s p.ix; rw [at'_lt hlt]; omega
  cases v
  ·rw [if_neg (by simp)]
   refine (take_bad b p F caps w hp hs hlt (hm h0)).mono ?_
   rintro e w' ⟨rfl, hk⟩
   exact ⟨hk, rfl⟩
  ·rw [if_pos ⟨h0, rfl⟩]
   refine (take_ok b p F caps w hp hs hlt (hm h0)).mono ?_
   rintro e w' ⟨rfl, hq, hk⟩
   exact ⟨hk, rfl, hq⟩
 ·have hge : p.ix = p.s.size := by omega
  have h0 : p.cur = -1 := at'_ge (by omega)
  rw [if_neg (by rw [h0]; omega)]
  refine (take_end b p _ w hp hge).mono ?_
  rintro e w' ⟨rfl, hk⟩
  exact ⟨hk, rfl⟩
theorem boxed (b : Nat) (p : QS) (l : Int) (w : World) (hp : QB w b p) : QB (w.alloc (.cells #[.int .u8 l] 5)) b p ∧ (w.alloc (.cells #[.int .u8 l] 5)).cell? ⟨w.heap.size, 0, none⟩ = some (.int .u8 l) ∧ Keeps [b] w (w.alloc (.cells #[.int .u8 l] 5)) ∧ w.heap.size ≠ b :=
 ⟨hp.keep ((Keeps.refl [] w).alloc _) (by simp), by simp, (Keeps.refl [b] w).alloc _, by have := hp.lt; omega⟩
theorem hexS_iff (s : ByteArray) (ahead : Int) (last : Bool) (least : Int) (i : Nat) (g : Int) (hg : g = if last then ahead + hexd (at' s i) else 16 * (ahead + hexd (at' s i)) + 15) :
    hexS s ahead last least i = (if 0 ≤ at' s i ∧ (decide (0 ≤ hexd (at' s i)) && decide (least ≤ g)) = true then .ok (hexd (at' s i)) (i + 1) else .bad i) := by
 unfold hexS
 rw [← hg]
 by_cases h : 0 ≤ hexd (at' s i) ∧ least ≤ g
 ·have hc : 0 ≤ at' s i := by
     by_cases hh : 0 ≤ at' s i
     ·exact hh
     ·exfalso
      have := h.1
      unfold hexd at this; rw [if_neg (by omega), if_neg (by omega)] at this; omega
  rw [if_neg (by omega), if_pos ⟨hc, by simp [h.1, h.2]⟩]
 ·rw [if_pos (by omega), if_neg (by rintro ⟨_, hh⟩; simp at hh; exact h hh)]
set_option maxRecDepth 100000 in
set_option maxHeartbeats 1000000 in
theorem hexPair_prog (b : Nat) (p : QS) (least : Int) (w : World) (hp : QB w b p) (hs : p.s.size ≤ 60) (hle : p.ix ≤ p.s.size) (hl0 : 0 ≤ least) (hl1 : least ≤ 255) :
    Calls Tryz.prog 276 #[.pointer (some ⟨b, 0, none⟩), .int .u8 least] w (PPost b p w (hexPS p.s least p.ix)) := by
 have hmf : ∀ (fn : Fn) (first cap : Array Value) (w : World), (Instr.makeFunc fn first cap).run Tryz.prog w = .ok (.func fn first cap) w := fun _ _ _ _ => rfl
 obtain ⟨hq0, hl, hk0, hne⟩ := boxed b p least w hp
 have hcb := at'_bd p.s p.ix
 have hcur : p.cur = at' p.s p.ix := rfl
 go_enter Tryz.func276, Tryz.ntmps276
 go_wp2_with fail
 generalize (w.alloc (.cells #[.int .u8 least] 5)) = W at *
 generalize w.heap.size = lb at *
 have r1 : hexS p.s 0 false least p.ix = (if 0 ≤ p.cur ∧ (decide (0 ≤ hexd p.cur) && decide (least ≤ 16 * hexd p.cur + 15)) = true then .ok (hexd p.cur) (p.ix + 1) else .bad p.ix) := by
  have := hexS_iff p.s 0 false least p.ix (16 * hexd (at' p.s p.ix) + 15) (by simp)
  exact this
 refine (take_may b p 292 _ _ W hq0 hs hle (fun h => may_hp1 h (by omega) hl) _ rfl).mono ?_
 rintro e w1 ⟨hk1, hc1⟩
 by_cases h1 : 0 ≤ p.cur ∧ (decide (0 ≤ hexd p.cur) && decide (least ≤ 16 * hexd p.cur + 15)) = true
 ·rw [if_pos h1] at hc1 r1
  obtain ⟨rfl, hq1⟩ := hc1
  have hx0 : 0 ≤ hexd p.cur := by have := h1.2; simp at this; exact this.1
  have hx1 := (hexd_bd p.cur).2
  have HV := hexValue_any p.cur h1.1 (by rw [hcur]; omega) hx0
  have hl1' := keep_cell_b hk1 hne hl
  generalize hexd p.cur = x at *
  clear hcur h1 hcb
  go_wp2_with (first | (go_at_call 220; refine (HV _).mono ?_; rintro e w1 ⟨rfl, rfl⟩))
  obtain ⟨hq2, hla, hk2, hne2⟩ := boxed b { p with ix := p.ix + 1 } x w1 hq1
  have hl2 := keep_cell ((Keeps.refl [] w1).alloc (.cells #[.int .u8 x] 5)) hl1'
  generalize (w1.alloc (.cells #[.int .u8 x] 5)) = W2 at *
  generalize w1.heap.size = ab at *
  have hle2 : p.ix + 1 ≤ p.s.size := by
   have := (hexS_ok r1).2.2.2.1
   exact this
  have hcb := at'_bd p.s (p.ix + 1)
  have r2 : hexS p.s (16 * x) true least (p.ix + 1) = (if 0 ≤ at' p.s (p.ix + 1) ∧ (decide (0 ≤ hexd (at' p.s (p.ix + 1))) && decide (least ≤ 16 * x + hexd (at' p.s (p.ix + 1)))) = true then .ok (hexd (at' p.s (p.ix + 1))) (p.ix + 2) else .bad (p.ix + 1)) :=
   hexS_iff p.s (16 * x) true least (p.ix + 1) (16 * x + hexd (at' p.s (p.ix + 1))) (by simp)
  have HP : hexPS p.s least p.ix = (hexS p.s (16 * x) true least (p.ix + 1)).bind fun b k => .ok (16 * x + b) k := by
   unfold hexPS; rw [r1]; rfl
  refine (take_may b { p with ix := p.ix + 1 } 293 _ _ W2 hq2 hs hle2 (fun h => may_hp2 h hcb.2 hx0 hx1 hla hl2) (if 0 ≤ at' p.s (p.ix + 1) ∧ (decide (0 ≤ hexd (at' p.s (p.ix + 1))) && decide (least ≤ 16 * x + hexd (at' p.s (p.ix + 1)))) = true then .ok (at' p.s (p.ix + 1)) (p.ix + 2) else .bad (p.ix + 1)) rfl).mono ?_
  rintro e w3 ⟨hk3, hc3⟩
  have hkk : Keeps [b] w w3 := ((hk0.trans hk1).trans hk2).trans hk3
  by_cases h2 : 0 ≤ at' p.s (p.ix + 1) ∧ (decide (0 ≤ hexd (at' p.s (p.ix + 1))) && decide (least ≤ 16 * x + hexd (at' p.s (p.ix + 1)))) = true
  ·rw [if_pos h2] at r2
   rw [if_pos h2] at hc3
   obtain ⟨rfl, hq3⟩ := hc3
   have hy0 : 0 ≤ hexd (at' p.s (p.ix + 1)) := by have := h2.2; simp at this; exact this.1
   have hy1 := (hexd_bd (at' p.s (p.ix + 1))).2
   have HV2 := hexValue_any (at' p.s (p.ix + 1)) h2.1 hcb.2 hy0
   have HF : Hid (hexPS p.s least p.ix = .ok (16 * x + hexd (at' p.s (p.ix + 1))) (p.ix + 2)) := by show hexPS p.s least p.ix = _; rw [HP, r2]; rfl
   have ho := or_hex x (hexd (at' p.s (p.ix + 1))) hx0 hx1 hy0 hy1
   have hla3 := keep_cell_b hk3 hne2 hla
   clear r1 r2 HP h2 hcb
   go_wp2_with (first | (go_at_call 220; refine (HV2 _).mono ?_; rintro e w3 ⟨rfl, rfl⟩))
   go_ret
   refine ⟨hkk, ?_⟩
   rw [HF.out]
   exact ⟨ret_int (by first | rfl | exact ho), hq3⟩
  ·rw [if_neg h2] at r2
   rw [if_neg h2] at hc3
   subst hc3
   simp only [fault]
   exact ⟨rfl, hkk, by rw [HP, r2]; rfl⟩
 ·rw [if_neg h1] at hc1 r1
  subst hc1
  simp only [fault]
  exact ⟨rfl, hk0.trans hk1, by unfold hexPS; rw [r1]; rfl⟩
end Go.Proofs.YtnfojonmohijpaaGreatDoor
namespace Go.Proofs.YtnfojonmohijpaaGreatDoor
open Go.RowKit
structure US where
 s : ByteArray
 ix : Nat
 op : Nat
def US.cells (p : US) : Array Value := #[.string p.s, .int .i64 p.ix, .int .i64 p.op]
def UB (w : World) (b : Nat) (p : US) : Prop := w.heap[b]? = some (.cells p.cells 232 (0, 0))
theorem UB.lt {w : World} {b : Nat} {p : US} (h : UB w b p) : b < w.heap.size := (Array.getElem?_eq_some_iff.1 h).1
theorem UB.keep {w w' : World} {b : Nat} {p : US} {S : List Nat} (h : UB w b p) (hk : Keeps S w w') (hb : b ∉ S) : UB w' b p := (hk.block b h.lt hb).trans h
theorem UB.drewN {w : World} {b : Nat} {p : US} (h : UB w b p) (n : Nat) : UB (w.drewN n) b p := h
theorem UB.main {w : World} {b : Nat} {p : US} (h : UB w b p) :
    w.cell? ⟨b, 0, none⟩ = some (.string p.s) ∧ w.cell? ⟨b, 1, none⟩ = some (.int .i64 p.ix) ∧ w.cell? ⟨b, 2, none⟩ = some (.int .i64 p.op) ∧
    w.frozen? ⟨b, 1, none⟩ = false ∧ w.frozen? ⟨b, 2, none⟩ = false := by
 unfold UB at h
 simp [World.cell?, World.frozen?, h, US.cells]
theorem UB.setIx {w : World} {b : Nat} {p : US} (h : UB w b p) (x : Nat) : UB (w.setCell ⟨b, 1, none⟩ (.int .i64 x)) b { p with ix := x } := by
 unfold UB at *
 simp [World.setCell, Array.getElem?_modify, h, US.cells]
theorem UB.setOp {w : World} {b : Nat} {p : US} (h : UB w b p) (x : Nat) : UB (w.setCell ⟨b, 2, none⟩ (.int .i64 x)) b { p with op := x } := by
 unfold UB at *
 simp [World.setCell, Array.getElem?_modify, h, US.cells]
def US.cur (p : US) : Int := at' p.s p.ix
set_option maxHeartbeats 400000 in
theorem upeek_some (b : Nat) (p : US) (w : World) (hp : UB w b p) (hlt : p.ix < p.s.size) (hs : p.s.size ≤ 20000) :
    Calls Tryz.prog 167 #[.pointer (some ⟨b, 0, none⟩)] w fun e w' => e = .returned (.tuple #[.int .u8 p.cur, .bool true]) ∧ UB w' b p ∧ Keeps [] w w' := by
 obtain ⟨c0, c1, _, f1, _⟩ := hp.main
 have hki : (p.ix : Int) < (p.s.size : Int) := by omega
 have hk0 : (0 : Int) ≤ (p.ix : Int) := by omega
 have hne : ((p.ix : Int) == (p.s.size : Int)) = false := by simpa using (by omega : ¬ (p.ix : Int) = (p.s.size : Int))
 have HC : Hid (p.cur = (p.s[p.ix].toNat : Int)) := at'_lt hlt
 go_enter Tryz.func167, Tryz.ntmps167
 go_wp2_with fail
 go_quiet (fail)
 go_wp2_with fail
 go_quiet (fail)
 go_wp2_with fail
 go_ret2
 exact ⟨by rw [HC.out]; rfl, (hp.drewN _).drewN _, ((Keeps.refl _ _).drewN _).drewN _⟩
set_option maxHeartbeats 400000 in
theorem upeek_none (b : Nat) (p : US) (w : World) (hp : UB w b p) (hge : p.ix = p.s.size) :
    Calls Tryz.prog 167 #[.pointer (some ⟨b, 0, none⟩)] w fun e w' => e = .returned (.tuple #[.int .u8 0, .bool false]) ∧ UB w' b p ∧ Keeps [] w w' := by
 obtain ⟨c0, c1, _, f1, _⟩ := hp.main
 have hne : ((p.ix : Int) == (p.s.size : Int)) = true := by simpa using (by omega : (p.ix : Int) = (p.s.size : Int))
 clear hge
 go_enter Tryz.func167, Tryz.ntmps167
 go_wp2_with fail
 go_quiet (fail)
 go_wp2_with fail
 go_ret2
 exact ⟨rfl, (hp.drewN _), (Keeps.refl _ _).drewN _⟩
set_option maxHeartbeats 400000 in
theorem uahead_any (b : Nat) (p : US) (c : Int) (hc : 0 ≤ c) (w : World) (hp : UB w b p) (hle : p.ix ≤ p.s.size) (hs : p.s.size ≤ 20000) :
    Calls Tryz.prog 165 #[.pointer (some ⟨b, 0, none⟩), .int .u8 c] w fun e w' => e = .returned (.bool (decide (p.cur = c))) ∧ UB w' b p ∧ Keeps [] w w' := by
 by_cases hlt : p.ix < p.s.size
 ·go_enter Tryz.func165, Tryz.ntmps165
  go_wp2_with (first | (go_at_call 167; refine (upeek_some b p _ hp hlt hs).mono ?_; rintro e w1 ⟨rfl, hp1, hk1⟩))
  go_ret
  exact ⟨by simp [BEq.beq], hp1, hk1⟩
 ·have hge : p.ix = p.s.size := by omega
  have HC : Hid (p.cur = -1) := at'_ge (by omega)
  go_enter Tryz.func165, Tryz.ntmps165
  go_wp2_with (first | (go_at_call 167; refine (upeek_none b p _ hp hge).mono ?_; rintro e w1 ⟨rfl, hp1, hk1⟩))
  go_ret
  exact ⟨by rw [HC.out]; simp; omega, hp1, hk1⟩
def US.took (p : US) (c : Int) : US := if p.cur = c then { p with ix := p.ix + 1 } else p
set_option maxHeartbeats 400000 in
theorem uskip_any (b : Nat) (p : US) (c : Int) (hc : 0 ≤ c) (w : World) (hp : UB w b p) (hle : p.ix ≤ p.s.size) (hs : p.s.size ≤ 20000) :
    Calls Tryz.prog 116 #[.pointer (some ⟨b, 0, none⟩), .int .u8 c] w fun e w' => e = .returned (.bool (decide (p.cur = c))) ∧ UB w' b (p.took c) ∧ Keeps [b] w w' := by
 by_cases h : p.cur = c
 ·have hd : decide (p.cur = c) = true := by simpa using h
  have H : Hid (p.cur = c) := h
  have hlt : p.ix < p.s.size := at'_nn (by show 0 ≤ p.cur; omega)
  have hb1 : (0 : Int) ≤ (p.ix : Int) := by omega
  have hb2 : (p.ix : Int) ≤ 20000 := by omega
  clear h
  go_enter Tryz.func116, Tryz.ntmps116
  go_wp2_with (first | (go_at_call 165; refine (uahead_any b p c hc _ hp hle hs).mono ?_; rintro e w1 ⟨rfl, hp1, hk1⟩; obtain ⟨c0, c1, _, f1, _⟩ := hp1.main))
  go_ret
  exact ⟨by simp [hd], by simp only [US.took, H.out, if_true]; exact hp1.setIx (p.ix + 1), (hk1.mono (by simp)).setCell (by simp) _⟩
 ·have hd : decide (p.cur = c) = false := by simpa using h
  have H : Hid (¬ p.cur = c) := h
  clear h
  go_enter Tryz.func116, Tryz.ntmps116
  go_wp2_with (first | (go_at_call 165; refine (uahead_any b p c hc _ hp hle hs).mono ?_; rintro e w1 ⟨rfl, hp1, hk1⟩))
  go_ret
  exact ⟨by simp [hd], by simp only [US.took, H.out, if_false]; exact hp1, hk1.mono (by simp)⟩
set_option maxHeartbeats 400000 in
theorem upfail_any (b : Nat) (p : US) (w : World) (hp : UB w b p) :
    Calls Tryz.prog 168 #[.pointer (some ⟨b, 0, none⟩)] w fun e w' => e = fault p.ix ∧ w' = w := by
 obtain ⟨c0, c1, _, f1, _⟩ := hp.main
 go_enter Tryz.func168, Tryz.ntmps168
 go_wp2_with fail
 exact ⟨rfl, rfl, rfl⟩
set_option maxHeartbeats 400000 in
theorem uexpect_ok (b : Nat) (p : US) (c : Int) (hc : 0 ≤ c) (w : World) (hp : UB w b p) (hs : p.s.size ≤ 20000) (h : p.cur = c) :
    Calls Tryz.prog 221 #[.pointer (some ⟨b, 0, none⟩), .int .u8 c] w fun e w' => e = .returned (.tuple #[]) ∧ UB w' b { p with ix := p.ix + 1 } ∧ Keeps [b] w w' := by
 have hlt : p.ix < p.s.size := at'_nn (by show 0 ≤ p.cur; omega)
 have hd : decide (p.cur = c) = true := by simpa using h
 have htk : p.took c = { p with ix := p.ix + 1 } := by unfold US.took; rw [if_pos h]
 clear h
 go_enter Tryz.func221, Tryz.ntmps221
 go_wp2_with (first | (go_at_call 116; refine (uskip_any b p c hc _ hp (Nat.le_of_lt hlt) hs).mono ?_; rintro e w1 ⟨rfl, hp1, hk1⟩; rw [htk] at hp1))
 go_end0
 exact ⟨rfl, hp1, hk1⟩
set_option maxHeartbeats 400000 in
theorem uexpect_bad (b : Nat) (p : US) (c : Int) (hc : 0 ≤ c) (w : World) (hp : UB w b p) (hle : p.ix ≤ p.s.size) (hs : p.s.size ≤ 20000) (h : p.cur ≠ c) :
    Calls Tryz.prog 221 #[.pointer (some ⟨b, 0, none⟩), .int .u8 c] w fun e w' => e = fault p.ix ∧ Keeps [b] w w' := by
 have hd : decide (p.cur = c) = false := by simpa using h
 have htk : p.took c = p := by unfold US.took; rw [if_neg h]
 clear h
 go_enter Tryz.func221, Tryz.ntmps221
 go_wp2_with (first | (go_at_call 168; refine (upfail_any b p _ hp1).mono ?_; rintro e w2 ⟨rfl, rfl⟩; simp only [fault]) | (go_at_call 116; refine (uskip_any b p c hc _ hp hle hs).mono ?_; rintro e w1 ⟨rfl, hp1, hk1⟩; rw [htk] at hp1))
 exact ⟨rfl, rfl, hk1⟩
set_option maxHeartbeats 400000 in
theorem uend_ok (b : Nat) (p : US) (w : World) (hp : UB w b p) (h : p.ix = p.s.size) :
    Calls Tryz.prog 118 #[.pointer (some ⟨b, 0, none⟩)] w fun e w' => e = .returned (.tuple #[]) ∧ UB w' b p ∧ Keeps [] w w' := by
 go_enter Tryz.func118, Tryz.ntmps118
 go_wp2_with (first | (go_at_call 167; refine (upeek_none b p _ hp h).mono ?_; rintro e w1 ⟨rfl, hp1, hk1⟩))
 go_end0
 exact ⟨rfl, hp1, hk1⟩
set_option maxHeartbeats 400000 in
theorem uend_bad (b : Nat) (p : US) (w : World) (hp : UB w b p) (h : p.ix < p.s.size) (hs : p.s.size ≤ 20000) :
    Calls Tryz.prog 118 #[.pointer (some ⟨b, 0, none⟩)] w fun e w' => e = fault p.ix ∧ Keeps [] w w' := by
 go_enter Tryz.func118, Tryz.ntmps118
 go_wp2_with (first | (go_at_call 167; refine (upeek_some b p _ hp h hs).mono ?_; rintro e w1 ⟨rfl, hp1, hk1⟩) | (go_at_call 168; refine (upfail_any b p _ hp1).mono ?_; rintro e w2 ⟨rfl, rfl⟩; simp only [fault]))
 exact ⟨rfl, rfl, hk1⟩
set_option maxRecDepth 100000 in
set_option maxHeartbeats 400000 in
theorem utake_ok (b : Nat) (p : US) (F : Nat) (caps : Array Value) (w : World) (hp : UB w b p) (hs : p.s.size ≤ 20000) (hlt : p.ix < p.s.size) (hm : May F caps p.cur true w) :
    Calls Tryz.prog 218 #[.pointer (some ⟨b, 0, none⟩), .func (.func F) #[] caps] w fun e w' => e = .returned (.int .u8 p.cur) ∧ UB w' b { p with ix := p.ix + 1 } ∧ Keeps [b] w w' := by
 have hb1 : (0 : Int) ≤ (p.ix : Int) := by omega
 have hb2 : (p.ix : Int) ≤ 20000 := by omega
 obtain ⟨hcf, hcall⟩ := hm
 go_enter Tryz.func218, Tryz.ntmps218
 go_wp2_with (first | (go_at_call 167; refine (upeek_some b p _ hp hlt hs).mono ?_; rintro e w1 ⟨rfl, hp1, hk1⟩))
 refine (hcall _ hk1).mono ?_
 rintro e w2 ⟨rfl, hk2⟩
 have hp2 := hp1.keep hk2 (by simp)
 obtain ⟨c0, c1, _, f1, _⟩ := hp2.main
 go_wp2_with fail
 go_ret
 exact ⟨rfl, hp2.setIx (p.ix + 1), ((hk1.trans hk2).mono (by simp)).setCell (by simp) _⟩
set_option maxRecDepth 100000 in
set_option maxHeartbeats 400000 in
theorem utake_bad (b : Nat) (p : US) (F : Nat) (caps : Array Value) (w : World) (hp : UB w b p) (hs : p.s.size ≤ 20000) (hlt : p.ix < p.s.size) (hm : May F caps p.cur false w) :
    Calls Tryz.prog 218 #[.pointer (some ⟨b, 0, none⟩), .func (.func F) #[] caps] w fun e w' => e = fault p.ix ∧ Keeps [b] w w' := by
 obtain ⟨hcf, hcall⟩ := hm
 go_enter Tryz.func218, Tryz.ntmps218
 go_wp2_with (first | (go_at_call 167; refine (upeek_some b p _ hp hlt hs).mono ?_; rintro e w1 ⟨rfl, hp1, hk1⟩))
 refine (hcall _ hk1).mono ?_
 rintro e w2 ⟨rfl, hk2⟩
 have hp2 := hp1.keep hk2 (by simp)
 go_wp2_with (first | (go_at_call 168; refine (upfail_any b p _ hp2).mono ?_; rintro e w3 ⟨rfl, rfl⟩; simp only [fault]))
 exact ⟨rfl, rfl, (hk1.trans hk2).mono (by simp)⟩
set_option maxRecDepth 100000 in
set_option maxHeartbeats 400000 in
theorem utake_end (b : Nat) (p : US) (fv : Value) (w : World) (hp : UB w b p) (hge : p.ix = p.s.size) :
    Calls Tryz.prog 218 #[.pointer (some ⟨b, 0, none⟩), fv] w fun e w' => e = fault p.ix ∧ Keeps [b] w w' := by
 go_enter Tryz.func218, Tryz.ntmps218
 go_wp2_with (first | (go_at_call 167; refine (upeek_none b p _ hp hge).mono ?_; rintro e w1 ⟨rfl, hp1, hk1⟩) | (go_at_call 168; refine (upfail_any b p _ hp1).mono ?_; rintro e w3 ⟨rfl, rfl⟩; simp only [fault]))
 exact ⟨rfl, rfl, hk1.mono (by simp)⟩
end Go.Proofs.YtnfojonmohijpaaGreatDoor
namespace Go.Proofs.YtnfojonmohijpaaGreatDoor
inductive NumL (s : ByteArray) (least : Nat) : Nat → Bool → Nat → R Nat → Prop
 | dig (n x : Nat) (any : Bool) (i : Nat) (q : R Nat) : digB (at' s i) = true → (x : Int) = 10 * n + (at' s i - 48) → x ≤ 5 → (x = 0 ∨ least ≤ x) → NumL s least x true (i + 1) q → NumL s least n any i q
 | big (n x : Nat) (any : Bool) (i : Nat) : digB (at' s i) = true → (x : Int) = 10 * n + (at' s i - 48) → ¬ (x ≤ 5 ∧ (x = 0 ∨ least ≤ x)) → NumL s least n any i (.bad i)
 | done (n i : Nat) : digB (at' s i) = false → least ≤ n → NumL s least n true i (.ok n i)
 | short (n : Nat) (any : Bool) (i : Nat) : digB (at' s i) = false → (any = false ∨ n < least) → NumL s least n any i (.bad i)
theorem NumL.det {s : ByteArray} {least n : Nat} {any : Bool} {i : Nat} {q q' : R Nat} (h : NumL s least n any i q) (h' : NumL s least n any i q') : q = q' := by
 induction h with
 | dig n x any i q hd hx h5 hl _ ih => cases h' with
  | dig _ x' _ _ _ hd' hx' h5' hl' hr =>
   have : x = x' := by omega
   subst this
   exact ih hr
  | big _ x' _ _ hd' hx' hn =>
   have : x = x' := by omega
   subst this
   exact absurd ⟨h5, hl⟩ hn
  | done _ _ hd' => rw [hd] at hd'; cases hd'
  | short _ _ _ hd' => rw [hd] at hd'; cases hd'
 | big n x any i hd hx hn => cases h' with
  | dig _ x' _ _ _ hd' hx' h5' hl' hr =>
   have : x = x' := by omega
   subst this
   exact absurd ⟨h5', hl'⟩ hn
  | big _ x' _ _ hd' hx' hn => rfl
  | done _ _ hd' => rw [hd] at hd'; cases hd'
  | short _ _ _ hd' => rfl
 | done n i hd hl => cases h' with
  | dig _ x' _ _ _ hd' => rw [hd] at hd'; cases hd'
  | big _ x' _ _ hd' => rw [hd] at hd'; cases hd'
  | done _ _ hd' => rfl
  | short _ _ _ hd' ho => (exfalso; simp at ho; omega)
 | short n any i hd ho => cases h' with
  | dig _ x' _ _ _ hd' => rw [hd] at hd'; cases hd'
  | big _ x' _ _ hd' => rfl
  | done _ _ hd' hl' => (exfalso; simp at ho; omega)
  | short _ _ _ hd' ho => rfl
theorem NumL.ok {s : ByteArray} {least n : Nat} {any : Bool} {i : Nat} {q : R Nat} (h : NumL s least n any i q) : ∀ m j, q = .ok m j → i ≤ j ∧ (i ≤ s.size → j ≤ s.size) ∧ (n ≤ 5 → m ≤ 5) ∧ (any = false → i < j) := by
 induction h with
 | dig n x any i q hd hx h5 hl _ ih =>
  intro m j e
  have := ih m j e
  have hnn : 0 ≤ at' s i := by simp [digB] at hd; omega
  have := at'_nn hnn
  omega
 | big => intro m j e; cases e
 | done n i hd hl => intro m j e; cases e; simp
 | short => intro m j e; cases e
end Go.Proofs.YtnfojonmohijpaaGreatDoor
namespace Go.Proofs.YtnfojonmohijpaaGreatDoor
inductive Pat where
 | set (f : Nat → Bool)
 | grp (k : Nat) (x : Pat)
 | rep (mn : Nat) (mx : Int) (x : Pat)
 | pnil
 | pcons (x r : Pat)
 | wone (x : Pat)
 | wcons (x r : Pat)
def Rep3 (s : ByteArray) (m : Nat) (q2 : R Nat) (q : R (Option (Nat × Int))) : Prop :=
 match q2 with
 | .bad l => q = .bad l
 | .ok n l => q = if at' s l = 125 then .ok (some (m, (n : Int))) (l + 1) else .bad l
def Rep2 (s : ByteArray) (q1 : R Nat) (q : R (Option (Nat × Int))) : Prop :=
 match q1 with
 | .bad k => q = .bad k
 | .ok m k => (at' s k = 44 ∧ at' s (k + 1) = 125 ∧ q = .ok (some (m, -1)) (k + 2)) ∨ (at' s k = 44 ∧ at' s (k + 1) ≠ 125 ∧ ∃ q2, NumL s m 0 false (k + 1) q2 ∧ Rep3 s m q2 q) ∨
     (at' s k ≠ 44 ∧ q = if at' s k = 125 then .ok (some (m, (m : Int))) (k + 1) else .bad k)
def RepR (s : ByteArray) (j : Nat) (q : R (Option (Nat × Int))) : Prop :=
 (at' s j ≠ 42 ∧ at' s j ≠ 43 ∧ at' s j ≠ 63 ∧ at' s j ≠ 123 ∧ q = .ok none j) ∨ (at' s j = 42 ∧ q = .ok (some (0, -1)) (j + 1)) ∨ (at' s j = 43 ∧ q = .ok (some (1, -1)) (j + 1)) ∨
 (at' s j = 63 ∧ q = .ok (some (0, 1)) (j + 1)) ∨ (at' s j = 123 ∧ ∃ q1, NumL s 0 0 false (j + 1) q1 ∧ Rep2 s q1 q)
theorem Rep3.det {s : ByteArray} {m : Nat} {q2 : R Nat} {q q' : R (Option (Nat × Int))} (h : Rep3 s m q2 q) (h' : Rep3 s m q2 q') : q = q' := by
 cases q2 <;> exact h.trans h'.symm
theorem Rep2.det {s : ByteArray} {q1 : R Nat} {q q' : R (Option (Nat × Int))} (h : Rep2 s q1 q) (h' : Rep2 s q1 q') : q = q' := by
 cases q1 with
 | bad k => exact h.trans h'.symm
 | ok m k =>
  rcases h with ⟨a, b, e⟩ | ⟨a, b, q2, n, e⟩ | ⟨a, e⟩ <;> rcases h' with ⟨a', b', e'⟩ | ⟨a', b', q2', n', e'⟩ | ⟨a', e'⟩
  ·exact e.trans e'.symm
  ·exact absurd b b'
  ·exact absurd a a'
  ·exact absurd b' b
  ·have := n.det n'
   subst this
   exact e.det e'
  ·exact absurd a a'
  ·exact absurd a' a
  ·exact absurd a' a
  ·exact e.trans e'.symm
theorem RepR.det {s : ByteArray} {j : Nat} {q q' : R (Option (Nat × Int))} (h : RepR s j q) (h' : RepR s j q') : q = q' := by
 rcases h with ⟨a, b, c, d, e⟩ | ⟨a, e⟩ | ⟨a, e⟩ | ⟨a, e⟩ | ⟨a, q1, n, e⟩ <;> rcases h' with ⟨a', b', c', d', e'⟩ | ⟨a', e'⟩ | ⟨a', e'⟩ | ⟨a', e'⟩ | ⟨a', q1', n', e'⟩
 all_goals first
  | exact e.trans e'.symm
  | (exfalso; omega)
  | skip
 have := n.det n'
 subst this
 exact e.det e'
theorem RepR.ok {s : ByteArray} {j k : Nat} {o : Option (Nat × Int)} (h : RepR s j (.ok o k)) : j ≤ k ∧ (j ≤ s.size → k ≤ s.size) := by
 have A : ∀ i, 0 ≤ at' s i → i < s.size := fun i hi => at'_nn hi
 rcases h with ⟨a, b, c, d, e⟩ | ⟨a, e⟩ | ⟨a, e⟩ | ⟨a, e⟩ | ⟨a, q1, n, e⟩
 ·cases e; simp
 ·cases e; have := A j (by omega); omega
 ·cases e; have := A j (by omega); omega
 ·cases e; have := A j (by omega); omega
 ·have hj := A j (by omega)
  cases q1 with
  | bad l => cases e
  | ok m l =>
   have hl := n.ok m l rfl
   rcases e with ⟨a, b, e⟩ | ⟨a, b, q2, n', e⟩ | ⟨a, e⟩
   ·cases e; have := A (l + 1) (by omega); omega
   ·cases q2 with
    | bad x => cases e
    | ok y x =>
     have hx := n'.ok y x rfl
     have hl2 := A l (by omega)
     simp only [Rep3] at e
     by_cases h5 : at' s x = 125
     ·rw [if_pos h5] at e; cases e; have := A x (by omega); omega
     ·rw [if_neg h5] at e; cases e
   ·by_cases h5 : at' s l = 125
    ·rw [if_pos h5] at e; cases e; have := A l (by omega); omega
    ·rw [if_neg h5] at e; cases e
inductive Kd where
 | ways | way | piece | single
def stopC (c : Int) : Prop := c < 0 ∨ c = 124 ∨ c = 41 ∨ c = 36
def notC (c : Int) : Prop := c = 94 ∨ c = 36 ∨ c = 124 ∨ c = 41 ∨ c = 42 ∨ c = 43 ∨ c = 63 ∨ c = 123
def withRep (x : Pat) : Option (Nat × Int) → Pat
 | none => x
 | some (mn, mx) => .rep mn mx x
inductive G (s : ByteArray) : Kd → Nat → Nat → Nat → R (Pat × Nat) → Prop
 | one (d g i g1 j : Nat) (x : Pat) : G s .way d g i (.ok (x, g1) j) → at' s j ≠ 124 → G s .ways d g i (.ok (.wone x, g1) j)
 | more (d g i g1 j : Nat) (x : Pat) (q : R (Pat × Nat)) : G s .way d g i (.ok (x, g1) j) → at' s j = 124 → G s .ways d g1 (j + 1) q → G s .ways d g i (q.map fun y => (.wcons x y.1, y.2))
 | wbad (d g i j : Nat) : G s .way d g i (.bad j) → G s .ways d g i (.bad j)
 | nil (d g i : Nat) : stopC (at' s i) → G s .way d g i (.ok (.pnil, g) i)
 | cons (d g i g1 j : Nat) (x : Pat) (q : R (Pat × Nat)) : ¬ stopC (at' s i) → G s .piece d g i (.ok (x, g1) j) → G s .way d g1 j q → G s .way d g i (q.map fun y => (.pcons x y.1, y.2))
 | pbad (d g i j : Nat) : ¬ stopC (at' s i) → G s .piece d g i (.bad j) → G s .way d g i (.bad j)
 | rep (d g i g1 j : Nat) (x : Pat) (q : R (Option (Nat × Int))) : G s .single d g i (.ok (x, g1) j) → RepR s j q → G s .piece d g i (q.map fun o => (withRep x o, g1))
 | sbad (d g i j : Nat) : G s .single d g i (.bad j) → G s .piece d g i (.bad j)
 | deep (d g i : Nat) : at' s i = 40 → (d = 6 ∨ g = 9) → G s .single d g i (.bad i)
 | grp (d g i g1 j : Nat) (x : Pat) : at' s i = 40 → ¬ (d = 6 ∨ g = 9) → G s .ways (d + 1) (g + 1) (i + 1) (.ok (x, g1) j) → at' s j = 41 → G s .single d g i (.ok (.grp (g + 1) x, g1) (j + 1))
 | gopen (d g i g1 j : Nat) (x : Pat) : at' s i = 40 → ¬ (d = 6 ∨ g = 9) → G s .ways (d + 1) (g + 1) (i + 1) (.ok (x, g1) j) → at' s j ≠ 41 → G s .single d g i (.bad j)
 | gbad (d g i j : Nat) : at' s i = 40 → ¬ (d = 6 ∨ g = 9) → G s .ways (d + 1) (g + 1) (i + 1) (.bad j) → G s .single d g i (.bad j)
 | set (d g i : Nat) (q : R (Nat → Bool)) : at' s i = 91 → SetR s (i + 1) q → G s .single d g i (q.map fun f => (.set f, g))
 | dot (d g i : Nat) : at' s i = 46 → G s .single d g i (.ok (.set fun _ => true, g) (i + 1))
 | esc (d g i : Nat) : at' s i = 92 → G s .single d g i ((escS s 0 (i + 1)).map fun a => (.set (stretch a a), g))
 | no (d g i : Nat) : notC (at' s i) → G s .single d g i (.bad i)
 | lit (d g i : Nat) : 0 ≤ at' s i → at' s i ≠ 40 → at' s i ≠ 91 → at' s i ≠ 46 → at' s i ≠ 92 → ¬ notC (at' s i) → G s .single d g i (.ok (.set (stretch (at' s i) (at' s i)), g) (i + 1))
theorem G.det {s : ByteArray} {k : Kd} {d g i : Nat} {q : R (Pat × Nat)} (h : G s k d g i q) : ∀ q', G s k d g i q' → q = q' := by
 induction h with
 | one d g i g1 j x _ e ih =>
  intro q' h'
  cases h' with
  | one _ _ _ g1' j' x' a b => have := ih _ a; injection this with t u; cases t; cases u; rfl
  | more _ _ _ g1' j' x' _ a b => have := ih _ a; injection this with t u; cases t; cases u; exact absurd b e
  | wbad _ _ _ j' a => have := ih _ a; cases this
 | more d g i g1 j x q _ e _ ih ih2 =>
  intro q' h'
  cases h' with
  | one _ _ _ g1' j' x' a b => have := ih _ a; injection this with t u; cases t; cases u; exact absurd e b
  | more _ _ _ g1' j' x' _ a b c => have := ih _ a; injection this with t u; cases t; cases u; rw [ih2 _ c]
  | wbad _ _ _ j' a => have := ih _ a; cases this
 | wbad d g i j _ ih =>
  intro q' h'
  cases h' with
  | one _ _ _ g1' j' x' a b => have := ih _ a; cases this
  | more _ _ _ g1' j' x' _ a b => have := ih _ a; cases this
  | wbad _ _ _ j' a => have := ih _ a; cases this; rfl
 | nil d g i e =>
  intro q' h'
  cases h' with
  | nil => rfl
  | cons _ _ _ _ _ _ _ a => exact absurd e a
  | pbad _ _ _ _ a => exact absurd e a
 | cons d g i g1 j x q e _ _ ih ih2 =>
  intro q' h'
  cases h' with
  | nil _ _ _ a => exact absurd a e
  | cons _ _ _ _ _ _ _ a b c => have := ih _ b; injection this with t u; cases t; cases u; rw [ih2 _ c]
  | pbad _ _ _ _ a b => have := ih _ b; cases this
 | pbad d g i j e _ ih =>
  intro q' h'
  cases h' with
  | nil _ _ _ a => exact absurd a e
  | cons _ _ _ _ _ _ _ a b c => have := ih _ b; cases this
  | pbad _ _ _ _ a b => have := ih _ b; cases this; rfl
 | rep d g i g1 j x q _ r ih =>
  intro q' h'
  cases h' with
  | rep _ _ _ _ _ _ _ a b => have := ih _ a; injection this with t u; cases t; cases u; rw [r.det b]
  | sbad _ _ _ _ a => have := ih _ a; cases this
 | sbad d g i j _ ih =>
  intro q' h'
  cases h' with
  | rep _ _ _ _ _ _ _ a b => have := ih _ a; cases this
  | sbad _ _ _ _ a => have := ih _ a; cases this; rfl
 | deep d g i e o =>
  intro q' h'
  cases h' with
  | deep => rfl
  | grp _ _ _ _ _ _ _ a => exact absurd o a
  | gopen _ _ _ _ _ _ _ a => exact absurd o a
  | gbad _ _ _ _ _ a => exact absurd o a
  | set _ _ _ _ a => omega
  | dot _ _ _ a => omega
  | esc _ _ _ a => omega
  | no => rfl
  | lit _ _ _ _ a => omega
 | grp d g i g1 j x e o _ c ih =>
  intro q' h'
  cases h' with
  | deep _ _ _ _ a => exact absurd a o
  | grp _ _ _ _ _ _ _ _ a b => have := ih _ a; injection this with t u; cases t; cases u; rfl
  | gopen _ _ _ _ _ _ _ _ a b => have := ih _ a; injection this with t u; cases t; cases u; exact absurd c b
  | gbad _ _ _ _ _ _ a => have := ih _ a; cases this
  | set _ _ _ _ a => omega
  | dot _ _ _ a => omega
  | esc _ _ _ a => omega
  | no _ _ _ a => unfold notC at a; omega
  | lit _ _ _ _ a => omega
 | gopen d g i g1 j x e o _ c ih =>
  intro q' h'
  cases h' with
  | deep _ _ _ _ a => exact absurd a o
  | grp _ _ _ _ _ _ _ _ a b => have := ih _ a; injection this with t u; cases t; cases u; exact absurd b c
  | gopen _ _ _ _ _ _ _ _ a b => have := ih _ a; injection this with t u; cases t; cases u; rfl
  | gbad _ _ _ _ _ _ a => have := ih _ a; cases this
  | set _ _ _ _ a => omega
  | dot _ _ _ a => omega
  | esc _ _ _ a => omega
  | no _ _ _ a => unfold notC at a; omega
  | lit _ _ _ _ a => omega
 | gbad d g i j e o _ ih =>
  intro q' h'
  cases h' with
  | deep _ _ _ _ a => exact absurd a o
  | grp _ _ _ _ _ _ _ _ a b => have := ih _ a; cases this
  | gopen _ _ _ _ _ _ _ _ a b => have := ih _ a; cases this
  | gbad _ _ _ _ _ _ a => have := ih _ a; cases this; rfl
  | set _ _ _ _ a => omega
  | dot _ _ _ a => omega
  | esc _ _ _ a => omega
  | no _ _ _ a => unfold notC at a; omega
  | lit _ _ _ _ a => omega
 | set d g i q e r =>
  intro q' h'
  cases h' with
  | deep _ _ _ a => omega
  | grp _ _ _ _ _ _ a => omega
  | gopen _ _ _ _ _ _ a => omega
  | gbad _ _ _ _ a => omega
  | set _ _ _ _ a b => rw [r.det b]
  | dot _ _ _ a => omega
  | esc _ _ _ a => omega
  | no _ _ _ a => unfold notC at a; omega
  | lit _ _ _ _ a b => omega
 | dot d g i e =>
  intro q' h'
  cases h' with
  | deep _ _ _ a => omega
  | grp _ _ _ _ _ _ a => omega
  | gopen _ _ _ _ _ _ a => omega
  | gbad _ _ _ _ a => omega
  | set _ _ _ _ a b => omega
  | dot _ _ _ a => rfl
  | esc _ _ _ a => omega
  | no _ _ _ a => unfold notC at a; omega
  | lit _ _ _ _ a b c => omega
 | esc d g i e =>
  intro q' h'
  cases h' with
  | deep _ _ _ a => omega
  | grp _ _ _ _ _ _ a => omega
  | gopen _ _ _ _ _ _ a => omega
  | gbad _ _ _ _ a => omega
  | set _ _ _ _ a b => omega
  | dot _ _ _ a => omega
  | esc _ _ _ a => rfl
  | no _ _ _ a => unfold notC at a; omega
  | lit _ _ _ _ a b c d => omega
 | no d g i e =>
  intro q' h'
  unfold notC at e
  cases h' with
  | deep => rfl
  | grp _ _ _ _ _ _ a => omega
  | gopen _ _ _ _ _ _ a => omega
  | gbad _ _ _ _ a => omega
  | set _ _ _ _ a b => omega
  | dot _ _ _ a => omega
  | esc _ _ _ a => omega
  | no _ _ _ a => rfl
  | lit _ _ _ _ a b c d f => exact absurd e f
 | lit d g i a b c d' e f =>
  intro q' h'
  cases h' with
  | deep _ _ _ a => omega
  | grp _ _ _ _ _ _ a => omega
  | gopen _ _ _ _ _ _ a => omega
  | gbad _ _ _ _ a => omega
  | set _ _ _ _ a b => omega
  | dot _ _ _ a => omega
  | esc _ _ _ a => omega
  | no _ _ _ a => exact absurd a f
  | lit => rfl
end Go.Proofs.YtnfojonmohijpaaGreatDoor
namespace Go.Proofs.YtnfojonmohijpaaGreatDoor
structure Whole where
 bg : Bool
 en : Bool
 x : Pat
 g : Nat
def wi (s : ByteArray) : Nat := if at' s 0 = 94 then 1 else 0
def PatE (s : ByteArray) : R (Pat × Nat) → R Whole
 | .bad j => .bad j
 | .ok (x, g) j => if 0 ≤ at' s (if at' s j = 36 then j + 1 else j) then .bad (if at' s j = 36 then j + 1 else j) else .ok ⟨decide (at' s 0 = 94), decide (at' s j = 36), x, g⟩ (if at' s j = 36 then j + 1 else j)
theorem PatE_ok (s : ByteArray) (x : Pat) (g j : Nat) : PatE s (.ok (x, g) j) = if 0 ≤ at' s (if at' s j = 36 then j + 1 else j) then .bad (if at' s j = 36 then j + 1 else j) else .ok ⟨decide (at' s 0 = 94), decide (at' s j = 36), x, g⟩ (if at' s j = 36 then j + 1 else j) := rfl
def PatR (s : ByteArray) (q : R Whole) : Prop := ∃ qw, G s .ways 0 0 (wi s) qw ∧ q = PatE s qw
theorem PatR.det {s : ByteArray} {q q' : R Whole} (h : PatR s q) (h' : PatR s q') : q = q' := by
 obtain ⟨a, h, rfl⟩ := h
 obtain ⟨b, h', rfl⟩ := h'
 rw [h.det b h']
end Go.Proofs.YtnfojonmohijpaaGreatDoor
namespace Go.Proofs.YtnfojonmohijpaaGreatDoor
def hexs : List UInt8 := [48, 49, 50, 51, 52, 53, 54, 55, 56, 57, 97, 98, 99, 100, 101, 102]
def oneT (b : Nat) : List UInt8 := if alnB b then [UInt8.ofNat b] else [92, 120, hexs.getD (b / 16) 0, hexs.getD (b % 16) 0]
def runE (f : Nat → Bool) : Nat → Nat → Nat
 | 0, m => m
 | n + 1, m => if m < 255 ∧ f (m + 1) = true then runE f n (m + 1) else m
def runEnd (f : Nat → Bool) (m : Nat) : Nat := runE f 255 m
def outAt (f : Nat → Bool) (m : Nat) : List UInt8 :=
 if f m = true ∧ (m = 0 ∨ f (m - 1) = false) then oneT m ++ (if m < runEnd f m then [45] ++ oneT (runEnd f m) else []) else []
def outTo (f : Nat → Bool) : Nat → List UInt8
 | 0 => []
 | m + 1 => outTo f m ++ outAt f m
def cntTo (f : Nat → Bool) : Nat → Nat
 | 0 => 0
 | m + 1 => cntTo f m + (if f m then 1 else 0)
def setT (f : Nat → Bool) : List UInt8 :=
 if cntTo f 256 = 0 then [91, 94, 92, 120, 48, 48, 45, 92, 120, 102, 102, 93]
 else if cntTo f 256 = 1 then outTo f 256
 else if cntTo f 256 = 256 then [46]
 else [91] ++ outTo f 256 ++ [93]
def digT (n : Nat) : List UInt8 := [UInt8.ofNat (48 + n)]
def repT (mn : Nat) (mx : Int) : List UInt8 :=
 if mx < 0 ∧ mn = 0 then [42] else if mx < 0 ∧ mn = 1 then [43] else if mx < 0 then [123] ++ digT mn ++ [44, 125]
 else if mx = 1 ∧ mn = 0 then [63] else if mx = (mn : Int) then [123] ++ digT mn ++ [125] else [123] ++ digT mn ++ [44] ++ digT mx.toNat ++ [125]
def patT : Pat → List UInt8
 | .set f => setT f
 | .grp _ x => [40] ++ patT x ++ [41]
 | .rep mn mx x => patT x ++ repT mn mx
 | .pnil => []
 | .pcons x r => patT x ++ patT r
 | .wone x => patT x
 | .wcons x r => patT x ++ ([124] ++ patT r)
def wholeT (W : Whole) : List UInt8 := (if W.bg then [94] else []) ++ patT W.x ++ (if W.en then [36] else [])
theorem oneT_len (b : Nat) : (oneT b).length ≤ 4 := by unfold oneT; split <;> simp
theorem outAt_len (f : Nat → Bool) (m : Nat) : (outAt f m).length ≤ 9 := by
 unfold outAt
 have h1 := oneT_len m
 have h2 := oneT_len (runEnd f m)
 split
 ·split <;> simp <;> omega
 ·simp
theorem outTo_len (f : Nat → Bool) (m : Nat) : (outTo f m).length ≤ 9 * m := by
 induction m with
 | zero => simp [outTo]
 | succ m ih => have := outAt_len f m; simp only [outTo, List.length_append]; omega
theorem cntTo_le (f : Nat → Bool) (m : Nat) : cntTo f m ≤ m := by
 induction m with
 | zero => simp [cntTo]
 | succ m ih => simp only [cntTo]; split <;> omega
theorem setT_len (f : Nat → Bool) : (setT f).length ≤ 2400 := by
 have := outTo_len f 256
 unfold setT
 split
 ·simp
 ·split
  ·omega
  ·split
   ·simp
   ·simp; omega
theorem repT_len (mn : Nat) (mx : Int) : (repT mn mx).length ≤ 5 := by
 unfold repT digT
 repeat' split
 all_goals simp
def Pat.sz : Pat → Nat
 | .set _ => 1
 | .grp _ x => 1 + x.sz
 | .rep _ _ x => 1 + x.sz
 | .pnil => 1
 | .pcons x r => 1 + x.sz + r.sz
 | .wone x => 1 + x.sz
 | .wcons x r => 1 + x.sz + r.sz
theorem patT_len (x : Pat) : (patT x).length ≤ 2400 * x.sz := by
 induction x with
 | set f => have := setT_len f; simp only [patT, Pat.sz]; omega
 | grp k x ih => simp only [patT, Pat.sz, List.length_append, List.length_singleton]; omega
 | rep mn mx x ih => have := repT_len mn mx; simp only [patT, Pat.sz, List.length_append]; omega
 | pnil => simp [patT]
 | pcons x r ih1 ih2 => simp only [patT, Pat.sz, List.length_append]; omega
 | wone x ih => simp only [patT, Pat.sz]; omega
 | wcons x r ih1 ih2 => simp only [patT, Pat.sz, List.length_append, List.length_singleton]; omega
end Go.Proofs.YtnfojonmohijpaaGreatDoor
