/-
  DERIVED. Contracts of the program's digit, digitAhead and number. Conditions: the text is at most 60 bytes long, the place is within it, the value and the least one are at most 5.
-/
import Derived.Test.YtnfojonmohijpaaGreatDoorJPM
import Derived.Test.YtnfojonmohijpaaGreatDoorJSpec
import Derived.Deep.RegionWith
import Derived.RegionDies
set_option linter.unusedSimpArgs false
set_option linter.unusedVariables false
namespace Go.Proofs.YtnfojonmohijpaaGreatDoor
open Go.RowKit

/-- What a reader of a number leaves. -/
def IPost (b : Nat) (p : QS) (w : World) (r : R Int) (e : Ending) (w' : World) : Prop :=
  Keeps [b] w w' ∧ match r with
    | .ok v j => e = .returned (.int .i64 v) ∧ QB w' b { p with ix := j }
    | .bad j => e = fault j

theorem may_dig2 {c v least : Int} (h0 : 0 ≤ c) (h1 : c ≤ 255) (hv0 : 0 ≤ v) (hv1 : v ≤ 5) {vb gb lb : Nat} {w : World} (hc : w.cell? ⟨vb, 0, none⟩ = some (.int .i64 v)) (hg : w.cell? ⟨gb, 0, none⟩ = some (.func (.func 301) #[] #[.pointer (some ⟨vb, 0, none⟩)])) (hl : w.cell? ⟨lb, 0, none⟩ = some (.int .i64 least)) :
    May 302 #[.pointer (some ⟨gb, 0, none⟩), .pointer (some ⟨lb, 0, none⟩)] c (digOk v least c) w :=
  ⟨cf_dig2, fun w1 hk => (dig2_any c v least h0 h1 hv0 hv1 vb gb lb w1 (keep_cell hk hc) (keep_cell hk hg) (keep_cell hk hl)).mono fun e w2 ⟨he, n, hw⟩ => ⟨he, by rw [hw]; exact (Keeps.refl _ _).drewN n⟩⟩

/-- The three variables that digit's closures share. -/
theorem digit_boxes (v least : Int) (w : World) : ∃ W, (store ⟨w.heap.size + 1 + 1, 0, none⟩ (.func (.func 301) #[] #[.pointer (some ⟨w.heap.size, 0, none⟩)])).run Tryz.prog (((w.alloc (.cells #[.int .i64 v] 3)).alloc (.cells #[.int .i64 least] 3)).alloc (.cells #[.nilFunc] 356)) = .ok () W ∧
    W.cell? ⟨w.heap.size, 0, none⟩ = some (.int .i64 v) ∧ W.cell? ⟨w.heap.size + 1, 0, none⟩ = some (.int .i64 least) ∧ W.cell? ⟨w.heap.size + 1 + 1, 0, none⟩ = some (.func (.func 301) #[] #[.pointer (some ⟨w.heap.size, 0, none⟩)]) ∧ Keeps [] w W := by
  have k1 : Keeps [] w (w.alloc (.cells #[.int .i64 v] 3)) := (Keeps.refl [] w).alloc _
  have c1 : (w.alloc (.cells #[.int .i64 v] 3)).cell? ⟨w.heap.size, 0, none⟩ = some (.int .i64 v) := by simp
  have z1 : (w.alloc (.cells #[.int .i64 v] 3)).heap.size = w.heap.size + 1 := by simp
  generalize w.alloc (.cells #[.int .i64 v] 3) = w1 at *
  have k2 : Keeps [] w1 (w1.alloc (.cells #[.int .i64 least] 3)) := (Keeps.refl [] w1).alloc _
  have c2 : (w1.alloc (.cells #[.int .i64 least] 3)).cell? ⟨w1.heap.size, 0, none⟩ = some (.int .i64 least) := by simp
  have z2 : (w1.alloc (.cells #[.int .i64 least] 3)).heap.size = w1.heap.size + 1 := by simp
  have c1 := keep_cell k2 c1
  generalize w1.alloc (.cells #[.int .i64 least] 3) = w2 at *
  have k3 : Keeps [] w2 (w2.alloc (.cells #[.nilFunc] 356)) := (Keeps.refl [] w2).alloc _
  have c3 : (w2.alloc (.cells #[.nilFunc] 356)).cell? ⟨w2.heap.size, 0, none⟩ = some .nilFunc := by simp
  have f3 : (w2.alloc (.cells #[.nilFunc] 356)).frozen? ⟨w2.heap.size, 0, none⟩ = false := by simp
  have c1 := keep_cell k3 c1
  have c2 := keep_cell k3 c2
  generalize w2.alloc (.cells #[.nilFunc] 356) = w3 at *
  rw [z2, z1] at c3 f3
  rw [z1] at c2
  refine ⟨w3.setCell ⟨w.heap.size + 1 + 1, 0, none⟩ (.func (.func 301) #[] #[.pointer (some ⟨w.heap.size, 0, none⟩)]), ?_, ?_, ?_, World.cell?_setCell_same _ _ _ c3, ?_⟩
  · rw [run_store _ _ _ _ _ rfl, c3, f3]; rfl
  · rw [World.cell?_setCell_other _ _ _ _ (by simp)]; exact c1
  · rw [World.cell?_setCell_other _ _ _ _ (by simp)]; exact c2
  · exact ((k1.trans k2).trans k3).setCell (Or.inr (by show w.heap.size ≤ w.heap.size + 1 + 1; omega)) _

set_option maxRecDepth 100000 in
set_option maxHeartbeats 1000000 in
theorem digit_ok (b : Nat) (p : QS) (v least : Int) (w : World) (hp : QB w b p) (hs : p.s.size ≤ 60) (hv0 : 0 ≤ v) (hv1 : v ≤ 5) (h0 : 0 ≤ p.cur) (hd : digOk v least p.cur = true) :
    Calls Tryz.prog 294 #[.pointer (some ⟨b, 0, none⟩), .int .i64 v, .int .i64 least] w fun e w' => e = .returned (.int .i64 (10 * v + (p.cur - 48))) ∧ QB w' b { p with ix := p.ix + 1 } ∧ Keeps [b] w w' := by
  have hmf : ∀ (fn : Fn) (first cap : Array Value) (w : World), (Instr.makeFunc fn first cap).run Tryz.prog w = .ok (.func fn first cap) w := fun _ _ _ _ => rfl
  have hcb : p.cur ≤ 255 := (at'_bd p.s p.ix).2
  have hlt : p.ix < p.s.size := at'_nn h0
  have hdd : digB p.cur = true := by unfold digOk at hd; simp at hd; exact hd.1
  have hb : 48 ≤ p.cur ∧ p.cur ≤ 57 := by simp [digB] at hdd; exact hdd
  have hbl := hp.lt
  clear hdd
  obtain ⟨W, hst, hvc, hlc, hgc, hkW⟩ := digit_boxes v least w
  have hpW := hp.keep hkW (by simp)
  go_enter Tryz.func294, Tryz.ntmps294
  go_wp2_with fail
  have cfg := cf_grown
  have hbv : b ≠ w.heap.size := by omega
  have hbg : b ≠ w.heap.size + 1 + 1 := by omega
  have hwD : Keeps [] W W.drew := (Keeps.refl [] W).drewN 1
  have hvD := keep_cell hwD hvc
  have hgD := keep_cell hwD hgc
  have hpD := hpW.keep hwD (by simp)
  have hmD := may_dig2 h0 hcb hv0 hv1 hvD hgD (keep_cell hwD hlc)
  rw [hd] at hmD
  have hkD := hkW.trans hwD
  clear hst hd hpW hvc hgc hlc hwD
  go_region_with (first
    | (go_at_call 218; refine (take_ok b p 302 _ _ hpD hs hlt hmD).mono ?_; rintro e w1 ⟨rfl, hq1, hk1⟩; have hv1' := keep_cell_b hk1 (Ne.symm hbv) hvD; have hg1' := keep_cell_b hk1 (Ne.symm hbg) hgD)
    | (go_at_call 301; refine (grown_any p.cur v hb.1 hb.2 hv0 hv1 _ _ hv1').mono ?_; rintro e w2 ⟨rfl, rfl⟩))
  all_goals
    go_wp2_with fail
    go_ret
    exact ⟨rfl, hq1, (hkD.mono (by simp)).trans hk1⟩

set_option maxRecDepth 100000 in
set_option maxHeartbeats 1000000 in
theorem digit_bad (b : Nat) (p : QS) (v least : Int) (w : World) (hp : QB w b p) (hs : p.s.size ≤ 60) (hle : p.ix ≤ p.s.size) (hv0 : 0 ≤ v) (hv1 : v ≤ 5) (hd : ¬ (0 ≤ p.cur ∧ digOk v least p.cur = true)) :
    Calls Tryz.prog 294 #[.pointer (some ⟨b, 0, none⟩), .int .i64 v, .int .i64 least] w fun e w' => e = fault p.ix ∧ Keeps [b] w w' := by
  have hmf : ∀ (fn : Fn) (first cap : Array Value) (w : World), (Instr.makeFunc fn first cap).run Tryz.prog w = .ok (.func fn first cap) w := fun _ _ _ _ => rfl
  have hcb : p.cur ≤ 255 := (at'_bd p.s p.ix).2
  have hbl := hp.lt
  obtain ⟨W, hst, hvc, hlc, hgc, hkW⟩ := digit_boxes v least w
  have hpW := hp.keep hkW (by simp)
  have hwD : Keeps [] W W.drew := (Keeps.refl [] W).drewN 1
  have hvD := keep_cell hwD hvc
  have hgD := keep_cell hwD hgc
  have hpD := hpW.keep hwD (by simp)
  have HT : Hid (Calls Tryz.prog 218 #[.pointer (some ⟨b, 0, none⟩), .func (.func 302) #[] #[.pointer (some ⟨w.heap.size + 1 + 1, 0, none⟩), .pointer (some ⟨w.heap.size + 1, 0, none⟩)]] W.drew (PPost b p W.drew (.bad p.ix))) :=
    take_may b p 302 _ _ W.drew hpD hs hle (fun h => may_dig2 h hcb hv0 hv1 hvD hgD (keep_cell hwD hlc)) (.bad p.ix) (by rw [if_neg hd])
  have hkD := hkW.trans hwD
  clear hd hpW hvc hgc hlc hwD hpD hvD
  go_enter Tryz.func294, Tryz.ntmps294
  go_wp2_with fail
  have cfg := cf_grown
  clear hst
  go_region_dies
  all_goals
    refine HT.out.mono ?_
    rintro e w1 ⟨hk1, hc1⟩
    subst hc1
    simp only [fault]
    exact ⟨rfl, rfl, (hkD.mono (by simp)).trans hk1⟩

/-- Whatever digit is ahead. -/
theorem pdigit_any (b : Nat) (p : QS) (v least : Int) (w : World) (hp : QB w b p) (hs : p.s.size ≤ 60) (hle : p.ix ≤ p.s.size) (hv0 : 0 ≤ v) (hv1 : v ≤ 5) :
    Calls Tryz.prog 294 #[.pointer (some ⟨b, 0, none⟩), .int .i64 v, .int .i64 least] w (IPost b p w (if 0 ≤ p.cur ∧ digOk v least p.cur = true then .ok (10 * v + (p.cur - 48)) (p.ix + 1) else .bad p.ix)) := by
  by_cases h : 0 ≤ p.cur ∧ digOk v least p.cur = true
  · rw [if_pos h]
    exact (digit_ok b p v least w hp hs hv0 hv1 h.1 h.2).mono fun e w' ⟨he, hq, hk⟩ => ⟨hk, he, hq⟩
  · rw [if_neg h]
    exact (digit_bad b p v least w hp hs hle hv0 hv1 h).mono fun e w' ⟨he, hk⟩ => ⟨hk, he⟩

set_option maxRecDepth 100000 in
set_option maxHeartbeats 400000 in
theorem digitAhead_any (b : Nat) (p : QS) (w : World) (hp : QB w b p) (hle : p.ix ≤ p.s.size) (hs : p.s.size ≤ 60) :
    Calls Tryz.prog 295 #[.pointer (some ⟨b, 0, none⟩)] w fun e w' => e = .returned (.bool (digB p.cur)) ∧ QB w' b p ∧ Keeps [] w w' := by
  by_cases hlt : p.ix < p.s.size
  · go_enter Tryz.func295, Tryz.ntmps295
    go_wp2_with (first | (go_at_call 167; refine (peek_some b p _ hp hlt hs).mono ?_; rintro e w1 ⟨rfl, hp1, hk1⟩) | (go_at_call 236; refine (isDigit_any p.cur _).mono ?_; rintro e w2 ⟨rfl, rfl⟩))
    go_ret
    exact ⟨rfl, hp1, hk1⟩
  · have hge : p.ix = p.s.size := by omega
    have HC : Hid (digB p.cur = false) := by show digB (at' p.s p.ix) = false; rw [at'_ge (by omega)]; rfl
    go_enter Tryz.func295, Tryz.ntmps295
    go_wp2_with (first | (go_at_call 167; refine (peek_none b p _ hp hge).mono ?_; rintro e w1 ⟨rfl, hp1, hk1⟩))
    go_ret
    exact ⟨by rw [HC.out]; rfl, hp1, hk1⟩
end Go.Proofs.YtnfojonmohijpaaGreatDoor

/-
  DERIVED. The contract of the program's number. Conditions: the text is at most 60 bytes long, the place is within it, the least one is at most 5.
-/
namespace Go.Proofs.YtnfojonmohijpaaGreatDoor
open Go.RowKit

theorem NumL.step {s : ByteArray} {least n : Nat} {any : Bool} {i : Nat} {q : R Nat} (h : NumL s least n any i q) (hd : 0 ≤ at' s i ∧ digOk n least (at' s i) = true) : ∃ x : Nat, 10 * (n : Int) + (at' s i - 48) = x ∧ x ≤ 5 ∧ NumL s least x true (i + 1) q := by
  have hd2 := hd.2
  unfold digOk at hd2
  simp only [Bool.and_eq_true, Bool.or_eq_true, decide_eq_true_eq] at hd2
  obtain ⟨h1, h2, h3⟩ := hd2
  cases h with
  | dig _ x _ _ _ hdb hx h5 hl hr => exact ⟨x, hx.symm, h5, hr⟩
  | big _ x _ _ hdb hx hn => exact absurd ⟨by omega, by omega⟩ hn
  | done _ _ hdb => rw [h1] at hdb; cases hdb
  | short _ _ _ hdb => rw [h1] at hdb; cases hdb
theorem NumL.stop {s : ByteArray} {least n : Nat} {any : Bool} {i : Nat} {q : R Nat} (h : NumL s least n any i q) (hd : ¬ (0 ≤ at' s i ∧ digOk n least (at' s i) = true)) (ha : any = false ∨ digB (at' s i) = true) : q = .bad i := by
  cases h with
  | dig _ x _ _ _ hdb hx h5 hl hr =>
    refine absurd ⟨?_, ?_⟩ hd
    · simp [digB] at hdb; omega
    · unfold digOk
      simp only [Bool.and_eq_true, Bool.or_eq_true, decide_eq_true_eq]
      exact ⟨hdb, by omega, by omega⟩
  | big => rfl
  | done _ _ hdb => rcases ha with ha | ha
                    · cases ha
                    · rw [ha] at hdb; cases hdb
  | short => rfl
theorem NumL.ends {s : ByteArray} {least n i : Nat} {q : R Nat} (h : NumL s least n true i q) (hd : digB (at' s i) = false) : q = if n < least then .bad i else .ok n i := by
  cases h with
  | dig _ x _ _ _ hdb => rw [hd] at hdb; cases hdb
  | big _ x _ _ hdb => rw [hd] at hdb; cases hdb
  | done _ _ _ hl => rw [if_neg (by omega)]
  | short _ _ _ _ ho => rw [if_pos (by rcases ho with h | h; (cases h); exact h)]

/-- What number leaves. -/
def NuPost (b : Nat) (p : QS) (w : World) (q : R Nat) (e : Ending) (w' : World) : Prop :=
  Keeps [b] w w' ∧ match q with
    | .ok v j => e = .returned (.int .i64 v) ∧ QB w' b { p with ix := j }
    | .bad j => e = fault j

set_option maxRecDepth 100000 in
set_option maxHeartbeats 1000000 in
theorem number_prog (b : Nat) (p : QS) (least : Nat) (w : World) (hp : QB w b p) (hs : p.s.size ≤ 60) (hle : p.ix ≤ p.s.size) (q : R Nat) (hq : NumL p.s least 0 false p.ix q) :
    Calls Tryz.prog 278 #[.pointer (some ⟨b, 0, none⟩), .int .i64 least] w (NuPost b p w q) := by
  go_enter Tryz.func278, Tryz.ntmps278
  go_wp2_with fail
  refine (pdigit_any b p 0 least _ hp hs hle (by omega) (by omega)).mono ?_
  rintro e w1 ⟨hk1, hc1⟩
  by_cases h : 0 ≤ p.cur ∧ digOk 0 least p.cur = true
  · rw [if_pos h] at hc1
    obtain ⟨rfl, hq1⟩ := hc1
    obtain ⟨x, hx, hx5, hN⟩ := hq.step (n := 0) h
    have hx' : (10 * 0 + (p.cur - 48) : Int) = x := hx
    rw [hx']
    have hle1 : p.ix + 1 ≤ p.s.size := at'_nn h.1
    clear hq h hx hx'
    go_wp2_with fail
    go_loopw [5] (fun v wr => ∃ (n i : Nat), v = .int .i64 n ∧ n ≤ 5 ∧ i ≤ p.s.size ∧ QB wr b { p with ix := i } ∧ NumL p.s least n true i q ∧ Keeps [b] w wr) (fun _ wr => muQ wr b)
    case atStart => exact ⟨x, p.ix + 1, rfl, hx5, hle1, hq1, hN, hk1⟩
    case round =>
      clear hN hq1 hk1 hx5 hle1
      obtain ⟨n, i, rfl, hn5, hi, hq2, hN, hk2⟩ := hrel
      have hmu := muQ_eq hq2
      go_wp2_with fail
      refine (digitAhead_any b { p with ix := i } _ hq2 hi hs).mono ?_
      rintro e w3 ⟨rfl, hq3, hk3⟩
      have hk3' := hk2.trans (hk3.mono (S' := [b]) (by simp))
      have hcur : QS.cur { p with ix := i } = at' p.s i := rfl
      rw [hcur]
      cases hdb : digB (at' p.s i) with
      | false =>
        have he := hN.ends hdb
        clear hdb hN hcur
        by_cases hnl : n < least
        · rw [if_pos hnl] at he
          subst he
          have hnl' : (n : Int) < (least : Int) := by omega
          go_wp2_with fail
          refine (pfail_any b { p with ix := i } _ hq3).mono ?_
          rintro e w4 ⟨rfl, rfl⟩
          simp only [fault]
          exact ⟨rfl, hk3', rfl⟩
        · rw [if_neg hnl] at he
          subst he
          have hnl' : ¬ (n : Int) < (least : Int) := by omega
          go_wp2_with fail
          go_ret
          exact ⟨hk3', rfl, hq3⟩
      | true =>
        go_wp2_with fail
        refine (pdigit_any b { p with ix := i } n least _ hq3 hs hi (by omega) (by omega)).mono ?_
        rintro e w4 ⟨hk4, hc4⟩
        have hk4' := hk3'.trans hk4
        rw [hcur] at hc4
        by_cases h : 0 ≤ at' p.s i ∧ digOk n least (at' p.s i) = true
        · rw [if_pos h] at hc4
          obtain ⟨rfl, hq4⟩ := hc4
          obtain ⟨x2, hx2, hx25, hN2⟩ := hN.step h
          rw [hx2]
          have hlt := at'_nn h.1
          clear h hx2 hdb hN hcur
          go_wp2_with fail
          go_roundw
          case rel => exact ⟨x2, i + 1, rfl, hx25, hlt, hq4, hN2, hk4'⟩
          case measure => rw [hmu, muQ_eq hq4]; simp; omega
        · rw [if_neg h] at hc4
          have he := hN.stop h (Or.inr hdb)
          subst he
          subst hc4
          simp only [fault]
          exact ⟨rfl, hk4', rfl⟩
  · rw [if_neg h] at hc1
    have he := hq.stop h (Or.inl rfl)
    subst he
    subst hc1
    simp only [fault]
    exact ⟨rfl, hk1, rfl⟩
end Go.Proofs.YtnfojonmohijpaaGreatDoor
