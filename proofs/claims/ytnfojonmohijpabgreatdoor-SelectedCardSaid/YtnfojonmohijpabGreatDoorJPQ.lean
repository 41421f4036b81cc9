/-
  DERIVED. Contracts of the program's digit, digitAhead and number. Conditions: the text is at most 60 bytes long, the place is within it, the value and the least one are at most 5.
-/
import Derived.Test.YtnfojonmohijpabGreatDoorJPI
import Derived.Deep.RegionWith
import Derived.RegionDies
import Derived.Test.YtnfojonmohijpabGreatDoorJRA
import Derived.Laws.Rows
import Derived.Laws.Tables
import Derived.KernelRfl
import Derived.Test.YtnfojonmohijpabGreatDoorJRG
import Derived.Great.BuildSlice
set_option linter.unusedSimpArgs false
set_option linter.unusedVariables false
namespace Go.Proofs.YtnfojonmohijpabGreatDoor
open Go.RowKit
def IPost (b : Nat) (p : QS) (w : World) (r : R Int) (e : Ending) (w' : World) : Prop :=
 Keeps [b] w w' ∧ match r with
  | .ok v j => e = .returned (.int .i64 v) ∧ QB w' b { p with ix := j }
  | .bad j => e = fault j
theorem may_dig2 {c v least : Int} (h0 : 0 ≤ c) (h1 : c ≤ 255) (hv0 : 0 ≤ v) (hv1 : v ≤ 5) {vb gb lb : Nat} {w : World} (hc : w.cell? ⟨vb, 0, none⟩ = some (.int .i64 v)) (hg : w.cell? ⟨gb, 0, none⟩ = some (.func (.func 194) #[] #[.pointer (some ⟨vb, 0, none⟩)])) (hl : w.cell? ⟨lb, 0, none⟩ = some (.int .i64 least)) :
    May 195 #[.pointer (some ⟨gb, 0, none⟩), .pointer (some ⟨lb, 0, none⟩)] c (digOk v least c) w :=
 ⟨cf_dig2, fun w1 hk => (dig2_any c v least h0 h1 hv0 hv1 vb gb lb w1 (keep_cell hk hc) (keep_cell hk hg) (keep_cell hk hl)).mono fun e w2 ⟨he, n, hw⟩ => ⟨he, by rw [hw]; exact (Keeps.refl _ _).drewN n⟩⟩
theorem digit_boxes (v least : Int) (w : World) : ∃ W, (store ⟨w.heap.size + 1 + 1, 0, none⟩ (.func (.func 194) #[] #[.pointer (some ⟨w.heap.size, 0, none⟩)])).run Tryz.prog (((w.alloc (.cells #[.int .i64 v] 3)).alloc (.cells #[.int .i64 least] 3)).alloc (.cells #[.nilFunc] 266)) = .ok () W ∧
    W.cell? ⟨w.heap.size, 0, none⟩ = some (.int .i64 v) ∧ W.cell? ⟨w.heap.size + 1, 0, none⟩ = some (.int .i64 least) ∧ W.cell? ⟨w.heap.size + 1 + 1, 0, none⟩ = some (.func (.func 194) #[] #[.pointer (some ⟨w.heap.size, 0, none⟩)]) ∧ Keeps [] w W := by
 have k1 : Keeps [] w (w.alloc (.cells #[.int .i64 v] 3)) := (Keeps.refl [] w).alloc _
 have c1 : (w.alloc (.cells #[.int .i64 v] 3)).cell? ⟨w.heap.size, 0, none⟩ = some (.int .i64 v) := by simp
 have z1 : (w.alloc (.cells #[.int .i64 v] 3)).heap.size = w.heap.size + 1 := by simp
 generalize w.alloc (.cells #[.int .i64 v] 3) = w1 at *
 have k2 : Keeps [] w1 (w1.alloc (.cells #[.int .i64 least] 3)) := (Keeps.refl [] w1).alloc _
 have c2 : (w1.alloc (.cells #[.int .i64 least] 3)).cell? ⟨w1.heap.size, 0, none⟩ = some (.int .i64 least) := by simp
 have z2 : (w1.alloc (.cells #[.int .i64 least] 3)).heap.size = w1.heap.size + 1 := by simp
 have c1 := keep_cell k2 c1
 generalize w1.alloc (.cells #[.int .i64 least] 3) = w2 at *
 have k3 : Keeps [] w2 (w2.alloc (.cells #[.nilFunc] 266)) := (Keeps.refl [] w2).alloc _
 have c3 : (w2.alloc (.cells #[.nilFunc] 266)).cell? ⟨w2.heap.size, 0, none⟩ = some .nilFunc := by simp
 have f3 : (w2.alloc (.cells #[.nilFunc] 266)).frozen? ⟨w2.heap.size, 0, none⟩ = false := by simp
 have c1 := keep_cell k3 c1
 have c2 := keep_cell k3 c2
 generalize w2.alloc (.cells #[.nilFunc] 266) = w3 at *
 rw [z2, z1] at c3 f3
 rw [z1] at c2
 refine ⟨w3.setCell ⟨w.heap.size + 1 + 1, 0, none⟩ (.func (.func 194) #[] #[.pointer (some ⟨w.heap.size, 0, none⟩)]), ?_, ?_, ?_, World.cell?_setCell_same _ _ _ c3, ?_⟩
 ·rw [run_store _ _ _ _ _ rfl, c3, f3]; rfl
 ·rw [World.cell?_setCell_other _ _ _ _ (by simp)]; exact c1
 ·rw [World.cell?_setCell_other _ _ _ _ (by simp)]; exact c2
 ·exact ((k1.trans k2).trans k3).setCell (Or.inr (by show w.heap.size ≤ w.heap.size + 1 + 1; omega)) _
set_option maxRecDepth 100000 in
set_option maxHeartbeats 1000000 in
theorem digit_ok (b : Nat) (p : QS) (v least : Int) (w : World) (hp : QB w b p) (hs : p.s.size ≤ 60) (hv0 : 0 ≤ v) (hv1 : v ≤ 5) (h0 : 0 ≤ p.cur) (hd : digOk v least p.cur = true) :
    Calls Tryz.prog 188 #[.pointer (some ⟨b, 0, none⟩), .int .i64 v, .int .i64 least] w fun e w' => e = .returned (.int .i64 (10 * v + (p.cur - 48))) ∧ QB w' b { p with ix := p.ix + 1 } ∧ Keeps [b] w w' := by
 have hmf : ∀ (fn : Fn) (first cap : Array Value) (w : World), (Instr.makeFunc fn first cap).run Tryz.prog w = .ok (.func fn first cap) w := fun _ _ _ _ => rfl
 have hcb : p.cur ≤ 255 := (at'_bd p.s p.ix).2
 have hlt : p.ix < p.s.size := at'_nn h0
 have hdd : digB p.cur = true := by unfold digOk at hd; simp at hd; exact hd.1
 have hb : 48 ≤ p.cur ∧ p.cur ≤ 57 := by simp [digB] at hdd; exact hdd
 have hbl := hp.lt
 clear hdd
 obtain ⟨W, hst, hvc, hlc, hgc, hkW⟩ := digit_boxes v least w
 have hpW := hp.keep hkW (by simp)
 go_enter Tryz.func188, Tryz.ntmps188
 go_wp2_with fail
 have cfg := cf_grown
 have hbv : b ≠ w.heap.size := by omega
 have hbg : b ≠ w.heap.size + 1 + 1 := by omega
 have hwD : Keeps [] W W.drew := (Keeps.refl [] W).drewN 1
 have hvD := keep_cell hwD hvc
 have hgD := keep_cell hwD hgc
 have hpD := hpW.keep hwD (by simp)
 have hmD := may_dig2 h0 hcb hv0 hv1 hvD hgD (keep_cell hwD hlc)
 rw [hd] at hmD
 have hkD := hkW.trans hwD
 clear hst hd hpW hvc hgc hlc hwD
 go_region_with (first
   | (go_at_call 136; refine (take_ok b p 195 _ _ hpD hs hlt hmD).mono ?_; rintro e w1 ⟨rfl, hq1, hk1⟩; have hv1' := keep_cell_b hk1 (Ne.symm hbv) hvD; have hg1' := keep_cell_b hk1 (Ne.symm hbg) hgD)
   | (go_at_call 194; refine (grown_any p.cur v hb.1 hb.2 hv0 hv1 _ _ hv1').mono ?_; rintro e w2 ⟨rfl, rfl⟩))
 all_goals
  go_wp2_with fail
  go_ret
  exact ⟨rfl, hq1, (hkD.mono (by simp)).trans hk1⟩
set_option maxRecDepth 100000 in
set_option maxHeartbeats 1000000 in
theorem digit_bad (b : Nat) (p : QS) (v least : Int) (w : World) (hp : QB w b p) (hs : p.s.size ≤ 60) (hle : p.ix ≤ p.s.size) (hv0 : 0 ≤ v) (hv1 : v ≤ 5) (hd : ¬ (0 ≤ p.cur ∧ digOk v least p.cur = true)) :
    Calls Tryz.prog 188 #[.pointer (some ⟨b, 0, none⟩), .int .i64 v, .int .i64 least] w fun e w' => e = fault p.ix ∧ Keeps [b] w w' := by
 have hmf : ∀ (fn : Fn) (first cap : Array Value) (w : World), (Instr.makeFunc fn first cap).run Tryz.prog w = .ok (.func fn first cap) w := fun _ _ _ _ => rfl
 have hcb : p.cur ≤ 255 := (at'_bd p.s p.ix).2
 have hbl := hp.lt
 obtain ⟨W, hst, hvc, hlc, hgc, hkW⟩ := digit_boxes v least w
 have hpW := hp.keep hkW (by simp)
 have hwD : Keeps [] W W.drew := (Keeps.refl [] W).drewN 1
 have hvD := keep_cell hwD hvc
 have hgD := keep_cell hwD hgc
 have hpD := hpW.keep hwD (by simp)
 have HT : Hid (Calls Tryz.prog 136 #[.pointer (some ⟨b, 0, none⟩), .func (.func 195) #[] #[.pointer (some ⟨w.heap.size + 1 + 1, 0, none⟩), .pointer (some ⟨w.heap.size + 1, 0, none⟩)]] W.drew (PPost b p W.drew (.bad p.ix))) :=
  take_may b p 195 _ _ W.drew hpD hs hle (fun h => may_dig2 h hcb hv0 hv1 hvD hgD (keep_cell hwD hlc)) (.bad p.ix) (by rw [if_neg hd])
 have hkD := hkW.trans hwD
 clear hd hpW hvc hgc hlc hwD hpD hvD
 go_enter Tryz.func188, Tryz.ntmps188
 go_wp2_with fail
 have cfg := cf_grown
 clear hst
 go_region_dies
 all_goals
  refine HT.out.mono ?_
  rintro e w1 ⟨hk1, hc1⟩
  subst hc1
  simp only [fault]
  exact ⟨rfl, rfl, (hkD.mono (by simp)).trans hk1⟩
theorem pdigit_any (b : Nat) (p : QS) (v least : Int) (w : World) (hp : QB w b p) (hs : p.s.size ≤ 60) (hle : p.ix ≤ p.s.size) (hv0 : 0 ≤ v) (hv1 : v ≤ 5) :
    Calls Tryz.prog 188 #[.pointer (some ⟨b, 0, none⟩), .int .i64 v, .int .i64 least] w (IPost b p w (if 0 ≤ p.cur ∧ digOk v least p.cur = true then .ok (10 * v + (p.cur - 48)) (p.ix + 1) else .bad p.ix)) := by
 by_cases h : 0 ≤ p.cur ∧ digOk v least p.cur = true
 ·rw [if_pos h]
  exact (digit_ok b p v least w hp hs hv0 hv1 h.1 h.2).mono fun e w' ⟨he, hq, hk⟩ => ⟨hk, he, hq⟩
 ·rw [if_neg h]
  exact (digit_bad b p v least w hp hs hle hv0 hv1 h).mono fun e w' ⟨he, hk⟩ => ⟨hk, he⟩
set_option maxRecDepth 100000 in
set_option maxHeartbeats 400000 in
theorem digitAhead_any (b : Nat) (p : QS) (w : World) (hp : QB w b p) (hle : p.ix ≤ p.s.size) (hs : p.s.size ≤ 60) :
    Calls Tryz.prog 189 #[.pointer (some ⟨b, 0, none⟩)] w fun e w' => e = .returned (.bool (digB p.cur)) ∧ QB w' b p ∧ Keeps [] w w' := by
 by_cases hlt : p.ix < p.s.size
 ·go_enter Tryz.func189, Tryz.ntmps189
  go_wp2_with (first | (go_at_call 100; refine (peek_some b p _ hp hlt hs).mono ?_; rintro e w1 ⟨rfl, hp1, hk1⟩) | (go_at_call 139; refine (isDigit_any p.cur _).mono ?_; rintro e w2 ⟨rfl, rfl⟩))
  go_ret
  exact ⟨rfl, hp1, hk1⟩
 ·have hge : p.ix = p.s.size := by omega
  have HC : Hid (digB p.cur = false) := by show digB (at' p.s p.ix) = false; rw [at'_ge (by omega)]; rfl
  go_enter Tryz.func189, Tryz.ntmps189
  go_wp2_with (first | (go_at_call 100; refine (peek_none b p _ hp hge).mono ?_; rintro e w1 ⟨rfl, hp1, hk1⟩))
  go_ret
  exact ⟨by rw [HC.out]; rfl, hp1, hk1⟩
end Go.Proofs.YtnfojonmohijpabGreatDoor
namespace Go.Proofs.YtnfojonmohijpabGreatDoor
open Go.RowKit
theorem NumL.step {s : ByteArray} {least n : Nat} {any : Bool} {i : Nat} {q : R Nat} (h : NumL s least n any i q) (hd : 0 ≤ at' s i ∧ digOk n least (at' s i) = true) : ∃ x : Nat, 10 * (n : Int) + (at' s i - 48) = x ∧ x ≤ 5 ∧ NumL s least x true (i + 1) q := by
 have hd2 := hd.2
 unfold digOk at hd2
 simp only [Bool.and_eq_true, Bool.or_eq_true, decide_eq_true_eq] at hd2
 obtain ⟨h1, h2, h3⟩ := hd2
 cases h with
 | dig _ x _ _ _ hdb hx h5 hl hr => exact ⟨x, hx.symm, h5, hr⟩
 | big _ x _ _ hdb hx hn => exact absurd ⟨by omega, by omega⟩ hn
 | done _ _ hdb => rw [h1] at hdb; cases hdb
 | short _ _ _ hdb => rw [h1] at hdb; cases hdb
theorem NumL.stop {s : ByteArray} {least n : Nat} {any : Bool} {i : Nat} {q : R Nat} (h : NumL s least n any i q) (hd : ¬ (0 ≤ at' s i ∧ digOk n least (at' s i) = true)) (ha : any = false ∨ digB (at' s i) = true) : q = .bad i := by
 cases h with
 | dig _ x _ _ _ hdb hx h5 hl hr =>
  refine absurd ⟨?_, ?_⟩ hd
  ·simp [digB] at hdb; omega
  ·unfold digOk
   simp only [Bool.and_eq_true, Bool.or_eq_true, decide_eq_true_eq]
   exact ⟨hdb, by omega, by omega⟩
 | big => rfl
 | done _ _ hdb => rcases ha with ha | ha
                   ·cases ha
                   ·rw [ha] at hdb; cases hdb
 | short => rfl
theorem NumL.ends {s : ByteArray} {least n i : Nat} {q : R Nat} (h : NumL s least n true i q) (hd : digB (at' s i) = false) : q = if n < least then .bad i else .ok n i := by
 cases h with
 | dig _ x _ _ _ hdb => rw [hd] at hdb; cases hdb
 | big _ x _ _ hdb => rw [hd] at hdb; cases hdb
 | done _ _ _ hl => rw [if_neg (by omega)]
 | short _ _ _ _ ho => rw [if_pos (by rcases ho with h | h; (cases h); exact h)]
def NuPost (b : Nat) (p : QS) (w : World) (q : R Nat) (e : Ending) (w' : World) : Prop :=
 Keeps [b] w w' ∧ match q with
  | .ok v j => e = .returned (.int .i64 v) ∧ QB w' b { p with ix := j }
  | .bad j => e = fault j
set_option maxRecDepth 100000 in
set_option maxHeartbeats 1000000 in
theorem number_prog (b : Nat) (p : QS) (least : Nat) (w : World) (hp : QB w b p) (hs : p.s.size ≤ 60) (hle : p.ix ≤ p.s.size) (q : R Nat) (hq : NumL p.s least 0 false p.ix q) :
    Calls Tryz.prog 177 #[.pointer (some ⟨b, 0, none⟩), .int .i64 least] w (NuPost b p w q) := by
 go_enter Tryz.func177, Tryz.ntmps177
 go_wp2_with fail
 refine (pdigit_any b p 0 least _ hp hs hle (by omega) (by omega)).mono ?_
 rintro e w1 ⟨hk1, hc1⟩
 by_cases h : 0 ≤ p.cur ∧ digOk 0 least p.cur = true
 ·rw [if_pos h] at hc1
  obtain ⟨rfl, hq1⟩ := hc1
  obtain ⟨x, hx, hx5, hN⟩ := hq.step (n := 0) h
  have hx' : (10 * 0 + (p.cur - 48) : Int) = x := hx
  rw [hx']
  have hle1 : p.ix + 1 ≤ p.s.size := at'_nn h.1
  clear hq h hx hx'
  go_wp2_with fail
  go_loopw [5] (fun v wr => ∃ (n i : Nat), v = .int .i64 n ∧ n ≤ 5 ∧ i ≤ p.s.size ∧ QB wr b { p with ix := i } ∧ NumL p.s least n true i q ∧ Keeps [b] w wr) (fun _ wr => muQ wr b)
  case atStart => exact ⟨x, p.ix + 1, rfl, hx5, hle1, hq1, hN, hk1⟩
  case round =>
   clear hN hq1 hk1 hx5 hle1
   obtain ⟨n, i, rfl, hn5, hi, hq2, hN, hk2⟩ := hrel
   have hmu := muQ_eq hq2
   go_wp2_with fail
   refine (digitAhead_any b { p with ix := i } _ hq2 hi hs).mono ?_
   rintro e w3 ⟨rfl, hq3, hk3⟩
   have hk3' := hk2.trans (hk3.mono (S' := [b]) (by simp))
   have hcur : QS.cur { p with ix := i } = at' p.s i := rfl
   rw [hcur]
   cases hdb : digB (at' p.s i) with
   | false =>
    have he := hN.ends hdb
    clear hdb hN hcur
    by_cases hnl : n < least
    ·rw [if_pos hnl] at he
     subst he
     have hnl' : (n : Int) < (least : Int) := by omega
     go_wp2_with fail
     refine (pfail_any b { p with ix := i } _ hq3).mono ?_
     rintro e w4 ⟨rfl, rfl⟩
     simp only [fault]
     exact ⟨rfl, hk3', rfl⟩
    ·rw [if_neg hnl] at he
     subst he
     have hnl' : ¬ (n : Int) < (least : Int) := by omega
     go_wp2_with fail
     go_ret
     exact ⟨hk3', rfl, hq3⟩
   | true =>
    go_wp2_with fail
    refine (pdigit_any b { p with ix := i } n least _ hq3 hs hi (by omega) (by omega)).mono ?_
    rintro e w4 ⟨hk4, hc4⟩
    have hk4' := hk3'.trans hk4
    rw [hcur] at hc4
    by_cases h : 0 ≤ at' p.s i ∧ digOk n least (at' p.s i) = true
    ·rw [if_pos h] at hc4
     obtain ⟨rfl, hq4⟩ := hc4
     obtain ⟨x2, hx2, hx25, hN2⟩ := hN.step h
     rw [hx2]
     have hlt := at'_nn h.1
     clear h hx2 hdb hN hcur
     go_wp2_with fail
     go_roundw
     case rel => exact ⟨x2, i + 1, rfl, hx25, hlt, hq4, hN2, hk4'⟩
     case measure => rw [hmu, muQ_eq hq4]; simp; omega
    ·rw [if_neg h] at hc4
     have he := hN.stop h (Or.inr hdb)
     subst he
     subst hc4
     simp only [fault]
     exact ⟨rfl, hk4', rfl⟩
 ·rw [if_neg h] at hc1
  have he := hq.stop h (Or.inl rfl)
  subst he
  subst hc1
  simp only [fault]
  exact ⟨rfl, hk1, rfl⟩
end Go.Proofs.YtnfojonmohijpabGreatDoor
namespace Go.Proofs.YtnfojonmohijpabGreatDoor
open Go.RowKit
theorem blitL : ∀ (l A B C : List Value) (off k : Nat), B.length = l.length → off + k = A.length →
    List.foldl (fun (cs : Array Value) (p : Value × Nat) => cs.setIfInBounds (off + p.2) p.1) (A ++ B ++ C).toArray (l.zipIdx k) = (A ++ l ++ C).toArray := by
 intro l
 induction l with
 | nil =>
  intro A B C off k hB _
  have : B = [] := List.length_eq_zero_iff.1 (by simpa using hB)
  subst this
  rfl
 | cons c l ih =>
  intro A B C off k hB hk
  cases B with
  | nil => simp at hB
  | cons b B =>
   rw [List.zipIdx_cons, List.foldl_cons]
   have e : (A ++ b :: B ++ C).toArray.setIfInBounds (off + k) c = ((A ++ [c]) ++ B ++ C).toArray := by
    rw [hk]
    apply Array.ext'
    simp
   show List.foldl _ ((A ++ b :: B ++ C).toArray.setIfInBounds (off + k) c) _ = _
   rw [e, ih (A ++ [c]) B C off (k + 1) (by simpa using hB) (by simp; omega)]
   simp
theorem blit (vs : Array Value) (A B C : List Value) (h : B.length = vs.size) :
    vs.zipIdx.foldl (fun (cs : Array Value) (p : Value × Nat) => cs.setIfInBounds (A.length + p.2) p.1) (A ++ B ++ C).toArray = (A ++ vs.toList ++ C).toArray := by
 have e := blitL vs.toList A B C A.length 0 (by simpa using h) (by omega)
 rw [← e, ← Array.foldl_toList, Array.toList_zipIdx]
theorem fill_one (place : Nat → Option (Nat × Nat)) (i : Nat) (v : Value) (rest : List (Nat × Value)) (A B C : List Value) (hp : place i = some (A.length, B.length)) (hv : v.cells.size = B.length) :
    Instr.fill place (A ++ B ++ C).toArray ((i, v) :: rest) = Instr.fill place (A ++ v.cells.toList ++ C).toArray rest := by
 conv => lhs; unfold Instr.fill
 rw [hp]
 have h1 : (decide (v.cells.size ≠ B.length) || decide (A.length + v.cells.size > (A ++ B ++ C).toArray.size)) = false := by
  rw [hv]; simp
 show (if (decide (v.cells.size ≠ B.length) || decide (A.length + v.cells.size > (A ++ B ++ C).toArray.size)) = true then none else _) = _
 rw [h1, if_neg (by simp)]
 have := blit v.cells A B C hv.symm
 exact congrArg (fun x => Instr.fill place x rest) this
def sc (k : Value) (v : Value) (f : Nat → Bool) : List Value := k :: v :: (hcells f).toList
theorem sc_len (k v : Value) (f : Nat → Bool) : (sc k v f).length = 258 := by simp [sc, hcells_size]
def pz : List Value := sc (.int .i64 0) (.slice none 0 0) (fun _ => false) ++ [Value.bool false, Value.int .i64 0, Value.int .i64 0]
theorem pz_len : pz.length = 261 := by simp [pz, sc_len]
def plS : Nat → Option (Nat × Nat) := fun i => (#[(0, 1), (1, 1), (2, 256)] : Array (Nat × Nat))[i]?
def plP : Nat → Option (Nat × Nat) := fun i => (#[(0, 258), (258, 3)] : Array (Nat × Nat))[i]?
theorem built_single (parts : List (Nat × Value)) : Tryz.prog.built 176 parts = Instr.fill plS (sc (.int .i64 0) (.slice none 0 0) fun _ => false).toArray parts := by kernel_rfl
theorem built_piece (parts : List (Nat × Value)) : Tryz.prog.built 180 parts = Instr.fill plP pz.toArray parts := by kernel_rfl
theorem infoPiece : (Tryz.prog.info? 180).map (fun i => (i.zero, i.size, i.bytes)) = some (some (.agg pz.toArray), 261, 312) := by kernel_rfl
theorem infoWay : (Tryz.prog.info? 146).map (fun i => (i.zero, i.size, i.bytes)) = some (some (.slice none 0 0), 1, 24) := by kernel_rfl
theorem piece_row : ((Array.range (1 * 261)).map (pz.toArray[· % 261]!)) = pz.toArray := by kernel_rfl
theorem piece_fill (pc : List Value) (h : pc.length = 261) : Instr.fill (fun i => some (i * 261, 261)) ((Array.range (1 * 261)).map (pz.toArray[· % 261]!)) [(0, .agg pc.toArray)] = some pc.toArray := by
 rw [piece_row]
 have h1 := fill_one (fun i => some (i * 261, 261)) 0 (.agg pc.toArray) [] [] pz [] (by simp [pz_len]) (by simp [pz_len, Value.cells, h])
 simp only [List.append_nil, List.nil_append, Value.cells] at h1
 exact h1.trans rfl
theorem way_row : ((Array.range (1 * 1)).map ((#[Value.slice none 0 0] : Array Value)[· % 1]!)) = #[Value.slice none 0 0] := by kernel_rfl
theorem way_fill (v : Value) (hv : v.cells = #[v]) : Instr.fill (fun i => some (i * 1, 1)) ((Array.range (1 * 1)).map ((#[Value.slice none 0 0] : Array Value)[· % 1]!)) [(0, v)] = some #[v] := by
 rw [way_row]
 have h1 := fill_one (fun i => some (i * 1, 1)) 0 v [] [] [.slice none 0 0] [] rfl (by rw [hv]; rfl)
 rw [hv] at h1
 exact h1.trans rfl
theorem alloc_single (w : World) : (Instr.alloc 176 true (.tuple #[])).run Tryz.prog w = .ok (.pointer (some ⟨w.heap.size, 0, none⟩)) (w.alloc (.cells (sc (.int .i64 0) (.slice none 0 0) fun _ => false).toArray 176)) := by kernel_rfl
end Go.Proofs.YtnfojonmohijpabGreatDoor
namespace Go.Proofs.YtnfojonmohijpabGreatDoor
open Go.RowKit
inductive Kr where
 | single | piece | plist | way | wlist | ways
def repC : Option (Nat × Int) → List Value
 | none => [.bool false, .int .i64 0, .int .i64 0]
 | some (m, n) => [.bool true, .int .i64 m, .int .i64 n]
theorem repC_len (o : Option (Nat × Int)) : (repC o).length = 3 := by cases o <;> rfl
def okRep : Option (Nat × Int) → Prop
 | none => True
 | some (m, n) => m ≤ 5 ∧ (n = -1 ∨ ∃ k : Nat, n = k ∧ k ≤ 5)
theorem RepR.okRep {s : ByteArray} {j k : Nat} {o : Option (Nat × Int)} (h : RepR s j (.ok o k)) : okRep o := by
 rcases h with ⟨a, b, c, d, e⟩ | ⟨a, e⟩ | ⟨a, e⟩ | ⟨a, e⟩ | ⟨a, q1, n, e⟩
 ·cases e; trivial
 ·cases e; exact ⟨by omega, Or.inl rfl⟩
 ·cases e; exact ⟨by omega, Or.inl rfl⟩
 ·cases e; exact ⟨by omega, Or.inr ⟨1, rfl, by omega⟩⟩
 ·cases q1 with
  | bad l => cases e
  | ok m l =>
   have hl := (n.ok m l rfl).2.2.1 (by omega)
   rcases e with ⟨a, b, e⟩ | ⟨a, b, q2, n', e⟩ | ⟨a, e⟩
   ·cases e; exact ⟨hl, Or.inl rfl⟩
   ·cases q2 with
    | bad x => cases e
    | ok y x =>
     have hx := (n'.ok y x rfl).2.2.1 (by omega)
     simp only [Rep3] at e
     by_cases h5 : at' s x = 125
     ·rw [if_pos h5] at e; cases e; exact ⟨hl, Or.inr ⟨y, rfl, hx⟩⟩
     ·rw [if_neg h5] at e; cases e
   ·by_cases h5 : at' s l = 125
    ·rw [if_pos h5] at e; cases e; exact ⟨hl, Or.inr ⟨m, rfl, hl⟩⟩
    ·rw [if_neg h5] at e; cases e
inductive Rep (w : World) (S : Nat → Prop) : Kr → Pat → List Value → Prop
 | set (f : Nat → Bool) : Rep w S .single (.set f) (sc (.int .i64 0) (.slice none 0 0) f)
 | grp (k : Nat) (x : Pat) (v : Value) : 0 < k → k ≤ 9 → Rep w S .ways x [v] → Rep w S .single (.grp k x) (sc (.int .i64 k) v fun _ => false)
 | piece (x : Pat) (o : Option (Nat × Int)) (cs : List Value) : okRep o → Rep w S .single x cs → Rep w S .piece (withRep x o) (cs ++ repC o)
 | pnil : Rep w S .plist .pnil []
 | pcons (x r : Pat) (cs ds : List Value) : Rep w S .piece x cs → Rep w S .plist r ds → Rep w S .plist (.pcons x r) (cs ++ ds)
 | way (x : Pat) (cs : List Value) (v : Value) (n : Nat) : Rep w S .plist x cs → w.ownsRow 0 180 261 v n cs → (∀ g, v.ownBlock = some g → S g) → Rep w S .way x [v]
 | wone (x : Pat) (v : Value) : Rep w S .way x [v] → Rep w S .wlist (.wone x) [v]
 | wcons (x r : Pat) (v : Value) (vs : List Value) : Rep w S .way x [v] → Rep w S .wlist r vs → Rep w S .wlist (.wcons x r) (v :: vs)
 | ways (x : Pat) (vs : List Value) (v : Value) (n : Nat) : Rep w S .wlist x vs → w.ownsRow 0 146 1 v n vs → (∀ g, v.ownBlock = some g → S g) → Rep w S .ways x [v]
theorem Rep.keep {w w' : World} {S : Nat → Prop} {L : List Nat} (hk : Keeps L w w') (hs : ∀ g, S g → g ∉ L) {k : Kr} {x : Pat} {cs : List Value} (h : Rep w S k x cs) : Rep w' S k x cs := by
 induction h with
 | set f => exact .set f
 | grp k x v h0 h9 _ ih => exact .grp k x v h0 h9 ih
 | piece x o cs ho _ ih => exact .piece x o cs ho ih
 | pnil => exact .pnil
 | pcons x r cs ds _ _ i1 i2 => exact .pcons x r cs ds i1 i2
 | way x cs v n _ ho hp ih => exact .way x cs v n ih (ho.keep hk fun g hg => hs g (hp g hg)) hp
 | wone x v _ ih => exact .wone x v ih
 | wcons x r v vs _ _ i1 i2 => exact .wcons x r v vs i1 i2
 | ways x vs v n _ ho hp ih => exact .ways x vs v n ih (ho.keep hk fun g hg => hs g (hp g hg)) hp
theorem Rep.mono {w : World} {S S' : Nat → Prop} (hs : ∀ g, S g → g < w.heap.size → S' g) {k : Kr} {x : Pat} {cs : List Value} (h : Rep w S k x cs) : Rep w S' k x cs := by
 have hb : ∀ {e : TypeId} {size : Nat} {v : Value} {n : Nat} {xs : List Value}, w.ownsRow 0 e size v n xs → (∀ g, v.ownBlock = some g → S g) → ∀ g, v.ownBlock = some g → S' g := fun ho hp g hg => hs g (hp g hg) (ho.lt g hg).2
 induction h with
 | set f => exact .set f
 | grp k x v h0 h9 _ ih => exact .grp k x v h0 h9 ih
 | piece x o cs ho _ ih => exact .piece x o cs ho ih
 | pnil => exact .pnil
 | pcons x r cs ds _ _ i1 i2 => exact .pcons x r cs ds i1 i2
 | way x cs v n _ ho hp ih => exact .way x cs v n ih ho (hb ho hp)
 | wone x v _ ih => exact .wone x v ih
 | wcons x r v vs _ _ i1 i2 => exact .wcons x r v vs i1 i2
 | ways x vs v n _ ho hp ih => exact .ways x vs v n ih ho (hb ho hp)
theorem ownsRow_one {w : World} {e : TypeId} {size : Nat} {v : Value} {n : Nat} {xs : List Value} (h : w.ownsRow 0 e size v n xs) : v.oneCell' = true ∧ v.cells = #[v] := by
 rcases h.2 with ⟨rfl, _⟩ | ⟨g, cap, cur, rfl, _⟩ <;> exact ⟨rfl, rfl⟩
theorem Rep.cells {w : World} {S : Nat → Prop} {k : Kr} {x : Pat} {cs : List Value} (h : Rep w S k x cs) :
    (∀ u ∈ cs, u.oneCell' = true) ∧ (match k with | .single => cs.length = 258 | .piece => cs.length = 261 | .way => ∃ v, cs = [v] ∧ v.cells = #[v] | .ways => ∃ v, cs = [v] ∧ v.cells = #[v] | _ => True) := by
 have hc : ∀ f : Nat → Bool, ∀ u ∈ (hcells f).toList, u.oneCell' = true := by
  intro f u hu
  rw [hcells, Array.toList_ofFn, List.mem_ofFn] at hu
  obtain ⟨i, rfl⟩ := hu
  rfl
 induction h with
 | set f =>
  refine ⟨?_, sc_len _ _ _⟩
  intro u hu
  simp only [sc, List.mem_cons] at hu
  rcases hu with rfl | rfl | hu
  ·rfl
  ·rfl
  ·exact hc f u hu
 | grp k x v _ _ _ ih =>
  refine ⟨?_, sc_len _ _ _⟩
  intro u hu
  simp only [sc, List.mem_cons] at hu
  rcases hu with rfl | rfl | hu
  ·rfl
  ·exact ih.1 _ (by simp)
  ·exact hc _ u hu
 | piece x o cs _ _ ih =>
  refine ⟨?_, ?_⟩
  ·intro u hu
   rcases List.mem_append.1 hu with hu | hu
   ·exact ih.1 u hu
   ·cases o with
    | none => simp [repC] at hu; rcases hu with rfl | rfl <;> rfl
    | some p => simp [repC] at hu; rcases hu with rfl | rfl | rfl <;> rfl
  ·have := ih.2
   simp only [List.length_append, repC_len] at this ⊢
   omega
 | pnil => exact ⟨by simp, trivial⟩
 | pcons x r cs ds _ _ i1 i2 =>
  refine ⟨?_, trivial⟩
  intro u hu
  rcases List.mem_append.1 hu with hu | hu
  ·exact i1.1 u hu
  ·exact i2.1 u hu
 | way x cs v n _ ho hp ih => exact ⟨by simpa using (ownsRow_one ho).1, v, rfl, (ownsRow_one ho).2⟩
 | wone x v _ ih => exact ⟨ih.1, trivial⟩
 | wcons x r v vs _ _ i1 i2 =>
  refine ⟨?_, trivial⟩
  intro u hu
  rcases List.mem_cons.1 hu with rfl | hu
  ·exact i1.1 _ (by simp)
  ·exact i2.1 u hu
 | ways x vs v n _ ho hp ih => exact ⟨by simpa using (ownsRow_one ho).1, v, rfl, (ownsRow_one ho).2⟩
end Go.Proofs.YtnfojonmohijpabGreatDoor
namespace Go.Proofs.YtnfojonmohijpabGreatDoor
open Go.RowKit
def RRow (w : World) (g : Nat) (cs : List Value) : Prop := w.heap[g]? = some (.cells cs.toArray 178 (0, 0))
theorem RRow.keep {w w' : World} {g : Nat} {cs : List Value} {S : List Nat} (h : RRow w g cs) (hk : Keeps S w w') (hb : g ∉ S) : RRow w' g cs := (hk.block g (Array.getElem?_eq_some_iff.1 h).1 hb).trans h
theorem infoRepC {a b c : Value} : (Tryz.prog.info? 178).map (·.size) = some (#[a, b, c] : Array Value).size := by kernel_rfl
theorem rep_one (o : Bool) (m n : Int) : (#[Value.bool o, Value.int .i64 m, Value.int .i64 n] : Array Value).all (·.oneCell') = true := by simp [Value.oneCell']
theorem repO_size (o : Option (Nat × Int)) : (repC o).toArray.size = 3 := by simp [repC_len]
theorem infoRepO (o : Option (Nat × Int)) : (Tryz.prog.info? 178).map (·.size) = some (repC o).toArray.size := by rw [repO_size]; kernel_rfl
theorem repO_one (o : Option (Nat × Int)) : (repC o).toArray.all (·.oneCell') = true := by cases o <;> simp [repC, Value.oneCell']
theorem alloc_rep (w : World) : (Instr.alloc 178 true (.tuple #[])).run Tryz.prog w = .ok (.pointer (some ⟨w.heap.size, 0, none⟩)) (w.alloc (.cells (repC none).toArray 178)) := by kernel_rfl
theorem wpList_zeroRep {ops : Array Oper} {rest : List Oper} {o : Oper} {a : Act} {w : World} {Q : Exit → Act → World → Prop} (hg : o.guard = none) (ho : o.op = .alloc 178) (d : Option Tmp) (hd : o.dst = d)
    (h : wpList Tryz.prog ops Q rest (a.put d (.pointer (some ⟨w.heap.size, 0, none⟩))) (w.alloc (.cells (repC none).toArray 178))) : wpList Tryz.prog ops Q (o :: rest) a w := by
 subst hd
 refine wpList_plain hg fun K hK => ?_
 unfold Oper.wp execOp
 simp only [ho, Sem.run_bind, alloc_rep, Sem.run_pure, Result.andThen_ok]
 exact hK _ _ h
def RepPost (b : Nat) (p : QS) (w : World) (q : R (Option (Nat × Int))) (e : Ending) (w' : World) : Prop :=
 Keeps [b] w w' ∧ match q with
  | .ok o j => e = .returned (.agg (repC o).toArray) ∧ QB w' b { p with ix := j }
  | .bad j => e = fault j
set_option maxRecDepth 100000 in
set_option maxHeartbeats 2000000 in
theorem counted_prog (b : Nat) (p : QS) (w : World) (hp : QB w b p) (hs : p.s.size ≤ 60) (hle : p.ix ≤ p.s.size) (q1 : R Nat) (hq1 : NumL p.s 0 0 false p.ix q1) (q : R (Option (Nat × Int))) (hq : Rep2 p.s q1 q) :
    Calls Tryz.prog 160 #[.pointer (some ⟨b, 0, none⟩)] w (RepPost b p w q) := by
 have hbl := hp.lt
 have hr0 : RRow (w.alloc (.cells (repC none).toArray 178)) w.heap.size (repC none) := heap_alloc_new w _
 have hk0 : Keeps [b] w (w.alloc (.cells (repC none).toArray 178)) := (Keeps.refl [b] w).alloc _
 have hq0 : QB (w.alloc (.cells (repC none).toArray 178)) b p := hp.keep ((Keeps.refl [] w).alloc _) (by simp)
 obtain ⟨g, hg⟩ : ∃ g, w.heap.size = g := ⟨_, rfl⟩
 clear hp
 go_enter Tryz.func160, Tryz.ntmps160
 go_wp2_with (first | (refine wpList_zeroRep rfl rfl (some 2) rfl ?_; generalize w.alloc (.cells (repC none).toArray 178) = W at *))
 rw [hg] at hr0 hbl
 refine (number_prog b p 0 _ hq0 hs hle q1 hq1).mono ?_
 rintro e w1 ⟨hk1, hc1⟩
 have hkA : Keeps [b] w w1 := hk0.trans hk1
 have hr1 := hr0.keep hk1 (by simp; omega)
 cases q1 with
 | bad k =>
  subst hc1
  have hq' : q = .bad k := hq
  subst hq'
  simp only [fault]
  exact ⟨rfl, hkA, rfl⟩
 | ok m k =>
  obtain ⟨rfl, hqA⟩ := hc1
  have hok := hq1.ok m k rfl
  have hkle : k ≤ p.s.size := hok.2.1 hle
  have hm5 : m ≤ 5 := hok.2.2.1 (by omega)
  clear hq1 hq0 hr0 hk0 hk1 hok
  go_wp2_with fail
  refine (skip_any b { p with ix := k } 44 (by omega) _ hqA hkle hs).mono ?_
  rintro e w2 ⟨rfl, hqB, hk2⟩
  have hkB : Keeps [b] w w2 := hkA.trans hk2
  have hr2 := hr1.keep hk2 (by simp; omega)
  clear hqA hkA hr1 hk2
  by_cases h44 : at' p.s k = 44
  ·obtain ⟨e1, e2⟩ := took_yes (p := { p with ix := k }) h44
   rw [e1]
   rw [e2] at hqB
   have hk1le : k + 1 ≤ p.s.size := at'_nn (by omega)
   clear e1 e2
   go_wp2_with fail
   refine (ahead_any b { p with ix := k + 1 } 125 (by omega) _ hqB hk1le hs).mono ?_
   rintro e w3 ⟨rfl, hqC, hk3⟩
   have hkC : Keeps [b] w w3 := hkB.trans (hk3.mono (by simp))
   have hr3 := hr2.keep hk3 (by simp)
   by_cases h125 : at' p.s (k + 1) = 125
   ·have hd : decide (QS.cur { p with ix := k + 1 } = 125) = true := by simpa using (show QS.cur { p with ix := k + 1 } = 125 from h125)
    rw [hd]
    have he : q = .ok (some (m, -1)) (k + 2) := by
     rcases hq with ⟨_, _, e⟩ | ⟨_, h, _⟩ | ⟨h, _⟩
     ·exact e
     ·exact absurd h125 h
     ·exact absurd h44 h
    subst he
    have H125 : at' p.s (k + 1) = 125 := h125
    clear hq h125 hd
    have HX : Hid (at' p.s (k + 1) = 125) := H125
    go_wp2_with fail
    refine (expect_any b { p with ix := (k + 1) } 125 (by omega) _ hqC hk1le hs).mono ?_
    rintro e wf ⟨hkf, hcf⟩
    have hkF : Keeps [b] w wf := hkC.trans hkf
    have hrF : RRow wf g (repC none) := hr3.keep hkf (by simp; omega)
    by_cases hE : at' p.s (k + 1) = 125
    ·rw [show needS (QS.s { p with ix := (k + 1) }) 125 (QS.ix { p with ix := (k + 1) }) = .ok () ((k + 1) + 1) from if_pos hE] at hcf
     obtain ⟨rfl, hqF⟩ := hcf
     skip
     clear hE
     go_wp2_with (first | (refine wpList_store_row rfl 178 _ _ rfl g _ rfl rfl _ _ hrF infoRepC rfl (rep_one _ _ _) ?_))
     refine bodyPost_ret (results_cell_row rfl _ _ g _ _ _ _ rfl (setRow_heap _ _ _ _ _ _ hrF) Tryz.underlying178 rfl infoRepC) rfl ?_
     exact ⟨hkF.setRow (Or.inr (by omega)) _, rfl, hqF.keep ((Keeps.refl [g] wf).setRow (by simp) _) (by simp; omega)⟩
    ·rw [show needS (QS.s { p with ix := (k + 1) }) 125 (QS.ix { p with ix := (k + 1) }) = .bad (k + 1) from if_neg hE] at hcf
     subst hcf
     exact absurd HX.out hE
   ·have hd : decide (QS.cur { p with ix := k + 1 } = 125) = false := by simpa using (show ¬ QS.cur { p with ix := k + 1 } = 125 from h125)
    rw [hd]
    obtain ⟨q2, hN2, hR3⟩ : ∃ q2, NumL p.s m 0 false (k + 1) q2 ∧ Rep3 p.s m q2 q := by
     rcases hq with ⟨_, h, _⟩ | ⟨_, _, q2, h1, h2⟩ | ⟨h, _⟩
     ·exact absurd h h125
     ·exact ⟨q2, h1, h2⟩
     ·exact absurd h44 h
    clear hq h125 hd
    go_wp2_with fail
    refine (number_prog b { p with ix := k + 1 } m _ hqC hs hk1le q2 hN2).mono ?_
    rintro e w4 ⟨hk4, hc4⟩
    have hkD : Keeps [b] w w4 := hkC.trans hk4
    have hr4 := hr3.keep hk4 (by simp; omega)
    cases q2 with
    | bad l =>
     subst hc4
     have hq' : q = .bad l := hR3
     subst hq'
     simp only [fault]
     exact ⟨rfl, hkD, rfl⟩
    | ok n l =>
     obtain ⟨rfl, hqD⟩ := hc4
     have hlle : l ≤ p.s.size := (hN2.ok n l rfl).2.1 hk1le
     have HE : Hid (q = if at' p.s l = 125 then .ok (some (m, (n : Int))) (l + 1) else .bad l) := hR3
     clear hN2 hR3
     go_wp2_with fail
     refine (expect_any b { p with ix := l } 125 (by omega) _ hqD hlle hs).mono ?_
     rintro e wf ⟨hkf, hcf⟩
     have hkF : Keeps [b] w wf := hkD.trans hkf
     have hrF : RRow wf g (repC none) := hr4.keep hkf (by simp; omega)
     by_cases hE : at' p.s l = 125
     ·rw [show needS (QS.s { p with ix := l }) 125 (QS.ix { p with ix := l }) = .ok () (l + 1) from if_pos hE] at hcf
      obtain ⟨rfl, hqF⟩ := hcf
      have he := HE.out; rw [if_pos hE] at he; subst he
      clear hE
      go_wp2_with (first | (refine wpList_store_row rfl 178 _ _ rfl g _ rfl rfl _ _ hrF infoRepC rfl (rep_one _ _ _) ?_))
      refine bodyPost_ret (results_cell_row rfl _ _ g _ _ _ _ rfl (setRow_heap _ _ _ _ _ _ hrF) Tryz.underlying178 rfl infoRepC) rfl ?_
      exact ⟨hkF.setRow (Or.inr (by omega)) _, rfl, hqF.keep ((Keeps.refl [g] wf).setRow (by simp) _) (by simp; omega)⟩
     ·rw [show needS (QS.s { p with ix := l }) 125 (QS.ix { p with ix := l }) = .bad l from if_neg hE] at hcf
      subst hcf
      have he := HE.out; rw [if_neg hE] at he; subst he
      simp only [fault]
      exact ⟨rfl, hkF, rfl⟩
  ·obtain ⟨e1, e2⟩ := took_no (p := { p with ix := k }) h44
   rw [e1]
   rw [e2] at hqB
   have HE : Hid (q = if at' p.s k = 125 then .ok (some (m, (m : Int))) (k + 1) else .bad k) := by
    show q = if at' p.s k = 125 then .ok (some (m, (m : Int))) (k + 1) else .bad k
    rcases hq with ⟨h, _⟩ | ⟨h, _⟩ | ⟨_, h⟩
    ·exact absurd h h44
    ·exact absurd h h44
    ·exact h
   clear e1 e2 hq
   go_wp2_with fail
   refine (expect_any b { p with ix := k } 125 (by omega) _ hqB hkle hs).mono ?_
   rintro e wf ⟨hkf, hcf⟩
   have hkF : Keeps [b] w wf := hkB.trans hkf
   have hrF : RRow wf g (repC none) := hr2.keep hkf (by simp; omega)
   by_cases hE : at' p.s k = 125
   ·rw [show needS (QS.s { p with ix := k }) 125 (QS.ix { p with ix := k }) = .ok () (k + 1) from if_pos hE] at hcf
    obtain ⟨rfl, hqF⟩ := hcf
    have he := HE.out; rw [if_pos hE] at he; subst he
    clear hE
    go_wp2_with (first | (refine wpList_store_row rfl 178 _ _ rfl g _ rfl rfl _ _ hrF infoRepC rfl (rep_one _ _ _) ?_))
    refine bodyPost_ret (results_cell_row rfl _ _ g _ _ _ _ rfl (setRow_heap _ _ _ _ _ _ hrF) Tryz.underlying178 rfl infoRepC) rfl ?_
    exact ⟨hkF.setRow (Or.inr (by omega)) _, rfl, hqF.keep ((Keeps.refl [g] wf).setRow (by simp) _) (by simp; omega)⟩
   ·rw [show needS (QS.s { p with ix := k }) 125 (QS.ix { p with ix := k }) = .bad k from if_neg hE] at hcf
    subst hcf
    have he := HE.out; rw [if_neg hE] at he; subst he
    simp only [fault]
    exact ⟨rfl, hkF, rfl⟩
set_option maxRecDepth 100000 in
set_option maxHeartbeats 2000000 in
theorem repeat_prog (b : Nat) (p : QS) (w : World) (hp : QB w b p) (hs : p.s.size ≤ 60) (hle : p.ix ≤ p.s.size) (q : R (Option (Nat × Int))) (hq : RepR p.s p.ix q) :
    Calls Tryz.prog 125 #[.pointer (some ⟨b, 0, none⟩)] w (RepPost b p w q) := by
 have hbl := hp.lt
 have hr0 : RRow (w.alloc (.cells (repC none).toArray 178)) w.heap.size (repC none) := heap_alloc_new w _
 have hk0 : Keeps [b] w (w.alloc (.cells (repC none).toArray 178)) := (Keeps.refl [b] w).alloc _
 have hq0 : QB (w.alloc (.cells (repC none).toArray 178)) b p := hp.keep ((Keeps.refl [] w).alloc _) (by simp)
 obtain ⟨g, hg⟩ : ∃ g, w.heap.size = g := ⟨_, rfl⟩
 clear hp
 go_enter Tryz.func125, Tryz.ntmps125
 go_wp2_with (first | (refine wpList_zeroRep rfl rfl (some 2) rfl ?_; generalize w.alloc (.cells (repC none).toArray 178) = W at *))
 rw [hg] at hr0 hbl
 refine (skip_any b p 42 (by omega) _ hq0 hle hs).mono ?_
 rintro e w1 ⟨rfl, hqa1, hk1⟩
 have hkk1 : Keeps [b] w w1 := hk0.trans hk1
 have hr1 := hr0.keep hk1 (by simp; omega)
 by_cases h42 : at' p.s p.ix = 42
 ·obtain ⟨e1, e2⟩ := took_yes (p := p) h42
  rw [e1]
  rw [e2] at hqa1
  have he : q = .ok (some (0, -1)) (p.ix + 1) := RepR.det hq (Or.inr (Or.inl ⟨h42, rfl⟩))
  subst he
  clear hq h42 e1 e2
  go_wp2_with (first | (refine wpList_store_row rfl 178 _ _ rfl g _ rfl rfl _ _ hr1 infoRepC rfl (rep_one _ _ _) ?_))
  refine bodyPost_ret (results_cell_row rfl _ _ g _ _ _ _ rfl (setRow_heap _ _ _ _ _ _ hr1) Tryz.underlying178 rfl infoRepC) rfl ?_
  exact ⟨hkk1.setRow (Or.inr (by omega)) _, rfl, hqa1.keep ((Keeps.refl [g] _).setRow (by simp) _) (by simp; omega)⟩
 ·obtain ⟨e1, e2⟩ := took_no (p := p) h42
  rw [e1]
  rw [e2] at hqa1
  have hq1 := hqa1
  clear e1 e2
  go_wp2_with fail
  refine (skip_any b p 43 (by omega) _ hq1 hle hs).mono ?_
  rintro e w2 ⟨rfl, hqa2, hk2⟩
  have hkk2 : Keeps [b] w w2 := hkk1.trans hk2
  have hr2 := hr1.keep hk2 (by simp; omega)
  by_cases h43 : at' p.s p.ix = 43
  ·obtain ⟨e1, e2⟩ := took_yes (p := p) h43
   rw [e1]
   rw [e2] at hqa2
   have he : q = .ok (some (1, -1)) (p.ix + 1) := RepR.det hq (Or.inr (Or.inr (Or.inl ⟨h43, rfl⟩)))
   subst he
   clear hq h43 e1 e2
   go_wp2_with (first | (refine wpList_store_row rfl 178 _ _ rfl g _ rfl rfl _ _ hr2 infoRepC rfl (rep_one _ _ _) ?_))
   refine bodyPost_ret (results_cell_row rfl _ _ g _ _ _ _ rfl (setRow_heap _ _ _ _ _ _ hr2) Tryz.underlying178 rfl infoRepC) rfl ?_
   exact ⟨hkk2.setRow (Or.inr (by omega)) _, rfl, hqa2.keep ((Keeps.refl [g] _).setRow (by simp) _) (by simp; omega)⟩
  ·obtain ⟨e1, e2⟩ := took_no (p := p) h43
   rw [e1]
   rw [e2] at hqa2
   have hq2 := hqa2
   clear e1 e2
   go_wp2_with fail
   refine (skip_any b p 63 (by omega) _ hq2 hle hs).mono ?_
   rintro e w3 ⟨rfl, hqa3, hk3⟩
   have hkk3 : Keeps [b] w w3 := hkk2.trans hk3
   have hr3 := hr2.keep hk3 (by simp; omega)
   by_cases h63 : at' p.s p.ix = 63
   ·obtain ⟨e1, e2⟩ := took_yes (p := p) h63
    rw [e1]
    rw [e2] at hqa3
    have he : q = .ok (some (0, 1)) (p.ix + 1) := RepR.det hq (Or.inr (Or.inr (Or.inr (Or.inl ⟨h63, rfl⟩))))
    subst he
    clear hq h63 e1 e2
    go_wp2_with (first | (refine wpList_store_row rfl 178 _ _ rfl g _ rfl rfl _ _ hr3 infoRepC rfl (rep_one _ _ _) ?_))
    refine bodyPost_ret (results_cell_row rfl _ _ g _ _ _ _ rfl (setRow_heap _ _ _ _ _ _ hr3) Tryz.underlying178 rfl infoRepC) rfl ?_
    exact ⟨hkk3.setRow (Or.inr (by omega)) _, rfl, hqa3.keep ((Keeps.refl [g] _).setRow (by simp) _) (by simp; omega)⟩
   ·obtain ⟨e1, e2⟩ := took_no (p := p) h63
    rw [e1]
    rw [e2] at hqa3
    have hq3 := hqa3
    clear e1 e2
    go_wp2_with fail
    refine (skip_any b p 123 (by omega) _ hq3 hle hs).mono ?_
    rintro e w4 ⟨rfl, hqa4, hk4⟩
    have hkk4 : Keeps [b] w w4 := hkk3.trans hk4
    have hr4 := hr3.keep hk4 (by simp; omega)
    by_cases h123 : at' p.s p.ix = 123
    ·obtain ⟨e1, e2⟩ := took_yes (p := p) h123
     rw [e1]
     rw [e2] at hqa4
     obtain ⟨q1, hN, hR2⟩ : ∃ q1, NumL p.s 0 0 false (p.ix + 1) q1 ∧ Rep2 p.s q1 q := by
      rcases hq with ⟨_, _, _, h, _⟩ | ⟨h, _⟩ | ⟨h, _⟩ | ⟨h, _⟩ | ⟨_, q1, h1, h2⟩
      ·exact absurd h123 h
      ·omega
      ·omega
      ·omega
      ·exact ⟨q1, h1, h2⟩
     have hle1 : p.ix + 1 ≤ p.s.size := at'_nn (by omega)
     clear hq h123 e1 e2
     go_wp2_with fail
     refine (counted_prog b { p with ix := p.ix + 1 } _ hqa4 hs hle1 q1 hN q hR2).mono ?_
     rintro e w5 ⟨hk5, hc5⟩
     have hkk5 : Keeps [b] w w5 := hkk4.trans hk5
     have hr5 := hr4.keep hk5 (by simp; omega)
     cases q with
     | bad j =>
      subst hc5
      simp only [fault]
      exact ⟨rfl, hkk5, rfl⟩
     | ok o j =>
      obtain ⟨rfl, hq5⟩ := hc5
      go_wp2_with (first | (refine wpList_store_row rfl 178 _ _ rfl g _ rfl rfl _ _ hr5 (infoRepO o) (by rw [repO_size, repO_size]) (repO_one o) ?_))
      refine bodyPost_ret (results_cell_row rfl _ _ g _ _ _ _ rfl (setRow_heap _ _ _ _ _ _ hr5) Tryz.underlying178 rfl (infoRepO o)) rfl ?_
      exact ⟨hkk5.setRow (Or.inr (by omega)) _, rfl, hq5.keep ((Keeps.refl [g] _).setRow (by simp) _) (by simp; omega)⟩
    ·obtain ⟨e1, e2⟩ := took_no (p := p) h123
     rw [e1]
     rw [e2] at hqa4
     have hq4 := hqa4
     clear e1 e2
     have he : q = .ok none p.ix := RepR.det hq (Or.inl ⟨h42, h43, h63, h123, rfl⟩)
     subst he
     clear hq h42 h43 h63 h123
     go_wp2_with (first | (refine wpList_store_row rfl 178 _ _ rfl g _ rfl rfl _ _ hr4 infoRepC rfl (rep_one _ _ _) ?_))
     refine bodyPost_ret (results_cell_row rfl _ _ g _ _ _ _ rfl (setRow_heap _ _ _ _ _ _ hr4) Tryz.underlying178 rfl infoRepC) rfl ?_
     exact ⟨hkk4.setRow (Or.inr (by omega)) _, rfl, hqa4.keep ((Keeps.refl [g] _).setRow (by simp) _) (by simp; omega)⟩
end Go.Proofs.YtnfojonmohijpabGreatDoor
