/-
  DERIVED. Plain mathematics: how a set is read, as relations on bytes, and that they are functions. Nothing of the program stands here.
-/
import Derived.Test.YtnfojonmohijpaaGreatDoorJSpec
set_option linter.unusedSimpArgs false
set_option linter.unusedVariables false
namespace Go.Proofs.YtnfojonmohijpaaGreatDoor
def classS (s : ByteArray) (i : Nat) : R Nat := (needS s 58 (i + 1)).bind fun _ j => (clsS s 6 [] j).bind fun k j => (needS s 58 j).bind fun _ j => (needS s 93 j).bind fun _ j => .ok k j
def stretch (a c : Int) : Nat → Bool := fun n => decide (a ≤ (n : Int)) && decide ((n : Int) ≤ c)
def rangeS (s : ByteArray) (i : Nat) : R (Nat → Bool) :=
 if at' s i = 91 then (classS s i).bind fun k j => .ok (fun n => clsB k n) j
 else (innS s 0 i).bind fun a j => if at' s j = 45 then (innS s a (j + 1)).bind fun c k => .ok (stretch a c) k else .ok (stretch a a) j
inductive SetL (s : ByteArray) : (Nat → Bool) → Nat → R (Nat → Bool) → Prop
 | done (f : Nat → Bool) (i : Nat) : at' s i = 93 → SetL s f i (.ok f (i + 1))
 | more (f r : Nat → Bool) (i j : Nat) (q : R (Nat → Bool)) : at' s i ≠ 93 → rangeS s i = .ok r j → SetL s (fun n => f n || r n) j q → SetL s f i q
 | bad (f : Nat → Bool) (i j : Nat) : at' s i ≠ 93 → rangeS s i = .bad j → SetL s f i (.bad j)
theorem SetL.det {s : ByteArray} {f : Nat → Bool} {i : Nat} {q q' : R (Nat → Bool)} (h : SetL s f i q) (h' : SetL s f i q') : q = q' := by
 induction h with
 | done f i e => cases h' with
  | done => rfl
  | more _ _ _ _ _ e' => exact absurd e e'
  | bad _ _ _ e' => exact absurd e e'
 | more f r i j q e e2 _ ih => cases h' with
  | done _ _ e' => exact absurd e' e
  | more _ r' _ j' _ _ e2' hl =>
   rw [e2] at e2'
   cases e2'
   exact ih hl
  | bad _ _ _ _ e2' => rw [e2] at e2'; cases e2'
 | bad f i j e e2 => cases h' with
  | done _ _ e' => exact absurd e' e
  | more _ r' _ j' _ _ e2' hl => rw [e2] at e2'; cases e2'
  | bad _ _ _ _ e2' => rw [e2] at e2'; cases e2'; rfl
inductive SetU (s : ByteArray) : Nat → R (Nat → Bool) → Prop
 | go (r : Nat → Bool) (i j : Nat) (q : R (Nat → Bool)) : rangeS s i = .ok r j → SetL s r j q → SetU s i q
 | bad (i j : Nat) : rangeS s i = .bad j → SetU s i (.bad j)
theorem SetU.det {s : ByteArray} {i : Nat} {q q' : R (Nat → Bool)} (h : SetU s i q) (h' : SetU s i q') : q = q' := by
 cases h with
 | go r _ j _ e hl => cases h' with
  | go r' _ j' _ e' hl' => rw [e] at e'; cases e'; exact hl.det hl'
  | bad _ _ e' => rw [e] at e'; cases e'
 | bad _ j e => cases h' with
  | go r' _ j' _ e' hl' => rw [e] at e'; cases e'
  | bad _ _ e' => rw [e] at e'; cases e'; rfl
def R.map {α β : Type} (f : α → β) : R α → R β
 | .ok a i => .ok (f a) i
 | .bad i => .bad i
def SetR (s : ByteArray) (i : Nat) (q : R (Nat → Bool)) : Prop :=
 (at' s i = 94 ∧ ∃ q', SetU s (i + 1) q' ∧ q = q'.map (fun f n => !f n)) ∨ (at' s i ≠ 94 ∧ SetU s i q)
theorem SetR.det {s : ByteArray} {i : Nat} {q q' : R (Nat → Bool)} (h : SetR s i q) (h' : SetR s i q') : q = q' := by
 rcases h with ⟨e, r, hr, rfl⟩ | ⟨e, hr⟩ <;> rcases h' with ⟨e', r', hr', rfl⟩ | ⟨e', hr'⟩
 ·rw [hr.det hr']
 ·exact absurd e e'
 ·exact absurd e' e
 ·exact hr.det hr'
theorem hexS_ok {s : ByteArray} {ahead least a : Int} {last : Bool} {i j : Nat} (h : hexS s ahead last least i = .ok a j) : j = i + 1 ∧ 0 ≤ a ∧ a ≤ 15 ∧ i < s.size ∧ least ≤ (if last then ahead + a else 16 * (ahead + a) + 15) := by
 unfold hexS at h
 by_cases hn : hexd (at' s i) < 0 ∨ (if last then ahead + hexd (at' s i) else 16 * (ahead + hexd (at' s i)) + 15) < least
 ·rw [if_pos hn] at h; cases h
 ·rw [if_neg hn] at h
  have hd := hexd_bd (at' s i)
  injection h with h1 h2
  subst h1
  have : 0 ≤ at' s i := by
   by_cases hh : 0 ≤ at' s i
   ·exact hh
   ·exfalso; apply hn; left
    unfold hexd; rw [if_neg (by omega), if_neg (by omega)]; omega
  have := at'_nn this
  refine ⟨h2.symm, ?_, hd.2, this, ?_⟩
  ·omega
  ·exact Int.not_lt.1 fun hh => hn (Or.inr hh)
theorem hexS_bad {s : ByteArray} {ahead least : Int} {last : Bool} {i j : Nat} (h : hexS s ahead last least i = .bad j) : j = i := by
 unfold hexS at h
 by_cases hn : hexd (at' s i) < 0 ∨ (if last then ahead + hexd (at' s i) else 16 * (ahead + hexd (at' s i)) + 15) < least
 ·rw [if_pos hn] at h; injection h with h; exact h.symm
 ·rw [if_neg hn] at h; cases h
def hexPS (s : ByteArray) (least : Int) (i : Nat) : R Int := (hexS s 0 false least i).bind fun a j => (hexS s (16 * a) true least j).bind fun b k => .ok (16 * a + b) k
theorem escS_x {s : ByteArray} {least : Int} {i : Nat} (h : at' s i = 120) : escS s least i = hexPS s least (i + 1) := by
 unfold escS hexPS; rw [if_pos h]
theorem escS_ok {s : ByteArray} {least a : Int} {i j : Nat} (h : escS s least i = .ok a j) : i < j ∧ j ≤ s.size ∧ 0 ≤ a ∧ a ≤ 255 := by
 by_cases hx : at' s i = 120
 ·rw [escS_x hx] at h
  unfold hexPS at h
  cases r1 : hexS s 0 false least (i + 1) with
  | bad k => rw [r1] at h; cases h
  | ok x k =>
   rw [r1] at h
   obtain ⟨rfl, hx0, hx1, hlt, _⟩ := hexS_ok r1
   simp only [R.bind] at h
   cases r2 : hexS s (16 * x) true least (i + 1 + 1) with
   | bad k => rw [r2] at h; cases h
   | ok y k =>
    rw [r2] at h
    obtain ⟨rfl, hy0, hy1, hlt2, _⟩ := hexS_ok r2
    injection h with h1 h2
    subst h1 h2
    omega
 ·unfold escS at h
  rw [if_neg hx] at h
  by_cases hc : at' s i < 0 ∨ alnB (at' s i) = true ∨ at' s i < least
  ·rw [if_pos hc] at h; cases h
  ·rw [if_neg hc] at h
   injection h with h1 h2
   subst h1 h2
   have h0 : 0 ≤ at' s i := by
    apply Int.not_lt.1; intro hh; exact hc (Or.inl hh)
   have := at'_nn h0
   have := at'_bd s i
   omega
theorem innS_ok {s : ByteArray} {least a : Int} {i j : Nat} (h : innS s least i = .ok a j) : i < j ∧ j ≤ s.size ∧ 0 ≤ a ∧ a ≤ 255 := by
 unfold innS at h
 by_cases hx : at' s i = 92
 ·rw [if_pos hx] at h
  have := escS_ok h
  omega
 ·rw [if_neg hx] at h
  by_cases hc : at' s i < 0 ∨ at' s i = 91 ∨ at' s i = 93 ∨ at' s i = 45 ∨ at' s i = 94 ∨ at' s i < least
  ·rw [if_pos hc] at h; cases h
  ·rw [if_neg hc] at h
   injection h with h1 h2
   subst h1 h2
   have h0 : 0 ≤ at' s i := by omega
   have := at'_nn h0
   have := at'_bd s i
   omega
theorem goesOn_nn {word : List UInt8} {c : Int} (h : goesOn word c = true) : 0 ≤ c := by
 unfold goesOn at h
 simp only [List.any_eq_true, Bool.and_eq_true, decide_eq_true_eq] at h
 obtain ⟨n, _, _, hc⟩ := h
 omega
theorem clsS_ok {s : ByteArray} (f : Nat) : ∀ {word : List UInt8} {i j k : Nat}, clsS s f word i = .ok k j → i ≤ j ∧ (i ≤ s.size → j ≤ s.size) ∧ k < 7 := by
 induction f with
 | zero => intro word i j k h; cases h
 | succ f ih =>
  intro word i j k h
  rw [clsS] at h
  cases hf : names.findIdx? (· = word) with
  | some m =>
   rw [hf] at h
   injection h with h1 h2
   subst h1 h2
   rw [List.findIdx?_eq_some_iff_getElem] at hf
   obtain ⟨hm, _⟩ := hf
   exact ⟨Nat.le_refl _, id, hm⟩
  | none =>
   rw [hf] at h
   dsimp only at h
   by_cases hg : goesOn word (at' s i) = true
   ·rw [if_pos hg] at h
    have := ih h
    have := at'_nn (goesOn_nn hg)
    omega
   ·rw [if_neg hg] at h; cases h
theorem needS_ok {s : ByteArray} {c : Int} {i j : Nat} {u : Unit} (h : needS s c i = .ok u j) : j = i + 1 ∧ at' s i = c := by
 unfold needS at h
 by_cases hc : at' s i = c
 ·rw [if_pos hc] at h; injection h with h1 h2; exact ⟨h2.symm, hc⟩
 ·rw [if_neg hc] at h; cases h
theorem classS_ok {s : ByteArray} {i j k : Nat} (h : classS s i = .ok k j) : i < j ∧ j ≤ s.size ∧ k < 7 := by
 unfold classS at h
 cases h1 : needS s 58 (i + 1) with
 | bad x => rw [h1] at h; cases h
 | ok u x =>
  rw [h1] at h
  obtain ⟨rfl, e1⟩ := needS_ok h1
  have l1 := at'_nn (s := s) (i := i + 1) (by omega)
  simp only [R.bind] at h
  cases h2 : clsS s 6 [] (i + 1 + 1) with
  | bad x => rw [h2] at h; cases h
  | ok m x =>
   rw [h2] at h
   have := clsS_ok 6 h2
   simp only at h
   cases h3 : needS s 58 x with
   | bad y => rw [h3] at h; cases h
   | ok u y =>
    rw [h3] at h
    obtain ⟨rfl, e3⟩ := needS_ok h3
    simp only at h
    cases h4 : needS s 93 (x + 1) with
    | bad y => rw [h4] at h; cases h
    | ok u y =>
     rw [h4] at h
     obtain ⟨rfl, e4⟩ := needS_ok h4
     have l4 := at'_nn (s := s) (i := x + 1) (by omega)
     simp only at h
     injection h with ha hb
     subst ha hb
     omega
theorem rangeS_ok {s : ByteArray} {i j : Nat} {r : Nat → Bool} (h : rangeS s i = .ok r j) : i < j ∧ j ≤ s.size := by
 unfold rangeS at h
 by_cases hx : at' s i = 91
 ·rw [if_pos hx] at h
  cases h1 : classS s i with
  | bad x => rw [h1] at h; cases h
  | ok k x =>
   rw [h1] at h
   have := classS_ok h1
   injection h with ha hb
   subst hb
   omega
 ·rw [if_neg hx] at h
  cases h1 : innS s 0 i with
  | bad x => rw [h1] at h; cases h
  | ok a x =>
   rw [h1] at h
   have := innS_ok h1
   simp only [R.bind] at h
   by_cases hd : at' s x = 45
   ·rw [if_pos hd] at h
    cases h2 : innS s a (x + 1) with
    | bad y => rw [h2] at h; cases h
    | ok c y =>
     rw [h2] at h
     have := innS_ok h2
     injection h with ha hb
     subst hb
     omega
   ·rw [if_neg hd] at h
    injection h with ha hb
    subst hb
    omega
end Go.Proofs.YtnfojonmohijpaaGreatDoor
namespace Go.Proofs.YtnfojonmohijpaaGreatDoor
open Go.RowKit
theorem moreB_false_good {p : PS} (hm : moreB p = false) (hb : p.bad < 0) : p.s.size ≤ p.ix := by
 simp [moreB] at hm; have := hm hb; omega
theorem hex_good (b : Nat) (p : PS) (w : World) (ahead least : Int) (last : Bool) (hp : PB w b p) (hb : p.bad < 0) (hs : p.s.size ≤ 60)
    (ha0 : 0 ≤ ahead) (ha1 : ahead ≤ 240) (hl0 : 0 ≤ least) (hl1 : least ≤ 255) :
    Calls Tryz.prog 283 #[.pointer (some ⟨b, 0, none⟩), .int .i64 ahead, .bool last, .int .i64 least] w fun e w' =>
     ∃ v, e = .returned (.int .i64 v) ∧ 0 ≤ v ∧ v ≤ 15 ∧ (∀ a j, hexS p.s ahead last least p.ix = .ok a j → v = a) ∧ PB w' b (p.after (hexS p.s ahead last least p.ix)) ∧ Keeps [b] w w' := by
 cases hm : moreB p
 ·refine (hex_none b p w ahead least last hp hm).mono ?_
  rintro e w' ⟨rfl, hp1, hk⟩
  have h1 := moreB_false_good hm hb
  have h2 : hexS p.s ahead last least p.ix = .bad p.ix := by unfold hexS; rw [at'_ge h1, if_pos (Or.inl (by decide))]
  exact ⟨0, rfl, by omega, by omega, by rw [h2]; simp, by rw [h2]; simpa [PS.failed, hb, PS.after] using hp1, hk⟩
 ·exact hex_some b p w ahead least last hp hm hs ha0 ha1 hl0 hl1
theorem hex_bad (b : Nat) (p : PS) (w : World) (ahead least : Int) (last : Bool) (hp : PB w b p) (hb : 0 ≤ p.bad) :
    Calls Tryz.prog 283 #[.pointer (some ⟨b, 0, none⟩), .int .i64 ahead, .bool last, .int .i64 least] w fun e w' =>
     e = .returned (.int .i64 0) ∧ PB w' b p ∧ Keeps [b] w w' := by
 refine (hex_none b p w ahead least last hp (by simp [moreB]; omega)).mono ?_
 rintro e w' ⟨rfl, hp1, hk⟩
 exact ⟨rfl, by simpa [PS.failed, Int.not_lt.2 hb] using hp1, hk⟩
theorem after_ok {α : Type} {p : PS} {r : R α} {a : α} {j : Nat} (h : r = .ok a j) : p.after r = { p with ix := j } := by rw [h]; rfl
theorem after_bad {α : Type} {p : PS} {r : R α} {j : Nat} (h : r = .bad j) : p.after r = { p with bad := j, ix := j } := by rw [h]; rfl
set_option maxHeartbeats 1000000 in
theorem esc_x (b : Nat) (p : PS) (w : World) (least : Int) (hp : PB w b p) (hb : p.bad < 0) (hs : p.s.size ≤ 60) (hk : p.ix < p.s.size)
    (hl0 : 0 ≤ least) (hl1 : least ≤ 255) (hx : at' p.s (p.ix + 1) = 120) :
    Calls Tryz.prog 263 #[.pointer (some ⟨b, 0, none⟩), .int .i64 least] w fun e w' =>
     ∃ v, e = .returned (.int .i64 v) ∧ Val (escS p.s least (p.ix + 1)) v ∧ PB w' b (p.after (escS p.s least (p.ix + 1))) ∧ Keeps [b] w w' := by
 obtain ⟨c0, h6, h7, f6, f7⟩ := hp.main
 have hk0 : (0 : Int) ≤ (p.ix : Int) := by omega
 have hk6 : (p.ix : Int) ≤ 60 := by omega
 rw [escS_x hx]
 have hp0 := hp.setIx (p.ix + 1)
 have hcur : PS.cur { p with ix := p.ix + 1 } = 120 := by simp [PS.cur, hb, hx]
 have hd : decide (PS.cur { p with ix := p.ix + 1 } = 120) = true := by simpa using hcur
 have htk : PS.took { p with ix := p.ix + 1 } 120 = { p with ix := p.ix + 2 } := by simp [PS.took, hcur]
 have Hx : Hid (at' p.s (p.ix + 1) = 120) := hx
 clear hx hcur
 have hlt := at'_nn (by rw [Hx.out]; omega)
 cases r1 : hexS p.s 0 false least (p.ix + 2) with
 | bad j =>
  have hj := hexS_bad r1
  subst hj
  have HP : Hid (hexPS p.s least (p.ix + 2) = .bad (p.ix + 2)) := by show hexPS p.s least (p.ix + 2) = _; simp [hexPS, r1, R.bind]
  have H1 : Hid (hexS p.s 0 false least (p.ix + 2) = .bad (p.ix + 2)) := r1
  clear r1
  go_enter Tryz.func263, Tryz.ntmps263
  go_wp2_with (first | (go_at_call 81; refine (take_any b { p with ix := p.ix + 1 } 120 _ hp0 (by omega) hs).mono ?_; rintro e w1 ⟨rfl, hp1, hk1⟩; rw [htk] at hp1))
  refine (hex_good b { p with ix := p.ix + 2 } _ 0 least false hp1 hb hs (by omega) (by omega) hl0 hl1).mono ?_
  rintro e w2 ⟨v, rfl, hv0, hv1, hva, hp2, hk2⟩
  rw [after_bad (show hexS _ 0 false least _ = _ from H1.out)] at hp2
  clear hva
  go_wp2_with (first | (go_at_call 283; refine (hex_bad b _ _ (16 * v) least true hp2 (Int.natCast_nonneg _)).mono ?_; rintro e w3 ⟨rfl, hp3, hk3⟩))
  go_ret
  refine ⟨16 * v, rfl, ⟨by omega, by omega, by rw [HP.out]; simp⟩, by rw [HP.out]; exact hp3, (((Keeps.refl _ _).setCell (by simp) _).trans hk1).trans (hk2.trans hk3)⟩
 | ok a j =>
  obtain ⟨rfl, ha0, ha1, hlt2, _⟩ := hexS_ok r1
  have H1 : Hid (hexS p.s 0 false least (p.ix + 2) = .ok a (p.ix + 2 + 1)) := r1
  have HP : Hid (hexPS p.s least (p.ix + 2) = (hexS p.s (16 * a) true least (p.ix + 3)).bind fun b k => .ok (16 * a + b) k) := by show hexPS p.s least (p.ix + 2) = _; simp [hexPS, r1, R.bind]
  clear r1
  go_enter Tryz.func263, Tryz.ntmps263
  go_wp2_with (first | (go_at_call 81; refine (take_any b { p with ix := p.ix + 1 } 120 _ hp0 (by omega) hs).mono ?_; rintro e w1 ⟨rfl, hp1, hk1⟩; rw [htk] at hp1))
  refine (hex_good b { p with ix := p.ix + 2 } _ 0 least false hp1 hb hs (by omega) (by omega) hl0 hl1).mono ?_
  rintro e w2 ⟨v, rfl, hv0, hv1, hva, hp2, hk2⟩
  rw [after_ok (show hexS _ 0 false least _ = _ from H1.out)] at hp2
  have hva' : v = a := hva a _ H1.out
  subst hva'
  clear hva
  go_wp2_with (first | (go_at_call 283; refine (hex_good b { p with ix := p.ix + 3 } _ (16 * v) least true hp2 hb hs (by omega) (by omega) hl0 hl1).mono ?_; rintro e w3 ⟨u, rfl, hu0, hu1, hua, hp3, hk3⟩))
  go_ret
  have hkk := (((Keeps.refl [b] w).setCell (p := ⟨b, 7, none⟩) (by simp) (.int .i64 ((p.ix + 1 : Nat) : Int))).trans hk1).trans (hk2.trans hk3)
  cases r2 : hexS p.s (16 * v) true least (p.ix + 3) with
  | bad j =>
   refine ⟨16 * v + u, rfl, ⟨by omega, by omega, by rw [HP.out, r2]; simp [R.bind]⟩, ?_, hkk⟩
   rw [after_bad (show hexS _ (16 * v) true least _ = _ from r2)] at hp3
   rw [HP.out, r2]; exact hp3
  | ok c j =>
   have hu : u = c := hua c j r2
   subst hu
   refine ⟨16 * v + u, rfl, ⟨by omega, by omega, by rw [HP.out, r2]; simp [R.bind]⟩, ?_, hkk⟩
   rw [after_ok (show hexS _ (16 * v) true least _ = _ from r2)] at hp3
   rw [HP.out, r2]; exact hp3
set_option maxHeartbeats 1000000 in
theorem esc_sign (b : Nat) (p : PS) (w : World) (least : Int) (hp : PB w b p) (hb : p.bad < 0) (hs : p.s.size ≤ 60) (hk : p.ix < p.s.size)
    (hl0 : 0 ≤ least) (hl1 : least ≤ 255) (hx : at' p.s (p.ix + 1) ≠ 120) :
    Calls Tryz.prog 263 #[.pointer (some ⟨b, 0, none⟩), .int .i64 least] w fun e w' =>
     ∃ v, e = .returned (.int .i64 v) ∧ Val (escS p.s least (p.ix + 1)) v ∧ PB w' b (p.after (escS p.s least (p.ix + 1))) ∧ Keeps [b] w w' := by
 obtain ⟨c0, h6, h7, f6, f7⟩ := hp.main
 have hk0 : (0 : Int) ≤ (p.ix : Int) := by omega
 have hk6 : (p.ix : Int) ≤ 60 := by omega
 have hp0 := hp.setIx (p.ix + 1)
 have hcur : ¬ PS.cur { p with ix := p.ix + 1 } = 120 := by simp [PS.cur, hb, hx]
 have hd : decide (PS.cur { p with ix := p.ix + 1 } = 120) = false := by simpa using hcur
 have htk : PS.took { p with ix := p.ix + 1 } 120 = { p with ix := p.ix + 1 } := by simp [PS.took, hcur]
 have Hx : Hid (at' p.s (p.ix + 1) ≠ 120) := hx
 clear hx hcur
 have TK := fun w1 h1 => take_any b { p with ix := p.ix + 1 } 120 w1 h1 (by omega) hs
 cases hm : moreB { p with ix := p.ix + 1 }
 ·have h1 := moreB_false_good hm hb
  have HE : Hid (escS p.s least (p.ix + 1) = .bad (p.ix + 1)) := by
   show escS p.s least (p.ix + 1) = _
   unfold escS
   rw [at'_ge h1, if_neg (by omega), if_pos (Or.inl (by omega))]
  go_enter Tryz.func263, Tryz.ntmps263
  go_wp2_with (first | (go_at_call 81; refine (TK _ hp0).mono ?_; rintro e w1 ⟨rfl, hp1, hk1⟩; rw [htk] at hp1) | (go_at_call 83; refine (more_any b _ _ hp1).mono ?_; rintro e w' ⟨rfl, n, rfl⟩) | (go_at_call 84; refine (fail_good b { p with ix := p.ix + 1 } _ (hp1.drewN n) hb).mono ?_; rintro e w' ⟨rfl, rfl⟩))
  go_ret
  refine ⟨0, rfl, ⟨by omega, by omega, by rw [HE.out]; simp⟩, by rw [HE.out]; exact (hp1.drewN n).setBad _, ((((Keeps.refl _ _).setCell (by simp) _).trans hk1).drewN n).setCell (by simp) _⟩
 ·have hlt' : p.ix + 1 < p.s.size := (PS.cur_more hm).1
  have ec := at'_lt hlt'
  have hki : ((p.ix + 1 : Nat) : Int) < (p.s.size : Int) := by omega
  have hkj : (0 : Int) ≤ ((p.ix + 1 : Nat) : Int) := by omega
  have hkk : ((p.ix + 1 : Nat) : Int) ≤ 60 := by omega
  have hc1 := (p.s[p.ix + 1]).toNat_lt
  have hcl : (0 : Int) ≤ (p.s[p.ix + 1].toNat : Int) := by omega
  have hcu : (p.s[p.ix + 1].toNat : Int) ≤ 255 := by omega
  clear hc1
  generalize hgc : (p.s[p.ix + 1].toNat : Int) = c at *
  have hx' : c ≠ 120 := by rw [← ec]; exact Hx.out
  have HE : Hid (escS p.s least (p.ix + 1) = if alnB c = true ∨ c < least then .bad (p.ix + 1) else .ok c (p.ix + 2)) := by
   show escS p.s least (p.ix + 1) = _
   unfold escS
   rw [ec, if_neg hx']
   by_cases hh : alnB c = true ∨ c < least
   ·rw [if_pos (Or.inr hh), if_pos hh]
   ·rw [if_neg (by rintro (h | h); omega; exact hh h), if_neg hh]
  clear ec hx'
  cases ha : alnB c
  ·by_cases hl : c < least
   ·have HB : Hid (escS p.s least (p.ix + 1) = .bad (p.ix + 1)) := by show escS p.s least (p.ix + 1) = _; rw [HE.out, if_pos (Or.inr hl)]
    clear HE
    go_enter Tryz.func263, Tryz.ntmps263
    go_wp2_with (first | (go_at_call 81; refine (TK _ hp0).mono ?_; rintro e w1 ⟨rfl, hp1, hk1⟩; rw [htk] at hp1; obtain ⟨d0, d6, d7, e6, e7⟩ := hp1.main) | (go_at_call 83; refine (more_any b _ _ hp1).mono ?_; rintro e w' ⟨rfl, n, rfl⟩))
    go_quiet (fail)
    go_wp2_with (first | (go_at_call 210; refine (alnum_any c _).mono ?_; rintro e w' ⟨rfl, rfl⟩) | (go_at_call 84; refine (fail_good b { p with ix := p.ix + 1 } _ (hp1.drewN _) hb).mono ?_; rintro e w' ⟨rfl, rfl⟩))
    go_ret
    refine ⟨0, rfl, ⟨by omega, by omega, by rw [HB.out]; simp⟩, by rw [HB.out]; exact (hp1.drewN _).setBad _, ((((Keeps.refl _ _).setCell (by simp) _).trans hk1).drewN _).setCell (by simp) _⟩
   ·have HB : Hid (escS p.s least (p.ix + 1) = .ok c (p.ix + 2)) := by show escS p.s least (p.ix + 1) = _; rw [HE.out, if_neg (by simp [ha, hl])]
    clear HE
    go_enter Tryz.func263, Tryz.ntmps263
    go_wp2_with (first | (go_at_call 81; refine (TK _ hp0).mono ?_; rintro e w1 ⟨rfl, hp1, hk1⟩; rw [htk] at hp1; obtain ⟨d0, d6, d7, e6, e7⟩ := hp1.main) | (go_at_call 83; refine (more_any b _ _ hp1).mono ?_; rintro e w' ⟨rfl, n, rfl⟩))
    go_quiet (fail)
    go_wp2_with (first | (go_at_call 210; refine (alnum_any c _).mono ?_; rintro e w' ⟨rfl, rfl⟩))
    go_ret
    refine ⟨c, rfl, ⟨by omega, by omega, by rw [HB.out]; intro a j h; cases h; rfl⟩, by rw [HB.out]; exact (hp1.drewN _).setIx (p.ix + 2), ((((Keeps.refl _ _).setCell (by simp) _).trans hk1).drewN _).setCell (by simp) _⟩
  ·have HB : Hid (escS p.s least (p.ix + 1) = .bad (p.ix + 1)) := by show escS p.s least (p.ix + 1) = _; rw [HE.out, if_pos (Or.inl ha)]
   clear HE
   go_enter Tryz.func263, Tryz.ntmps263
   go_wp2_with (first | (go_at_call 81; refine (TK _ hp0).mono ?_; rintro e w1 ⟨rfl, hp1, hk1⟩; rw [htk] at hp1; obtain ⟨d0, d6, d7, e6, e7⟩ := hp1.main) | (go_at_call 83; refine (more_any b _ _ hp1).mono ?_; rintro e w' ⟨rfl, n, rfl⟩))
   go_quiet (fail)
   go_wp2_with (first | (go_at_call 210; refine (alnum_any c _).mono ?_; rintro e w' ⟨rfl, rfl⟩) | (go_at_call 84; refine (fail_good b { p with ix := p.ix + 1 } _ (hp1.drewN _) hb).mono ?_; rintro e w' ⟨rfl, rfl⟩))
   go_ret
   refine ⟨0, rfl, ⟨by omega, by omega, by rw [HB.out]; simp⟩, by rw [HB.out]; exact (hp1.drewN _).setBad _, ((((Keeps.refl _ _).setCell (by simp) _).trans hk1).drewN _).setCell (by simp) _⟩
theorem esc_any (b : Nat) (p : PS) (w : World) (least : Int) (hp : PB w b p) (hb : p.bad < 0) (hs : p.s.size ≤ 60) (hk : p.ix < p.s.size)
    (hl0 : 0 ≤ least) (hl1 : least ≤ 255) :
    Calls Tryz.prog 263 #[.pointer (some ⟨b, 0, none⟩), .int .i64 least] w fun e w' =>
     ∃ v, e = .returned (.int .i64 v) ∧ Val (escS p.s least (p.ix + 1)) v ∧ PB w' b (p.after (escS p.s least (p.ix + 1))) ∧ Keeps [b] w w' := by
 by_cases hx : at' p.s (p.ix + 1) = 120
 ·exact esc_x b p w least hp hb hs hk hl0 hl1 hx
 ·exact esc_sign b p w least hp hb hs hk hl0 hl1 hx
end Go.Proofs.YtnfojonmohijpaaGreatDoor
namespace Go.Proofs.YtnfojonmohijpaaGreatDoor
open Go.RowKit
theorem has_inner (c : Int) : hasB ⟨#[91, 93, 45, 94]⟩ c (ByteArray.size ⟨#[91, 93, 45, 94]⟩) = decide (c = 91 ∨ c = 93 ∨ c = 45 ∨ c = 94) := by
 have h : (hasB ⟨#[91, 93, 45, 94]⟩ c (ByteArray.size ⟨#[91, 93, 45, 94]⟩) = true) ↔ (c = 91 ∨ c = 93 ∨ c = 45 ∨ c = 94) := by
  simp [hasB, ByteArray.size]
  omega
 by_cases hc : c = 91 ∨ c = 93 ∨ c = 45 ∨ c = 94
 ·rw [decide_eq_true hc]; exact h.2 hc
 ·rw [decide_eq_false hc]; exact Bool.eq_false_iff.2 fun e => hc (h.1 e)
set_option maxHeartbeats 1000000 in
theorem inner_any (b : Nat) (p : PS) (w : World) (least : Int) (hp : PB w b p) (hb : p.bad < 0) (hs : p.s.size ≤ 60)
    (hl0 : 0 ≤ least) (hl1 : least ≤ 255) :
    Calls Tryz.prog 282 #[.pointer (some ⟨b, 0, none⟩), .int .i64 least] w fun e w' =>
     ∃ v, e = .returned (.int .i64 v) ∧ Val (innS p.s least p.ix) v ∧ PB w' b (p.after (innS p.s least p.ix)) ∧ Keeps [b] w w' := by
 obtain ⟨c0, h6, h7, f6, f7⟩ := hp.main
 cases hm : moreB p
 ·have h1 := moreB_false_good hm hb
  have HE : Hid (innS p.s least p.ix = .bad p.ix) := by
   show innS p.s least p.ix = _
   unfold innS
   rw [at'_ge h1, if_neg (by omega), if_pos (Or.inl (by omega))]
  clear h1
  go_enter Tryz.func282, Tryz.ntmps282
  go_wp2_with (first | (go_at_call 83; refine (more_any b _ _ hp).mono ?_; rintro e w' ⟨rfl, n, rfl⟩) | (go_at_call 84; refine (fail_good b p _ (hp.drewN n) hb).mono ?_; rintro e w' ⟨rfl, rfl⟩))
  go_ret
  refine ⟨0, rfl, ⟨by omega, by omega, by rw [HE.out]; simp⟩, by rw [HE.out]; exact (hp.drewN n).setBad _, ((Keeps.refl _ _).drewN n).setCell (by simp) _⟩
 ·have hlt : p.ix < p.s.size := (PS.cur_more hm).1
  have ec := at'_lt hlt
  have hki : (p.ix : Int) < (p.s.size : Int) := by omega
  have hkj : (0 : Int) ≤ (p.ix : Int) := by omega
  have hkk : (p.ix : Int) ≤ 60 := by omega
  have hc1 := (p.s[p.ix]).toNat_lt
  have hcl : (0 : Int) ≤ (p.s[p.ix].toNat : Int) := by omega
  have hcu : (p.s[p.ix].toNat : Int) ≤ 255 := by omega
  clear hc1
  generalize hgc : (p.s[p.ix].toNat : Int) = c at *
  have HI : Hid (innS p.s least p.ix = if c = 92 then escS p.s least (p.ix + 1) else if (c = 91 ∨ c = 93 ∨ c = 45 ∨ c = 94) ∨ c < least then .bad p.ix else .ok c (p.ix + 1)) := by
   show innS p.s least p.ix = _
   unfold innS
   rw [ec]
   by_cases h : c = 92
   ·rw [if_pos h, if_pos h]
   ·rw [if_neg h, if_neg h]
    by_cases h' : (c = 91 ∨ c = 93 ∨ c = 45 ∨ c = 94) ∨ c < least
    ·rw [if_pos h', if_pos (by omega)]
    ·rw [if_neg h', if_neg (by omega)]
  clear ec
  by_cases h92 : c = 92
  ·have HE : Hid (innS p.s least p.ix = escS p.s least (p.ix + 1)) := by show innS p.s least p.ix = _; rw [HI.out, if_pos h92]
   have hq : (c == 92) = true := by simpa using h92
   clear HI h92
   go_enter Tryz.func282, Tryz.ntmps282
   go_wp2_with (first | (go_at_call 83; refine (more_any b _ _ hp).mono ?_; rintro e w' ⟨rfl, n, rfl⟩))
   go_quiet (fail)
   go_wp2_with (first | (go_at_call 263; refine (esc_any b p _ least (hp.drewN _) hb hs hlt hl0 hl1).mono ?_; rintro e w1 ⟨v, rfl, hv, hp1, hk1⟩))
   go_ret
   exact ⟨v, rfl, by rw [HE.out]; exact hv, by rw [HE.out]; exact hp1, ((Keeps.refl _ _).drewN _).trans hk1⟩
  ·have hq : (c == 92) = false := by simpa using h92
   by_cases hset : c = 91 ∨ c = 93 ∨ c = 45 ∨ c = 94
   ·have HE : Hid (innS p.s least p.ix = .bad p.ix) := by show innS p.s least p.ix = _; rw [HI.out, if_neg h92, if_pos (Or.inl hset)]
    have HH := has_inner c
    rw [decide_eq_true hset] at HH
    clear HI h92 hset
    go_enter Tryz.func282, Tryz.ntmps282
    go_wp2_with (first | (go_at_call 83; refine (more_any b _ _ hp).mono ?_; rintro e w' ⟨rfl, n, rfl⟩))
    go_quiet (fail)
    go_wp2_with (first | (go_at_call 109; refine (has_any _ c _ (by decide)).mono ?_; rintro e w' ⟨rfl, rfl⟩; rw [HH]) | (go_at_call 84; refine (fail_good b p _ (hp.drewN _) hb).mono ?_; rintro e w' ⟨rfl, rfl⟩))
    go_ret
    exact ⟨0, rfl, ⟨by omega, by omega, by rw [HE.out]; simp⟩, by rw [HE.out]; exact (hp.drewN _).setBad _, ((Keeps.refl _ _).drewN _).setCell (by simp) _⟩
   ·have HH := has_inner c
    rw [decide_eq_false hset] at HH
    by_cases hl : c < least
    ·have HE : Hid (innS p.s least p.ix = .bad p.ix) := by show innS p.s least p.ix = _; rw [HI.out, if_neg h92, if_pos (Or.inr hl)]
     clear HI h92 hset
     go_enter Tryz.func282, Tryz.ntmps282
     go_wp2_with (first | (go_at_call 83; refine (more_any b _ _ hp).mono ?_; rintro e w' ⟨rfl, n, rfl⟩))
     go_quiet (fail)
     go_wp2_with (first | (go_at_call 109; refine (has_any _ c _ (by decide)).mono ?_; rintro e w' ⟨rfl, rfl⟩; rw [HH]) | (go_at_call 84; refine (fail_good b p _ (hp.drewN _) hb).mono ?_; rintro e w' ⟨rfl, rfl⟩))
     go_ret
     exact ⟨0, rfl, ⟨by omega, by omega, by rw [HE.out]; simp⟩, by rw [HE.out]; exact (hp.drewN _).setBad _, ((Keeps.refl _ _).drewN _).setCell (by simp) _⟩
    ·have HE : Hid (innS p.s least p.ix = .ok c (p.ix + 1)) := by show innS p.s least p.ix = _; rw [HI.out, if_neg h92, if_neg (by rintro (h | h); exact hset h; exact hl h)]
     clear HI h92 hset
     go_enter Tryz.func282, Tryz.ntmps282
     go_wp2_with (first | (go_at_call 83; refine (more_any b _ _ hp).mono ?_; rintro e w' ⟨rfl, n, rfl⟩))
     go_quiet (fail)
     go_wp2_with (first | (go_at_call 109; refine (has_any _ c _ (by decide)).mono ?_; rintro e w' ⟨rfl, rfl⟩; rw [HH]))
     go_ret
     exact ⟨c, rfl, ⟨by omega, by omega, by rw [HE.out]; intro a j h; cases h; rfl⟩, by rw [HE.out]; exact (hp.drewN _).setIx (p.ix + 1), ((Keeps.refl _ _).drewN _).setCell (by simp) _⟩
end Go.Proofs.YtnfojonmohijpaaGreatDoor
namespace Go.Proofs.YtnfojonmohijpaaGreatDoor
open Go.RowKit
def nmB (l : List UInt8) : ByteArray := ⟨l.toArray⟩
set_option maxHeartbeats 1000000 in
theorem class_0 (c : Int) (w : World) :
    Calls Tryz.prog 296 #[.string ⟨#[100, 105, 103, 105, 116]⟩, .int .u8 c] w fun e w' => e = .returned (.bool (clsB 0 c)) ∧ w' = w := by
 cases hd : digB c
 all_goals
  go_enter Tryz.func296, Tryz.ntmps296
  go_wp2_with (go_at_call 162; refine (digit_any c _).mono ?_; rintro e w' ⟨rfl, rfl⟩)
  all_goals go_ret
  all_goals exact ⟨ret_bool (by simp [clsB, hd, lowB, uppB] <;> omega), rfl⟩
set_option maxHeartbeats 1000000 in
theorem class_1 (c : Int) (w : World) :
    Calls Tryz.prog 296 #[.string ⟨#[108, 111, 119, 101, 114]⟩, .int .u8 c] w fun e w' => e = .returned (.bool (clsB 1 c)) ∧ w' = w := by
 cases hd : digB c
 all_goals
  go_enter Tryz.func296, Tryz.ntmps296
  go_wp2_with (go_at_call 162; refine (digit_any c _).mono ?_; rintro e w' ⟨rfl, rfl⟩)
  all_goals go_ret
  all_goals exact ⟨ret_bool (by simp [clsB, hd, lowB, uppB] <;> omega), rfl⟩
set_option maxHeartbeats 1000000 in
theorem class_2 (c : Int) (w : World) :
    Calls Tryz.prog 296 #[.string ⟨#[117, 112, 112, 101, 114]⟩, .int .u8 c] w fun e w' => e = .returned (.bool (clsB 2 c)) ∧ w' = w := by
 cases hd : digB c
 all_goals
  go_enter Tryz.func296, Tryz.ntmps296
  go_wp2_with (go_at_call 162; refine (digit_any c _).mono ?_; rintro e w' ⟨rfl, rfl⟩)
  all_goals go_ret
  all_goals exact ⟨ret_bool (by simp [clsB, hd, lowB, uppB] <;> omega), rfl⟩
set_option maxHeartbeats 1000000 in
theorem class_3 (c : Int) (w : World) :
    Calls Tryz.prog 296 #[.string ⟨#[97, 108, 112, 104, 97]⟩, .int .u8 c] w fun e w' => e = .returned (.bool (clsB 3 c)) ∧ w' = w := by
 cases hd : digB c
 all_goals
  go_enter Tryz.func296, Tryz.ntmps296
  go_wp2_with (go_at_call 162; refine (digit_any c _).mono ?_; rintro e w' ⟨rfl, rfl⟩)
  all_goals go_ret
  all_goals exact ⟨ret_bool (by simp [clsB, hd, lowB, uppB] <;> omega), rfl⟩
set_option maxHeartbeats 1000000 in
theorem class_4 (c : Int) (w : World) :
    Calls Tryz.prog 296 #[.string ⟨#[97, 108, 110, 117, 109]⟩, .int .u8 c] w fun e w' => e = .returned (.bool (clsB 4 c)) ∧ w' = w := by
 cases hd : digB c
 all_goals
  go_enter Tryz.func296, Tryz.ntmps296
  go_wp2_with (go_at_call 162; refine (digit_any c _).mono ?_; rintro e w' ⟨rfl, rfl⟩)
  all_goals go_ret
  all_goals exact ⟨ret_bool (by simp [clsB, hd, lowB, uppB] <;> omega), rfl⟩
set_option maxHeartbeats 1000000 in
theorem class_5 (c : Int) (w : World) :
    Calls Tryz.prog 296 #[.string ⟨#[115, 112, 97, 99, 101]⟩, .int .u8 c] w fun e w' => e = .returned (.bool (clsB 5 c)) ∧ w' = w := by
 cases hd : digB c
 all_goals
  go_enter Tryz.func296, Tryz.ntmps296
  go_wp2_with (go_at_call 162; refine (digit_any c _).mono ?_; rintro e w' ⟨rfl, rfl⟩)
  all_goals go_ret
  all_goals exact ⟨ret_bool (by simp [clsB, hd, lowB, uppB] <;> omega), rfl⟩
set_option maxHeartbeats 1000000 in
theorem class_6 (c : Int) (w : World) :
    Calls Tryz.prog 296 #[.string ⟨#[112, 117, 110, 99, 116]⟩, .int .u8 c] w fun e w' => e = .returned (.bool (clsB 6 c)) ∧ w' = w := by
 cases hd : digB c
 all_goals
  go_enter Tryz.func296, Tryz.ntmps296
  go_wp2_with (go_at_call 162; refine (digit_any c _).mono ?_; rintro e w' ⟨rfl, rfl⟩)
  all_goals go_ret
  all_goals exact ⟨ret_bool (by simp [clsB, hd, lowB, uppB] <;> omega), rfl⟩
end Go.Proofs.YtnfojonmohijpaaGreatDoor
