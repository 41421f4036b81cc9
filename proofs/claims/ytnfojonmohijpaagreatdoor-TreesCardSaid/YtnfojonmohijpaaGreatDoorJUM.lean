/-
  DERIVED. Plain mathematics: the grammar of trees: what is read at a place, or the place of what cannot stand there. Nothing of the program stands here.
-/
import Derived.Test.YtnfojonmohijpaaGreatDoorJSD
import Derived.Test.YtnfojonmohijpaaGreatDoorJPC
set_option linter.unusedSimpArgs false
set_option linter.unusedVariables false
namespace Go.Proofs.YtnfojonmohijpaaGreatDoor
inductive TK where
 | thing
 | body
 | row (n : Nat) (m : Bool)
def shut (s : ByteArray) : R Tr → R Tr
 | .bad j => .bad j
 | .ok t j => if at' s j = 41 then .ok t (j + 1) else .bad j
def hdT : Tr → Tr
 | .lcons x _ => x
 | t => t
def plD (s : ByteArray) (i : Nat) : Prop := 49 ≤ at' s i ∧ at' s i ≤ 53 ∧ digB (at' s (i + 1)) = true
instance (s : ByteArray) (i : Nat) : Decidable (plD s i) := by unfold plD; infer_instance
def plN (s : ByteArray) (i : Nat) : Nat := if plD s i then 10 * (at' s i - 48).toNat + (at' s (i + 1) - 48).toNat else (at' s i - 48).toNat
def plE (s : ByteArray) (i : Nat) : Nat := if plD s i then i + 2 else i + 1
inductive TG (s : ByteArray) : TK → Nat → Nat → R Tr → Prop
 | nil (d i : Nat) : at' s i = 101 → TG s .thing d i (.ok .tnil (i + 1))
 | byte (d i : Nat) : at' s i = 98 → 0 ≤ hexd (at' s (i + 1)) → 0 ≤ hexd (at' s (i + 2)) → TG s .thing d i (.ok (.tbyte (16 * hexd (at' s (i + 1)) + hexd (at' s (i + 2))).toNat) (i + 3))
 | byte1 (d i : Nat) : at' s i = 98 → hexd (at' s (i + 1)) < 0 → TG s .thing d i (.bad (i + 1))
 | byte2 (d i : Nat) : at' s i = 98 → 0 ≤ hexd (at' s (i + 1)) → hexd (at' s (i + 2)) < 0 → TG s .thing d i (.bad (i + 2))
 | opn (d i : Nat) (q : R Tr) : at' s i = 40 → d < 60 → TG s .body (d + 1) (i + 1) q → TG s .thing d i (shut s q)
 | deep (d i : Nat) : at' s i = 40 → 60 ≤ d → TG s .thing d i (.bad i)
 | none (d i : Nat) : at' s i ≠ 101 → at' s i ≠ 98 → at' s i ≠ 40 → TG s .thing d i (.bad i)
 | grp (d i : Nat) (q : R Tr) : at' s i = 103 → 49 ≤ at' s (i + 1) → at' s (i + 1) ≤ 57 → TG s (.row 1 false) d (i + 2) q → TG s .body d i (q.map fun l => .tgrp (at' s (i + 1) - 48).toNat (hdT l))
 | grp1 (d i : Nat) : at' s i = 103 → (at' s (i + 1) < 49 ∨ 57 < at' s (i + 1)) → TG s .body d i (.bad (i + 1))
 | alt (d i : Nat) (q : R Tr) : at' s i = 97 → digB (at' s (i + 1)) = true → TG s (.row 1 false) d (plE s (i + 1)) q → TG s .body d i (q.map fun l => .talt (plN s (i + 1)) (hdT l))
 | alt1 (d i : Nat) : at' s i = 97 → digB (at' s (i + 1)) = false → TG s .body d i (.bad (i + 1))
 | ser (d i : Nat) (q : R Tr) : at' s i = 115 → TG s (.row 2 true) d (i + 1) q → TG s .body d i (q.map .tser)
 | rep (d i : Nat) (q : R Tr) : at' s i = 114 → TG s (.row 0 true) d (i + 1) q → TG s .body d i (q.map .trep)
 | other (d i : Nat) : at' s i ≠ 103 → at' s i ≠ 97 → at' s i ≠ 115 → at' s i ≠ 114 → TG s .body d i (.bad i)
 | fin (d i : Nat) : TG s (.row 0 false) d i (.ok .lnil i)
 | stop (d i : Nat) : at' s i ≠ 32 → TG s (.row 0 true) d i (.ok .lnil i)
 | need (n : Nat) (m : Bool) (d i : Nat) : 0 < n → at' s i ≠ 32 → TG s (.row n m) d i (.bad i)
 | bad (n : Nat) (m : Bool) (d i j : Nat) : (0 < n ∨ m = true) → at' s i = 32 → TG s .thing d (i + 1) (.bad j) → TG s (.row n m) d i (.bad j)
 | go (n : Nat) (m : Bool) (d i j : Nat) (t : Tr) (q : R Tr) : (0 < n ∨ m = true) → at' s i = 32 → TG s .thing d (i + 1) (.ok t j) → TG s (.row (n - 1) m) d j q → TG s (.row n m) d i (q.map (.lcons t))
theorem TG.det {s : ByteArray} {k : TK} {d i : Nat} {q : R Tr} (h : TG s k d i q) : ∀ q', TG s k d i q' → q = q' := by
 induction h with
 | nil d i h1 => intro q' h; cases h <;> first | rfl | (exfalso; omega)
 | byte d i h1 h2 h3 => intro q' h; cases h <;> first | rfl | (exfalso; omega)
 | byte1 d i h1 h2 => intro q' h; cases h <;> first | rfl | (exfalso; omega)
 | byte2 d i h1 h2 h3 => intro q' h; cases h <;> first | rfl | (exfalso; omega)
 | opn d i q h1 h2 _ ih => intro q' h; cases h <;> first | (exfalso; omega) | (rename_i h4; rw [ih _ h4])
 | deep d i h1 h2 => intro q' h; cases h <;> first | rfl | (exfalso; omega)
 | none d i h1 h2 h3 => intro q' h; cases h <;> first | rfl | (exfalso; omega)
 | grp d i q h1 h2 h3 _ ih => intro q' h; cases h <;> first | (exfalso; omega) | (rename_i h4; rw [ih _ h4])
 | grp1 d i h1 h2 => intro q' h; cases h <;> first | rfl | (exfalso; omega)
 | alt d i q h1 h2 _ ih =>
  intro q' h
  cases h with
  | alt _ _ q' _ _ h4 => rw [ih _ h4]
  | alt1 _ _ _ h4 => rw [h2] at h4; cases h4
  | _ => exfalso; omega
 | alt1 d i h1 h2 =>
  intro q' h
  cases h with
  | alt _ _ q' _ h4 _ => rw [h2] at h4; cases h4
  | alt1 => rfl
  | _ => exfalso; omega
 | ser d i q h1 _ ih => intro q' h; cases h <;> first | (exfalso; omega) | (rename_i h4; rw [ih _ h4])
 | rep d i q h1 _ ih => intro q' h; cases h <;> first | (exfalso; omega) | (rename_i h4; rw [ih _ h4])
 | other d i h1 h2 h3 h4 => intro q' h; cases h <;> first | rfl | (exfalso; omega)
 | fin d i =>
  intro q' h
  cases h with
  | fin => rfl
  | need _ _ _ _ h => omega
  | bad _ _ _ _ _ h => rcases h with h | h; omega; cases h
  | go _ _ _ _ _ _ _ h => rcases h with h | h; omega; cases h
 | stop d i h1 =>
  intro q' h
  cases h with
  | stop => rfl
  | need _ _ _ _ h => omega
  | bad _ _ _ _ _ _ h => exact absurd h h1
  | go _ _ _ _ _ _ _ _ h => exact absurd h h1
 | need n m d i h0 h1 =>
  intro q' h
  cases h with
  | fin => omega
  | stop => omega
  | need => rfl
  | bad _ _ _ _ _ _ h => exact absurd h h1
  | go _ _ _ _ _ _ _ _ h => exact absurd h h1
 | bad n m d i j h0 h1 _ ih =>
  intro q' h
  cases h with
  | fin => rcases h0 with h | h; omega; cases h
  | stop _ _ h => exact absurd h1 h
  | need _ _ _ _ _ h => exact absurd h1 h
  | bad _ _ _ _ j' _ _ h => have := ih _ h; cases this; rfl
  | go _ _ _ _ j' t q _ _ h => have := ih _ h; cases this
 | go n m d i j t q h0 h1 _ _ ih1 ih2 =>
  intro q' h
  cases h with
  | fin => rcases h0 with h | h; omega; cases h
  | stop _ _ h => exact absurd h1 h
  | need _ _ _ _ _ h => exact absurd h1 h
  | bad _ _ _ _ j' _ _ h => have := ih1 _ h; cases this
  | go _ _ _ _ j' t' q' _ _ h h' =>
   have := ih1 _ h
   cases this
   rw [ih2 _ h']
theorem at'_lt_of {s : ByteArray} {i : Nat} {c : Int} (h : at' s i = c) (hc : 0 ≤ c) : i < s.size := at'_nn (by omega)
theorem plE_le {s : ByteArray} {i : Nat} (h : digB (at' s i) = true) : i < plE s i ∧ plE s i ≤ s.size := by
 have h1 : i < s.size := at'_nn (by simp [digB] at h; omega)
 unfold plE
 split
 ·rename_i h2
  have : i + 1 < s.size := at'_nn (by have := h2.2.2; simp [digB] at this; omega)
  omega
 ·omega
theorem hexd_lt {s : ByteArray} {i : Nat} (h : 0 ≤ hexd (at' s i)) : i < s.size := by
 apply at'_nn
 unfold hexd at h
 split at h
 ·omega
 ·split at h
  ·omega
  ·omega
def TKb (s : ByteArray) (k : TK) (i : Nat) : R Tr → Prop
 | .ok _ j => i ≤ j ∧ j ≤ s.size ∧ (k = .thing → i < j)
 | .bad j => j ≤ s.size
theorem TG.bd {s : ByteArray} {k : TK} {d i : Nat} {q : R Tr} (h : TG s k d i q) : i ≤ s.size → TKb s k i q := by
 induction h with
 | nil d i h1 => intro _; have := at'_lt_of h1 (by decide); exact ⟨by omega, by omega, fun _ => by omega⟩
 | byte d i h1 h2 h3 => intro _; have := hexd_lt h3; exact ⟨by omega, by omega, fun _ => by omega⟩
 | byte1 d i h1 h2 => intro _; have := at'_lt_of h1 (by decide); show i + 1 ≤ s.size; omega
 | byte2 d i h1 h2 h3 => intro _; have := hexd_lt h2; show i + 2 ≤ s.size; omega
 | opn d i q h1 h2 _ ih =>
  intro _
  have := at'_lt_of h1 (by decide)
  have h := ih (by omega)
  cases q with
  | bad j => exact h
  | ok t j =>
   obtain ⟨a, b, _⟩ := h
   by_cases h3 : at' s j = 41
   ·simp only [shut, if_pos h3]
    have := at'_lt_of h3 (by decide)
    exact ⟨by omega, by omega, fun _ => by omega⟩
   ·simp only [shut, if_neg h3]
    exact b
 | deep d i h1 h2 => intro h; exact h
 | none d i h1 h2 h3 => intro h; exact h
 | grp d i q h1 h2 h3 _ ih =>
  intro _
  have : i + 1 < s.size := at'_nn (by omega)
  have h := ih (by omega)
  cases q with
  | bad j => exact h
  | ok t j => obtain ⟨a, b, _⟩ := h; exact ⟨by omega, b, fun e => by cases e⟩
 | grp1 d i h1 h2 => intro _; have := at'_lt_of h1 (by decide); show i + 1 ≤ s.size; omega
 | alt d i q h1 h2 _ ih =>
  intro _
  have hp := plE_le h2
  have h := ih hp.2
  cases q with
  | bad j => exact h
  | ok t j => obtain ⟨a, b, _⟩ := h; exact ⟨by omega, b, fun e => by cases e⟩
 | alt1 d i h1 h2 => intro _; have := at'_lt_of h1 (by decide); show i + 1 ≤ s.size; omega
 | ser d i q h1 _ ih =>
  intro _
  have := at'_lt_of h1 (by decide)
  have h := ih (by omega)
  cases q with
  | bad j => exact h
  | ok t j => obtain ⟨a, b, _⟩ := h; exact ⟨by omega, b, fun e => by cases e⟩
 | rep d i q h1 _ ih =>
  intro _
  have := at'_lt_of h1 (by decide)
  have h := ih (by omega)
  cases q with
  | bad j => exact h
  | ok t j => obtain ⟨a, b, _⟩ := h; exact ⟨by omega, b, fun e => by cases e⟩
 | other d i h1 h2 h3 h4 => intro h; exact h
 | fin d i => intro h; exact ⟨Nat.le_refl _, h, fun e => by cases e⟩
 | stop d i h1 => intro h; exact ⟨Nat.le_refl _, h, fun e => by cases e⟩
 | need n m d i h0 h1 => intro h; exact h
 | bad n m d i j h0 h1 _ ih => intro _; have := at'_lt_of h1 (by decide); exact ih (by omega)
 | go n m d i j t q h0 h1 _ _ ih1 ih2 =>
  intro _
  have := at'_lt_of h1 (by decide)
  obtain ⟨a, b, c⟩ := ih1 (by omega)
  have h := ih2 b
  cases q with
  | bad j => exact h
  | ok t j => obtain ⟨a', b', _⟩ := h; exact ⟨by omega, b', fun e => by cases e⟩
end Go.Proofs.YtnfojonmohijpaaGreatDoor
namespace Go.Proofs.YtnfojonmohijpaaGreatDoor
open Go.RowKit
def UPB (b : Nat) (p : US) (w : World) (r : R Int) (e : Ending) (w' : World) : Prop :=
 Keeps [b] w w' ∧ match r with
  | .ok v j => e = .returned (.int .u8 v) ∧ UB w' b { p with ix := j }
  | .bad j => e = fault j
def UPN (b : Nat) (p : US) (w : World) (r : R Nat) (e : Ending) (w' : World) : Prop :=
 Keeps [b] w w' ∧ match r with
  | .ok v j => e = .returned (.int .i64 v) ∧ UB w' b { p with ix := j }
  | .bad j => e = fault j
theorem ucur_bd (p : US) : -1 ≤ p.cur ∧ p.cur ≤ 255 := by
 show -1 ≤ at' p.s p.ix ∧ at' p.s p.ix ≤ 255
 by_cases h : p.ix < p.s.size
 ·rw [at'_lt h]; have := p.s[p.ix].toNat_lt; omega
 ·rw [at'_ge (by omega)]; omega
theorem utake_may (b : Nat) (p : US) (F : Nat) (caps : Array Value) (v : Bool) (w : World) (hp : UB w b p) (hs : p.s.size ≤ 20000) (hle : p.ix ≤ p.s.size) (hm : 0 ≤ p.cur → May F caps p.cur v w) (r : R Int)
    (hr : r = if 0 ≤ p.cur ∧ v = true then .ok p.cur (p.ix + 1) else .bad p.ix) :
    Calls Tryz.prog 218 #[.pointer (some ⟨b, 0, none⟩), .func (.func F) #[] caps] w (UPB b p w r) := by
 subst hr
 by_cases hlt : p.ix < p.s.size
 ·have h0 : 0 ≤ p.cur := by show 0 ≤ at' p.s p.ix; rw [at'_lt hlt]; omega
  cases v
  ·rw [if_neg (by simp)]
   refine (utake_bad b p F caps w hp hs hlt (hm h0)).mono ?_
   rintro e w' ⟨rfl, hk⟩
   exact ⟨hk, rfl⟩
  ·rw [if_pos ⟨h0, rfl⟩]
   refine (utake_ok b p F caps w hp hs hlt (hm h0)).mono ?_
   rintro e w' ⟨rfl, hq, hk⟩
   exact ⟨hk, rfl, hq⟩
 ·have hge : p.ix = p.s.size := by omega
  have h0 : p.cur = -1 := at'_ge (by omega)
  rw [if_neg (by rw [h0]; omega)]
  refine (utake_end b p _ w hp hge).mono ?_
  rintro e w' ⟨rfl, hk⟩
  exact ⟨hk, rfl⟩
theorem cf_isHex (args : Array Value) (w : World) : (callFunc 219 args).run Tryz.prog w = .ok (.enter 219 args) w := by kernel_rfl
theorem cf_isDigit (args : Array Value) (w : World) : (callFunc 236 args).run Tryz.prog w = .ok (.enter 236 args) w := by kernel_rfl
theorem cf_op1 (args : Array Value) (w : World) : (callFunc 256 args).run Tryz.prog w = .ok (.enter 256 args) w := by kernel_rfl
theorem cf_gn1 (args : Array Value) (w : World) : (callFunc 279 args).run Tryz.prog w = .ok (.enter 279 args) w := by kernel_rfl
theorem may_isHex {c : Int} (h0 : 0 ≤ c) (h1 : c ≤ 255) (w : World) : May 219 #[] c (decide (0 ≤ hexd c)) w :=
 ⟨cf_isHex, fun w1 _ => (isHex_any c h0 h1 w1).mono fun e w2 ⟨he, hw⟩ => ⟨he, by rw [hw]; exact Keeps.refl _ _⟩⟩
theorem may_isDigit {c : Int} (w : World) : May 236 #[] c (digB c) w :=
 ⟨cf_isDigit, fun w1 _ => (isDigit_any c w1).mono fun e w2 ⟨he, hw⟩ => ⟨he, by rw [hw]; exact Keeps.refl _ _⟩⟩
def opB (c : Int) : Bool := decide (c = 103 ∨ c = 114 ∨ c = 115 ∨ c = 97)
set_option maxRecDepth 100000 in
theorem op_idx (c : Int) (h0 : 0 ≤ c) (h1 : c ≤ 255) : decide (0 ≤ Lib.indexByte (ByteArray.data ⟨#[103, 114, 115, 97]⟩).toList c.toNat.toUInt8) = opB c := by
 obtain ⟨n, rfl⟩ : ∃ n : Nat, c = n := ⟨c.toNat, by omega⟩
 have hn : n < 256 := by omega
 have key : ∀ m : Fin 256, decide (0 ≤ Lib.indexByte (ByteArray.data ⟨#[103, 114, 115, 97]⟩).toList ((m.val : Int)).toNat.toUInt8) = opB (m.val : Int) := by decide
 exact key ⟨n, hn⟩
set_option maxHeartbeats 400000 in
theorem op1_any (c : Int) (h0 : 0 ≤ c) (h1 : c ≤ 255) (w : World) :
    Calls Tryz.prog 256 #[.int .u8 c] w fun e w' => e = .returned (.bool (opB c)) ∧ w' = w := by
 have hi := op_idx c h0 h1
 go_enter Tryz.func256, Tryz.ntmps256
 go_wp2_with (go_at_call 246; refine (index_any _ c _).mono ?_; rintro e w' ⟨rfl, rfl⟩)
 go_ret
 exact ⟨ret_bool (by first | exact hi | simp [hi]), rfl⟩
theorem may_op1 {c : Int} (h0 : 0 ≤ c) (h1 : c ≤ 255) (w : World) : May 256 #[] c (opB c) w :=
 ⟨cf_op1, fun w1 _ => (op1_any c h0 h1 w1).mono fun e w2 ⟨he, hw⟩ => ⟨he, by rw [hw]; exact Keeps.refl _ _⟩⟩
def gnB (c : Int) : Bool := decide (49 ≤ c ∧ c ≤ 57)
set_option maxHeartbeats 400000 in
theorem gn1_any (c : Int) (w : World) :
    Calls Tryz.prog 279 #[.int .u8 c] w fun e w' => e = .returned (.bool (gnB c)) ∧ w' = w := by
 cases hd : digB c
 ·have hg : gnB c = false := by simp [digB] at hd; simp [gnB]; omega
  go_enter Tryz.func279, Tryz.ntmps279
  go_wp2_with (first | (go_at_call 236; refine (isDigit_any c _).mono ?_; rintro e w' ⟨rfl, rfl⟩))
  go_ret
  exact ⟨by rw [hg]; rfl, rfl⟩
 ·by_cases h48 : c = 48
  ·subst h48
   have hg : gnB 48 = false := by decide
   go_enter Tryz.func279, Tryz.ntmps279
   go_wp2_with (first | (go_at_call 236; refine (isDigit_any 48 _).mono ?_; rintro e w' ⟨rfl, rfl⟩))
   go_ret
   exact ⟨by rw [hg]; rfl, rfl⟩
  ·have hg : gnB c = true := by simp [digB] at hd; simp [gnB]; omega
   have hn48 : (c == 48) = false := by simpa using h48
   have hn49 : (c != 48) = true := by simpa using h48
   go_enter Tryz.func279, Tryz.ntmps279
   go_wp2_with (first | (go_at_call 236; refine (isDigit_any c _).mono ?_; rintro e w' ⟨rfl, rfl⟩))
   go_ret
   exact ⟨by rw [hg]; first | rfl | simp [h48], rfl⟩
theorem may_gn1 {c : Int} (w : World) : May 279 #[] c (gnB c) w :=
 ⟨cf_gn1, fun w1 _ => (gn1_any c w1).mono fun e w2 ⟨he, hw⟩ => ⟨he, by rw [hw]; exact Keeps.refl _ _⟩⟩
def gnR (p : US) : R Nat := if gnB p.cur = true then .ok (p.cur - 48).toNat (p.ix + 1) else .bad p.ix
set_option maxRecDepth 100000 in
set_option maxHeartbeats 400000 in
theorem groupNumber_any (b : Nat) (p : US) (w : World) (hp : UB w b p) (hs : p.s.size ≤ 20000) (hle : p.ix ≤ p.s.size) :
    Calls Tryz.prog 257 #[.pointer (some ⟨b, 0, none⟩)] w (UPN b p w (gnR p)) := by
 have hT := utake_may b p 279 #[] (gnB p.cur) w hp hs hle (fun _ => may_gn1 w) _ rfl
 unfold gnR
 by_cases hg : gnB p.cur = true
 ·have hc : 49 ≤ p.cur ∧ p.cur ≤ 57 := by simpa [gnB] using hg
  rw [if_pos ⟨by omega, hg⟩] at hT
  rw [if_pos hg]
  obtain ⟨c, hcc⟩ : ∃ c : Nat, p.cur = ((48 + c : Nat) : Int) := ⟨(p.cur - 48).toNat, by omega⟩
  have hc9 : c ≤ 9 := by omega
  have e : (p.cur - 48).toNat = c := by omega
  rw [e]
  rw [hcc] at hT
  clear hc hg hcc e
  have hci : (c : Int) ≤ 9 := by omega
  go_enter Tryz.func257, Tryz.ntmps257
  go_wp2_with (first | (go_at_call 218; refine hT.mono ?_; rintro e w1 ⟨hk, rfl, hq⟩))
  go_ret
  exact ⟨hk, by go_num, hq⟩
 ·rw [if_neg (fun h => hg h.2)] at hT
  rw [if_neg hg]
  go_enter Tryz.func257, Tryz.ntmps257
  go_wp2_with (first | (go_at_call 218; refine hT.mono ?_; rintro e w1 ⟨hk, rfl⟩; simp only [fault]))
  exact ⟨rfl, hk, rfl⟩
end Go.Proofs.YtnfojonmohijpaaGreatDoor
