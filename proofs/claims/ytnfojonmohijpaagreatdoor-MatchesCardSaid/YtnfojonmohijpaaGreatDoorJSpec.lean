/-
  DERIVED. Plain mathematics: how a pattern is read (the document's grammar) and written in one way, as functions on bytes. Nothing of the program stands here; nothing is proved here but small facts on these functions.
-/
import Derived.Below
import Derived.Test.YtnfojonmohijpaaGreatDoorProg
import Derived.WalkKit
import Derived.WalkSpells
import Derived.WalkLawsBesides
import Derived.Deep.QuietTactic
import Derived.BigQuiet
set_option linter.unusedSimpArgs false
set_option linter.unusedVariables false
namespace Go.Proofs.YtnfojonmohijpaaGreatDoor
def at' (s : ByteArray) (i : Nat) : Int := if h : i < s.size then (s[i].toNat : Int) else -1
theorem at'_lt {s : ByteArray} {i : Nat} (h : i < s.size) : at' s i = (s[i].toNat : Int) := by simp [at', h]
theorem at'_ge {s : ByteArray} {i : Nat} (h : s.size ≤ i) : at' s i = -1 := by simp [at', Nat.not_lt.2 h]
theorem at'_bd (s : ByteArray) (i : Nat) : -1 ≤ at' s i ∧ at' s i ≤ 255 := by
  unfold at'
  split
  · rename_i h
    have := s[i].toNat_lt
    omega
  · omega
theorem at'_nn {s : ByteArray} {i : Nat} (h : 0 ≤ at' s i) : i < s.size := by
  rcases Nat.lt_or_ge i s.size with h' | h'
  · exact h'
  · rw [at'_ge h'] at h; omega
def digB (c : Int) : Bool := decide (48 ≤ c) && decide (c ≤ 57)
def alnB (c : Int) : Bool := digB c || (decide (97 ≤ c) && decide (c ≤ 122)) || (decide (65 ≤ c) && decide (c ≤ 90))
inductive R (α : Type) where
  | ok (a : α) (i : Nat)
  | bad (i : Nat)
def R.bind {α β : Type} : R α → (α → Nat → R β) → R β
  | .ok a i, f => f a i
  | .bad i, _ => .bad i
def needS (s : ByteArray) (c : Int) (i : Nat) : R Unit := if at' s i = c then .ok () (i + 1) else .bad i
def hexd (c : Int) : Int := if 48 ≤ c ∧ c ≤ 57 then c - 48 else if 97 ≤ c ∧ c ≤ 102 then c - 87 else -1
theorem hexd_bd (c : Int) : -1 ≤ hexd c ∧ hexd c ≤ 15 := by unfold hexd; split <;> (try split) <;> omega
def hexS (s : ByteArray) (ahead : Int) (last : Bool) (least : Int) (i : Nat) : R Int :=
  if hexd (at' s i) < 0 ∨ (if last then ahead + hexd (at' s i) else 16 * (ahead + hexd (at' s i)) + 15) < least then .bad i else .ok (hexd (at' s i)) (i + 1)
def escS (s : ByteArray) (least : Int) (i : Nat) : R Int :=
  if at' s i = 120 then (hexS s 0 false least (i + 1)).bind fun a j => (hexS s (16 * a) true least j).bind fun b k => .ok (16 * a + b) k
  else if at' s i < 0 ∨ alnB (at' s i) = true ∨ at' s i < least then .bad i else .ok (at' s i) (i + 1)
def innS (s : ByteArray) (least : Int) (i : Nat) : R Int :=
  if at' s i = 92 then escS s least (i + 1)
  else if at' s i < 0 ∨ at' s i = 91 ∨ at' s i = 93 ∨ at' s i = 45 ∨ at' s i = 94 ∨ at' s i < least then .bad i else .ok (at' s i) (i + 1)
def names : List (List UInt8) := [[100, 105, 103, 105, 116], [108, 111, 119, 101, 114], [117, 112, 112, 101, 114], [97, 108, 112, 104, 97], [97, 108, 110, 117, 109], [115, 112, 97, 99, 101], [112, 117, 110, 99, 116]]
def lowB (c : Int) : Bool := decide (97 ≤ c) && decide (c ≤ 122)
def uppB (c : Int) : Bool := decide (65 ≤ c) && decide (c ≤ 90)
def clsB (n : Nat) (c : Int) : Bool :=
  match n with
  | 0 => digB c
  | 1 => lowB c
  | 2 => uppB c
  | 3 => lowB c || uppB c
  | 4 => digB c || lowB c || uppB c
  | 5 => (decide (9 ≤ c) && decide (c ≤ 13)) || decide (c = 32)
  | _ => decide (32 < c) && decide (c < 127) && !digB c && !lowB c && !uppB c
def goesOn (word : List UInt8) (c : Int) : Bool := names.any fun n => decide (word.length < n.length) && decide (n.take word.length = word) && decide (((n.getD word.length 0).toNat : Int) = c)
def clsS (s : ByteArray) : Nat → List UInt8 → Nat → R Nat
  | 0, _, i => .bad i
  | f + 1, word, i =>
    match names.findIdx? (· = word) with
    | some k => .ok k i
    | none => if goesOn word (at' s i) then clsS s f (word ++ [s.get! i]) (i + 1) else .bad i
end Go.Proofs.YtnfojonmohijpaaGreatDoor
namespace Go.Proofs.YtnfojonmohijpaaGreatDoor
def classS (s : ByteArray) (i : Nat) : R Nat := (needS s 58 (i + 1)).bind fun _ j => (clsS s 6 [] j).bind fun k j => (needS s 58 j).bind fun _ j => (needS s 93 j).bind fun _ j => .ok k j
def stretch (a c : Int) : Nat → Bool := fun n => decide (a ≤ (n : Int)) && decide ((n : Int) ≤ c)
def rangeS (s : ByteArray) (i : Nat) : R (Nat → Bool) :=
  if at' s i = 91 then (classS s i).bind fun k j => .ok (fun n => clsB k n) j
  else (innS s 0 i).bind fun a j => if at' s j = 45 then (innS s a (j + 1)).bind fun c k => .ok (stretch a c) k else .ok (stretch a a) j
inductive SetL (s : ByteArray) : (Nat → Bool) → Nat → R (Nat → Bool) → Prop
  | done (f : Nat → Bool) (i : Nat) : at' s i = 93 → SetL s f i (.ok f (i + 1))
  | more (f r : Nat → Bool) (i j : Nat) (q : R (Nat → Bool)) : at' s i ≠ 93 → rangeS s i = .ok r j → SetL s (fun n => f n || r n) j q → SetL s f i q
  | bad (f : Nat → Bool) (i j : Nat) : at' s i ≠ 93 → rangeS s i = .bad j → SetL s f i (.bad j)
theorem SetL.det {s : ByteArray} {f : Nat → Bool} {i : Nat} {q q' : R (Nat → Bool)} (h : SetL s f i q) (h' : SetL s f i q') : q = q' := by
  induction h with
  | done f i e => cases h' with
    | done => rfl
    | more _ _ _ _ _ e' => exact absurd e e'
    | bad _ _ _ e' => exact absurd e e'
  | more f r i j q e e2 _ ih => cases h' with
    | done _ _ e' => exact absurd e' e
    | more _ r' _ j' _ _ e2' hl =>
      rw [e2] at e2'
      cases e2'
      exact ih hl
    | bad _ _ _ _ e2' => rw [e2] at e2'; cases e2'
  | bad f i j e e2 => cases h' with
    | done _ _ e' => exact absurd e' e
    | more _ r' _ j' _ _ e2' hl => rw [e2] at e2'; cases e2'
    | bad _ _ _ _ e2' => rw [e2] at e2'; cases e2'; rfl
inductive SetU (s : ByteArray) : Nat → R (Nat → Bool) → Prop
  | go (r : Nat → Bool) (i j : Nat) (q : R (Nat → Bool)) : rangeS s i = .ok r j → SetL s r j q → SetU s i q
  | bad (i j : Nat) : rangeS s i = .bad j → SetU s i (.bad j)
theorem SetU.det {s : ByteArray} {i : Nat} {q q' : R (Nat → Bool)} (h : SetU s i q) (h' : SetU s i q') : q = q' := by
  cases h with
  | go r _ j _ e hl => cases h' with
    | go r' _ j' _ e' hl' => rw [e] at e'; cases e'; exact hl.det hl'
    | bad _ _ e' => rw [e] at e'; cases e'
  | bad _ j e => cases h' with
    | go r' _ j' _ e' hl' => rw [e] at e'; cases e'
    | bad _ _ e' => rw [e] at e'; cases e'; rfl
def R.map {α β : Type} (f : α → β) : R α → R β
  | .ok a i => .ok (f a) i
  | .bad i => .bad i
def SetR (s : ByteArray) (i : Nat) (q : R (Nat → Bool)) : Prop :=
  (at' s i = 94 ∧ ∃ q', SetU s (i + 1) q' ∧ q = q'.map (fun f n => !f n)) ∨ (at' s i ≠ 94 ∧ SetU s i q)
theorem SetR.det {s : ByteArray} {i : Nat} {q q' : R (Nat → Bool)} (h : SetR s i q) (h' : SetR s i q') : q = q' := by
  rcases h with ⟨e, r, hr, rfl⟩ | ⟨e, hr⟩ <;> rcases h' with ⟨e', r', hr', rfl⟩ | ⟨e', hr'⟩
  · rw [hr.det hr']
  · exact absurd e e'
  · exact absurd e' e
  · exact hr.det hr'
theorem hexS_ok {s : ByteArray} {ahead least a : Int} {last : Bool} {i j : Nat} (h : hexS s ahead last least i = .ok a j) : j = i + 1 ∧ 0 ≤ a ∧ a ≤ 15 ∧ i < s.size ∧ least ≤ (if last then ahead + a else 16 * (ahead + a) + 15) := by
  unfold hexS at h
  by_cases hn : hexd (at' s i) < 0 ∨ (if last then ahead + hexd (at' s i) else 16 * (ahead + hexd (at' s i)) + 15) < least
  · rw [if_pos hn] at h; cases h
  · rw [if_neg hn] at h
    have hd := hexd_bd (at' s i)
    injection h with h1 h2
    subst h1
    have : 0 ≤ at' s i := by
      by_cases hh : 0 ≤ at' s i
      · exact hh
      · exfalso; apply hn; left
        unfold hexd; rw [if_neg (by omega), if_neg (by omega)]; omega
    have := at'_nn this
    refine ⟨h2.symm, ?_, hd.2, this, ?_⟩
    · omega
    · exact Int.not_lt.1 fun hh => hn (Or.inr hh)
theorem hexS_bad {s : ByteArray} {ahead least : Int} {last : Bool} {i j : Nat} (h : hexS s ahead last least i = .bad j) : j = i := by
  unfold hexS at h
  by_cases hn : hexd (at' s i) < 0 ∨ (if last then ahead + hexd (at' s i) else 16 * (ahead + hexd (at' s i)) + 15) < least
  · rw [if_pos hn] at h; injection h with h; exact h.symm
  · rw [if_neg hn] at h; cases h
def hexPS (s : ByteArray) (least : Int) (i : Nat) : R Int := (hexS s 0 false least i).bind fun a j => (hexS s (16 * a) true least j).bind fun b k => .ok (16 * a + b) k
theorem escS_x {s : ByteArray} {least : Int} {i : Nat} (h : at' s i = 120) : escS s least i = hexPS s least (i + 1) := by
  unfold escS hexPS; rw [if_pos h]
theorem escS_ok {s : ByteArray} {least a : Int} {i j : Nat} (h : escS s least i = .ok a j) : i < j ∧ j ≤ s.size ∧ 0 ≤ a ∧ a ≤ 255 := by
  by_cases hx : at' s i = 120
  · rw [escS_x hx] at h
    unfold hexPS at h
    cases r1 : hexS s 0 false least (i + 1) with
    | bad k => rw [r1] at h; cases h
    | ok x k =>
      rw [r1] at h
      obtain ⟨rfl, hx0, hx1, hlt, _⟩ := hexS_ok r1
      simp only [R.bind] at h
      cases r2 : hexS s (16 * x) true least (i + 1 + 1) with
      | bad k => rw [r2] at h; cases h
      | ok y k =>
        rw [r2] at h
        obtain ⟨rfl, hy0, hy1, hlt2, _⟩ := hexS_ok r2
        injection h with h1 h2
        subst h1 h2
        omega
  · unfold escS at h
    rw [if_neg hx] at h
    by_cases hc : at' s i < 0 ∨ alnB (at' s i) = true ∨ at' s i < least
    · rw [if_pos hc] at h; cases h
    · rw [if_neg hc] at h
      injection h with h1 h2
      subst h1 h2
      have h0 : 0 ≤ at' s i := by
        apply Int.not_lt.1; intro hh; exact hc (Or.inl hh)
      have := at'_nn h0
      have := at'_bd s i
      omega
theorem innS_ok {s : ByteArray} {least a : Int} {i j : Nat} (h : innS s least i = .ok a j) : i < j ∧ j ≤ s.size ∧ 0 ≤ a ∧ a ≤ 255 := by
  unfold innS at h
  by_cases hx : at' s i = 92
  · rw [if_pos hx] at h
    have := escS_ok h
    omega
  · rw [if_neg hx] at h
    by_cases hc : at' s i < 0 ∨ at' s i = 91 ∨ at' s i = 93 ∨ at' s i = 45 ∨ at' s i = 94 ∨ at' s i < least
    · rw [if_pos hc] at h; cases h
    · rw [if_neg hc] at h
      injection h with h1 h2
      subst h1 h2
      have h0 : 0 ≤ at' s i := by omega
      have := at'_nn h0
      have := at'_bd s i
      omega
theorem goesOn_nn {word : List UInt8} {c : Int} (h : goesOn word c = true) : 0 ≤ c := by
  unfold goesOn at h
  simp only [List.any_eq_true, Bool.and_eq_true, decide_eq_true_eq] at h
  obtain ⟨n, _, _, hc⟩ := h
  omega
theorem clsS_ok {s : ByteArray} (f : Nat) : ∀ {word : List UInt8} {i j k : Nat}, clsS s f word i = .ok k j → i ≤ j ∧ (i ≤ s.size → j ≤ s.size) ∧ k < 7 := by
  induction f with
  | zero => intro word i j k h; cases h
  | succ f ih =>
    intro word i j k h
    rw [clsS] at h
    cases hf : names.findIdx? (· = word) with
    | some m =>
      rw [hf] at h
      injection h with h1 h2
      subst h1 h2
      rw [List.findIdx?_eq_some_iff_getElem] at hf
      obtain ⟨hm, _⟩ := hf
      exact ⟨Nat.le_refl _, id, hm⟩
    | none =>
      rw [hf] at h
      dsimp only at h
      by_cases hg : goesOn word (at' s i) = true
      · rw [if_pos hg] at h
        have := ih h
        have := at'_nn (goesOn_nn hg)
        omega
      · rw [if_neg hg] at h; cases h
theorem needS_ok {s : ByteArray} {c : Int} {i j : Nat} {u : Unit} (h : needS s c i = .ok u j) : j = i + 1 ∧ at' s i = c := by
  unfold needS at h
  by_cases hc : at' s i = c
  · rw [if_pos hc] at h; injection h with h1 h2; exact ⟨h2.symm, hc⟩
  · rw [if_neg hc] at h; cases h
theorem classS_ok {s : ByteArray} {i j k : Nat} (h : classS s i = .ok k j) : i < j ∧ j ≤ s.size ∧ k < 7 := by
  unfold classS at h
  cases h1 : needS s 58 (i + 1) with
  | bad x => rw [h1] at h; cases h
  | ok u x =>
    rw [h1] at h
    obtain ⟨rfl, e1⟩ := needS_ok h1
    have l1 := at'_nn (s := s) (i := i + 1) (by omega)
    simp only [R.bind] at h
    cases h2 : clsS s 6 [] (i + 1 + 1) with
    | bad x => rw [h2] at h; cases h
    | ok m x =>
      rw [h2] at h
      have := clsS_ok 6 h2
      simp only at h
      cases h3 : needS s 58 x with
      | bad y => rw [h3] at h; cases h
      | ok u y =>
        rw [h3] at h
        obtain ⟨rfl, e3⟩ := needS_ok h3
        simp only at h
        cases h4 : needS s 93 (x + 1) with
        | bad y => rw [h4] at h; cases h
        | ok u y =>
          rw [h4] at h
          obtain ⟨rfl, e4⟩ := needS_ok h4
          have l4 := at'_nn (s := s) (i := x + 1) (by omega)
          simp only at h
          injection h with ha hb
          subst ha hb
          omega
theorem rangeS_ok {s : ByteArray} {i j : Nat} {r : Nat → Bool} (h : rangeS s i = .ok r j) : i < j ∧ j ≤ s.size := by
  unfold rangeS at h
  by_cases hx : at' s i = 91
  · rw [if_pos hx] at h
    cases h1 : classS s i with
    | bad x => rw [h1] at h; cases h
    | ok k x =>
      rw [h1] at h
      have := classS_ok h1
      injection h with ha hb
      subst hb
      omega
  · rw [if_neg hx] at h
    cases h1 : innS s 0 i with
    | bad x => rw [h1] at h; cases h
    | ok a x =>
      rw [h1] at h
      have := innS_ok h1
      simp only [R.bind] at h
      by_cases hd : at' s x = 45
      · rw [if_pos hd] at h
        cases h2 : innS s a (x + 1) with
        | bad y => rw [h2] at h; cases h
        | ok c y =>
          rw [h2] at h
          have := innS_ok h2
          injection h with ha hb
          subst hb
          omega
      · rw [if_neg hd] at h
        injection h with ha hb
        subst hb
        omega
end Go.Proofs.YtnfojonmohijpaaGreatDoor
namespace Go.Proofs.YtnfojonmohijpaaGreatDoor
inductive NumL (s : ByteArray) (least : Nat) : Nat → Bool → Nat → R Nat → Prop
  | dig (n x : Nat) (any : Bool) (i : Nat) (q : R Nat) : digB (at' s i) = true → (x : Int) = 10 * n + (at' s i - 48) → x ≤ 5 → (x = 0 ∨ least ≤ x) → NumL s least x true (i + 1) q → NumL s least n any i q
  | big (n x : Nat) (any : Bool) (i : Nat) : digB (at' s i) = true → (x : Int) = 10 * n + (at' s i - 48) → ¬ (x ≤ 5 ∧ (x = 0 ∨ least ≤ x)) → NumL s least n any i (.bad i)
  | done (n i : Nat) : digB (at' s i) = false → least ≤ n → NumL s least n true i (.ok n i)
  | short (n : Nat) (any : Bool) (i : Nat) : digB (at' s i) = false → (any = false ∨ n < least) → NumL s least n any i (.bad i)
theorem NumL.det {s : ByteArray} {least n : Nat} {any : Bool} {i : Nat} {q q' : R Nat} (h : NumL s least n any i q) (h' : NumL s least n any i q') : q = q' := by
  induction h with
  | dig n x any i q hd hx h5 hl _ ih => cases h' with
    | dig _ x' _ _ _ hd' hx' h5' hl' hr =>
      have : x = x' := by omega
      subst this
      exact ih hr
    | big _ x' _ _ hd' hx' hn =>
      have : x = x' := by omega
      subst this
      exact absurd ⟨h5, hl⟩ hn
    | done _ _ hd' => rw [hd] at hd'; cases hd'
    | short _ _ _ hd' => rw [hd] at hd'; cases hd'
  | big n x any i hd hx hn => cases h' with
    | dig _ x' _ _ _ hd' hx' h5' hl' hr =>
      have : x = x' := by omega
      subst this
      exact absurd ⟨h5', hl'⟩ hn
    | big _ x' _ _ hd' hx' hn => rfl
    | done _ _ hd' => rw [hd] at hd'; cases hd'
    | short _ _ _ hd' => rfl
  | done n i hd hl => cases h' with
    | dig _ x' _ _ _ hd' => rw [hd] at hd'; cases hd'
    | big _ x' _ _ hd' => rw [hd] at hd'; cases hd'
    | done _ _ hd' => rfl
    | short _ _ _ hd' ho => (exfalso; simp at ho; omega)
  | short n any i hd ho => cases h' with
    | dig _ x' _ _ _ hd' => rw [hd] at hd'; cases hd'
    | big _ x' _ _ hd' => rfl
    | done _ _ hd' hl' => (exfalso; simp at ho; omega)
    | short _ _ _ hd' ho => rfl
theorem NumL.ok {s : ByteArray} {least n : Nat} {any : Bool} {i : Nat} {q : R Nat} (h : NumL s least n any i q) : ∀ m j, q = .ok m j → i ≤ j ∧ (i ≤ s.size → j ≤ s.size) ∧ (n ≤ 5 → m ≤ 5) ∧ (any = false → i < j) := by
  induction h with
  | dig n x any i q hd hx h5 hl _ ih =>
    intro m j e
    have := ih m j e
    have hnn : 0 ≤ at' s i := by simp [digB] at hd; omega
    have := at'_nn hnn
    omega
  | big => intro m j e; cases e
  | done n i hd hl => intro m j e; cases e; simp
  | short => intro m j e; cases e
end Go.Proofs.YtnfojonmohijpaaGreatDoor
namespace Go.Proofs.YtnfojonmohijpaaGreatDoor
inductive Pat where
  | set (f : Nat → Bool)
  | grp (k : Nat) (x : Pat)
  | rep (mn : Nat) (mx : Int) (x : Pat)
  | pnil
  | pcons (x r : Pat)
  | wone (x : Pat)
  | wcons (x r : Pat)
def Rep3 (s : ByteArray) (m : Nat) (q2 : R Nat) (q : R (Option (Nat × Int))) : Prop :=
  match q2 with
  | .bad l => q = .bad l
  | .ok n l => q = if at' s l = 125 then .ok (some (m, (n : Int))) (l + 1) else .bad l
def Rep2 (s : ByteArray) (q1 : R Nat) (q : R (Option (Nat × Int))) : Prop :=
  match q1 with
  | .bad k => q = .bad k
  | .ok m k => (at' s k = 44 ∧ at' s (k + 1) = 125 ∧ q = .ok (some (m, -1)) (k + 2)) ∨ (at' s k = 44 ∧ at' s (k + 1) ≠ 125 ∧ ∃ q2, NumL s m 0 false (k + 1) q2 ∧ Rep3 s m q2 q) ∨
      (at' s k ≠ 44 ∧ q = if at' s k = 125 then .ok (some (m, (m : Int))) (k + 1) else .bad k)
def RepR (s : ByteArray) (j : Nat) (q : R (Option (Nat × Int))) : Prop :=
  (at' s j ≠ 42 ∧ at' s j ≠ 43 ∧ at' s j ≠ 63 ∧ at' s j ≠ 123 ∧ q = .ok none j) ∨ (at' s j = 42 ∧ q = .ok (some (0, -1)) (j + 1)) ∨ (at' s j = 43 ∧ q = .ok (some (1, -1)) (j + 1)) ∨
  (at' s j = 63 ∧ q = .ok (some (0, 1)) (j + 1)) ∨ (at' s j = 123 ∧ ∃ q1, NumL s 0 0 false (j + 1) q1 ∧ Rep2 s q1 q)
theorem Rep3.det {s : ByteArray} {m : Nat} {q2 : R Nat} {q q' : R (Option (Nat × Int))} (h : Rep3 s m q2 q) (h' : Rep3 s m q2 q') : q = q' := by
  cases q2 <;> exact h.trans h'.symm
theorem Rep2.det {s : ByteArray} {q1 : R Nat} {q q' : R (Option (Nat × Int))} (h : Rep2 s q1 q) (h' : Rep2 s q1 q') : q = q' := by
  cases q1 with
  | bad k => exact h.trans h'.symm
  | ok m k =>
    rcases h with ⟨a, b, e⟩ | ⟨a, b, q2, n, e⟩ | ⟨a, e⟩ <;> rcases h' with ⟨a', b', e'⟩ | ⟨a', b', q2', n', e'⟩ | ⟨a', e'⟩
    · exact e.trans e'.symm
    · exact absurd b b'
    · exact absurd a a'
    · exact absurd b' b
    · have := n.det n'
      subst this
      exact e.det e'
    · exact absurd a a'
    · exact absurd a' a
    · exact absurd a' a
    · exact e.trans e'.symm
theorem RepR.det {s : ByteArray} {j : Nat} {q q' : R (Option (Nat × Int))} (h : RepR s j q) (h' : RepR s j q') : q = q' := by
  rcases h with ⟨a, b, c, d, e⟩ | ⟨a, e⟩ | ⟨a, e⟩ | ⟨a, e⟩ | ⟨a, q1, n, e⟩ <;> rcases h' with ⟨a', b', c', d', e'⟩ | ⟨a', e'⟩ | ⟨a', e'⟩ | ⟨a', e'⟩ | ⟨a', q1', n', e'⟩
  all_goals first
    | exact e.trans e'.symm
    | (exfalso; omega)
    | skip
  have := n.det n'
  subst this
  exact e.det e'
theorem RepR.ok {s : ByteArray} {j k : Nat} {o : Option (Nat × Int)} (h : RepR s j (.ok o k)) : j ≤ k ∧ (j ≤ s.size → k ≤ s.size) := by
  have A : ∀ i, 0 ≤ at' s i → i < s.size := fun i hi => at'_nn hi
  rcases h with ⟨a, b, c, d, e⟩ | ⟨a, e⟩ | ⟨a, e⟩ | ⟨a, e⟩ | ⟨a, q1, n, e⟩
  · cases e; simp
  · cases e; have := A j (by omega); omega
  · cases e; have := A j (by omega); omega
  · cases e; have := A j (by omega); omega
  · have hj := A j (by omega)
    cases q1 with
    | bad l => cases e
    | ok m l =>
      have hl := n.ok m l rfl
      rcases e with ⟨a, b, e⟩ | ⟨a, b, q2, n', e⟩ | ⟨a, e⟩
      · cases e; have := A (l + 1) (by omega); omega
      · cases q2 with
        | bad x => cases e
        | ok y x =>
          have hx := n'.ok y x rfl
          have hl2 := A l (by omega)
          simp only [Rep3] at e
          by_cases h5 : at' s x = 125
          · rw [if_pos h5] at e; cases e; have := A x (by omega); omega
          · rw [if_neg h5] at e; cases e
      · by_cases h5 : at' s l = 125
        · rw [if_pos h5] at e; cases e; have := A l (by omega); omega
        · rw [if_neg h5] at e; cases e
inductive Kd where
  | ways | way | piece | single
def stopC (c : Int) : Prop := c < 0 ∨ c = 124 ∨ c = 41 ∨ c = 36
def notC (c : Int) : Prop := c = 94 ∨ c = 36 ∨ c = 124 ∨ c = 41 ∨ c = 42 ∨ c = 43 ∨ c = 63 ∨ c = 123
def withRep (x : Pat) : Option (Nat × Int) → Pat
  | none => x
  | some (mn, mx) => .rep mn mx x
inductive G (s : ByteArray) : Kd → Nat → Nat → Nat → R (Pat × Nat) → Prop
  | one (d g i g1 j : Nat) (x : Pat) : G s .way d g i (.ok (x, g1) j) → at' s j ≠ 124 → G s .ways d g i (.ok (.wone x, g1) j)
  | more (d g i g1 j : Nat) (x : Pat) (q : R (Pat × Nat)) : G s .way d g i (.ok (x, g1) j) → at' s j = 124 → G s .ways d g1 (j + 1) q → G s .ways d g i (q.map fun y => (.wcons x y.1, y.2))
  | wbad (d g i j : Nat) : G s .way d g i (.bad j) → G s .ways d g i (.bad j)
  | nil (d g i : Nat) : stopC (at' s i) → G s .way d g i (.ok (.pnil, g) i)
  | cons (d g i g1 j : Nat) (x : Pat) (q : R (Pat × Nat)) : ¬ stopC (at' s i) → G s .piece d g i (.ok (x, g1) j) → G s .way d g1 j q → G s .way d g i (q.map fun y => (.pcons x y.1, y.2))
  | pbad (d g i j : Nat) : ¬ stopC (at' s i) → G s .piece d g i (.bad j) → G s .way d g i (.bad j)
  | rep (d g i g1 j : Nat) (x : Pat) (q : R (Option (Nat × Int))) : G s .single d g i (.ok (x, g1) j) → RepR s j q → G s .piece d g i (q.map fun o => (withRep x o, g1))
  | sbad (d g i j : Nat) : G s .single d g i (.bad j) → G s .piece d g i (.bad j)
  | deep (d g i : Nat) : at' s i = 40 → (d = 6 ∨ g = 9) → G s .single d g i (.bad i)
  | grp (d g i g1 j : Nat) (x : Pat) : at' s i = 40 → ¬ (d = 6 ∨ g = 9) → G s .ways (d + 1) (g + 1) (i + 1) (.ok (x, g1) j) → at' s j = 41 → G s .single d g i (.ok (.grp (g + 1) x, g1) (j + 1))
  | gopen (d g i g1 j : Nat) (x : Pat) : at' s i = 40 → ¬ (d = 6 ∨ g = 9) → G s .ways (d + 1) (g + 1) (i + 1) (.ok (x, g1) j) → at' s j ≠ 41 → G s .single d g i (.bad j)
  | gbad (d g i j : Nat) : at' s i = 40 → ¬ (d = 6 ∨ g = 9) → G s .ways (d + 1) (g + 1) (i + 1) (.bad j) → G s .single d g i (.bad j)
  | set (d g i : Nat) (q : R (Nat → Bool)) : at' s i = 91 → SetR s (i + 1) q → G s .single d g i (q.map fun f => (.set f, g))
  | dot (d g i : Nat) : at' s i = 46 → G s .single d g i (.ok (.set fun _ => true, g) (i + 1))
  | esc (d g i : Nat) : at' s i = 92 → G s .single d g i ((escS s 0 (i + 1)).map fun a => (.set (stretch a a), g))
  | no (d g i : Nat) : notC (at' s i) → G s .single d g i (.bad i)
  | lit (d g i : Nat) : 0 ≤ at' s i → at' s i ≠ 40 → at' s i ≠ 91 → at' s i ≠ 46 → at' s i ≠ 92 → ¬ notC (at' s i) → G s .single d g i (.ok (.set (stretch (at' s i) (at' s i)), g) (i + 1))
theorem G.det {s : ByteArray} {k : Kd} {d g i : Nat} {q : R (Pat × Nat)} (h : G s k d g i q) : ∀ q', G s k d g i q' → q = q' := by
  induction h with
  | one d g i g1 j x _ e ih =>
    intro q' h'
    cases h' with
    | one _ _ _ g1' j' x' a b => have := ih _ a; injection this with t u; cases t; cases u; rfl
    | more _ _ _ g1' j' x' _ a b => have := ih _ a; injection this with t u; cases t; cases u; exact absurd b e
    | wbad _ _ _ j' a => have := ih _ a; cases this
  | more d g i g1 j x q _ e _ ih ih2 =>
    intro q' h'
    cases h' with
    | one _ _ _ g1' j' x' a b => have := ih _ a; injection this with t u; cases t; cases u; exact absurd e b
    | more _ _ _ g1' j' x' _ a b c => have := ih _ a; injection this with t u; cases t; cases u; rw [ih2 _ c]
    | wbad _ _ _ j' a => have := ih _ a; cases this
  | wbad d g i j _ ih =>
    intro q' h'
    cases h' with
    | one _ _ _ g1' j' x' a b => have := ih _ a; cases this
    | more _ _ _ g1' j' x' _ a b => have := ih _ a; cases this
    | wbad _ _ _ j' a => have := ih _ a; cases this; rfl
  | nil d g i e =>
    intro q' h'
    cases h' with
    | nil => rfl
    | cons _ _ _ _ _ _ _ a => exact absurd e a
    | pbad _ _ _ _ a => exact absurd e a
  | cons d g i g1 j x q e _ _ ih ih2 =>
    intro q' h'
    cases h' with
    | nil _ _ _ a => exact absurd a e
    | cons _ _ _ _ _ _ _ a b c => have := ih _ b; injection this with t u; cases t; cases u; rw [ih2 _ c]
    | pbad _ _ _ _ a b => have := ih _ b; cases this
  | pbad d g i j e _ ih =>
    intro q' h'
    cases h' with
    | nil _ _ _ a => exact absurd a e
    | cons _ _ _ _ _ _ _ a b c => have := ih _ b; cases this
    | pbad _ _ _ _ a b => have := ih _ b; cases this; rfl
  | rep d g i g1 j x q _ r ih =>
    intro q' h'
    cases h' with
    | rep _ _ _ _ _ _ _ a b => have := ih _ a; injection this with t u; cases t; cases u; rw [r.det b]
    | sbad _ _ _ _ a => have := ih _ a; cases this
  | sbad d g i j _ ih =>
    intro q' h'
    cases h' with
    | rep _ _ _ _ _ _ _ a b => have := ih _ a; cases this
    | sbad _ _ _ _ a => have := ih _ a; cases this; rfl
  | deep d g i e o =>
    intro q' h'
    cases h' with
    | deep => rfl
    | grp _ _ _ _ _ _ _ a => exact absurd o a
    | gopen _ _ _ _ _ _ _ a => exact absurd o a
    | gbad _ _ _ _ _ a => exact absurd o a
    | set _ _ _ _ a => omega
    | dot _ _ _ a => omega
    | esc _ _ _ a => omega
    | no => rfl
    | lit _ _ _ _ a => omega
  | grp d g i g1 j x e o _ c ih =>
    intro q' h'
    cases h' with
    | deep _ _ _ _ a => exact absurd a o
    | grp _ _ _ _ _ _ _ _ a b => have := ih _ a; injection this with t u; cases t; cases u; rfl
    | gopen _ _ _ _ _ _ _ _ a b => have := ih _ a; injection this with t u; cases t; cases u; exact absurd c b
    | gbad _ _ _ _ _ _ a => have := ih _ a; cases this
    | set _ _ _ _ a => omega
    | dot _ _ _ a => omega
    | esc _ _ _ a => omega
    | no _ _ _ a => unfold notC at a; omega
    | lit _ _ _ _ a => omega
  | gopen d g i g1 j x e o _ c ih =>
    intro q' h'
    cases h' with
    | deep _ _ _ _ a => exact absurd a o
    | grp _ _ _ _ _ _ _ _ a b => have := ih _ a; injection this with t u; cases t; cases u; exact absurd b c
    | gopen _ _ _ _ _ _ _ _ a b => have := ih _ a; injection this with t u; cases t; cases u; rfl
    | gbad _ _ _ _ _ _ a => have := ih _ a; cases this
    | set _ _ _ _ a => omega
    | dot _ _ _ a => omega
    | esc _ _ _ a => omega
    | no _ _ _ a => unfold notC at a; omega
    | lit _ _ _ _ a => omega
  | gbad d g i j e o _ ih =>
    intro q' h'
    cases h' with
    | deep _ _ _ _ a => exact absurd a o
    | grp _ _ _ _ _ _ _ _ a b => have := ih _ a; cases this
    | gopen _ _ _ _ _ _ _ _ a b => have := ih _ a; cases this
    | gbad _ _ _ _ _ _ a => have := ih _ a; cases this; rfl
    | set _ _ _ _ a => omega
    | dot _ _ _ a => omega
    | esc _ _ _ a => omega
    | no _ _ _ a => unfold notC at a; omega
    | lit _ _ _ _ a => omega
  | set d g i q e r =>
    intro q' h'
    cases h' with
    | deep _ _ _ a => omega
    | grp _ _ _ _ _ _ a => omega
    | gopen _ _ _ _ _ _ a => omega
    | gbad _ _ _ _ a => omega
    | set _ _ _ _ a b => rw [r.det b]
    | dot _ _ _ a => omega
    | esc _ _ _ a => omega
    | no _ _ _ a => unfold notC at a; omega
    | lit _ _ _ _ a b => omega
  | dot d g i e =>
    intro q' h'
    cases h' with
    | deep _ _ _ a => omega
    | grp _ _ _ _ _ _ a => omega
    | gopen _ _ _ _ _ _ a => omega
    | gbad _ _ _ _ a => omega
    | set _ _ _ _ a b => omega
    | dot _ _ _ a => rfl
    | esc _ _ _ a => omega
    | no _ _ _ a => unfold notC at a; omega
    | lit _ _ _ _ a b c => omega
  | esc d g i e =>
    intro q' h'
    cases h' with
    | deep _ _ _ a => omega
    | grp _ _ _ _ _ _ a => omega
    | gopen _ _ _ _ _ _ a => omega
    | gbad _ _ _ _ a => omega
    | set _ _ _ _ a b => omega
    | dot _ _ _ a => omega
    | esc _ _ _ a => rfl
    | no _ _ _ a => unfold notC at a; omega
    | lit _ _ _ _ a b c d => omega
  | no d g i e =>
    intro q' h'
    unfold notC at e
    cases h' with
    | deep => rfl
    | grp _ _ _ _ _ _ a => omega
    | gopen _ _ _ _ _ _ a => omega
    | gbad _ _ _ _ a => omega
    | set _ _ _ _ a b => omega
    | dot _ _ _ a => omega
    | esc _ _ _ a => omega
    | no _ _ _ a => rfl
    | lit _ _ _ _ a b c d f => exact absurd e f
  | lit d g i a b c d' e f =>
    intro q' h'
    cases h' with
    | deep _ _ _ a => omega
    | grp _ _ _ _ _ _ a => omega
    | gopen _ _ _ _ _ _ a => omega
    | gbad _ _ _ _ a => omega
    | set _ _ _ _ a b => omega
    | dot _ _ _ a => omega
    | esc _ _ _ a => omega
    | no _ _ _ a => exact absurd a f
    | lit => rfl
end Go.Proofs.YtnfojonmohijpaaGreatDoor
namespace Go.Proofs.YtnfojonmohijpaaGreatDoor
structure Whole where
  bg : Bool
  en : Bool
  x : Pat
  g : Nat
def wi (s : ByteArray) : Nat := if at' s 0 = 94 then 1 else 0
def PatE (s : ByteArray) : R (Pat × Nat) → R Whole
  | .bad j => .bad j
  | .ok (x, g) j => if 0 ≤ at' s (if at' s j = 36 then j + 1 else j) then .bad (if at' s j = 36 then j + 1 else j) else .ok ⟨decide (at' s 0 = 94), decide (at' s j = 36), x, g⟩ (if at' s j = 36 then j + 1 else j)
theorem PatE_ok (s : ByteArray) (x : Pat) (g j : Nat) : PatE s (.ok (x, g) j) = if 0 ≤ at' s (if at' s j = 36 then j + 1 else j) then .bad (if at' s j = 36 then j + 1 else j) else .ok ⟨decide (at' s 0 = 94), decide (at' s j = 36), x, g⟩ (if at' s j = 36 then j + 1 else j) := rfl
def PatR (s : ByteArray) (q : R Whole) : Prop := ∃ qw, G s .ways 0 0 (wi s) qw ∧ q = PatE s qw
theorem PatR.det {s : ByteArray} {q q' : R Whole} (h : PatR s q) (h' : PatR s q') : q = q' := by
  obtain ⟨a, h, rfl⟩ := h
  obtain ⟨b, h', rfl⟩ := h'
  rw [h.det b h']
end Go.Proofs.YtnfojonmohijpaaGreatDoor
namespace Go.Proofs.YtnfojonmohijpaaGreatDoor
open Go.RowKit
structure PS where
  s : ByteArray
  nodes : Value
  root : Nat
  bg : Bool
  en : Bool
  gr : Nat
  bad : Int
  ix : Nat
  deep : Nat
def PS.cells (p : PS) : Array Value := #[.string p.s, p.nodes, .int .i64 p.root, .bool p.bg, .bool p.en, .int .i64 p.gr, .int .i64 p.bad, .int .i64 p.ix, .int .i64 p.deep]
def PB (w : World) (b : Nat) (p : PS) : Prop := w.heap[b]? = some (.cells p.cells 102 (0, 0))
structure Keeps (S : List Nat) (w w' : World) : Prop where
  os : w'.os = w.os
  tape : w'.tape = w.tape
  output : w'.output = w.output
  size : w.heap.size ≤ w'.heap.size
  block : ∀ k, k < w.heap.size → k ∉ S → w'.heap[k]? = w.heap[k]?
theorem Keeps.refl (S : List Nat) (w : World) : Keeps S w w := ⟨rfl, rfl, rfl, Nat.le_refl _, fun _ _ _ => rfl⟩
theorem Keeps.trans {S : List Nat} {a b c : World} (h : Keeps S a b) (k : Keeps S b c) : Keeps S a c :=
  ⟨k.os.trans h.os, k.tape.trans h.tape, k.output.trans h.output, Nat.le_trans h.size k.size, fun i hi hn => (k.block i (Nat.lt_of_lt_of_le hi h.size) hn).trans (h.block i hi hn)⟩
theorem Keeps.drew {S : List Nat} {a w : World} (h : Keeps S a w) : Keeps S a w.drew := ⟨h.os, h.tape, h.output, h.size, h.block⟩
theorem Keeps.drewN {S : List Nat} {a w : World} (h : Keeps S a w) (n : Nat) : Keeps S a (w.drewN n) := ⟨h.os, h.tape, h.output, h.size, h.block⟩
theorem Keeps.setCell {S : List Nat} {a w : World} (h : Keeps S a w) {p : Addr} (hp : p.block ∈ S ∨ a.heap.size ≤ p.block) (u : Value) : Keeps S a (w.setCell p u) :=
  ⟨h.os, h.tape, h.output, by simpa using h.size, fun k hk hn => by
    rw [Below.heap_setCell]
    · exact h.block k hk hn
    · rintro rfl
      rcases hp with hp | hp
      · exact hn hp
      · omega⟩
theorem Keeps.alloc {S : List Nat} {a w : World} (h : Keeps S a w) (o : Obj) : Keeps S a (w.alloc o) :=
  ⟨h.os, h.tape, h.output, by have := h.size; simp; omega, fun k hk hn => by
    rw [Below.heap_alloc _ _ _ (Nat.lt_of_lt_of_le hk h.size)]
    exact h.block k hk hn⟩
theorem PB.lt {w : World} {b : Nat} {p : PS} (h : PB w b p) : b < w.heap.size := (Array.getElem?_eq_some_iff.1 h).1
theorem PB.keep {w w' : World} {b : Nat} {p : PS} {S : List Nat} (h : PB w b p) (hk : Keeps S w w') (hb : b ∉ S) : PB w' b p := (hk.block b h.lt hb).trans h
theorem PB.drewN {w : World} {b : Nat} {p : PS} (h : PB w b p) (n : Nat) : PB (w.drewN n) b p := h
theorem PB.main {w : World} {b : Nat} {p : PS} (h : PB w b p) :
    w.cell? ⟨b, 0, none⟩ = some (.string p.s) ∧ w.cell? ⟨b, 6, none⟩ = some (.int .i64 p.bad) ∧ w.cell? ⟨b, 7, none⟩ = some (.int .i64 p.ix) ∧
    w.frozen? ⟨b, 6, none⟩ = false ∧ w.frozen? ⟨b, 7, none⟩ = false := by
  unfold PB at h
  simp [World.cell?, World.frozen?, h, PS.cells]
theorem PB.setIx {w : World} {b : Nat} {p : PS} (h : PB w b p) (x : Nat) : PB (w.setCell ⟨b, 7, none⟩ (.int .i64 x)) b { p with ix := x } := by
  unfold PB at *
  simp [World.setCell, Array.getElem?_modify, h, PS.cells]
theorem PB.setBad {w : World} {b : Nat} {p : PS} (h : PB w b p) (x : Int) : PB (w.setCell ⟨b, 6, none⟩ (.int .i64 x)) b { p with bad := x } := by
  unfold PB at *
  simp [World.setCell, Array.getElem?_modify, h, PS.cells]
theorem ret_bool {a b : Bool} (h : a = true ↔ b = true) : Ending.returned (.bool a) = .returned (.bool b) := by
  have : a = b := by cases a <;> cases b <;> simp at h ⊢
  rw [this]
theorem ret_int {k : IntKind} {a b : Int} (h : a = b) : Ending.returned (.int k a) = .returned (.int k b) := by rw [h]
def moreB (p : PS) : Bool := decide (p.bad < 0) && decide (p.ix < p.s.size)
set_option maxHeartbeats 400000 in
theorem more_any (b : Nat) (p : PS) (w : World) (hp : PB w b p) :
    Calls Tryz.prog 83 #[.pointer (some ⟨b, 0, none⟩)] w fun e w' => e = .returned (.bool (moreB p)) ∧ ∃ n, w' = w.drewN n := by
  obtain ⟨h0, h6, h7, _, _⟩ := hp.main
  by_cases hb : p.bad < 0
  · have hd : decide (p.bad < 0) = true := by simpa using hb
    go_enter Tryz.func83, Tryz.ntmps83
    go_wp2
    go_quiet (fail)
    go_wp2
    go_ret
    exact ⟨by simp [moreB, hb], _, rfl⟩
  · have hd : decide (p.bad < 0) = false := by simpa using hb
    go_enter Tryz.func83, Tryz.ntmps83
    go_wp2
    go_quiet (fail)
    go_wp2
    go_ret
    exact ⟨by simp [moreB, hd], _, rfl⟩
set_option maxHeartbeats 400000 in
theorem fail_good (b : Nat) (p : PS) (w : World) (hp : PB w b p) (hb : p.bad < 0) :
    Calls Tryz.prog 84 #[.pointer (some ⟨b, 0, none⟩)] w fun e w' => e = .returned (.tuple #[]) ∧ w' = w.setCell ⟨b, 6, none⟩ (.int .i64 p.ix) := by
  obtain ⟨h0, h6, h7, f6, f7⟩ := hp.main
  go_enter Tryz.func84, Tryz.ntmps84
  go_wp2
  go_end0
  exact ⟨rfl, rfl⟩
set_option maxHeartbeats 400000 in
theorem fail_bad (b : Nat) (p : PS) (w : World) (hp : PB w b p) (hb : 0 ≤ p.bad) :
    Calls Tryz.prog 84 #[.pointer (some ⟨b, 0, none⟩)] w fun e w' => e = .returned (.tuple #[]) ∧ w' = w := by
  obtain ⟨h0, h6, h7, f6, f7⟩ := hp.main
  go_enter Tryz.func84, Tryz.ntmps84
  go_wp2
  go_end0
  exact ⟨rfl, rfl⟩
def PS.failed (p : PS) : PS := if p.bad < 0 then { p with bad := p.ix } else p
theorem fail_any (b : Nat) (p : PS) (w : World) (hp : PB w b p) :
    Calls Tryz.prog 84 #[.pointer (some ⟨b, 0, none⟩)] w fun e w' => e = .returned (.tuple #[]) ∧ PB w' b p.failed ∧ Keeps [b] w w' := by
  by_cases hb : p.bad < 0
  · refine (fail_good b p w hp hb).mono ?_
    rintro e w' ⟨rfl, rfl⟩
    exact ⟨rfl, by simpa [PS.failed, hb] using hp.setBad p.ix, (Keeps.refl _ _).setCell (by simp) _⟩
  · refine (fail_bad b p w hp (by omega)).mono ?_
    rintro e w' ⟨rfl, rfl⟩
    exact ⟨rfl, by simpa [PS.failed, hb] using hp, Keeps.refl _ _⟩
def PS.cur (p : PS) : Int := if p.bad < 0 then at' p.s p.ix else -1
theorem PS.cur_more {p : PS} (h : moreB p = true) : ∃ hk : p.ix < p.s.size, p.bad < 0 ∧ p.cur = (p.s[p.ix].toNat : Int) := by
  simp [moreB] at h
  exact ⟨by omega, h.1, by simp [PS.cur, h.1, at'_lt h.2]⟩
theorem PS.cur_none {p : PS} (h : moreB p = false) : p.cur = -1 := by
  simp [moreB] at h
  unfold PS.cur
  split
  · exact at'_ge (by have := h (by assumption); omega)
  · rfl
theorem moreB_eq (p : PS) : moreB p = decide (0 ≤ p.cur) := by
  cases h : moreB p
  · simp [PS.cur_none h]
  · obtain ⟨hk, _, hc⟩ := PS.cur_more h
    rw [hc]; simp
theorem PS.cur_good {p : PS} (h : 0 ≤ p.cur) : p.bad < 0 ∧ p.ix < p.s.size ∧ p.cur = at' p.s p.ix := by
  unfold PS.cur at *
  split at h
  · rename_i hb; simp [hb]; exact at'_nn h
  · omega
set_option maxHeartbeats 400000 in
theorem next_any (b : Nat) (p : PS) (c : Int) (w : World) (hp : PB w b p) (hc : 0 ≤ c) :
    Calls Tryz.prog 134 #[.pointer (some ⟨b, 0, none⟩), .int .u8 c] w fun e w' => e = .returned (.bool (decide (p.cur = c))) ∧ ∃ n, w' = w.drewN n := by
  obtain ⟨c0, h6, h7, _, _⟩ := hp.main
  cases hm : moreB p
  · go_enter Tryz.func134, Tryz.ntmps134
    go_wp2_with (go_at_call 83; refine (more_any b p _ hp).mono ?_; rintro e w' ⟨rfl, n, rfl⟩)
    go_quiet (fail)
    go_wp2
    go_ret
    exact ⟨by simp [PS.cur_none hm]; omega, _, World.drewN_drewN _ _ _⟩
  · obtain ⟨hk, hb, hcur⟩ := PS.cur_more hm
    have hki : (p.ix : Int) < (p.s.size : Int) := by omega
    have hk0 : (0 : Int) ≤ (p.ix : Int) := by omega
    have HC : Hid (p.cur = (p.s[p.ix].toNat : Int)) := hcur
    clear hcur
    go_enter Tryz.func134, Tryz.ntmps134
    go_wp2_with (go_at_call 83; refine (more_any b p _ hp).mono ?_; rintro e w' ⟨rfl, n, rfl⟩)
    go_quiet (fail)
    go_wp2
    go_ret
    exact ⟨by rw [HC.out]; simp [BEq.beq], _, World.drewN_drewN _ _ _⟩
def PS.took (p : PS) (c : Int) : PS := if p.cur = c then { p with ix := p.ix + 1 } else p
set_option maxHeartbeats 400000 in
theorem take_any (b : Nat) (p : PS) (c : Int) (w : World) (hp : PB w b p) (hc : 0 ≤ c) (hs : p.s.size ≤ 60) :
    Calls Tryz.prog 81 #[.pointer (some ⟨b, 0, none⟩), .int .u8 c] w fun e w' => e = .returned (.bool (decide (p.cur = c))) ∧ PB w' b (p.took c) ∧ Keeps [b] w w' := by
  obtain ⟨c0, h6, h7, f6, f7⟩ := hp.main
  by_cases h : p.cur = c
  · have hd : decide (p.cur = c) = true := by simpa using h
    have H : Hid (p.cur = c) := h
    have h0 := (PS.cur_good (p := p) (by omega)).2.1
    clear h
    have hb1 : (0 : Int) ≤ (p.ix : Int) := by omega
    have hb2 : (p.ix : Int) ≤ 60 := by omega
    go_enter Tryz.func81, Tryz.ntmps81
    go_wp2_with (go_at_call 134; refine (next_any b p c _ hp hc).mono ?_; rintro e w' ⟨rfl, n, rfl⟩)
    go_ret
    exact ⟨by simp [hd], by simp only [PS.took, H.out, if_true]; exact (hp.drewN n).setIx (p.ix + 1), ((Keeps.refl _ _).drewN n).setCell (by simp) _⟩
  · have hd : decide (p.cur = c) = false := by simpa using h
    have H : Hid (¬ p.cur = c) := h
    clear h
    go_enter Tryz.func81, Tryz.ntmps81
    go_wp2_with (go_at_call 134; refine (next_any b p c _ hp hc).mono ?_; rintro e w' ⟨rfl, n, rfl⟩)
    go_ret
    exact ⟨by simp [hd], by simp only [PS.took, H.out, if_false]; exact hp.drewN n, (Keeps.refl _ _).drewN n⟩
def PS.needed (p : PS) (c : Int) : PS := if p.cur = c then { p with ix := p.ix + 1 } else p.failed
set_option maxHeartbeats 400000 in
theorem need_any (b : Nat) (p : PS) (c : Int) (w : World) (hp : PB w b p) (hc : 0 ≤ c) (hs : p.s.size ≤ 60) :
    Calls Tryz.prog 227 #[.pointer (some ⟨b, 0, none⟩), .int .u8 c] w fun e w' => e = .returned (.tuple #[]) ∧ PB w' b (p.needed c) ∧ Keeps [b] w w' := by
  by_cases h : p.cur = c
  · have hd : decide (p.cur = c) = true := by simpa using h
    have H : Hid (p.cur = c) := h
    clear h
    go_enter Tryz.func227, Tryz.ntmps227
    go_wp2_with (go_at_call 81; refine (take_any b p c _ hp hc hs).mono ?_; rintro e w' ⟨rfl, hp1, hk1⟩)
    go_end0
    exact ⟨rfl, by simpa [PS.took, PS.needed, H.out] using hp1, hk1⟩
  · have hd : decide (p.cur = c) = false := by simpa using h
    have H : Hid (¬ p.cur = c) := h
    clear h
    go_enter Tryz.func227, Tryz.ntmps227
    go_wp2_with (first | (go_at_call 81; refine (take_any b p c _ hp hc hs).mono ?_; rintro e w' ⟨rfl, hp1, hk1⟩) | (go_at_call 84; refine (fail_any b _ _ hp1).mono ?_; rintro e w' ⟨rfl, hp2, hk2⟩))
    go_end0
    exact ⟨rfl, by simpa [PS.took, PS.needed, H.out] using hp2, hk1.trans hk2⟩
set_option maxHeartbeats 400000 in
theorem digit_any (c : Int) (w : World) :
    Calls Tryz.prog 162 #[.int .u8 c] w fun e w' => e = .returned (.bool (digB c)) ∧ w' = w := by
  go_enter Tryz.func162, Tryz.ntmps162
  go_wp2
  all_goals go_ret
  all_goals exact ⟨by simp [digB]; omega, rfl⟩
set_option maxHeartbeats 400000 in
theorem alnum_any (c : Int) (w : World) :
    Calls Tryz.prog 210 #[.int .u8 c] w fun e w' => e = .returned (.bool (alnB c)) ∧ w' = w := by
  cases hd : digB c
  all_goals
    go_enter Tryz.func210, Tryz.ntmps210
    go_wp2_with (go_at_call 162; refine (digit_any c _).mono ?_; rintro e w' ⟨rfl, rfl⟩)
    all_goals go_ret
    all_goals exact ⟨ret_bool (by simp [alnB, hd] <;> omega), rfl⟩
def hasB (s : ByteArray) (c : Int) (k : Nat) : Bool := (s.data.toList.take k).any fun x => decide ((x.toNat : Int) = c)
theorem hasB_snoc (s : ByteArray) (c : Int) (k : Nat) (h : k < s.size) : hasB s c (k + 1) = (hasB s c k || decide ((s[k].toNat : Int) = c)) := by
  unfold hasB
  rw [List.take_succ_eq_append_getElem (by simpa using h)]
  simp; rfl
theorem hasB_mono (s : ByteArray) (c : Int) (k : Nat) (h : hasB s c k = true) : hasB s c s.size = true := by
  unfold hasB at *
  simp only [List.any_eq_true] at *
  obtain ⟨x, hx, hc⟩ := h
  exact ⟨x, by rw [List.take_of_length_le (by simp)]; exact List.mem_of_mem_take hx, hc⟩
set_option maxHeartbeats 400000 in
theorem has_any (s : ByteArray) (c : Int) (w : World) (hs : s.size ≤ 60) :
    Calls Tryz.prog 109 #[.string s, .int .u8 c] w fun e w' => e = .returned (.bool (hasB s c s.size)) ∧ w' = w := by
  go_enter Tryz.func109, Tryz.ntmps109
  go_wp2
  go_loop [5] (fun i => ∃ k : Nat, k ≤ s.size ∧ i = .int .i64 k ∧ Hid (hasB s c k = false)) (fun i => s.size - (intOf i).toNat)
  case atStart => exact ⟨0, Nat.zero_le _, rfl, rfl⟩
  case round =>
    obtain ⟨k, hk, rfl, hn⟩ := hrel
    by_cases hlt : k < s.size
    · have HN : Hid (hasB s c (k + 1) = decide ((s[k].toNat : Int) = c)) := by
        show hasB s c (k + 1) = decide ((s[k].toNat : Int) = c)
        rw [hasB_snoc s c k hlt, hn.out, Bool.false_or]
      by_cases hc : (s[k].toNat : Int) = c
      · have hcb : ((s[k].toNat : Int) == c) = true := by simpa using hc
        have HE : Hid (hasB s c s.size = true) := hasB_mono s c (k + 1) (by rw [HN.out]; simpa using hc)
        clear hc
        go_wp2
        go_ret
        exact ⟨by rw [HE.out]; rfl, rfl⟩
      · have hcb : ((s[k].toNat : Int) == c) = false := by simpa using hc
        have HE : Hid (hasB s c (k + 1) = false) := by show hasB s c (k + 1) = false; rw [HN.out]; simpa using hc
        clear hc
        go_wp2
        go_round
        case rel => exact ⟨k + 1, by omega, by go_num, HE⟩
        case measure => simp [intOf]; omega
    · have e : k = s.size := by omega
      subst e
      go_wp2
      go_ret
      exact ⟨by rw [hn.out]; rfl, rfl⟩
end Go.Proofs.YtnfojonmohijpaaGreatDoor
