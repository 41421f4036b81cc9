/-
  DERIVED. Plain mathematics: how a pattern is read (the document's grammar) and written in one way, as functions on bytes. Nothing of the program stands here; nothing is proved here but small facts on these functions.
-/
import Derived.Below
set_option linter.unusedSimpArgs false
set_option linter.unusedVariables false
namespace Go.Proofs.YtnfojonmohijpaaGreatDoor

/-- The byte at a place, as a number; below 0: there is none. -/
def at' (s : ByteArray) (i : Nat) : Int := if h : i < s.size then (s[i].toNat : Int) else -1
theorem at'_lt {s : ByteArray} {i : Nat} (h : i < s.size) : at' s i = (s[i].toNat : Int) := by simp [at', h]
theorem at'_ge {s : ByteArray} {i : Nat} (h : s.size ≤ i) : at' s i = -1 := by simp [at', Nat.not_lt.2 h]
theorem at'_bd (s : ByteArray) (i : Nat) : -1 ≤ at' s i ∧ at' s i ≤ 255 := by
  unfold at'
  split
  · rename_i h
    have := s[i].toNat_lt
    omega
  · omega
theorem at'_nn {s : ByteArray} {i : Nat} (h : 0 ≤ at' s i) : i < s.size := by
  rcases Nat.lt_or_ge i s.size with h' | h'
  · exact h'
  · rw [at'_ge h'] at h; omega

def digB (c : Int) : Bool := decide (48 ≤ c) && decide (c ≤ 57)
def alnB (c : Int) : Bool := digB c || (decide (97 ≤ c) && decide (c ≤ 122)) || (decide (65 ≤ c) && decide (c ≤ 90))

/-- What a reader answers: something, and the place behind it; or the place of the byte that cannot stand there. -/
inductive R (α : Type) where
  | ok (a : α) (i : Nat)
  | bad (i : Nat)

def R.bind {α β : Type} : R α → (α → Nat → R β) → R β
  | .ok a i, f => f a i
  | .bad i, _ => .bad i

/-- A byte that must be there. -/
def needS (s : ByteArray) (c : Int) (i : Nat) : R Unit := if at' s i = c then .ok () (i + 1) else .bad i

/-- A hex digit's value; below 0: none. -/
def hexd (c : Int) : Int := if 48 ≤ c ∧ c ≤ 57 then c - 48 else if 97 ≤ c ∧ c ≤ 102 then c - 87 else -1
theorem hexd_bd (c : Int) : -1 ≤ hexd c ∧ hexd c ≤ 15 := by unfold hexd; split <;> (try split) <;> omega

/-- One hex digit of a number of which 'ahead' stands ahead; the number is to be from least on. -/
def hexS (s : ByteArray) (ahead : Int) (last : Bool) (least : Int) (i : Nat) : R Int :=
  if hexd (at' s i) < 0 ∨ (if last then ahead + hexd (at' s i) else 16 * (ahead + hexd (at' s i)) + 15) < least then .bad i else .ok (hexd (at' s i)) (i + 1)

/-- Behind the backslash. -/
def escS (s : ByteArray) (least : Int) (i : Nat) : R Int :=
  if at' s i = 120 then (hexS s 0 false least (i + 1)).bind fun a j => (hexS s (16 * a) true least j).bind fun b k => .ok (16 * a + b) k
  else if at' s i < 0 ∨ alnB (at' s i) = true ∨ at' s i < least then .bad i else .ok (at' s i) (i + 1)

def innS (s : ByteArray) (least : Int) (i : Nat) : R Int :=
  if at' s i = 92 then escS s least (i + 1)
  else if at' s i < 0 ∨ at' s i = 91 ∨ at' s i = 93 ∨ at' s i = 45 ∨ at' s i = 94 ∨ at' s i < least then .bad i else .ok (at' s i) (i + 1)

/-- The names of the classes, in the document's order: digit, lower, upper, alpha, alnum, space, punct. -/
def names : List (List UInt8) := [[100, 105, 103, 105, 116], [108, 111, 119, 101, 114], [117, 112, 112, 101, 114], [97, 108, 112, 104, 97], [97, 108, 110, 117, 109], [115, 112, 97, 99, 101], [112, 117, 110, 99, 116]]

def lowB (c : Int) : Bool := decide (97 ≤ c) && decide (c ≤ 122)
def uppB (c : Int) : Bool := decide (65 ≤ c) && decide (c ≤ 90)
/-- Is a byte of the class of this place in 'names'? -/
def clsB (n : Nat) (c : Int) : Bool :=
  match n with
  | 0 => digB c
  | 1 => lowB c
  | 2 => uppB c
  | 3 => lowB c || uppB c
  | 4 => digB c || lowB c || uppB c
  | 5 => (decide (9 ≤ c) && decide (c ≤ 13)) || decide (c = 32)
  | _ => decide (32 < c) && decide (c < 127) && !digB c && !lowB c && !uppB c

/-- Does a word go on with this byte, to the name of a class? -/
def goesOn (word : List UInt8) (c : Int) : Bool := names.any fun n => decide (word.length < n.length) && decide (n.take word.length = word) && decide (((n.getD word.length 0).toNat : Int) = c)

/-- The name of a class, of which 'word' has been read: its place in 'names'. -/
def clsS (s : ByteArray) : Nat → List UInt8 → Nat → R Nat
  | 0, _, i => .bad i
  | f + 1, word, i =>
    match names.findIdx? (· = word) with
    | some k => .ok k i
    | none => if goesOn word (at' s i) then clsS s f (word ++ [s.get! i]) (i + 1) else .bad i
end Go.Proofs.YtnfojonmohijpaaGreatDoor

/-
  DERIVED. Plain mathematics: how a set is read, as relations on bytes, and that they are functions. Nothing of the program stands here.
-/
namespace Go.Proofs.YtnfojonmohijpaaGreatDoor

/-- A class in a set, its bracket being at i. -/
def classS (s : ByteArray) (i : Nat) : R Nat := (needS s 58 (i + 1)).bind fun _ j => (clsS s 6 [] j).bind fun k j => (needS s 58 j).bind fun _ j => (needS s 93 j).bind fun _ j => .ok k j

def stretch (a c : Int) : Nat → Bool := fun n => decide (a ≤ (n : Int)) && decide ((n : Int) ≤ c)

/-- A range of a set: what it holds. -/
def rangeS (s : ByteArray) (i : Nat) : R (Nat → Bool) :=
  if at' s i = 91 then (classS s i).bind fun k j => .ok (fun n => clsB k n) j
  else (innS s 0 i).bind fun a j => if at' s j = 45 then (innS s a (j + 1)).bind fun c k => .ok (stretch a c) k else .ok (stretch a a) j

/-- The ranges behind the first one, and the closing bracket. -/
inductive SetL (s : ByteArray) : (Nat → Bool) → Nat → R (Nat → Bool) → Prop
  | done (f : Nat → Bool) (i : Nat) : at' s i = 93 → SetL s f i (.ok f (i + 1))
  | more (f r : Nat → Bool) (i j : Nat) (q : R (Nat → Bool)) : at' s i ≠ 93 → rangeS s i = .ok r j → SetL s (fun n => f n || r n) j q → SetL s f i q
  | bad (f : Nat → Bool) (i j : Nat) : at' s i ≠ 93 → rangeS s i = .bad j → SetL s f i (.bad j)

theorem SetL.det {s : ByteArray} {f : Nat → Bool} {i : Nat} {q q' : R (Nat → Bool)} (h : SetL s f i q) (h' : SetL s f i q') : q = q' := by
  induction h with
  | done f i e => cases h' with
    | done => rfl
    | more _ _ _ _ _ e' => exact absurd e e'
    | bad _ _ _ e' => exact absurd e e'
  | more f r i j q e e2 _ ih => cases h' with
    | done _ _ e' => exact absurd e' e
    | more _ r' _ j' _ _ e2' hl =>
      rw [e2] at e2'
      cases e2'
      exact ih hl
    | bad _ _ _ _ e2' => rw [e2] at e2'; cases e2'
  | bad f i j e e2 => cases h' with
    | done _ _ e' => exact absurd e' e
    | more _ r' _ j' _ _ e2' hl => rw [e2] at e2'; cases e2'
    | bad _ _ _ _ e2' => rw [e2] at e2'; cases e2'; rfl

/-- All the ranges, and the closing bracket. -/
inductive SetU (s : ByteArray) : Nat → R (Nat → Bool) → Prop
  | go (r : Nat → Bool) (i j : Nat) (q : R (Nat → Bool)) : rangeS s i = .ok r j → SetL s r j q → SetU s i q
  | bad (i j : Nat) : rangeS s i = .bad j → SetU s i (.bad j)

theorem SetU.det {s : ByteArray} {i : Nat} {q q' : R (Nat → Bool)} (h : SetU s i q) (h' : SetU s i q') : q = q' := by
  cases h with
  | go r _ j _ e hl => cases h' with
    | go r' _ j' _ e' hl' => rw [e] at e'; cases e'; exact hl.det hl'
    | bad _ _ e' => rw [e] at e'; cases e'
  | bad _ j e => cases h' with
    | go r' _ j' _ e' hl' => rw [e] at e'; cases e'
    | bad _ _ e' => rw [e] at e'; cases e'; rfl

def R.map {α β : Type} (f : α → β) : R α → R β
  | .ok a i => .ok (f a) i
  | .bad i => .bad i

/-- A set behind its bracket. -/
def SetR (s : ByteArray) (i : Nat) (q : R (Nat → Bool)) : Prop :=
  (at' s i = 94 ∧ ∃ q', SetU s (i + 1) q' ∧ q = q'.map (fun f n => !f n)) ∨ (at' s i ≠ 94 ∧ SetU s i q)

theorem SetR.det {s : ByteArray} {i : Nat} {q q' : R (Nat → Bool)} (h : SetR s i q) (h' : SetR s i q') : q = q' := by
  rcases h with ⟨e, r, hr, rfl⟩ | ⟨e, hr⟩ <;> rcases h' with ⟨e', r', hr', rfl⟩ | ⟨e', hr'⟩
  · rw [hr.det hr']
  · exact absurd e e'
  · exact absurd e' e
  · exact hr.det hr'

theorem hexS_ok {s : ByteArray} {ahead least a : Int} {last : Bool} {i j : Nat} (h : hexS s ahead last least i = .ok a j) : j = i + 1 ∧ 0 ≤ a ∧ a ≤ 15 ∧ i < s.size ∧ least ≤ (if last then ahead + a else 16 * (ahead + a) + 15) := by
  unfold hexS at h
  by_cases hn : hexd (at' s i) < 0 ∨ (if last then ahead + hexd (at' s i) else 16 * (ahead + hexd (at' s i)) + 15) < least
  · rw [if_pos hn] at h; cases h
  · rw [if_neg hn] at h
    have hd := hexd_bd (at' s i)
    injection h with h1 h2
    subst h1
    have : 0 ≤ at' s i := by
      by_cases hh : 0 ≤ at' s i
      · exact hh
      · exfalso; apply hn; left
        unfold hexd; rw [if_neg (by omega), if_neg (by omega)]; omega
    have := at'_nn this
    refine ⟨h2.symm, ?_, hd.2, this, ?_⟩
    · omega
    · exact Int.not_lt.1 fun hh => hn (Or.inr hh)
theorem hexS_bad {s : ByteArray} {ahead least : Int} {last : Bool} {i j : Nat} (h : hexS s ahead last least i = .bad j) : j = i := by
  unfold hexS at h
  by_cases hn : hexd (at' s i) < 0 ∨ (if last then ahead + hexd (at' s i) else 16 * (ahead + hexd (at' s i)) + 15) < least
  · rw [if_pos hn] at h; injection h with h; exact h.symm
  · rw [if_neg hn] at h; cases h

/-- A pair of hex digits. -/
def hexPS (s : ByteArray) (least : Int) (i : Nat) : R Int := (hexS s 0 false least i).bind fun a j => (hexS s (16 * a) true least j).bind fun b k => .ok (16 * a + b) k

theorem escS_x {s : ByteArray} {least : Int} {i : Nat} (h : at' s i = 120) : escS s least i = hexPS s least (i + 1) := by
  unfold escS hexPS; rw [if_pos h]

theorem escS_ok {s : ByteArray} {least a : Int} {i j : Nat} (h : escS s least i = .ok a j) : i < j ∧ j ≤ s.size ∧ 0 ≤ a ∧ a ≤ 255 := by
  by_cases hx : at' s i = 120
  · rw [escS_x hx] at h
    unfold hexPS at h
    cases r1 : hexS s 0 false least (i + 1) with
    | bad k => rw [r1] at h; cases h
    | ok x k =>
      rw [r1] at h
      obtain ⟨rfl, hx0, hx1, hlt, _⟩ := hexS_ok r1
      simp only [R.bind] at h
      cases r2 : hexS s (16 * x) true least (i + 1 + 1) with
      | bad k => rw [r2] at h; cases h
      | ok y k =>
        rw [r2] at h
        obtain ⟨rfl, hy0, hy1, hlt2, _⟩ := hexS_ok r2
        injection h with h1 h2
        subst h1 h2
        omega
  · unfold escS at h
    rw [if_neg hx] at h
    by_cases hc : at' s i < 0 ∨ alnB (at' s i) = true ∨ at' s i < least
    · rw [if_pos hc] at h; cases h
    · rw [if_neg hc] at h
      injection h with h1 h2
      subst h1 h2
      have h0 : 0 ≤ at' s i := by
        apply Int.not_lt.1; intro hh; exact hc (Or.inl hh)
      have := at'_nn h0
      have := at'_bd s i
      omega
theorem innS_ok {s : ByteArray} {least a : Int} {i j : Nat} (h : innS s least i = .ok a j) : i < j ∧ j ≤ s.size ∧ 0 ≤ a ∧ a ≤ 255 := by
  unfold innS at h
  by_cases hx : at' s i = 92
  · rw [if_pos hx] at h
    have := escS_ok h
    omega
  · rw [if_neg hx] at h
    by_cases hc : at' s i < 0 ∨ at' s i = 91 ∨ at' s i = 93 ∨ at' s i = 45 ∨ at' s i = 94 ∨ at' s i < least
    · rw [if_pos hc] at h; cases h
    · rw [if_neg hc] at h
      injection h with h1 h2
      subst h1 h2
      have h0 : 0 ≤ at' s i := by omega
      have := at'_nn h0
      have := at'_bd s i
      omega
theorem goesOn_nn {word : List UInt8} {c : Int} (h : goesOn word c = true) : 0 ≤ c := by
  unfold goesOn at h
  simp only [List.any_eq_true, Bool.and_eq_true, decide_eq_true_eq] at h
  obtain ⟨n, _, _, hc⟩ := h
  omega
theorem clsS_ok {s : ByteArray} (f : Nat) : ∀ {word : List UInt8} {i j k : Nat}, clsS s f word i = .ok k j → i ≤ j ∧ (i ≤ s.size → j ≤ s.size) ∧ k < 7 := by
  induction f with
  | zero => intro word i j k h; cases h
  | succ f ih =>
    intro word i j k h
    rw [clsS] at h
    cases hf : names.findIdx? (· = word) with
    | some m =>
      rw [hf] at h
      injection h with h1 h2
      subst h1 h2
      rw [List.findIdx?_eq_some_iff_getElem] at hf
      obtain ⟨hm, _⟩ := hf
      exact ⟨Nat.le_refl _, id, hm⟩
    | none =>
      rw [hf] at h
      dsimp only at h
      by_cases hg : goesOn word (at' s i) = true
      · rw [if_pos hg] at h
        have := ih h
        have := at'_nn (goesOn_nn hg)
        omega
      · rw [if_neg hg] at h; cases h
theorem needS_ok {s : ByteArray} {c : Int} {i j : Nat} {u : Unit} (h : needS s c i = .ok u j) : j = i + 1 ∧ at' s i = c := by
  unfold needS at h
  by_cases hc : at' s i = c
  · rw [if_pos hc] at h; injection h with h1 h2; exact ⟨h2.symm, hc⟩
  · rw [if_neg hc] at h; cases h
theorem classS_ok {s : ByteArray} {i j k : Nat} (h : classS s i = .ok k j) : i < j ∧ j ≤ s.size ∧ k < 7 := by
  unfold classS at h
  cases h1 : needS s 58 (i + 1) with
  | bad x => rw [h1] at h; cases h
  | ok u x =>
    rw [h1] at h
    obtain ⟨rfl, e1⟩ := needS_ok h1
    have l1 := at'_nn (s := s) (i := i + 1) (by omega)
    simp only [R.bind] at h
    cases h2 : clsS s 6 [] (i + 1 + 1) with
    | bad x => rw [h2] at h; cases h
    | ok m x =>
      rw [h2] at h
      have := clsS_ok 6 h2
      simp only at h
      cases h3 : needS s 58 x with
      | bad y => rw [h3] at h; cases h
      | ok u y =>
        rw [h3] at h
        obtain ⟨rfl, e3⟩ := needS_ok h3
        simp only at h
        cases h4 : needS s 93 (x + 1) with
        | bad y => rw [h4] at h; cases h
        | ok u y =>
          rw [h4] at h
          obtain ⟨rfl, e4⟩ := needS_ok h4
          have l4 := at'_nn (s := s) (i := x + 1) (by omega)
          simp only at h
          injection h with ha hb
          subst ha hb
          omega
theorem rangeS_ok {s : ByteArray} {i j : Nat} {r : Nat → Bool} (h : rangeS s i = .ok r j) : i < j ∧ j ≤ s.size := by
  unfold rangeS at h
  by_cases hx : at' s i = 91
  · rw [if_pos hx] at h
    cases h1 : classS s i with
    | bad x => rw [h1] at h; cases h
    | ok k x =>
      rw [h1] at h
      have := classS_ok h1
      injection h with ha hb
      subst hb
      omega
  · rw [if_neg hx] at h
    cases h1 : innS s 0 i with
    | bad x => rw [h1] at h; cases h
    | ok a x =>
      rw [h1] at h
      have := innS_ok h1
      simp only [R.bind] at h
      by_cases hd : at' s x = 45
      · rw [if_pos hd] at h
        cases h2 : innS s a (x + 1) with
        | bad y => rw [h2] at h; cases h
        | ok c y =>
          rw [h2] at h
          have := innS_ok h2
          injection h with ha hb
          subst hb
          omega
      · rw [if_neg hd] at h
        injection h with ha hb
        subst hb
        omega
end Go.Proofs.YtnfojonmohijpaaGreatDoor

/-
  DERIVED. Plain mathematics: how a number of a repeat is read, as a relation on bytes, and that it is a function. Nothing of the program stands here.
-/
namespace Go.Proofs.YtnfojonmohijpaaGreatDoor

/-- A number that is not to be below 'least', of which n has been read ('any': at least one digit). -/
inductive NumL (s : ByteArray) (least : Nat) : Nat → Bool → Nat → R Nat → Prop
  | dig (n x : Nat) (any : Bool) (i : Nat) (q : R Nat) : digB (at' s i) = true → (x : Int) = 10 * n + (at' s i - 48) → x ≤ 5 → (x = 0 ∨ least ≤ x) → NumL s least x true (i + 1) q → NumL s least n any i q
  | big (n x : Nat) (any : Bool) (i : Nat) : digB (at' s i) = true → (x : Int) = 10 * n + (at' s i - 48) → ¬ (x ≤ 5 ∧ (x = 0 ∨ least ≤ x)) → NumL s least n any i (.bad i)
  | done (n i : Nat) : digB (at' s i) = false → least ≤ n → NumL s least n true i (.ok n i)
  | short (n : Nat) (any : Bool) (i : Nat) : digB (at' s i) = false → (any = false ∨ n < least) → NumL s least n any i (.bad i)

theorem NumL.det {s : ByteArray} {least n : Nat} {any : Bool} {i : Nat} {q q' : R Nat} (h : NumL s least n any i q) (h' : NumL s least n any i q') : q = q' := by
  induction h with
  | dig n x any i q hd hx h5 hl _ ih => cases h' with
    | dig _ x' _ _ _ hd' hx' h5' hl' hr =>
      have : x = x' := by omega
      subst this
      exact ih hr
    | big _ x' _ _ hd' hx' hn =>
      have : x = x' := by omega
      subst this
      exact absurd ⟨h5, hl⟩ hn
    | done _ _ hd' => rw [hd] at hd'; cases hd'
    | short _ _ _ hd' => rw [hd] at hd'; cases hd'
  | big n x any i hd hx hn => cases h' with
    | dig _ x' _ _ _ hd' hx' h5' hl' hr =>
      have : x = x' := by omega
      subst this
      exact absurd ⟨h5', hl'⟩ hn
    | big _ x' _ _ hd' hx' hn => rfl
    | done _ _ hd' => rw [hd] at hd'; cases hd'
    | short _ _ _ hd' => rfl
  | done n i hd hl => cases h' with
    | dig _ x' _ _ _ hd' => rw [hd] at hd'; cases hd'
    | big _ x' _ _ hd' => rw [hd] at hd'; cases hd'
    | done _ _ hd' => rfl
    | short _ _ _ hd' ho => (exfalso; simp at ho; omega)
  | short n any i hd ho => cases h' with
    | dig _ x' _ _ _ hd' => rw [hd] at hd'; cases hd'
    | big _ x' _ _ hd' => rfl
    | done _ _ hd' hl' => (exfalso; simp at ho; omega)
    | short _ _ _ hd' ho => rfl

theorem NumL.ok {s : ByteArray} {least n : Nat} {any : Bool} {i : Nat} {q : R Nat} (h : NumL s least n any i q) : ∀ m j, q = .ok m j → i ≤ j ∧ (i ≤ s.size → j ≤ s.size) ∧ (n ≤ 5 → m ≤ 5) ∧ (any = false → i < j) := by
  induction h with
  | dig n x any i q hd hx h5 hl _ ih =>
    intro m j e
    have := ih m j e
    have hnn : 0 ≤ at' s i := by simp [digB] at hd; omega
    have := at'_nn hnn
    omega
  | big => intro m j e; cases e
  | done n i hd hl => intro m j e; cases e; simp
  | short => intro m j e; cases e
end Go.Proofs.YtnfojonmohijpaaGreatDoor

/-
  DERIVED. Plain mathematics: the document's grammar of patterns as one relation on bytes (what is read, from where, and how it ends), and that it is a function. Nothing of the program stands here.
-/
namespace Go.Proofs.YtnfojonmohijpaaGreatDoor

/-- A pattern that has been read: singles, groups, repeats; a way is pieces one behind the other; ways are at least one. -/
inductive Pat where
  | set (f : Nat → Bool)
  | grp (k : Nat) (x : Pat)
  | rep (mn : Nat) (mx : Int) (x : Pat)
  | pnil
  | pcons (x r : Pat)
  | wone (x : Pat)
  | wcons (x r : Pat)

/-- A repeat's end, behind its second number. -/
def Rep3 (s : ByteArray) (m : Nat) (q2 : R Nat) (q : R (Option (Nat × Int))) : Prop :=
  match q2 with
  | .bad l => q = .bad l
  | .ok n l => q = if at' s l = 125 then .ok (some (m, (n : Int))) (l + 1) else .bad l
/-- Behind its first number. -/
def Rep2 (s : ByteArray) (q1 : R Nat) (q : R (Option (Nat × Int))) : Prop :=
  match q1 with
  | .bad k => q = .bad k
  | .ok m k => (at' s k = 44 ∧ at' s (k + 1) = 125 ∧ q = .ok (some (m, -1)) (k + 2)) ∨ (at' s k = 44 ∧ at' s (k + 1) ≠ 125 ∧ ∃ q2, NumL s m 0 false (k + 1) q2 ∧ Rep3 s m q2 q) ∨
      (at' s k ≠ 44 ∧ q = if at' s k = 125 then .ok (some (m, (m : Int))) (k + 1) else .bad k)
/-- A repeat: none, or how often (at most: below 0: any). -/
def RepR (s : ByteArray) (j : Nat) (q : R (Option (Nat × Int))) : Prop :=
  (at' s j ≠ 42 ∧ at' s j ≠ 43 ∧ at' s j ≠ 63 ∧ at' s j ≠ 123 ∧ q = .ok none j) ∨ (at' s j = 42 ∧ q = .ok (some (0, -1)) (j + 1)) ∨ (at' s j = 43 ∧ q = .ok (some (1, -1)) (j + 1)) ∨
  (at' s j = 63 ∧ q = .ok (some (0, 1)) (j + 1)) ∨ (at' s j = 123 ∧ ∃ q1, NumL s 0 0 false (j + 1) q1 ∧ Rep2 s q1 q)

theorem Rep3.det {s : ByteArray} {m : Nat} {q2 : R Nat} {q q' : R (Option (Nat × Int))} (h : Rep3 s m q2 q) (h' : Rep3 s m q2 q') : q = q' := by
  cases q2 <;> exact h.trans h'.symm
theorem Rep2.det {s : ByteArray} {q1 : R Nat} {q q' : R (Option (Nat × Int))} (h : Rep2 s q1 q) (h' : Rep2 s q1 q') : q = q' := by
  cases q1 with
  | bad k => exact h.trans h'.symm
  | ok m k =>
    rcases h with ⟨a, b, e⟩ | ⟨a, b, q2, n, e⟩ | ⟨a, e⟩ <;> rcases h' with ⟨a', b', e'⟩ | ⟨a', b', q2', n', e'⟩ | ⟨a', e'⟩
    · exact e.trans e'.symm
    · exact absurd b b'
    · exact absurd a a'
    · exact absurd b' b
    · have := n.det n'
      subst this
      exact e.det e'
    · exact absurd a a'
    · exact absurd a' a
    · exact absurd a' a
    · exact e.trans e'.symm
theorem RepR.det {s : ByteArray} {j : Nat} {q q' : R (Option (Nat × Int))} (h : RepR s j q) (h' : RepR s j q') : q = q' := by
  rcases h with ⟨a, b, c, d, e⟩ | ⟨a, e⟩ | ⟨a, e⟩ | ⟨a, e⟩ | ⟨a, q1, n, e⟩ <;> rcases h' with ⟨a', b', c', d', e'⟩ | ⟨a', e'⟩ | ⟨a', e'⟩ | ⟨a', e'⟩ | ⟨a', q1', n', e'⟩
  all_goals first
    | exact e.trans e'.symm
    | (exfalso; omega)
    | skip
  have := n.det n'
  subst this
  exact e.det e'

theorem RepR.ok {s : ByteArray} {j k : Nat} {o : Option (Nat × Int)} (h : RepR s j (.ok o k)) : j ≤ k ∧ (j ≤ s.size → k ≤ s.size) := by
  have A : ∀ i, 0 ≤ at' s i → i < s.size := fun i hi => at'_nn hi
  rcases h with ⟨a, b, c, d, e⟩ | ⟨a, e⟩ | ⟨a, e⟩ | ⟨a, e⟩ | ⟨a, q1, n, e⟩
  · cases e; simp
  · cases e; have := A j (by omega); omega
  · cases e; have := A j (by omega); omega
  · cases e; have := A j (by omega); omega
  · have hj := A j (by omega)
    cases q1 with
    | bad l => cases e
    | ok m l =>
      have hl := n.ok m l rfl
      rcases e with ⟨a, b, e⟩ | ⟨a, b, q2, n', e⟩ | ⟨a, e⟩
      · cases e; have := A (l + 1) (by omega); omega
      · cases q2 with
        | bad x => cases e
        | ok y x =>
          have hx := n'.ok y x rfl
          have hl2 := A l (by omega)
          simp only [Rep3] at e
          by_cases h5 : at' s x = 125
          · rw [if_pos h5] at e; cases e; have := A x (by omega); omega
          · rw [if_neg h5] at e; cases e
      · by_cases h5 : at' s l = 125
        · rw [if_pos h5] at e; cases e; have := A l (by omega); omega
        · rw [if_neg h5] at e; cases e

inductive Kd where
  | ways | way | piece | single

def stopC (c : Int) : Prop := c < 0 ∨ c = 124 ∨ c = 41 ∨ c = 36
def notC (c : Int) : Prop := c = 94 ∨ c = 36 ∨ c = 124 ∨ c = 41 ∨ c = 42 ∨ c = 43 ∨ c = 63 ∨ c = 123

def withRep (x : Pat) : Option (Nat × Int) → Pat
  | none => x
  | some (mn, mx) => .rep mn mx x

/-- THE GRAMMAR: reading a part of this kind, with d open brackets and g groups so far, from place i on, answers q: what was read, how many groups there are by then, and the place behind it; or the place of the byte that cannot stand there. -/
inductive G (s : ByteArray) : Kd → Nat → Nat → Nat → R (Pat × Nat) → Prop
  | one (d g i g1 j : Nat) (x : Pat) : G s .way d g i (.ok (x, g1) j) → at' s j ≠ 124 → G s .ways d g i (.ok (.wone x, g1) j)
  | more (d g i g1 j : Nat) (x : Pat) (q : R (Pat × Nat)) : G s .way d g i (.ok (x, g1) j) → at' s j = 124 → G s .ways d g1 (j + 1) q → G s .ways d g i (q.map fun y => (.wcons x y.1, y.2))
  | wbad (d g i j : Nat) : G s .way d g i (.bad j) → G s .ways d g i (.bad j)
  | nil (d g i : Nat) : stopC (at' s i) → G s .way d g i (.ok (.pnil, g) i)
  | cons (d g i g1 j : Nat) (x : Pat) (q : R (Pat × Nat)) : ¬ stopC (at' s i) → G s .piece d g i (.ok (x, g1) j) → G s .way d g1 j q → G s .way d g i (q.map fun y => (.pcons x y.1, y.2))
  | pbad (d g i j : Nat) : ¬ stopC (at' s i) → G s .piece d g i (.bad j) → G s .way d g i (.bad j)
  | rep (d g i g1 j : Nat) (x : Pat) (q : R (Option (Nat × Int))) : G s .single d g i (.ok (x, g1) j) → RepR s j q → G s .piece d g i (q.map fun o => (withRep x o, g1))
  | sbad (d g i j : Nat) : G s .single d g i (.bad j) → G s .piece d g i (.bad j)
  | deep (d g i : Nat) : at' s i = 40 → (d = 6 ∨ g = 9) → G s .single d g i (.bad i)
  | grp (d g i g1 j : Nat) (x : Pat) : at' s i = 40 → ¬ (d = 6 ∨ g = 9) → G s .ways (d + 1) (g + 1) (i + 1) (.ok (x, g1) j) → at' s j = 41 → G s .single d g i (.ok (.grp (g + 1) x, g1) (j + 1))
  | gopen (d g i g1 j : Nat) (x : Pat) : at' s i = 40 → ¬ (d = 6 ∨ g = 9) → G s .ways (d + 1) (g + 1) (i + 1) (.ok (x, g1) j) → at' s j ≠ 41 → G s .single d g i (.bad j)
  | gbad (d g i j : Nat) : at' s i = 40 → ¬ (d = 6 ∨ g = 9) → G s .ways (d + 1) (g + 1) (i + 1) (.bad j) → G s .single d g i (.bad j)
  | set (d g i : Nat) (q : R (Nat → Bool)) : at' s i = 91 → SetR s (i + 1) q → G s .single d g i (q.map fun f => (.set f, g))
  | dot (d g i : Nat) : at' s i = 46 → G s .single d g i (.ok (.set fun _ => true, g) (i + 1))
  | esc (d g i : Nat) : at' s i = 92 → G s .single d g i ((escS s 0 (i + 1)).map fun a => (.set (stretch a a), g))
  | no (d g i : Nat) : notC (at' s i) → G s .single d g i (.bad i)
  | lit (d g i : Nat) : 0 ≤ at' s i → at' s i ≠ 40 → at' s i ≠ 91 → at' s i ≠ 46 → at' s i ≠ 92 → ¬ notC (at' s i) → G s .single d g i (.ok (.set (stretch (at' s i) (at' s i)), g) (i + 1))

theorem G.det {s : ByteArray} {k : Kd} {d g i : Nat} {q : R (Pat × Nat)} (h : G s k d g i q) : ∀ q', G s k d g i q' → q = q' := by
  induction h with
  | one d g i g1 j x _ e ih =>
    intro q' h'
    cases h' with
    | one _ _ _ g1' j' x' a b => have := ih _ a; injection this with t u; cases t; cases u; rfl
    | more _ _ _ g1' j' x' _ a b => have := ih _ a; injection this with t u; cases t; cases u; exact absurd b e
    | wbad _ _ _ j' a => have := ih _ a; cases this
  | more d g i g1 j x q _ e _ ih ih2 =>
    intro q' h'
    cases h' with
    | one _ _ _ g1' j' x' a b => have := ih _ a; injection this with t u; cases t; cases u; exact absurd e b
    | more _ _ _ g1' j' x' _ a b c => have := ih _ a; injection this with t u; cases t; cases u; rw [ih2 _ c]
    | wbad _ _ _ j' a => have := ih _ a; cases this
  | wbad d g i j _ ih =>
    intro q' h'
    cases h' with
    | one _ _ _ g1' j' x' a b => have := ih _ a; cases this
    | more _ _ _ g1' j' x' _ a b => have := ih _ a; cases this
    | wbad _ _ _ j' a => have := ih _ a; cases this; rfl
  | nil d g i e =>
    intro q' h'
    cases h' with
    | nil => rfl
    | cons _ _ _ _ _ _ _ a => exact absurd e a
    | pbad _ _ _ _ a => exact absurd e a
  | cons d g i g1 j x q e _ _ ih ih2 =>
    intro q' h'
    cases h' with
    | nil _ _ _ a => exact absurd a e
    | cons _ _ _ _ _ _ _ a b c => have := ih _ b; injection this with t u; cases t; cases u; rw [ih2 _ c]
    | pbad _ _ _ _ a b => have := ih _ b; cases this
  | pbad d g i j e _ ih =>
    intro q' h'
    cases h' with
    | nil _ _ _ a => exact absurd a e
    | cons _ _ _ _ _ _ _ a b c => have := ih _ b; cases this
    | pbad _ _ _ _ a b => have := ih _ b; cases this; rfl
  | rep d g i g1 j x q _ r ih =>
    intro q' h'
    cases h' with
    | rep _ _ _ _ _ _ _ a b => have := ih _ a; injection this with t u; cases t; cases u; rw [r.det b]
    | sbad _ _ _ _ a => have := ih _ a; cases this
  | sbad d g i j _ ih =>
    intro q' h'
    cases h' with
    | rep _ _ _ _ _ _ _ a b => have := ih _ a; cases this
    | sbad _ _ _ _ a => have := ih _ a; cases this; rfl
  | deep d g i e o =>
    intro q' h'
    cases h' with
    | deep => rfl
    | grp _ _ _ _ _ _ _ a => exact absurd o a
    | gopen _ _ _ _ _ _ _ a => exact absurd o a
    | gbad _ _ _ _ _ a => exact absurd o a
    | set _ _ _ _ a => omega
    | dot _ _ _ a => omega
    | esc _ _ _ a => omega
    | no => rfl
    | lit _ _ _ _ a => omega
  | grp d g i g1 j x e o _ c ih =>
    intro q' h'
    cases h' with
    | deep _ _ _ _ a => exact absurd a o
    | grp _ _ _ _ _ _ _ _ a b => have := ih _ a; injection this with t u; cases t; cases u; rfl
    | gopen _ _ _ _ _ _ _ _ a b => have := ih _ a; injection this with t u; cases t; cases u; exact absurd c b
    | gbad _ _ _ _ _ _ a => have := ih _ a; cases this
    | set _ _ _ _ a => omega
    | dot _ _ _ a => omega
    | esc _ _ _ a => omega
    | no _ _ _ a => unfold notC at a; omega
    | lit _ _ _ _ a => omega
  | gopen d g i g1 j x e o _ c ih =>
    intro q' h'
    cases h' with
    | deep _ _ _ _ a => exact absurd a o
    | grp _ _ _ _ _ _ _ _ a b => have := ih _ a; injection this with t u; cases t; cases u; exact absurd b c
    | gopen _ _ _ _ _ _ _ _ a b => have := ih _ a; injection this with t u; cases t; cases u; rfl
    | gbad _ _ _ _ _ _ a => have := ih _ a; cases this
    | set _ _ _ _ a => omega
    | dot _ _ _ a => omega
    | esc _ _ _ a => omega
    | no _ _ _ a => unfold notC at a; omega
    | lit _ _ _ _ a => omega
  | gbad d g i j e o _ ih =>
    intro q' h'
    cases h' with
    | deep _ _ _ _ a => exact absurd a o
    | grp _ _ _ _ _ _ _ _ a b => have := ih _ a; cases this
    | gopen _ _ _ _ _ _ _ _ a b => have := ih _ a; cases this
    | gbad _ _ _ _ _ _ a => have := ih _ a; cases this; rfl
    | set _ _ _ _ a => omega
    | dot _ _ _ a => omega
    | esc _ _ _ a => omega
    | no _ _ _ a => unfold notC at a; omega
    | lit _ _ _ _ a => omega
  | set d g i q e r =>
    intro q' h'
    cases h' with
    | deep _ _ _ a => omega
    | grp _ _ _ _ _ _ a => omega
    | gopen _ _ _ _ _ _ a => omega
    | gbad _ _ _ _ a => omega
    | set _ _ _ _ a b => rw [r.det b]
    | dot _ _ _ a => omega
    | esc _ _ _ a => omega
    | no _ _ _ a => unfold notC at a; omega
    | lit _ _ _ _ a b => omega
  | dot d g i e =>
    intro q' h'
    cases h' with
    | deep _ _ _ a => omega
    | grp _ _ _ _ _ _ a => omega
    | gopen _ _ _ _ _ _ a => omega
    | gbad _ _ _ _ a => omega
    | set _ _ _ _ a b => omega
    | dot _ _ _ a => rfl
    | esc _ _ _ a => omega
    | no _ _ _ a => unfold notC at a; omega
    | lit _ _ _ _ a b c => omega
  | esc d g i e =>
    intro q' h'
    cases h' with
    | deep _ _ _ a => omega
    | grp _ _ _ _ _ _ a => omega
    | gopen _ _ _ _ _ _ a => omega
    | gbad _ _ _ _ a => omega
    | set _ _ _ _ a b => omega
    | dot _ _ _ a => omega
    | esc _ _ _ a => rfl
    | no _ _ _ a => unfold notC at a; omega
    | lit _ _ _ _ a b c d => omega
  | no d g i e =>
    intro q' h'
    unfold notC at e
    cases h' with
    | deep => rfl
    | grp _ _ _ _ _ _ a => omega
    | gopen _ _ _ _ _ _ a => omega
    | gbad _ _ _ _ a => omega
    | set _ _ _ _ a b => omega
    | dot _ _ _ a => omega
    | esc _ _ _ a => omega
    | no _ _ _ a => rfl
    | lit _ _ _ _ a b c d f => exact absurd e f
  | lit d g i a b c d' e f =>
    intro q' h'
    cases h' with
    | deep _ _ _ a => omega
    | grp _ _ _ _ _ _ a => omega
    | gopen _ _ _ _ _ _ a => omega
    | gbad _ _ _ _ a => omega
    | set _ _ _ _ a b => omega
    | dot _ _ _ a => omega
    | esc _ _ _ a => omega
    | no _ _ _ a => exact absurd a f
    | lit => rfl
end Go.Proofs.YtnfojonmohijpaaGreatDoor

/-
  DERIVED. Plain mathematics: a whole pattern: its marks, its ways; that reading is a function. Nothing of the program stands here.
-/
namespace Go.Proofs.YtnfojonmohijpaaGreatDoor

/-- A pattern that has been read, with its marks. -/
structure Whole where
  bg : Bool
  en : Bool
  x : Pat
  g : Nat

/-- Where the ways begin. -/
def wi (s : ByteArray) : Nat := if at' s 0 = 94 then 1 else 0
/-- Behind the ways. -/
def PatE (s : ByteArray) : R (Pat × Nat) → R Whole
  | .bad j => .bad j
  | .ok (x, g) j => if 0 ≤ at' s (if at' s j = 36 then j + 1 else j) then .bad (if at' s j = 36 then j + 1 else j) else .ok ⟨decide (at' s 0 = 94), decide (at' s j = 36), x, g⟩ (if at' s j = 36 then j + 1 else j)
theorem PatE_ok (s : ByteArray) (x : Pat) (g j : Nat) : PatE s (.ok (x, g) j) = if 0 ≤ at' s (if at' s j = 36 then j + 1 else j) then .bad (if at' s j = 36 then j + 1 else j) else .ok ⟨decide (at' s 0 = 94), decide (at' s j = 36), x, g⟩ (if at' s j = 36 then j + 1 else j) := rfl
/-- A whole pattern. -/
def PatR (s : ByteArray) (q : R Whole) : Prop := ∃ qw, G s .ways 0 0 (wi s) qw ∧ q = PatE s qw
theorem PatR.det {s : ByteArray} {q q' : R Whole} (h : PatR s q) (h' : PatR s q') : q = q' := by
  obtain ⟨a, h, rfl⟩ := h
  obtain ⟨b, h', rfl⟩ := h'
  rw [h.det b h']
end Go.Proofs.YtnfojonmohijpaaGreatDoor

/-
  DERIVED. Plain mathematics: numbers and repeats always have an answer. Nothing of the program stands here.
-/
namespace Go.Proofs.YtnfojonmohijpaaGreatDoor

theorem NumL.total (s : ByteArray) (least : Nat) : ∀ (k n : Nat) (any : Bool) (i : Nat), s.size + 1 - i ≤ k → ∃ q, NumL s least n any i q := by
  intro k
  induction k with
  | zero =>
    intro n any i hk
    have hd : digB (at' s i) = false := by rw [at'_ge (by omega)]; rfl
    by_cases h : any = false ∨ n < least
    · exact ⟨_, .short n any i hd h⟩
    · cases any
      · exact absurd (Or.inl rfl) h
      · exact ⟨_, .done n i hd (by omega)⟩
  | succ k ih =>
    intro n any i hk
    cases hd : digB (at' s i) with
    | false =>
      by_cases h : any = false ∨ n < least
      · exact ⟨_, .short n any i hd h⟩
      · cases any
        · exact absurd (Or.inl rfl) h
        · exact ⟨_, .done n i hd (by omega)⟩
    | true =>
      have hb : 48 ≤ at' s i ∧ at' s i ≤ 57 := by simp [digB] at hd; exact hd
      have hlt := at'_nn (s := s) (i := i) (by omega)
      have hx : (((10 * n + (at' s i - 48).toNat : Nat)) : Int) = 10 * n + (at' s i - 48) := by omega
      by_cases h : 10 * n + (at' s i - 48).toNat ≤ 5 ∧ (10 * n + (at' s i - 48).toNat = 0 ∨ least ≤ 10 * n + (at' s i - 48).toNat)
      · obtain ⟨q, hq⟩ := ih (10 * n + (at' s i - 48).toNat) true (i + 1) (by omega)
        exact ⟨q, .dig n _ any i q hd hx h.1 h.2 hq⟩
      · exact ⟨_, .big n _ any i hd hx h⟩
theorem NumL.some (s : ByteArray) (least n : Nat) (any : Bool) (i : Nat) : ∃ q, NumL s least n any i q := NumL.total s least _ n any i (Nat.le_refl _)

theorem RepR.some (s : ByteArray) (j : Nat) : ∃ q, RepR s j q := by
  by_cases h1 : at' s j = 42
  · exact ⟨_, Or.inr (Or.inl ⟨h1, rfl⟩)⟩
  by_cases h2 : at' s j = 43
  · exact ⟨_, Or.inr (Or.inr (Or.inl ⟨h2, rfl⟩))⟩
  by_cases h3 : at' s j = 63
  · exact ⟨_, Or.inr (Or.inr (Or.inr (Or.inl ⟨h3, rfl⟩)))⟩
  by_cases h4 : at' s j = 123
  · obtain ⟨q1, hq1⟩ := NumL.some s 0 0 false (j + 1)
    have : ∃ q, Rep2 s q1 q := by
      cases q1 with
      | bad k => exact ⟨_, rfl⟩
      | ok m k =>
        by_cases h5 : at' s k = 44
        · by_cases h6 : at' s (k + 1) = 125
          · exact ⟨_, Or.inl ⟨h5, h6, rfl⟩⟩
          · obtain ⟨q2, hq2⟩ := NumL.some s m 0 false (k + 1)
            cases q2 with
            | bad l => exact ⟨_, Or.inr (Or.inl ⟨h5, h6, _, hq2, rfl⟩)⟩
            | ok n l => exact ⟨_, Or.inr (Or.inl ⟨h5, h6, _, hq2, rfl⟩)⟩
        · exact ⟨_, Or.inr (Or.inr ⟨h5, rfl⟩)⟩
    obtain ⟨q, hq⟩ := this
    exact ⟨q, Or.inr (Or.inr (Or.inr (Or.inr ⟨h4, q1, hq1, hq⟩)))⟩
  · exact ⟨_, Or.inl ⟨h1, h2, h3, h4, rfl⟩⟩
end Go.Proofs.YtnfojonmohijpaaGreatDoor

/-
  DERIVED. Plain mathematics: how a pattern is written in one way. Nothing of the program stands here.
-/
namespace Go.Proofs.YtnfojonmohijpaaGreatDoor

def hexs : List UInt8 := [48, 49, 50, 51, 52, 53, 54, 55, 56, 57, 97, 98, 99, 100, 101, 102]
/-- A byte, as it is written. -/
def oneT (b : Nat) : List UInt8 := if alnB b then [UInt8.ofNat b] else [92, 120, hexs.getD (b / 16) 0, hexs.getD (b % 16) 0]
/-- Where the stretch that begins at m ends (n: how many steps at most). -/
def runE (f : Nat → Bool) : Nat → Nat → Nat
  | 0, m => m
  | n + 1, m => if m < 255 ∧ f (m + 1) = true then runE f n (m + 1) else m
def runEnd (f : Nat → Bool) (m : Nat) : Nat := runE f 255 m
/-- What a set's byte m adds. -/
def outAt (f : Nat → Bool) (m : Nat) : List UInt8 :=
  if f m = true ∧ (m = 0 ∨ f (m - 1) = false) then oneT m ++ (if m < runEnd f m then [45] ++ oneT (runEnd f m) else []) else []
def outTo (f : Nat → Bool) : Nat → List UInt8
  | 0 => []
  | m + 1 => outTo f m ++ outAt f m
def cntTo (f : Nat → Bool) : Nat → Nat
  | 0 => 0
  | m + 1 => cntTo f m + (if f m then 1 else 0)
/-- A set, as it is written. -/
def setT (f : Nat → Bool) : List UInt8 :=
  if cntTo f 256 = 0 then [91, 94, 92, 120, 48, 48, 45, 92, 120, 102, 102, 93]
  else if cntTo f 256 = 1 then outTo f 256
  else if cntTo f 256 = 256 then [46]
  else [91] ++ outTo f 256 ++ [93]
def digT (n : Nat) : List UInt8 := [UInt8.ofNat (48 + n)]
/-- A repeat, as it is written. -/
def repT (mn : Nat) (mx : Int) : List UInt8 :=
  if mx < 0 ∧ mn = 0 then [42] else if mx < 0 ∧ mn = 1 then [43] else if mx < 0 then [123] ++ digT mn ++ [44, 125]
  else if mx = 1 ∧ mn = 0 then [63] else if mx = (mn : Int) then [123] ++ digT mn ++ [125] else [123] ++ digT mn ++ [44] ++ digT mx.toNat ++ [125]
def patT : Pat → List UInt8
  | .set f => setT f
  | .grp _ x => [40] ++ patT x ++ [41]
  | .rep mn mx x => patT x ++ repT mn mx
  | .pnil => []
  | .pcons x r => patT x ++ patT r
  | .wone x => patT x
  | .wcons x r => patT x ++ ([124] ++ patT r)
def wholeT (W : Whole) : List UInt8 := (if W.bg then [94] else []) ++ patT W.x ++ (if W.en then [36] else [])

theorem oneT_len (b : Nat) : (oneT b).length ≤ 4 := by unfold oneT; split <;> simp
theorem outAt_len (f : Nat → Bool) (m : Nat) : (outAt f m).length ≤ 9 := by
  unfold outAt
  have h1 := oneT_len m
  have h2 := oneT_len (runEnd f m)
  split
  · split <;> simp <;> omega
  · simp
theorem outTo_len (f : Nat → Bool) (m : Nat) : (outTo f m).length ≤ 9 * m := by
  induction m with
  | zero => simp [outTo]
  | succ m ih => have := outAt_len f m; simp only [outTo, List.length_append]; omega
theorem cntTo_le (f : Nat → Bool) (m : Nat) : cntTo f m ≤ m := by
  induction m with
  | zero => simp [cntTo]
  | succ m ih => simp only [cntTo]; split <;> omega
theorem setT_len (f : Nat → Bool) : (setT f).length ≤ 2400 := by
  have := outTo_len f 256
  unfold setT
  split
  · simp
  · split
    · omega
    · split
      · simp
      · simp; omega
theorem repT_len (mn : Nat) (mx : Int) : (repT mn mx).length ≤ 5 := by
  unfold repT digT
  repeat' split
  all_goals simp
/-- How many parts. -/
def Pat.sz : Pat → Nat
  | .set _ => 1
  | .grp _ x => 1 + x.sz
  | .rep _ _ x => 1 + x.sz
  | .pnil => 1
  | .pcons x r => 1 + x.sz + r.sz
  | .wone x => 1 + x.sz
  | .wcons x r => 1 + x.sz + r.sz
theorem patT_len (x : Pat) : (patT x).length ≤ 2400 * x.sz := by
  induction x with
  | set f => have := setT_len f; simp only [patT, Pat.sz]; omega
  | grp k x ih => simp only [patT, Pat.sz, List.length_append, List.length_singleton]; omega
  | rep mn mx x ih => have := repT_len mn mx; simp only [patT, Pat.sz, List.length_append]; omega
  | pnil => simp [patT]
  | pcons x r ih1 ih2 => simp only [patT, Pat.sz, List.length_append]; omega
  | wone x ih => simp only [patT, Pat.sz]; omega
  | wcons x r ih1 ih2 => simp only [patT, Pat.sz, List.length_append, List.length_singleton]; omega
end Go.Proofs.YtnfojonmohijpaaGreatDoor

/-
  DERIVED. Plain mathematics: a set as stretches, and what is written of it. Nothing of the program stands here.
-/
namespace Go.Proofs.YtnfojonmohijpaaGreatDoor

/-- A stretch, as it is written. -/
def strT (a b : Nat) : List UInt8 := if a = b then oneT a else oneT a ++ [45] ++ oneT b
def setLast (l : List (Nat × Nat)) (m : Nat) : List (Nat × Nat) :=
  match l.getLast? with
  | none => l
  | some (a, _) => l.dropLast ++ [(a, m)]
/-- The stretches of the bytes below m. -/
def strs (f : Nat → Bool) : Nat → List (Nat × Nat)
  | 0 => []
  | m + 1 => if f m = true then (if 0 < m ∧ f (m - 1) = true then setLast (strs f m) m else strs f m ++ [(m, m)]) else strs f m
def outS (l : List (Nat × Nat)) : List UInt8 := l.flatMap fun p => strT p.1 p.2
def lens (l : List (Nat × Nat)) : Nat := (l.map fun p => p.2 - p.1 + 1).sum

theorem setLast_snoc (l : List (Nat × Nat)) (a b m : Nat) : setLast (l ++ [(a, b)]) m = l ++ [(a, m)] := by
  simp [setLast]

theorem runE_fuel (f : Nat → Bool) : ∀ (n m : Nat), 255 - m ≤ n → runE f (n + 1) m = runE f n m := by
  intro n
  induction n with
  | zero =>
    intro m h
    unfold runE
    rw [if_neg (by omega)]
  | succ n ih =>
    intro m h
    show (if m < 255 ∧ f (m + 1) = true then runE f (n + 1) (m + 1) else m) = (if m < 255 ∧ f (m + 1) = true then runE f n (m + 1) else m)
    by_cases hc : m < 255 ∧ f (m + 1) = true
    · rw [if_pos hc, if_pos hc, ih (m + 1) (by omega)]
    · rw [if_neg hc, if_neg hc]
theorem runEnd_step (f : Nat → Bool) (m : Nat) (h : m < 255) (hf : f (m + 1) = true) : runEnd f m = runEnd f (m + 1) := by
  unfold runEnd
  show (if m < 255 ∧ f (m + 1) = true then runE f 254 (m + 1) else m) = _
  rw [if_pos ⟨h, hf⟩]
  exact (runE_fuel f 254 (m + 1) (by omega)).symm
theorem runEnd_stop (f : Nat → Bool) (m : Nat) (h : ¬ (m < 255 ∧ f (m + 1) = true)) : runEnd f m = m := by
  unfold runEnd
  show (if m < 255 ∧ f (m + 1) = true then runE f 254 (m + 1) else m) = _
  rw [if_neg h]

/-- What the stretches below m are, and what has been written by then. -/
def StrInv (f : Nat → Bool) (m : Nat) : Prop :=
  (∃ pre a, 0 < m ∧ f (m - 1) = true ∧ strs f m = pre ++ [(a, m - 1)] ∧ a ≤ m - 1 ∧ f a = true ∧ (a = 0 ∨ f (a - 1) = false) ∧ runEnd f a = runEnd f (m - 1) ∧ outTo f m = outS pre ++ outAt f a) ∨
  ((m = 0 ∨ f (m - 1) = false) ∧ outTo f m = outS (strs f m))

theorem outS_snoc (l : List (Nat × Nat)) (a b : Nat) : outS (l ++ [(a, b)]) = outS l ++ strT a b := by simp [outS]
theorem outAt_end (f : Nat → Bool) (a b : Nat) (hab : a ≤ b) (hfa : f a = true) (h0 : a = 0 ∨ f (a - 1) = false) (hr : runEnd f a = b) : outAt f a = strT a b := by
  unfold outAt strT
  rw [if_pos ⟨hfa, h0⟩, hr]
  by_cases h : a = b
  · rw [if_pos h, if_neg (by omega)]; simp
  · rw [if_neg h, if_pos (by omega)]; simp

theorem StrInv.all (f : Nat → Bool) : ∀ m, m ≤ 256 → StrInv f m := by
  intro m
  induction m with
  | zero => intro _; exact Or.inr ⟨Or.inl rfl, rfl⟩
  | succ m ih =>
    intro hm
    rcases ih (by omega) with ⟨pre, a, h0, hf, hs, ham, hfa, ha0, hr, ho⟩ | ⟨hc, ho⟩
    · have hz : outAt f m = [] := by
        unfold outAt
        rw [if_neg]
        rintro ⟨_, h | h⟩
        · omega
        · rw [hf] at h; cases h
      cases hfm : f m with
      | true =>
        refine Or.inl ⟨pre, a, by omega, by simpa using hfm, ?_, by simp; omega, hfa, ha0, ?_, ?_⟩
        · show (if f m = true then (if 0 < m ∧ f (m - 1) = true then setLast (strs f m) m else strs f m ++ [(m, m)]) else strs f m) = _
          rw [if_pos hfm, if_pos ⟨h0, hf⟩, hs, setLast_snoc]
          simp
        · rw [hr]
          have := runEnd_step f (m - 1) (by omega) (by rw [show m - 1 + 1 = m by omega]; exact hfm)
          rw [this, show m - 1 + 1 = m by omega]
          simp
        · show outTo f m ++ outAt f m = _
          rw [hz, ho]; simp
      | false =>
        refine Or.inr ⟨Or.inr (by simpa using hfm), ?_⟩
        show outTo f m ++ outAt f m = outS (if f m = true then (if 0 < m ∧ f (m - 1) = true then setLast (strs f m) m else strs f m ++ [(m, m)]) else strs f m)
        rw [if_neg (by rw [hfm]; simp), hz, ho, hs, outS_snoc]
        have hend : runEnd f (m - 1) = m - 1 := runEnd_stop f (m - 1) (by rw [show m - 1 + 1 = m by omega, hfm]; simp)
        rw [outAt_end f a (m - 1) ham hfa ha0 (hr.trans hend)]
        simp
    · cases hfm : f m with
      | true =>
        refine Or.inl ⟨strs f m, m, by omega, by simpa using hfm, ?_, by simp, hfm, ?_, by simp, ?_⟩
        · show (if f m = true then (if 0 < m ∧ f (m - 1) = true then setLast (strs f m) m else strs f m ++ [(m, m)]) else strs f m) = _
          rw [if_pos hfm, if_neg]
          · simp
          · rintro ⟨h1, h2⟩
            rcases hc with h | h
            · omega
            · rw [h2] at h; cases h
        · rcases hc with h | h
          · exact Or.inl h
          · exact Or.inr h
        · show outTo f m ++ outAt f m = _
          rw [ho]
      | false =>
        refine Or.inr ⟨Or.inr (by simpa using hfm), ?_⟩
        show outTo f m ++ outAt f m = outS (if f m = true then (if 0 < m ∧ f (m - 1) = true then setLast (strs f m) m else strs f m ++ [(m, m)]) else strs f m)
        rw [if_neg (by rw [hfm]; simp), ho]
        have hz : outAt f m = [] := by unfold outAt; rw [if_neg]; rintro ⟨h, _⟩; rw [hfm] at h; cases h
        rw [hz]; simp

theorem out_strs (f : Nat → Bool) : outTo f 256 = outS (strs f 256) := by
  rcases StrInv.all f 256 (by omega) with ⟨pre, a, h0, hf, hs, ham, hfa, ha0, hr, ho⟩ | ⟨hc, ho⟩
  · have hend : runEnd f 255 = 255 := runEnd_stop f 255 (by omega)
    rw [ho, hs, outS_snoc, outAt_end f a 255 (by simpa using ham) hfa ha0 (by rw [hr]; exact hend)]
  · exact ho

theorem lens_snoc (l : List (Nat × Nat)) (a b : Nat) : lens (l ++ [(a, b)]) = lens l + (b - a + 1) := by simp [lens]
theorem cnt_lens (f : Nat → Bool) : ∀ m, m ≤ 256 → cntTo f m = lens (strs f m) ∧ ∀ p ∈ strs f m, p.1 ≤ p.2 ∧ p.2 < m := by
  intro m
  induction m with
  | zero => intro _; exact ⟨rfl, by simp [strs]⟩
  | succ m ih =>
    intro hm
    obtain ⟨h1, h2⟩ := ih (by omega)
    have hI := StrInv.all f m (by omega)
    show cntTo f m + (if f m then 1 else 0) = lens (if f m = true then (if 0 < m ∧ f (m - 1) = true then setLast (strs f m) m else strs f m ++ [(m, m)]) else strs f m) ∧ ∀ p ∈ (if f m = true then (if 0 < m ∧ f (m - 1) = true then setLast (strs f m) m else strs f m ++ [(m, m)]) else strs f m), p.1 ≤ p.2 ∧ p.2 < m + 1
    by_cases hfm : f m = true
    · rw [if_pos hfm, if_pos hfm]
      rcases hI with ⟨pre, a, h0, hf, hs, ham, hfa, ha0, hr, ho⟩ | ⟨hc, ho⟩
      · rw [if_pos ⟨h0, hf⟩, hs, setLast_snoc, h1, hs, lens_snoc, lens_snoc]
        refine ⟨by omega, ?_⟩
        intro p hp
        rcases List.mem_append.1 hp with hp | hp
        · have := h2 p (by rw [hs]; exact List.mem_append_left _ hp)
          exact ⟨this.1, by omega⟩
        · simp at hp; subst hp; exact ⟨by simp; omega, by simp⟩
      · rw [if_neg (by rintro ⟨h3, h4⟩; rcases hc with h | h; omega; rw [h4] at h; cases h), lens_snoc, h1]
        refine ⟨by omega, ?_⟩
        intro p hp
        rcases List.mem_append.1 hp with hp | hp
        · have := h2 p hp; exact ⟨this.1, by omega⟩
        · simp at hp; subst hp; exact ⟨by simp, by simp⟩
    · rw [if_neg hfm, if_neg hfm]
      refine ⟨by omega, ?_⟩
      intro p hp
      have := h2 p hp
      exact ⟨this.1, by omega⟩

theorem cnt_all (f : Nat → Bool) : ∀ m, (cntTo f m = m ↔ ∀ n, n < m → f n = true) := by
  intro m
  induction m with
  | zero => simp [cntTo]
  | succ m ih =>
    have hle := cntTo_le f m
    show cntTo f m + (if f m then 1 else 0) = m + 1 ↔ _
    constructor
    · intro h n hn
      by_cases hfm : f m = true
      · rw [if_pos hfm] at h
        by_cases e : n = m
        · subst e; exact hfm
        · exact ih.1 (by omega) n (by omega)
      · rw [if_neg hfm] at h; omega
    · intro h
      rw [if_pos (h m (by omega)), ih.2 (fun n hn => h n (by omega))]

open Classical in
/-- A set, as the program writes it. -/
theorem setT_strs (f : Nat → Bool) : setT f = if (strs f 256).length = 0 then [91, 94, 92, 120, 48, 48, 45, 92, 120, 102, 102, 93] else if ∀ n, n < 256 → f n = true then [46] else if ∃ a, strs f 256 = [(a, a)] then outS (strs f 256) else [91] ++ outS (strs f 256) ++ [93] := by
  obtain ⟨hl, hp⟩ := cnt_lens f 256 (by omega)
  have hall := cnt_all f 256
  have hpos : ∀ l : List (Nat × Nat), l.length ≤ lens l := by
    intro l
    induction l with
    | nil => simp [lens]
    | cons p l ih => simp only [lens, List.map_cons, List.sum_cons, List.length_cons] at ih ⊢; omega
  unfold setT
  by_cases h0 : (strs f 256).length = 0
  · rw [if_pos h0]
    have : strs f 256 = [] := List.length_eq_zero_iff.1 h0
    rw [this] at hl
    rw [if_pos (by rw [hl]; rfl)]
  · rw [if_neg h0]
    have hz : cntTo f 256 ≠ 0 := by have := hpos (strs f 256); omega
    rw [if_neg hz]
    by_cases ha : ∀ n, n < 256 → f n = true
    · rw [if_pos ha]
      have := hall.2 ha
      rw [if_neg (by omega), if_pos this]
    · rw [if_neg ha]
      have hn : cntTo f 256 ≠ 256 := fun h => ha (hall.1 h)
      by_cases h1 : ∃ a, strs f 256 = [(a, a)]
      · rw [if_pos h1]
        obtain ⟨a, h1⟩ := h1
        have : cntTo f 256 = 1 := by rw [hl, h1]; simp [lens]
        rw [if_pos this, out_strs]
      · rw [if_neg h1]
        have h2 : cntTo f 256 ≠ 1 := by
          intro h
          apply h1
          rw [hl] at h
          match hst : strs f 256 with
          | [] => rw [hst] at h0; simp at h0
          | [(a, b)] =>
            rw [hst] at h
            have := (hp (a, b) (by rw [hst]; simp)).1
            simp [lens] at h this
            exact ⟨a, by congr 2; omega⟩
          | p :: q :: l =>
            rw [hst] at h
            have := hpos (p :: q :: l)
            simp at this
            omega
        rw [if_neg h2, if_neg hn, out_strs]
end Go.Proofs.YtnfojonmohijpaaGreatDoor

/-
  DERIVED. Plain mathematics: the pattern [b-da]x, read and written. Nothing of the program stands here.
-/
namespace Go.Proofs.YtnfojonmohijpaaGreatDoor

def exS : ByteArray := ⟨#[91, 98, 45, 100, 97, 93, 120]⟩
def exF : Nat → Bool := fun n => stretch 98 100 n || stretch 97 97 n
def exX : Pat := .wone (.pcons (.set exF) (.pcons (.set (stretch 120 120)) .pnil))
def exW : Whole := ⟨false, false, exX, 0⟩

theorem ex_at : at' exS 0 = 91 ∧ at' exS 1 = 98 ∧ at' exS 2 = 45 ∧ at' exS 3 = 100 ∧ at' exS 4 = 97 ∧ at' exS 5 = 93 ∧ at' exS 6 = 120 ∧ at' exS 7 = -1 := by decide
theorem ex_r1 : rangeS exS 1 = .ok (stretch 98 100) 4 := by
  obtain ⟨h0, h1, h2, h3, h4, h5, h6, h7⟩ := ex_at
  simp [rangeS, innS, R.bind, h1, h2, h3]
theorem ex_r2 : rangeS exS 4 = .ok (stretch 97 97) 5 := by
  obtain ⟨h0, h1, h2, h3, h4, h5, h6, h7⟩ := ex_at
  simp [rangeS, innS, R.bind, h4, h5]
theorem ex_set : SetR exS 1 (.ok exF 6) := by
  obtain ⟨h0, h1, h2, h3, h4, h5, h6, h7⟩ := ex_at
  exact Or.inr ⟨by rw [h1]; decide, SetU.go (stretch 98 100) 1 4 _ ex_r1 (SetL.more _ (stretch 97 97) 4 5 _ (by rw [h4]; decide) ex_r2 (SetL.done _ 5 h5))⟩
theorem ex_read : PatR exS (.ok exW 7) := by
  obtain ⟨h0, h1, h2, h3, h4, h5, h6, h7⟩ := ex_at
  have a1 : G exS .single 0 0 0 (.ok (.set exF, 0) 6) := G.set 0 0 0 (.ok exF 6) h0 ex_set
  have a2 : G exS .piece 0 0 0 (.ok (.set exF, 0) 6) := G.rep 0 0 0 0 6 _ (.ok none 6) a1 (Or.inl (by simp [h6]))
  have a3 : G exS .single 0 0 6 (.ok (.set (stretch 120 120), 0) 7) := by
    have := G.lit (s := exS) 0 0 6 (by rw [h6]; decide) (by rw [h6]; decide) (by rw [h6]; decide) (by rw [h6]; decide) (by rw [h6]; decide) (by rw [h6]; unfold notC; decide)
    rw [h6] at this
    exact this
  have a4 : G exS .piece 0 0 6 (.ok (.set (stretch 120 120), 0) 7) := G.rep 0 0 6 0 7 _ (.ok none 7) a3 (Or.inl (by simp [h7]))
  have a5 : G exS .way 0 0 7 (.ok (.pnil, 0) 7) := G.nil 0 0 7 (by rw [h7]; unfold stopC; decide)
  have a6 : G exS .way 0 0 6 (.ok (.pcons (.set (stretch 120 120)) .pnil, 0) 7) := G.cons 0 0 6 0 7 _ (.ok (.pnil, 0) 7) (by rw [h6]; unfold stopC; decide) a4 a5
  have a7 : G exS .way 0 0 0 (.ok (.pcons (.set exF) (.pcons (.set (stretch 120 120)) .pnil), 0) 7) := G.cons 0 0 0 0 6 _ (.ok (.pcons (.set (stretch 120 120)) .pnil, 0) 7) (by rw [h0]; unfold stopC; decide) a2 a6
  have hw : wi exS = 0 := by simp [wi, h0]
  refine ⟨.ok (exX, 0) 7, ?_, ?_⟩
  · rw [hw]
    exact G.one 0 0 0 0 7 _ a7 (by rw [h7]; decide)
  · simp [PatE_ok, h7, h0, exW]
set_option maxRecDepth 100000 in
theorem ex_text : wholeT exW = [91, 97, 45, 100, 93, 120] := by decide +kernel
theorem ex_size : exS.size ≤ 60 := by decide
end Go.Proofs.YtnfojonmohijpaaGreatDoor
