/-
  DERIVED. Plain mathematics: how a pattern is read (the document's grammar) and written in one way, as functions on bytes. Nothing of the program stands here; nothing is proved here but small facts on these functions.
-/
import Derived.Below
set_option linter.unusedSimpArgs false
set_option linter.unusedVariables false
namespace Go.Proofs.YtnfojonmohijpabGreatDoor
def at' (s : ByteArray) (i : Nat) : Int := if h : i < s.size then (s[i].toNat : Int) else -1
theorem at'_lt {s : ByteArray} {i : Nat} (h : i < s.size) : at' s i = (s[i].toNat : Int) := by simp [at', h]
theorem at'_ge {s : ByteArray} {i : Nat} (h : s.size ≤ i) : at' s i = -1 := by simp [at', Nat.not_lt.2 h]
theorem at'_bd (s : ByteArray) (i : Nat) : -1 ≤ at' s i ∧ at' s i ≤ 255 := by
 unfold at'
 split
 ·rename_i h
  have := s[i].toNat_lt
  omega
 ·omega
theorem at'_nn {s : ByteArray} {i : Nat} (h : 0 ≤ at' s i) : i < s.size := by
 rcases Nat.lt_or_ge i s.size with h' | h'
 ·exact h'
 ·rw [at'_ge h'] at h; omega
def digB (c : Int) : Bool := decide (48 ≤ c) && decide (c ≤ 57)
def alnB (c : Int) : Bool := digB c || (decide (97 ≤ c) && decide (c ≤ 122)) || (decide (65 ≤ c) && decide (c ≤ 90))
inductive R (α : Type) where
 | ok (a : α) (i : Nat)
 | bad (i : Nat)
def R.bind {α β : Type} : R α → (α → Nat → R β) → R β
 | .ok a i, f => f a i
 | .bad i, _ => .bad i
def needS (s : ByteArray) (c : Int) (i : Nat) : R Unit := if at' s i = c then .ok () (i + 1) else .bad i
def hexd (c : Int) : Int := if 48 ≤ c ∧ c ≤ 57 then c - 48 else if 97 ≤ c ∧ c ≤ 102 then c - 87 else -1
theorem hexd_bd (c : Int) : -1 ≤ hexd c ∧ hexd c ≤ 15 := by unfold hexd; split <;> (try split) <;> omega
def hexS (s : ByteArray) (ahead : Int) (last : Bool) (least : Int) (i : Nat) : R Int :=
 if hexd (at' s i) < 0 ∨ (if last then ahead + hexd (at' s i) else 16 * (ahead + hexd (at' s i)) + 15) < least then .bad i else .ok (hexd (at' s i)) (i + 1)
def escS (s : ByteArray) (least : Int) (i : Nat) : R Int :=
 if at' s i = 120 then (hexS s 0 false least (i + 1)).bind fun a j => (hexS s (16 * a) true least j).bind fun b k => .ok (16 * a + b) k
 else if at' s i < 0 ∨ alnB (at' s i) = true ∨ at' s i < least then .bad i else .ok (at' s i) (i + 1)
def innS (s : ByteArray) (least : Int) (i : Nat) : R Int :=
 if at' s i = 92 then escS s least (i + 1)
 else if at' s i < 0 ∨ at' s i = 91 ∨ at' s i = 93 ∨ at' s i = 45 ∨ at' s i = 94 ∨ at' s i < least then .bad i else .ok (at' s i) (i + 1)
def names : List (List UInt8) := [[100, 105, 103, 105, 116], [108, 111, 119, 101, 114], [117, 112, 112, 101, 114], [97, 108, 112, 104, 97], [97, 108, 110, 117, 109], [115, 112, 97, 99, 101], [112, 117, 110, 99, 116]]
def lowB (c : Int) : Bool := decide (97 ≤ c) && decide (c ≤ 122)
def uppB (c : Int) : Bool := decide (65 ≤ c) && decide (c ≤ 90)
def clsB (n : Nat) (c : Int) : Bool :=
 match n with
 | 0 => digB c
 | 1 => lowB c
 | 2 => uppB c
 | 3 => lowB c || uppB c
 | 4 => digB c || lowB c || uppB c
 | 5 => (decide (9 ≤ c) && decide (c ≤ 13)) || decide (c = 32)
 | _ => decide (32 < c) && decide (c < 127) && !digB c && !lowB c && !uppB c
def goesOn (word : List UInt8) (c : Int) : Bool := names.any fun n => decide (word.length < n.length) && decide (n.take word.length = word) && decide (((n.getD word.length 0).toNat : Int) = c)
def clsS (s : ByteArray) : Nat → List UInt8 → Nat → R Nat
 | 0, _, i => .bad i
 | f + 1, word, i =>
  match names.findIdx? (· = word) with
  | some k => .ok k i
  | none => if goesOn word (at' s i) then clsS s f (word ++ [s.get! i]) (i + 1) else .bad i
end Go.Proofs.YtnfojonmohijpabGreatDoor
namespace Go.Proofs.YtnfojonmohijpabGreatDoor
def classS (s : ByteArray) (i : Nat) : R Nat := (needS s 58 (i + 1)).bind fun _ j => (clsS s 6 [] j).bind fun k j => (needS s 58 j).bind fun _ j => (needS s 93 j).bind fun _ j => .ok k j
def stretch (a c : Int) : Nat → Bool := fun n => decide (a ≤ (n : Int)) && decide ((n : Int) ≤ c)
def rangeS (s : ByteArray) (i : Nat) : R (Nat → Bool) :=
 if at' s i = 91 then (classS s i).bind fun k j => .ok (fun n => clsB k n) j
 else (innS s 0 i).bind fun a j => if at' s j = 45 then (innS s a (j + 1)).bind fun c k => .ok (stretch a c) k else .ok (stretch a a) j
inductive SetL (s : ByteArray) : (Nat → Bool) → Nat → R (Nat → Bool) → Prop
 | done (f : Nat → Bool) (i : Nat) : at' s i = 93 → SetL s f i (.ok f (i + 1))
 | more (f r : Nat → Bool) (i j : Nat) (q : R (Nat → Bool)) : at' s i ≠ 93 → rangeS s i = .ok r j → SetL s (fun n => f n || r n) j q → SetL s f i q
 | bad (f : Nat → Bool) (i j : Nat) : at' s i ≠ 93 → rangeS s i = .bad j → SetL s f i (.bad j)
theorem SetL.det {s : ByteArray} {f : Nat → Bool} {i : Nat} {q q' : R (Nat → Bool)} (h : SetL s f i q) (h' : SetL s f i q') : q = q' := by
 induction h with
 | done f i e => cases h' with
  | done => rfl
  | more _ _ _ _ _ e' => exact absurd e e'
  | bad _ _ _ e' => exact absurd e e'
 | more f r i j q e e2 _ ih => cases h' with
  | done _ _ e' => exact absurd e' e
  | more _ r' _ j' _ _ e2' hl =>
   rw [e2] at e2'
   cases e2'
   exact ih hl
  | bad _ _ _ _ e2' => rw [e2] at e2'; cases e2'
 | bad f i j e e2 => cases h' with
  | done _ _ e' => exact absurd e' e
  | more _ r' _ j' _ _ e2' hl => rw [e2] at e2'; cases e2'
  | bad _ _ _ _ e2' => rw [e2] at e2'; cases e2'; rfl
inductive SetU (s : ByteArray) : Nat → R (Nat → Bool) → Prop
 | go (r : Nat → Bool) (i j : Nat) (q : R (Nat → Bool)) : rangeS s i = .ok r j → SetL s r j q → SetU s i q
 | bad (i j : Nat) : rangeS s i = .bad j → SetU s i (.bad j)
theorem SetU.det {s : ByteArray} {i : Nat} {q q' : R (Nat → Bool)} (h : SetU s i q) (h' : SetU s i q') : q = q' := by
 cases h with
 | go r _ j _ e hl => cases h' with
  | go r' _ j' _ e' hl' => rw [e] at e'; cases e'; exact hl.det hl'
  | bad _ _ e' => rw [e] at e'; cases e'
 | bad _ j e => cases h' with
  | go r' _ j' _ e' hl' => rw [e] at e'; cases e'
  | bad _ _ e' => rw [e] at e'; cases e'; rfl
def R.map {α β : Type} (f : α → β) : R α → R β
 | .ok a i => .ok (f a) i
 | .bad i => .bad i
def SetR (s : ByteArray) (i : Nat) (q : R (Nat → Bool)) : Prop :=
 (at' s i = 94 ∧ ∃ q', SetU s (i + 1) q' ∧ q = q'.map (fun f n => !f n)) ∨ (at' s i ≠ 94 ∧ SetU s i q)
theorem SetR.det {s : ByteArray} {i : Nat} {q q' : R (Nat → Bool)} (h : SetR s i q) (h' : SetR s i q') : q = q' := by
 rcases h with ⟨e, r, hr, rfl⟩ | ⟨e, hr⟩ <;> rcases h' with ⟨e', r', hr', rfl⟩ | ⟨e', hr'⟩
 ·rw [hr.det hr']
 ·exact absurd e e'
 ·exact absurd e' e
 ·exact hr.det hr'
theorem hexS_ok {s : ByteArray} {ahead least a : Int} {last : Bool} {i j : Nat} (h : hexS s ahead last least i = .ok a j) : j = i + 1 ∧ 0 ≤ a ∧ a ≤ 15 ∧ i < s.size ∧ least ≤ (if last then ahead + a else 16 * (ahead + a) + 15) := by
 unfold hexS at h
 by_cases hn : hexd (at' s i) < 0 ∨ (if last then ahead + hexd (at' s i) else 16 * (ahead + hexd (at' s i)) + 15) < least
 ·rw [if_pos hn] at h; cases h
 ·rw [if_neg hn] at h
  have hd := hexd_bd (at' s i)
  injection h with h1 h2
  subst h1
  have : 0 ≤ at' s i := by
   by_cases hh : 0 ≤ at' s i
   ·exact hh
   ·exfalso; apply hn; left
    unfold hexd; rw [if_neg (by omega), if_neg (by omega)]; omega
  have := at'_nn this
  refine ⟨h2.symm, ?_, hd.2, this, ?_⟩
  ·omega
  ·exact Int.not_lt.1 fun hh => hn (Or.inr hh)
def hexPS (s : ByteArray) (least : Int) (i : Nat) : R Int := (hexS s 0 false least i).bind fun a j => (hexS s (16 * a) true least j).bind fun b k => .ok (16 * a + b) k
theorem escS_x {s : ByteArray} {least : Int} {i : Nat} (h : at' s i = 120) : escS s least i = hexPS s least (i + 1) := by
 unfold escS hexPS; rw [if_pos h]
theorem escS_ok {s : ByteArray} {least a : Int} {i j : Nat} (h : escS s least i = .ok a j) : i < j ∧ j ≤ s.size ∧ 0 ≤ a ∧ a ≤ 255 := by
 by_cases hx : at' s i = 120
 ·rw [escS_x hx] at h
  unfold hexPS at h
  cases r1 : hexS s 0 false least (i + 1) with
  | bad k => rw [r1] at h; cases h
  | ok x k =>
   rw [r1] at h
   obtain ⟨rfl, hx0, hx1, hlt, _⟩ := hexS_ok r1
   simp only [R.bind] at h
   cases r2 : hexS s (16 * x) true least (i + 1 + 1) with
   | bad k => rw [r2] at h; cases h
   | ok y k =>
    rw [r2] at h
    obtain ⟨rfl, hy0, hy1, hlt2, _⟩ := hexS_ok r2
    injection h with h1 h2
    subst h1 h2
    omega
 ·unfold escS at h
  rw [if_neg hx] at h
  by_cases hc : at' s i < 0 ∨ alnB (at' s i) = true ∨ at' s i < least
  ·rw [if_pos hc] at h; cases h
  ·rw [if_neg hc] at h
   injection h with h1 h2
   subst h1 h2
   have h0 : 0 ≤ at' s i := by
    apply Int.not_lt.1; intro hh; exact hc (Or.inl hh)
   have := at'_nn h0
   have := at'_bd s i
   omega
theorem innS_ok {s : ByteArray} {least a : Int} {i j : Nat} (h : innS s least i = .ok a j) : i < j ∧ j ≤ s.size ∧ 0 ≤ a ∧ a ≤ 255 := by
 unfold innS at h
 by_cases hx : at' s i = 92
 ·rw [if_pos hx] at h
  have := escS_ok h
  omega
 ·rw [if_neg hx] at h
  by_cases hc : at' s i < 0 ∨ at' s i = 91 ∨ at' s i = 93 ∨ at' s i = 45 ∨ at' s i = 94 ∨ at' s i < least
  ·rw [if_pos hc] at h; cases h
  ·rw [if_neg hc] at h
   injection h with h1 h2
   subst h1 h2
   have h0 : 0 ≤ at' s i := by omega
   have := at'_nn h0
   have := at'_bd s i
   omega
theorem goesOn_nn {word : List UInt8} {c : Int} (h : goesOn word c = true) : 0 ≤ c := by
 unfold goesOn at h
 simp only [List.any_eq_true, Bool.and_eq_true, decide_eq_true_eq] at h
 obtain ⟨n, _, _, hc⟩ := h
 omega
theorem clsS_ok {s : ByteArray} (f : Nat) : ∀ {word : List UInt8} {i j k : Nat}, clsS s f word i = .ok k j → i ≤ j ∧ (i ≤ s.size → j ≤ s.size) ∧ k < 7 := by
 induction f with
 | zero => intro word i j k h; cases h
 | succ f ih =>
  intro word i j k h
  rw [clsS] at h
  cases hf : names.findIdx? (· = word) with
  | some m =>
   rw [hf] at h
   injection h with h1 h2
   subst h1 h2
   rw [List.findIdx?_eq_some_iff_getElem] at hf
   obtain ⟨hm, _⟩ := hf
   exact ⟨Nat.le_refl _, id, hm⟩
  | none =>
   rw [hf] at h
   dsimp only at h
   by_cases hg : goesOn word (at' s i) = true
   ·rw [if_pos hg] at h
    have := ih h
    have := at'_nn (goesOn_nn hg)
    omega
   ·rw [if_neg hg] at h; cases h
theorem needS_ok {s : ByteArray} {c : Int} {i j : Nat} {u : Unit} (h : needS s c i = .ok u j) : j = i + 1 ∧ at' s i = c := by
 unfold needS at h
 by_cases hc : at' s i = c
 ·rw [if_pos hc] at h; injection h with h1 h2; exact ⟨h2.symm, hc⟩
 ·rw [if_neg hc] at h; cases h
theorem classS_ok {s : ByteArray} {i j k : Nat} (h : classS s i = .ok k j) : i < j ∧ j ≤ s.size ∧ k < 7 := by
 unfold classS at h
 cases h1 : needS s 58 (i + 1) with
 | bad x => rw [h1] at h; cases h
 | ok u x =>
  rw [h1] at h
  obtain ⟨rfl, e1⟩ := needS_ok h1
  have l1 := at'_nn (s := s) (i := i + 1) (by omega)
  simp only [R.bind] at h
  cases h2 : clsS s 6 [] (i + 1 + 1) with
  | bad x => rw [h2] at h; cases h
  | ok m x =>
   rw [h2] at h
   have := clsS_ok 6 h2
   simp only at h
   cases h3 : needS s 58 x with
   | bad y => rw [h3] at h; cases h
   | ok u y =>
    rw [h3] at h
    obtain ⟨rfl, e3⟩ := needS_ok h3
    simp only at h
    cases h4 : needS s 93 (x + 1) with
    | bad y => rw [h4] at h; cases h
    | ok u y =>
     rw [h4] at h
     obtain ⟨rfl, e4⟩ := needS_ok h4
     have l4 := at'_nn (s := s) (i := x + 1) (by omega)
     simp only at h
     injection h with ha hb
     subst ha hb
     omega
theorem rangeS_ok {s : ByteArray} {i j : Nat} {r : Nat → Bool} (h : rangeS s i = .ok r j) : i < j ∧ j ≤ s.size := by
 unfold rangeS at h
 by_cases hx : at' s i = 91
 ·rw [if_pos hx] at h
  cases h1 : classS s i with
  | bad x => rw [h1] at h; cases h
  | ok k x =>
   rw [h1] at h
   have := classS_ok h1
   injection h with ha hb
   subst hb
   omega
 ·rw [if_neg hx] at h
  cases h1 : innS s 0 i with
  | bad x => rw [h1] at h; cases h
  | ok a x =>
   rw [h1] at h
   have := innS_ok h1
   simp only [R.bind] at h
   by_cases hd : at' s x = 45
   ·rw [if_pos hd] at h
    cases h2 : innS s a (x + 1) with
    | bad y => rw [h2] at h; cases h
    | ok c y =>
     rw [h2] at h
     have := innS_ok h2
     injection h with ha hb
     subst hb
     omega
   ·rw [if_neg hd] at h
    injection h with ha hb
    subst hb
    omega
end Go.Proofs.YtnfojonmohijpabGreatDoor
namespace Go.Proofs.YtnfojonmohijpabGreatDoor
inductive NumL (s : ByteArray) (least : Nat) : Nat → Bool → Nat → R Nat → Prop
 | dig (n x : Nat) (any : Bool) (i : Nat) (q : R Nat) : digB (at' s i) = true → (x : Int) = 10 * n + (at' s i - 48) → x ≤ 5 → (x = 0 ∨ least ≤ x) → NumL s least x true (i + 1) q → NumL s least n any i q
 | big (n x : Nat) (any : Bool) (i : Nat) : digB (at' s i) = true → (x : Int) = 10 * n + (at' s i - 48) → ¬ (x ≤ 5 ∧ (x = 0 ∨ least ≤ x)) → NumL s least n any i (.bad i)
 | done (n i : Nat) : digB (at' s i) = false → least ≤ n → NumL s least n true i (.ok n i)
 | short (n : Nat) (any : Bool) (i : Nat) : digB (at' s i) = false → (any = false ∨ n < least) → NumL s least n any i (.bad i)
theorem NumL.det {s : ByteArray} {least n : Nat} {any : Bool} {i : Nat} {q q' : R Nat} (h : NumL s least n any i q) (h' : NumL s least n any i q') : q = q' := by
 induction h with
 | dig n x any i q hd hx h5 hl _ ih => cases h' with
  | dig _ x' _ _ _ hd' hx' h5' hl' hr =>
   have : x = x' := by omega
   subst this
   exact ih hr
  | big _ x' _ _ hd' hx' hn =>
   have : x = x' := by omega
   subst this
   exact absurd ⟨h5, hl⟩ hn
  | done _ _ hd' => rw [hd] at hd'; cases hd'
  | short _ _ _ hd' => rw [hd] at hd'; cases hd'
 | big n x any i hd hx hn => cases h' with
  | dig _ x' _ _ _ hd' hx' h5' hl' hr =>
   have : x = x' := by omega
   subst this
   exact absurd ⟨h5', hl'⟩ hn
  | big _ x' _ _ hd' hx' hn => rfl
  | done _ _ hd' => rw [hd] at hd'; cases hd'
  | short _ _ _ hd' => rfl
 | done n i hd hl => cases h' with
  | dig _ x' _ _ _ hd' => rw [hd] at hd'; cases hd'
  | big _ x' _ _ hd' => rw [hd] at hd'; cases hd'
  | done _ _ hd' => rfl
  | short _ _ _ hd' ho => (exfalso; simp at ho; omega)
 | short n any i hd ho => cases h' with
  | dig _ x' _ _ _ hd' => rw [hd] at hd'; cases hd'
  | big _ x' _ _ hd' => rfl
  | done _ _ hd' hl' => (exfalso; simp at ho; omega)
  | short _ _ _ hd' ho => rfl
theorem NumL.ok {s : ByteArray} {least n : Nat} {any : Bool} {i : Nat} {q : R Nat} (h : NumL s least n any i q) : ∀ m j, q = .ok m j → i ≤ j ∧ (i ≤ s.size → j ≤ s.size) ∧ (n ≤ 5 → m ≤ 5) ∧ (any = false → i < j) := by
 induction h with
 | dig n x any i q hd hx h5 hl _ ih =>
  intro m j e
  have := ih m j e
  have hnn : 0 ≤ at' s i := by simp [digB] at hd; omega
  have := at'_nn hnn
  omega
 | big => intro m j e; cases e
 | done n i hd hl => intro m j e; cases e; simp
 | short => intro m j e; cases e
end Go.Proofs.YtnfojonmohijpabGreatDoor
namespace Go.Proofs.YtnfojonmohijpabGreatDoor
inductive Pat where
 | set (f : Nat → Bool)
 | grp (k : Nat) (x : Pat)
 | rep (mn : Nat) (mx : Int) (x : Pat)
 | pnil
 | pcons (x r : Pat)
 | wone (x : Pat)
 | wcons (x r : Pat)
def Rep3 (s : ByteArray) (m : Nat) (q2 : R Nat) (q : R (Option (Nat × Int))) : Prop :=
 match q2 with
 | .bad l => q = .bad l
 | .ok n l => q = if at' s l = 125 then .ok (some (m, (n : Int))) (l + 1) else .bad l
def Rep2 (s : ByteArray) (q1 : R Nat) (q : R (Option (Nat × Int))) : Prop :=
 match q1 with
 | .bad k => q = .bad k
 | .ok m k => (at' s k = 44 ∧ at' s (k + 1) = 125 ∧ q = .ok (some (m, -1)) (k + 2)) ∨ (at' s k = 44 ∧ at' s (k + 1) ≠ 125 ∧ ∃ q2, NumL s m 0 false (k + 1) q2 ∧ Rep3 s m q2 q) ∨
     (at' s k ≠ 44 ∧ q = if at' s k = 125 then .ok (some (m, (m : Int))) (k + 1) else .bad k)
def RepR (s : ByteArray) (j : Nat) (q : R (Option (Nat × Int))) : Prop :=
 (at' s j ≠ 42 ∧ at' s j ≠ 43 ∧ at' s j ≠ 63 ∧ at' s j ≠ 123 ∧ q = .ok none j) ∨ (at' s j = 42 ∧ q = .ok (some (0, -1)) (j + 1)) ∨ (at' s j = 43 ∧ q = .ok (some (1, -1)) (j + 1)) ∨
 (at' s j = 63 ∧ q = .ok (some (0, 1)) (j + 1)) ∨ (at' s j = 123 ∧ ∃ q1, NumL s 0 0 false (j + 1) q1 ∧ Rep2 s q1 q)
theorem Rep3.det {s : ByteArray} {m : Nat} {q2 : R Nat} {q q' : R (Option (Nat × Int))} (h : Rep3 s m q2 q) (h' : Rep3 s m q2 q') : q = q' := by
 cases q2 <;> exact h.trans h'.symm
theorem Rep2.det {s : ByteArray} {q1 : R Nat} {q q' : R (Option (Nat × Int))} (h : Rep2 s q1 q) (h' : Rep2 s q1 q') : q = q' := by
 cases q1 with
 | bad k => exact h.trans h'.symm
 | ok m k =>
  rcases h with ⟨a, b, e⟩ | ⟨a, b, q2, n, e⟩ | ⟨a, e⟩ <;> rcases h' with ⟨a', b', e'⟩ | ⟨a', b', q2', n', e'⟩ | ⟨a', e'⟩
  ·exact e.trans e'.symm
  ·exact absurd b b'
  ·exact absurd a a'
  ·exact absurd b' b
  ·have := n.det n'
   subst this
   exact e.det e'
  ·exact absurd a a'
  ·exact absurd a' a
  ·exact absurd a' a
  ·exact e.trans e'.symm
theorem RepR.det {s : ByteArray} {j : Nat} {q q' : R (Option (Nat × Int))} (h : RepR s j q) (h' : RepR s j q') : q = q' := by
 rcases h with ⟨a, b, c, d, e⟩ | ⟨a, e⟩ | ⟨a, e⟩ | ⟨a, e⟩ | ⟨a, q1, n, e⟩ <;> rcases h' with ⟨a', b', c', d', e'⟩ | ⟨a', e'⟩ | ⟨a', e'⟩ | ⟨a', e'⟩ | ⟨a', q1', n', e'⟩
 all_goals first
  | exact e.trans e'.symm
  | (exfalso; omega)
  | skip
 have := n.det n'
 subst this
 exact e.det e'
theorem RepR.ok {s : ByteArray} {j k : Nat} {o : Option (Nat × Int)} (h : RepR s j (.ok o k)) : j ≤ k ∧ (j ≤ s.size → k ≤ s.size) := by
 have A : ∀ i, 0 ≤ at' s i → i < s.size := fun i hi => at'_nn hi
 rcases h with ⟨a, b, c, d, e⟩ | ⟨a, e⟩ | ⟨a, e⟩ | ⟨a, e⟩ | ⟨a, q1, n, e⟩
 ·cases e; simp
 ·cases e; have := A j (by omega); omega
 ·cases e; have := A j (by omega); omega
 ·cases e; have := A j (by omega); omega
 ·have hj := A j (by omega)
  cases q1 with
  | bad l => cases e
  | ok m l =>
   have hl := n.ok m l rfl
   rcases e with ⟨a, b, e⟩ | ⟨a, b, q2, n', e⟩ | ⟨a, e⟩
   ·cases e; have := A (l + 1) (by omega); omega
   ·cases q2 with
    | bad x => cases e
    | ok y x =>
     have hx := n'.ok y x rfl
     have hl2 := A l (by omega)
     simp only [Rep3] at e
     by_cases h5 : at' s x = 125
     ·rw [if_pos h5] at e; cases e; have := A x (by omega); omega
     ·rw [if_neg h5] at e; cases e
   ·by_cases h5 : at' s l = 125
    ·rw [if_pos h5] at e; cases e; have := A l (by omega); omega
    ·rw [if_neg h5] at e; cases e
inductive Kd where
 | ways | way | piece | single
def stopC (c : Int) : Prop := c < 0 ∨ c = 124 ∨ c = 41 ∨ c = 36
def notC (c : Int) : Prop := c = 94 ∨ c = 36 ∨ c = 124 ∨ c = 41 ∨ c = 42 ∨ c = 43 ∨ c = 63 ∨ c = 123
def withRep (x : Pat) : Option (Nat × Int) → Pat
 | none => x
 | some (mn, mx) => .rep mn mx x
inductive G (s : ByteArray) : Kd → Nat → Nat → Nat → R (Pat × Nat) → Prop
 | one (d g i g1 j : Nat) (x : Pat) : G s .way d g i (.ok (x, g1) j) → at' s j ≠ 124 → G s .ways d g i (.ok (.wone x, g1) j)
 | more (d g i g1 j : Nat) (x : Pat) (q : R (Pat × Nat)) : G s .way d g i (.ok (x, g1) j) → at' s j = 124 → G s .ways d g1 (j + 1) q → G s .ways d g i (q.map fun y => (.wcons x y.1, y.2))
 | wbad (d g i j : Nat) : G s .way d g i (.bad j) → G s .ways d g i (.bad j)
 | nil (d g i : Nat) : stopC (at' s i) → G s .way d g i (.ok (.pnil, g) i)
 | cons (d g i g1 j : Nat) (x : Pat) (q : R (Pat × Nat)) : ¬ stopC (at' s i) → G s .piece d g i (.ok (x, g1) j) → G s .way d g1 j q → G s .way d g i (q.map fun y => (.pcons x y.1, y.2))
 | pbad (d g i j : Nat) : ¬ stopC (at' s i) → G s .piece d g i (.bad j) → G s .way d g i (.bad j)
 | rep (d g i g1 j : Nat) (x : Pat) (q : R (Option (Nat × Int))) : G s .single d g i (.ok (x, g1) j) → RepR s j q → G s .piece d g i (q.map fun o => (withRep x o, g1))
 | sbad (d g i j : Nat) : G s .single d g i (.bad j) → G s .piece d g i (.bad j)
 | deep (d g i : Nat) : at' s i = 40 → (d = 6 ∨ g = 9) → G s .single d g i (.bad i)
 | grp (d g i g1 j : Nat) (x : Pat) : at' s i = 40 → ¬ (d = 6 ∨ g = 9) → G s .ways (d + 1) (g + 1) (i + 1) (.ok (x, g1) j) → at' s j = 41 → G s .single d g i (.ok (.grp (g + 1) x, g1) (j + 1))
 | gopen (d g i g1 j : Nat) (x : Pat) : at' s i = 40 → ¬ (d = 6 ∨ g = 9) → G s .ways (d + 1) (g + 1) (i + 1) (.ok (x, g1) j) → at' s j ≠ 41 → G s .single d g i (.bad j)
 | gbad (d g i j : Nat) : at' s i = 40 → ¬ (d = 6 ∨ g = 9) → G s .ways (d + 1) (g + 1) (i + 1) (.bad j) → G s .single d g i (.bad j)
 | set (d g i : Nat) (q : R (Nat → Bool)) : at' s i = 91 → SetR s (i + 1) q → G s .single d g i (q.map fun f => (.set f, g))
 | dot (d g i : Nat) : at' s i = 46 → G s .single d g i (.ok (.set fun _ => true, g) (i + 1))
 | esc (d g i : Nat) : at' s i = 92 → G s .single d g i ((escS s 0 (i + 1)).map fun a => (.set (stretch a a), g))
 | no (d g i : Nat) : notC (at' s i) → G s .single d g i (.bad i)
 | lit (d g i : Nat) : 0 ≤ at' s i → at' s i ≠ 40 → at' s i ≠ 91 → at' s i ≠ 46 → at' s i ≠ 92 → ¬ notC (at' s i) → G s .single d g i (.ok (.set (stretch (at' s i) (at' s i)), g) (i + 1))
theorem G.det {s : ByteArray} {k : Kd} {d g i : Nat} {q : R (Pat × Nat)} (h : G s k d g i q) : ∀ q', G s k d g i q' → q = q' := by
 induction h with
 | one d g i g1 j x _ e ih =>
  intro q' h'
  cases h' with
  | one _ _ _ g1' j' x' a b => have := ih _ a; injection this with t u; cases t; cases u; rfl
  | more _ _ _ g1' j' x' _ a b => have := ih _ a; injection this with t u; cases t; cases u; exact absurd b e
  | wbad _ _ _ j' a => have := ih _ a; cases this
 | more d g i g1 j x q _ e _ ih ih2 =>
  intro q' h'
  cases h' with
  | one _ _ _ g1' j' x' a b => have := ih _ a; injection this with t u; cases t; cases u; exact absurd e b
  | more _ _ _ g1' j' x' _ a b c => have := ih _ a; injection this with t u; cases t; cases u; rw [ih2 _ c]
  | wbad _ _ _ j' a => have := ih _ a; cases this
 | wbad d g i j _ ih =>
  intro q' h'
  cases h' with
  | one _ _ _ g1' j' x' a b => have := ih _ a; cases this
  | more _ _ _ g1' j' x' _ a b => have := ih _ a; cases this
  | wbad _ _ _ j' a => have := ih _ a; cases this; rfl
 | nil d g i e =>
  intro q' h'
  cases h' with
  | nil => rfl
  | cons _ _ _ _ _ _ _ a => exact absurd e a
  | pbad _ _ _ _ a => exact absurd e a
 | cons d g i g1 j x q e _ _ ih ih2 =>
  intro q' h'
  cases h' with
  | nil _ _ _ a => exact absurd a e
  | cons _ _ _ _ _ _ _ a b c => have := ih _ b; injection this with t u; cases t; cases u; rw [ih2 _ c]
  | pbad _ _ _ _ a b => have := ih _ b; cases this
 | pbad d g i j e _ ih =>
  intro q' h'
  cases h' with
  | nil _ _ _ a => exact absurd a e
  | cons _ _ _ _ _ _ _ a b c => have := ih _ b; cases this
  | pbad _ _ _ _ a b => have := ih _ b; cases this; rfl
 | rep d g i g1 j x q _ r ih =>
  intro q' h'
  cases h' with
  | rep _ _ _ _ _ _ _ a b => have := ih _ a; injection this with t u; cases t; cases u; rw [r.det b]
  | sbad _ _ _ _ a => have := ih _ a; cases this
 | sbad d g i j _ ih =>
  intro q' h'
  cases h' with
  | rep _ _ _ _ _ _ _ a b => have := ih _ a; cases this
  | sbad _ _ _ _ a => have := ih _ a; cases this; rfl
 | deep d g i e o =>
  intro q' h'
  cases h' with
  | deep => rfl
  | grp _ _ _ _ _ _ _ a => exact absurd o a
  | gopen _ _ _ _ _ _ _ a => exact absurd o a
  | gbad _ _ _ _ _ a => exact absurd o a
  | set _ _ _ _ a => omega
  | dot _ _ _ a => omega
  | esc _ _ _ a => omega
  | no => rfl
  | lit _ _ _ _ a => omega
 | grp d g i g1 j x e o _ c ih =>
  intro q' h'
  cases h' with
  | deep _ _ _ _ a => exact absurd a o
  | grp _ _ _ _ _ _ _ _ a b => have := ih _ a; injection this with t u; cases t; cases u; rfl
  | gopen _ _ _ _ _ _ _ _ a b => have := ih _ a; injection this with t u; cases t; cases u; exact absurd c b
  | gbad _ _ _ _ _ _ a => have := ih _ a; cases this
  | set _ _ _ _ a => omega
  | dot _ _ _ a => omega
  | esc _ _ _ a => omega
  | no _ _ _ a => unfold notC at a; omega
  | lit _ _ _ _ a => omega
 | gopen d g i g1 j x e o _ c ih =>
  intro q' h'
  cases h' with
  | deep _ _ _ _ a => exact absurd a o
  | grp _ _ _ _ _ _ _ _ a b => have := ih _ a; injection this with t u; cases t; cases u; exact absurd b c
  | gopen _ _ _ _ _ _ _ _ a b => have := ih _ a; injection this with t u; cases t; cases u; rfl
  | gbad _ _ _ _ _ _ a => have := ih _ a; cases this
  | set _ _ _ _ a => omega
  | dot _ _ _ a => omega
  | esc _ _ _ a => omega
  | no _ _ _ a => unfold notC at a; omega
  | lit _ _ _ _ a => omega
 | gbad d g i j e o _ ih =>
  intro q' h'
  cases h' with
  | deep _ _ _ _ a => exact absurd a o
  | grp _ _ _ _ _ _ _ _ a b => have := ih _ a; cases this
  | gopen _ _ _ _ _ _ _ _ a b => have := ih _ a; cases this
  | gbad _ _ _ _ _ _ a => have := ih _ a; cases this; rfl
  | set _ _ _ _ a => omega
  | dot _ _ _ a => omega
  | esc _ _ _ a => omega
  | no _ _ _ a => unfold notC at a; omega
  | lit _ _ _ _ a => omega
 | set d g i q e r =>
  intro q' h'
  cases h' with
  | deep _ _ _ a => omega
  | grp _ _ _ _ _ _ a => omega
  | gopen _ _ _ _ _ _ a => omega
  | gbad _ _ _ _ a => omega
  | set _ _ _ _ a b => rw [r.det b]
  | dot _ _ _ a => omega
  | esc _ _ _ a => omega
  | no _ _ _ a => unfold notC at a; omega
  | lit _ _ _ _ a b => omega
 | dot d g i e =>
  intro q' h'
  cases h' with
  | deep _ _ _ a => omega
  | grp _ _ _ _ _ _ a => omega
  | gopen _ _ _ _ _ _ a => omega
  | gbad _ _ _ _ a => omega
  | set _ _ _ _ a b => omega
  | dot _ _ _ a => rfl
  | esc _ _ _ a => omega
  | no _ _ _ a => unfold notC at a; omega
  | lit _ _ _ _ a b c => omega
 | esc d g i e =>
  intro q' h'
  cases h' with
  | deep _ _ _ a => omega
  | grp _ _ _ _ _ _ a => omega
  | gopen _ _ _ _ _ _ a => omega
  | gbad _ _ _ _ a => omega
  | set _ _ _ _ a b => omega
  | dot _ _ _ a => omega
  | esc _ _ _ a => rfl
  | no _ _ _ a => unfold notC at a; omega
  | lit _ _ _ _ a b c d => omega
 | no d g i e =>
  intro q' h'
  unfold notC at e
  cases h' with
  | deep => rfl
  | grp _ _ _ _ _ _ a => omega
  | gopen _ _ _ _ _ _ a => omega
  | gbad _ _ _ _ a => omega
  | set _ _ _ _ a b => omega
  | dot _ _ _ a => omega
  | esc _ _ _ a => omega
  | no _ _ _ a => rfl
  | lit _ _ _ _ a b c d f => exact absurd e f
 | lit d g i a b c d' e f =>
  intro q' h'
  cases h' with
  | deep _ _ _ a => omega
  | grp _ _ _ _ _ _ a => omega
  | gopen _ _ _ _ _ _ a => omega
  | gbad _ _ _ _ a => omega
  | set _ _ _ _ a b => omega
  | dot _ _ _ a => omega
  | esc _ _ _ a => omega
  | no _ _ _ a => exact absurd a f
  | lit => rfl
end Go.Proofs.YtnfojonmohijpabGreatDoor
namespace Go.Proofs.YtnfojonmohijpabGreatDoor
structure Whole where
 bg : Bool
 en : Bool
 x : Pat
 g : Nat
def wi (s : ByteArray) : Nat := if at' s 0 = 94 then 1 else 0
def PatE (s : ByteArray) : R (Pat × Nat) → R Whole
 | .bad j => .bad j
 | .ok (x, g) j => if 0 ≤ at' s (if at' s j = 36 then j + 1 else j) then .bad (if at' s j = 36 then j + 1 else j) else .ok ⟨decide (at' s 0 = 94), decide (at' s j = 36), x, g⟩ (if at' s j = 36 then j + 1 else j)
theorem PatE_ok (s : ByteArray) (x : Pat) (g j : Nat) : PatE s (.ok (x, g) j) = if 0 ≤ at' s (if at' s j = 36 then j + 1 else j) then .bad (if at' s j = 36 then j + 1 else j) else .ok ⟨decide (at' s 0 = 94), decide (at' s j = 36), x, g⟩ (if at' s j = 36 then j + 1 else j) := rfl
def PatR (s : ByteArray) (q : R Whole) : Prop := ∃ qw, G s .ways 0 0 (wi s) qw ∧ q = PatE s qw
theorem PatR.det {s : ByteArray} {q q' : R Whole} (h : PatR s q) (h' : PatR s q') : q = q' := by
 obtain ⟨a, h, rfl⟩ := h
 obtain ⟨b, h', rfl⟩ := h'
 rw [h.det b h']
end Go.Proofs.YtnfojonmohijpabGreatDoor
namespace Go.Proofs.YtnfojonmohijpabGreatDoor
def hexs : List UInt8 := [48, 49, 50, 51, 52, 53, 54, 55, 56, 57, 97, 98, 99, 100, 101, 102]
def oneT (b : Nat) : List UInt8 := if alnB b then [UInt8.ofNat b] else [92, 120, hexs.getD (b / 16) 0, hexs.getD (b % 16) 0]
def runE (f : Nat → Bool) : Nat → Nat → Nat
 | 0, m => m
 | n + 1, m => if m < 255 ∧ f (m + 1) = true then runE f n (m + 1) else m
def runEnd (f : Nat → Bool) (m : Nat) : Nat := runE f 255 m
def outAt (f : Nat → Bool) (m : Nat) : List UInt8 :=
 if f m = true ∧ (m = 0 ∨ f (m - 1) = false) then oneT m ++ (if m < runEnd f m then [45] ++ oneT (runEnd f m) else []) else []
def outTo (f : Nat → Bool) : Nat → List UInt8
 | 0 => []
 | m + 1 => outTo f m ++ outAt f m
def cntTo (f : Nat → Bool) : Nat → Nat
 | 0 => 0
 | m + 1 => cntTo f m + (if f m then 1 else 0)
def setT (f : Nat → Bool) : List UInt8 :=
 if cntTo f 256 = 0 then [91, 94, 92, 120, 48, 48, 45, 92, 120, 102, 102, 93]
 else if cntTo f 256 = 1 then outTo f 256
 else if cntTo f 256 = 256 then [46]
 else [91] ++ outTo f 256 ++ [93]
def digT (n : Nat) : List UInt8 := [UInt8.ofNat (48 + n)]
def repT (mn : Nat) (mx : Int) : List UInt8 :=
 if mx < 0 ∧ mn = 0 then [42] else if mx < 0 ∧ mn = 1 then [43] else if mx < 0 then [123] ++ digT mn ++ [44, 125]
 else if mx = 1 ∧ mn = 0 then [63] else if mx = (mn : Int) then [123] ++ digT mn ++ [125] else [123] ++ digT mn ++ [44] ++ digT mx.toNat ++ [125]
def patT : Pat → List UInt8
 | .set f => setT f
 | .grp _ x => [40] ++ patT x ++ [41]
 | .rep mn mx x => patT x ++ repT mn mx
 | .pnil => []
 | .pcons x r => patT x ++ patT r
 | .wone x => patT x
 | .wcons x r => patT x ++ ([124] ++ patT r)
def Pat.sz : Pat → Nat
 | .set _ => 1
 | .grp _ x => 1 + x.sz
 | .rep _ _ x => 1 + x.sz
 | .pnil => 1
 | .pcons x r => 1 + x.sz + r.sz
 | .wone x => 1 + x.sz
 | .wcons x r => 1 + x.sz + r.sz
end Go.Proofs.YtnfojonmohijpabGreatDoor
namespace Go.Proofs.YtnfojonmohijpabGreatDoor
def It (R : Nat → Nat → Prop) : Nat → Nat → Nat → Prop
 | 0, i, j => i = j
 | n + 1, i, j => ∃ m, R i m ∧ It R n m j
def Tm (R : Nat → Nat → Prop) (mn : Nat) (mx : Int) (i j : Nat) : Prop := ∃ n, mn ≤ n ∧ (mx < 0 ∨ (n : Int) ≤ mx) ∧ It R n i j
def Mt (s : ByteArray) : Pat → Nat → Nat → Prop
 | .set f => fun i j => i < s.size ∧ f (at' s i).toNat = true ∧ j = i + 1
 | .grp _ x => Mt s x
 | .rep mn mx x => Tm (Mt s x) mn mx
 | .pnil => fun i j => i = j
 | .pcons x r => fun i j => ∃ m, Mt s x i m ∧ Mt s r m j
 | .wone x => Mt s x
 | .wcons x r => fun i j => Mt s x i j ∨ Mt s r i j
theorem It.mono {R : Nat → Nat → Prop} (h : ∀ i j, R i j → i ≤ j) : ∀ {n i j : Nat}, It R n i j → i ≤ j
 | 0, _, _, e => Nat.le_of_eq e
 | _ + 1, i, _, ⟨m, a, b⟩ => Nat.le_trans (h i m a) (It.mono h b)
theorem It.inn {R : Nat → Nat → Prop} {L : Nat} (h : ∀ i j, R i j → i ≤ L → j ≤ L) : ∀ {n i j : Nat}, It R n i j → i ≤ L → j ≤ L
 | 0, _, _, e, hi => by cases e; exact hi
 | _ + 1, i, _, ⟨m, a, b⟩, hi => It.inn h b (h i m a hi)
theorem Mt.le {s : ByteArray} : ∀ {x : Pat} {i j : Nat}, Mt s x i j → i ≤ j
 | .set _, _, _, h => by have := h.2.2; omega
 | .grp _ x, _, _, h => Mt.le (x := x) h
 | .rep _ _ x, _, _, ⟨_, _, _, h⟩ => It.mono (fun _ _ => Mt.le (x := x)) h
 | .pnil, _, _, h => Nat.le_of_eq h
 | .pcons x r, _, _, ⟨_, a, b⟩ => Nat.le_trans (Mt.le (x := x) a) (Mt.le (x := r) b)
 | .wone x, _, _, h => Mt.le (x := x) h
 | .wcons x r, _, _, h => h.elim (Mt.le (x := x)) (Mt.le (x := r))
theorem Mt.inn {s : ByteArray} : ∀ {x : Pat} {i j : Nat}, Mt s x i j → i ≤ s.size → j ≤ s.size
 | .set _, _, _, h, _ => by have := h.1; have := h.2.2; omega
 | .grp _ x, _, _, h, hi => Mt.inn (x := x) h hi
 | .rep _ _ x, _, _, ⟨_, _, _, h⟩, hi => It.inn (fun _ _ => Mt.inn (x := x)) h hi
 | .pnil, _, _, h, hi => by cases h; exact hi
 | .pcons x r, _, _, ⟨_, a, b⟩, hi => Mt.inn (x := r) b (Mt.inn (x := x) a hi)
 | .wone x, _, _, h, hi => Mt.inn (x := x) h hi
 | .wcons x r, _, _, h, hi => h.elim (fun h => Mt.inn (x := x) h hi) (fun h => Mt.inn (x := r) h hi)
def Cut (P : Nat → Prop) (i j c : Nat) : Prop := i ≤ c ∧ c ≤ j ∧ (i < c → P c) ∧ ∀ m, c < m → m ≤ j → ¬ P m
theorem Cut.one {P : Nat → Prop} {i j c d : Nat} (h : Cut P i j c) (k : Cut P i j d) : c = d := by
 rcases Nat.lt_trichotomy c d with e | e | e
 ·exact absurd (k.2.2.1 (by have := h.1; omega)) (h.2.2.2 d e k.2.1)
 ·exact e
 ·exact absurd (h.2.2.1 (by have := k.1; omega)) (k.2.2.2 c e h.2.1)
def less (mx : Int) : Int := if 0 < mx then mx - 1 else mx
def hexT (b : Nat) : List UInt8 := [hexs.getD (b / 16) 0, hexs.getD (b % 16) 0]
def decT (n : Nat) : List UInt8 := if n < 10 then digT n else digT (n / 10) ++ digT (n % 10)
inductive Job where
 | node (x : Pat)
 | kids (r : Pat)
 | times (mn : Nat) (mx : Int) (x : Pat)
 | alts (p : Nat) (r : Pat)
inductive TR (s : ByteArray) : Job → Nat → Nat → List UInt8 → List (Nat × Nat × Nat) → Prop
 | byte (f : Nat → Bool) (i j : Nat) : TR s (.node (.set f)) i j ([98] ++ hexT (at' s i).toNat) []
 | grp (k : Nat) (x : Pat) (i j : Nat) (t : List UInt8) (ev : List (Nat × Nat × Nat)) : TR s (.node x) i j t ev → TR s (.node (.grp k x)) i j ([40, 103] ++ digT k ++ [32] ++ t ++ [41]) ((k, i, j) :: ev)
 | nil (i j : Nat) : TR s (.node .pnil) i j [101] []
 | lone (x : Pat) (i j : Nat) (t : List UInt8) (ev : List (Nat × Nat × Nat)) : TR s (.node x) i j t ev → TR s (.node (.pcons x .pnil)) i j t ev
 | row (x y r : Pat) (i j : Nat) (t : List UInt8) (ev : List (Nat × Nat × Nat)) : TR s (.kids (.pcons x (.pcons y r))) i j t ev → TR s (.node (.pcons x (.pcons y r))) i j ([40, 115] ++ t ++ [41]) ev
 | kend (i j : Nat) : TR s (.kids .pnil) i j [] []
 | kgo (x r : Pat) (i j c : Nat) (t u : List UInt8) (ev fv : List (Nat × Nat × Nat)) : Cut (fun m => Mt s x i m ∧ Mt s r m j) i j c → TR s (.node x) i c t ev → TR s (.kids r) c j u fv → TR s (.kids (.pcons x r)) i j ([32] ++ t ++ u) (ev ++ fv)
 | rep (mn : Nat) (mx : Int) (x : Pat) (i j : Nat) (t : List UInt8) (ev : List (Nat × Nat × Nat)) : TR s (.times mn mx x) i j t ev → TR s (.node (.rep mn mx x)) i j ([40, 114] ++ t ++ [41]) ev
 | tend (mn : Nat) (mx : Int) (x : Pat) (i j : Nat) : ¬ (i < j ∨ 0 < mn) → TR s (.times mn mx x) i j [] []
 | tgo (mn : Nat) (mx : Int) (x : Pat) (i j c : Nat) (t u : List UInt8) (ev fv : List (Nat × Nat × Nat)) : (i < j ∨ 0 < mn) → Cut (fun m => Mt s x i m ∧ Tm (Mt s x) (mn - 1) (less mx) m j) i j c → TR s (.node x) i c t ev → TR s (.times (mn - 1) (less mx) x) c j u fv → TR s (.times mn mx x) i j ([32] ++ t ++ u) (ev ++ fv)
 | wone (x : Pat) (i j : Nat) (t : List UInt8) (ev : List (Nat × Nat × Nat)) : TR s (.node x) i j t ev → TR s (.node (.wone x)) i j t ev
 | wcons (x r : Pat) (i j : Nat) (t : List UInt8) (ev : List (Nat × Nat × Nat)) : TR s (.alts 0 (.wcons x r)) i j t ev → TR s (.node (.wcons x r)) i j t ev
 | hit (p : Nat) (x r : Pat) (i j : Nat) (t : List UInt8) (ev : List (Nat × Nat × Nat)) : Mt s x i j → TR s (.node x) i j t ev → TR s (.alts p (.wcons x r)) i j ([40, 97] ++ decT p ++ [32] ++ t ++ [41]) ev
 | miss (p : Nat) (x r : Pat) (i j : Nat) (t : List UInt8) (ev : List (Nat × Nat × Nat)) : ¬ Mt s x i j → TR s (.alts (p + 1) r) i j t ev → TR s (.alts p (.wcons x r)) i j t ev
 | last (p : Nat) (x : Pat) (i j : Nat) (t : List UInt8) (ev : List (Nat × Nat × Nat)) : TR s (.node x) i j t ev → TR s (.alts p (.wone x)) i j ([40, 97] ++ decT p ++ [32] ++ t ++ [41]) ev
theorem TR.det {s : ByteArray} {k : Job} {i j : Nat} {t : List UInt8} {ev : List (Nat × Nat × Nat)} (h : TR s k i j t ev) : ∀ u fv, TR s k i j u fv → t = u ∧ ev = fv := by
 induction h with
 | byte => intro u fv h; cases h; exact ⟨rfl, rfl⟩
 | grp k x i j t ev _ ih => intro u fv h; cases h with | grp _ _ _ _ t' ev' h' => obtain ⟨rfl, rfl⟩ := ih t' ev' h'; exact ⟨rfl, rfl⟩
 | nil => intro u fv h; cases h; exact ⟨rfl, rfl⟩
 | lone x i j t ev _ ih => intro u fv h; cases h with | lone _ _ _ _ _ h' => exact ih u fv h'
 | row x y r i j t ev _ ih => intro u fv h; cases h with | row _ _ _ _ _ t' _ h' => obtain ⟨rfl, rfl⟩ := ih t' fv h'; exact ⟨rfl, rfl⟩
 | kend => intro u fv h; cases h; exact ⟨rfl, rfl⟩
 | kgo x r i j c t u ev fv hc _ _ ih1 ih2 =>
  intro v gv h
  cases h with
  | kgo _ _ _ _ c' t' u' ev' fv' hc' h1 h2 =>
   obtain rfl := hc.one hc'
   obtain ⟨rfl, rfl⟩ := ih1 t' ev' h1
   obtain ⟨rfl, rfl⟩ := ih2 u' fv' h2
   exact ⟨rfl, rfl⟩
 | rep mn mx x i j t ev _ ih => intro u fv h; cases h with | rep _ _ _ _ _ t' _ h' => obtain ⟨rfl, rfl⟩ := ih t' fv h'; exact ⟨rfl, rfl⟩
 | tend mn mx x i j hn => intro u fv h; cases h with
  | tend => exact ⟨rfl, rfl⟩
  | tgo _ _ _ _ _ _ _ _ _ _ hg => exact absurd hg hn
 | tgo mn mx x i j c t u ev fv hg hc _ _ ih1 ih2 =>
  intro v gv h
  cases h with
  | tend _ _ _ _ _ hn => exact absurd hg hn
  | tgo _ _ _ _ _ c' t' u' ev' fv' _ hc' h1 h2 =>
   obtain rfl := hc.one hc'
   obtain ⟨rfl, rfl⟩ := ih1 t' ev' h1
   obtain ⟨rfl, rfl⟩ := ih2 u' fv' h2
   exact ⟨rfl, rfl⟩
 | wone x i j t ev _ ih => intro u fv h; cases h with | wone _ _ _ _ _ h' => exact ih u fv h'
 | wcons x r i j t ev _ ih => intro u fv h; cases h with | wcons _ _ _ _ _ _ h' => exact ih u fv h'
 | hit p x r i j t ev hm _ ih => intro u fv h; cases h with
  | hit _ _ _ _ _ t' _ _ h' => obtain ⟨rfl, rfl⟩ := ih t' fv h'; exact ⟨rfl, rfl⟩
  | miss _ _ _ _ _ _ _ hn => exact absurd hm hn
 | miss p x r i j t ev hn _ ih => intro u fv h; cases h with
  | hit _ _ _ _ _ _ _ hm => exact absurd hm hn
  | miss _ _ _ _ _ _ _ _ h' => exact ih u fv h'
 | last p x i j t ev _ ih => intro u fv h; cases h with | last _ _ _ _ t' _ h' => obtain ⟨rfl, rfl⟩ := ih t' fv h'; exact ⟨rfl, rfl⟩
end Go.Proofs.YtnfojonmohijpabGreatDoor
namespace Go.Proofs.YtnfojonmohijpabGreatDoor
inductive Part where
 | byte (u : UInt8)
 | grp (g : Nat)
def partF (s : ByteArray) (gs i : Nat) : Option (Part × Nat) :=
 if at' s i = 92 then
  if at' s (i + 1) = 110 then some (.byte 10, i + 2)
  else if at' s (i + 1) = 92 then some (.byte 92, i + 2)
  else if 48 ≤ at' s (i + 1) ∧ at' s (i + 1) ≤ 57 ∧ at' s (i + 1) - 48 ≤ (gs : Int) then some (.grp (at' s (i + 1) - 48).toNat, i + 2)
  else none
 else some (.byte (UInt8.ofNat (at' s i).toNat), i + 1)
inductive TplA (s : ByteArray) (gs : Nat) : Nat → Option (List Part) → Prop
 | fin (i : Nat) : s.size ≤ i → TplA s gs i (some [])
 | bad (i : Nat) : i < s.size → partF s gs i = none → TplA s gs i none
 | go (i k : Nat) (p : Part) (q : Option (List Part)) : i < s.size → partF s gs i = some (p, k) → TplA s gs k q → TplA s gs i (q.map (p :: ·))
theorem TplA.det {s : ByteArray} {gs i : Nat} {q : Option (List Part)} (h : TplA s gs i q) : ∀ {q' : Option (List Part)}, TplA s gs i q' → q = q' := by
 induction h with
 | fin i h =>
  intro q' k
  cases k with
  | fin => rfl
  | bad _ k => omega
  | go _ _ _ _ k => omega
 | bad i h1 h2 =>
  intro q' k
  cases k with
  | fin _ k => omega
  | bad => rfl
  | go _ _ _ _ _ k => rw [h2] at k; cases k
 | go i k p q h1 h2 _ ih =>
  intro q' k
  cases k with
  | fin _ k => omega
  | bad _ _ k => rw [h2] at k; cases k
  | go _ k' p' q' _ h3 h4 =>
   rw [h2] at h3
   cases h3
   rw [ih h4]
theorem partF_le {s : ByteArray} {gs i k : Nat} {p : Part} (h : partF s gs i = some (p, k)) (hi : i < s.size) : i < k ∧ k ≤ s.size ∧ ∀ g, p = .grp g → g ≤ gs ∧ g ≤ 9 := by
 unfold partF at h
 split at h
 ·split at h
  ·rename_i h2
   cases h
   have := at'_nn (s := s) (i := i + 1) (by omega)
   exact ⟨by omega, by omega, fun g e => by cases e⟩
  ·split at h
   ·cases h
    have := at'_nn (s := s) (i := i + 1) (by omega)
    exact ⟨by omega, by omega, fun g e => by cases e⟩
   ·split at h
    ·cases h
     have := at'_nn (s := s) (i := i + 1) (by omega)
     exact ⟨by omega, by omega, fun g e => by cases e; omega⟩
    ·cases h
 ·cases h
  exact ⟨by omega, by omega, fun g e => by cases e⟩
def cutL (line : ByteArray) (b e : Int) : List UInt8 := (line.extract b.toNat e.toNat).data.toList
def Part.fill (line : ByteArray) (sp : List Int) : Part → List UInt8
 | .byte u => [u]
 | .grp g => if 0 ≤ sp.getD (2 * g) (-1) then cutL line (sp.getD (2 * g) (-1)) (sp.getD (2 * g + 1) (-1)) else []
def fillP (ps : List Part) (line : ByteArray) (sp : List Int) : List UInt8 := ps.flatMap (·.fill line sp)
end Go.Proofs.YtnfojonmohijpabGreatDoor
namespace Go.Proofs.YtnfojonmohijpabGreatDoor
structure Cmd where
 c : Bool
 i : Bool
 n : Bool
 o : Bool
 v : Bool
 x : Bool
 tp : ByteArray
def Cmd.add (k : Cmd) (u : Int) : Option Cmd :=
 if u = 99 then some { k with c := true } else if u = 105 then some { k with i := true } else if u = 110 then some { k with n := true }
 else if u = 111 then some { k with o := true } else if u = 118 then some { k with v := true } else if u = 120 then some { k with x := true } else none
def letF (a : ByteArray) (k : Cmd) : Nat → Nat → Option Cmd
 | 0, _ => some k
 | f + 1, j => match k.add (at' a j) with
  | none => none
  | some k' => letF a k' f (j + 1)
def ddS : ByteArray := ⟨#[45, 45]⟩
def dtS : ByteArray := ⟨#[45, 116]⟩
def isOpt (a : ByteArray) : Prop := 1 < a.size ∧ at' a 0 = 45
instance (a : ByteArray) : Decidable (isOpt a) := by unfold isOpt; infer_instance
def oneF (k : Cmd) : List ByteArray → Option (Cmd × ByteArray)
 | [p] => some (k, p)
 | _ => none
inductive OptA : List ByteArray → Cmd → Option (Cmd × ByteArray) → Prop
 | left (l : List ByteArray) (k : Cmd) : (∀ a r, l = a :: r → ¬ isOpt a) → OptA l k (oneF k l)
 | dd (r : List ByteArray) (k : Cmd) : OptA (ddS :: r) k (oneF k r)
 | dt0 (k : Cmd) : OptA [dtS] k none
 | dt (t : ByteArray) (r : List ByteArray) (k : Cmd) (q : Option (Cmd × ByteArray)) : OptA r { k with o := true, tp := t } q → OptA (dtS :: t :: r) k q
 | bad (a : ByteArray) (r : List ByteArray) (k : Cmd) : isOpt a → a ≠ ddS → a ≠ dtS → letF a k (a.size - 1) 1 = none → OptA (a :: r) k none
 | let' (a : ByteArray) (r : List ByteArray) (k k' : Cmd) (q : Option (Cmd × ByteArray)) : isOpt a → a ≠ ddS → a ≠ dtS → letF a k (a.size - 1) 1 = some k' → OptA r k' q → OptA (a :: r) k q
theorem dd_opt : isOpt ddS := by decide
theorem dt_opt : isOpt dtS := by decide
theorem OptA.det {l : List ByteArray} {k : Cmd} {q : Option (Cmd × ByteArray)} (h : OptA l k q) : ∀ {q' : Option (Cmd × ByteArray)}, OptA l k q' → q = q' := by
 induction h with
 | left l k h =>
  intro q' e
  cases e with
  | left => rfl
  | dd => exact absurd dd_opt (h _ _ rfl)
  | dt0 => exact absurd dt_opt (h _ _ rfl)
  | dt => exact absurd dt_opt (h _ _ rfl)
  | bad a r _ ho => exact absurd ho (h _ _ rfl)
  | let' a r _ _ _ ho => exact absurd ho (h _ _ rfl)
 | dd r k =>
  intro q' e
  cases e with
  | left _ _ h => exact absurd dd_opt (h _ _ rfl)
  | dd => rfl
  | bad _ _ _ _ h => exact absurd rfl h
  | let' _ _ _ _ _ _ h => exact absurd rfl h
 | dt0 k =>
  intro q' e
  cases e with
  | left _ _ h => exact absurd dt_opt (h _ _ rfl)
  | dt0 => rfl
  | bad _ _ _ _ _ h => exact absurd rfl h
  | let' _ _ _ _ _ _ _ h => exact absurd rfl h
 | dt t r k q _ ih =>
  intro q' e
  cases e with
  | left _ _ h => exact absurd dt_opt (h _ _ rfl)
  | dt _ _ _ _ h => exact ih h
  | bad _ _ _ _ _ h => exact absurd rfl h
  | let' _ _ _ _ _ _ _ h => exact absurd rfl h
 | bad a r k ho h1 h2 h3 =>
  intro q' e
  cases e with
  | left _ _ h => exact absurd ho (h _ _ rfl)
  | dd => exact absurd rfl h1
  | dt0 => exact absurd rfl h2
  | dt => exact absurd rfl h2
  | bad => rfl
  | let' _ _ _ _ _ _ _ _ h => rw [h3] at h; cases h
 | let' a r k k' q ho h1 h2 h3 _ ih =>
  intro q' e
  cases e with
  | left _ _ h => exact absurd ho (h _ _ rfl)
  | dd => exact absurd rfl h1
  | dt0 => exact absurd rfl h2
  | dt => exact absurd rfl h2
  | bad _ _ _ _ _ _ h => rw [h3] at h; cases h
  | let' _ _ _ _ _ _ _ _ h h' =>
   rw [h3] at h
   cases h
   exact ih h'
end Go.Proofs.YtnfojonmohijpabGreatDoor
