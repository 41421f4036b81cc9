/-
  DERIVED. Plain mathematics: the document's grammar of patterns as one relation on bytes (what is read, from where, and how it ends), and that it is a function. Nothing of the program stands here.
-/
import Derived.Test.YtnfojonmohijpaaGreatDoorJPC
set_option linter.unusedSimpArgs false
set_option linter.unusedVariables false
namespace Go.Proofs.YtnfojonmohijpaaGreatDoor
inductive Pat where
 | set (f : Nat → Bool)
 | grp (k : Nat) (x : Pat)
 | rep (mn : Nat) (mx : Int) (x : Pat)
 | pnil
 | pcons (x r : Pat)
 | wone (x : Pat)
 | wcons (x r : Pat)
def Rep3 (s : ByteArray) (m : Nat) (q2 : R Nat) (q : R (Option (Nat × Int))) : Prop :=
 match q2 with
 | .bad l => q = .bad l
 | .ok n l => q = if at' s l = 125 then .ok (some (m, (n : Int))) (l + 1) else .bad l
def Rep2 (s : ByteArray) (q1 : R Nat) (q : R (Option (Nat × Int))) : Prop :=
 match q1 with
 | .bad k => q = .bad k
 | .ok m k => (at' s k = 44 ∧ at' s (k + 1) = 125 ∧ q = .ok (some (m, -1)) (k + 2)) ∨ (at' s k = 44 ∧ at' s (k + 1) ≠ 125 ∧ ∃ q2, NumL s m 0 false (k + 1) q2 ∧ Rep3 s m q2 q) ∨
     (at' s k ≠ 44 ∧ q = if at' s k = 125 then .ok (some (m, (m : Int))) (k + 1) else .bad k)
def RepR (s : ByteArray) (j : Nat) (q : R (Option (Nat × Int))) : Prop :=
 (at' s j ≠ 42 ∧ at' s j ≠ 43 ∧ at' s j ≠ 63 ∧ at' s j ≠ 123 ∧ q = .ok none j) ∨ (at' s j = 42 ∧ q = .ok (some (0, -1)) (j + 1)) ∨ (at' s j = 43 ∧ q = .ok (some (1, -1)) (j + 1)) ∨
 (at' s j = 63 ∧ q = .ok (some (0, 1)) (j + 1)) ∨ (at' s j = 123 ∧ ∃ q1, NumL s 0 0 false (j + 1) q1 ∧ Rep2 s q1 q)
theorem Rep3.det {s : ByteArray} {m : Nat} {q2 : R Nat} {q q' : R (Option (Nat × Int))} (h : Rep3 s m q2 q) (h' : Rep3 s m q2 q') : q = q' := by
 cases q2 <;> exact h.trans h'.symm
theorem Rep2.det {s : ByteArray} {q1 : R Nat} {q q' : R (Option (Nat × Int))} (h : Rep2 s q1 q) (h' : Rep2 s q1 q') : q = q' := by
 cases q1 with
 | bad k => exact h.trans h'.symm
 | ok m k =>
  rcases h with ⟨a, b, e⟩ | ⟨a, b, q2, n, e⟩ | ⟨a, e⟩ <;> rcases h' with ⟨a', b', e'⟩ | ⟨a', b', q2', n', e'⟩ | ⟨a', e'⟩
  ·exact e.trans e'.symm
  ·exact absurd b b'
  ·exact absurd a a'
  ·exact absurd b' b
  ·have := n.det n'
   subst this
   exact e.det e'
  ·exact absurd a a'
  ·exact absurd a' a
  ·exact absurd a' a
  ·exact e.trans e'.symm
theorem RepR.det {s : ByteArray} {j : Nat} {q q' : R (Option (Nat × Int))} (h : RepR s j q) (h' : RepR s j q') : q = q' := by
 rcases h with ⟨a, b, c, d, e⟩ | ⟨a, e⟩ | ⟨a, e⟩ | ⟨a, e⟩ | ⟨a, q1, n, e⟩ <;> rcases h' with ⟨a', b', c', d', e'⟩ | ⟨a', e'⟩ | ⟨a', e'⟩ | ⟨a', e'⟩ | ⟨a', q1', n', e'⟩
 all_goals first
  | exact e.trans e'.symm
  | (exfalso; omega)
  | skip
 have := n.det n'
 subst this
 exact e.det e'
theorem RepR.ok {s : ByteArray} {j k : Nat} {o : Option (Nat × Int)} (h : RepR s j (.ok o k)) : j ≤ k ∧ (j ≤ s.size → k ≤ s.size) := by
 have A : ∀ i, 0 ≤ at' s i → i < s.size := fun i hi => at'_nn hi
 rcases h with ⟨a, b, c, d, e⟩ | ⟨a, e⟩ | ⟨a, e⟩ | ⟨a, e⟩ | ⟨a, q1, n, e⟩
 ·cases e; simp
 ·cases e; have := A j (by omega); omega
 ·cases e; have := A j (by omega); omega
 ·cases e; have := A j (by omega); omega
 ·have hj := A j (by omega)
  cases q1 with
  | bad l => cases e
  | ok m l =>
   have hl := n.ok m l rfl
   rcases e with ⟨a, b, e⟩ | ⟨a, b, q2, n', e⟩ | ⟨a, e⟩
   ·cases e; have := A (l + 1) (by omega); omega
   ·cases q2 with
    | bad x => cases e
    | ok y x =>
     have hx := n'.ok y x rfl
     have hl2 := A l (by omega)
     simp only [Rep3] at e
     by_cases h5 : at' s x = 125
     ·rw [if_pos h5] at e; cases e; have := A x (by omega); omega
     ·rw [if_neg h5] at e; cases e
   ·by_cases h5 : at' s l = 125
    ·rw [if_pos h5] at e; cases e; have := A l (by omega); omega
    ·rw [if_neg h5] at e; cases e
inductive Kd where
 | ways | way | piece | single
def stopC (c : Int) : Prop := c < 0 ∨ c = 124 ∨ c = 41 ∨ c = 36
def notC (c : Int) : Prop := c = 94 ∨ c = 36 ∨ c = 124 ∨ c = 41 ∨ c = 42 ∨ c = 43 ∨ c = 63 ∨ c = 123
def withRep (x : Pat) : Option (Nat × Int) → Pat
 | none => x
 | some (mn, mx) => .rep mn mx x
inductive G (s : ByteArray) : Kd → Nat → Nat → Nat → R (Pat × Nat) → Prop
 | one (d g i g1 j : Nat) (x : Pat) : G s .way d g i (.ok (x, g1) j) → at' s j ≠ 124 → G s .ways d g i (.ok (.wone x, g1) j)
 | more (d g i g1 j : Nat) (x : Pat) (q : R (Pat × Nat)) : G s .way d g i (.ok (x, g1) j) → at' s j = 124 → G s .ways d g1 (j + 1) q → G s .ways d g i (q.map fun y => (.wcons x y.1, y.2))
 | wbad (d g i j : Nat) : G s .way d g i (.bad j) → G s .ways d g i (.bad j)
 | nil (d g i : Nat) : stopC (at' s i) → G s .way d g i (.ok (.pnil, g) i)
 | cons (d g i g1 j : Nat) (x : Pat) (q : R (Pat × Nat)) : ¬ stopC (at' s i) → G s .piece d g i (.ok (x, g1) j) → G s .way d g1 j q → G s .way d g i (q.map fun y => (.pcons x y.1, y.2))
 | pbad (d g i j : Nat) : ¬ stopC (at' s i) → G s .piece d g i (.bad j) → G s .way d g i (.bad j)
 | rep (d g i g1 j : Nat) (x : Pat) (q : R (Option (Nat × Int))) : G s .single d g i (.ok (x, g1) j) → RepR s j q → G s .piece d g i (q.map fun o => (withRep x o, g1))
 | sbad (d g i j : Nat) : G s .single d g i (.bad j) → G s .piece d g i (.bad j)
 | deep (d g i : Nat) : at' s i = 40 → (d = 6 ∨ g = 9) → G s .single d g i (.bad i)
 | grp (d g i g1 j : Nat) (x : Pat) : at' s i = 40 → ¬ (d = 6 ∨ g = 9) → G s .ways (d + 1) (g + 1) (i + 1) (.ok (x, g1) j) → at' s j = 41 → G s .single d g i (.ok (.grp (g + 1) x, g1) (j + 1))
 | gopen (d g i g1 j : Nat) (x : Pat) : at' s i = 40 → ¬ (d = 6 ∨ g = 9) → G s .ways (d + 1) (g + 1) (i + 1) (.ok (x, g1) j) → at' s j ≠ 41 → G s .single d g i (.bad j)
 | gbad (d g i j : Nat) : at' s i = 40 → ¬ (d = 6 ∨ g = 9) → G s .ways (d + 1) (g + 1) (i + 1) (.bad j) → G s .single d g i (.bad j)
 | set (d g i : Nat) (q : R (Nat → Bool)) : at' s i = 91 → SetR s (i + 1) q → G s .single d g i (q.map fun f => (.set f, g))
 | dot (d g i : Nat) : at' s i = 46 → G s .single d g i (.ok (.set fun _ => true, g) (i + 1))
 | esc (d g i : Nat) : at' s i = 92 → G s .single d g i ((escS s 0 (i + 1)).map fun a => (.set (stretch a a), g))
 | no (d g i : Nat) : notC (at' s i) → G s .single d g i (.bad i)
 | lit (d g i : Nat) : 0 ≤ at' s i → at' s i ≠ 40 → at' s i ≠ 91 → at' s i ≠ 46 → at' s i ≠ 92 → ¬ notC (at' s i) → G s .single d g i (.ok (.set (stretch (at' s i) (at' s i)), g) (i + 1))
theorem G.det {s : ByteArray} {k : Kd} {d g i : Nat} {q : R (Pat × Nat)} (h : G s k d g i q) : ∀ q', G s k d g i q' → q = q' := by
 induction h with
 | one d g i g1 j x _ e ih =>
  intro q' h'
  cases h' with
  | one _ _ _ g1' j' x' a b => have := ih _ a; injection this with t u; cases t; cases u; rfl
  | more _ _ _ g1' j' x' _ a b => have := ih _ a; injection this with t u; cases t; cases u; exact absurd b e
  | wbad _ _ _ j' a => have := ih _ a; cases this
 | more d g i g1 j x q _ e _ ih ih2 =>
  intro q' h'
  cases h' with
  | one _ _ _ g1' j' x' a b => have := ih _ a; injection this with t u; cases t; cases u; exact absurd e b
  | more _ _ _ g1' j' x' _ a b c => have := ih _ a; injection this with t u; cases t; cases u; rw [ih2 _ c]
  | wbad _ _ _ j' a => have := ih _ a; cases this
 | wbad d g i j _ ih =>
  intro q' h'
  cases h' with
  | one _ _ _ g1' j' x' a b => have := ih _ a; cases this
  | more _ _ _ g1' j' x' _ a b => have := ih _ a; cases this
  | wbad _ _ _ j' a => have := ih _ a; cases this; rfl
 | nil d g i e =>
  intro q' h'
  cases h' with
  | nil => rfl
  | cons _ _ _ _ _ _ _ a => exact absurd e a
  | pbad _ _ _ _ a => exact absurd e a
 | cons d g i g1 j x q e _ _ ih ih2 =>
  intro q' h'
  cases h' with
  | nil _ _ _ a => exact absurd a e
  | cons _ _ _ _ _ _ _ a b c => have := ih _ b; injection this with t u; cases t; cases u; rw [ih2 _ c]
  | pbad _ _ _ _ a b => have := ih _ b; cases this
 | pbad d g i j e _ ih =>
  intro q' h'
  cases h' with
  | nil _ _ _ a => exact absurd a e
  | cons _ _ _ _ _ _ _ a b c => have := ih _ b; cases this
  | pbad _ _ _ _ a b => have := ih _ b; cases this; rfl
 | rep d g i g1 j x q _ r ih =>
  intro q' h'
  cases h' with
  | rep _ _ _ _ _ _ _ a b => have := ih _ a; injection this with t u; cases t; cases u; rw [r.det b]
  | sbad _ _ _ _ a => have := ih _ a; cases this
 | sbad d g i j _ ih =>
  intro q' h'
  cases h' with
  | rep _ _ _ _ _ _ _ a b => have := ih _ a; cases this
  | sbad _ _ _ _ a => have := ih _ a; cases this; rfl
 | deep d g i e o =>
  intro q' h'
  cases h' with
  | deep => rfl
  | grp _ _ _ _ _ _ _ a => exact absurd o a
  | gopen _ _ _ _ _ _ _ a => exact absurd o a
  | gbad _ _ _ _ _ a => exact absurd o a
  | set _ _ _ _ a => omega
  | dot _ _ _ a => omega
  | esc _ _ _ a => omega
  | no => rfl
  | lit _ _ _ _ a => omega
 | grp d g i g1 j x e o _ c ih =>
  intro q' h'
  cases h' with
  | deep _ _ _ _ a => exact absurd a o
  | grp _ _ _ _ _ _ _ _ a b => have := ih _ a; injection this with t u; cases t; cases u; rfl
  | gopen _ _ _ _ _ _ _ _ a b => have := ih _ a; injection this with t u; cases t; cases u; exact absurd c b
  | gbad _ _ _ _ _ _ a => have := ih _ a; cases this
  | set _ _ _ _ a => omega
  | dot _ _ _ a => omega
  | esc _ _ _ a => omega
  | no _ _ _ a => unfold notC at a; omega
  | lit _ _ _ _ a => omega
 | gopen d g i g1 j x e o _ c ih =>
  intro q' h'
  cases h' with
  | deep _ _ _ _ a => exact absurd a o
  | grp _ _ _ _ _ _ _ _ a b => have := ih _ a; injection this with t u; cases t; cases u; exact absurd b c
  | gopen _ _ _ _ _ _ _ _ a b => have := ih _ a; injection this with t u; cases t; cases u; rfl
  | gbad _ _ _ _ _ _ a => have := ih _ a; cases this
  | set _ _ _ _ a => omega
  | dot _ _ _ a => omega
  | esc _ _ _ a => omega
  | no _ _ _ a => unfold notC at a; omega
  | lit _ _ _ _ a => omega
 | gbad d g i j e o _ ih =>
  intro q' h'
  cases h' with
  | deep _ _ _ _ a => exact absurd a o
  | grp _ _ _ _ _ _ _ _ a b => have := ih _ a; cases this
  | gopen _ _ _ _ _ _ _ _ a b => have := ih _ a; cases this
  | gbad _ _ _ _ _ _ a => have := ih _ a; cases this; rfl
  | set _ _ _ _ a => omega
  | dot _ _ _ a => omega
  | esc _ _ _ a => omega
  | no _ _ _ a => unfold notC at a; omega
  | lit _ _ _ _ a => omega
 | set d g i q e r =>
  intro q' h'
  cases h' with
  | deep _ _ _ a => omega
  | grp _ _ _ _ _ _ a => omega
  | gopen _ _ _ _ _ _ a => omega
  | gbad _ _ _ _ a => omega
  | set _ _ _ _ a b => rw [r.det b]
  | dot _ _ _ a => omega
  | esc _ _ _ a => omega
  | no _ _ _ a => unfold notC at a; omega
  | lit _ _ _ _ a b => omega
 | dot d g i e =>
  intro q' h'
  cases h' with
  | deep _ _ _ a => omega
  | grp _ _ _ _ _ _ a => omega
  | gopen _ _ _ _ _ _ a => omega
  | gbad _ _ _ _ a => omega
  | set _ _ _ _ a b => omega
  | dot _ _ _ a => rfl
  | esc _ _ _ a => omega
  | no _ _ _ a => unfold notC at a; omega
  | lit _ _ _ _ a b c => omega
 | esc d g i e =>
  intro q' h'
  cases h' with
  | deep _ _ _ a => omega
  | grp _ _ _ _ _ _ a => omega
  | gopen _ _ _ _ _ _ a => omega
  | gbad _ _ _ _ a => omega
  | set _ _ _ _ a b => omega
  | dot _ _ _ a => omega
  | esc _ _ _ a => rfl
  | no _ _ _ a => unfold notC at a; omega
  | lit _ _ _ _ a b c d => omega
 | no d g i e =>
  intro q' h'
  unfold notC at e
  cases h' with
  | deep => rfl
  | grp _ _ _ _ _ _ a => omega
  | gopen _ _ _ _ _ _ a => omega
  | gbad _ _ _ _ a => omega
  | set _ _ _ _ a b => omega
  | dot _ _ _ a => omega
  | esc _ _ _ a => omega
  | no _ _ _ a => rfl
  | lit _ _ _ _ a b c d f => exact absurd e f
 | lit d g i a b c d' e f =>
  intro q' h'
  cases h' with
  | deep _ _ _ a => omega
  | grp _ _ _ _ _ _ a => omega
  | gopen _ _ _ _ _ _ a => omega
  | gbad _ _ _ _ a => omega
  | set _ _ _ _ a b => omega
  | dot _ _ _ a => omega
  | esc _ _ _ a => omega
  | no _ _ _ a => exact absurd a f
  | lit => rfl
end Go.Proofs.YtnfojonmohijpaaGreatDoor
namespace Go.Proofs.YtnfojonmohijpaaGreatDoor
structure Whole where
 bg : Bool
 en : Bool
 x : Pat
 g : Nat
def wi (s : ByteArray) : Nat := if at' s 0 = 94 then 1 else 0
def PatE (s : ByteArray) : R (Pat × Nat) → R Whole
 | .bad j => .bad j
 | .ok (x, g) j => if 0 ≤ at' s (if at' s j = 36 then j + 1 else j) then .bad (if at' s j = 36 then j + 1 else j) else .ok ⟨decide (at' s 0 = 94), decide (at' s j = 36), x, g⟩ (if at' s j = 36 then j + 1 else j)
theorem PatE_ok (s : ByteArray) (x : Pat) (g j : Nat) : PatE s (.ok (x, g) j) = if 0 ≤ at' s (if at' s j = 36 then j + 1 else j) then .bad (if at' s j = 36 then j + 1 else j) else .ok ⟨decide (at' s 0 = 94), decide (at' s j = 36), x, g⟩ (if at' s j = 36 then j + 1 else j) := rfl
def PatR (s : ByteArray) (q : R Whole) : Prop := ∃ qw, G s .ways 0 0 (wi s) qw ∧ q = PatE s qw
theorem PatR.det {s : ByteArray} {q q' : R Whole} (h : PatR s q) (h' : PatR s q') : q = q' := by
 obtain ⟨a, h, rfl⟩ := h
 obtain ⟨b, h', rfl⟩ := h'
 rw [h.det b h']
end Go.Proofs.YtnfojonmohijpaaGreatDoor
namespace Go.Proofs.YtnfojonmohijpaaGreatDoor
def hexs : List UInt8 := [48, 49, 50, 51, 52, 53, 54, 55, 56, 57, 97, 98, 99, 100, 101, 102]
def oneT (b : Nat) : List UInt8 := if alnB b then [UInt8.ofNat b] else [92, 120, hexs.getD (b / 16) 0, hexs.getD (b % 16) 0]
def runE (f : Nat → Bool) : Nat → Nat → Nat
 | 0, m => m
 | n + 1, m => if m < 255 ∧ f (m + 1) = true then runE f n (m + 1) else m
def runEnd (f : Nat → Bool) (m : Nat) : Nat := runE f 255 m
def outAt (f : Nat → Bool) (m : Nat) : List UInt8 :=
 if f m = true ∧ (m = 0 ∨ f (m - 1) = false) then oneT m ++ (if m < runEnd f m then [45] ++ oneT (runEnd f m) else []) else []
def outTo (f : Nat → Bool) : Nat → List UInt8
 | 0 => []
 | m + 1 => outTo f m ++ outAt f m
def cntTo (f : Nat → Bool) : Nat → Nat
 | 0 => 0
 | m + 1 => cntTo f m + (if f m then 1 else 0)
def setT (f : Nat → Bool) : List UInt8 :=
 if cntTo f 256 = 0 then [91, 94, 92, 120, 48, 48, 45, 92, 120, 102, 102, 93]
 else if cntTo f 256 = 1 then outTo f 256
 else if cntTo f 256 = 256 then [46]
 else [91] ++ outTo f 256 ++ [93]
def digT (n : Nat) : List UInt8 := [UInt8.ofNat (48 + n)]
def repT (mn : Nat) (mx : Int) : List UInt8 :=
 if mx < 0 ∧ mn = 0 then [42] else if mx < 0 ∧ mn = 1 then [43] else if mx < 0 then [123] ++ digT mn ++ [44, 125]
 else if mx = 1 ∧ mn = 0 then [63] else if mx = (mn : Int) then [123] ++ digT mn ++ [125] else [123] ++ digT mn ++ [44] ++ digT mx.toNat ++ [125]
def patT : Pat → List UInt8
 | .set f => setT f
 | .grp _ x => [40] ++ patT x ++ [41]
 | .rep mn mx x => patT x ++ repT mn mx
 | .pnil => []
 | .pcons x r => patT x ++ patT r
 | .wone x => patT x
 | .wcons x r => patT x ++ ([124] ++ patT r)
def Pat.sz : Pat → Nat
 | .set _ => 1
 | .grp _ x => 1 + x.sz
 | .rep _ _ x => 1 + x.sz
 | .pnil => 1
 | .pcons x r => 1 + x.sz + r.sz
 | .wone x => 1 + x.sz
 | .wcons x r => 1 + x.sz + r.sz
end Go.Proofs.YtnfojonmohijpaaGreatDoor
namespace Go.Proofs.YtnfojonmohijpaaGreatDoor
def It (R : Nat → Nat → Prop) : Nat → Nat → Nat → Prop
 | 0, i, j => i = j
 | n + 1, i, j => ∃ m, R i m ∧ It R n m j
def Tm (R : Nat → Nat → Prop) (mn : Nat) (mx : Int) (i j : Nat) : Prop := ∃ n, mn ≤ n ∧ (mx < 0 ∨ (n : Int) ≤ mx) ∧ It R n i j
def Mt (s : ByteArray) : Pat → Nat → Nat → Prop
 | .set f => fun i j => i < s.size ∧ f (at' s i).toNat = true ∧ j = i + 1
 | .grp _ x => Mt s x
 | .rep mn mx x => Tm (Mt s x) mn mx
 | .pnil => fun i j => i = j
 | .pcons x r => fun i j => ∃ m, Mt s x i m ∧ Mt s r m j
 | .wone x => Mt s x
 | .wcons x r => fun i j => Mt s x i j ∨ Mt s r i j
theorem It.mono {R : Nat → Nat → Prop} (h : ∀ i j, R i j → i ≤ j) : ∀ {n i j : Nat}, It R n i j → i ≤ j
 | 0, _, _, e => Nat.le_of_eq e
 | _ + 1, i, _, ⟨m, a, b⟩ => Nat.le_trans (h i m a) (It.mono h b)
theorem Mt.le {s : ByteArray} : ∀ {x : Pat} {i j : Nat}, Mt s x i j → i ≤ j
 | .set _, _, _, h => by have := h.2.2; omega
 | .grp _ x, _, _, h => Mt.le (x := x) h
 | .rep _ _ x, _, _, ⟨_, _, _, h⟩ => It.mono (fun _ _ => Mt.le (x := x)) h
 | .pnil, _, _, h => Nat.le_of_eq h
 | .pcons x r, _, _, ⟨_, a, b⟩ => Nat.le_trans (Mt.le (x := x) a) (Mt.le (x := r) b)
 | .wone x, _, _, h => Mt.le (x := x) h
 | .wcons x r, _, _, h => h.elim (Mt.le (x := x)) (Mt.le (x := r))
def Cut (P : Nat → Prop) (i j c : Nat) : Prop := i ≤ c ∧ c ≤ j ∧ (i < c → P c) ∧ ∀ m, c < m → m ≤ j → ¬ P m
theorem Cut.one {P : Nat → Prop} {i j c d : Nat} (h : Cut P i j c) (k : Cut P i j d) : c = d := by
 rcases Nat.lt_trichotomy c d with e | e | e
 ·exact absurd (k.2.2.1 (by have := h.1; omega)) (h.2.2.2 d e k.2.1)
 ·exact e
 ·exact absurd (h.2.2.1 (by have := k.1; omega)) (k.2.2.2 c e h.2.1)
def less (mx : Int) : Int := if 0 < mx then mx - 1 else mx
def hexT (b : Nat) : List UInt8 := [hexs.getD (b / 16) 0, hexs.getD (b % 16) 0]
def decT (n : Nat) : List UInt8 := if n < 10 then digT n else digT (n / 10) ++ digT (n % 10)
inductive Job where
 | node (x : Pat)
 | kids (r : Pat)
 | times (mn : Nat) (mx : Int) (x : Pat)
 | alts (p : Nat) (r : Pat)
inductive TR (s : ByteArray) : Job → Nat → Nat → List UInt8 → List (Nat × Nat × Nat) → Prop
 | byte (f : Nat → Bool) (i j : Nat) : TR s (.node (.set f)) i j ([98] ++ hexT (at' s i).toNat) []
 | grp (k : Nat) (x : Pat) (i j : Nat) (t : List UInt8) (ev : List (Nat × Nat × Nat)) : TR s (.node x) i j t ev → TR s (.node (.grp k x)) i j ([40, 103] ++ digT k ++ [32] ++ t ++ [41]) ((k, i, j) :: ev)
 | nil (i j : Nat) : TR s (.node .pnil) i j [101] []
 | lone (x : Pat) (i j : Nat) (t : List UInt8) (ev : List (Nat × Nat × Nat)) : TR s (.node x) i j t ev → TR s (.node (.pcons x .pnil)) i j t ev
 | row (x y r : Pat) (i j : Nat) (t : List UInt8) (ev : List (Nat × Nat × Nat)) : TR s (.kids (.pcons x (.pcons y r))) i j t ev → TR s (.node (.pcons x (.pcons y r))) i j ([40, 115] ++ t ++ [41]) ev
 | kend (i j : Nat) : TR s (.kids .pnil) i j [] []
 | kgo (x r : Pat) (i j c : Nat) (t u : List UInt8) (ev fv : List (Nat × Nat × Nat)) : Cut (fun m => Mt s x i m ∧ Mt s r m j) i j c → TR s (.node x) i c t ev → TR s (.kids r) c j u fv → TR s (.kids (.pcons x r)) i j ([32] ++ t ++ u) (ev ++ fv)
 | rep (mn : Nat) (mx : Int) (x : Pat) (i j : Nat) (t : List UInt8) (ev : List (Nat × Nat × Nat)) : TR s (.times mn mx x) i j t ev → TR s (.node (.rep mn mx x)) i j ([40, 114] ++ t ++ [41]) ev
 | tend (mn : Nat) (mx : Int) (x : Pat) (i j : Nat) : ¬ (i < j ∨ 0 < mn) → TR s (.times mn mx x) i j [] []
 | tgo (mn : Nat) (mx : Int) (x : Pat) (i j c : Nat) (t u : List UInt8) (ev fv : List (Nat × Nat × Nat)) : (i < j ∨ 0 < mn) → Cut (fun m => Mt s x i m ∧ Tm (Mt s x) (mn - 1) (less mx) m j) i j c → TR s (.node x) i c t ev → TR s (.times (mn - 1) (less mx) x) c j u fv → TR s (.times mn mx x) i j ([32] ++ t ++ u) (ev ++ fv)
 | wone (x : Pat) (i j : Nat) (t : List UInt8) (ev : List (Nat × Nat × Nat)) : TR s (.node x) i j t ev → TR s (.node (.wone x)) i j t ev
 | wcons (x r : Pat) (i j : Nat) (t : List UInt8) (ev : List (Nat × Nat × Nat)) : TR s (.alts 0 (.wcons x r)) i j t ev → TR s (.node (.wcons x r)) i j t ev
 | hit (p : Nat) (x r : Pat) (i j : Nat) (t : List UInt8) (ev : List (Nat × Nat × Nat)) : Mt s x i j → TR s (.node x) i j t ev → TR s (.alts p (.wcons x r)) i j ([40, 97] ++ decT p ++ [32] ++ t ++ [41]) ev
 | miss (p : Nat) (x r : Pat) (i j : Nat) (t : List UInt8) (ev : List (Nat × Nat × Nat)) : ¬ Mt s x i j → TR s (.alts (p + 1) r) i j t ev → TR s (.alts p (.wcons x r)) i j t ev
 | last (p : Nat) (x : Pat) (i j : Nat) (t : List UInt8) (ev : List (Nat × Nat × Nat)) : TR s (.node x) i j t ev → TR s (.alts p (.wone x)) i j ([40, 97] ++ decT p ++ [32] ++ t ++ [41]) ev
end Go.Proofs.YtnfojonmohijpaaGreatDoor
namespace Go.Proofs.YtnfojonmohijpaaGreatDoor
theorem Cut.hit {P : Nat → Prop} {i j c : Nat} (h : Cut P i j c) (e : ∃ m, i ≤ m ∧ m ≤ j ∧ P m) : P c := by
 by_cases hc : i < c
 ·exact h.2.2.1 hc
 ·obtain ⟨m, a, b, d⟩ := e
  have : c = i := by have := h.1; omega
  subst this
  rcases Nat.lt_or_ge c m with k | k
  ·exact absurd d (h.2.2.2 m k b)
  ·have : m = c := by omega
   subst this
   exact d
theorem Cut.exD (P : Nat → Prop) : ∀ (d i : Nat), ∃ c, Cut P i (i + d) c
 | 0, i => ⟨i, Nat.le_refl _, Nat.le_refl _, fun h => absurd h (by omega), fun m a b => absurd a (by omega)⟩
 | d + 1, i => by
  by_cases h : P (i + (d + 1))
  ·exact ⟨i + (d + 1), by omega, Nat.le_refl _, fun _ => h, fun m a b => absurd a (by omega)⟩
  ·obtain ⟨c, h1, h2, h3, h4⟩ := Cut.exD P d i
   refine ⟨c, h1, by omega, h3, fun m a b => ?_⟩
   by_cases e : m = i + (d + 1)
   ·subst e; exact h
   ·exact h4 m a (by omega)
theorem Cut.ex (P : Nat → Prop) {i j : Nat} (h : i ≤ j) : ∃ c, Cut P i j c := by
 obtain ⟨c, hc⟩ := Cut.exD P (j - i) i
 rw [show i + (j - i) = j by omega] at hc
 exact ⟨c, hc⟩
theorem less_ok {mx : Int} {n : Nat} (h : mx < 0 ∨ ((n + 1 : Nat) : Int) ≤ mx) : less mx < 0 ∨ (n : Int) ≤ less mx := by
 unfold less
 split <;> omega
theorem Tm.step {R : Nat → Nat → Prop} (hle : ∀ i j, R i j → i ≤ j) {mn : Nat} {mx : Int} {i j : Nat} (h : Tm R mn mx i j) (hg : i < j ∨ 0 < mn) :
    ∃ m, i ≤ m ∧ m ≤ j ∧ R i m ∧ Tm R (mn - 1) (less mx) m j := by
 obtain ⟨n, a, b, h⟩ := h
 cases n with
 | zero =>
  have : i = j := h
  omega
 | succ n =>
  obtain ⟨m, r, h⟩ := h
  exact ⟨m, hle i m r, It.mono hle h, r, n, by omega, less_ok b, h⟩
theorem Tm.move {R : Nat → Nat → Prop} (hle : ∀ i j, R i j → i ≤ j) {mx : Int} {j : Nat} : ∀ {n i : Nat}, It R n i j → i < j → (mx < 0 ∨ (n : Int) ≤ mx) →
    ∃ m, i < m ∧ m ≤ j ∧ R i m ∧ Tm R 0 (less mx) m j
 | 0, i, h, hij, _ => by have : i = j := h; omega
 | n + 1, i, ⟨m, r, h⟩, hij, b => by
  by_cases e : i < m
  ·exact ⟨m, e, It.mono hle h, r, n, by omega, less_ok b, h⟩
  ·have : m = i := by have := hle i m r; omega
   subst this
   exact Tm.move hle h hij (by omega)
theorem Tm.le {R : Nat → Nat → Prop} (hle : ∀ i j, R i j → i ≤ j) {mn : Nat} {mx : Int} {i j : Nat} (h : Tm R mn mx i j) : i ≤ j := by
 obtain ⟨n, _, _, h⟩ := h
 exact It.mono hle h
theorem Tm.cut {R : Nat → Nat → Prop} (hle : ∀ i j, R i j → i ≤ j) {mn : Nat} {mx : Int} {i j c : Nat} (h : Tm R mn mx i j) (hg : i < j ∨ 0 < mn) (hc : Cut (fun m => R i m ∧ Tm R (mn - 1) (less mx) m j) i j c) :
    (R i c ∧ Tm R (mn - 1) (less mx) c j) ∧ (mn - 1) + (j - c) < mn + (j - i) := by
 obtain ⟨m, a, b, d, e⟩ := h.step hle hg
 refine ⟨hc.hit ⟨m, a, b, d, e⟩, ?_⟩
 have h1 := hc.1
 have h2 := hc.2.1
 by_cases h0 : 0 < mn
 ·omega
 ·have : mn = 0 := by omega
  subst this
  obtain ⟨n, _, q, h⟩ := h
  obtain ⟨m, a, b, d, e⟩ := Tm.move hle h (by omega) q
  by_cases hic : i < c
  ·omega
  ·have : c = i := by omega
   subst this
   exact absurd ⟨d, e⟩ (hc.2.2.2 m a b)
def Job.ok (s : ByteArray) : Job → Nat → Nat → Prop
 | .node x, i, j => Mt s x i j
 | .kids r, i, j => Mt s r i j
 | .times mn mx x, i, j => Tm (Mt s x) mn mx i j
 | .alts _ r, i, j => Mt s r i j
end Go.Proofs.YtnfojonmohijpaaGreatDoor
namespace Go.Proofs.YtnfojonmohijpaaGreatDoor
inductive Tr where
 | tnil
 | tbyte (b : Nat)
 | tgrp (k : Nat) (x : Tr)
 | talt (p : Nat) (x : Tr)
 | tser (l : Tr)
 | trep (l : Tr)
 | lnil
 | lcons (x r : Tr)
def Tr.text : Tr → List UInt8
 | .tnil => [101]
 | .tbyte b => [98] ++ hexT b
 | .tgrp k x => [40, 103] ++ decT k ++ [32] ++ x.text ++ [41]
 | .talt p x => [40, 97] ++ decT p ++ [32] ++ x.text ++ [41]
 | .tser l => [40, 115] ++ l.text ++ [41]
 | .trep l => [40, 114] ++ l.text ++ [41]
 | .lnil => []
 | .lcons x r => [32] ++ x.text ++ r.text
end Go.Proofs.YtnfojonmohijpaaGreatDoor
