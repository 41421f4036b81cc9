/-
  DERIVED. Plain mathematics: what a pattern matches (the stretches), and the one tree that is meant, as relations; that the tree is one. Nothing of the program stands here.
-/
import Derived.Test.YtnfojonmohijpaaGreatDoorJPC
import Derived.Test.YtnfojonmohijpaaGreatDoorJSpec
import Derived.Lib.Strings
import Derived.Deep.RegionHeld3
import Derived.Deep.RegionLaw
import Derived.Deep.AppendLies
import Derived.OwnWalk
import Derived.StillTactics
import Derived.Laws.Pointers
import Derived.KernelRfl
set_option linter.unusedSimpArgs false
set_option linter.unusedVariables false
namespace Go.Proofs.YtnfojonmohijpaaGreatDoor
def It (R : Nat → Nat → Prop) : Nat → Nat → Nat → Prop
 | 0, i, j => i = j
 | n + 1, i, j => ∃ m, R i m ∧ It R n m j
def Tm (R : Nat → Nat → Prop) (mn : Nat) (mx : Int) (i j : Nat) : Prop := ∃ n, mn ≤ n ∧ (mx < 0 ∨ (n : Int) ≤ mx) ∧ It R n i j
def Mt (s : ByteArray) : Pat → Nat → Nat → Prop
 | .set f => fun i j => i < s.size ∧ f (at' s i).toNat = true ∧ j = i + 1
 | .grp _ x => Mt s x
 | .rep mn mx x => Tm (Mt s x) mn mx
 | .pnil => fun i j => i = j
 | .pcons x r => fun i j => ∃ m, Mt s x i m ∧ Mt s r m j
 | .wone x => Mt s x
 | .wcons x r => fun i j => Mt s x i j ∨ Mt s r i j
theorem It.mono {R : Nat → Nat → Prop} (h : ∀ i j, R i j → i ≤ j) : ∀ {n i j : Nat}, It R n i j → i ≤ j
 | 0, _, _, e => Nat.le_of_eq e
 | _ + 1, i, _, ⟨m, a, b⟩ => Nat.le_trans (h i m a) (It.mono h b)
theorem It.inn {R : Nat → Nat → Prop} {L : Nat} (h : ∀ i j, R i j → i ≤ L → j ≤ L) : ∀ {n i j : Nat}, It R n i j → i ≤ L → j ≤ L
 | 0, _, _, e, hi => by cases e; exact hi
 | _ + 1, i, _, ⟨m, a, b⟩, hi => It.inn h b (h i m a hi)
theorem Mt.le {s : ByteArray} : ∀ {x : Pat} {i j : Nat}, Mt s x i j → i ≤ j
 | .set _, _, _, h => by have := h.2.2; omega
 | .grp _ x, _, _, h => Mt.le (x := x) h
 | .rep _ _ x, _, _, ⟨_, _, _, h⟩ => It.mono (fun _ _ => Mt.le (x := x)) h
 | .pnil, _, _, h => Nat.le_of_eq h
 | .pcons x r, _, _, ⟨_, a, b⟩ => Nat.le_trans (Mt.le (x := x) a) (Mt.le (x := r) b)
 | .wone x, _, _, h => Mt.le (x := x) h
 | .wcons x r, _, _, h => h.elim (Mt.le (x := x)) (Mt.le (x := r))
theorem Mt.inn {s : ByteArray} : ∀ {x : Pat} {i j : Nat}, Mt s x i j → i ≤ s.size → j ≤ s.size
 | .set _, _, _, h, _ => by have := h.1; have := h.2.2; omega
 | .grp _ x, _, _, h, hi => Mt.inn (x := x) h hi
 | .rep _ _ x, _, _, ⟨_, _, _, h⟩, hi => It.inn (fun _ _ => Mt.inn (x := x)) h hi
 | .pnil, _, _, h, hi => by cases h; exact hi
 | .pcons x r, _, _, ⟨_, a, b⟩, hi => Mt.inn (x := r) b (Mt.inn (x := x) a hi)
 | .wone x, _, _, h, hi => Mt.inn (x := x) h hi
 | .wcons x r, _, _, h, hi => h.elim (fun h => Mt.inn (x := x) h hi) (fun h => Mt.inn (x := r) h hi)
def Cut (P : Nat → Prop) (i j c : Nat) : Prop := i ≤ c ∧ c ≤ j ∧ (i < c → P c) ∧ ∀ m, c < m → m ≤ j → ¬ P m
theorem Cut.one {P : Nat → Prop} {i j c d : Nat} (h : Cut P i j c) (k : Cut P i j d) : c = d := by
 rcases Nat.lt_trichotomy c d with e | e | e
 ·exact absurd (k.2.2.1 (by have := h.1; omega)) (h.2.2.2 d e k.2.1)
 ·exact e
 ·exact absurd (h.2.2.1 (by have := k.1; omega)) (k.2.2.2 c e h.2.1)
def less (mx : Int) : Int := if 0 < mx then mx - 1 else mx
def hexT (b : Nat) : List UInt8 := [hexs.getD (b / 16) 0, hexs.getD (b % 16) 0]
def decT (n : Nat) : List UInt8 := if n < 10 then digT n else digT (n / 10) ++ digT (n % 10)
inductive Job where
 | node (x : Pat)
 | kids (r : Pat)
 | times (mn : Nat) (mx : Int) (x : Pat)
 | alts (p : Nat) (r : Pat)
inductive TR (s : ByteArray) : Job → Nat → Nat → List UInt8 → List (Nat × Nat × Nat) → Prop
 | byte (f : Nat → Bool) (i j : Nat) : TR s (.node (.set f)) i j ([98] ++ hexT (at' s i).toNat) []
 | grp (k : Nat) (x : Pat) (i j : Nat) (t : List UInt8) (ev : List (Nat × Nat × Nat)) : TR s (.node x) i j t ev → TR s (.node (.grp k x)) i j ([40, 103] ++ digT k ++ [32] ++ t ++ [41]) ((k, i, j) :: ev)
 | nil (i j : Nat) : TR s (.node .pnil) i j [101] []
 | lone (x : Pat) (i j : Nat) (t : List UInt8) (ev : List (Nat × Nat × Nat)) : TR s (.node x) i j t ev → TR s (.node (.pcons x .pnil)) i j t ev
 | row (x y r : Pat) (i j : Nat) (t : List UInt8) (ev : List (Nat × Nat × Nat)) : TR s (.kids (.pcons x (.pcons y r))) i j t ev → TR s (.node (.pcons x (.pcons y r))) i j ([40, 115] ++ t ++ [41]) ev
 | kend (i j : Nat) : TR s (.kids .pnil) i j [] []
 | kgo (x r : Pat) (i j c : Nat) (t u : List UInt8) (ev fv : List (Nat × Nat × Nat)) : Cut (fun m => Mt s x i m ∧ Mt s r m j) i j c → TR s (.node x) i c t ev → TR s (.kids r) c j u fv → TR s (.kids (.pcons x r)) i j ([32] ++ t ++ u) (ev ++ fv)
 | rep (mn : Nat) (mx : Int) (x : Pat) (i j : Nat) (t : List UInt8) (ev : List (Nat × Nat × Nat)) : TR s (.times mn mx x) i j t ev → TR s (.node (.rep mn mx x)) i j ([40, 114] ++ t ++ [41]) ev
 | tend (mn : Nat) (mx : Int) (x : Pat) (i j : Nat) : ¬ (i < j ∨ 0 < mn) → TR s (.times mn mx x) i j [] []
 | tgo (mn : Nat) (mx : Int) (x : Pat) (i j c : Nat) (t u : List UInt8) (ev fv : List (Nat × Nat × Nat)) : (i < j ∨ 0 < mn) → Cut (fun m => Mt s x i m ∧ Tm (Mt s x) (mn - 1) (less mx) m j) i j c → TR s (.node x) i c t ev → TR s (.times (mn - 1) (less mx) x) c j u fv → TR s (.times mn mx x) i j ([32] ++ t ++ u) (ev ++ fv)
 | wone (x : Pat) (i j : Nat) (t : List UInt8) (ev : List (Nat × Nat × Nat)) : TR s (.node x) i j t ev → TR s (.node (.wone x)) i j t ev
 | wcons (x r : Pat) (i j : Nat) (t : List UInt8) (ev : List (Nat × Nat × Nat)) : TR s (.alts 0 (.wcons x r)) i j t ev → TR s (.node (.wcons x r)) i j t ev
 | hit (p : Nat) (x r : Pat) (i j : Nat) (t : List UInt8) (ev : List (Nat × Nat × Nat)) : Mt s x i j → TR s (.node x) i j t ev → TR s (.alts p (.wcons x r)) i j ([40, 97] ++ decT p ++ [32] ++ t ++ [41]) ev
 | miss (p : Nat) (x r : Pat) (i j : Nat) (t : List UInt8) (ev : List (Nat × Nat × Nat)) : ¬ Mt s x i j → TR s (.alts (p + 1) r) i j t ev → TR s (.alts p (.wcons x r)) i j t ev
 | last (p : Nat) (x : Pat) (i j : Nat) (t : List UInt8) (ev : List (Nat × Nat × Nat)) : TR s (.node x) i j t ev → TR s (.alts p (.wone x)) i j ([40, 97] ++ decT p ++ [32] ++ t ++ [41]) ev
theorem TR.det {s : ByteArray} {k : Job} {i j : Nat} {t : List UInt8} {ev : List (Nat × Nat × Nat)} (h : TR s k i j t ev) : ∀ u fv, TR s k i j u fv → t = u ∧ ev = fv := by
 induction h with
 | byte => intro u fv h; cases h; exact ⟨rfl, rfl⟩
 | grp k x i j t ev _ ih => intro u fv h; cases h with | grp _ _ _ _ t' ev' h' => obtain ⟨rfl, rfl⟩ := ih t' ev' h'; exact ⟨rfl, rfl⟩
 | nil => intro u fv h; cases h; exact ⟨rfl, rfl⟩
 | lone x i j t ev _ ih => intro u fv h; cases h with | lone _ _ _ _ _ h' => exact ih u fv h'
 | row x y r i j t ev _ ih => intro u fv h; cases h with | row _ _ _ _ _ t' _ h' => obtain ⟨rfl, rfl⟩ := ih t' fv h'; exact ⟨rfl, rfl⟩
 | kend => intro u fv h; cases h; exact ⟨rfl, rfl⟩
 | kgo x r i j c t u ev fv hc _ _ ih1 ih2 =>
  intro v gv h
  cases h with
  | kgo _ _ _ _ c' t' u' ev' fv' hc' h1 h2 =>
   obtain rfl := hc.one hc'
   obtain ⟨rfl, rfl⟩ := ih1 t' ev' h1
   obtain ⟨rfl, rfl⟩ := ih2 u' fv' h2
   exact ⟨rfl, rfl⟩
 | rep mn mx x i j t ev _ ih => intro u fv h; cases h with | rep _ _ _ _ _ t' _ h' => obtain ⟨rfl, rfl⟩ := ih t' fv h'; exact ⟨rfl, rfl⟩
 | tend mn mx x i j hn => intro u fv h; cases h with
  | tend => exact ⟨rfl, rfl⟩
  | tgo _ _ _ _ _ _ _ _ _ _ hg => exact absurd hg hn
 | tgo mn mx x i j c t u ev fv hg hc _ _ ih1 ih2 =>
  intro v gv h
  cases h with
  | tend _ _ _ _ _ hn => exact absurd hg hn
  | tgo _ _ _ _ _ c' t' u' ev' fv' _ hc' h1 h2 =>
   obtain rfl := hc.one hc'
   obtain ⟨rfl, rfl⟩ := ih1 t' ev' h1
   obtain ⟨rfl, rfl⟩ := ih2 u' fv' h2
   exact ⟨rfl, rfl⟩
 | wone x i j t ev _ ih => intro u fv h; cases h with | wone _ _ _ _ _ h' => exact ih u fv h'
 | wcons x r i j t ev _ ih => intro u fv h; cases h with | wcons _ _ _ _ _ _ h' => exact ih u fv h'
 | hit p x r i j t ev hm _ ih => intro u fv h; cases h with
  | hit _ _ _ _ _ t' _ _ h' => obtain ⟨rfl, rfl⟩ := ih t' fv h'; exact ⟨rfl, rfl⟩
  | miss _ _ _ _ _ _ _ hn => exact absurd hm hn
 | miss p x r i j t ev hn _ ih => intro u fv h; cases h with
  | hit _ _ _ _ _ _ _ hm => exact absurd hm hn
  | miss _ _ _ _ _ _ _ _ h' => exact ih u fv h'
 | last p x i j t ev _ ih => intro u fv h; cases h with | last _ _ _ _ t' _ h' => obtain ⟨rfl, rfl⟩ := ih t' fv h'; exact ⟨rfl, rfl⟩
end Go.Proofs.YtnfojonmohijpaaGreatDoor
namespace Go.Proofs.YtnfojonmohijpaaGreatDoor
theorem Cut.hit {P : Nat → Prop} {i j c : Nat} (h : Cut P i j c) (e : ∃ m, i ≤ m ∧ m ≤ j ∧ P m) : P c := by
 by_cases hc : i < c
 ·exact h.2.2.1 hc
 ·obtain ⟨m, a, b, d⟩ := e
  have : c = i := by have := h.1; omega
  subst this
  rcases Nat.lt_or_ge c m with k | k
  ·exact absurd d (h.2.2.2 m k b)
  ·have : m = c := by omega
   subst this
   exact d
theorem less_ok {mx : Int} {n : Nat} (h : mx < 0 ∨ ((n + 1 : Nat) : Int) ≤ mx) : less mx < 0 ∨ (n : Int) ≤ less mx := by
 unfold less
 split <;> omega
theorem Tm.step {R : Nat → Nat → Prop} (hle : ∀ i j, R i j → i ≤ j) {mn : Nat} {mx : Int} {i j : Nat} (h : Tm R mn mx i j) (hg : i < j ∨ 0 < mn) :
    ∃ m, i ≤ m ∧ m ≤ j ∧ R i m ∧ Tm R (mn - 1) (less mx) m j := by
 obtain ⟨n, a, b, h⟩ := h
 cases n with
 | zero =>
  have : i = j := h
  omega
 | succ n =>
  obtain ⟨m, r, h⟩ := h
  exact ⟨m, hle i m r, It.mono hle h, r, n, by omega, less_ok b, h⟩
theorem Tm.move {R : Nat → Nat → Prop} (hle : ∀ i j, R i j → i ≤ j) {mx : Int} {j : Nat} : ∀ {n i : Nat}, It R n i j → i < j → (mx < 0 ∨ (n : Int) ≤ mx) →
    ∃ m, i < m ∧ m ≤ j ∧ R i m ∧ Tm R 0 (less mx) m j
 | 0, i, h, hij, _ => by have : i = j := h; omega
 | n + 1, i, ⟨m, r, h⟩, hij, b => by
  by_cases e : i < m
  ·exact ⟨m, e, It.mono hle h, r, n, by omega, less_ok b, h⟩
  ·have : m = i := by have := hle i m r; omega
   subst this
   exact Tm.move hle h hij (by omega)
theorem Tm.le {R : Nat → Nat → Prop} (hle : ∀ i j, R i j → i ≤ j) {mn : Nat} {mx : Int} {i j : Nat} (h : Tm R mn mx i j) : i ≤ j := by
 obtain ⟨n, _, _, h⟩ := h
 exact It.mono hle h
theorem Tm.cut {R : Nat → Nat → Prop} (hle : ∀ i j, R i j → i ≤ j) {mn : Nat} {mx : Int} {i j c : Nat} (h : Tm R mn mx i j) (hg : i < j ∨ 0 < mn) (hc : Cut (fun m => R i m ∧ Tm R (mn - 1) (less mx) m j) i j c) :
    (R i c ∧ Tm R (mn - 1) (less mx) c j) ∧ (mn - 1) + (j - c) < mn + (j - i) := by
 obtain ⟨m, a, b, d, e⟩ := h.step hle hg
 refine ⟨hc.hit ⟨m, a, b, d, e⟩, ?_⟩
 have h1 := hc.1
 have h2 := hc.2.1
 by_cases h0 : 0 < mn
 ·omega
 ·have : mn = 0 := by omega
  subst this
  obtain ⟨n, _, q, h⟩ := h
  obtain ⟨m, a, b, d, e⟩ := Tm.move hle h (by omega) q
  by_cases hic : i < c
  ·omega
  ·have : c = i := by omega
   subst this
   exact absurd ⟨d, e⟩ (hc.2.2.2 m a b)
def Job.ok (s : ByteArray) : Job → Nat → Nat → Prop
 | .node x, i, j => Mt s x i j
 | .kids r, i, j => Mt s r i j
 | .times mn mx x, i, j => Tm (Mt s x) mn mx i j
 | .alts _ r, i, j => Mt s r i j
end Go.Proofs.YtnfojonmohijpaaGreatDoor
namespace Go.Proofs.YtnfojonmohijpaaGreatDoor
inductive Tr where
 | tnil
 | tbyte (b : Nat)
 | tgrp (k : Nat) (x : Tr)
 | talt (p : Nat) (x : Tr)
 | tser (l : Tr)
 | trep (l : Tr)
 | lnil
 | lcons (x r : Tr)
def Tr.text : Tr → List UInt8
 | .tnil => [101]
 | .tbyte b => [98] ++ hexT b
 | .tgrp k x => [40, 103] ++ decT k ++ [32] ++ x.text ++ [41]
 | .talt p x => [40, 97] ++ decT p ++ [32] ++ x.text ++ [41]
 | .tser l => [40, 115] ++ l.text ++ [41]
 | .trep l => [40, 114] ++ l.text ++ [41]
 | .lnil => []
 | .lcons x r => [32] ++ x.text ++ r.text
def Tr.len : Tr → Nat
 | .tnil => 0
 | .tbyte _ => 1
 | .tgrp _ x => x.len
 | .talt _ x => x.len
 | .tser l => l.len
 | .trep l => l.len
 | .lnil => 0
 | .lcons x r => x.len + r.len
def Tr.evs : Tr → Nat → List (Nat × Nat × Nat)
 | .tnil, _ => []
 | .tbyte _, _ => []
 | .tgrp k x, i => (k, i, i + x.len) :: x.evs i
 | .talt _ x, i => x.evs i
 | .tser l, i => l.evs i
 | .trep l, i => l.evs i
 | .lnil, _ => []
 | .lcons x r, i => x.evs i ++ r.evs (i + x.len)
inductive TT (s : ByteArray) : Job → Nat → Nat → Tr → Prop
 | byte (f : Nat → Bool) (i j : Nat) : TT s (.node (.set f)) i j (.tbyte (at' s i).toNat)
 | grp (k : Nat) (x : Pat) (i j : Nat) (t : Tr) : k ≤ 9 → TT s (.node x) i j t → TT s (.node (.grp k x)) i j (.tgrp k t)
 | nil (i j : Nat) : TT s (.node .pnil) i j .tnil
 | lone (x : Pat) (i j : Nat) (t : Tr) : TT s (.node x) i j t → TT s (.node (.pcons x .pnil)) i j t
 | row (x y r : Pat) (i j : Nat) (l : Tr) : TT s (.kids (.pcons x (.pcons y r))) i j l → TT s (.node (.pcons x (.pcons y r))) i j (.tser l)
 | kend (i j : Nat) : TT s (.kids .pnil) i j .lnil
 | kgo (x r : Pat) (i j c : Nat) (t u : Tr) : Cut (fun m => Mt s x i m ∧ Mt s r m j) i j c → TT s (.node x) i c t → TT s (.kids r) c j u → TT s (.kids (.pcons x r)) i j (.lcons t u)
 | rep (mn : Nat) (mx : Int) (x : Pat) (i j : Nat) (l : Tr) : TT s (.times mn mx x) i j l → TT s (.node (.rep mn mx x)) i j (.trep l)
 | tend (mn : Nat) (mx : Int) (x : Pat) (i j : Nat) : ¬ (i < j ∨ 0 < mn) → TT s (.times mn mx x) i j .lnil
 | tgo (mn : Nat) (mx : Int) (x : Pat) (i j c : Nat) (t u : Tr) : (i < j ∨ 0 < mn) → Cut (fun m => Mt s x i m ∧ Tm (Mt s x) (mn - 1) (less mx) m j) i j c → TT s (.node x) i c t → TT s (.times (mn - 1) (less mx) x) c j u → TT s (.times mn mx x) i j (.lcons t u)
 | wone (x : Pat) (i j : Nat) (t : Tr) : TT s (.node x) i j t → TT s (.node (.wone x)) i j t
 | wcons (x r : Pat) (i j : Nat) (t : Tr) : TT s (.alts 0 (.wcons x r)) i j t → TT s (.node (.wcons x r)) i j t
 | hit (p : Nat) (x r : Pat) (i j : Nat) (t : Tr) : Mt s x i j → TT s (.node x) i j t → TT s (.alts p (.wcons x r)) i j (.talt p t)
 | miss (p : Nat) (x r : Pat) (i j : Nat) (t : Tr) : ¬ Mt s x i j → TT s (.alts (p + 1) r) i j t → TT s (.alts p (.wcons x r)) i j t
 | last (p : Nat) (x : Pat) (i j : Nat) (t : Tr) : TT s (.node x) i j t → TT s (.alts p (.wone x)) i j (.talt p t)
theorem decT_dig {k : Nat} (h : k ≤ 9) : decT k = digT k := by unfold decT; rw [if_pos (by omega)]
theorem TT.toTR {s : ByteArray} {J : Job} {i j : Nat} {t : Tr} (h : TT s J i j t) : J.ok s i j → TR s J i j t.text (t.evs i) ∧ i + t.len = j := by
 have hle : ∀ {x : Pat} (i j : Nat), Mt s x i j → i ≤ j := fun _ _ h => h.le
 induction h with
 | byte f i j => intro h; exact ⟨.byte f i j, h.2.2.symm⟩
 | grp k x i j t hk _ ih =>
  intro h
  obtain ⟨a, b⟩ := ih h
  refine ⟨?_, b⟩
  simp only [Tr.text, Tr.evs, b, decT_dig hk]
  exact .grp k x i j _ _ a
 | nil i j => intro h; exact ⟨.nil i j, h⟩
 | lone x i j t _ ih =>
  rintro ⟨m, a, b⟩
  have b' : m = j := b
  subst b'
  exact ⟨.lone x i m _ _ (ih a).1, (ih a).2⟩
 | row x y r i j l _ ih => intro h; exact ⟨.row x y r i j _ _ (ih h).1, (ih h).2⟩
 | kend i j => intro h; exact ⟨.kend i j, h⟩
 | kgo x r i j c t u hc _ _ ih1 ih2 =>
  rintro ⟨m, a, b⟩
  have hP := hc.hit ⟨m, a.le, b.le, a, b⟩
  obtain ⟨a1, b1⟩ := ih1 hP.1
  obtain ⟨a2, b2⟩ := ih2 hP.2
  refine ⟨?_, by simp only [Tr.len]; omega⟩
  simp only [Tr.text, Tr.evs, b1]
  exact .kgo x r i j c _ _ _ _ hc a1 a2
 | rep mn mx x i j l _ ih => intro h; exact ⟨.rep mn mx x i j _ _ (ih h).1, (ih h).2⟩
 | tend mn mx x i j hn =>
  intro h
  have := Tm.le hle h
  exact ⟨.tend mn mx x i j hn, by simp only [Tr.len]; omega⟩
 | tgo mn mx x i j c t u hg hc _ _ ih1 ih2 =>
  intro h
  obtain ⟨hP, _⟩ := Tm.cut hle h hg hc
  obtain ⟨a1, b1⟩ := ih1 hP.1
  obtain ⟨a2, b2⟩ := ih2 hP.2
  refine ⟨?_, by simp only [Tr.len]; omega⟩
  simp only [Tr.text, Tr.evs, b1]
  exact .tgo mn mx x i j c _ _ _ _ hg hc a1 a2
 | wone x i j t _ ih => intro h; exact ⟨.wone x i j _ _ (ih h).1, (ih h).2⟩
 | wcons x r i j t _ ih => intro h; exact ⟨.wcons x r i j _ _ (ih h).1, (ih h).2⟩
 | hit p x r i j t hm _ ih => intro h; exact ⟨.hit p x r i j _ _ hm (ih hm).1, (ih hm).2⟩
 | miss p x r i j t hn _ ih =>
  intro h
  have h' := Or.resolve_left h hn
  exact ⟨.miss p x r i j _ _ hn (ih h').1, (ih h').2⟩
 | last p x i j t _ ih => intro h; exact ⟨.last p x i j _ _ (ih h).1, (ih h).2⟩
theorem It.still {R : Nat → Nat → Prop} (hle : ∀ i j, R i j → i ≤ j) : ∀ {n i : Nat}, It R n i i → n = 0 ∨ R i i
 | 0, _, _ => Or.inl rfl
 | n + 1, i, ⟨m, a, b⟩ => by
  have h1 := hle i m a
  have h2 := It.mono hle b
  have : m = i := by omega
  subst this
  exact Or.inr a
theorem It.rest {R : Nat → Nat → Prop} {i : Nat} (h : R i i) : ∀ n, It R n i i
 | 0 => rfl
 | n + 1 => ⟨i, h, It.rest h n⟩
theorem Mt.null {s : ByteArray} : ∀ {x : Pat} {i m : Nat}, Mt s x i i → Mt s x m m
 | .set _, i, _, h => by have := h.2.2; omega
 | .grp _ x, _, _, h => Mt.null (x := x) h
 | .rep _ _ x, i, m, ⟨n, a, b, h⟩ => by
  rcases It.still (fun _ _ => Mt.le (x := x)) h with h0 | h0
  ·exact ⟨n, a, b, by subst h0; rfl⟩
  ·exact ⟨n, a, b, It.rest (Mt.null (x := x) h0) n⟩
 | .pnil, _, _, _ => rfl
 | .pcons x r, i, m, ⟨q, a, b⟩ => by
  have h1 := Mt.le (x := x) a
  have h2 := Mt.le (x := r) b
  have : q = i := by omega
  subst this
  exact ⟨m, Mt.null (x := x) a, Mt.null (x := r) b⟩
 | .wone x, _, _, h => Mt.null (x := x) h
 | .wcons x r, _, _, h => h.elim (fun h => Or.inl (Mt.null (x := x) h)) (fun h => Or.inr (Mt.null (x := r) h))
theorem It.front {R : Nat → Nat → Prop} (hle : ∀ i j, R i j → i ≤ j) (hnull : ∀ i m, R i i → R m m) {j : Nat} : ∀ {n i : Nat}, It R n i j → i < j → ∃ m k, n = k + 1 ∧ i < m ∧ m ≤ j ∧ R i m ∧ It R k m j
 | 0, i, h, hij => by have : i = j := h; omega
 | n + 1, i, ⟨m, r, h⟩, hij => by
  by_cases e : i < m
  ·exact ⟨m, n, rfl, e, It.mono hle h, r, h⟩
  ·have : m = i := by have := hle i m r; omega
   subst this
   obtain ⟨m', k, hk, h1, h2, h3, h4⟩ := It.front hle hnull h hij
   exact ⟨m', k + 1, by omega, h1, h2, h3, m', hnull m m' r, h4⟩
theorem Tm.front {R : Nat → Nat → Prop} (hle : ∀ i j, R i j → i ≤ j) (hnull : ∀ i m, R i i → R m m) {mn : Nat} {mx : Int} {i j : Nat} (h : Tm R mn mx i j) (hij : i < j) : ∃ m, i < m ∧ m ≤ j ∧ R i m ∧ Tm R (mn - 1) (less mx) m j := by
 obtain ⟨n, a, b, h⟩ := h
 obtain ⟨m, k, rfl, h1, h2, h3, h4⟩ := It.front hle hnull h hij
 exact ⟨m, h1, h2, h3, k, by omega, less_ok b, h4⟩
theorem Tm.cutFront {R : Nat → Nat → Prop} (hle : ∀ i j, R i j → i ≤ j) (hnull : ∀ i m, R i i → R m m) {mn : Nat} {mx : Int} {i j c : Nat} (h : Tm R mn mx i j) (hij : i < j) (hc : Cut (fun m => R i m ∧ Tm R (mn - 1) (less mx) m j) i j c) :
    i < c ∧ R i c ∧ Tm R (mn - 1) (less mx) c j := by
 obtain ⟨m, a, b, d⟩ := h.front hle hnull hij
 have hic : i < c := by
  rcases Nat.lt_or_ge i c with h | h
  ·exact h
  ·have : c = i := by have := hc.1; omega
   subst this
   exact absurd d (hc.2.2.2 m a b)
 exact ⟨hic, hc.2.2.1 hic⟩
def lessN (mx : Int) : Nat → Int
 | 0 => mx
 | d + 1 => less (lessN mx d)
theorem lessN_any (mx : Int) (h : mx < 0) : ∀ d, lessN mx d = mx
 | 0 => rfl
 | d + 1 => by simp only [lessN, lessN_any mx h d, less]; rw [if_neg (by omega)]
theorem lessN_some (m : Nat) : ∀ d, lessN (m : Int) d = ((m - d : Nat) : Int)
 | 0 => rfl
 | d + 1 => by
  simp only [lessN, lessN_some m d, less]
  split <;> omega
def Left (R : Nat → Nat → Prop) (mn : Nat) (mx : Int) (d : Nat) (i j : Nat) : Prop := Tm R (mn - d) (lessN mx d) i j
theorem Tm.none {R : Nat → Nat → Prop} {i j : Nat} : Tm R 0 0 i j ↔ i = j := by
 constructor
 ·rintro ⟨n, _, b, h⟩
  have : n = 0 := by omega
  subst this
  exact h
 ·intro h; exact ⟨0, by omega, by omega, h⟩
theorem Tm.must {R : Nat → Nat → Prop} {mn : Nat} {mx : Int} {i j : Nat} (hm : 0 < mn) : Tm R mn mx i j ↔ (mx ≠ 0 ∧ ∃ m, R i m ∧ Tm R (mn - 1) (less mx) m j) := by
 constructor
 ·rintro ⟨n, a, b, h⟩
  cases n with
  | zero => omega
  | succ n =>
   obtain ⟨m, r, h⟩ := h
   exact ⟨by omega, m, r, n, by omega, less_ok b, h⟩
 ·rintro ⟨h0, m, r, n, a, b, h⟩
  refine ⟨n + 1, by omega, ?_, m, r, h⟩
  unfold less at b
  split at b <;> omega
theorem Tm.may {R : Nat → Nat → Prop} {mx : Int} {i j : Nat} (hm : 0 < mx) : Tm R 0 mx i j ↔ (i = j ∨ ∃ m, R i m ∧ Tm R 0 (less mx) m j) := by
 constructor
 ·rintro ⟨n, a, b, h⟩
  cases n with
  | zero => exact Or.inl h
  | succ n =>
   obtain ⟨m, r, h⟩ := h
   exact Or.inr ⟨m, r, n, by omega, less_ok b, h⟩
 ·rintro (h | ⟨m, r, n, a, b, h⟩)
  ·exact ⟨0, by omega, by omega, h⟩
  ·refine ⟨n + 1, by omega, ?_, m, r, h⟩
   unfold less at b
   split at b <;> omega
theorem Left.step {R : Nat → Nat → Prop} {mn : Nat} {mx : Int} {d i j : Nat} (h : mx < 0 ∧ d < mn ∨ (d : Int) < mx) :
    Left R mn mx d i j ↔ ((mn ≤ d ∧ i = j) ∨ ∃ m, R i m ∧ Left R mn mx (d + 1) m j) := by
 have e1 : mn - (d + 1) = mn - d - 1 := by omega
 have e2 : lessN mx (d + 1) = less (lessN mx d) := rfl
 have hx : lessN mx d ≠ 0 ∧ (0 < mn - d ∨ 0 < lessN mx d) := by
  by_cases h0 : mx < 0
  ·rw [lessN_any mx h0]; omega
  ·obtain ⟨m, rfl⟩ : ∃ m : Nat, mx = m := ⟨mx.toNat, by omega⟩
   rw [lessN_some]; omega
 unfold Left
 rw [e1, e2]
 by_cases hm : 0 < mn - d
 ·rw [Tm.must hm]
  constructor
  ·rintro ⟨_, h⟩; exact Or.inr h
  ·rintro (⟨h, _⟩ | h)
   ·omega
   ·exact ⟨hx.1, h⟩
 ·have e0 : mn - d = 0 := by omega
  rw [e0, Tm.may (by omega)]
  constructor
  ·rintro (h | h)
   ·exact Or.inl ⟨by omega, h⟩
   ·exact Or.inr h
  ·rintro (⟨_, h⟩ | h)
   ·exact Or.inl h
   ·exact Or.inr h
theorem Left.past {R : Nat → Nat → Prop} {mn : Nat} {mx : Int} {d e : Nat} {i j : Nat} (hd : d ≤ e) (h : mx < 0 ∧ mn ≤ d ∨ 0 ≤ mx ∧ (mn : Int) ≤ mx ∧ mx ≤ d) : Left R mn mx e i j ↔ Left R mn mx d i j := by
 unfold Left
 have e1 : mn - e = 0 := by omega
 have e2 : mn - d = 0 := by omega
 rw [e1, e2]
 by_cases h0 : mx < 0
 ·rw [lessN_any mx h0, lessN_any mx h0]
 ·obtain ⟨m, rfl⟩ : ∃ m : Nat, mx = m := ⟨mx.toNat, by omega⟩
  rw [lessN_some, lessN_some, show m - e = 0 by omega, show m - d = 0 by omega]
end Go.Proofs.YtnfojonmohijpaaGreatDoor
namespace Go.Proofs.YtnfojonmohijpaaGreatDoor
inductive TK where
 | thing
 | body
 | row (n : Nat) (m : Bool)
def shut (s : ByteArray) : R Tr → R Tr
 | .bad j => .bad j
 | .ok t j => if at' s j = 41 then .ok t (j + 1) else .bad j
def hdT : Tr → Tr
 | .lcons x _ => x
 | t => t
def plD (s : ByteArray) (i : Nat) : Prop := 49 ≤ at' s i ∧ at' s i ≤ 53 ∧ digB (at' s (i + 1)) = true
instance (s : ByteArray) (i : Nat) : Decidable (plD s i) := by unfold plD; infer_instance
def plN (s : ByteArray) (i : Nat) : Nat := if plD s i then 10 * (at' s i - 48).toNat + (at' s (i + 1) - 48).toNat else (at' s i - 48).toNat
def plE (s : ByteArray) (i : Nat) : Nat := if plD s i then i + 2 else i + 1
inductive TG (s : ByteArray) : TK → Nat → Nat → R Tr → Prop
 | nil (d i : Nat) : at' s i = 101 → TG s .thing d i (.ok .tnil (i + 1))
 | byte (d i : Nat) : at' s i = 98 → 0 ≤ hexd (at' s (i + 1)) → 0 ≤ hexd (at' s (i + 2)) → TG s .thing d i (.ok (.tbyte (16 * hexd (at' s (i + 1)) + hexd (at' s (i + 2))).toNat) (i + 3))
 | byte1 (d i : Nat) : at' s i = 98 → hexd (at' s (i + 1)) < 0 → TG s .thing d i (.bad (i + 1))
 | byte2 (d i : Nat) : at' s i = 98 → 0 ≤ hexd (at' s (i + 1)) → hexd (at' s (i + 2)) < 0 → TG s .thing d i (.bad (i + 2))
 | opn (d i : Nat) (q : R Tr) : at' s i = 40 → d < 60 → TG s .body (d + 1) (i + 1) q → TG s .thing d i (shut s q)
 | deep (d i : Nat) : at' s i = 40 → 60 ≤ d → TG s .thing d i (.bad i)
 | none (d i : Nat) : at' s i ≠ 101 → at' s i ≠ 98 → at' s i ≠ 40 → TG s .thing d i (.bad i)
 | grp (d i : Nat) (q : R Tr) : at' s i = 103 → 49 ≤ at' s (i + 1) → at' s (i + 1) ≤ 57 → TG s (.row 1 false) d (i + 2) q → TG s .body d i (q.map fun l => .tgrp (at' s (i + 1) - 48).toNat (hdT l))
 | grp1 (d i : Nat) : at' s i = 103 → (at' s (i + 1) < 49 ∨ 57 < at' s (i + 1)) → TG s .body d i (.bad (i + 1))
 | alt (d i : Nat) (q : R Tr) : at' s i = 97 → digB (at' s (i + 1)) = true → TG s (.row 1 false) d (plE s (i + 1)) q → TG s .body d i (q.map fun l => .talt (plN s (i + 1)) (hdT l))
 | alt1 (d i : Nat) : at' s i = 97 → digB (at' s (i + 1)) = false → TG s .body d i (.bad (i + 1))
 | ser (d i : Nat) (q : R Tr) : at' s i = 115 → TG s (.row 2 true) d (i + 1) q → TG s .body d i (q.map .tser)
 | rep (d i : Nat) (q : R Tr) : at' s i = 114 → TG s (.row 0 true) d (i + 1) q → TG s .body d i (q.map .trep)
 | other (d i : Nat) : at' s i ≠ 103 → at' s i ≠ 97 → at' s i ≠ 115 → at' s i ≠ 114 → TG s .body d i (.bad i)
 | fin (d i : Nat) : TG s (.row 0 false) d i (.ok .lnil i)
 | stop (d i : Nat) : at' s i ≠ 32 → TG s (.row 0 true) d i (.ok .lnil i)
 | need (n : Nat) (m : Bool) (d i : Nat) : 0 < n → at' s i ≠ 32 → TG s (.row n m) d i (.bad i)
 | bad (n : Nat) (m : Bool) (d i j : Nat) : (0 < n ∨ m = true) → at' s i = 32 → TG s .thing d (i + 1) (.bad j) → TG s (.row n m) d i (.bad j)
 | go (n : Nat) (m : Bool) (d i j : Nat) (t : Tr) (q : R Tr) : (0 < n ∨ m = true) → at' s i = 32 → TG s .thing d (i + 1) (.ok t j) → TG s (.row (n - 1) m) d j q → TG s (.row n m) d i (q.map (.lcons t))
theorem TG.det {s : ByteArray} {k : TK} {d i : Nat} {q : R Tr} (h : TG s k d i q) : ∀ q', TG s k d i q' → q = q' := by
 induction h with
 | nil d i h1 => intro q' h; cases h <;> first | rfl | (exfalso; omega)
 | byte d i h1 h2 h3 => intro q' h; cases h <;> first | rfl | (exfalso; omega)
 | byte1 d i h1 h2 => intro q' h; cases h <;> first | rfl | (exfalso; omega)
 | byte2 d i h1 h2 h3 => intro q' h; cases h <;> first | rfl | (exfalso; omega)
 | opn d i q h1 h2 _ ih => intro q' h; cases h <;> first | (exfalso; omega) | (rename_i h4; rw [ih _ h4])
 | deep d i h1 h2 => intro q' h; cases h <;> first | rfl | (exfalso; omega)
 | none d i h1 h2 h3 => intro q' h; cases h <;> first | rfl | (exfalso; omega)
 | grp d i q h1 h2 h3 _ ih => intro q' h; cases h <;> first | (exfalso; omega) | (rename_i h4; rw [ih _ h4])
 | grp1 d i h1 h2 => intro q' h; cases h <;> first | rfl | (exfalso; omega)
 | alt d i q h1 h2 _ ih =>
  intro q' h
  cases h with
  | alt _ _ q' _ _ h4 => rw [ih _ h4]
  | alt1 _ _ _ h4 => rw [h2] at h4; cases h4
  | _ => exfalso; omega
 | alt1 d i h1 h2 =>
  intro q' h
  cases h with
  | alt _ _ q' _ h4 _ => rw [h2] at h4; cases h4
  | alt1 => rfl
  | _ => exfalso; omega
 | ser d i q h1 _ ih => intro q' h; cases h <;> first | (exfalso; omega) | (rename_i h4; rw [ih _ h4])
 | rep d i q h1 _ ih => intro q' h; cases h <;> first | (exfalso; omega) | (rename_i h4; rw [ih _ h4])
 | other d i h1 h2 h3 h4 => intro q' h; cases h <;> first | rfl | (exfalso; omega)
 | fin d i =>
  intro q' h
  cases h with
  | fin => rfl
  | need _ _ _ _ h => omega
  | bad _ _ _ _ _ h => rcases h with h | h; omega; cases h
  | go _ _ _ _ _ _ _ h => rcases h with h | h; omega; cases h
 | stop d i h1 =>
  intro q' h
  cases h with
  | stop => rfl
  | need _ _ _ _ h => omega
  | bad _ _ _ _ _ _ h => exact absurd h h1
  | go _ _ _ _ _ _ _ _ h => exact absurd h h1
 | need n m d i h0 h1 =>
  intro q' h
  cases h with
  | fin => omega
  | stop => omega
  | need => rfl
  | bad _ _ _ _ _ _ h => exact absurd h h1
  | go _ _ _ _ _ _ _ _ h => exact absurd h h1
 | bad n m d i j h0 h1 _ ih =>
  intro q' h
  cases h with
  | fin => rcases h0 with h | h; omega; cases h
  | stop _ _ h => exact absurd h1 h
  | need _ _ _ _ _ h => exact absurd h1 h
  | bad _ _ _ _ j' _ _ h => have := ih _ h; cases this; rfl
  | go _ _ _ _ j' t q _ _ h => have := ih _ h; cases this
 | go n m d i j t q h0 h1 _ _ ih1 ih2 =>
  intro q' h
  cases h with
  | fin => rcases h0 with h | h; omega; cases h
  | stop _ _ h => exact absurd h1 h
  | need _ _ _ _ _ h => exact absurd h1 h
  | bad _ _ _ _ j' _ _ h => have := ih1 _ h; cases this
  | go _ _ _ _ j' t' q' _ _ h h' =>
   have := ih1 _ h
   cases this
   rw [ih2 _ h']
theorem at'_lt_of {s : ByteArray} {i : Nat} {c : Int} (h : at' s i = c) (hc : 0 ≤ c) : i < s.size := at'_nn (by omega)
theorem plE_le {s : ByteArray} {i : Nat} (h : digB (at' s i) = true) : i < plE s i ∧ plE s i ≤ s.size := by
 have h1 : i < s.size := at'_nn (by simp [digB] at h; omega)
 unfold plE
 split
 ·rename_i h2
  have : i + 1 < s.size := at'_nn (by have := h2.2.2; simp [digB] at this; omega)
  omega
 ·omega
theorem hexd_lt {s : ByteArray} {i : Nat} (h : 0 ≤ hexd (at' s i)) : i < s.size := by
 apply at'_nn
 unfold hexd at h
 split at h
 ·omega
 ·split at h
  ·omega
  ·omega
def TKb (s : ByteArray) (k : TK) (i : Nat) : R Tr → Prop
 | .ok _ j => i ≤ j ∧ j ≤ s.size ∧ (k = .thing → i < j)
 | .bad j => j ≤ s.size
theorem TG.bd {s : ByteArray} {k : TK} {d i : Nat} {q : R Tr} (h : TG s k d i q) : i ≤ s.size → TKb s k i q := by
 induction h with
 | nil d i h1 => intro _; have := at'_lt_of h1 (by decide); exact ⟨by omega, by omega, fun _ => by omega⟩
 | byte d i h1 h2 h3 => intro _; have := hexd_lt h3; exact ⟨by omega, by omega, fun _ => by omega⟩
 | byte1 d i h1 h2 => intro _; have := at'_lt_of h1 (by decide); show i + 1 ≤ s.size; omega
 | byte2 d i h1 h2 h3 => intro _; have := hexd_lt h2; show i + 2 ≤ s.size; omega
 | opn d i q h1 h2 _ ih =>
  intro _
  have := at'_lt_of h1 (by decide)
  have h := ih (by omega)
  cases q with
  | bad j => exact h
  | ok t j =>
   obtain ⟨a, b, _⟩ := h
   by_cases h3 : at' s j = 41
   ·simp only [shut, if_pos h3]
    have := at'_lt_of h3 (by decide)
    exact ⟨by omega, by omega, fun _ => by omega⟩
   ·simp only [shut, if_neg h3]
    exact b
 | deep d i h1 h2 => intro h; exact h
 | none d i h1 h2 h3 => intro h; exact h
 | grp d i q h1 h2 h3 _ ih =>
  intro _
  have : i + 1 < s.size := at'_nn (by omega)
  have h := ih (by omega)
  cases q with
  | bad j => exact h
  | ok t j => obtain ⟨a, b, _⟩ := h; exact ⟨by omega, b, fun e => by cases e⟩
 | grp1 d i h1 h2 => intro _; have := at'_lt_of h1 (by decide); show i + 1 ≤ s.size; omega
 | alt d i q h1 h2 _ ih =>
  intro _
  have hp := plE_le h2
  have h := ih hp.2
  cases q with
  | bad j => exact h
  | ok t j => obtain ⟨a, b, _⟩ := h; exact ⟨by omega, b, fun e => by cases e⟩
 | alt1 d i h1 h2 => intro _; have := at'_lt_of h1 (by decide); show i + 1 ≤ s.size; omega
 | ser d i q h1 _ ih =>
  intro _
  have := at'_lt_of h1 (by decide)
  have h := ih (by omega)
  cases q with
  | bad j => exact h
  | ok t j => obtain ⟨a, b, _⟩ := h; exact ⟨by omega, b, fun e => by cases e⟩
 | rep d i q h1 _ ih =>
  intro _
  have := at'_lt_of h1 (by decide)
  have h := ih (by omega)
  cases q with
  | bad j => exact h
  | ok t j => obtain ⟨a, b, _⟩ := h; exact ⟨by omega, b, fun e => by cases e⟩
 | other d i h1 h2 h3 h4 => intro h; exact h
 | fin d i => intro h; exact ⟨Nat.le_refl _, h, fun e => by cases e⟩
 | stop d i h1 => intro h; exact ⟨Nat.le_refl _, h, fun e => by cases e⟩
 | need n m d i h0 h1 => intro h; exact h
 | bad n m d i j h0 h1 _ ih => intro _; have := at'_lt_of h1 (by decide); exact ih (by omega)
 | go n m d i j t q h0 h1 _ _ ih1 ih2 =>
  intro _
  have := at'_lt_of h1 (by decide)
  obtain ⟨a, b, c⟩ := ih1 (by omega)
  have h := ih2 b
  cases q with
  | bad j => exact h
  | ok t j => obtain ⟨a', b', _⟩ := h; exact ⟨by omega, b', fun e => by cases e⟩
end Go.Proofs.YtnfojonmohijpaaGreatDoor
namespace Go.Proofs.YtnfojonmohijpaaGreatDoor
open Go.RowKit
def UPB (b : Nat) (p : US) (w : World) (r : R Int) (e : Ending) (w' : World) : Prop :=
 Keeps [b] w w' ∧ match r with
  | .ok v j => e = .returned (.int .u8 v) ∧ UB w' b { p with ix := j }
  | .bad j => e = fault j
def UPN (b : Nat) (p : US) (w : World) (r : R Nat) (e : Ending) (w' : World) : Prop :=
 Keeps [b] w w' ∧ match r with
  | .ok v j => e = .returned (.int .i64 v) ∧ UB w' b { p with ix := j }
  | .bad j => e = fault j
theorem ucur_bd (p : US) : -1 ≤ p.cur ∧ p.cur ≤ 255 := by
 show -1 ≤ at' p.s p.ix ∧ at' p.s p.ix ≤ 255
 by_cases h : p.ix < p.s.size
 ·rw [at'_lt h]; have := p.s[p.ix].toNat_lt; omega
 ·rw [at'_ge (by omega)]; omega
theorem utake_may (b : Nat) (p : US) (F : Nat) (caps : Array Value) (v : Bool) (w : World) (hp : UB w b p) (hs : p.s.size ≤ 20000) (hle : p.ix ≤ p.s.size) (hm : 0 ≤ p.cur → May F caps p.cur v w) (r : R Int)
    (hr : r = if 0 ≤ p.cur ∧ v = true then .ok p.cur (p.ix + 1) else .bad p.ix) :
    Calls Tryz.prog 218 #[.pointer (some ⟨b, 0, none⟩), .func (.func F) #[] caps] w (UPB b p w r) := by
 subst hr
 by_cases hlt : p.ix < p.s.size
 ·have h0 : 0 ≤ p.cur := by show 0 ≤ at' p.s p.ix; rw [at'_lt hlt]; omega
  cases v
  ·rw [if_neg (by simp)]
   refine (utake_bad b p F caps w hp hs hlt (hm h0)).mono ?_
   rintro e w' ⟨rfl, hk⟩
   exact ⟨hk, rfl⟩
  ·rw [if_pos ⟨h0, rfl⟩]
   refine (utake_ok b p F caps w hp hs hlt (hm h0)).mono ?_
   rintro e w' ⟨rfl, hq, hk⟩
   exact ⟨hk, rfl, hq⟩
 ·have hge : p.ix = p.s.size := by omega
  have h0 : p.cur = -1 := at'_ge (by omega)
  rw [if_neg (by rw [h0]; omega)]
  refine (utake_end b p _ w hp hge).mono ?_
  rintro e w' ⟨rfl, hk⟩
  exact ⟨hk, rfl⟩
theorem cf_isHex (args : Array Value) (w : World) : (callFunc 219 args).run Tryz.prog w = .ok (.enter 219 args) w := by kernel_rfl
theorem cf_isDigit (args : Array Value) (w : World) : (callFunc 236 args).run Tryz.prog w = .ok (.enter 236 args) w := by kernel_rfl
theorem cf_op1 (args : Array Value) (w : World) : (callFunc 256 args).run Tryz.prog w = .ok (.enter 256 args) w := by kernel_rfl
theorem cf_gn1 (args : Array Value) (w : World) : (callFunc 279 args).run Tryz.prog w = .ok (.enter 279 args) w := by kernel_rfl
theorem may_isHex {c : Int} (h0 : 0 ≤ c) (h1 : c ≤ 255) (w : World) : May 219 #[] c (decide (0 ≤ hexd c)) w :=
 ⟨cf_isHex, fun w1 _ => (isHex_any c h0 h1 w1).mono fun e w2 ⟨he, hw⟩ => ⟨he, by rw [hw]; exact Keeps.refl _ _⟩⟩
theorem may_isDigit {c : Int} (w : World) : May 236 #[] c (digB c) w :=
 ⟨cf_isDigit, fun w1 _ => (isDigit_any c w1).mono fun e w2 ⟨he, hw⟩ => ⟨he, by rw [hw]; exact Keeps.refl _ _⟩⟩
def opB (c : Int) : Bool := decide (c = 103 ∨ c = 114 ∨ c = 115 ∨ c = 97)
set_option maxRecDepth 100000 in
theorem op_idx (c : Int) (h0 : 0 ≤ c) (h1 : c ≤ 255) : decide (0 ≤ Lib.indexByte (ByteArray.data ⟨#[103, 114, 115, 97]⟩).toList c.toNat.toUInt8) = opB c := by
 obtain ⟨n, rfl⟩ : ∃ n : Nat, c = n := ⟨c.toNat, by omega⟩
 have hn : n < 256 := by omega
 have key : ∀ m : Fin 256, decide (0 ≤ Lib.indexByte (ByteArray.data ⟨#[103, 114, 115, 97]⟩).toList ((m.val : Int)).toNat.toUInt8) = opB (m.val : Int) := by decide
 exact key ⟨n, hn⟩
set_option maxHeartbeats 400000 in
theorem op1_any (c : Int) (h0 : 0 ≤ c) (h1 : c ≤ 255) (w : World) :
    Calls Tryz.prog 256 #[.int .u8 c] w fun e w' => e = .returned (.bool (opB c)) ∧ w' = w := by
 have hi := op_idx c h0 h1
 go_enter Tryz.func256, Tryz.ntmps256
 go_wp2_with (go_at_call 246; refine (index_any _ c _).mono ?_; rintro e w' ⟨rfl, rfl⟩)
 go_ret
 exact ⟨ret_bool (by first | exact hi | simp [hi]), rfl⟩
theorem may_op1 {c : Int} (h0 : 0 ≤ c) (h1 : c ≤ 255) (w : World) : May 256 #[] c (opB c) w :=
 ⟨cf_op1, fun w1 _ => (op1_any c h0 h1 w1).mono fun e w2 ⟨he, hw⟩ => ⟨he, by rw [hw]; exact Keeps.refl _ _⟩⟩
def gnB (c : Int) : Bool := decide (49 ≤ c ∧ c ≤ 57)
set_option maxHeartbeats 400000 in
theorem gn1_any (c : Int) (w : World) :
    Calls Tryz.prog 279 #[.int .u8 c] w fun e w' => e = .returned (.bool (gnB c)) ∧ w' = w := by
 cases hd : digB c
 ·have hg : gnB c = false := by simp [digB] at hd; simp [gnB]; omega
  go_enter Tryz.func279, Tryz.ntmps279
  go_wp2_with (first | (go_at_call 236; refine (isDigit_any c _).mono ?_; rintro e w' ⟨rfl, rfl⟩))
  go_ret
  exact ⟨by rw [hg]; rfl, rfl⟩
 ·by_cases h48 : c = 48
  ·subst h48
   have hg : gnB 48 = false := by decide
   go_enter Tryz.func279, Tryz.ntmps279
   go_wp2_with (first | (go_at_call 236; refine (isDigit_any 48 _).mono ?_; rintro e w' ⟨rfl, rfl⟩))
   go_ret
   exact ⟨by rw [hg]; rfl, rfl⟩
  ·have hg : gnB c = true := by simp [digB] at hd; simp [gnB]; omega
   have hn48 : (c == 48) = false := by simpa using h48
   have hn49 : (c != 48) = true := by simpa using h48
   go_enter Tryz.func279, Tryz.ntmps279
   go_wp2_with (first | (go_at_call 236; refine (isDigit_any c _).mono ?_; rintro e w' ⟨rfl, rfl⟩))
   go_ret
   exact ⟨by rw [hg]; first | rfl | simp [h48], rfl⟩
theorem may_gn1 {c : Int} (w : World) : May 279 #[] c (gnB c) w :=
 ⟨cf_gn1, fun w1 _ => (gn1_any c w1).mono fun e w2 ⟨he, hw⟩ => ⟨he, by rw [hw]; exact Keeps.refl _ _⟩⟩
def gnR (p : US) : R Nat := if gnB p.cur = true then .ok (p.cur - 48).toNat (p.ix + 1) else .bad p.ix
set_option maxRecDepth 100000 in
set_option maxHeartbeats 400000 in
theorem groupNumber_any (b : Nat) (p : US) (w : World) (hp : UB w b p) (hs : p.s.size ≤ 20000) (hle : p.ix ≤ p.s.size) :
    Calls Tryz.prog 257 #[.pointer (some ⟨b, 0, none⟩)] w (UPN b p w (gnR p)) := by
 have hT := utake_may b p 279 #[] (gnB p.cur) w hp hs hle (fun _ => may_gn1 w) _ rfl
 unfold gnR
 by_cases hg : gnB p.cur = true
 ·have hc : 49 ≤ p.cur ∧ p.cur ≤ 57 := by simpa [gnB] using hg
  rw [if_pos ⟨by omega, hg⟩] at hT
  rw [if_pos hg]
  obtain ⟨c, hcc⟩ : ∃ c : Nat, p.cur = ((48 + c : Nat) : Int) := ⟨(p.cur - 48).toNat, by omega⟩
  have hc9 : c ≤ 9 := by omega
  have e : (p.cur - 48).toNat = c := by omega
  rw [e]
  rw [hcc] at hT
  clear hc hg hcc e
  have hci : (c : Int) ≤ 9 := by omega
  go_enter Tryz.func257, Tryz.ntmps257
  go_wp2_with (first | (go_at_call 218; refine hT.mono ?_; rintro e w1 ⟨hk, rfl, hq⟩))
  go_ret
  exact ⟨hk, by go_num, hq⟩
 ·rw [if_neg (fun h => hg h.2)] at hT
  rw [if_neg hg]
  go_enter Tryz.func257, Tryz.ntmps257
  go_wp2_with (first | (go_at_call 218; refine hT.mono ?_; rintro e w1 ⟨hk, rfl⟩; simp only [fault]))
  exact ⟨rfl, hk, rfl⟩
end Go.Proofs.YtnfojonmohijpaaGreatDoor
namespace Go.Proofs.YtnfojonmohijpaaGreatDoor
open Go.RowKit
def fit1 (word : List UInt8) (c : Int) (n : List UInt8) : Bool := decide (word.length < n.length) && decide (n.take word.length = word) && decide (((n.getD word.length 0).toNat : Int) = c)
def fitTo (word : List UInt8) (c : Int) (k : Nat) : Bool := (names.take k).any (fit1 word c)
theorem fitTo_all (word : List UInt8) (c : Int) : fitTo word c 7 = goesOn word c := rfl
theorem fit1_none (word : List UInt8) (n : List UInt8) : fit1 word (-1) n = false := by
 unfold fit1
 have : ¬ (((n.getD word.length 0).toNat : Int) = -1) := by omega
 simp only [decide_eq_false this, Bool.and_false]
theorem goesOn_none (word : List UInt8) : goesOn word (-1) = false := by
 rw [← fitTo_all]
 unfold fitTo
 simp [fit1_none]
theorem eqX (a b : List UInt8) (n : Nat) : (((nmB a).extract 0 n).toList == (nmB b).toList) = decide (a.take n = b) := by
 rw [ByteArray.toList_eq, ByteArray.toList_eq, nmB_toList]
 have : ((nmB a).extract 0 n).data.toList = a.take n := by
  rw [Lib.extract_data]; simp [nmB]
 rw [this]
 by_cases h : a.take n = b
 ·subst h; simp
 ·simp [h]
theorem get!_eq {s : ByteArray} {i : Nat} (h : i < s.size) : s.get! i = s[i] := by
 obtain ⟨a⟩ := s
 have h' : i < a.size := h
 show a[i]! = a[i]
 exact getElem!_pos a i h'
theorem goesOn_mem {word : List UInt8} {s : ByteArray} {i : Nat} (hg : goesOn word (at' s i) = true) (hw : word.length ≤ 4) (hi : i < s.size) : (word ++ [s.get! i]).length = 5 → word ++ [s.get! i] ∈ names := by
 intro h5
 have h4 : word.length = 4 := by simp at h5; omega
 unfold goesOn at hg
 simp only [List.any_eq_true, Bool.and_eq_true, decide_eq_true_eq] at hg
 obtain ⟨n, hn, ⟨hl, ht⟩, hc⟩ := hg
 have hl5 := names_len n hn
 rw [at'_lt hi] at hc
 have hc' : n.getD word.length 0 = s[i] := by
  apply UInt8.toNat_inj.1
  omega
 have : n = word ++ [s.get! i] := by
  rw [get!_eq hi, ← hc']
  rw [h4] at ht ⊢
  match n, hl5 with
  | [a, b, c, d, e], _ =>
   simp at ht
   rw [← ht]; rfl
 rw [← this]; exact hn
end Go.Proofs.YtnfojonmohijpaaGreatDoor
namespace Go.Proofs.YtnfojonmohijpaaGreatDoor
open Go.RowKit
def cellInt (w : World) (b o : Nat) : Int := match w.cell? ⟨b, o, none⟩ with
 | some v => intOf v
 | none => 0
end Go.Proofs.YtnfojonmohijpaaGreatDoor
namespace Go.Proofs.YtnfojonmohijpaaGreatDoor
open Go.RowKit
theorem _root_.Go.World.ownsRow.setOther {w : World} {base : Nat} {e : TypeId} {size : Nat} {v : Value} {n : Nat} {xs : List Value} (h : w.ownsRow base e size v n xs) {a : Addr} (ha : v.ownBlock ≠ some a.block) (u : Value) : (w.setCell a u).ownsRow base e size v n xs :=
 h.kept (row := some a.block) ⟨rfl, rfl, rfl, by simp, fun k _ hk => Below.heap_setCell _ _ _ _ (by intro e; exact hk (by rw [e]))⟩ (Or.inr ha)
theorem _root_.Go.World.ownsRow.keep {w w' : World} {base : Nat} {e : TypeId} {size : Nat} {v : Value} {n : Nat} {xs : List Value} {S : List Nat} (h : w.ownsRow base e size v n xs) (hk : Keeps S w w') (hs : ∀ g, v.ownBlock = some g → g ∉ S) : w'.ownsRow base e size v n xs := by
 refine ⟨h.1, ?_⟩
 rcases h.2 with hn | ⟨g, cap, cur, rfl, hb, hgg, rest⟩
 ·exact .inl hn
 ·refine .inr ⟨g, cap, cur, rfl, hb, ?_, rest⟩
  rw [hk.block g (Array.getElem?_eq_some_iff.1 hgg).1 (hs g rfl)]
  exact hgg
end Go.Proofs.YtnfojonmohijpaaGreatDoor
