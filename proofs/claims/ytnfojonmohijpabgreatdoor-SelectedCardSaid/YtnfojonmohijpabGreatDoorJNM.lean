/-
  DERIVED. Plain mathematics: trees as things of their own, their text and their groups' stretches; the tree that is meant, as such a thing; repeats that match nothing; what the times that are left can match. Nothing of the program stands here.
-/
import Derived.Test.YtnfojonmohijpabGreatDoorJKB
import Derived.Test.YtnfojonmohijpabGreatDoorJPQ
import Derived.Test.YtnfojonmohijpabGreatDoorJPW
import Derived.Test.YtnfojonmohijpabGreatDoorJSpec
import Derived.Deep.CutRange
set_option linter.unusedSimpArgs false
set_option linter.unusedVariables false
namespace Go.Proofs.YtnfojonmohijpabGreatDoor
inductive Tr where
 | tnil
 | tbyte (b : Nat)
 | tgrp (k : Nat) (x : Tr)
 | talt (p : Nat) (x : Tr)
 | tser (l : Tr)
 | trep (l : Tr)
 | lnil
 | lcons (x r : Tr)
def Tr.text : Tr → List UInt8
 | .tnil => [101]
 | .tbyte b => [98] ++ hexT b
 | .tgrp k x => [40, 103] ++ decT k ++ [32] ++ x.text ++ [41]
 | .talt p x => [40, 97] ++ decT p ++ [32] ++ x.text ++ [41]
 | .tser l => [40, 115] ++ l.text ++ [41]
 | .trep l => [40, 114] ++ l.text ++ [41]
 | .lnil => []
 | .lcons x r => [32] ++ x.text ++ r.text
def Tr.len : Tr → Nat
 | .tnil => 0
 | .tbyte _ => 1
 | .tgrp _ x => x.len
 | .talt _ x => x.len
 | .tser l => l.len
 | .trep l => l.len
 | .lnil => 0
 | .lcons x r => x.len + r.len
def Tr.evs : Tr → Nat → List (Nat × Nat × Nat)
 | .tnil, _ => []
 | .tbyte _, _ => []
 | .tgrp k x, i => (k, i, i + x.len) :: x.evs i
 | .talt _ x, i => x.evs i
 | .tser l, i => l.evs i
 | .trep l, i => l.evs i
 | .lnil, _ => []
 | .lcons x r, i => x.evs i ++ r.evs (i + x.len)
inductive TT (s : ByteArray) : Job → Nat → Nat → Tr → Prop
 | byte (f : Nat → Bool) (i j : Nat) : TT s (.node (.set f)) i j (.tbyte (at' s i).toNat)
 | grp (k : Nat) (x : Pat) (i j : Nat) (t : Tr) : k ≤ 9 → TT s (.node x) i j t → TT s (.node (.grp k x)) i j (.tgrp k t)
 | nil (i j : Nat) : TT s (.node .pnil) i j .tnil
 | lone (x : Pat) (i j : Nat) (t : Tr) : TT s (.node x) i j t → TT s (.node (.pcons x .pnil)) i j t
 | row (x y r : Pat) (i j : Nat) (l : Tr) : TT s (.kids (.pcons x (.pcons y r))) i j l → TT s (.node (.pcons x (.pcons y r))) i j (.tser l)
 | kend (i j : Nat) : TT s (.kids .pnil) i j .lnil
 | kgo (x r : Pat) (i j c : Nat) (t u : Tr) : Cut (fun m => Mt s x i m ∧ Mt s r m j) i j c → TT s (.node x) i c t → TT s (.kids r) c j u → TT s (.kids (.pcons x r)) i j (.lcons t u)
 | rep (mn : Nat) (mx : Int) (x : Pat) (i j : Nat) (l : Tr) : TT s (.times mn mx x) i j l → TT s (.node (.rep mn mx x)) i j (.trep l)
 | tend (mn : Nat) (mx : Int) (x : Pat) (i j : Nat) : ¬ (i < j ∨ 0 < mn) → TT s (.times mn mx x) i j .lnil
 | tgo (mn : Nat) (mx : Int) (x : Pat) (i j c : Nat) (t u : Tr) : (i < j ∨ 0 < mn) → Cut (fun m => Mt s x i m ∧ Tm (Mt s x) (mn - 1) (less mx) m j) i j c → TT s (.node x) i c t → TT s (.times (mn - 1) (less mx) x) c j u → TT s (.times mn mx x) i j (.lcons t u)
 | wone (x : Pat) (i j : Nat) (t : Tr) : TT s (.node x) i j t → TT s (.node (.wone x)) i j t
 | wcons (x r : Pat) (i j : Nat) (t : Tr) : TT s (.alts 0 (.wcons x r)) i j t → TT s (.node (.wcons x r)) i j t
 | hit (p : Nat) (x r : Pat) (i j : Nat) (t : Tr) : Mt s x i j → TT s (.node x) i j t → TT s (.alts p (.wcons x r)) i j (.talt p t)
 | miss (p : Nat) (x r : Pat) (i j : Nat) (t : Tr) : ¬ Mt s x i j → TT s (.alts (p + 1) r) i j t → TT s (.alts p (.wcons x r)) i j t
 | last (p : Nat) (x : Pat) (i j : Nat) (t : Tr) : TT s (.node x) i j t → TT s (.alts p (.wone x)) i j (.talt p t)
theorem decT_dig {k : Nat} (h : k ≤ 9) : decT k = digT k := by unfold decT; rw [if_pos (by omega)]
theorem TT.toTR {s : ByteArray} {J : Job} {i j : Nat} {t : Tr} (h : TT s J i j t) : J.ok s i j → TR s J i j t.text (t.evs i) ∧ i + t.len = j := by
 have hle : ∀ {x : Pat} (i j : Nat), Mt s x i j → i ≤ j := fun _ _ h => h.le
 induction h with
 | byte f i j => intro h; exact ⟨.byte f i j, h.2.2.symm⟩
 | grp k x i j t hk _ ih =>
  intro h
  obtain ⟨a, b⟩ := ih h
  refine ⟨?_, b⟩
  simp only [Tr.text, Tr.evs, b, decT_dig hk]
  exact .grp k x i j _ _ a
 | nil i j => intro h; exact ⟨.nil i j, h⟩
 | lone x i j t _ ih =>
  rintro ⟨m, a, b⟩
  have b' : m = j := b
  subst b'
  exact ⟨.lone x i m _ _ (ih a).1, (ih a).2⟩
 | row x y r i j l _ ih => intro h; exact ⟨.row x y r i j _ _ (ih h).1, (ih h).2⟩
 | kend i j => intro h; exact ⟨.kend i j, h⟩
 | kgo x r i j c t u hc _ _ ih1 ih2 =>
  rintro ⟨m, a, b⟩
  have hP := hc.hit ⟨m, a.le, b.le, a, b⟩
  obtain ⟨a1, b1⟩ := ih1 hP.1
  obtain ⟨a2, b2⟩ := ih2 hP.2
  refine ⟨?_, by simp only [Tr.len]; omega⟩
  simp only [Tr.text, Tr.evs, b1]
  exact .kgo x r i j c _ _ _ _ hc a1 a2
 | rep mn mx x i j l _ ih => intro h; exact ⟨.rep mn mx x i j _ _ (ih h).1, (ih h).2⟩
 | tend mn mx x i j hn =>
  intro h
  have := Tm.le hle h
  exact ⟨.tend mn mx x i j hn, by simp only [Tr.len]; omega⟩
 | tgo mn mx x i j c t u hg hc _ _ ih1 ih2 =>
  intro h
  obtain ⟨hP, _⟩ := Tm.cut hle h hg hc
  obtain ⟨a1, b1⟩ := ih1 hP.1
  obtain ⟨a2, b2⟩ := ih2 hP.2
  refine ⟨?_, by simp only [Tr.len]; omega⟩
  simp only [Tr.text, Tr.evs, b1]
  exact .tgo mn mx x i j c _ _ _ _ hg hc a1 a2
 | wone x i j t _ ih => intro h; exact ⟨.wone x i j _ _ (ih h).1, (ih h).2⟩
 | wcons x r i j t _ ih => intro h; exact ⟨.wcons x r i j _ _ (ih h).1, (ih h).2⟩
 | hit p x r i j t hm _ ih => intro h; exact ⟨.hit p x r i j _ _ hm (ih hm).1, (ih hm).2⟩
 | miss p x r i j t hn _ ih =>
  intro h
  have h' := Or.resolve_left h hn
  exact ⟨.miss p x r i j _ _ hn (ih h').1, (ih h').2⟩
 | last p x i j t _ ih => intro h; exact ⟨.last p x i j _ _ (ih h).1, (ih h).2⟩
theorem It.still {R : Nat → Nat → Prop} (hle : ∀ i j, R i j → i ≤ j) : ∀ {n i : Nat}, It R n i i → n = 0 ∨ R i i
 | 0, _, _ => Or.inl rfl
 | n + 1, i, ⟨m, a, b⟩ => by
  have h1 := hle i m a
  have h2 := It.mono hle b
  have : m = i := by omega
  subst this
  exact Or.inr a
theorem It.rest {R : Nat → Nat → Prop} {i : Nat} (h : R i i) : ∀ n, It R n i i
 | 0 => rfl
 | n + 1 => ⟨i, h, It.rest h n⟩
theorem Mt.null {s : ByteArray} : ∀ {x : Pat} {i m : Nat}, Mt s x i i → Mt s x m m
 | .set _, i, _, h => by have := h.2.2; omega
 | .grp _ x, _, _, h => Mt.null (x := x) h
 | .rep _ _ x, i, m, ⟨n, a, b, h⟩ => by
  rcases It.still (fun _ _ => Mt.le (x := x)) h with h0 | h0
  ·exact ⟨n, a, b, by subst h0; rfl⟩
  ·exact ⟨n, a, b, It.rest (Mt.null (x := x) h0) n⟩
 | .pnil, _, _, _ => rfl
 | .pcons x r, i, m, ⟨q, a, b⟩ => by
  have h1 := Mt.le (x := x) a
  have h2 := Mt.le (x := r) b
  have : q = i := by omega
  subst this
  exact ⟨m, Mt.null (x := x) a, Mt.null (x := r) b⟩
 | .wone x, _, _, h => Mt.null (x := x) h
 | .wcons x r, _, _, h => h.elim (fun h => Or.inl (Mt.null (x := x) h)) (fun h => Or.inr (Mt.null (x := r) h))
theorem It.front {R : Nat → Nat → Prop} (hle : ∀ i j, R i j → i ≤ j) (hnull : ∀ i m, R i i → R m m) {j : Nat} : ∀ {n i : Nat}, It R n i j → i < j → ∃ m k, n = k + 1 ∧ i < m ∧ m ≤ j ∧ R i m ∧ It R k m j
 | 0, i, h, hij => by have : i = j := h; omega
 | n + 1, i, ⟨m, r, h⟩, hij => by
  by_cases e : i < m
  ·exact ⟨m, n, rfl, e, It.mono hle h, r, h⟩
  ·have : m = i := by have := hle i m r; omega
   subst this
   obtain ⟨m', k, hk, h1, h2, h3, h4⟩ := It.front hle hnull h hij
   exact ⟨m', k + 1, by omega, h1, h2, h3, m', hnull m m' r, h4⟩
theorem Tm.front {R : Nat → Nat → Prop} (hle : ∀ i j, R i j → i ≤ j) (hnull : ∀ i m, R i i → R m m) {mn : Nat} {mx : Int} {i j : Nat} (h : Tm R mn mx i j) (hij : i < j) : ∃ m, i < m ∧ m ≤ j ∧ R i m ∧ Tm R (mn - 1) (less mx) m j := by
 obtain ⟨n, a, b, h⟩ := h
 obtain ⟨m, k, rfl, h1, h2, h3, h4⟩ := It.front hle hnull h hij
 exact ⟨m, h1, h2, h3, k, by omega, less_ok b, h4⟩
theorem Tm.cutFront {R : Nat → Nat → Prop} (hle : ∀ i j, R i j → i ≤ j) (hnull : ∀ i m, R i i → R m m) {mn : Nat} {mx : Int} {i j c : Nat} (h : Tm R mn mx i j) (hij : i < j) (hc : Cut (fun m => R i m ∧ Tm R (mn - 1) (less mx) m j) i j c) :
    i < c ∧ R i c ∧ Tm R (mn - 1) (less mx) c j := by
 obtain ⟨m, a, b, d⟩ := h.front hle hnull hij
 have hic : i < c := by
  rcases Nat.lt_or_ge i c with h | h
  ·exact h
  ·have : c = i := by have := hc.1; omega
   subst this
   exact absurd d (hc.2.2.2 m a b)
 exact ⟨hic, hc.2.2.1 hic⟩
def lessN (mx : Int) : Nat → Int
 | 0 => mx
 | d + 1 => less (lessN mx d)
theorem lessN_any (mx : Int) (h : mx < 0) : ∀ d, lessN mx d = mx
 | 0 => rfl
 | d + 1 => by simp only [lessN, lessN_any mx h d, less]; rw [if_neg (by omega)]
theorem lessN_some (m : Nat) : ∀ d, lessN (m : Int) d = ((m - d : Nat) : Int)
 | 0 => rfl
 | d + 1 => by
  simp only [lessN, lessN_some m d, less]
  split <;> omega
def Left (R : Nat → Nat → Prop) (mn : Nat) (mx : Int) (d : Nat) (i j : Nat) : Prop := Tm R (mn - d) (lessN mx d) i j
theorem Tm.none {R : Nat → Nat → Prop} {i j : Nat} : Tm R 0 0 i j ↔ i = j := by
 constructor
 ·rintro ⟨n, _, b, h⟩
  have : n = 0 := by omega
  subst this
  exact h
 ·intro h; exact ⟨0, by omega, by omega, h⟩
theorem Tm.must {R : Nat → Nat → Prop} {mn : Nat} {mx : Int} {i j : Nat} (hm : 0 < mn) : Tm R mn mx i j ↔ (mx ≠ 0 ∧ ∃ m, R i m ∧ Tm R (mn - 1) (less mx) m j) := by
 constructor
 ·rintro ⟨n, a, b, h⟩
  cases n with
  | zero => omega
  | succ n =>
   obtain ⟨m, r, h⟩ := h
   exact ⟨by omega, m, r, n, by omega, less_ok b, h⟩
 ·rintro ⟨h0, m, r, n, a, b, h⟩
  refine ⟨n + 1, by omega, ?_, m, r, h⟩
  unfold less at b
  split at b <;> omega
theorem Tm.may {R : Nat → Nat → Prop} {mx : Int} {i j : Nat} (hm : 0 < mx) : Tm R 0 mx i j ↔ (i = j ∨ ∃ m, R i m ∧ Tm R 0 (less mx) m j) := by
 constructor
 ·rintro ⟨n, a, b, h⟩
  cases n with
  | zero => exact Or.inl h
  | succ n =>
   obtain ⟨m, r, h⟩ := h
   exact Or.inr ⟨m, r, n, by omega, less_ok b, h⟩
 ·rintro (h | ⟨m, r, n, a, b, h⟩)
  ·exact ⟨0, by omega, by omega, h⟩
  ·refine ⟨n + 1, by omega, ?_, m, r, h⟩
   unfold less at b
   split at b <;> omega
theorem Left.step {R : Nat → Nat → Prop} {mn : Nat} {mx : Int} {d i j : Nat} (h : mx < 0 ∧ d < mn ∨ (d : Int) < mx) :
    Left R mn mx d i j ↔ ((mn ≤ d ∧ i = j) ∨ ∃ m, R i m ∧ Left R mn mx (d + 1) m j) := by
 have e1 : mn - (d + 1) = mn - d - 1 := by omega
 have e2 : lessN mx (d + 1) = less (lessN mx d) := rfl
 have hx : lessN mx d ≠ 0 ∧ (0 < mn - d ∨ 0 < lessN mx d) := by
  by_cases h0 : mx < 0
  ·rw [lessN_any mx h0]; omega
  ·obtain ⟨m, rfl⟩ : ∃ m : Nat, mx = m := ⟨mx.toNat, by omega⟩
   rw [lessN_some]; omega
 unfold Left
 rw [e1, e2]
 by_cases hm : 0 < mn - d
 ·rw [Tm.must hm]
  constructor
  ·rintro ⟨_, h⟩; exact Or.inr h
  ·rintro (⟨h, _⟩ | h)
   ·omega
   ·exact ⟨hx.1, h⟩
 ·have e0 : mn - d = 0 := by omega
  rw [e0, Tm.may (by omega)]
  constructor
  ·rintro (h | h)
   ·exact Or.inl ⟨by omega, h⟩
   ·exact Or.inr h
  ·rintro (⟨_, h⟩ | h)
   ·exact Or.inl h
   ·exact Or.inr h
theorem Left.past {R : Nat → Nat → Prop} {mn : Nat} {mx : Int} {d e : Nat} {i j : Nat} (hd : d ≤ e) (h : mx < 0 ∧ mn ≤ d ∨ 0 ≤ mx ∧ (mn : Int) ≤ mx ∧ mx ≤ d) : Left R mn mx e i j ↔ Left R mn mx d i j := by
 unfold Left
 have e1 : mn - e = 0 := by omega
 have e2 : mn - d = 0 := by omega
 rw [e1, e2]
 by_cases h0 : mx < 0
 ·rw [lessN_any mx h0, lessN_any mx h0]
 ·obtain ⟨m, rfl⟩ : ∃ m : Nat, mx = m := ⟨mx.toNat, by omega⟩
  rw [lessN_some, lessN_some, show m - e = 0 by omega, show m - d = 0 by omega]
end Go.Proofs.YtnfojonmohijpabGreatDoor
namespace Go.Proofs.YtnfojonmohijpabGreatDoor
open Go.RowKit
structure AO (R : Nat → Nat → Prop) (f : Nat → Nat → Bool) (N k : Nat) (h : Nat → Nat → Bool) : Prop where
 done : ∀ a b, k ≤ a → a < N → b < N → (h a b = true ↔ Tm R 0 (-1) a b)
 rest : ∀ a b, a < k → b < N → h a b = decide (a = b)
structure AI (R : Nat → Nat → Prop) (f : Nat → Nat → Bool) (N a0 m : Nat) (h : Nat → Nat → Bool) : Prop where
 done : ∀ a b, a0 < a → a < N → b < N → (h a b = true ↔ Tm R 0 (-1) a b)
 now : ∀ b, b < N → (h a0 b = true ↔ (a0 = b ∨ ∃ q, a0 < q ∧ q < m ∧ f a0 q = true ∧ Tm R 0 (-1) q b))
 rest : ∀ a b, a < a0 → b < N → h a b = decide (a = b)
theorem AO.into {R : Nat → Nat → Prop} {f h : Nat → Nat → Bool} {N a0 : Nat} (H : AO R f N (a0 + 1) h) : AI R f N a0 (a0 + 1) h :=
 ⟨fun a b x y z => H.done a b (by omega) y z, fun b hb => by
   rw [H.rest a0 b (by omega) hb, decide_eq_true_eq]
   constructor
   · exact Or.inl
   · rintro (e | ⟨q, x, y, _⟩)
     · exact e
     · omega, fun a b x y => H.rest a b (by omega) y⟩
theorem AI.skip {R : Nat → Nat → Prop} {f h : Nat → Nat → Bool} {N a0 m : Nat} (H : AI R f N a0 m h) (e : f a0 m = false) : AI R f N a0 (m + 1) h :=
 ⟨H.done, fun b hb => by
   rw [H.now b hb]
   constructor
   · rintro (x | ⟨q, x, y, z⟩)
     · exact Or.inl x
     · exact Or.inr ⟨q, x, by omega, z⟩
   · rintro (x | ⟨q, x, y, z, u⟩)
     · exact Or.inl x
     · refine Or.inr ⟨q, x, ?_, z, u⟩
       rcases Nat.lt_or_ge q m with h | h
       · exact h
       · have : q = m := by omega
         subst this
         rw [e] at z
         exact absurd z (by decide), H.rest⟩
theorem AI.more {R : Nat → Nat → Prop} {f h : Nat → Nat → Bool} {N a0 m : Nat} (H : AI R f N a0 m h) (hm : a0 < m) (hmN : m < N) (e : f a0 m = true) : AI R f N a0 (m + 1) (fun a b => h a b || (decide (a = a0) && h m b)) :=
 ⟨fun a b x y z => by
   rw [← H.done a b x y z]
   simp [show ¬ a = a0 by omega], fun b hb => by
   simp only [decide_true, Bool.true_and, Bool.or_eq_true]
   rw [H.now b hb, H.done m b hm hmN hb]
   constructor
   · rintro ((x | ⟨q, x, y, z⟩) | x)
     · exact Or.inl x
     · exact Or.inr ⟨q, x, by omega, z⟩
     · exact Or.inr ⟨m, hm, by omega, e, x⟩
   · rintro (x | ⟨q, x, y, z, u⟩)
     · exact Or.inl (Or.inl x)
     · rcases Nat.lt_or_ge q m with h | h
       · exact Or.inl (Or.inr ⟨q, x, h, z, u⟩)
       · have : q = m := by omega
         subst this
         exact Or.inr u, fun a b x y => by
   rw [← H.rest a b x y]
   simp [show ¬ a = a0 by omega]⟩
theorem Tm.star {R : Nat → Nat → Prop} (hle : ∀ i j, R i j → i ≤ j) {a b : Nat} : Tm R 0 (-1) a b ↔ (a = b ∨ ∃ q, a < q ∧ R a q ∧ Tm R 0 (-1) q b) := by
 constructor
 ·rintro ⟨n, h0, h1, h⟩
  by_cases e : a < b
  ·obtain ⟨m, p, _, r, t⟩ := Tm.move hle (mx := -1) h e (Or.inl (by omega))
   exact Or.inr ⟨m, p, r, t⟩
  ·have := It.mono hle h
   exact Or.inl (by omega)
 ·rintro (rfl | ⟨q, _, r, n, h0, h1, h⟩)
  ·exact ⟨0, by omega, Or.inl (by omega), rfl⟩
  ·exact ⟨n + 1, by omega, Or.inl (by omega), q, r, h⟩
theorem AI.out {R : Nat → Nat → Prop} {f h : Nat → Nat → Bool} {N a0 : Nat} (hR : ∀ i j, i < N → j < N → (f i j = true ↔ R i j)) (hle : ∀ i j, R i j → i ≤ j) (hin : ∀ i j, R i j → i < N → j < N) (h0 : a0 < N) (H : AI R f N a0 N h) : AO R f N a0 h :=
 ⟨fun a b x y z => by
   rcases Nat.lt_or_ge a0 a with e | e
   · exact H.done a b e y z
   · have : a = a0 := by omega
     subst this
     rw [H.now b z, Tm.star hle]
     constructor
     · rintro (h | ⟨q, h1, h2, h3, h4⟩)
       · exact Or.inl h
       · exact Or.inr ⟨q, h1, (hR _ _ h0 h2).1 h3, h4⟩
     · rintro (h | ⟨q, h1, h2, h3⟩)
       · exact Or.inl h
       · have hq := hin _ _ h2 h0
         exact Or.inr ⟨q, h1, hq, (hR _ _ h0 hq).2 h2, h3⟩, H.rest⟩
set_option maxRecDepth 100000 in
set_option maxHeartbeats 2000000 in
theorem anyTimes_any (N n : Nat) (HN : Hid (N = n + 1)) (hn : n ≤ 100) (g1 c1 : Nat) (R : Nat → Nat → Prop) (f : Nat → Nat → Bool) (hR : ∀ i j, i < N → j < N → (f i j = true ↔ R i j)) (hle : ∀ i j, R i j → i ≤ j) (hin : ∀ i j, R i j → i < N → j < N) (w : World) (h1 : MV w (.slice (some ⟨g1, 0, none⟩) N c1) N f) :
    Calls Tryz.prog 162 #[.slice (some ⟨g1, 0, none⟩) N c1] w fun e w' => ∃ h, NewMap w N h e w' ∧ ∀ a b, a < N → b < N → (h a b = true ↔ Tm R 0 (-1) a b) := by
 have hNm : (N : Int) ≤ 101 := by have := HN.out; omega
 have hN1 : (1 : Int) ≤ (N : Int) := by have := HN.out; omega
 have hsub : (N : Int) - 1 = (n : Int) := by have := HN.out; omega
 have hnn : (n : Int) ≤ 100 := by omega
 have hu := Tryz.underlying102
 have hg1l : g1 < w.heap.size := (World.ownsRow.lt h1 g1 rfl).2
 go_enter Tryz.func162, Tryz.ntmps162
 go_wp2_with fail
 refine (empty_any n N HN hn w).mono ?_
 rintro e w1 ⟨g, rfl, hM0, hk1, hgw⟩
 go_wp2_with fail
 go_loopw [4, 5] (fun q _ wr => ∃ (k : Nat) (h : Nat → Nat → Bool), k ≤ N ∧ q = .int .i64 ((k : Int) - 1) ∧ MV wr (.slice (some ⟨g, 0, none⟩) N N) N h ∧ Hid (AO R f N k h) ∧ Keeps [] w wr) (fun q _ _ => (intOf q + 1).toNat)
 case atStart => exact ⟨N, _, Nat.le_refl _, by rw [hsub], hM0, ⟨fun a b _ _ _ => by omega, fun a b _ _ => rfl⟩, hk1⟩
 case round =>
  clear hM0 hk1
  obtain ⟨k, h, hk, rfl, hM, HA, hK⟩ := hrel
  cases k with
  | zero =>
   have e : (((0 : Nat) : Int) - 1) = -1 := by omega
   rw [e]
   go_wp2_with fail
   go_ret
   exact ⟨h, ⟨g, rfl, hM, hK, hgw⟩, fun a b ha hb => HA.out.done a b (Nat.zero_le _) ha hb⟩
  | succ k =>
   have e : (((k + 1 : Nat) : Int) - 1) = (k : Int) := by omega
   rw [e]
   clear e
   have hk0 : (0 : Int) ≤ (k : Int) := by omega
   have hk1 : (k : Int) < (N : Int) := by omega
   have hk9 : (k : Int) ≤ 100 := by omega
   have HK : Hid (k < N) := hk
   clear hk
   go_wp2_with fail
   go_loopw [5] (fun q wq => ∃ (m : Nat) (h : Nat → Nat → Bool), k < m ∧ m ≤ N ∧ q = .int .i64 m ∧ MV wq (.slice (some ⟨g, 0, none⟩) N N) N h ∧ Hid (AI R f N k m h) ∧ Keeps [] w wq) (fun q _ => N - (intOf q).toNat)
   case atStart => exact ⟨k + 1, h, by omega, HK.out, by go_num, hM, HA.out.into, hK⟩
   case round =>
    clear hM hK HA
    obtain ⟨m, h, hkm, hm, rfl, hM, HA, hK⟩ := hrel
    by_cases hlm : m < N
    ·have hm0 : (0 : Int) ≤ (m : Int) := by omega
     have hm1 : (m : Int) < (N : Int) := by omega
     have HM : Hid (m < N) := hlm
     have HKM : Hid (k < m) := hkm
     have hr1 := (h1.keep hK (by simp)).range HK.out
     clear hm hlm hkm
     go_wp2_with (first | (refine wpList_load_mid rfl 102 _ rfl g1 (k * 2) rfl _ _ hr1 hu rfl infoPl2 ?_))
     refine (phas_raw (f k) m (by have := HM.out; omega) wr).mono ?_
     rintro e w2 ⟨rfl, hK2⟩
     have hM2 := hM.keep hK2 (by simp)
     have hK3 := hK.trans hK2
     clear hM hK hK2 hr1
     cases hfk : f k m
     ·go_wp2_with fail
      go_roundw
      case rel => exact ⟨m + 1, h, by have := HKM.out; omega, HM.out, by go_num, hM2, HA.out.skip hfk, hK3⟩
      case measure => have := HM.out; simp [intOf]; omega
     ·have hM2d : MV w2.drew (.slice (some ⟨g, 0, none⟩) N N) N _ := World.ownsRow.drew hM2
      obtain ⟨b0, b1⟩ := hM2.at HM.out
      have hC := addAll_raw g N N k _ (h m) HK.out w2.drew hM2d
      have HF : Hid (f k m = true) := hfk
      clear hfk
      go_wp2_with fail
      go_region_with (first | (go_at_call 106; refine hC.mono ?_; rintro e w3 ⟨rfl, hM3, hK4⟩))
      have hK5 : Keeps [] w w3 := keepsM hK3 (((Keeps.refl [g] w2).drewN 1).trans hK4) (by intro x hx; simp at hx; omega)
      clear hC hM2 hM2d hK3 hK4 b0 b1
      go_wp2_with fail
      go_roundw
      case rel => exact ⟨m + 1, _, by have := HKM.out; omega, HM.out, by go_num, hM3, HA.out.more HKM.out HM.out HF.out, hK5⟩
      case measure => have := HM.out; simp [intOf]; omega
    ·have he : m = N := by omega
     have hnm : ¬ (m : Int) < (N : Int) := by omega
     have HA2 : Hid (AO R f N k h) := AI.out hR hle hin HK.out (he ▸ HA.out)
     clear hm hlm he hkm HA
     go_wp2_with fail
     exact ⟨⟨k, h, by have := HK.out; omega, by go_num, hM, HA2, hK⟩, by have := HK.out; simp [intOf]⟩
end Go.Proofs.YtnfojonmohijpabGreatDoor
namespace Go.Proofs.YtnfojonmohijpabGreatDoor
open Go.RowKit
set_option maxRecDepth 100000 in
set_option maxHeartbeats 2000000 in
theorem longest_any (N : Nat) (hN : N ≤ 101) (g1 c1 g2 c2 : Nat) (f1 f2 : Nat → Nat → Bool) (i j : Nat) (hij : i ≤ j) (hj : j < N) (w : World) (h1 : MV w (.slice (some ⟨g1, 0, none⟩) N c1) N f1) (h2 : MV w (.slice (some ⟨g2, 0, none⟩) N c2) N f2) :
    Calls Tryz.prog 111 #[.slice (some ⟨g1, 0, none⟩) N c1, .slice (some ⟨g2, 0, none⟩) N c2, .int .i64 i, .int .i64 j] w fun e w' => ∃ c : Nat, e = .returned (.int .i64 c) ∧ Cut (fun m => f1 i m = true ∧ f2 m j = true) i j c ∧ Keeps [] w w' := by
 have hu := Tryz.underlying102
 have hi0 : (0 : Int) ≤ (i : Int) := by omega
 have hi1 : (i : Int) < (N : Int) := by omega
 have HI : Hid (i ≤ j) := hij
 have HJ : Hid (j < N) := hj
 have HIN : Hid (i < N) := by show i < N; omega
 have hNm : (N : Int) ≤ 101 := by omega
 clear hij hj
 go_enter Tryz.func111, Tryz.ntmps111
 go_wp2_with fail
 go_loopw [9] (fun q wr => ∃ m : Nat, q = .int .i64 m ∧ i ≤ m ∧ m ≤ j ∧ Hid (∀ x, m < x → x ≤ j → ¬ (f1 i x = true ∧ f2 x j = true)) ∧ Keeps [] w wr) (fun q _ => (intOf q).toNat)
 case atStart => exact ⟨j, rfl, HI.out, Nat.le_refl _, fun x a b => by omega, Keeps.refl _ _⟩
 case round =>
  obtain ⟨m, rfl, him, hmj, HC, hK⟩ := hrel
  by_cases hlt : i < m
  ·have hm0 : (0 : Int) ≤ (m : Int) := by omega
   have hm1 : (m : Int) < (N : Int) := by have := HJ.out; omega
   have him1 : (i : Int) < (m : Int) := by omega
   have hgt : decide ((i : Int) < (m : Int)) = true := by simpa using him1
   have HM : Hid (m < N) := by show m < N; have := HJ.out; omega
   have HIM : Hid (i < m) := hlt
   have HMJ : Hid (m ≤ j) := hmj
   obtain ⟨a0, a1⟩ := (h1.keep hK (by simp)).at HIN.out
   have hmm : (m : Int) - 1 = ((m - 1 : Nat) : Int) := by omega
   clear hlt him hmj
   cases e1 : f1 i m
   ·have hP := phas_raw (f1 i) m (by have := HM.out; omega) wr
    rw [e1] at hP
    have HN2 : Hid (∀ x, m - 1 < x → x ≤ j → ¬ (f1 i x = true ∧ f2 x j = true)) := fun x a b => by
     by_cases h : x = m
     ·subst h; rw [e1]; rintro ⟨h, _⟩; cases h
     ·exact HC.out x (by omega) b
    clear e1 HC
    go_wp2_with (go_at_call 35; refine hP.mono ?_; rintro e w2 ⟨rfl, hK2⟩)
    go_roundw
    case rel => exact ⟨m - 1, by go_num, by have := HIM.out; omega, by have := HMJ.out; omega, HN2, hK.trans hK2⟩
    case measure => have := HIM.out; simp [intOf]; omega
   ·have hP := phas_raw (f1 i) m (by have := HM.out; omega) wr
    rw [e1] at hP
    have E1 : Hid (f1 i m = true) := e1
    clear e1
    cases e2 : f2 m j
    ·have HN2 : Hid (∀ x, m - 1 < x → x ≤ j → ¬ (f1 i x = true ∧ f2 x j = true)) := fun x a b => by
        by_cases h : x = m
        ·subst h; rw [e2]; rintro ⟨_, h⟩; cases h
        ·exact HC.out x (by omega) b
     have hQ : ∀ w2, Calls Tryz.prog 35 #[.agg #[.int .u64 (wk (f2 m) 0), .int .u64 (wk (f2 m) 1)], .int .i64 j] w2 fun e w' => e = .returned (.bool false) ∧ Keeps [] w2 w' := fun w2 => by
      have := phas_raw (f2 m) j (by have := HJ.out; omega) w2
      rw [e2] at this
      exact this
     clear e2 HC
     go_wp2_with (first | (go_at_call_of 35 (Value.int IntKind.i64 (j : Int)); refine (hQ _).mono ?_; rintro e w3 ⟨rfl, hK3⟩) | (go_at_call_of 35 (Value.int IntKind.i64 (m : Int)); refine hP.mono ?_; rintro e w2 ⟨rfl, hK2⟩; obtain ⟨b0, b1⟩ := (h2.keep (hK.trans hK2) (by simp)).at HM.out))
     go_roundw
     case rel => exact ⟨m - 1, by go_num, by have := HIM.out; omega, by have := HMJ.out; omega, HN2, (hK.trans hK2).trans hK3⟩
     case measure => have := HIM.out; simp [intOf]; omega
    ·have E2 : Hid (f2 m j = true) := e2
     have hQ : ∀ w2, Calls Tryz.prog 35 #[.agg #[.int .u64 (wk (f2 m) 0), .int .u64 (wk (f2 m) 1)], .int .i64 j] w2 fun e w' => e = .returned (.bool true) ∧ Keeps [] w2 w' := fun w2 => by
      have := phas_raw (f2 m) j (by have := HJ.out; omega) w2
      rw [e2] at this
      exact this
     clear e2
     go_wp2_with (first | (go_at_call_of 35 (Value.int IntKind.i64 (j : Int)); refine (hQ _).mono ?_; rintro e w3 ⟨rfl, hK3⟩) | (go_at_call_of 35 (Value.int IntKind.i64 (m : Int)); refine hP.mono ?_; rintro e w2 ⟨rfl, hK2⟩; obtain ⟨b0, b1⟩ := (h2.keep (hK.trans hK2) (by simp)).at HM.out))
     go_ret
     exact ⟨m, rfl, ⟨by have := HIM.out; omega, HMJ.out, fun _ => ⟨E1.out, E2.out⟩, HC.out⟩, (hK.trans hK2).trans hK3⟩
  ·have he : m = i := by omega
   have hni : ¬ (i : Int) < (m : Int) := by omega
   have hgt : decide ((i : Int) < (m : Int)) = false := by simpa using hni
   have HE : Hid (m = i) := he
   clear he hlt
   go_wp2_with fail
   go_ret
   exact ⟨m, rfl, ⟨him, hmj, fun h => by have := HE.out; omega, HC.out⟩, hK⟩
end Go.Proofs.YtnfojonmohijpabGreatDoor
namespace Go.Proofs.YtnfojonmohijpabGreatDoor
open Go.RowKit
def MP (w : World) (S : Nat → Prop) (N : Nat) (v : Value) (R : Nat → Nat → Prop) : Prop :=
 ∃ g c f, v = .slice (some ⟨g, 0, none⟩) N c ∧ MV w (.slice (some ⟨g, 0, none⟩) N c) N f ∧ S g ∧ ∀ i j, i < N → j < N → (f i j = true ↔ R i j)
theorem MP.keep {w w' : World} {S : Nat → Prop} {L : List Nat} {N : Nat} {v : Value} {R : Nat → Nat → Prop} (h : MP w S N v R) (hk : Keeps L w w') (hs : ∀ g, S g → g ∉ L) : MP w' S N v R := by
 obtain ⟨g, c, f, e, hm, hg, hr⟩ := h
 exact ⟨g, c, f, e, hm.keep hk (fun x hx => by simp only [Value.ownBlock, Option.some.injEq] at hx; subst hx; exact hs _ hg), hg, hr⟩
theorem MP.mono {w : World} {S S' : Nat → Prop} {N : Nat} {v : Value} {R : Nat → Nat → Prop} (h : MP w S N v R) (hs : ∀ g, S g → g < w.heap.size → S' g) : MP w S' N v R := by
 obtain ⟨g, c, f, e, hm, hg, hr⟩ := h
 exact ⟨g, c, f, e, hm, hs g hg (World.ownsRow.lt hm g rfl).2, hr⟩
theorem MP.congr {w : World} {S : Nat → Prop} {N : Nat} {v : Value} {R R' : Nat → Nat → Prop} (h : MP w S N v R) (e : ∀ i j, i < N → j < N → (R i j ↔ R' i j)) : MP w S N v R' := by
 obtain ⟨g, c, f, e', hm, hg, hr⟩ := h
 exact ⟨g, c, f, e', hm, hg, fun i j hi hj => (hr i j hi hj).trans (e i j hi hj)⟩
theorem MP.one {w : World} {S : Nat → Prop} {N : Nat} {v : Value} {R : Nat → Nat → Prop} (h : MP w S N v R) : v.oneCell' = true ∧ v.cells = #[v] := by
 obtain ⟨g, c, f, rfl, _⟩ := h
 exact ⟨rfl, rfl⟩
def NewMP (w : World) (N : Nat) (R : Nat → Nat → Prop) (e : Ending) (w' : World) : Prop := ∃ v, e = .returned v ∧ MP w' (fun g => w.heap.size ≤ g) N v R ∧ Keeps [] w w'
theorem NewMap.toMP {w w' : World} {N : Nat} {f : Nat → Nat → Bool} {R : Nat → Nat → Prop} {e : Ending} (h : NewMap w N f e w') (hr : ∀ i j, i < N → j < N → (f i j = true ↔ R i j)) : NewMP w N R e w' := by
 obtain ⟨g, rfl, hm, hk, hg⟩ := h
 exact ⟨_, rfl, ⟨g, N, f, rfl, hm, hg, hr⟩, hk⟩
theorem none_mp (n N : Nat) (HN : Hid (N = n + 1)) (hn : n ≤ 100) (w : World) : Calls Tryz.prog 67 #[.int .i64 n] w (NewMP w N fun _ _ => False) := (none_any n N HN hn w).mono fun e w' h => h.toMP fun i j _ _ => by simp
theorem empty_mp (n N : Nat) (HN : Hid (N = n + 1)) (hn : n ≤ 100) (w : World) : Calls Tryz.prog 102 #[.int .i64 n] w (NewMP w N fun i j => i = j) := (empty_any n N HN hn w).mono fun e w' h => h.toMP fun i j _ _ => by simp
theorem or_mp (N : Nat) (hN : N ≤ 101) {S1 S2 : Nat → Prop} {v1 v2 : Value} {R1 R2 : Nat → Nat → Prop} (w : World) (h1 : MP w S1 N v1 R1) (h2 : MP w S2 N v2 R2) : Calls Tryz.prog 69 #[v1, v2] w (NewMP w N fun i j => R1 i j ∨ R2 i j) := by
 obtain ⟨g1, c1, f1, rfl, m1, _, r1⟩ := h1
 obtain ⟨g2, c2, f2, rfl, m2, _, r2⟩ := h2
 exact (or_any N hN g1 c1 g2 c2 f1 f2 w m1 m2).mono fun e w' h => h.toMP fun i j hi hj => by rw [Bool.or_eq_true, r1 i j hi hj, r2 i j hi hj]
theorem then_mp (N : Nat) (hN : N ≤ 101) {S1 S2 : Nat → Prop} {v1 v2 : Value} {R1 R2 : Nat → Nat → Prop} (hle : ∀ i j, R1 i j → i ≤ j) (hin : ∀ i j, R1 i j → i < N → j < N) (w : World) (h1 : MP w S1 N v1 R1) (h2 : MP w S2 N v2 R2) : Calls Tryz.prog 105 #[v1, v2] w (NewMP w N fun i j => ∃ m, R1 i m ∧ R2 m j) := by
 obtain ⟨g1, c1, f1, rfl, m1, _, r1⟩ := h1
 obtain ⟨g2, c2, f2, rfl, m2, _, r2⟩ := h2
 refine (then_any N hN g1 c1 g2 c2 f1 f2 w m1 m2).mono fun e w' h => h.toMP fun i j hi hj => ?_
 rw [thenB_iff]
 constructor
 ·rintro ⟨m, a, b, c, d⟩; exact ⟨m, (r1 i m hi b).1 c, (r2 m j b hj).1 d⟩
 ·rintro ⟨m, a, b⟩
  have hm := hin i m a hi
  exact ⟨m, hle i m a, hm, (r1 i m hi hm).2 a, (r2 m j hm hj).2 b⟩
theorem star_mp (N n : Nat) (HN : Hid (N = n + 1)) (hn : n ≤ 100) {S : Nat → Prop} {v : Value} {R : Nat → Nat → Prop} (hle : ∀ i j, R i j → i ≤ j) (hin : ∀ i j, R i j → i < N → j < N) (w : World) (h : MP w S N v R) : Calls Tryz.prog 162 #[v] w (NewMP w N (Tm R 0 (-1))) := by
 obtain ⟨g, c, f, rfl, m, _, r⟩ := h
 refine (anyTimes_any N n HN hn g c R f r hle hin w m).mono ?_
 rintro e w' ⟨h, hm, hr⟩
 exact hm.toMP hr
theorem longest_mp (N : Nat) (hN : N ≤ 101) {S1 S2 : Nat → Prop} {v1 v2 : Value} {R1 R2 : Nat → Nat → Prop} (i j : Nat) (hij : i ≤ j) (hj : j < N) (w : World) (h1 : MP w S1 N v1 R1) (h2 : MP w S2 N v2 R2) :
    Calls Tryz.prog 111 #[v1, v2, .int .i64 i, .int .i64 j] w fun e w' => ∃ c : Nat, e = .returned (.int .i64 c) ∧ Cut (fun m => R1 i m ∧ R2 m j) i j c ∧ Keeps [] w w' := by
 obtain ⟨g1, c1, f1, rfl, m1, _, r1⟩ := h1
 obtain ⟨g2, c2, f2, rfl, m2, _, r2⟩ := h2
 refine (longest_any N hN g1 c1 g2 c2 f1 f2 i j hij hj w m1 m2).mono ?_
 rintro e w' ⟨c, rfl, hc, hk⟩
 refine ⟨c, rfl, ⟨hc.1, hc.2.1, fun h => ?_, fun m a b => ?_⟩, hk⟩
 ·have hcN : c < N := by have := hc.2.1; omega
  obtain ⟨x, y⟩ := hc.2.2.1 h
  exact ⟨(r1 i c (by omega) hcN).1 x, (r2 c j hcN hj).1 y⟩
 ·rintro ⟨x, y⟩
  exact hc.2.2.2 m a b ⟨(r1 i m (by omega) (by omega)).2 x, (r2 m j (by omega) hj).2 y⟩
theorem has_mp (N : Nat) (hN : N ≤ 101) {S : Nat → Prop} {v : Value} {R : Nat → Nat → Prop} (w : World) (h : MP w S N v R) (i : Nat) (hi : i < N) : ∃ g c f, v = .slice (some ⟨g, 0, none⟩) N c ∧ w.rangeAt g (i * 2) [.int .u64 (wk f 0), .int .u64 (wk f 1)] ∧ (∀ j, j < N → (f j = true ↔ R i j)) ∧ S g ∧ g < w.heap.size := by
 obtain ⟨g, c, f, rfl, m, hg, r⟩ := h
 exact ⟨g, c, f i, rfl, m.range hi, fun j hj => r i j hi hj, hg, (World.ownsRow.lt m g rfl).2⟩
end Go.Proofs.YtnfojonmohijpabGreatDoor
namespace Go.Proofs.YtnfojonmohijpabGreatDoor
open Go.RowKit
set_option maxRecDepth 100000 in
set_option maxHeartbeats 2000000 in
theorem bytesOf_any (f : Nat → Bool) (s : ByteArray) (N : Nat) (HN : Hid (N = s.size + 1)) (hs : s.size ≤ 100) (w : World) : Calls Tryz.prog 161 #[.agg (hcells f), .string s] w (NewMP w N (Mt s (.set f))) := by
 have hz0 : HQ (w.alloc (.cells (hcells f) 174)) w.heap.size f := heap_alloc_new w _
 have hk0 : Keeps [] w (w.alloc (.cells (hcells f) 174)) := (Keeps.refl [] w).alloc _
 generalize hcells f = C at *
 go_enter Tryz.func161, Tryz.ntmps161
 go_wp2_with fail
 generalize w.alloc (.cells C 174) = W at *
 obtain ⟨g0, hg0⟩ : ∃ g0, w.heap.size = g0 := ⟨_, rfl⟩
 rw [hg0] at hz0 ⊢
 refine (none_any s.size N HN hs W).mono ?_
 rintro e w1 ⟨g, rfl, hM, hk, hg⟩
 have hz1 := hz0.keep hk (by simp)
 have hg0l : g0 < W.heap.size := hz0.lt
 have hgw : w.heap.size ≤ g := by have := hk0.size; omega
 have hkA := hk0.trans hk
 have hNm : (N : Int) ≤ 101 := by have := HN.out; omega
 have hsm : (s.size : Int) ≤ 100 := by omega
 clear hz0 hk0 hk hg0
 go_wp2_with fail
 go_loopw [6, 12] (fun _ q wr => ∃ k : Nat, k ≤ s.size ∧ q = .int .i64 k ∧ MV wr (.slice (some ⟨g, 0, none⟩) N N) N (fun i j => decide (i < k) && (f (at' s i).toNat && decide (j = i + 1))) ∧ HQ wr g0 f ∧ Keeps [] w wr) (fun _ q _ => s.size - (intOf q).toNat)
 case atStart => exact ⟨0, by omega, rfl, hM.ext (fun a b _ _ => by simp), hz1, hkA⟩
 case round =>
  clear hM hz1 hkA
  obtain ⟨k, hk, rfl, hM, hz, hK⟩ := hrel
  by_cases hlt : k < s.size
  ·have hk0 : (0 : Int) ≤ (k : Int) := by omega
   have hk1 : (k : Int) < (s.size : Int) := by omega
   have hk2 : (k : Int) < (N : Int) := by have := HN.out; omega
   have hb : at' s k = (s[k].toNat : Int) := at'_lt hlt
   have hb2 : s[k].toNat < 256 := UInt8.toNat_lt _
   have hb3 : (0 : Int) ≤ (s[k].toNat : Int) := by omega
   have hb4 : (s[k].toNat : Int) < 256 := by omega
   have hcl := hz.cell hb2
   have HB : Hid ((at' s k).toNat = s[k].toNat) := by show (at' s k).toNat = s[k].toNat; rw [hb]; rfl
   clear hb hk
   cases hf : f s[k].toNat with
   | false =>
    rw [hf] at hcl
    have HF : Hid (f s[k].toNat = false) := hf
    have HK : Hid (k < s.size) := hlt
    clear hf
    go_wp2_with fail
    go_roundw
    case rel => exact ⟨k + 1, HK.out, by go_num, hM.ext (fun a b _ _ => by
      by_cases e1 : a = k
      · subst e1; rw [HB.out, HF.out]; simp
      · have : (a < k + 1) ↔ (a < k) := by omega
        simp [this]), hz, hK⟩
    case measure => have := HK.out; simp [intOf]; omega
   | true =>
    rw [hf] at hcl
    have HF : Hid (f s[k].toNat = true) := hf
    have HK : Hid (k < s.size) := hlt
    clear hf
    have hC := padd_any g N N k (k + 1) _ (by have := HN.out; omega) (by omega) wr hM
    have e9 : ((k + 1 : Nat) : Int) = (k : Int) + 1 := by omega
    rw [e9] at hC
    clear e9
    go_wp2_with (go_at_call 126; refine hC.mono ?_; rintro e w2 ⟨rfl, hM2, hK2⟩)
    have hz2 := hz.keep hK2 (by simp; omega)
    have hK3 : Keeps [] w w2 := keepsM hK hK2 (by intro x hx; simp at hx; omega)
    go_roundw
    case rel => exact ⟨k + 1, HK.out, by go_num, hM2.ext (fun a b _ _ => by
      by_cases e1 : a = k
      · subst e1; rw [HB.out, HF.out]; simp
      · have : (a < k + 1) ↔ (a < k) := by omega
        simp [e1, this]), hz2, hK3⟩
    case measure => have := HK.out; simp [intOf]; omega
  ·have he : k = s.size := by omega
   have hnk : ¬ (k : Int) < (s.size : Int) := by omega
   have hM2 : MP wr (fun x => w.heap.size ≤ x) N (.slice (some ⟨g, 0, none⟩) N N) (Mt s (.set f)) := ⟨g, N, _, rfl, hM, hgw, fun i j hi hj => by
     simp only [Bool.and_eq_true, decide_eq_true_eq, he]
     exact Iff.rfl⟩
   clear hM hk he hlt
   go_wp2_with fail
   go_ret
   exact ⟨_, rfl, hM2, hK⟩
end Go.Proofs.YtnfojonmohijpabGreatDoor
namespace Go.Proofs.YtnfojonmohijpabGreatDoor
open Go.RowKit
def RR (w : World) (S : Nat → Prop) (N M : Nat) (v : Value) (F : Nat → Nat → Nat → Prop) : Prop :=
 ∃ g c vs, v = .slice (some ⟨g, 0, none⟩) M c ∧ w.ownsRow 0 63 1 (.slice (some ⟨g, 0, none⟩) M c) M vs ∧ S g ∧ ∀ d, d < M → ∃ u, vs[d]? = some u ∧ MP w S N u (F d)
theorem RR.keep {w w' : World} {S : Nat → Prop} {L : List Nat} {N M : Nat} {v : Value} {F : Nat → Nat → Nat → Prop} (h : RR w S N M v F) (hk : Keeps L w w') (hs : ∀ g, S g → g ∉ L) : RR w' S N M v F := by
 obtain ⟨g, c, vs, e, ho, hg, hr⟩ := h
 refine ⟨g, c, vs, e, ho.keep hk (fun x hx => by simp only [Value.ownBlock, Option.some.injEq] at hx; subst hx; exact hs _ hg), hg, fun d hd => ?_⟩
 obtain ⟨u, a, b⟩ := hr d hd
 exact ⟨u, a, b.keep hk hs⟩
theorem RR.mono {w : World} {S S' : Nat → Prop} {N M : Nat} {v : Value} {F : Nat → Nat → Nat → Prop} (h : RR w S N M v F) (hs : ∀ g, S g → g < w.heap.size → S' g) : RR w S' N M v F := by
 obtain ⟨g, c, vs, e, ho, hg, hr⟩ := h
 refine ⟨g, c, vs, e, ho, hs g hg (World.ownsRow.lt ho g rfl).2, fun d hd => ?_⟩
 obtain ⟨u, a, b⟩ := hr d hd
 exact ⟨u, a, b.mono hs⟩
theorem RR.at {w : World} {S : Nat → Prop} {N M : Nat} {v : Value} {F : Nat → Nat → Nat → Prop} (h : RR w S N M v F) {d : Nat} (hd : d < M) : ∃ g c u, v = .slice (some ⟨g, 0, none⟩) M c ∧ g < w.heap.size ∧ S g ∧ w.cell? ⟨g, d, none⟩ = some u ∧ MP w S N u (F d) := by
 obtain ⟨g, c, vs, e, ho, hg, hr⟩ := h
 obtain ⟨u, a, b⟩ := hr d hd
 exact ⟨g, c, u, e, (World.ownsRow.lt ho g rfl).2, hg, (World.ownsRow.cellAt ho d (by omega)).trans a, b⟩
theorem infoMap : (Tryz.prog.info? 63).map (fun i => (i.zero, i.size, i.bytes)) = some (some (.slice none 0 0), 1, 24) := by kernel_rfl
structure FL (w wr : World) (g N M : Nat) (F : Nat → Nat → Nat → Prop) (d : Nat) : Prop where
 own : ∃ vs, wr.ownsRow 0 63 1 (.slice (some ⟨g, 0, none⟩) M M) M vs ∧ ∀ e, d ≤ e → e < M → ∃ u, vs[e]? = some u ∧ MP wr (fun x => w.heap.size ≤ x ∧ x ≠ g) N u (F e)
 keep : Keeps [] w wr
 low : w.heap.size ≤ g
theorem FL.glt {w wr : World} {g N M d : Nat} {F : Nat → Nat → Nat → Prop} (h : FL w wr g N M F d) : g < wr.heap.size := by
 obtain ⟨vs, a, b⟩ := h.own
 exact (World.ownsRow.lt a g rfl).2
theorem FL.keeps {w wr w' : World} {g N M d : Nat} {F : Nat → Nat → Nat → Prop} (h : FL w wr g N M F d) (hk : Keeps [] wr w') : FL w w' g N M F d := by
 obtain ⟨vs, a, b⟩ := h.own
 exact ⟨⟨vs, a.keep hk (by simp), fun e h1 h2 => by
   obtain ⟨u, x, y⟩ := b e h1 h2
   exact ⟨u, x, y.keep hk (by simp)⟩⟩, h.keep.trans hk, h.low⟩
theorem FL.cell {w wr : World} {g N M d : Nat} {F : Nat → Nat → Nat → Prop} (h : FL w wr g N M F d) {e : Nat} (he : e < M) : (∃ u, wr.cell? ⟨g, e, none⟩ = some u) ∧ wr.frozen? ⟨g, e, none⟩ = false := by
 obtain ⟨vs, a, b⟩ := h.own
 have hl : vs.length = M := by have := a.1; omega
 refine ⟨⟨vs[e]'(by omega), ?_⟩, World.ownsRow.frozenAt a e⟩
 rw [World.ownsRow.cellAt a e (by omega), List.getElem?_eq_getElem]
theorem FL.at {w wr : World} {g N M d : Nat} {F : Nat → Nat → Nat → Prop} (h : FL w wr g N M F d) {e : Nat} (hd : d ≤ e) (he : e < M) : ∃ u, wr.cell? ⟨g, e, none⟩ = some u ∧ MP wr (fun x => w.heap.size ≤ x ∧ x ≠ g) N u (F e) := by
 obtain ⟨vs, a, b⟩ := h.own
 obtain ⟨u, x, y⟩ := b e hd he
 exact ⟨u, (World.ownsRow.cellAt a e (by omega)).trans x, y⟩
theorem FL.put {w wr : World} {g N M d : Nat} {F : Nat → Nat → Nat → Prop} (h : FL w wr g N M F (d + 1)) (hd : d < M) {u : Value} {S : Nat → Prop} (hu : MP wr S N u (F d)) (hs : ∀ x, S x → w.heap.size ≤ x ∧ x ≠ g) : FL w (wr.setCell ⟨g, d, none⟩ u) g N M F d := by
 obtain ⟨vs, a, b⟩ := h.own
 have hl : vs.length = M := by have := a.1; omega
 have hk : Keeps [g] wr (wr.setCell ⟨g, d, none⟩ u) := (Keeps.refl [g] wr).setCell (p := ⟨g, d, none⟩) (by simp) _
 refine ⟨⟨vs.set d u, (World.ownsRow.stored a d u).1, fun e h1 h2 => ?_⟩, keepsM h.keep hk (by intro x hx; simp at hx; subst hx; exact Or.inr h.low), h.low⟩
 by_cases e1 : e = d
 ·subst e1
  exact ⟨u, by rw [List.getElem?_set_self (by omega)], (hu.mono (S' := fun x => w.heap.size ≤ x ∧ x ≠ g) fun x hx _ => hs x hx).keep hk (by intro x hx; simp; exact hx.2)⟩
 ·obtain ⟨v, x, y⟩ := b e (by omega) h2
  exact ⟨v, by rw [List.getElem?_set_ne (by omega)]; exact x, y.keep hk (by intro x hx; simp; exact hx.2)⟩
theorem FL.any {w wr : World} {g N M d : Nat} {F : Nat → Nat → Nat → Prop} (h : FL w wr g N M F (d + 1)) (u : Value) : FL w (wr.setCell ⟨g, d, none⟩ u) g N M F (d + 1) := by
 obtain ⟨vs, a, b⟩ := h.own
 have hk : Keeps [g] wr (wr.setCell ⟨g, d, none⟩ u) := (Keeps.refl [g] wr).setCell (p := ⟨g, d, none⟩) (by simp) _
 refine ⟨⟨vs.set d u, (World.ownsRow.stored a d u).1, fun e h1 h2 => ?_⟩, keepsM h.keep hk (by intro x hx; simp at hx; subst hx; exact Or.inr h.low), h.low⟩
 obtain ⟨v, x, y⟩ := b e (by omega) h2
 exact ⟨v, by rw [List.getElem?_set_ne (by omega)]; exact x, y.keep hk (by intro x hx; simp; exact hx.2)⟩
theorem FL.done {w wr : World} {g N M : Nat} {F : Nat → Nat → Nat → Prop} (h : FL w wr g N M F 0) : RR wr (fun x => w.heap.size ≤ x) N M (.slice (some ⟨g, 0, none⟩) M M) F := by
 obtain ⟨vs, a, b⟩ := h.own
 refine ⟨g, M, vs, rfl, a, h.low, fun d hd => ?_⟩
 obtain ⟨u, x, y⟩ := b d (by omega) hd
 exact ⟨u, x, y.mono fun z hz _ => hz.1⟩
end Go.Proofs.YtnfojonmohijpabGreatDoor
