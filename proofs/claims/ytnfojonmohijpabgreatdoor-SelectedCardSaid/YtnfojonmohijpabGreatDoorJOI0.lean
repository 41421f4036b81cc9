/-
  DERIVED. Rows of trees as lists; the size of a tree. Nothing is walked here.
-/
import Derived.Test.YtnfojonmohijpabGreatDoorJNS
import Derived.Test.YtnfojonmohijpabGreatDoorJSpec
import Derived.Test.YtnfojonmohijpabGreatDoorJNK
import Derived.Test.YtnfojonmohijpabGreatDoorJKB
import Derived.Test.YtnfojonmohijpabGreatDoorJPW
import Derived.Test.YtnfojonmohijpabGreatDoorJBH
set_option linter.unusedSimpArgs false
set_option linter.unusedVariables false
namespace Go.Proofs.YtnfojonmohijpabGreatDoor
open Go.RowKit
def tl : Tr → List Tr
 | .lcons x r => x :: tl r
 | _ => []
def Tr.sz : Tr → Nat
 | .tnil => 1
 | .tbyte _ => 1
 | .tgrp _ x => 3 + x.sz
 | .talt _ x => 3 + x.sz
 | .tser l => 1 + l.sz
 | .trep l => 1 + l.sz
 | .lnil => 1
 | .lcons x r => 1 + x.sz + r.sz
def Tr.thin : Tr → Prop
 | .tnil => True
 | .tbyte _ => True
 | .tgrp _ x => x.thin
 | .talt p x => p < 100 ∧ x.thin
 | .tser l => l.thin
 | .trep l => l.thin
 | .lnil => True
 | .lcons x r => x.thin ∧ r.thin
theorem Tr.sz_pos (t : Tr) : 0 < t.sz := by cases t <;> simp [Tr.sz] <;> omega
def txts (l : List Tr) : List UInt8 := l.flatMap fun t => [32] ++ t.text
theorem txts_take (l : List Tr) (i : Nat) (t : Tr) (h : l[i]? = some t) : txts (l.take (i + 1)) = txts (l.take i) ++ ([32] ++ t.text) := by
 rw [List.take_add_one, h]
 simp [txts]
theorem txts_len (l : List Tr) (i : Nat) : (txts (l.take i)).length ≤ (txts l).length := by
 have : txts l = txts (l.take i) ++ txts (l.drop i) := by
  unfold txts
  rw [← List.flatMap_append, List.take_append_drop]
 rw [this, List.length_append]
 omega
theorem TV.tl_at {w : World} {S : Nat → Prop} {t : Tr} {cs : List Value} (h : TV w S false t cs) : cs.length = (tl t).length * 3 ∧ t.text = txts (tl t) ∧ ∀ (i : Nat) (x : Tr), (tl t)[i]? = some x → ∃ ds, TV w S true x ds ∧ (∀ (j : Nat) (u : Value), ds[j]? = some u → cs[i * 3 + j]? = some u) ∧ x.sz < t.sz ∧ (t.thin → x.thin) := by
 generalize hk : false = b at h
 induction h with
 | lnil => exact ⟨rfl, rfl, by intro i x hx; simp [tl] at hx⟩
 | lcons x r cs ds h1 _ _ ih =>
  obtain ⟨l, e, c⟩ := ih rfl
  obtain ⟨k1, n1, va, vn, vc, hcs⟩ := h1.form
  have hl : cs.length = 3 := by rw [hcs]; rfl
  refine ⟨by simp [tl, l, hl]; omega, by simp [Tr.text, tl, txts, e], ?_⟩
  intro i y hy
  match i, hy with
  | 0, hy =>
   simp [tl] at hy
   subst hy
   refine ⟨cs, h1, ?_, by simp [Tr.sz]; omega, fun h => h.1⟩
   intro j u hu
   rw [Nat.zero_mul, Nat.zero_add, List.getElem?_append_left (List.getElem?_eq_some_iff.1 hu).1]
   exact hu
  | i + 1, hy =>
   obtain ⟨es, h2, h3, h4, h5⟩ := c i y (by simpa [tl] using hy)
   refine ⟨es, h2, ?_, by simp [Tr.sz]; omega, fun h => h5 h.2⟩
   intro j u hu
   have := h3 j u hu
   rw [List.getElem?_append_right (by omega), hl]
   have e : (i + 1) * 3 + j - 3 = i * 3 + j := by omega
   rw [e]
   exact this
 | _ => cases hk
end Go.Proofs.YtnfojonmohijpabGreatDoor
namespace Go.Proofs.YtnfojonmohijpabGreatDoor
theorem NumL.least {s : ByteArray} {least n : Nat} {any : Bool} {i : Nat} {q : R Nat} (h : NumL s least n any i q) : ∀ m j, q = .ok m j → least ≤ m := by
 induction h with
 | dig n x any i q hd hx h5 hl _ ih => exact ih
 | big => intro m j e; cases e
 | done n i hd hl => intro m j e; cases e; exact hl
 | short => intro m j e; cases e
theorem RepR.fair {s : ByteArray} {j k mn : Nat} {mx : Int} (h : RepR s j (.ok (Option.some (mn, mx)) k)) : mx < 0 ∨ (mn : Int) ≤ mx := by
 rcases h with ⟨a, b, c, d, e⟩ | ⟨a, e⟩ | ⟨a, e⟩ | ⟨a, e⟩ | ⟨a, q1, n, e⟩
 ·cases e
 ·cases e; omega
 ·cases e; omega
 ·cases e; omega
 ·cases q1 with
  | bad l => cases e
  | ok m l =>
   rcases e with ⟨a, b, e⟩ | ⟨a, b, q2, n', e⟩ | ⟨a, e⟩
   ·cases e; omega
   ·cases q2 with
    | bad x => cases e
    | ok y x =>
     have hx := n'.least y x rfl
     simp only [Rep3] at e
     by_cases h5 : at' s x = 125
     ·rw [if_pos h5] at e; cases e; omega
     ·rw [if_neg h5] at e; cases e
   ·by_cases h5 : at' s l = 125
    ·rw [if_pos h5] at e; cases e; omega
    ·rw [if_neg h5] at e; cases e
end Go.Proofs.YtnfojonmohijpabGreatDoor
namespace Go.Proofs.YtnfojonmohijpabGreatDoor
open Go.RowKit
theorem whole_sz {s : ByteArray} {W : Whole} {j : Nat} (hs : s.size ≤ 60) (h : PatR s (.ok W j)) : W.x.sz ≤ 1000 := by
 obtain ⟨qw, hG, hqe⟩ := h
 cases qw with
 | bad l => cases hqe
 | ok xg l =>
  obtain ⟨x, g⟩ := xg
  have h1 := hG.shp x g l rfl
  have h2 := endOf_le hG (by unfold wi; by_cases h : at' s 0 = 94; (rw [if_pos h]; exact at'_nn (by omega)); (rw [if_neg h]; exact Nat.zero_le _))
  rw [PatE_ok] at hqe
  have hx : W.x = x := by
   by_cases hc : 0 ≤ at' s (if at' s l = 36 then l + 1 else l)
   ·rw [if_pos hc] at hqe; cases hqe
   ·rw [if_neg hc] at hqe; cases hqe; rfl
  rw [hx]
  simp only [szL, szR, endOf] at h1 h2
  omega
theorem infoPat4 (a b c d : Value) : (Tryz.prog.info? 58).map (·.size) = some [a, b, c, d].length := by kernel_rfl
end Go.Proofs.YtnfojonmohijpabGreatDoor
namespace Go.Proofs.YtnfojonmohijpabGreatDoor
def Pat.thin : Pat → Prop
 | .set _ => True
 | .grp _ x => x.thin
 | .rep _ _ x => x.thin
 | .pnil => True
 | .pcons x r => x.thin ∧ r.thin
 | .wone x => x.thin
 | .wcons x r => (wl r).length ≤ 98 ∧ x.thin ∧ r.thin
def Job.thin : Job → Prop
 | .node x => x.thin
 | .kids r => r.thin
 | .times _ _ x => x.thin
 | .alts p r => p + (wl r).length ≤ 100 ∧ r.thin
theorem TT.thin {s : ByteArray} {J : Job} {i j : Nat} {t : Tr} (h : TT s J i j t) : J.thin → t.thin := by
 induction h with
 | byte => intro _; trivial
 | grp k x i j t _ _ ih => exact ih
 | nil => intro _; trivial
 | lone x i j t _ ih => intro h; exact ih h.1
 | row x y r i j l _ ih => exact ih
 | kend => intro _; trivial
 | kgo x r i j c t u _ _ _ ih1 ih2 => intro h; exact ⟨ih1 h.1, ih2 h.2⟩
 | rep mn mx x i j l _ ih => exact ih
 | tend => intro _; trivial
 | tgo mn mx x i j c t u _ _ _ _ ih1 ih2 => intro h; exact ⟨ih1 h, ih2 h⟩
 | wone x i j t _ ih => exact ih
 | wcons x r i j t _ ih => intro h; exact ih ⟨by simp only [wl, List.length_cons]; have := h.1; omega, h⟩
 | hit p x r i j t _ _ ih => intro h; exact ⟨by have := h.1; simp only [wl, List.length_cons] at this; omega, ih h.2.2.1⟩
 | miss p x r i j t _ _ ih => intro h; exact ih ⟨by have := h.1; simp only [wl, List.length_cons] at this; omega, h.2.2.2⟩
 | last p x i j t _ ih => intro h; exact ⟨by have := h.1; simp only [wl, List.length_cons, List.length_nil] at this; omega, ih h.2⟩
theorem G.thin {s : ByteArray} {k : Kd} {d g i : Nat} {q : R (Pat × Nat)} (h : G s k d g i q) : d ≤ 6 → g ≤ 9 → i ≤ s.size → s.size ≤ 60 → ∀ x g1 j, q = .ok (x, g1) j → g ≤ g1 ∧ g1 ≤ 9 ∧ x.fair g1 ∧ x.thin ∧ (k = .ways → (wl x).length ≤ j - i + 1) := by
 induction h with
 | one d g i g1 j x _ e ih =>
  intro hd hg hi hs x' g1' j' e'
  cases e'
  obtain ⟨a1, a2, a3, a4, _⟩ := ih hd hg hi hs x g1 j rfl
  exact ⟨a1, a2, a3, a4, fun _ => by simp [wl]⟩
 | more d g i g1 j x q hx e hq ih ih2 =>
  intro hd hg hi hs x' g1' j' e'
  cases q with
  | bad l => cases e'
  | ok y l =>
   obtain ⟨a1, a2, a3, a4, _⟩ := ih hd hg hi hs x g1 j rfl
   have o1 := hx.okb x g1 j rfl
   have hj : j < s.size := at'_nn (by omega)
   obtain ⟨b1, b2, b3, b4, b5⟩ := ih2 hd a2 (by omega) hs y.1 y.2 l rfl
   have o2 := hq.okb y.1 y.2 l rfl
   have hb5 := b5 rfl
   have hl := o2.2.1 (by omega)
   cases e'
   refine ⟨by omega, b2, ⟨a3.up b1, b3⟩, ⟨by omega, a4, b4⟩, fun _ => ?_⟩
   simp only [wl, List.length_cons]
   omega
 | wbad => intro _ _ _ _ x' g1' j' e'; cases e'
 | nil d g i e => intro hd hg hi hs x' g1' j' e'; cases e'; exact ⟨Nat.le_refl _, hg, trivial, trivial, fun h => by cases h⟩
 | cons d g i g1 j x q e hx hq ih ih2 =>
  intro hd hg hi hs x' g1' j' e'
  cases q with
  | bad l => cases e'
  | ok y l =>
   obtain ⟨a1, a2, a3, a4, _⟩ := ih hd hg hi hs x g1 j rfl
   have o1 := hx.okb x g1 j rfl
   obtain ⟨b1, b2, b3, b4, _⟩ := ih2 hd a2 (o1.2.1 hi) hs y.1 y.2 l rfl
   cases e'
   exact ⟨by omega, b2, ⟨a3.up b1, b3⟩, ⟨a4, b4⟩, fun h => by cases h⟩
 | pbad => intro _ _ _ _ x' g1' j' e'; cases e'
 | rep d g i g1 j x q _ r ih =>
  intro hd hg hi hs x' g1' j' e'
  obtain ⟨a1, a2, a3, a4, _⟩ := ih hd hg hi hs x g1 j rfl
  cases q with
  | bad l => cases e'
  | ok o l =>
   cases o with
   | none => cases e'; exact ⟨a1, a2, a3, a4, fun h => by cases h⟩
   | some mm =>
    obtain ⟨mn, mx⟩ := mm
    cases e'
    exact ⟨a1, a2, ⟨r.fair, a3⟩, a4, fun h => by cases h⟩
 | sbad => intro _ _ _ _ x' g1' j' e'; cases e'
 | deep => intro _ _ _ _ x' g1' j' e'; cases e'
 | grp d g i g1 j x e o _ c ih =>
  intro hd hg hi hs x' g1' j' e'
  cases e'
  have hi' : i < s.size := at'_nn (by omega)
  obtain ⟨a1, a2, a3, a4, _⟩ := ih (by omega) (by omega) (by omega) hs x g1 j rfl
  exact ⟨by omega, a2, ⟨by omega, a1, a3⟩, a4, fun h => by cases h⟩
 | gopen => intro _ _ _ _ x' g1' j' e'; cases e'
 | gbad => intro _ _ _ _ x' g1' j' e'; cases e'
 | set d g i q e r =>
  intro hd hg hi hs x' g1' j' e'
  cases q with
  | bad l => cases e'
  | ok f l => cases e'; exact ⟨Nat.le_refl _, hg, trivial, trivial, fun h => by cases h⟩
 | dot d g i e => intro hd hg hi hs x' g1' j' e'; cases e'; exact ⟨Nat.le_refl _, hg, trivial, trivial, fun h => by cases h⟩
 | esc d g i e =>
  intro hd hg hi hs x' g1' j' e'
  cases hq : escS s 0 (i + 1) with
  | bad l => rw [hq] at e'; cases e'
  | ok f l => rw [hq] at e'; cases e'; exact ⟨Nat.le_refl _, hg, trivial, trivial, fun h => by cases h⟩
 | no => intro _ _ _ _ x' g1' j' e'; cases e'
 | lit d g i e => intro hd hg hi hs x' g1' j' e'; cases e'; exact ⟨Nat.le_refl _, hg, trivial, trivial, fun h => by cases h⟩
theorem PatR.good {s : ByteArray} {W : Whole} {j : Nat} (hs : s.size ≤ 60) (h : PatR s (.ok W j)) : W.x.fair 9 ∧ W.x.thin ∧ W.g ≤ 9 := by
 obtain ⟨qw, hG, hqe⟩ := h
 cases qw with
 | bad l => cases hqe
 | ok xg l =>
  obtain ⟨x, g⟩ := xg
  have hwi : wi s ≤ s.size := by
   unfold wi
   by_cases h : at' s 0 = 94
   ·rw [if_pos h]; exact at'_nn (by omega)
   ·rw [if_neg h]; exact Nat.zero_le _
  obtain ⟨_, h2, h3, h4, _⟩ := hG.thin (by omega) (by omega) hwi hs x g l rfl
  rw [PatE_ok] at hqe
  by_cases hc : 0 ≤ at' s (if at' s l = 36 then l + 1 else l)
  ·rw [if_pos hc] at hqe; cases hqe
  ·rw [if_neg hc] at hqe; cases hqe; exact ⟨h3.up h2, h4, h2⟩
def MatchA (p s : ByteArray) (t : List UInt8) (b : Bool) (n : Int) : Prop :=
 (60 < p.size ∧ t = [] ∧ b = false ∧ n = 1) ∨
 (p.size ≤ 60 ∧ ∃ q, PatR p q ∧ match q with
   | .bad _ => t = [] ∧ b = false ∧ n = 2
   | .ok W _ => (100 < s.size ∧ t = [] ∧ b = false ∧ n = 1) ∨
       (s.size ≤ 100 ∧ ((¬ Mt s W.x 0 s.size ∧ t = [] ∧ b = false ∧ n = 0) ∨
         (Mt s W.x 0 s.size ∧ ∃ u ev, TR s (.node W.x) 0 s.size u ev ∧ ((u.length ≤ 20000 ∧ t = u ∧ b = true ∧ n = 0) ∨ (20000 < u.length ∧ t = [] ∧ b = false ∧ n = 1))))))
theorem MatchA.det {p s : ByteArray} {t t' : List UInt8} {b b' : Bool} {n n' : Int} (h : MatchA p s t b n) (h' : MatchA p s t' b' n') : t = t' ∧ b = b' ∧ n = n' := by
 rcases h with ⟨h0, rfl, rfl, rfl⟩ | ⟨h0, q, hq, h⟩
 ·rcases h' with ⟨_, rfl, rfl, rfl⟩ | ⟨h1, _⟩
  ·exact ⟨rfl, rfl, rfl⟩
  ·omega
 ·rcases h' with ⟨h1, _⟩ | ⟨_, q', hq', h'⟩
  ·omega
  ·cases hq.det hq'
   cases q with
   | bad j => obtain ⟨rfl, rfl, rfl⟩ := h; obtain ⟨rfl, rfl, rfl⟩ := h'; exact ⟨rfl, rfl, rfl⟩
   | ok W j =>
    rcases h with ⟨h1, rfl, rfl, rfl⟩ | ⟨h1, h⟩
    ·rcases h' with ⟨_, rfl, rfl, rfl⟩ | ⟨h2, _⟩
     ·exact ⟨rfl, rfl, rfl⟩
     ·omega
    ·rcases h' with ⟨h2, _⟩ | ⟨_, h'⟩
     ·omega
     ·rcases h with ⟨h2, rfl, rfl, rfl⟩ | ⟨h2, u, ev, hu, h⟩
      ·rcases h' with ⟨_, rfl, rfl, rfl⟩ | ⟨h3, _⟩
       ·exact ⟨rfl, rfl, rfl⟩
       ·exact absurd h3 h2
      ·rcases h' with ⟨h3, _⟩ | ⟨_, u', ev', hu', h'⟩
       ·exact absurd h2 h3
       ·obtain ⟨rfl, _⟩ := hu.det u' ev' hu'
        rcases h with ⟨h4, rfl, rfl, rfl⟩ | ⟨h4, rfl, rfl, rfl⟩
        ·rcases h' with ⟨_, rfl, rfl, rfl⟩ | ⟨h5, _⟩
         ·exact ⟨rfl, rfl, rfl⟩
         ·omega
        ·rcases h' with ⟨h5, _⟩ | ⟨_, rfl, rfl, rfl⟩
         ·omega
         ·exact ⟨rfl, rfl, rfl⟩
end Go.Proofs.YtnfojonmohijpabGreatDoor
namespace Go.Proofs.YtnfojonmohijpabGreatDoor
def lastE : List (Nat × Nat × Nat) → Nat → Option (Nat × Nat)
 | [], _ => none
 | e :: ev, k => (lastE ev k).orElse fun _ => if e.1 = k then some e.2 else none
theorem lastE_app (ev fv : List (Nat × Nat × Nat)) (k : Nat) : lastE (ev ++ fv) k = (lastE fv k).orElse fun _ => lastE ev k := by
 induction ev with
 | nil => simp [lastE]
 | cons e ev ih =>
  rw [List.cons_append, lastE, ih, lastE]
  cases lastE fv k <;> simp
theorem evs_get : ∀ (ev : List (Nat × Nat × Nat)) (l : List Int) (q : Nat), (∀ e, e ∈ ev → 1 ≤ e.1) →
    (evs l ev)[q]? = match lastE ev (q / 2 + 1) with | some (i, j) => if q < l.length then some (if q % 2 = 0 then (i : Int) else (j : Int)) else none | none => l[q]?
 | [], l, q, _ => rfl
 | (n, i, j) :: ev, l, q, h => by
  have hn := h (n, i, j) (by simp)
  simp only at hn
  rw [evs, evs_get ev _ q (fun e he => h e (by simp [he]))]
  cases hl : lastE ev (q / 2 + 1) with
  | some p => simp [lastE, hl]
  | none =>
   simp only [lastE, hl, Option.orElse_none]
   by_cases he : n = q / 2 + 1
   ·rw [if_pos he]
    simp only [List.getElem?_set, List.length_set]
    by_cases h0 : q % 2 = 0
    ·have h1 : ¬ 2 * n - 1 = q := by omega
     have h2 : 2 * n - 2 = q := by omega
     rw [if_neg h1, if_pos h2, if_pos h0]
     by_cases hlt : q < l.length
     ·rw [if_pos hlt, if_pos (by omega)]
     ·rw [if_neg hlt, if_neg (by omega)]
    ·have h1 : 2 * n - 1 = q := by omega
     rw [if_pos h1, if_neg h0]
     by_cases hlt : q < l.length
     ·rw [if_pos hlt, if_pos (by omega)]
     ·rw [if_neg hlt, if_neg (by omega)]
   ·rw [if_neg he]
    simp only [List.getElem?_set, List.length_set]
    rw [if_neg (by omega), if_neg (by omega)]
theorem evs_same {ev fv : List (Nat × Nat × Nat)} (h1 : ∀ e, e ∈ ev → 1 ≤ e.1) (h2 : ∀ e, e ∈ fv → 1 ≤ e.1) (h : ∀ k, lastE ev k = lastE fv k) (l : List Int) : evs l ev = evs l fv := by
 apply List.ext_getElem?
 intro q
 rw [evs_get ev l q h1, evs_get fv l q h2, h]
def Tr.pevs : Tr → Nat → List (Nat × Nat × Nat)
 | .tnil, _ => []
 | .tbyte _, _ => []
 | .tgrp k x, i => x.pevs i ++ [(k, i, i + x.len)]
 | .talt _ x, i => x.pevs i
 | .tser l, i => l.pevs i
 | .trep l, i => l.pevs i
 | .lnil, _ => []
 | .lcons x r, i => x.pevs i ++ r.pevs (i + x.len)
def Tr.has (k : Nat) : Tr → Prop
 | .tnil => False
 | .tbyte _ => False
 | .tgrp n x => n = k ∨ x.has k
 | .talt _ x => x.has k
 | .tser l => l.has k
 | .trep l => l.has k
 | .lnil => False
 | .lcons x r => x.has k ∨ r.has k
def Pat.has (k : Nat) : Pat → Prop
 | .set _ => False
 | .grp n x => n = k ∨ x.has k
 | .rep _ _ x => x.has k
 | .pnil => False
 | .pcons x r => x.has k ∨ r.has k
 | .wone x => x.has k
 | .wcons x r => x.has k ∨ r.has k
def Pat.nest : Pat → Prop
 | .set _ => True
 | .grp n x => 1 ≤ n ∧ ¬ x.has n ∧ x.nest
 | .rep _ _ x => x.nest
 | .pnil => True
 | .pcons x r => x.nest ∧ r.nest
 | .wone x => x.nest
 | .wcons x r => x.nest ∧ r.nest
def Tr.nest : Tr → Prop
 | .tnil => True
 | .tbyte _ => True
 | .tgrp n x => 1 ≤ n ∧ ¬ x.has n ∧ x.nest
 | .talt _ x => x.nest
 | .tser l => l.nest
 | .trep l => l.nest
 | .lnil => True
 | .lcons x r => x.nest ∧ r.nest
def Job.has (k : Nat) : Job → Prop
 | .node x => x.has k
 | .kids r => r.has k
 | .times _ _ x => x.has k
 | .alts _ r => r.has k
def Job.nest : Job → Prop
 | .node x => x.nest
 | .kids r => r.nest
 | .times _ _ x => x.nest
 | .alts _ r => r.nest
theorem TT.has {s : ByteArray} {J : Job} {i j : Nat} {t : Tr} (h : TT s J i j t) (k : Nat) : t.has k → J.has k := by
 induction h with
 | byte => exact id
 | grp n x i j t _ _ ih => exact fun h => h.elim Or.inl fun h => Or.inr (ih h)
 | nil => exact id
 | lone x i j t _ ih => exact fun h => Or.inl (ih h)
 | row x y r i j l _ ih => exact ih
 | kend => exact fun h => h.elim
 | kgo x r i j c t u _ _ _ ih1 ih2 => exact fun h => h.elim (fun h => Or.inl (ih1 h)) (fun h => Or.inr (ih2 h))
 | rep mn mx x i j l _ ih => exact ih
 | tend => exact fun h => h.elim
 | tgo mn mx x i j c t u _ _ _ _ ih1 ih2 => exact fun h => h.elim ih1 ih2
 | wone x i j t _ ih => exact ih
 | wcons x r i j t _ ih => exact ih
 | hit p x r i j t _ _ ih => exact fun h => Or.inl (ih h)
 | miss p x r i j t _ _ ih => exact fun h => Or.inr (ih h)
 | last p x i j t _ ih => exact ih
theorem TT.nest {s : ByteArray} {J : Job} {i j : Nat} {t : Tr} (h : TT s J i j t) : J.nest → t.nest := by
 induction h with
 | byte => exact id
 | grp n x i j t _ h0 ih => exact fun h => ⟨h.1, fun hk => h.2.1 (h0.has n hk), ih h.2.2⟩
 | nil => exact id
 | lone x i j t _ ih => exact fun h => ih h.1
 | row x y r i j l _ ih => exact ih
 | kend => exact fun _ => trivial
 | kgo x r i j c t u _ _ _ ih1 ih2 => exact fun h => ⟨ih1 h.1, ih2 h.2⟩
 | rep mn mx x i j l _ ih => exact ih
 | tend => exact fun _ => trivial
 | tgo mn mx x i j c t u _ _ _ _ ih1 ih2 => exact fun h => ⟨ih1 h, ih2 h⟩
 | wone x i j t _ ih => exact ih
 | wcons x r i j t _ ih => exact ih
 | hit p x r i j t _ _ ih => exact fun h => ih h.1
 | miss p x r i j t _ _ ih => exact fun h => ih h.2
 | last p x i j t _ ih => exact ih
theorem Tr.evs_has {k : Nat} : ∀ {t : Tr} {i : Nat}, ¬ t.has k → lastE (t.evs i) k = none
 | .tnil, _, _ => rfl
 | .tbyte _, _, _ => rfl
 | .tgrp n x, i, h => by
  rw [Tr.evs, lastE, Tr.evs_has (t := x) fun hk => h (Or.inr hk), if_neg fun e => h (Or.inl e)]
  rfl
 | .talt _ x, i, h => Tr.evs_has (t := x) (i := i) h
 | .tser l, i, h => Tr.evs_has (t := l) (i := i) h
 | .trep l, i, h => Tr.evs_has (t := l) (i := i) h
 | .lnil, _, _ => rfl
 | .lcons x r, i, h => by
  rw [Tr.evs, lastE_app, Tr.evs_has (t := x) fun hk => h (Or.inl hk), Tr.evs_has (t := r) fun hk => h (Or.inr hk)]
  rfl
theorem Tr.evs_pos : ∀ {t : Tr} {i : Nat}, t.nest → ∀ e, e ∈ t.evs i → 1 ≤ e.1
 | .tnil, _, _, e, he => by cases he
 | .tbyte _, _, _, e, he => by cases he
 | .tgrp n x, i, h, e, he => by
  rcases List.mem_cons.1 he with rfl | he
  ·exact h.1
  ·exact Tr.evs_pos h.2.2 e he
 | .talt _ x, i, h, e, he => Tr.evs_pos (t := x) (i := i) h e he
 | .tser l, i, h, e, he => Tr.evs_pos (t := l) (i := i) h e he
 | .trep l, i, h, e, he => Tr.evs_pos (t := l) (i := i) h e he
 | .lnil, _, _, e, he => by cases he
 | .lcons x r, i, h, e, he => by
  rcases List.mem_append.1 he with he | he
  ·exact Tr.evs_pos h.1 e he
  ·exact Tr.evs_pos h.2 e he
def Tr.alike : Tr → Nat → List (Nat × Nat × Nat) → Prop
 | .lcons y r, i, e => y.len = 0 ∧ y.evs i = e ∧ r.alike i e
 | _, _, _ => True
def Tr.still : Tr → Nat → Prop
 | .lcons x r, i => (x.len = 0 → r.alike i (x.evs i)) ∧ r.still (i + x.len)
 | _, _ => True
def Tr.calm : Tr → Nat → Prop
 | .tnil, _ => True
 | .tbyte _, _ => True
 | .tgrp _ x, i => x.calm i
 | .talt _ x, i => x.calm i
 | .tser l, i => l.calm i
 | .trep l, i => l.calm i ∧ l.still i
 | .lnil, _ => True
 | .lcons x r, i => x.calm i ∧ r.calm (i + x.len)
def Job.still : Job → Tr → Nat → Prop
 | .times _ _ _, t, i => t.still i
 | _, _, _ => True
theorem times_alike {s : ByteArray} {x : Pat} {e : List (Nat × Nat × Nat)} {J : Job} {i j : Nat} {u : Tr} (h : TT s J i j u) : ∀ (mn : Nat) (mx : Int), J = .times mn mx x → i = j → Tm (Mt s x) mn mx i j → (∀ t, TT s (.node x) i i t → Mt s x i i → t.evs i = e) → u.alike i e := by
 induction h with
 | tend => intro _ _ _ _ _ _; trivial
 | tgo mn' mx' x' i j c t u hg hc ht hu _ ih2 =>
  intro mn mx hJ hij hT he
  cases hJ
  subst hij
  obtain ⟨⟨hP, hQ⟩, _⟩ := Tm.cut (fun _ _ h => h.le) hT hg hc
  have hci : c = i := by have h1 := hc.1; have h2 := hc.2.1; omega
  subst hci
  have h1 := (ht.toTR hP).2
  exact ⟨by omega, he t ht hP, ih2 _ _ rfl rfl hQ he⟩
 | _ => intro _ _ hJ; cases hJ
theorem TT.calm {s : ByteArray} {J : Job} {i j : Nat} {t : Tr} (h : TT s J i j t) : J.ok s i j → t.calm i ∧ J.still t i := by
 have hle : ∀ {x : Pat} (i j : Nat), Mt s x i j → i ≤ j := fun _ _ h => h.le
 induction h with
 | byte => intro _; exact ⟨trivial, trivial⟩
 | grp n x i j t _ _ ih => intro h; exact ⟨(ih h).1, trivial⟩
 | nil => intro _; exact ⟨trivial, trivial⟩
 | lone x i j t _ ih =>
  rintro ⟨m, a, b⟩
  have b' : m = j := b
  subst b'
  exact ⟨(ih a).1, trivial⟩
 | row x y r i j l _ ih => intro h; exact ⟨(ih h).1, trivial⟩
 | kend => intro _; exact ⟨trivial, trivial⟩
 | kgo x r i j c t u hc ht hu ih1 ih2 =>
  rintro ⟨m, a, b⟩
  have hP := hc.hit ⟨m, a.le, b.le, a, b⟩
  have e := (ht.toTR hP.1).2
  exact ⟨⟨(ih1 hP.1).1, by rw [e]; exact (ih2 hP.2).1⟩, trivial⟩
 | rep mn mx x i j l _ ih => intro h; exact ⟨⟨(ih h).1, (ih h).2⟩, trivial⟩
 | tend => intro _; exact ⟨trivial, trivial⟩
 | tgo mn mx x i j c t u hg hc ht hu ih1 ih2 =>
  intro h
  obtain ⟨hP, _⟩ := Tm.cut hle h hg hc
  have e := (ht.toTR hP.1).2
  refine ⟨⟨(ih1 hP.1).1, by rw [e]; exact (ih2 hP.2).1⟩, ?_, by rw [e]; exact (ih2 hP.2).2⟩
  intro h0
  have hci : c = i := by omega
  subst hci
  have hij : c = j := by
   rcases Nat.lt_or_ge c j with hlt | hge
   ·exact absurd (Tm.cutFront hle (fun i m h => Mt.null h) h hlt hc).1 (by omega)
   ·have := hc.2.1; omega
  subst hij
  exact times_alike hu _ _ rfl rfl hP.2 fun t' ht' hm' => ((ht'.toTR hm').1.det _ _ (ht.toTR hP.1).1).2
 | wone x i j t _ ih => intro h; exact ⟨(ih h).1, trivial⟩
 | wcons x r i j t _ ih => intro h; exact ⟨(ih h).1, trivial⟩
 | hit p x r i j t hm _ ih => intro _; exact ⟨(ih hm).1, trivial⟩
 | miss p x r i j t hn _ ih => intro h; exact ⟨(ih (Or.resolve_left h hn)).1, trivial⟩
 | last p x i j t _ ih => intro h; exact ⟨(ih h).1, trivial⟩
theorem G.nest {s : ByteArray} {k : Kd} {d g i : Nat} {q : R (Pat × Nat)} (h : G s k d g i q) : ∀ x g1 j, q = .ok (x, g1) j → g ≤ g1 ∧ x.nest ∧ ∀ m, x.has m → g < m ∧ m ≤ g1 := by
 induction h with
 | one d g i g1 j x _ e ih => intro x' g1' j' e'; cases e'; exact ih x g1 j rfl
 | more d g i g1 j x q _ e _ ih ih2 =>
  intro x' g1' j' e'
  cases q with
  | bad l => cases e'
  | ok y l =>
   obtain ⟨a1, a2, a3⟩ := ih x g1 j rfl
   obtain ⟨b1, b2, b3⟩ := ih2 y.1 y.2 l rfl
   cases e'
   exact ⟨by omega, ⟨a2, b2⟩, fun m hm => hm.elim (fun h => by have := a3 m h; omega) (fun h => by have := b3 m h; omega)⟩
 | wbad => intro x' g1' j' e'; cases e'
 | nil d g i e => intro x' g1' j' e'; cases e'; exact ⟨Nat.le_refl _, trivial, fun m h => h.elim⟩
 | cons d g i g1 j x q e _ _ ih ih2 =>
  intro x' g1' j' e'
  cases q with
  | bad l => cases e'
  | ok y l =>
   obtain ⟨a1, a2, a3⟩ := ih x g1 j rfl
   obtain ⟨b1, b2, b3⟩ := ih2 y.1 y.2 l rfl
   cases e'
   exact ⟨by omega, ⟨a2, b2⟩, fun m hm => hm.elim (fun h => by have := a3 m h; omega) (fun h => by have := b3 m h; omega)⟩
 | pbad => intro x' g1' j' e'; cases e'
 | rep d g i g1 j x q _ r ih =>
  intro x' g1' j' e'
  obtain ⟨a1, a2, a3⟩ := ih x g1 j rfl
  cases q with
  | bad l => cases e'
  | ok o l =>
   cases o with
   | none => cases e'; exact ⟨a1, a2, a3⟩
   | some mm => obtain ⟨mn, mx⟩ := mm; cases e'; exact ⟨a1, a2, a3⟩
 | sbad => intro x' g1' j' e'; cases e'
 | deep => intro x' g1' j' e'; cases e'
 | grp d g i g1 j x e o _ c ih =>
  intro x' g1' j' e'
  cases e'
  obtain ⟨a1, a2, a3⟩ := ih x g1 j rfl
  refine ⟨by omega, ⟨by omega, fun h => by have := a3 _ h; omega, a2⟩, fun m hm => ?_⟩
  rcases hm with h | h
  ·omega
  ·have := a3 m h; omega
 | gopen => intro x' g1' j' e'; cases e'
 | gbad => intro x' g1' j' e'; cases e'
 | set d g i q e r =>
  intro x' g1' j' e'
  cases q with
  | bad l => cases e'
  | ok f l => cases e'; exact ⟨Nat.le_refl _, trivial, fun m h => h.elim⟩
 | dot d g i e => intro x' g1' j' e'; cases e'; exact ⟨Nat.le_refl _, trivial, fun m h => h.elim⟩
 | esc d g i e =>
  intro x' g1' j' e'
  cases hq : escS s 0 (i + 1) with
  | bad l => rw [hq] at e'; cases e'
  | ok f l => rw [hq] at e'; cases e'; exact ⟨Nat.le_refl _, trivial, fun m h => h.elim⟩
 | no => intro x' g1' j' e'; cases e'
 | lit d g i e => intro x' g1' j' e'; cases e'; exact ⟨Nat.le_refl _, trivial, fun m h => h.elim⟩
end Go.Proofs.YtnfojonmohijpabGreatDoor
namespace Go.Proofs.YtnfojonmohijpabGreatDoor
def Tr.bev : Tr → Bool → Nat → List (Nat × Nat × Nat)
 | .tnil, _, _ => []
 | .tbyte _, _, _ => []
 | .tgrp k x, _, i => x.bev false i ++ [(k, i, i + x.len)]
 | .talt _ x, _, i => x.bev false i
 | .tser l, _, i => l.bev false i
 | .trep l, _, i => l.bev true i
 | .lnil, _, _ => []
 | .lcons x r, b, i => x.bev false i ++ (if b = true ∧ x.len = 0 then [] else r.bev b (i + x.len))
def Tr.isR : Tr → Prop
 | .lnil => True
 | .lcons _ r => r.isR
 | _ => False
def Tr.fit : Tr → Prop
 | .tnil => True
 | .tbyte _ => True
 | .tgrp _ x => x.fit
 | .talt _ x => x.fit
 | .tser l => l.isR ∧ l.fit
 | .trep l => l.isR ∧ l.fit
 | .lnil => True
 | .lcons x r => x.fit ∧ r.fit
theorem alike_end {e : List (Nat × Nat × Nat)} {k : Nat} : ∀ {r : Tr} {i : Nat}, r.isR → r.alike i e → r.len = 0 ∧ (lastE (r.evs i) k = none ∨ lastE (r.evs i) k = lastE e k)
 | .lnil, _, _, _ => ⟨rfl, Or.inl rfl⟩
 | .lcons y r, i, hr, h => by
  obtain ⟨h1, h2, h3⟩ := h
  obtain ⟨a, b⟩ := alike_end (k := k) (r := r) (i := i) hr h3
  refine ⟨by simp only [Tr.len]; omega, Or.inr ?_⟩
  rw [Tr.evs, h1, Nat.add_zero, lastE_app, h2]
  rcases b with b | b
  ·rw [b]; rfl
  ·rw [b]; cases lastE e k <;> rfl
 | .tnil, _, h, _ => h.elim
 | .tbyte _, _, h, _ => h.elim
 | .tgrp _ _, _, h, _ => h.elim
 | .talt _ _, _, h, _ => h.elim
 | .tser _, _, h, _ => h.elim
 | .trep _, _, h, _ => h.elim
theorem Tr.bev_last {k : Nat} : ∀ {t : Tr} {b : Bool} {i : Nat}, t.nest → t.fit → t.calm i → (b = true → t.isR ∧ t.still i) → lastE (t.bev b i) k = lastE (t.evs i) k
 | .tnil, _, _, _, _, _, _ => rfl
 | .tbyte _, _, _, _, _, _, _ => rfl
 | .tgrp n x, _, i, h, hf, hc, _ => by
  have ih := Tr.bev_last (k := k) (t := x) (b := false) (i := i) h.2.2 hf hc (fun h => by cases h)
  rw [Tr.bev, Tr.evs, lastE_app, ih, lastE, lastE, lastE]
  by_cases he : n = k
  ·subst he
   rw [Tr.evs_has h.2.1]
   simp
  ·simp only [if_neg he]
   cases lastE (x.evs i) k <;> rfl
 | .talt _ x, _, i, h, hf, hc, _ => Tr.bev_last (t := x) (b := false) (i := i) h hf hc (fun h => by cases h)
 | .tser l, _, i, h, hf, hc, _ => Tr.bev_last (t := l) (b := false) (i := i) h hf.2 hc (fun h => by cases h)
 | .trep l, _, i, h, hf, hc, _ => Tr.bev_last (t := l) (b := true) (i := i) h hf.2 hc.1 (fun _ => ⟨hf.1, hc.2⟩)
 | .lnil, _, _, _, _, _, _ => rfl
 | .lcons x r, b, i, h, hf, hc, hs => by
  have h1 := Tr.bev_last (k := k) (t := x) (b := false) (i := i) h.1 hf.1 hc.1 (fun h => by cases h)
  rw [Tr.bev, Tr.evs]
  by_cases hb : b = true ∧ x.len = 0
  ·rw [if_pos hb, List.append_nil, h1, hb.2, Nat.add_zero, lastE_app]
   obtain ⟨hr, hst⟩ := hs hb.1
   obtain ⟨_, h2⟩ := alike_end (k := k) (r := r) (i := i) hr (hst.1 hb.2)
   rcases h2 with h2 | h2
   ·rw [h2]; rfl
   ·rw [h2]; cases lastE (x.evs i) k <;> rfl
  ·rw [if_neg hb, lastE_app, lastE_app, h1]
   rw [Tr.bev_last (k := k) (t := r) (b := b) (i := i + x.len) h.2 hf.2 hc.2 (fun hb' => ⟨(hs hb').1, (hs hb').2.2⟩)]
theorem Tr.bev_pos : ∀ {t : Tr} {b : Bool} {i : Nat}, t.nest → ∀ e, e ∈ t.bev b i → 1 ≤ e.1
 | .tnil, _, _, _, e, he => by cases he
 | .tbyte _, _, _, _, e, he => by cases he
 | .tgrp n x, _, i, h, e, he => by
  rcases List.mem_append.1 he with he | he
  ·exact Tr.bev_pos h.2.2 e he
  ·simp only [List.mem_singleton] at he; subst he; exact h.1
 | .talt _ x, _, i, h, e, he => Tr.bev_pos (t := x) (b := false) (i := i) h e he
 | .tser l, _, i, h, e, he => Tr.bev_pos (t := l) (b := false) (i := i) h e he
 | .trep l, _, i, h, e, he => Tr.bev_pos (t := l) (b := true) (i := i) h e he
 | .lnil, _, _, _, e, he => by cases he
 | .lcons x r, b, i, h, e, he => by
  rcases List.mem_append.1 he with he | he
  ·exact Tr.bev_pos h.1 e he
  ·by_cases hb : b = true ∧ x.len = 0
   ·rw [if_pos hb] at he; cases he
   ·rw [if_neg hb] at he; exact Tr.bev_pos h.2 e he
theorem bev_evs {t : Tr} {i : Nat} (h : t.nest) (hf : t.fit) (hc : t.calm i) (l : List Int) : evs l (t.bev false i) = evs l (t.evs i) :=
 evs_same (Tr.bev_pos h) (Tr.evs_pos h) (fun _ => Tr.bev_last h hf hc (fun hb => by cases hb)) l
def nts : List Int → List (Nat × Nat × Nat) → List Int
 | L, [] => L
 | L, (n, i, j) :: ev => nts ((L.set (2 * n) i).set (2 * n + 1) j) ev
theorem nts_app : ∀ (ev fv : List (Nat × Nat × Nat)) (L : List Int), nts L (ev ++ fv) = nts (nts L ev) fv
 | [], fv, L => rfl
 | (n, i, j) :: ev, fv, L => by rw [List.cons_append, nts, nts]; exact nts_app ev fv _
theorem nts_evs (a b : Int) : ∀ (ev : List (Nat × Nat × Nat)) (l : List Int), (∀ e, e ∈ ev → 1 ≤ e.1) → nts (a :: b :: l) ev = a :: b :: evs l ev
 | [], l, _ => rfl
 | (n, i, j) :: ev, l, h => by
  have hn := h (n, i, j) (by simp)
  simp only at hn
  obtain ⟨m, rfl⟩ : ∃ m, n = m + 1 := ⟨n - 1, by omega⟩
  rw [nts, evs]
  have e1 : 2 * (m + 1) = 2 * m + 1 + 1 := by omega
  have e2 : 2 * (m + 1) - 2 = 2 * m := by omega
  have e3 : 2 * (m + 1) - 1 = 2 * m + 1 := by omega
  rw [e2, e3, e1, List.set_cons_succ, List.set_cons_succ, List.set_cons_succ, List.set_cons_succ]
  exact nts_evs a b ev _ fun e he => h e (by simp [he])
def tdrop : Nat → Tr → Tr
 | 0, r => r
 | m + 1, .lcons _ r => tdrop m r
 | _ + 1, _ => .lnil
theorem tdrop_at : ∀ {r : Tr} {m : Nat} {x : Tr}, r.isR → (tl r)[m]? = some x → tdrop m r = .lcons x (tdrop (m + 1) r)
 | .lcons y r, 0, x, _, h => by
  simp [tl] at h
  subst h
  cases r <;> rfl
 | .lcons y r, m + 1, x, hr, h => by
  have h1 : (tl r)[m]? = some x := by simpa [tl] using h
  have := tdrop_at (r := r) hr h1
  exact this
 | .lnil, m, x, _, h => by simp [tl] at h
 | .tnil, _, _, h, _ => h.elim
 | .tbyte _, _, _, h, _ => h.elim
 | .tgrp _ _, _, _, h, _ => h.elim
 | .talt _ _, _, _, h, _ => h.elim
 | .tser _, _, _, h, _ => h.elim
 | .trep _, _, _, h, _ => h.elim
theorem tdrop_end : ∀ {r : Tr}, r.isR → tdrop (tl r).length r = .lnil
 | .lcons y r, hr => by
  have := tdrop_end (r := r) hr
  exact this
 | .lnil, _ => rfl
 | .tnil, h => h.elim
 | .tbyte _, h => h.elim
 | .tgrp _ _, h => h.elim
 | .talt _ _, h => h.elim
 | .tser _, h => h.elim
 | .trep _, h => h.elim
theorem tdrop_isR : ∀ {r : Tr} {m : Nat}, r.isR → (tdrop m r).isR
 | r, 0, h => by cases r <;> exact h
 | .lcons y r, m + 1, h => tdrop_isR (r := r) (m := m) h
 | .lnil, m + 1, _ => trivial
 | .tnil, _ + 1, h => h.elim
 | .tbyte _, _ + 1, h => h.elim
 | .tgrp _ _, _ + 1, h => h.elim
 | .talt _ _, _ + 1, h => h.elim
 | .tser _, _ + 1, h => h.elim
 | .trep _, _ + 1, h => h.elim
end Go.Proofs.YtnfojonmohijpabGreatDoor
namespace Go.Proofs.YtnfojonmohijpabGreatDoor
open Go.RowKit
theorem info3 (a b c : Value) : (Tryz.prog.info? 75).map (·.size) = some (#[a, b, c] : Array Value).size := by kernel_rfl
theorem all3 {a b c : Value} (ha : a.oneCell' = true) (hb : b.oneCell' = true) (hc : c.oneCell' = true) : (#[a, b, c] : Array Value).all (·.oneCell') = true := by simp [ha, hb, hc]
theorem heap3_0 (w : World) (x y z : Obj) : (((w.alloc x).alloc y).alloc z).heap[w.heap.size]? = some x := by
 have h1 := heap_alloc2_old w x y
 have hk : Keeps [] ((w.alloc x).alloc y) (((w.alloc x).alloc y).alloc z) := (Keeps.refl [] _).alloc _
 exact (hk.block _ (by simp; omega) (by simp)).trans h1
theorem heap3_1 (w : World) (x y z : Obj) : (((w.alloc x).alloc y).alloc z).heap[w.heap.size + 1]? = some y := by
 have h1 := heap_alloc2_new w x y
 have hk : Keeps [] ((w.alloc x).alloc y) (((w.alloc x).alloc y).alloc z) := (Keeps.refl [] _).alloc _
 exact (hk.block _ (by simp) (by simp)).trans h1
theorem heap3_2 (w : World) (x y z : Obj) : (((w.alloc x).alloc y).alloc z).heap[w.heap.size + 2]? = some z := by
 have := heap_alloc_new ((w.alloc x).alloc y) z
 simpa using this
theorem keeps3 (w : World) (x y z : Obj) : Keeps [] w (((w.alloc x).alloc y).alloc z) := (((Keeps.refl [] w).alloc _).alloc _).alloc _
theorem matCells {w : World} {g : Nat} {a b c d e f : Value} {s : ByteArray} (h : w.heap[g]? = some (.cells #[a, b, c, d, .string s, e, f] 67 (0, 0))) : w.cell? ⟨g, 4, none⟩ = some (.string s) := by rw [Lib.cell_of_heap h]; rfl
theorem oneTree {w : World} {cs : List Value} (hl : cs.length = 3) : (w.alloc (.cells cs.toArray 75)).ownsRow 0 75 3 (.slice (some ⟨w.heap.size, 0, none⟩) 1 1) 1 cs :=
 ⟨by omega, .inr ⟨w.heap.size, 1, cs.toArray, rfl, Nat.zero_le _, heap_alloc_new w _, Nat.le_refl _, by decide, by simpa using hl, by simp [← hl]⟩⟩
set_option maxRecDepth 100000 in
set_option maxHeartbeats 2000000 in
theorem treeOfSingle_any (s : ByteArray) (N : Nat) (hs : s.size ≤ 100) (n : Nat) (IW : TWays s N n) : TSingle s N (n + 1) := by
 intro x hx w S cs m i j hm hM hij hj hmt
 obtain ⟨m0, m1, m2, m3, m5, m6, rfl, o0, o1, o2, o3, o5, o6⟩ := hM.ok
 cases hm with
 | set f v hmp =>
  have hk0 := keeps3 w (.cells #[m0, m1, m2, m3, .string s, m5, m6] 67) (.cells #[.int .i64 0, .slice none 0 0, .slice none 0 0, v] 191) (.cells #[.int .u8 0, .int .i64 0, .slice none 0 0] 75)
  have h0 := heap3_0 w (.cells #[m0, m1, m2, m3, .string s, m5, m6] 67) (.cells #[.int .i64 0, .slice none 0 0, .slice none 0 0, v] 191) (.cells #[.int .u8 0, .int .i64 0, .slice none 0 0] 75)
  have h1 := heap3_1 w (.cells #[m0, m1, m2, m3, .string s, m5, m6] 67) (.cells #[.int .i64 0, .slice none 0 0, .slice none 0 0, v] 191) (.cells #[.int .u8 0, .int .i64 0, .slice none 0 0] 75)
  have h2 := heap3_2 w (.cells #[m0, m1, m2, m3, .string s, m5, m6] 67) (.cells #[.int .i64 0, .slice none 0 0, .slice none 0 0, v] 191) (.cells #[.int .u8 0, .int .i64 0, .slice none 0 0] 75)
  obtain ⟨hlt, hf, hj1⟩ := hmt
  go_enter Tryz.func130, Tryz.ntmps130
  go_upto_region 1 with (fail)
  generalize (((w.alloc (.cells #[m0, m1, m2, m3, .string s, m5, m6] 67)).alloc (.cells #[.int .i64 0, .slice none 0 0, .slice none 0 0, v] 191)).alloc (.cells #[.int .u8 0, .int .i64 0, .slice none 0 0] 75)) = X at *
  obtain ⟨g0, e0⟩ : ∃ g, g = w.heap.size := ⟨_, rfl⟩
  obtain ⟨g1, e1⟩ : ∃ g, g = w.heap.size + 1 := ⟨_, rfl⟩
  obtain ⟨g2, e2⟩ : ∃ g, g = w.heap.size + 2 := ⟨_, rfl⟩
  rw [← e2] at h2 ⊢
  rw [← e1] at h1 ⊢
  rw [← e0] at h0 ⊢
  have hg2w : w.heap.size ≤ g2 := by omega
  clear e0 e1 e2
  have c4 := matCells h0
  have d0 : X.cell? ⟨g1, 0, none⟩ = some (.int .i64 0) := by rw [Lib.cell_of_heap h1]; rfl
  have hi0 : (0 : Int) ≤ (i : Int) := by omega
  have hi1 : (i : Int) < (s.size : Int) := by omega
  have hb : at' s i = (s[i].toNat : Int) := at'_lt hlt
  have hb2 : s[i].toNat < 256 := UInt8.toNat_lt _
  have HT : Hid (TT s (.node (.set f)) i j (.tbyte s[i].toNat)) := by
   have h : (at' s i).toNat = s[i].toNat := by rw [hb]; rfl
   have := TT.byte (s := s) f i j
   rw [h] at this
   exact this
  clear hb hf hj1
  go_wp2_with (first | (refine wpList_store_row rfl 75 _ _ rfl g2 #[.int .u8 98, .int .i64 (s[i].toNat : Int), .slice none 0 0] rfl rfl _ _ h2 (info3 _ _ _) rfl (all3 rfl rfl rfl) ?_))
  refine bodyPost_ret (results_cell_row rfl _ _ g2 _ _ _ _ rfl (setRow_heap _ _ _ _ _ _ h2) Tryz.underlying75 rfl (info3 _ _ _)) rfl ?_
  exact ⟨.tbyte s[i].toNat, [.int .u8 98, .int .i64 (s[i].toNat : Int), .slice none 0 0], rfl, .tbyte _ hb2, HT.out, hk0.setRow (Or.inr hg2w) _⟩
 | grp k y a c h0' h9 hmy =>
  obtain ⟨hone, a', c', e', hmp⟩ := hmy.form
  simp only [List.cons.injEq, and_true] at e'
  obtain ⟨rfl, rfl⟩ := e'
  have hk0 := keeps3 w (.cells #[m0, m1, m2, m3, .string s, m5, m6] 67) (.cells #[.int .i64 k, a, c, c] 191) (.cells #[.int .u8 0, .int .i64 0, .slice none 0 0] 75)
  have h0 := heap3_0 w (.cells #[m0, m1, m2, m3, .string s, m5, m6] 67) (.cells #[.int .i64 k, a, c, c] 191) (.cells #[.int .u8 0, .int .i64 0, .slice none 0 0] 75)
  have h1 := heap3_1 w (.cells #[m0, m1, m2, m3, .string s, m5, m6] 67) (.cells #[.int .i64 k, a, c, c] 191) (.cells #[.int .u8 0, .int .i64 0, .slice none 0 0] 75)
  have h2 := heap3_2 w (.cells #[m0, m1, m2, m3, .string s, m5, m6] 67) (.cells #[.int .i64 k, a, c, c] 191) (.cells #[.int .u8 0, .int .i64 0, .slice none 0 0] 75)
  have hkne : ((k : Int) == 0) = false := by simpa using (by omega : ¬ (k : Int) = 0)
  go_enter Tryz.func130, Tryz.ntmps130
  go_upto_region 1 with (fail)
  generalize (((w.alloc (.cells #[m0, m1, m2, m3, .string s, m5, m6] 67)).alloc (.cells #[.int .i64 k, a, c, c] 191)).alloc (.cells #[.int .u8 0, .int .i64 0, .slice none 0 0] 75)) = X at *
  obtain ⟨g0, e0⟩ : ∃ g, g = w.heap.size := ⟨_, rfl⟩
  obtain ⟨g1, e1⟩ : ∃ g, g = w.heap.size + 1 := ⟨_, rfl⟩
  obtain ⟨g2, e2⟩ : ∃ g, g = w.heap.size + 2 := ⟨_, rfl⟩
  rw [← e2] at h2 ⊢
  rw [← e1] at h1 ⊢
  rw [← e0] at h0 ⊢
  have hg2w : w.heap.size ≤ g2 := by omega
  have hg2X : g2 < X.heap.size := (Array.getElem?_eq_some_iff.1 h2).1
  have hg1X : g1 < X.heap.size := (Array.getElem?_eq_some_iff.1 h1).1
  clear e0 e1 e2
  have d0 : X.cell? ⟨g1, 0, none⟩ = some (.int .i64 k) := by rw [Lib.cell_of_heap h1]; rfl
  have d1 : X.cell? ⟨g1, 1, none⟩ = some a := by rw [Lib.cell_of_heap h1]; rfl
  have d2 : X.cell? ⟨g1, 2, none⟩ = some c := by rw [Lib.cell_of_heap h1]; rfl
  have hysz : y.sz ≤ n := by simp [Pat.sz] at hx; omega
  have hC := IW y hysz X S [a, c] #[m0, m1, m2, m3, .string s, m5, m6] i j (hmy.keep hk0 (by simp)) hM hij hj hmt
  go_wp2_with (first | (refine wpList_load_row rfl 67 _ rfl g0 rfl _ _ _ _ h0 Tryz.underlying67 rfl (info7 _ _ _ _ _ _ _) ?_))
  refine hC.mono ?_
  rintro e w1 ⟨t, cs, rfl, htv, htt, hk1⟩
  obtain ⟨k1, n1, va, vn, vc, rfl⟩ := htv.form
  have h21 := (hk1.block g2 hg2X (by simp)).trans h2
  have d01 := (World.cell?_of_block (hk1.block g1 hg1X (by simp))).trans d0
  have hq0 : (w1.alloc (.cells #[.int .u8 0, .int .i64 0, .slice none 0 0] 75)).heap[w1.heap.size]? = some (.cells #[.int .u8 0, .int .i64 0, .slice none 0 0] 75 (0, 0)) := heap_alloc_new w1 _
  have hkQ : Keeps [] w1 ((w1.alloc (.cells #[.int .u8 0, .int .i64 0, .slice none 0 0] 75)).setRow w1.heap.size #[.int .u8 k1, .int .i64 n1, .slice va vn vc]) := ((Keeps.refl [] w1).alloc _).setRow (Or.inr (Nat.le_refl _)) _
  have hqR : ((w1.alloc (.cells #[.int .u8 0, .int .i64 0, .slice none 0 0] 75)).setRow w1.heap.size #[.int .u8 k1, .int .i64 n1, .slice va vn vc]).heap[w1.heap.size]? = some (.cells #[.int .u8 k1, .int .i64 n1, .slice va vn vc] 75 (0, 0)) := setRow_heap _ _ _ _ _ _ hq0
  have h22 := (hkQ.block g2 (by have := hk1.size; omega) (by simp)).trans h21
  have d02 := (World.cell?_of_block (hkQ.block g1 (by have := hk1.size; omega) (by simp))).trans d01
  have htv2 := htv.keep hkQ (by simp)
  have hkB := (hk0.trans hk1).trans hkQ
  clear hC h0 h1 h2 d0 d1 d2 hk0 h21 d01 htv
  go_upto_region 4 with (first | (refine wpList_store_row rfl 75 _ _ rfl w1.heap.size #[.int .u8 k1, .int .i64 n1, .slice va vn vc] rfl rfl _ _ hq0 (info3 _ _ _) rfl (all3 rfl rfl rfl) ?_; generalize (w1.alloc (.cells #[.int .u8 0, .int .i64 0, .slice none 0 0] 75)).setRow w1.heap.size #[.int .u8 k1, .int .i64 n1, .slice va vn vc] = w2 at *))
  obtain ⟨gt, hgt⟩ : ∃ g, g = w1.heap.size := ⟨_, rfl⟩
  rw [← hgt] at hqR ⊢
  clear hgt hq0
  have hk3 : Keeps [] w2 (w2.alloc (.cells #[.int .u8 k1, .int .i64 n1, .slice va vn vc] 75)) := (Keeps.refl [] w2).alloc _
  have hown : (w2.alloc (.cells #[.int .u8 k1, .int .i64 n1, .slice va vn vc] 75)).ownsRow 0 75 3 (.slice (some ⟨w2.heap.size, 0, none⟩) 1 1) 1 [.int .u8 k1, .int .i64 n1, .slice va vn vc] := oneTree rfl
  have h23 := (hk3.block g2 (Array.getElem?_eq_some_iff.1 h22).1 (by simp)).trans h22
  have htv3 := htv2.keep hk3 (by simp)
  have hkC := hkB.trans hk3
  have hkS : Keeps [g2] (w2.alloc (.cells #[.int .u8 k1, .int .i64 n1, .slice va vn vc] 75)) ((w2.alloc (.cells #[.int .u8 k1, .int .i64 n1, .slice va vn vc] 75)).setRow g2 #[.int .u8 103, .int .i64 k, .slice (some ⟨w2.heap.size, 0, none⟩) 1 1]) := (Keeps.refl [g2] _).setRow (g := g2) (by simp) _
  have hg22 : g2 < w2.heap.size := (Array.getElem?_eq_some_iff.1 h22).1
  go_wp2_with (first | (refine wpList_load_row rfl 75 _ rfl gt rfl _ _ _ _ hqR Tryz.underlying75 rfl (info3 _ _ _) ?_) | (refine wpList_store_row rfl 75 _ _ rfl g2 #[.int .u8 103, .int .i64 k, .slice (some ⟨w2.heap.size, 0, none⟩) 1 1] rfl rfl _ _ h23 (info3 _ _ _) rfl (all3 rfl rfl rfl) ?_))
  refine bodyPost_ret (results_cell_row rfl _ _ g2 _ _ _ _ rfl (setRow_heap _ _ _ _ _ _ h23) Tryz.underlying75 rfl (info3 _ _ _)) rfl ?_
  refine ⟨.tgrp k t, [.int .u8 103, .int .i64 k, .slice (some ⟨w2.heap.size, 0, none⟩) 1 1], rfl, ?_, .grp k y i j t h9 htt, hkC.setRow (Or.inr hg2w) _⟩
  have hwX : w.heap.size ≤ w2.heap.size := hkB.size
  refine .tgrp k t _ [.int .u8 k1, .int .i64 n1, .slice va vn vc] h9 ((htv3.keep hkS (by intro z hz; simp; omega)).mono fun z hz _ => by omega) (hown.keep hkS (by intro z hz; simp only [Value.ownBlock, Option.some.injEq] at hz; simp; omega)) ?_
  intro z hz
  simp only [Value.ownBlock, Option.some.injEq] at hz
  omega
end Go.Proofs.YtnfojonmohijpabGreatDoor
