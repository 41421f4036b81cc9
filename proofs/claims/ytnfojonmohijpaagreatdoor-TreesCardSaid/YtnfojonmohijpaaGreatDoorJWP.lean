/-
  DERIVED. Plain mathematics: which trees fit the reference's nodes, and that these are the trees that fit the pattern that they stand for. Nothing of the program stands here.
-/
import Derived.Test.YtnfojonmohijpaaGreatDoorJUL
import Derived.Test.YtnfojonmohijpaaGreatDoorJWM
import Derived.Test.YtnfojonmohijpaaGreatDoorJMC
import Derived.Test.YtnfojonmohijpaaGreatDoorJRT
set_option linter.unusedSimpArgs false
set_option linter.unusedVariables false
namespace Go.Proofs.YtnfojonmohijpaaGreatDoor
inductive FN (nds : List Nd) : Nat → Tr → Prop
 | byte (k : Nat) (nd : Nd) (b : Nat) : nds[k]? = some nd → nd.kind = 98 → b < 256 → nd.f b = true → FN nds k (.tbyte b)
 | grp (k : Nat) (nd : Nd) (c : Nat) (u : Tr) : nds[k]? = some nd → nd.kind = 103 → nd.kids = [c] → FN nds c u → FN nds k (.tgrp nd.n u)
 | alt (k : Nat) (nd : Nd) (c p : Nat) (u : Tr) : nds[k]? = some nd → nd.kind = 111 → nd.kids[p]? = some c → FN nds c u → FN nds k (.talt p u)
 | nil (k : Nat) (nd : Nd) : nds[k]? = some nd → nd.kind = 119 → nd.kids = [] → FN nds k .tnil
 | ser (k : Nat) (nd : Nd) (l : Tr) : nds[k]? = some nd → nd.kind = 119 → nd.kids ≠ [] → (tl l).length = nd.kids.length → (∀ (i c : Nat) (u : Tr), nd.kids[i]? = some c → (tl l)[i]? = some u → FN nds c u) → FN nds k (.tser l)
 | rep (k : Nat) (nd : Nd) (c : Nat) (l : Tr) : nds[k]? = some nd → nd.kind = 114 → nd.kids = [c] → nd.mn ≤ (tl l).length → (nd.mx < 0 ∨ ((tl l).length : Int) ≤ nd.mx) → (∀ u, u ∈ tl l → FN nds c u) → FN nds k (.trep l)
variable {nds : List Nd} {k : Nat} {nd : Nd} {t : Tr}
theorem FN.byte_iff (e : nds[k]? = some nd) (hk : nd.kind = 98) : FN nds k t ↔ ∃ b, t = .tbyte b ∧ b < 256 ∧ nd.f b = true := by
 constructor
 ·intro h
  cases h with
  | byte _ nd' b e' k' a c => cases e.symm.trans e'; exact ⟨b, rfl, a, c⟩
  | grp _ nd' _ _ e' k' => cases e.symm.trans e'; omega
  | alt _ nd' _ _ _ e' k' => cases e.symm.trans e'; omega
  | nil _ nd' e' k' => cases e.symm.trans e'; omega
  | ser _ nd' _ e' k' => cases e.symm.trans e'; omega
  | rep _ nd' _ _ e' k' => cases e.symm.trans e'; omega
 ·rintro ⟨b, rfl, h1, h2⟩
  exact .byte k nd b e hk h1 h2
theorem FN.grp_iff {c : Nat} (e : nds[k]? = some nd) (hk : nd.kind = 103) (hc : nd.kids = [c]) : FN nds k t ↔ ∃ u, t = .tgrp nd.n u ∧ FN nds c u := by
 constructor
 ·intro h
  cases h with
  | byte _ nd' b e' k' a c => cases e.symm.trans e'; omega
  | grp _ nd' c' u e' k' hc' hu => cases e.symm.trans e'; rw [hc] at hc'; cases hc'; exact ⟨u, rfl, hu⟩
  | alt _ nd' _ _ _ e' k' => cases e.symm.trans e'; omega
  | nil _ nd' e' k' => cases e.symm.trans e'; omega
  | ser _ nd' _ e' k' => cases e.symm.trans e'; omega
  | rep _ nd' _ _ e' k' => cases e.symm.trans e'; omega
 ·rintro ⟨u, rfl, h⟩
  exact .grp k nd c u e hk hc h
theorem FN.alt_iff (e : nds[k]? = some nd) (hk : nd.kind = 111) : FN nds k t ↔ ∃ p c u, t = .talt p u ∧ nd.kids[p]? = some c ∧ FN nds c u := by
 constructor
 ·intro h
  cases h with
  | byte _ nd' b e' k' a c => cases e.symm.trans e'; omega
  | grp _ nd' c' u e' k' hc' hu => cases e.symm.trans e'; omega
  | alt _ nd' c p u e' k' hc hu => cases e.symm.trans e'; exact ⟨p, c, u, rfl, hc, hu⟩
  | nil _ nd' e' k' => cases e.symm.trans e'; omega
  | ser _ nd' _ e' k' => cases e.symm.trans e'; omega
  | rep _ nd' _ _ e' k' => cases e.symm.trans e'; omega
 ·rintro ⟨p, c, u, rfl, h1, h2⟩
  exact .alt k nd c p u e hk h1 h2
theorem FN.way_iff (e : nds[k]? = some nd) (hk : nd.kind = 119) : FN nds k t ↔ (nd.kids = [] ∧ t = .tnil) ∨ (nd.kids ≠ [] ∧ ∃ l, t = .tser l ∧ (tl l).length = nd.kids.length ∧ ∀ (i c : Nat) (u : Tr), nd.kids[i]? = some c → (tl l)[i]? = some u → FN nds c u) := by
 constructor
 ·intro h
  cases h with
  | byte _ nd' b e' k' a c => cases e.symm.trans e'; omega
  | grp _ nd' c' u e' k' hc' hu => cases e.symm.trans e'; omega
  | alt _ nd' _ _ _ e' k' => cases e.symm.trans e'; omega
  | nil _ nd' e' k' h0 => cases e.symm.trans e'; exact Or.inl ⟨h0, rfl⟩
  | ser _ nd' l e' k' h0 hl hu => cases e.symm.trans e'; exact Or.inr ⟨h0, l, rfl, hl, hu⟩
  | rep _ nd' _ _ e' k' => cases e.symm.trans e'; omega
 ·rintro (⟨h0, rfl⟩ | ⟨h0, l, rfl, hl, hu⟩)
  ·exact .nil k nd e hk h0
  ·exact .ser k nd l e hk h0 hl hu
theorem FN.rep_iff {c : Nat} (e : nds[k]? = some nd) (hk : nd.kind = 114) (hc : nd.kids = [c]) : FN nds k t ↔ ∃ l, t = .trep l ∧ nd.mn ≤ (tl l).length ∧ (nd.mx < 0 ∨ ((tl l).length : Int) ≤ nd.mx) ∧ ∀ u, u ∈ tl l → FN nds c u := by
 constructor
 ·intro h
  cases h with
  | byte _ nd' b e' k' a c => cases e.symm.trans e'; omega
  | grp _ nd' c' u e' k' hc' hu => cases e.symm.trans e'; omega
  | alt _ nd' _ _ _ e' k' => cases e.symm.trans e'; omega
  | nil _ nd' e' k' => cases e.symm.trans e'; omega
  | ser _ nd' _ e' k' => cases e.symm.trans e'; omega
  | rep _ nd' c' l e' k' hc' h1 h2 h3 => cases e.symm.trans e'; rw [hc] at hc'; cases hc'; exact ⟨l, rfl, h1, h2, h3⟩
 ·rintro ⟨l, rfl, h1, h2, h3⟩
  exact .rep k nd c l e hk hc h1 h2 h3
theorem way_at : ∀ {x : Pat} {l : List Nat}, rep nds x l → shp x .way → l.length = (pl x).length ∧ ∀ (i : Nat) (z : Pat) (c : Nat), (pl x)[i]? = some z → l[i]? = some c → rep nds z [c] ∧ shp z .piece ∧ z.sz < x.sz
 | .pnil, l, h, _ => by cases h; exact ⟨rfl, fun i z c hz _ => by simp [pl] at hz⟩
 | .pcons x r, l, h, hs => by
  obtain ⟨k, l', rfl, h1, h2⟩ := h
  obtain ⟨a, b⟩ := way_at h2 hs.2
  refine ⟨by simp [pl, a], fun i z c hz hc => ?_⟩
  cases i with
  | zero =>
   simp only [pl, List.getElem?_cons_zero, Option.some.injEq] at hz hc
   subst hz hc
   exact ⟨h1, hs.1, by simp only [Pat.sz]; omega⟩
  | succ i =>
   simp only [pl, List.getElem?_cons_succ] at hz hc
   obtain ⟨p, q, r'⟩ := b i z c hz hc
   exact ⟨p, q, by simp only [Pat.sz]; omega⟩
 | .set _, _, _, hs => hs.elim
 | .grp _ _, _, _, hs => hs.elim
 | .rep _ _ _, _, _, hs => hs.elim
 | .wone _, _, _, hs => hs.elim
 | .wcons _ _, _, _, hs => hs.elim
theorem ways_at : ∀ {x : Pat} {l : List Nat}, rep nds x l → shp x .ways → l.length = (wl x).length ∧ ∀ (i : Nat) (z : Pat) (c : Nat), (wl x)[i]? = some z → l[i]? = some c → repK nds .way z c ∧ shp z .way ∧ z.sz < x.sz
 | .wone x, l, h, hs => by
  obtain ⟨c', lp, rfl, hr, hl⟩ := h
  refine ⟨rfl, fun i z c hz hc => ?_⟩
  cases i with
  | zero =>
   simp only [wl, List.getElem?_cons_zero, Option.some.injEq] at hz hc
   subst hz hc
   exact ⟨⟨lp, hr, hl⟩, hs, by simp only [Pat.sz]; omega⟩
  | succ i => simp [wl] at hz
 | .wcons x r, l, h, hs => by
  obtain ⟨c', lp, l', rfl, ⟨hr, hl⟩, h2⟩ := h
  obtain ⟨a, b⟩ := ways_at h2 hs.2
  refine ⟨by simp [wl, a], fun i z c hz hc => ?_⟩
  cases i with
  | zero =>
   simp only [wl, List.getElem?_cons_zero, Option.some.injEq] at hz hc
   subst hz hc
   exact ⟨⟨lp, hr, hl⟩, hs.1, by simp only [Pat.sz]; omega⟩
  | succ i =>
   simp only [wl, List.getElem?_cons_succ] at hz hc
   obtain ⟨p, q, r'⟩ := b i z c hz hc
   exact ⟨p, q, by simp only [Pat.sz]; omega⟩
 | .pnil, _, _, hs => hs.elim
 | .pcons _ _, _, _, hs => hs.elim
 | .set _, _, _, hs => hs.elim
 | .grp _ _, _, _, hs => hs.elim
 | .rep _ _ _, _, _, hs => hs.elim
theorem repK_Ft : ∀ (n : Nat) {kd : Kd} {x : Pat} {k : Nat}, x.sz ≤ n → shp x kd → repK nds kd x k → ∀ {t : Tr}, TO true t → (Ft x t ↔ FN nds k t) := by
 intro n
 induction n with
 | zero => intro kd x k hn; exact absurd hn (by cases x <;> simp [Pat.sz])
 | succ n ih =>
  intro kd x k hn hs h t ht
  have hone : (kd = .piece ∨ kd = .single) → rep nds x [k] → (Ft x t ↔ FN nds k t) := by
   intro hkd hr
   cases x with
   | set f =>
    obtain ⟨k', nd, hk', e, hk, _, hf⟩ := hr
    simp only [List.cons.injEq, and_true] at hk'
    subst hk'
    rw [FN.byte_iff e hk]
    constructor
    ·intro h
     cases h with
     | set _ b hb =>
      have h2 : b < 256 := by cases ht; assumption
      exact ⟨b, rfl, h2, by rw [hf b h2]; exact hb⟩
    ·rintro ⟨b, rfl, h2, hb⟩
     exact .set f b (by rw [← hf b h2]; exact hb)
   | grp m y =>
    obtain ⟨k', nd, c, lw, hk', e, hk, hm, hc, hr, hl⟩ := hr
    simp only [List.cons.injEq, and_true] at hk'
    subst hk'
    have hy : shp y .ways := by rcases hkd with rfl | rfl <;> exact hs
    have hyn : y.sz ≤ n := by simp only [Pat.sz] at hn; omega
    have key : ∀ u, TO true u → (Ft y u ↔ FN nds c u) := fun u hu => ih hyn hy (⟨lw, hr, hl⟩ : repK nds .ways y c) hu
    rw [FN.grp_iff e hk hc]
    constructor
    ·intro h
     cases h with
     | grp _ _ u hu =>
      have h2 : TO true u := by cases ht; assumption
      exact ⟨u, by rw [hm], (key u h2).1 hu⟩
    ·rintro ⟨u, rfl, hu⟩
     have h2 : TO true u := by cases ht; assumption
     rw [hm]
     exact .grp m y u ((key u h2).2 hu)
   | rep mn mx y =>
    obtain ⟨k', nd, c, hk', e, hk, rfl, rfl, hc, hr⟩ := hr
    simp only [List.cons.injEq, and_true] at hk'
    subst hk'
    have hy : shp y .single := by
     rcases hkd with rfl | rfl
     ·exact hs.2.2.2
     ·exact hs.elim
    have hyn : y.sz ≤ n := by simp only [Pat.sz] at hn; omega
    have key : ∀ u, TO true u → (Ft y u ↔ FN nds c u) := fun u hu => ih hyn hy (hr : repK nds .single y c) hu
    rw [FN.rep_iff e hk hc]
    constructor
    ·intro h
     cases h with
     | rep _ _ _ l h1 h2 h3 =>
      have hl : TO false l := by cases ht; assumption
      exact ⟨l, rfl, h1, h2, fun u hu => (key u (hl.row.2 u hu)).1 (h3 u hu)⟩
    ·rintro ⟨l, rfl, h1, h2, h3⟩
     have hl : TO false l := by cases ht; assumption
     exact .rep _ _ y l h1 h2 fun u hu => (key u (hl.row.2 u hu)).2 (h3 u hu)
   | pnil => rcases hkd with rfl | rfl <;> exact hs.elim
   | pcons _ _ => rcases hkd with rfl | rfl <;> exact hs.elim
   | wone _ => rcases hkd with rfl | rfl <;> exact hs.elim
   | wcons _ _ => rcases hkd with rfl | rfl <;> exact hs.elim
  cases kd with
  | single => exact hone (Or.inr rfl) h
  | piece => exact hone (Or.inl rfl) h
  | way =>
   obtain ⟨lp, hr, hl⟩ := h
   obtain ⟨hlen, hat⟩ := way_at hr hs
   cases x with
   | pnil =>
    rcases hl with rfl | ⟨_, nd, e, hk, rfl⟩
    ·simp [pl] at hlen
    ·have h0 : nd.kids = [] := hr
     rw [FN.way_iff e hk]
     constructor
     ·intro h; cases h; exact Or.inl ⟨h0, rfl⟩
     ·rintro (⟨_, rfl⟩ | ⟨h, _⟩)
      ·exact .nil
      ·exact absurd h0 h
   | pcons y r =>
    cases r with
    | pnil =>
     rcases hl with rfl | ⟨h1, _⟩
     ·obtain ⟨a, b, c⟩ := hat 0 y k (by simp [pl]) (by simp)
      have hyn : y.sz ≤ n := by omega
      rw [← ih hyn b (a : repK nds .piece y k) ht]
      constructor
      ·intro h; cases h; assumption
      ·intro h; exact .lone y t h
     ·simp [pl] at hlen; exact absurd hlen h1
    | pcons z r =>
     rcases hl with rfl | ⟨_, nd, e, hk, rfl⟩
     ·simp [pl] at hlen
     ·have hne : nd.kids ≠ [] := fun h => by rw [h] at hlen; simp [pl] at hlen
      rw [FN.way_iff e hk]
      have key : ∀ (i : Nat) (z' : Pat) (c : Nat) (u : Tr), (pl (.pcons y (.pcons z r)))[i]? = some z' → nd.kids[i]? = some c → TO true u → (Ft z' u ↔ FN nds c u) := fun i z' c u h1 h2 hu => by
       obtain ⟨a, b, d⟩ := hat i z' c h1 h2
       exact ih (by omega) b (a : repK nds .piece z' c) hu
      constructor
      ·intro h
       cases h with
       | ser _ _ _ l h1 h2 =>
        have hl : TO false l := by cases ht; assumption
        refine Or.inr ⟨hne, l, rfl, h1.trans hlen.symm, fun i c u hc hu => ?_⟩
        have hi : i < (pl (.pcons y (.pcons z r))).length := by rw [← hlen]; exact (List.getElem?_eq_some_iff.1 hc).1
        have hz := List.getElem?_eq_getElem hi
        exact (key i _ c u hz hc (hl.row.2 u (List.mem_of_getElem? hu))).1 (h2 i _ u hz hu)
      ·rintro (⟨h0, _⟩ | ⟨_, l, rfl, h1, h2⟩)
       ·exact absurd h0 hne
       ·have hl : TO false l := by cases ht; assumption
        refine .ser y z r l (h1.trans hlen) fun i z' u hz hu => ?_
        have hi : i < nd.kids.length := by rw [hlen]; exact (List.getElem?_eq_some_iff.1 hz).1
        have hc := List.getElem?_eq_getElem hi
        exact (key i z' _ u hz hc (hl.row.2 u (List.mem_of_getElem? hu))).2 (h2 i _ u hc hu)
    | _ => exact hs.2.elim
   | _ => exact hs.elim
  | ways =>
   obtain ⟨lw, hr, hl⟩ := h
   obtain ⟨hlen, hat⟩ := ways_at hr hs
   cases x with
   | wone y =>
    rcases hl with rfl | ⟨h1, _⟩
    ·obtain ⟨a, b, c⟩ := hat 0 y k (by simp [wl]) (by simp)
     have hyn : y.sz ≤ n := by omega
     rw [← ih hyn b a ht]
     constructor
     ·intro h; cases h; assumption
     ·intro h; exact .one y t h
    ·simp [wl] at hlen; exact absurd hlen h1
   | wcons y r =>
    have hpos : 0 < (wl r).length := by
     cases r with
     | wone _ => simp [wl]
     | wcons _ _ => simp [wl]
     | _ => exact hs.2.elim
    rcases hl with rfl | ⟨_, nd, e, hk, rfl⟩
    ·simp [wl] at hlen; rw [hlen] at hpos; simp at hpos
    ·rw [FN.alt_iff e hk]
     have key : ∀ (i : Nat) (z' : Pat) (c : Nat) (u : Tr), (wl (.wcons y r))[i]? = some z' → nd.kids[i]? = some c → TO true u → (Ft z' u ↔ FN nds c u) := fun i z' c u h1 h2 hu => by
      obtain ⟨a, b, d⟩ := hat i z' c h1 h2
      exact ih (by omega) b a hu
     constructor
     ·intro h
      cases h with
      | alt _ _ p z u hz hu =>
       have h2 : TO true u := by cases ht; assumption
       have hi : p < nd.kids.length := by rw [hlen]; exact (List.getElem?_eq_some_iff.1 hz).1
       have hc := List.getElem?_eq_getElem hi
       exact ⟨p, _, u, rfl, hc, (key p z _ u hz hc h2).1 hu⟩
     ·rintro ⟨p, c, u, rfl, hc, hu⟩
      have h2 : TO true u := by cases ht; assumption
      have hi : p < (wl (.wcons y r)).length := by rw [← hlen]; exact (List.getElem?_eq_some_iff.1 hc).1
      have hz := List.getElem?_eq_getElem hi
      exact .alt y r p _ u hz ((key p _ c u hz hc h2).2 hu)
   | _ => exact hs.elim
def decV (l : List UInt8) : Nat := l.foldl (fun a c => a * 10 + (c.toNat - 48)) 0
set_option maxRecDepth 100000 in
theorem decV_dec (n : Nat) (h : n ≤ 99) : decV (decT n) = n := by
 have key : ∀ a : Fin 100, decV (decT a.val) = a.val := by decide
 exact key ⟨n, by omega⟩
theorem decT_inj {a b : Nat} (ha : a ≤ 99) (hb : b ≤ 99) (h : decT a = decT b) : a = b := by
 rw [← decV_dec a ha, ← decV_dec b hb, h]
theorem head_grp {t : Tr} (h : TO true t) {n : Nat} (hn : n ≤ 99) (e : headT t = [40, 103] ++ decT n) : ∃ u, t = .tgrp n u := by
 cases h with
 | tgrp k x h1 h9 _ =>
  have e' : decT k = decT n := by simpa [headT] using e
  obtain rfl := decT_inj (by omega) hn e'
  exact ⟨x, rfl⟩
 | _ => simp [headT] at e
theorem head_alt {t : Tr} (h : TO true t) {n : Nat} (hn : n ≤ 99) (e : headT t = [40, 97] ++ decT n) : ∃ u, t = .talt n u := by
 cases h with
 | talt p x h1 _ =>
  have e' : decT p = decT n := by simpa [headT] using e
  obtain rfl := decT_inj (by omega) hn e'
  exact ⟨x, rfl⟩
 | _ => simp [headT] at e
theorem head_ser {t : Tr} (h : TO true t) (e : headT t = [40, 115]) : ∃ l, t = .tser l := by
 cases h with
 | tser l _ _ => exact ⟨l, rfl⟩
 | _ => simp [headT] at e
theorem head_rep {t : Tr} (h : TO true t) (e : headT t = [40, 114]) : ∃ l, t = .trep l := by
 cases h with
 | trep l _ => exact ⟨l, rfl⟩
 | _ => simp [headT] at e
end Go.Proofs.YtnfojonmohijpaaGreatDoor
namespace Go.Proofs.YtnfojonmohijpaaGreatDoor
open Go.RowKit
theorem txts_ge (K : List Tr) : ∀ (m : Nat), m < K.length → m ≤ (txts (K.take m)).length
 | 0, _ => Nat.zero_le _
 | m + 1, h => by
  have h1 := txts_ge K m (by omega)
  obtain ⟨u, hu⟩ : ∃ u, K[m]? = some u := ⟨_, List.getElem?_eq_getElem (by omega)⟩
  rw [txts_take K m u hu]
  simp
  omega
theorem ownsRow_slN {w : World} {lo : Nat} {e : TypeId} {size : Nat} {v : Value} {n : Nat} {xs : List Value} (h : w.ownsRow lo e size v n xs) : ∃ a b c, v = .slice a b c := by
 rcases h.2 with ⟨rfl, _⟩ | ⟨g, cap, cur, rfl, _⟩ <;> exact ⟨_, _, _, rfl⟩
set_option maxRecDepth 100000 in
set_option maxHeartbeats 4000000 in
theorem kids_any (t : Tr) (ht : TO true t) (hs : t.text.length ≤ 20000) (w : World) :
    Calls Tryz.prog 145 #[.string (nmB t.text)] w fun e w' => ∃ v, e = .returned (.tuple #[.string (nmB (headT t)), v]) ∧ StrRow w' w.heap.size v ((kidL t).map Tr.text) ∧ Keeps [] w w' := by
 obtain ⟨hp, hkids⟩ := ht.parts
 have hhd := ht.head
 have hsz : (nmB t.text).size = t.text.length := nmB_size _
 have hshut : shutT t = [] ∧ kidL t = [] ∨ shutT t = [41] := by cases ht <;> simp [shutT, kidL]
 obtain ⟨H, hH⟩ : ∃ H, headT t = H := ⟨_, rfl⟩
 obtain ⟨K, hK⟩ : ∃ K, kidL t = K := ⟨_, rfl⟩
 obtain ⟨Z, hZ⟩ : ∃ Z, shutT t = Z := ⟨_, rfl⟩
 obtain ⟨x, hx⟩ : ∃ x, t.text = x := ⟨_, rfl⟩
 rw [hH] at hhd hp ⊢
 rw [hK] at hp hkids hshut ⊢
 rw [hZ] at hp hshut
 rw [hx] at hp hs hsz ⊢
 have HP : Hid (x = H ++ txts K ++ Z) := hp
 have hxl : (x.length : Int) ≤ 20000 := by omega
 have hsi : ((nmB x).size : Int) = (x.length : Int) := by omega
 have hHl : H.length ≤ x.length := by rw [hp]; simp
 -- the byte behind the head
 have hnext : H.length < x.length → ∃ c, x[H.length]? = some c ∧ (c = 32 ∨ c = 41) := by
  intro hlt
  rw [hp, List.append_assoc, List.getElem?_append_right (Nat.le_refl _), Nat.sub_self]
  cases K with
  | nil =>
   rcases hshut with ⟨rfl, _⟩ | rfl
   ·exfalso; rw [hp] at hlt; simp [txts] at hlt
   ·exact ⟨41, rfl, Or.inr rfl⟩
  | cons u K => exact ⟨32, rfl, Or.inl rfl⟩
 have HN : Hid (H.length < x.length → ∃ c, x[H.length]? = some c ∧ (c = 32 ∨ c = 41)) := hnext
 have HHD : Hid (nosb H) := hhd
 have HKD : Hid (∀ u, u ∈ K → TO true u) := hkids
 have HSH : Hid (Z = [] ∧ K = [] ∨ Z = [41]) := hshut
 have HHL : Hid (H.length ≤ x.length) := hHl
 clear hp hhd hkids hshut hH hK hZ hx ht hnext hHl
 go_enter Tryz.func145, Tryz.ntmps145
 go_upto_region 2 with (fail)
 go_loopw [4] (fun q wr => ∃ i : Nat, q = .int .i64 i ∧ i ≤ H.length ∧ wr = w) (fun q _ => H.length - (intOf q).toNat)
 case atStart => exact ⟨0, rfl, Nat.zero_le _, rfl⟩
 case round =>
  obtain ⟨i, rfl, hi, hww⟩ := hrel
  have hww' := hww.symm
  clear hww
  subst hww'
  have hi0 : (0 : Int) ≤ (i : Int) := by omega
  have hi2 : (i : Int) ≤ 20000 := by have := HHL.out; omega
  by_cases hlt : i < H.length
  ·have hix : i < x.length := by have := HHL.out; omega
   obtain ⟨hb, hc⟩ := nmB_at x i hix
   obtain ⟨nc, hnc⟩ : ∃ n, ((nmB x)[i]'hb).toNat = n := ⟨_, rfl⟩
   have hxi : x[i]'hix = H[i]'hlt := by
    have h1 : x[i]? = some (H[i]'hlt) := by rw [HP.out, List.append_assoc, List.getElem?_append_left hlt, List.getElem?_eq_getElem hlt]
    rw [List.getElem?_eq_getElem hix] at h1
    exact Option.some.inj h1
   have hno := HHD.out (H[i]'hlt) (List.getElem_mem hlt)
   have hn32 : nc ≠ 32 := fun h => hno.1 (UInt8.toNat_inj.1 (by rw [← hxi, ← hc, hnc, h]; rfl))
   have hn41 : nc ≠ 41 := fun h => hno.2 (UInt8.toNat_inj.1 (by rw [← hxi, ← hc, hnc, h]; rfl))
   have q1 : ((nc : Int) == 32) = false := by simp; omega
   have q1' : ((nc : Int) != 32) = true := by simp; omega
   have q2 : ((nc : Int) == 41) = false := by simp; omega
   have q2' : ((nc : Int) != 41) = true := by simp; omega
   have q1n : ¬ (nc : Int) = 32 := by omega
   have q2n : ¬ (nc : Int) = 41 := by omega
   have hil : (i : Int) < ((nmB x).size : Int) := by omega
   have hil' : (i : Int) < (x.length : Int) := by omega
   have HI : Hid (i < H.length) := hlt
   clear hlt hi hxi hno hn32 hn41 hc hix
   go_wp2_with fail
   exact ⟨⟨i + 1, by go_num, HI.out, by trivial⟩, by have := HI.out; simp [intOf]; omega⟩
  ·obtain rfl : i = H.length := by omega
   have hcut : (nmB x).extract 0 H.length = nmB H := by
    have := nmB_cutW [] H (txts K ++ Z)
    rw [List.nil_append, List.length_nil, Nat.zero_add, ← List.append_assoc, ← HP.out] at this
    exact this
   have hHi : (H.length : Int) ≤ (x.length : Int) := by have := HHL.out; omega
   have hcs : (decide ((H.length : Int) < (x.length : Int)) = false ∧ decide (H.length < x.length) = false) ∨ ∃ nc hb, ((nmB x)[H.length]'hb).toNat = nc ∧ (H.length : Int) < (x.length : Int) ∧ ((((nc : Int) == 32) = true ∧ ((nc : Int) != 32) = false ∧ (nc : Int) = 32) ∨ (((nc : Int) == 32) = false ∧ ((nc : Int) != 32) = true ∧ ¬ (nc : Int) = 32 ∧ ((nc : Int) == 41) = true ∧ ((nc : Int) != 41) = false ∧ (nc : Int) = 41)) := by
    by_cases h : H.length < x.length
    ·obtain ⟨c, hc1, hc2⟩ := HN.out h
     obtain ⟨hb, hc⟩ := nmB_at x H.length h
     have hcc : x[H.length]'h = c := by rw [List.getElem?_eq_getElem h] at hc1; exact Option.some.inj hc1
     refine Or.inr ⟨_, hb, rfl, by omega, ?_⟩
     rw [hc, hcc]
     rcases hc2 with rfl | rfl
     ·exact Or.inl ⟨by decide, by decide, by decide⟩
     ·exact Or.inr ⟨by decide, by decide, by decide, by decide, by decide, by decide⟩
    ·exact Or.inl ⟨by simp; omega, by simp; omega⟩
   obtain ⟨h0, hh0⟩ : ∃ h0, H.length = h0 := ⟨_, rfl⟩
   rw [hh0] at hcs hHi hcut hi0 hi2 ⊢
   have HH0 : Hid (H.length = h0) := hh0
   obtain ⟨i0, hin0, hz0, hz1, hz2⟩ := info_parts infoStrW
   have hun := Tryz.underlying43
   clear hlt hi hh0
   rcases hcs with ⟨r1, r2⟩ | ⟨nc, hb, hnc, r1, ⟨r2, r3, r4⟩ | ⟨r2, r3, r4, r5, r6, r7⟩⟩
   all_goals
    go_upto_region 4 with (fail)
    go_upto_region 6 with (fail)
    try clear r1
    try clear r2
    try clear r3
    try clear r4
    try clear r5
    try clear r6
    try clear r7
    try clear hnc
    go_loopw [4, 6, 7] (fun q4 q6 _ wq => ∃ m P : Nat, m ≤ K.length ∧ q4 = .int .i64 P ∧ P = H.length + (txts (K.take m)).length ∧ StrRow wq w.heap.size q6 ((K.take m).map Tr.text) ∧ Keeps [] w wq) (fun q4 _ _ _ => x.length - (intOf q4).toNat)
    case atStart => exact ⟨0, h0, Nat.zero_le _, rfl, by have := HH0.out; simp [txts]; omega, World.ownsRow_nil _ _ _ _, Keeps.refl _ _⟩
    case round =>
     obtain ⟨m, P, hm, rfl, hP, hrow, hkq⟩ := hrel
     have hP0 : (0 : Int) ≤ (P : Int) := by omega
     by_cases hlt : m < K.length
     ·obtain ⟨u, hu⟩ : ∃ u, K[m]? = some u := ⟨_, List.getElem?_eq_getElem hlt⟩
      have hut : TO true u := HKD.out u (List.mem_of_getElem? hu)
      have htk := txts_take K m u hu
      obtain ⟨Y, hY⟩ : ∃ Y, txts K = txts (K.take (m + 1)) ++ Y := ⟨txts (K.drop (m + 1)), by unfold txts; rw [← List.flatMap_append, List.take_append_drop]⟩
      have hxx : x = (H ++ txts (K.take m) ++ [32]) ++ u.text ++ (Y ++ Z) := by rw [HP.out, hY, htk]; simp
      have hlx : P + 1 + u.text.length ≤ x.length := by rw [hxx, hP]; simp; omega
      have hPl : (H ++ txts (K.take m) ++ [32]).length = P + 1 := by rw [hP]; simp; omega
      have hL := nmB_lies (H ++ txts (K.take m) ++ [32]) u.text (Y ++ Z)
      have hC := nmB_cutW (H ++ txts (K.take m) ++ [32]) u.text (Y ++ Z)
      rw [← hxx, hPl] at hL hC
      have hPx : P < x.length := by omega
      obtain ⟨hb, hc⟩ := nmB_at x P hPx
      have hx32 : x[P]'hPx = 32 := by
       have e : x[P]? = some 32 := by
        rw [hxx, List.append_assoc, List.append_assoc, List.append_assoc, ← List.append_assoc H, List.getElem?_append_right (by rw [hP]; simp), hP]
        simp
       rw [List.getElem?_eq_getElem hPx] at e
       exact Option.some.inj e
      obtain ⟨nc, hnc⟩ : ∃ n, ((nmB x)[P]'hb).toNat = n := ⟨_, rfl⟩
      have hn32 : nc = 32 := by rw [← hnc, hc, hx32]; rfl
      have q1 : ((nc : Int) == 32) = true := by simp [hn32]
      have hPi : (P : Int) < (x.length : Int) := by omega
      obtain ⟨E, hE⟩ : ∃ E, P + 1 + u.text.length = E := ⟨_, rfl⟩
      have hA := after_any (nmB x) (by omega) (P + 1) u hut hL wr
      rw [hE] at hA hC
      have hcast : ((P + 1 : Nat) : Int) = (P : Int) + 1 := by omega
      rw [hcast] at hA
      have HS : Hid (m < K.length ∧ P = H.length + (txts (K.take m)).length ∧ P + 1 + u.text.length = E ∧ txts (K.take (m + 1)) = txts (K.take m) ++ ([32] ++ u.text) ∧ K[m]? = some u ∧ E ≤ x.length) := ⟨hlt, hP, hE, htk, hu, by omega⟩
      have hE1 : (P : Int) + 1 ≤ (E : Int) := by omega
      have hE2 : (E : Int) ≤ (x.length : Int) := by omega
      have hPm : (P : Int) ≤ 20000 := by omega
      have hCE : (nmB x).extract (P + 1) E = nmB u.text := hC
      have hrl : ((K.take m).map Tr.text).length = m := by simp; omega
      have hlm : ((K.take m).map Tr.text).length + 1 ≤ maxLen := by
       unfold maxLen
       have h1 : m ≤ (txts (K.take m)).length := txts_ge K m hlt
       omega
      have hlb : (((K.take m).map Tr.text).length + 1) * 16 ≤ 140737488355328 := by
       have h1 : m ≤ (txts (K.take m)).length := txts_ge K m hlt
       omega
      obtain ⟨ya, yn, yc, rfl⟩ := ownsRow_slN hrow
      clear hu hut htk hY hxx hlx hPl hL hC hPx hc hx32 hn32 hE hcast hlt hm hP
      go_upto_region 8 with (first | (go_at_call 186; refine hA.mono ?_; rintro e w2 ⟨rfl, hk2⟩))
      have hrow2 := World.ownsRow.keep hrow hk2 (by simp)
      have hkA := hkq.trans hk2
      have hsA := hkA.size
      obtain ⟨Rw, hRw⟩ : ∃ R, (K.take m).map Tr.text = R := ⟨_, rfl⟩
      rw [hRw] at hrow2 hlm hlb
      have HR : Hid ((K.take m).map Tr.text = Rw) := hRw
      have hrow2' : w2.ownsRow w.heap.size 9 1 (.slice ya yn yc) Rw.length (Rw.map fun x => .string (nmB x)) := hrow2
      clear hRw hrow2 hrow hrl hA
      go_wp2_with (first | (at_builtin; refine wpList_append_lies _ rfl _ _ _ rfl w.heap.size 9 i0 (.string ⟨#[]⟩) 1 16 hun hin0 hz0 hz1 hz2 rfl (by decide) (.slice ya yn yc) Rw.length _ rfl (World.ownsRow.alloc hrow2' _) ⟨w2.heap.size, 0, none⟩ 1 1 [.string (nmB u.text)] rfl rfl (cell_one_new _ _ _) (by simp [Value.oneCell']) (by omega) hlm hlb (by simp; omega) (w2.heap.size + 1) (by simp) ?_; intro g cap w4 hown hgrow hat hlt4))
      have hk4 : Keeps [] w w4 := by
       have h1 : Keeps [] w (w2.alloc (.cells #[.string (nmB u.text)] 9)) := hkA.alloc _
       refine h1.fresh (Keeps.ofGrown hgrow) ?_
       intro z hz
       rw [Option.mem_toList] at hz
       exact Or.inr (World.ownsRow.lt hrow2' z hz).1
      have hrow4 : StrRow w4 w.heap.size (.slice (some ⟨g, 0, none⟩) (Rw.length + 1) cap) ((K.take (m + 1)).map Tr.text) := by
       have e : (K.take (m + 1)).map Tr.text = Rw ++ [u.text] := by
        rw [List.take_add_one, HS.out.2.2.2.2.1, List.map_append, HR.out]
        rfl
       show w4.ownsRow _ _ 1 _ ((K.take (m + 1)).map Tr.text).length (((K.take (m + 1)).map Tr.text).map _)
       rw [e, List.length_append, List.map_append]
       exact hown
      clear hown hgrow hat
      go_wp2_with fail
      go_roundw
      case rel => exact ⟨m + 1, E, HS.out.1, rfl, by have := HS.out; rw [this.2.2.2.1]; simp; omega, hrow4, hk4⟩
      case measure => have := HS.out; simp [intOf]; omega
     ·obtain rfl : m = K.length := by omega
      rw [List.take_length] at hrow hP
      have hcz : (decide ((P : Int) < (x.length : Int)) = false ∧ decide (P < x.length) = false) ∨ ∃ nc hb, ((nmB x)[P]'hb).toNat = nc ∧ (P : Int) < (x.length : Int) ∧ ((nc : Int) == 32) = false ∧ ¬ (nc : Int) = 32 := by
       have hxx := HP.out
       by_cases h : P < x.length
       ·obtain ⟨hb, hc⟩ := nmB_at x P h
        have hz : x[P]? = some 41 := by
         rcases HSH.out with ⟨rfl, _⟩ | rfl
         ·exfalso; rw [hxx] at h; simp at h; omega
         ·rw [hxx, hP, List.getElem?_append_right (by simp)]; simp
        have hcc : x[P]'h = 41 := by rw [List.getElem?_eq_getElem h] at hz; exact Option.some.inj hz
        refine Or.inr ⟨_, hb, rfl, by omega, ?_⟩
        rw [hc, hcc]
        exact ⟨by decide, by decide⟩
       ·exact Or.inl ⟨by simp; omega, by simp; omega⟩
      obtain ⟨ya, yn, yc, rfl⟩ := ownsRow_slN hrow
      have hPm : (P : Int) ≤ 20000 := by
       have h1 := HP.out
       have h2 : x.length = H.length + (txts K).length + Z.length := by rw [h1]; simp; omega
       omega
      clear hP hlt hm
      rcases hcz with ⟨v1, v2⟩ | ⟨nc, hb, hnc, v1, v2, v3⟩
      all_goals
       go_wp2_with fail
       go_ret2
       exact ⟨_, rfl, hrow, hkq⟩
end Go.Proofs.YtnfojonmohijpaaGreatDoor
namespace Go.Proofs.YtnfojonmohijpaaGreatDoor
open Go.RowKit
theorem flat_get {css : List (List Value)} (h6 : ∀ c, c ∈ css → c.length = 6) : ∀ {k : Nat} {cs : List Value}, css[k]? = some cs → ∀ j, j < 6 → css.flatten[k * 6 + j]? = cs[j]? := by
 induction css with
 | nil => intro k cs h; simp at h
 | cons c css ih =>
  intro k cs h j hj
  have hc := h6 c (by simp)
  cases k with
  | zero =>
   have e : c = cs := by simpa using h
   subst e
   rw [List.flatten_cons, Nat.zero_mul, Nat.zero_add, List.getElem?_append_left (by omega)]
  | succ k =>
   have h' : css[k]? = some cs := by simpa using h
   rw [List.flatten_cons, List.getElem?_append_right (by omega), show (k + 1) * 6 + j - c.length = k * 6 + j from by omega]
   exact ih (fun c hc => h6 c (by simp [hc])) h' j hj
theorem NInv.node {w : World} {b : Nat} {A : List Nat} {v : Value} {nds : List Nd} (h : NInv w b A v nds) {k : Nat} {nd : Nd} (hk : nds[k]? = some nd) :
    ∃ g cap hv kv, v = .slice (some ⟨g, 0, none⟩) nds.length cap ∧ k < nds.length ∧ HoldsV w (avoA b A v) hv nd ∧ KidsV w (avoA b A v) kv nd.kids ∧
     w.cell? ⟨g, k * 6, none⟩ = some (.int .u8 nd.kind) ∧ w.cell? ⟨g, k * 6 + 1, none⟩ = some hv ∧ w.cell? ⟨g, k * 6 + 2, none⟩ = some (.int .i64 nd.n) ∧ w.cell? ⟨g, k * 6 + 3, none⟩ = some (.int .i64 nd.mn) ∧
     w.cell? ⟨g, k * 6 + 4, none⟩ = some (.int .i64 nd.mx) ∧ w.cell? ⟨g, k * 6 + 5, none⟩ = some kv := by
 obtain ⟨css, hl, ho, hne, hnA, hn⟩ := h
 have hlt := (List.getElem?_eq_some_iff.1 hk).1
 obtain ⟨g, cap, rfl, _, _⟩ := ho.form (by omega)
 have h6 : ∀ c, c ∈ css → c.length = 6 := by
  intro c hc
  obtain ⟨j, hj, rfl⟩ := List.mem_iff_getElem.1 hc
  obtain ⟨cs, e, hv, kv, rfl, _⟩ := hn j (nds[j]'(by omega)) (List.getElem?_eq_getElem (by omega))
  rw [List.getElem?_eq_getElem hj] at e
  injection e with e
  rw [e]; rfl
 obtain ⟨cs, e, hv, kv, rfl, h1, h2⟩ := hn k nd hk
 refine ⟨g, cap, hv, kv, rfl, hlt, h1, h2, ?_⟩
 have hc := fun j u hj (hu : [Value.int .u8 nd.kind, hv, .int .i64 nd.n, .int .i64 nd.mn, .int .i64 nd.mx, kv][j]? = some u) => ho.cells (g := g) rfl (k * 6 + j) u ((flat_get h6 e j hj).trans hu)
 have c0 := hc 0 _ (by omega) rfl
 have c1 := hc 1 _ (by omega) rfl
 have c2 := hc 2 _ (by omega) rfl
 have c3 := hc 3 _ (by omega) rfl
 have c4 := hc 4 _ (by omega) rfl
 have c5 := hc 5 _ (by omega) rfl
 simp only [Addr.add_lit, Nat.zero_add, Nat.add_zero] at c0 c1 c2 c3 c4 c5
 exact ⟨c0, c1, c2, c3, c4, c5⟩
theorem Keeps.cell {w w' : World} (h : Keeps [] w w') {a : Addr} {v : Value} (hc : w.cell? a = some v) : w'.cell? a = some v :=
 (World.cell?_of_block (h.block a.block (World.block_lt_of_cell? w a hc) (by simp))).trans hc
theorem KidsV.form {w : World} {av : List Nat} {kv : Value} {kids : List Nat} (h : KidsV w av kv kids) : ∃ ka kc, kv = .slice ka kids.length kc ∧ ∀ i (hi : i < kids.length), ∃ kb, ka = some ⟨kb, 0, none⟩ ∧ w.cell? ⟨kb, i, none⟩ = some (.int .i64 ((kids[i]'hi : Nat) : Int)) := by
 rcases h.1.2 with ⟨rfl, hz⟩ | ⟨kb, kc, cur, rfl, _⟩
 ·exact ⟨none, 0, by rw [hz], fun i hi => by omega⟩
 ·refine ⟨some ⟨kb, 0, none⟩, kc, rfl, fun i hi => ⟨kb, rfl, ?_⟩⟩
  have := h.1.cells (g := kb) rfl i (.int .i64 ((kids[i]'hi : Nat) : Int)) (by simp [hi])
  simpa [Addr.add_lit] using this
end Go.Proofs.YtnfojonmohijpaaGreatDoor
