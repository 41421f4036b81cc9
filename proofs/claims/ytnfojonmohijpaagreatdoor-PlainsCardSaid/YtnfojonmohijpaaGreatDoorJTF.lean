/-
  DERIVED. The reference's 'write' writes a pattern that has been read in its one way. Conditions: the nodes lie as they should.
-/
import Derived.Test.YtnfojonmohijpaaGreatDoorJTE0
set_option linter.unusedSimpArgs false
set_option linter.unusedVariables false
namespace Go.Proofs.YtnfojonmohijpaaGreatDoor
open Go.RowKit

/-- The shapes that reading makes. -/
def shp : Pat → Kd → Prop
  | .set _, .single => True
  | .set _, .piece => True
  | .grp _ x, .single => shp x .ways
  | .grp _ x, .piece => shp x .ways
  | .rep mn mx x, .piece => mn ≤ 5 ∧ -1 ≤ mx ∧ mx ≤ 5 ∧ shp x .single
  | .pnil, .way => True
  | .pcons x r, .way => shp x .piece ∧ shp r .way
  | .wone x, .ways => shp x .way
  | .wcons x r, .ways => shp x .way ∧ shp r .ways
  | _, _ => False
theorem shp_up {x : Pat} (h : shp x .single) : shp x .piece := by
  cases x <;> first | exact h | exact h.elim
theorem RepR.bd {s : ByteArray} {j k mn : Nat} {mx : Int} (h : RepR s j (.ok (Option.some (mn, mx)) k)) : mn ≤ 5 ∧ -1 ≤ mx ∧ mx ≤ 5 := by
  rcases h with ⟨_, _, _, _, e⟩ | ⟨_, e⟩ | ⟨_, e⟩ | ⟨_, e⟩ | ⟨_, q1, n, e⟩
  · cases e
  · cases e; omega
  · cases e; omega
  · cases e; omega
  · cases q1 with
    | bad l => cases e
    | ok m l =>
      have hm := (n.ok m l rfl).2.2.1 (by omega)
      rcases e with ⟨_, _, e⟩ | ⟨_, _, q2, n', e⟩ | ⟨_, e⟩
      · cases e; omega
      · cases q2 with
        | bad x => cases e
        | ok y x =>
          have hy := (n'.ok y x rfl).2.2.1 (by omega)
          simp only [Rep3] at e
          by_cases h5 : at' s x = 125
          · rw [if_pos h5] at e; cases e; omega
          · rw [if_neg h5] at e; cases e
      · by_cases h5 : at' s l = 125
        · rw [if_pos h5] at e; cases e; omega
        · rw [if_neg h5] at e; cases e
def szL : Kd → Nat
  | .single => 2
  | .piece => 2
  | _ => 0
def szR : Kd → Nat
  | .way => 1
  | .ways => 2
  | _ => 0
/-- What is read is of its kind's shape, and of no more parts than it has bytes, some times over. -/
theorem G.shp {s : ByteArray} {k : Kd} {d g i : Nat} {q : R (Pat × Nat)} (h : G s k d g i q) : ∀ x g1 j, q = .ok (x, g1) j → shp x k ∧ x.sz + szL k ≤ 4 * (j - i) + szR k := by
  induction h with
  | one d g i g1 j x hg e ih => intro x' g1' j' e'; cases e'; have := ih x g1 j rfl; exact ⟨this.1, by simp only [Pat.sz, szL, szR] at this ⊢; omega⟩
  | more d g i g1 j x q hg e hg2 ih ih2 =>
    intro x' g1' j' e'
    cases q with
    | bad l => cases e'
    | ok y l =>
      have h1 := ih x g1 j rfl
      have h2 := ih2 y.1 y.2 l rfl
      have o1 := hg.okb x g1 j rfl
      have o2 := hg2.okb y.1 y.2 l rfl
      cases e'
      refine ⟨⟨h1.1, h2.1⟩, ?_⟩
      simp only [Pat.sz, szL, szR] at h1 h2 ⊢; omega
  | wbad => intro x' g1' j' e'; cases e'
  | nil d g i e => intro x' g1' j' e'; cases e'; exact ⟨trivial, by simp [Pat.sz, szL, szR]⟩
  | cons d g i g1 j x q e hg hg2 ih ih2 =>
    intro x' g1' j' e'
    cases q with
    | bad l => cases e'
    | ok y l =>
      have h1 := ih x g1 j rfl
      have h2 := ih2 y.1 y.2 l rfl
      have o1 := hg.okb x g1 j rfl
      have o2 := hg2.okb y.1 y.2 l rfl
      cases e'
      refine ⟨⟨h1.1, h2.1⟩, ?_⟩
      simp only [Pat.sz, szL, szR] at h1 h2 ⊢; omega
  | pbad => intro x' g1' j' e'; cases e'
  | rep d g i g1 j x q hg r ih =>
    intro x' g1' j' e'
    have o1 := hg.okb x g1 j rfl
    have h1 := ih x g1 j rfl
    cases q with
    | bad l => cases e'
    | ok o l =>
      have hr := r.ok
      cases o with
      | none => cases e'; exact ⟨shp_up h1.1, by simp only [withRep, szL, szR] at h1 ⊢; omega⟩
      | some mm =>
        obtain ⟨mn, mx⟩ := mm
        obtain ⟨b1, b2, b3⟩ := r.bd
        have hlt : j < l := by
          rcases r with ⟨_, _, _, _, e⟩ | ⟨_, e⟩ | ⟨_, e⟩ | ⟨_, e⟩ | ⟨_, q1, n, e⟩
          · cases e
          · cases e; omega
          · cases e; omega
          · cases e; omega
          · cases q1 with
            | bad z => cases e
            | ok m z =>
              have hm := n.ok m z rfl
              rcases e with ⟨_, _, e⟩ | ⟨_, _, q2, n', e⟩ | ⟨_, e⟩
              · cases e; omega
              · cases q2 with
                | bad y => cases e
                | ok y y' =>
                  have hy := n'.ok y y' rfl
                  simp only [Rep3] at e
                  by_cases h5 : at' s y' = 125
                  · rw [if_pos h5] at e; cases e; omega
                  · rw [if_neg h5] at e; cases e
              · by_cases h5 : at' s z = 125
                · rw [if_pos h5] at e; cases e; omega
                · rw [if_neg h5] at e; cases e
        cases e'
        refine ⟨⟨b1, b2, b3, h1.1⟩, ?_⟩
        simp only [withRep, Pat.sz, szL, szR] at h1 ⊢; omega
  | sbad => intro x' g1' j' e'; cases e'
  | deep => intro x' g1' j' e'; cases e'
  | grp d g i g1 j x e o hg c ih => intro x' g1' j' e'; have o1 := hg.okb x g1 j rfl; cases e'; have := ih x g1 j rfl; exact ⟨this.1, by simp only [Pat.sz, szL, szR] at this ⊢; omega⟩
  | gopen => intro x' g1' j' e'; cases e'
  | gbad => intro x' g1' j' e'; cases e'
  | set d g i q e r =>
    intro x' g1' j' e'
    have hG := G.set (s := s) d g i q e r
    cases q with
    | bad l => cases e'
    | ok y l => cases e'; have := (hG.okb _ _ _ rfl).2.2.1 (Or.inr rfl); exact ⟨trivial, by simp only [Pat.sz, szL, szR]; omega⟩
  | dot d g i e => intro x' g1' j' e'; cases e'; exact ⟨trivial, by simp only [Pat.sz, szL, szR]; omega⟩
  | esc d g i e =>
    intro x' g1' j' e'
    cases r : escS s 0 (i + 1) with
    | bad l => rw [r] at e'; cases e'
    | ok y l => rw [r] at e'; cases e'; have := escS_ok r; exact ⟨trivial, by simp only [Pat.sz, szL, szR]; omega⟩
  | no => intro x' g1' j' e'; cases e'
  | lit d g i a => intro x' g1' j' e'; cases e'; exact ⟨trivial, by simp only [Pat.sz, szL, szR]; omega⟩

theorem runE_congr {f g : Nat → Bool} (h : ∀ n, n < 256 → f n = g n) : ∀ n m, runE f n m = runE g n m := by
  intro n
  induction n with
  | zero => intro m; rfl
  | succ n ih =>
    intro m
    rw [runE, runE, ih]
    by_cases hm : m < 255
    · rw [h (m + 1) (by omega)]
    · rw [if_neg (fun hh => hm hh.1), if_neg (fun hh => hm hh.1)]
theorem outTo_congr {f g : Nat → Bool} (h : ∀ n, n < 256 → f n = g n) : ∀ m, m ≤ 256 → outTo f m = outTo g m ∧ cntTo f m = cntTo g m := by
  intro m
  induction m with
  | zero => intro _; exact ⟨rfl, rfl⟩
  | succ m ih =>
    intro hm
    obtain ⟨i1, i2⟩ := ih (by omega)
    have e1 : outAt f m = outAt g m := by
      unfold outAt runEnd
      rw [h m (by omega), h (m - 1) (by omega), runE_congr h]
    exact ⟨by rw [outTo, outTo, i1, e1], by rw [cntTo, cntTo, i2, h m (by omega)]⟩
theorem setT_congr {f g : Nat → Bool} (h : ∀ n, n < 256 → f n = g n) : setT f = setT g := by
  obtain ⟨a, b⟩ := outTo_congr h 256 (Nat.le_refl _)
  unfold setT
  rw [a, b]

/-- The nodes l are written as the texts ts. -/
def AllW (nds : List Nd) (l : List Nat) (ts : List (List UInt8)) : Prop := ts.length = l.length ∧ ∀ (i c : Nat) (t : List UInt8), l[i]? = some c → ts[i]? = some t → Writes nds c t
theorem AllW.nil (nds : List Nd) : AllW nds [] [] := ⟨rfl, by simp⟩
theorem AllW.cons {nds : List Nd} {k : Nat} {t : List UInt8} {l : List Nat} {ts : List (List UInt8)} (h : Writes nds k t) (hs : AllW nds l ts) : AllW nds (k :: l) (t :: ts) := by
  refine ⟨by simp [hs.1], ?_⟩
  intro i c t' hc ht
  cases i with
  | zero => simp at hc ht; subst hc ht; exact h
  | succ i => exact hs.2 i c t' (by simpa using hc) (by simpa using ht)
def bars : List (List UInt8) → List UInt8
  | [] => []
  | [t] => t
  | t :: u :: r => t ++ ([124] ++ bars (u :: r))

theorem join_len (bar : Bool) (ts : List (List UInt8)) (m : Nat) : (joinTo bar ts m).length ≤ (ts.take m).flatten.length + m := by
  induction m with
  | zero => simp [joinTo]
  | succ m ih =>
    have h1 : (if bar = true ∧ 0 < m then [(124 : UInt8)] else []).length ≤ 1 := by split <;> simp
    simp only [joinTo, List.length_append]
    by_cases hm : m < ts.length
    · have e1 : (ts.take (m + 1)).flatten.length = (ts.take m).flatten.length + (ts[m]).length := by
        rw [List.take_succ_eq_append_getElem hm, List.flatten_append, List.length_append, List.flatten_cons, List.flatten_nil, List.append_nil]
      have e2 : ts.getD m [] = ts[m] := by rw [List.getD_eq_getElem?_getD, List.getElem?_eq_getElem hm]; rfl
      rw [e1, e2]; omega
    · have e2 : ts.getD m [] = [] := by rw [List.getD_eq_getElem?_getD, List.getElem?_eq_none (by omega)]; rfl
      rw [List.take_of_length_le (by omega : ts.length ≤ m)] at ih
      rw [List.take_of_length_le (by omega : ts.length ≤ m + 1), e2, List.length_nil]; omega
theorem take_flat_le (ts : List (List UInt8)) (m : Nat) : (ts.take m).flatten.length ≤ ts.flatten.length := by
  conv => rhs; rw [← List.take_append_drop m ts, List.flatten_append, List.length_append]
  omega
theorem getD_flat_le (ts : List (List UInt8)) (i : Nat) : (ts.getD i []).length ≤ ts.flatten.length := by
  by_cases hm : i < ts.length
  · have h1 := take_flat_le ts (i + 1)
    rw [List.take_succ_eq_append_getElem hm, List.flatten_append, List.length_append] at h1
    rw [List.getD_eq_getElem?_getD, List.getElem?_eq_getElem hm]
    simp at h1 ⊢; omega
  · rw [List.getD_eq_getElem?_getD, List.getElem?_eq_none (by omega)]; simp
theorem join_flat (ts : List (List UInt8)) (m : Nat) (hm : m ≤ ts.length) : joinTo false ts m = (ts.take m).flatten := by
  induction m with
  | zero => simp [joinTo]
  | succ m ih =>
    rw [joinTo, ih (by omega), List.take_succ_eq_append_getElem (by omega), List.flatten_append, List.getD_eq_getElem?_getD, List.getElem?_eq_getElem (by omega)]
    simp
theorem join_bars_cons (t : List UInt8) (ts : List (List UInt8)) (m : Nat) (hm : 0 < m) : joinTo true (t :: ts) (m + 1) = t ++ ([124] ++ joinTo true ts m) := by
  induction m with
  | zero => omega
  | succ m ih =>
    by_cases h0 : m = 0
    · subst h0; simp [joinTo]
    · have := ih (by omega)
      rw [joinTo, this, joinTo]
      have h1 : (if true = true ∧ 0 < m + 1 then [(124 : UInt8)] else []) = [124] := by simp
      have h2 : (if true = true ∧ 0 < m then [(124 : UInt8)] else []) = [124] := by simp; omega
      rw [h1, h2]
      simp
theorem join_bars : ∀ (ts : List (List UInt8)), joinTo true ts ts.length = bars ts
  | [] => rfl
  | [t] => by simp [joinTo, bars]
  | t :: u :: r => by
    rw [bars, ← join_bars (u :: r)]
    exact join_bars_cons t (u :: r) (u :: r).length (by simp)
theorem bars_len : ∀ (ts : List (List UInt8)), ts.flatten.length ≤ (bars ts).length
  | [] => by simp
  | [t] => by simp [bars]
  | t :: u :: r => by
    have := bars_len (u :: r)
    rw [List.flatten_cons, List.length_append, bars, List.length_append, List.length_append]
    omega

/-- A list of parts behind one node. -/
theorem list_writes {nds : List Nd} (hn : nds.length ≤ 1000) {kind : Nat} (hkd : kind = 119 ∨ kind = 111) {l : List Nat} {c : Nat} {ts : List (List UInt8)} (h : AllW nds l ts) (hl : ListN nds kind l c) (hlen : l.length ≤ 1000) (hB : ts.flatten.length ≤ 10000000) :
    Writes nds c (if kind = 119 then ts.flatten else bars ts) := by
  rcases hl with rfl | ⟨h1, nd, e, hk, rfl⟩
  · obtain ⟨hl, ha⟩ := h
    match ts, hl with
    | [t], _ =>
      have := ha 0 c t rfl rfl
      rcases hkd with rfl | rfl <;> simpa [bars] using this
  · have hjb : ∀ bar m, m ≤ ts.length → (joinTo bar ts m).length ≤ 100000000 := by
      intro bar m hm
      have h2 := join_len bar ts m
      have h3 := take_flat_le ts m
      have h4 := h.1
      omega
    have htb : ∀ i, (ts.getD i []).length ≤ 100000000 := fun i => Nat.le_trans (getD_flat_le ts i) (by omega)
    rcases hkd with rfl | rfl
    · have hw := write_119 nds hn c nd e ts h.1 h.2 hjb htb hlen hk (by rw [hk]; intro h; omega)
      have : nodeT nd ts = ts.flatten := by
        unfold nodeT
        rw [hk, if_neg (by decide), if_neg (by decide), if_neg (by decide)]
        show joinTo false ts ts.length = _
        rw [join_flat ts _ (Nat.le_refl _), List.take_length]
      rw [this] at hw
      exact hw
    · have hw := write_111 nds hn c nd e ts h.1 h.2 hjb htb hlen hk (by rw [hk]; intro h; omega)
      have : nodeT nd ts = bars ts := by
        unfold nodeT
        rw [hk, if_neg (by decide), if_neg (by decide), if_neg (by decide)]
        show joinTo true ts ts.length = _
        rw [join_bars]
      rw [this] at hw
      exact hw

/-- What is written of a part. -/
def WP (nds : List Nd) : Kd → Pat → Prop
  | .way, x => ∀ l, rep nds x l → l.length ≤ x.sz ∧ ∃ ts, AllW nds l ts ∧ ts.flatten = patT x
  | .ways, x => ∀ l, rep nds x l → l.length ≤ x.sz ∧ ∃ ts, AllW nds l ts ∧ bars ts = patT x ∧ ts ≠ []
  | _, x => ∀ k, rep nds x [k] → Writes nds k (patT x)

theorem way_writes {nds : List Nd} (hn : nds.length ≤ 1000) {x : Pat} (h : WP nds .way x) (hz : x.sz ≤ 1000) {lp : List Nat} {c : Nat} (hr : rep nds x lp) (hl : ListN nds 119 lp c) : Writes nds c (patT x) := by
  obtain ⟨h1, ts, ha, ht⟩ := h lp hr
  have := list_writes hn (Or.inl rfl) ha hl (by omega) (by rw [ht]; have := patT_len x; omega)
  rw [if_pos rfl, ht] at this
  exact this
theorem ways_writes {nds : List Nd} (hn : nds.length ≤ 1000) {x : Pat} (h : WP nds .ways x) (hz : x.sz ≤ 1000) {lw : List Nat} {c : Nat} (hr : rep nds x lw) (hl : ListN nds 111 lw c) : Writes nds c (patT x) := by
  obtain ⟨h1, ts, ha, ht, _⟩ := h lw hr
  have := list_writes hn (Or.inr rfl) ha hl (by omega) (by have := bars_len ts; rw [ht] at this; have := patT_len x; omega)
  rw [if_neg (by decide), ht] at this
  exact this

theorem one_ts {nds : List Nd} {c : Nat} {t : List UInt8} (h : Writes nds c t) : AllW nds [c] [t] := .cons h (.nil nds)

theorem writes_all (nds : List Nd) (hn : nds.length ≤ 1000) (x : Pat) : ∀ kd, shp x kd → x.sz ≤ 1000 → WP nds kd x := by
  have jb1 : ∀ (t : List UInt8), t.length ≤ 10000000 → ∀ bar m, m ≤ [t].length → (joinTo bar [t] m).length ≤ 100000000 := by
    intro t ht bar m hm
    have h2 := join_len bar [t] m
    have h3 := take_flat_le [t] m
    have h4 : [t].flatten.length = t.length := by simp
    have h5 : m ≤ 1 := hm
    omega
  have tb1 : ∀ (t : List UInt8), t.length ≤ 10000000 → ∀ i, ([t].getD i []).length ≤ 100000000 := fun t ht i => Nat.le_trans (getD_flat_le [t] i) (by simp; omega)
  have jf1 : ∀ (t : List UInt8), joinTo false [t] [t].length = t := by intro t; simp [joinTo]
  induction x with
  | set f =>
    intro kd hs hz
    have main : ∀ k, rep nds (.set f) [k] → Writes nds k (patT (.set f)) := by
      rintro k ⟨k', nd, e, hk, h98, hkids, hf⟩
      cases e
      have hw := write_98 nds hn k nd hk [] (by rw [hkids]; rfl) (by rw [hkids]; simp) (fun bar m hm => Nat.le_trans (join_len bar [] m) (by have h0 : m ≤ 0 := hm; have h1 : (List.take m ([] : List (List UInt8))).flatten.length = 0 := (by simp); omega)) (by intro i; simp) (by rw [hkids]; simp) h98 (by rw [h98]; intro h; omega)
      have : nodeT nd [] = patT (.set f) := by unfold nodeT; rw [if_pos h98]; exact setT_congr hf
      rw [this] at hw
      exact hw
    cases kd <;> first | exact main | exact hs.elim
  | grp j x ih =>
    intro kd hs hz
    have main : shp x .ways → ∀ k, rep nds (.grp j x) [k] → Writes nds k (patT (.grp j x)) := by
      rintro hx k ⟨k', nd, c, lw, e, hk, h103, hj, hkids, hr, hl⟩
      cases e
      simp only [Pat.sz] at hz
      have hwx := ways_writes hn (ih .ways hx (by omega)) (by omega) hr hl
      have htl := patT_len x
      have hw := write_103 nds hn k nd hk [patT x] (by rw [hkids]; rfl) (by rw [hkids]; exact (one_ts hwx).2) (jb1 _ (by omega)) (tb1 _ (by omega)) (by rw [hkids]; simp) h103 (by rw [h103]; intro h; omega)
      have : nodeT nd [patT x] = patT (.grp j x) := by unfold nodeT; rw [h103, if_neg (by decide), if_pos rfl, jf1]; rfl
      rw [this] at hw
      exact hw
    cases kd <;> first | exact main hs | exact hs.elim
  | rep mn mx x ih =>
    intro kd hs hz
    have main : (mn ≤ 5 ∧ -1 ≤ mx ∧ mx ≤ 5 ∧ shp x .single) → ∀ k, rep nds (.rep mn mx x) [k] → Writes nds k (patT (.rep mn mx x)) := by
      rintro ⟨b1, b2, b3, hx⟩ k ⟨k', nd, c, e, hk, h114, rfl, rfl, hkids, hr⟩
      cases e
      simp only [Pat.sz] at hz
      have hwx := ih .single hx (by omega) c hr
      have htl := patT_len x
      have hw := write_114 nds hn k nd hk [patT x] (by rw [hkids]; rfl) (by rw [hkids]; exact (one_ts hwx).2) (jb1 _ (by omega)) (tb1 _ (by omega)) (by rw [hkids]; simp) h114 (fun _ => ⟨b1, b2, b3⟩)
      have : nodeT nd [patT x] = patT (.rep nd.mn nd.mx x) := by unfold nodeT; rw [h114, if_neg (by decide), if_neg (by decide), if_pos rfl, jf1]; rfl
      rw [this] at hw
      exact hw
    cases kd <;> first | exact main hs | exact hs.elim
  | pnil =>
    intro kd hs hz
    cases kd with
    | way => intro l hr; have : l = [] := hr; subst this; exact ⟨by simp, [], .nil nds, rfl⟩
    | _ => exact hs.elim
  | pcons x r ih1 ih2 =>
    intro kd hs hz
    cases kd with
    | way =>
      rintro l ⟨k, l', rfl, h1, h2⟩
      simp only [Pat.sz] at hz
      have w1 := ih1 .piece hs.1 (by omega) k h1
      obtain ⟨hl, ts, ha, ht⟩ := ih2 .way hs.2 (by omega) l' h2
      exact ⟨by simp only [Pat.sz, List.length_cons]; omega, patT x :: ts, .cons w1 ha, by rw [List.flatten_cons, ht]; rfl⟩
    | _ => exact hs.elim
  | wone x ih =>
    intro kd hs hz
    cases kd with
    | ways =>
      rintro l ⟨c, lp, rfl, h1, h2⟩
      simp only [Pat.sz] at hz
      have w1 := way_writes hn (ih .way hs (by omega)) (by omega) h1 h2
      exact ⟨by simp only [Pat.sz, List.length_singleton]; omega, [patT x], one_ts w1, rfl, by simp⟩
    | _ => exact hs.elim
  | wcons x r ih1 ih2 =>
    intro kd hs hz
    cases kd with
    | ways =>
      rintro l ⟨c, lp, l', rfl, ⟨h1, h2⟩, h3⟩
      simp only [Pat.sz] at hz
      have w1 := way_writes hn (ih1 .way hs.1 (by omega)) (by omega) h1 h2
      obtain ⟨hl, ts, ha, ht, hne⟩ := ih2 .ways hs.2 (by omega) l' h3
      refine ⟨by simp only [Pat.sz, List.length_cons]; omega, patT x :: ts, .cons w1 ha, ?_, by simp⟩
      match ts, hne with
      | u :: ts', _ => rw [bars, ht]; rfl
    | _ => exact hs.elim
end Go.Proofs.YtnfojonmohijpaaGreatDoor

/-
  DERIVED. The contract of the reference's 'Plain', whole: for every text: the pattern in one way, or the place of what cannot stand there, or that it is too long. No conditions.
-/
namespace Go.Proofs.YtnfojonmohijpaaGreatDoor
open Go.RowKit

/-- What 'Plain' is to answer. -/
def PlainA (s : ByteArray) (t : List UInt8) (place errno : Int) : Prop :=
  (60 < s.size ∧ t = [] ∧ place = 0 ∧ errno = 1) ∨
  (s.size ≤ 60 ∧ ∃ q, PatR s q ∧ match q with
    | .bad j => t = [] ∧ place = (j : Int) ∧ errno = 2
    | .ok W _ => t = wholeT W ∧ place = 0 ∧ errno = 0)
theorem PlainA.det {s : ByteArray} {t t' : List UInt8} {p p' e e' : Int} (h : PlainA s t p e) (h' : PlainA s t' p' e') : t = t' ∧ p = p' ∧ e = e' := by
  rcases h with ⟨a, b, c, d⟩ | ⟨a, q, hq, m⟩ <;> rcases h' with ⟨a', b', c', d'⟩ | ⟨a', q', hq', m'⟩
  · exact ⟨b.trans b'.symm, c.trans c'.symm, d.trans d'.symm⟩
  · omega
  · omega
  · have := hq.det hq'
    subst this
    cases q with
    | bad j => exact ⟨m.1.trans m'.1.symm, m.2.1.trans m'.2.1.symm, m.2.2.trans m'.2.2.symm⟩
    | ok W j => exact ⟨m.1.trans m'.1.symm, m.2.1.trans m'.2.1.symm, m.2.2.trans m'.2.2.symm⟩

theorem ret3_str {a b : ByteArray} {p e : Int} (h : a = b) : Ending.returned (.tuple #[.string a, .int .i64 p, .int .i64 e]) = .returned (.tuple #[.string b, .int .i64 p, .int .i64 e]) := by rw [h]

set_option maxRecDepth 100000 in
set_option maxHeartbeats 1000000 in
theorem plain_ref (s : ByteArray) (w : World) :
    Calls Tryz.prog 38 #[.string s] w fun e w' => ∃ t place errno, e = .returned (.tuple #[.string (nmB t), .int .i64 place, .int .i64 errno]) ∧ PlainA s t place errno ∧ Keeps [] w w' := by
  by_cases hs : 60 < s.size
  · go_enter Tryz.func38, Tryz.ntmps38
    go_wp2_with (first | (go_at_call 46; refine (read_long s _ hs).mono ?_; rintro e w' ⟨rfl, rfl⟩))
    go_ret3
    exact ⟨[], 0, 1, rfl, Or.inl ⟨hs, rfl, rfl, rfl⟩, Keeps.refl _ _⟩
  · have hs' : s.size ≤ 60 := by omega
    go_enter Tryz.func38, Tryz.ntmps38
    go_wp2_with fail
    refine (read_any s _ hs').mono ?_
    rintro e w1 ⟨b, p, nds, q, en, rfl, hb, hq, hp, hinv, hk, hn, hps, hcase⟩
    cases q with
    | bad j =>
      obtain ⟨rfl, hbad⟩ := hcase
      obtain ⟨c0, h6, h7, _, _⟩ := hp.main
      rw [hbad] at h6
      clear hbad
      go_wp2_with fail
      go_quiet (fail)
      go_wp2_with fail
      go_ret3
      exact ⟨[], j, 2, rfl, Or.inr ⟨hs', .bad j, hq, rfl, rfl, rfl⟩, hk.drewN _⟩
    | ok W j =>
      obtain ⟨rfl, hbg, hen, hgr, hrep⟩ := hcase
      obtain ⟨qw, hG, hqe⟩ := hq
      have hsz : WP nds .ways W.x ∧ W.x.sz ≤ 1000 := by
        cases qw with
        | bad l => cases hqe
        | ok xg l =>
          obtain ⟨x, g⟩ := xg
          have h1 := hG.shp x g l rfl
          have h2 := endOf_le hG (by unfold wi; by_cases h : at' s 0 = 94; (rw [if_pos h]; exact at'_nn (by omega)); (rw [if_neg h]; exact Nat.zero_le _))
          rw [PatE_ok] at hqe
          have hx : W.x = x := by
            by_cases hc : 0 ≤ at' s (if at' s l = 36 then l + 1 else l)
            · rw [if_pos hc] at hqe; cases hqe
            · rw [if_neg hc] at hqe; cases hqe; rfl
          rw [hx]
          simp only [szL, szR, endOf] at h1 h2
          exact ⟨writes_all nds hn x .ways h1.1 (by omega), by omega⟩
      obtain ⟨hwp, hz⟩ := hsz
      obtain ⟨lw, hr1, hr2⟩ := hrep
      have hW := ways_writes hn hwp hz hr1 hr2
      have htl := patT_len W.x
      have hz1 : (nmB (patT W.x)).size ≤ 10000000 := by rw [nmB_size]; omega
      have hz2 : (nmB [94] ++ nmB (patT W.x)).size ≤ 10000001 := by rw [nmB_appT, nmB_size, List.length_append]; simp; omega
      have HQ : Hid (PatR s (.ok W j)) := ⟨qw, hG, hqe⟩
      obtain ⟨x2, x3, x4, _, _, _⟩ := hp.rbe
      rw [hbg] at x3
      rw [hen] at x4
      clear hqe hG hwp htl hbg hen hr1 hr2 hgr
      go_wp2_with fail
      refine (hW b p _ hp hinv).mono ?_
      rintro e w2 ⟨rfl, hk2⟩
      have y3 := Keeps.cell hk2 x3
      have y4 := Keeps.cell hk2 x4
      cases hbv : W.bg
      all_goals
        cases hev : W.en
        all_goals
          rw [hbv] at y3
          rw [hev] at y4
          go_wp2_with fail
          go_ret3
          exact ⟨wholeT W, 0, 0, ret3_str (by first | (show nmB (patT W.x) = _; rw [wholeT, hbv, hev]; simp; done) | (show nmB (patT W.x) ++ nmB [36] = _; rw [nmB_appT, wholeT, hbv, hev]; simp; done) | (show nmB [94] ++ nmB (patT W.x) = _; rw [nmB_appT, wholeT, hbv, hev]; simp; done) | (show nmB [94] ++ nmB (patT W.x) ++ nmB [36] = _; rw [nmB_appT, nmB_appT, wholeT, hbv, hev]; simp; done)), Or.inr ⟨hs', .ok W j, HQ.out, rfl, rfl, rfl⟩, hk.trans hk2⟩
end Go.Proofs.YtnfojonmohijpaaGreatDoor
