/-
  DERIVED. Plain mathematics: the nine singles of yarrowkeep, and the patterns that it makes, as texts: how they are read. Nothing of the program stands here.
-/
import Derived.Test.YtnfojonmohijpaaGreatDoorJOK
import Derived.Test.YtnfojonmohijpaaGreatDoorJMC
import Derived.Test.YtnfojonmohijpaaGreatDoorJND
set_option linter.unusedSimpArgs false
set_option linter.unusedVariables false
namespace Go.Proofs.YtnfojonmohijpaaGreatDoor
theorem bytes2 {s : ByteArray} {i : Nat} {a b : UInt8} (h : Lies s i [a, b]) : at' s i = (a.toNat : Int) ∧ at' s (i + 1) = (b.toNat : Int) := by
  obtain ⟨h0, h⟩ := Lies.cons.1 h
  obtain ⟨h1, _⟩ := Lies.cons.1 h
  exact ⟨h0, h1⟩
theorem bytes4 {s : ByteArray} {i : Nat} {a b c d : UInt8} (h : Lies s i [a, b, c, d]) : at' s i = (a.toNat : Int) ∧ at' s (i + 1) = (b.toNat : Int) ∧ at' s (i + 2) = (c.toNat : Int) ∧ at' s (i + 3) = (d.toNat : Int) := by
  obtain ⟨h0, h⟩ := Lies.cons.1 h
  obtain ⟨h1, h⟩ := Lies.cons.1 h
  obtain ⟨h2, h⟩ := Lies.cons.1 h
  obtain ⟨h3, _⟩ := Lies.cons.1 h
  exact ⟨h0, h1, h2, h3⟩
theorem sgDot : Sg [46] (.set fun _ => true) := by
  refine ⟨⟨46, [], rfl, by unfold noRep; decide, by unfold stopC; decide⟩, fun s i d g hl => ?_⟩
  exact G.dot d g i (Lies.cons.1 hl).1
theorem sgEsc : Sg [92, 46] (.set (stretch 46 46)) := by
  refine ⟨⟨92, [46], rfl, by unfold noRep; decide, by unfold stopC; decide⟩, fun s i d g hl => ?_⟩
  obtain ⟨h0, h1⟩ := bytes2 hl
  have h1' : at' s (i + 1) = 46 := h1
  have e : escS s 0 (i + 1) = .ok 46 (i + 2) := by unfold escS; rw [h1']; simp [alnB, digB]
  have := G.esc (s := s) d g i h0
  rw [e] at this
  exact this
theorem sgHex : Sg [92, 120, 54, 49] (.set (stretch 97 97)) := by
  refine ⟨⟨92, [120, 54, 49], rfl, by unfold noRep; decide, by unfold stopC; decide⟩, fun s i d g hl => ?_⟩
  obtain ⟨h0, h1, h2, h3⟩ := bytes4 hl
  have h1' : at' s (i + 1) = 120 := h1
  have h2' : at' s (i + 1 + 1) = 54 := h2
  have h3' : at' s (i + 1 + 1 + 1) = 49 := h3
  have e : escS s 0 (i + 1) = .ok 97 (i + 4) := by
    rw [escS_x h1']
    unfold hexPS
    have e1 : hexS s 0 false 0 (i + 1 + 1) = .ok 6 (i + 1 + 1 + 1) := by unfold hexS; rw [h2', if_neg (by decide), show hexd 54 = 6 by decide]
    rw [e1]
    simp only [R.bind]
    have e2 : hexS s (16 * 6) true 0 (i + 1 + 1 + 1) = .ok 1 (i + 1 + 1 + 1 + 1) := by unfold hexS; rw [h3', if_neg (by decide), show hexd 49 = 1 by decide]
    rw [e2]
    rfl
  have := G.esc (s := s) d g i h0
  rw [e] at this
  exact this
theorem rng1 {s : ByteArray} {i : Nat} {c : Int} (h : at' s i = c) (hc : 0 ≤ c ∧ c ≠ 91 ∧ c ≠ 92 ∧ c ≠ 93 ∧ c ≠ 45 ∧ c ≠ 94) (hn : at' s (i + 1) ≠ 45) : rangeS s i = .ok (stretch c c) (i + 1) := by
  have e : innS s 0 i = .ok c (i + 1) := by
    unfold innS
    rw [h, if_neg hc.2.2.1, if_neg (by omega)]
  unfold rangeS
  rw [h, if_neg hc.2.1, e]
  simp only [R.bind]
  rw [if_neg hn]
theorem sgSet : Sg [91, 97, 98, 93] (.set fun n => stretch 97 97 n || stretch 98 98 n) := by
  refine ⟨⟨91, [97, 98, 93], rfl, by unfold noRep; decide, by unfold stopC; decide⟩, fun s i d g hl => ?_⟩
  obtain ⟨h0, h1, h2, h3⟩ := bytes4 hl
  have h1' : at' s (i + 1) = 97 := h1
  have h2' : at' s (i + 1 + 1) = 98 := h2
  have h3' : at' s (i + 1 + 1 + 1) = 93 := h3
  have r1 := rng1 h1' (by decide) (by rw [h2']; decide)
  have r2 := rng1 h2' (by decide) (by rw [h3']; decide)
  exact G.set d g i (.ok _ (i + 4)) h0 (Or.inr ⟨by rw [h1']; decide, SetU.go _ (i + 1) (i + 1 + 1) _ r1 (SetL.more _ _ _ _ _ (by rw [h2']; decide) r2 (SetL.done _ _ h3'))⟩)
theorem sgNot : Sg [91, 94, 97, 93] (.set fun n => !stretch 97 97 n) := by
  refine ⟨⟨91, [94, 97, 93], rfl, by unfold noRep; decide, by unfold stopC; decide⟩, fun s i d g hl => ?_⟩
  obtain ⟨h0, h1, h2, h3⟩ := bytes4 hl
  have h1' : at' s (i + 1) = 94 := h1
  have h2' : at' s (i + 1 + 1) = 97 := h2
  have h3' : at' s (i + 1 + 1 + 1) = 93 := h3
  have r1 := rng1 h2' (by decide) (by rw [h3']; decide)
  exact G.set d g i (.ok _ (i + 4)) h0 (Or.inl ⟨h1', _, SetU.go _ (i + 1 + 1) (i + 1 + 1 + 1) _ r1 (SetL.done _ _ h3'), rfl⟩)
theorem sgCls : Sg [91, 91, 58, 108, 111, 119, 101, 114, 58, 93, 93] (.set fun n => clsB 1 n) := by
  refine ⟨⟨91, [91, 58, 108, 111, 119, 101, 114, 58, 93, 93], rfl, by unfold noRep; decide, by unfold stopC; decide⟩, fun s i d g hl => ?_⟩
  obtain ⟨h0, hl⟩ := Lies.cons.1 hl
  obtain ⟨h1, hl⟩ := Lies.cons.1 hl
  obtain ⟨h2, hl⟩ := Lies.cons.1 hl
  obtain ⟨h3, hl⟩ := Lies.cons.1 hl
  obtain ⟨h4, hl⟩ := Lies.cons.1 hl
  obtain ⟨h5, hl⟩ := Lies.cons.1 hl
  obtain ⟨h6, hl⟩ := Lies.cons.1 hl
  obtain ⟨h7, hl⟩ := Lies.cons.1 hl
  obtain ⟨h8, hl⟩ := Lies.cons.1 hl
  obtain ⟨h9, hl⟩ := Lies.cons.1 hl
  obtain ⟨h10, _⟩ := Lies.cons.1 hl
  have g3 := lies_get h3
  have g4 := lies_get h4
  have g5 := lies_get h5
  have g6 := lies_get h6
  have g7 := lies_get h7
  have c5 : clsS s 1 [108, 111, 119, 101, 114] (i + 1 + 1 + 1 + 1 + 1 + 1 + 1 + 1) = .ok 1 (i + 1 + 1 + 1 + 1 + 1 + 1 + 1 + 1) := by
    rw [clsS, show names.findIdx? (· = [108, 111, 119, 101, 114]) = some 1 by decide]
  have step : ∀ (f : Nat) (w : List UInt8) (c : UInt8) (j : Nat), at' s j = (c.toNat : Int) → names.findIdx? (· = w) = none → goesOn w (c.toNat : Int) = true → clsS s (f + 1) w j = clsS s f (w ++ [c]) (j + 1) := by
    intro f w c j h hn hg
    rw [clsS, hn, h, lies_get h]
    simp only [hg, if_true]
  have c0 : clsS s 6 [] (i + 1 + 1 + 1) = .ok 1 (i + 1 + 1 + 1 + 1 + 1 + 1 + 1 + 1) := by
    rw [step 5 [] 108 _ h3 (by decide) (by decide), step 4 _ 111 _ h4 (by decide) (by decide), step 3 _ 119 _ h5 (by decide) (by decide), step 2 _ 101 _ h6 (by decide) (by decide), step 1 _ 114 _ h7 (by decide) (by decide)]
    exact c5
  have h1' : at' s (i + 1) = 91 := h1
  have h2' : at' s (i + 1 + 1) = 58 := h2
  have h8' : at' s (i + 1 + 1 + 1 + 1 + 1 + 1 + 1 + 1) = 58 := h8
  have h9' : at' s (i + 1 + 1 + 1 + 1 + 1 + 1 + 1 + 1 + 1) = 93 := h9
  have h10' : at' s (i + 1 + 1 + 1 + 1 + 1 + 1 + 1 + 1 + 1 + 1) = 93 := h10
  have ec : classS s (i + 1) = .ok 1 (i + 1 + 1 + 1 + 1 + 1 + 1 + 1 + 1 + 1 + 1) := by
    unfold classS needS
    rw [h2']
    simp only [if_true, R.bind]
    rw [c0]
    simp only [R.bind]
    rw [h8']
    simp only [if_true, R.bind]
    rw [h9']
    simp only [if_true, R.bind]
  have er : rangeS s (i + 1) = .ok (fun n => clsB 1 n) (i + 1 + 1 + 1 + 1 + 1 + 1 + 1 + 1 + 1 + 1) := by
    unfold rangeS
    rw [if_pos h1', ec]
    rfl
  exact G.set d g i (.ok _ (i + 11)) h0 (Or.inr ⟨by rw [h1']; decide, SetU.go _ (i + 1) _ _ er (SetL.done _ _ h10')⟩)
def sgT : Nat → List UInt8
  | 0 => [97]
  | 1 => [98]
  | 2 => [99]
  | 3 => [46]
  | 4 => [91, 97, 98, 93]
  | 5 => [91, 94, 97, 93]
  | 6 => [92, 120, 54, 49]
  | 7 => [91, 91, 58, 108, 111, 119, 101, 114, 58, 93, 93]
  | _ => [92, 46]
def sgF : Nat → Nat → Bool
  | 0 => stretch 97 97
  | 1 => stretch 98 98
  | 2 => stretch 99 99
  | 3 => fun _ => true
  | 4 => fun n => stretch 97 97 n || stretch 98 98 n
  | 5 => fun n => !stretch 97 97 n
  | 6 => stretch 97 97
  | 7 => fun n => clsB 1 n
  | _ => stretch 46 46
theorem sg_all : ∀ k, Sg (sgT k) (.set (sgF k))
  | 0 => sg97
  | 1 => Sg.lit (c := 98) (by decide) (by unfold notC; decide)
  | 2 => Sg.lit (c := 99) (by decide) (by unfold notC; decide)
  | 3 => sgDot
  | 4 => sgSet
  | 5 => sgNot
  | 6 => sgHex
  | 7 => sgCls
  | _ + 8 => sgEsc
end Go.Proofs.YtnfojonmohijpaaGreatDoor
namespace Go.Proofs.YtnfojonmohijpaaGreatDoor
def TmK (s : ByteArray) (nds : List Nd) (c mn : Nat) (mx : Int) (i j : Nat) : Prop := Tm (fun i j => MN s nds (.node c) i j) mn mx i j
inductive JT where
  | node (k : Nat)
  | kids (l : List Nat)
  | times (c mn : Nat) (mx : Int)
  | alts (p : Nat) (l : List Nat)
inductive TN (s : ByteArray) (nds : List Nd) (g : Nat) : JT → Nat → Nat → List UInt8 → List (Nat × Nat × Nat) → Prop
  | byte (k : Nat) (nd : Nd) (i j : Nat) : nds[k]? = some nd → nd.kind = 98 → TN s nds g (.node k) i j ([98] ++ hexT (at' s i).toNat) []
  | grp (k : Nat) (nd : Nd) (c i j : Nat) (t : List UInt8) (ev : List (Nat × Nat × Nat)) : nds[k]? = some nd → nd.kind = 103 → nd.kids = [c] → 0 < nd.n ∧ nd.n ≤ g → TN s nds g (.node c) i j t ev → TN s nds g (.node k) i j ([40, 103] ++ digT nd.n ++ [32] ++ t ++ [41]) ((nd.n, i, j) :: ev)
  | alt (k : Nat) (nd : Nd) (i j : Nat) (t : List UInt8) (ev : List (Nat × Nat × Nat)) : nds[k]? = some nd → nd.kind = 111 → TN s nds g (.alts 0 nd.kids) i j t ev → TN s nds g (.node k) i j t ev
  | none (k : Nat) (nd : Nd) (i j : Nat) : nds[k]? = some nd → nd.kind = 119 → nd.kids = [] → TN s nds g (.node k) i j [101] []
  | way (k : Nat) (nd : Nd) (i j : Nat) (t : List UInt8) (ev : List (Nat × Nat × Nat)) : nds[k]? = some nd → nd.kind = 119 → nd.kids ≠ [] → TN s nds g (.kids nd.kids) i j t ev → TN s nds g (.node k) i j ([40, 115] ++ t ++ [41]) ev
  | rep (k : Nat) (nd : Nd) (c i j : Nat) (t : List UInt8) (ev : List (Nat × Nat × Nat)) : nds[k]? = some nd → nd.kind = 114 → nd.kids = [c] → TN s nds g (.times c nd.mn nd.mx) i j t ev → TN s nds g (.node k) i j ([40, 114] ++ t ++ [41]) ev
  | kend (i j : Nat) : TN s nds g (.kids []) i j [] []
  | kgo (c : Nat) (l : List Nat) (i j m : Nat) (t u : List UInt8) (ev fv : List (Nat × Nat × Nat)) : Cut (fun m => MN s nds (.node c) i m ∧ MN s nds (.row l) m j) i j m → TN s nds g (.node c) i m t ev → TN s nds g (.kids l) m j u fv → TN s nds g (.kids (c :: l)) i j ([32] ++ t ++ u) (ev ++ fv)
  | tend (c mn : Nat) (mx : Int) (i j : Nat) : ¬ (i < j ∨ 0 < mn) → TN s nds g (.times c mn mx) i j [] []
  | tgo (c mn : Nat) (mx : Int) (i j m : Nat) (t u : List UInt8) (ev fv : List (Nat × Nat × Nat)) : (i < j ∨ 0 < mn) → Cut (fun m => MN s nds (.node c) i m ∧ TmK s nds c (mn - 1) (less mx) m j) i j m → TN s nds g (.node c) i m t ev → TN s nds g (.times c (mn - 1) (less mx)) m j u fv → TN s nds g (.times c mn mx) i j ([32] ++ t ++ u) (ev ++ fv)
  | hit (p c : Nat) (l : List Nat) (i j : Nat) (t : List UInt8) (ev : List (Nat × Nat × Nat)) : MN s nds (.node c) i j → TN s nds g (.node c) i j t ev → TN s nds g (.alts p (c :: l)) i j ([40, 97] ++ decT p ++ [32] ++ t ++ [41]) ev
  | miss (p c : Nat) (l : List Nat) (i j : Nat) (t : List UInt8) (ev : List (Nat × Nat × Nat)) : ¬ MN s nds (.node c) i j → TN s nds g (.alts (p + 1) l) i j t ev → TN s nds g (.alts p (c :: l)) i j t ev
theorem Cut.congr {P Q : Nat → Prop} {i j c : Nat} (h : Cut P i j c) (e : ∀ m, P m ↔ Q m) : Cut Q i j c :=
  ⟨h.1, h.2.1, fun k => (e c).1 (h.2.2.1 k), fun m a b q => h.2.2.2 m a b ((e m).2 q)⟩
theorem node_lift {nds : List Nd} {k : Nat} {C : Pat → Prop} (hC1 : ∀ y, C y → C (.pcons y .pnil)) (hC2 : ∀ y, C y → C (.wone y))
    (hp : ∀ {x : Pat} {kd : Kd}, (kd = .piece ∨ kd = .single) → rep nds x [k] → shp x kd → C x)
    (hw : ∀ {x : Pat} {nd : Nd}, nds[k]? = some nd → nd.kind = 119 → nd.kids.length ≠ 1 → rep nds x nd.kids → shp x .way → C x)
    (ho : ∀ {x : Pat} {nd : Nd}, nds[k]? = some nd → nd.kind = 111 → nd.kids.length ≠ 1 → rep nds x nd.kids → shp x .ways → C x) :
    ∀ {kd : Kd} {x : Pat}, repK nds kd x k → shp x kd → C x := by
  have hway : ∀ {x : Pat}, repK nds .way x k → shp x .way → C x := by
    intro x h hs
    obtain ⟨lp, hr, hl⟩ := h
    rcases hl with rfl | ⟨hne, nd, e, hk, rfl⟩
    · cases x with
      | pcons y r =>
        obtain ⟨k', l', e, h1, h2⟩ := hr
        simp only [List.cons.injEq] at e
        obtain ⟨rfl, rfl⟩ := e
        cases r with
        | pnil => exact hC1 y (hp (Or.inl rfl) h1 hs.1)
        | pcons _ _ => obtain ⟨_, _, e, _⟩ := h2; cases e
        | _ => exact hs.2.elim
      | pnil => cases hr
      | _ => exact hs.elim
    · exact hw e hk hne hr hs
  intro kd x h hs
  cases kd with
  | single => exact hp (Or.inr rfl) h hs
  | piece => exact hp (Or.inl rfl) h hs
  | way => exact hway h hs
  | ways =>
    obtain ⟨lw, hr, hl⟩ := h
    rcases hl with rfl | ⟨hne, nd, e, hk, rfl⟩
    · cases x with
      | wone y =>
        obtain ⟨c, lp, e, h1, h2⟩ := hr
        simp only [List.cons.injEq, and_true] at e
        subst e
        exact hC2 y (hway ⟨lp, h1, h2⟩ hs)
      | wcons y r =>
        obtain ⟨c, lp, l', e, ⟨h1, h2⟩, h3⟩ := hr
        simp only [List.cons.injEq] at e
        obtain ⟨rfl, rfl⟩ := e
        cases r with
        | wone z => obtain ⟨_, _, e, _⟩ := h3; cases e
        | wcons z q => obtain ⟨_, _, _, e, _⟩ := h3; cases e
        | _ => exact hs.2.elim
      | _ => exact hs.elim
    · exact ho e hk hne hr hs
theorem one_kind {nds : List Nd} {x : Pat} {kd : Kd} {k : Nat} {nd : Nd} (hkd : kd = .piece ∨ kd = .single) (h : rep nds x [k]) (hs : shp x kd) (e : nds[k]? = some nd) :
    (nd.kind = 98 ∧ ∃ f, x = .set f) ∨ (nd.kind = 103 ∧ ∃ y c lw, x = .grp nd.n y ∧ nd.kids = [c] ∧ rep nds y lw ∧ ListN nds 111 lw c ∧ shp y .ways) ∨
    (nd.kind = 114 ∧ ∃ y c, x = .rep nd.mn nd.mx y ∧ nd.kids = [c] ∧ rep nds y [c] ∧ shp y .single) := by
  cases x with
  | set f =>
    obtain ⟨k', nd', hk', e', hk, _⟩ := h
    simp only [List.cons.injEq, and_true] at hk'
    subst hk'
    cases e.symm.trans e'
    exact Or.inl ⟨hk, f, rfl⟩
  | grp m y =>
    obtain ⟨k', nd', c, lw, hk', e', hk, hn, hc, hr, hl⟩ := h
    simp only [List.cons.injEq, and_true] at hk'
    subst hk'
    cases e.symm.trans e'
    subst hn
    have hy : shp y .ways := by rcases hkd with rfl | rfl <;> exact hs
    exact Or.inr (Or.inl ⟨hk, y, c, lw, rfl, hc, hr, hl, hy⟩)
  | rep mn mx y =>
    obtain ⟨k', nd', c, hk', e', hk, h1, h2, hc, hr⟩ := h
    simp only [List.cons.injEq, and_true] at hk'
    subst hk'
    cases e.symm.trans e'
    subst h1 h2
    rcases hkd with rfl | rfl
    · exact Or.inr (Or.inr ⟨hk, y, c, rfl, hc, hr, hs.2.2.2⟩)
    · exact hs.elim
  | pnil => rcases hkd with rfl | rfl <;> exact hs.elim
  | pcons _ _ => rcases hkd with rfl | rfl <;> exact hs.elim
  | wone _ => rcases hkd with rfl | rfl <;> exact hs.elim
  | wcons _ _ => rcases hkd with rfl | rfl <;> exact hs.elim
def JT.ok (s : ByteArray) (nds : List Nd) : JT → Nat → Nat → List UInt8 → List (Nat × Nat × Nat) → Prop
  | .node k, i, j, t, ev => ∀ {kd : Kd} {x : Pat}, repK nds kd x k → shp x kd → TR s (.node x) i j t ev
  | .kids l, i, j, t, ev => ∀ {x : Pat}, rep nds x l → shp x .way → TR s (.kids x) i j t ev
  | .times c mn mx, i, j, t, ev => ∀ {x : Pat}, rep nds x [c] → shp x .single → TR s (.times mn mx x) i j t ev
  | .alts p l, i, j, t, ev => ∀ {x : Pat}, rep nds x l → shp x .ways → TR s (.alts p x) i j t ev
theorem TN.toTR {s : ByteArray} {nds : List Nd} {g : Nat} {J : JT} {i j : Nat} {t : List UInt8} {ev : List (Nat × Nat × Nat)} (h : TN s nds g J i j t ev) : J.ok s nds i j t ev := by
  have hno : ∀ {k : Nat} {nd nd' : Nd} {a b : Nat} {P : Prop}, nds[k]? = some nd → nd.kind = a → nds[k]? = some nd' → nd'.kind = b → a ≠ b → P := by
    intro k nd nd' a b P e h e' h' hab
    cases e.symm.trans e'
    exact absurd (h.symm.trans h') hab
  induction h with
  | byte k nd i j e hk =>
    show ∀ {kd : Kd} {x : Pat}, repK nds kd x k → shp x kd → TR s (.node x) i j _ _
    intro kd0 x0 hr0 hs0
    refine node_lift (C := fun x => TR s (.node x) i j _ _) (fun y => .lone y i j _ _) (fun y => .wone y i j _ _) ?_ (fun e' hk' _ _ _ => hno e hk e' hk' (by decide)) (fun e' hk' _ _ _ => hno e hk e' hk' (by decide)) hr0 hs0
    intro x kd hkd hr hs
    rcases one_kind hkd hr hs e with ⟨_, f, rfl⟩ | ⟨h', _⟩ | ⟨h', _⟩
    · exact .byte f i j
    · omega
    · omega
  | grp k nd c i j t ev e hk hc _ _ ih =>
    show ∀ {kd : Kd} {x : Pat}, repK nds kd x k → shp x kd → TR s (.node x) i j _ _
    intro kd0 x0 hr0 hs0
    refine node_lift (C := fun x => TR s (.node x) i j _ _) (fun y => .lone y i j _ _) (fun y => .wone y i j _ _) ?_ (fun e' hk' _ _ _ => hno e hk e' hk' (by decide)) (fun e' hk' _ _ _ => hno e hk e' hk' (by decide)) hr0 hs0
    intro x kd hkd hr hs
    rcases one_kind hkd hr hs e with ⟨h', _⟩ | ⟨_, y, c', lw, rfl, hc', hr', hl, hy⟩ | ⟨h', _⟩
    · omega
    · rw [hc] at hc'
      simp only [List.cons.injEq, and_true] at hc'
      subst hc'
      exact .grp _ y i j t ev (ih (kd := .ways) ⟨lw, hr', hl⟩ hy)
    · omega
  | alt k nd i j t ev e hk _ ih =>
    show ∀ {kd : Kd} {x : Pat}, repK nds kd x k → shp x kd → TR s (.node x) i j _ _
    intro kd0 x0 hr0 hs0
    refine node_lift (C := fun x => TR s (.node x) i j _ _) (fun y => .lone y i j _ _) (fun y => .wone y i j _ _) ?_ (fun e' hk' _ _ _ => hno e hk e' hk' (by decide)) ?_ hr0 hs0
    · intro x kd hkd hr hs
      rcases one_kind hkd hr hs e with ⟨h', _⟩ | ⟨h', _⟩ | ⟨h', _⟩ <;> omega
    · intro x nd' e' hk' hne hr hs
      cases e.symm.trans e'
      cases x with
      | wone y => obtain ⟨c, lp, hl, _⟩ := hr; rw [hl] at hne; exact absurd rfl hne
      | wcons y r => exact .wcons y r i j t ev (ih hr hs)
      | _ => exact hs.elim
  | none k nd i j e hk hkids =>
    show ∀ {kd : Kd} {x : Pat}, repK nds kd x k → shp x kd → TR s (.node x) i j _ _
    intro kd0 x0 hr0 hs0
    refine node_lift (C := fun x => TR s (.node x) i j _ _) (fun y => .lone y i j _ _) (fun y => .wone y i j _ _) ?_ ?_ (fun e' hk' _ _ _ => hno e hk e' hk' (by decide)) hr0 hs0
    · intro x kd hkd hr hs
      rcases one_kind hkd hr hs e with ⟨h', _⟩ | ⟨h', _⟩ | ⟨h', _⟩ <;> omega
    · intro x nd' e' hk' hne hr hs
      cases e.symm.trans e'
      rw [hkids] at hr
      cases x with
      | pnil => exact .nil i j
      | pcons y r => obtain ⟨c, lp, hl, _⟩ := hr; cases hl
      | _ => exact hs.elim
  | way k nd i j t ev e hk hkids _ ih =>
    show ∀ {kd : Kd} {x : Pat}, repK nds kd x k → shp x kd → TR s (.node x) i j _ _
    intro kd0 x0 hr0 hs0
    refine node_lift (C := fun x => TR s (.node x) i j _ _) (fun y => .lone y i j _ _) (fun y => .wone y i j _ _) ?_ ?_ (fun e' hk' _ _ _ => hno e hk e' hk' (by decide)) hr0 hs0
    · intro x kd hkd hr hs
      rcases one_kind hkd hr hs e with ⟨h', _⟩ | ⟨h', _⟩ | ⟨h', _⟩ <;> omega
    · intro x nd' e' hk' hne hr hs
      cases e.symm.trans e'
      cases x with
      | pnil => exact absurd hr hkids
      | pcons y r =>
        cases r with
        | pnil =>
          obtain ⟨c, lp, hl, _, h2⟩ := hr
          cases h2
          rw [hl] at hne
          exact absurd rfl hne
        | pcons z q => exact .row y z q i j t ev (ih hr hs)
        | _ => exact hs.2.elim
      | _ => exact hs.elim
  | rep k nd c i j t ev e hk hc _ ih =>
    show ∀ {kd : Kd} {x : Pat}, repK nds kd x k → shp x kd → TR s (.node x) i j _ _
    intro kd0 x0 hr0 hs0
    refine node_lift (C := fun x => TR s (.node x) i j _ _) (fun y => .lone y i j _ _) (fun y => .wone y i j _ _) ?_ (fun e' hk' _ _ _ => hno e hk e' hk' (by decide)) (fun e' hk' _ _ _ => hno e hk e' hk' (by decide)) hr0 hs0
    intro x kd hkd hr hs
    rcases one_kind hkd hr hs e with ⟨h', _⟩ | ⟨h', _⟩ | ⟨_, y, c', rfl, hc', hr', hy⟩
    · omega
    · omega
    · rw [hc] at hc'
      simp only [List.cons.injEq, and_true] at hc'
      subst hc'
      exact .rep _ _ y i j t ev (ih hr' hy)
  | kend i j =>
    intro x hr hs
    cases x with
    | pnil => exact .kend i j
    | pcons y r => obtain ⟨c, lp, hl, _⟩ := hr; cases hl
    | _ => exact hs.elim
  | kgo c l i j m t u ev fv hc _ _ ih1 ih2 =>
    intro x hr hs
    cases x with
    | pnil => cases hr
    | pcons y r =>
      obtain ⟨c', l', hl, h1, h2⟩ := hr
      simp only [List.cons.injEq] at hl
      obtain ⟨rfl, rfl⟩ := hl
      refine .kgo y r i j m t u ev fv (hc.congr fun q => ?_) (ih1 (kd := .piece) h1 hs.1) (ih2 h2 hs.2)
      rw [show Mt s y i q ↔ MN s nds (.row [c]) i q from rep_Mt hs.1 h1, MN.row_one, show Mt s r q j ↔ MN s nds (.row l) q j from rep_Mt hs.2 h2]
    | _ => exact hs.elim
  | tend c mn mx i j hn => intro x _ _; exact .tend mn mx x i j hn
  | tgo c mn mx i j m t u ev fv hg hc _ _ ih1 ih2 =>
    intro x hr hs
    have h1 : ∀ i j, Mt s x i j ↔ MN s nds (.node c) i j := fun i j => by rw [← MN.row_one]; exact rep_Mt hs hr
    refine .tgo mn mx x i j m t u ev fv hg (hc.congr fun q => ?_) (ih1 (kd := .single) hr hs) (ih2 hr hs)
    have h2 : ∀ n i j, It (fun i j => MN s nds (.node c) i j) n i j ↔ MN s nds (.it c n) i j := MN.it_iff fun _ _ => Iff.rfl
    rw [h1]
    constructor
    · rintro ⟨a, n, b, d, e⟩; exact ⟨a, n, b, d, (MN.it_iff h1 n q j).2 ((h2 n q j).1 e)⟩
    · rintro ⟨a, n, b, d, e⟩; exact ⟨a, n, b, d, (h2 n q j).2 ((MN.it_iff h1 n q j).1 e)⟩
  | hit p c l i j t ev hm _ ih =>
    intro x hr hs
    cases x with
    | wone y =>
      obtain ⟨c', lp, hl, h1, h2⟩ := hr
      simp only [List.cons.injEq] at hl
      obtain ⟨rfl, rfl⟩ := hl
      exact .last p y i j t ev (ih (kd := .way) ⟨lp, h1, h2⟩ hs)
    | wcons y r =>
      obtain ⟨c', lp, l', hl, ⟨h1, h2⟩, h3⟩ := hr
      simp only [List.cons.injEq] at hl
      obtain ⟨rfl, rfl⟩ := hl
      refine .hit p y r i j t ev ?_ (ih (kd := .way) ⟨lp, h1, h2⟩ hs.1)
      rw [show Mt s y i j ↔ MN s nds (.row lp) i j from rep_Mt hs.1 h1, h2.way_iff]
      exact hm
    | _ => exact hs.elim
  | miss p c l i j t ev hm hrest ih =>
    intro x hr hs
    cases x with
    | wone y =>
      obtain ⟨c', lp, hl, h1, h2⟩ := hr
      simp only [List.cons.injEq] at hl
      obtain ⟨rfl, rfl⟩ := hl
      cases hrest
    | wcons y r =>
      obtain ⟨c', lp, l', hl, ⟨h1, h2⟩, h3⟩ := hr
      simp only [List.cons.injEq] at hl
      obtain ⟨rfl, rfl⟩ := hl
      refine .miss p y r i j t ev ?_ (ih h3 hs.2)
      rw [show Mt s y i j ↔ MN s nds (.row lp) i j from rep_Mt hs.1 h1, h2.way_iff]
      exact hm
    | _ => exact hs.elim
end Go.Proofs.YtnfojonmohijpaaGreatDoor
namespace Go.Proofs.YtnfojonmohijpaaGreatDoor
theorem MN.le' {s : ByteArray} {nds : List Nd} {J : JN} {i j : Nat} (h : MN s nds J i j) : i ≤ j := by
  induction h with
  | byte => omega
  | grp _ _ _ _ _ _ _ _ _ ih => exact ih
  | alt _ _ _ _ _ _ _ _ _ ih => exact ih
  | way _ _ _ _ _ _ _ ih => exact ih
  | rep _ _ _ _ _ _ _ _ _ _ _ _ ih => exact ih
  | rnil => omega
  | rcons _ _ _ _ _ _ _ i1 i2 => omega
  | izero => omega
  | isucc _ _ _ _ _ _ _ i1 i2 => omega
def Pat.A : Pat → Nat
  | .set _ => 3
  | .grp _ x => x.A + 5
  | .rep mn _ x => (mn + 2) * (x.A + 1) + 3
  | .pnil => 1
  | .pcons x r => x.A + r.A + 4
  | .wone x => x.A + 6
  | .wcons x r => x.A + r.A + 6
def Job.bnd : Job → Nat → Nat
  | .node x, n => x.A * (n + 1)
  | .kids r, n => r.A * (n + 1) - 3
  | .times mn _ x, n => (x.A + 1) * (mn + 2 * n)
  | .alts _ r, n => r.A * (n + 1)
theorem decT_len (p : Nat) : (decT p).length ≤ 2 := by unfold decT digT; split <;> simp
theorem TR.len {s : ByteArray} {J : Job} {i j : Nat} {t : List UInt8} {ev : List (Nat × Nat × Nat)} (h : TR s J i j t ev) : J.ok s i j → t.length ≤ J.bnd (j - i) := by
  have hle : ∀ {x : Pat} (i j : Nat), Mt s x i j → i ≤ j := fun _ _ h => h.le
  induction h with
  | byte f i j => intro _; simp only [Job.bnd, Pat.A, hexT, List.length_append, List.length_cons, List.length_nil]; omega
  | grp k x i j t ev _ ih =>
    intro hm
    have := ih hm
    simp only [Job.bnd, Pat.A, digT, List.length_append, List.length_cons, List.length_nil, Nat.add_mul, Nat.mul_add] at this ⊢
    omega
  | nil i j => intro _; simp only [Job.bnd, Pat.A, List.length_cons, List.length_nil]; omega
  | lone x i j t ev _ ih =>
    intro hm
    obtain ⟨m, a, b⟩ := hm
    have b' : m = j := b
    subst b'
    have := ih a
    simp only [Job.bnd, Pat.A, Nat.add_mul, Nat.mul_add] at this ⊢
    omega
  | row x y r i j t ev _ ih =>
    intro hm
    have := ih hm
    simp only [Job.bnd, Pat.A, List.length_append, List.length_cons, List.length_nil, Nat.add_mul, Nat.mul_add] at this ⊢
    omega
  | kend i j => intro _; simp
  | kgo x r i j c t u ev fv hc _ _ ih1 ih2 =>
    intro hm
    obtain ⟨m, a, b⟩ := hm
    have hP := hc.hit ⟨m, a.le, b.le, a, b⟩
    have h1 := ih1 hP.1
    have h2 := ih2 hP.2
    have hic := hc.1
    have hcj := hc.2.1
    obtain ⟨p, hp⟩ : ∃ p, p = c - i := ⟨_, rfl⟩
    obtain ⟨q, hq⟩ : ∃ q, q = j - c := ⟨_, rfl⟩
    have hpq : j - i = p + q := by omega
    rw [hpq]
    simp only [Job.bnd] at h1 h2 ⊢
    rw [← hp] at h1
    rw [← hq] at h2
    simp only [Pat.A, List.length_append, List.length_cons, List.length_nil, Nat.add_mul, Nat.mul_add] at h1 h2 ⊢
    omega
  | rep mn mx x i j t ev _ ih =>
    intro hm
    have := ih hm
    simp only [Job.bnd] at this ⊢
    obtain ⟨n, hn⟩ : ∃ n, n = j - i := ⟨_, rfl⟩
    rw [← hn] at this ⊢
    have e1 : (x.A + 1) * (mn + 2 * n) ≤ (mn + 2) * (x.A + 1) * (n + 1) := by
      rw [Nat.mul_comm (mn + 2), Nat.mul_assoc]
      apply Nat.mul_le_mul_left
      have : mn * (n + 1) = mn * n + mn := by rw [Nat.mul_add]; omega
      rw [Nat.add_mul, this]
      omega
    simp only [Pat.A, List.length_append, List.length_cons, List.length_nil]
    rw [Nat.add_mul]
    omega
  | tend mn mx x i j hn => intro _; simp
  | tgo mn mx x i j c t u ev fv hg hc _ _ ih1 ih2 =>
    intro hm
    obtain ⟨hP, hdec⟩ := Tm.cut hle hm hg hc
    have h1 := ih1 hP.1
    have h2 := ih2 hP.2
    have hic := hc.1
    have hcj := hc.2.1
    obtain ⟨p, hp⟩ : ∃ p, p = c - i := ⟨_, rfl⟩
    obtain ⟨q, hq⟩ : ∃ q, q = j - c := ⟨_, rfl⟩
    have hpq : j - i = p + q := by omega
    rw [hpq] at hdec ⊢
    simp only [Job.bnd] at h1 h2 ⊢
    rw [← hp] at h1
    rw [← hq] at h2 hdec
    have key : x.A * (p + 1) + 1 + (x.A + 1) * (mn - 1 + 2 * q) ≤ (x.A + 1) * (mn + 2 * (p + q)) := by
      by_cases h0 : p = 0
      · subst h0
        obtain ⟨m', rfl⟩ : ∃ m', mn = m' + 1 := ⟨mn - 1, by omega⟩
        have : (x.A + 1) * (m' + 1 + 2 * (0 + q)) = (x.A + 1) * (m' + 2 * q) + (x.A + 1) := by
          rw [show m' + 1 + 2 * (0 + q) = (m' + 2 * q) + 1 by omega, Nat.mul_add, Nat.mul_one]
        rw [this]
        simp only [Nat.add_sub_cancel, Nat.zero_add, Nat.mul_one]
        omega
      · have e1 : (x.A + 1) * (mn - 1 + 2 * q) + (x.A + 1) * (2 * p) ≤ (x.A + 1) * (mn + 2 * (p + q)) := by
          rw [← Nat.mul_add]
          apply Nat.mul_le_mul_left
          omega
        have e2 : x.A * (p + 1) + 1 ≤ (x.A + 1) * (2 * p) := by
          have : x.A * (p + 1) ≤ x.A * (2 * p) := Nat.mul_le_mul_left _ (by omega)
          rw [Nat.add_mul]
          omega
        omega
    simp only [List.length_append, List.length_cons, List.length_nil]
    omega
  | wone x i j t ev _ ih =>
    intro hm
    have := ih hm
    simp only [Job.bnd, Pat.A, Nat.add_mul, Nat.mul_add] at this ⊢
    omega
  | wcons x r i j t ev _ ih => intro hm; exact ih hm
  | hit p x r i j t ev hm _ ih =>
    intro _
    have := ih hm
    have hd := decT_len p
    simp only [Job.bnd, Pat.A, List.length_append, List.length_cons, List.length_nil, Nat.add_mul, Nat.mul_add] at this ⊢
    omega
  | miss p x r i j t ev hn _ ih =>
    intro hm
    have := ih (hm.elim (fun h => absurd h hn) id)
    simp only [Job.bnd, Pat.A, Nat.add_mul, Nat.mul_add] at this ⊢
    omega
  | last p x i j t ev _ ih =>
    intro hm
    have := ih hm
    have hd := decT_len p
    simp only [Job.bnd, Pat.A, List.length_append, List.length_cons, List.length_nil, Nat.add_mul, Nat.mul_add] at this ⊢
    omega
def Pat.dep : Pat → Nat
  | .set _ => 0
  | .grp _ x => x.dep
  | .rep _ _ x => x.dep + 1
  | .pnil => 0
  | .pcons x r => max x.dep r.dep
  | .wone x => x.dep
  | .wcons x r => max x.dep r.dep
end Go.Proofs.YtnfojonmohijpaaGreatDoor
namespace Go.Proofs.YtnfojonmohijpaaGreatDoor
def Pat.sim : Pat → Pat → Prop
  | .set f, .set h => f = h
  | .grp _ x, .grp _ y => x.sim y
  | .rep a b x, .rep c d y => a = c ∧ b = d ∧ x.sim y
  | .pnil, .pnil => True
  | .pcons x r, .pcons y t => x.sim y ∧ r.sim t
  | .wone x, .wone y => x.sim y
  | .wcons x r, .wcons y t => x.sim y ∧ r.sim t
  | _, _ => False
theorem It.congr {R T : Nat → Nat → Prop} (h : ∀ i j, R i j ↔ T i j) : ∀ n i j, It R n i j ↔ It T n i j
  | 0, _, _ => Iff.rfl
  | n + 1, i, j => by
    constructor
    · rintro ⟨m, a, b⟩; exact ⟨m, (h i m).1 a, (It.congr h n m j).1 b⟩
    · rintro ⟨m, a, b⟩; exact ⟨m, (h i m).2 a, (It.congr h n m j).2 b⟩
theorem Tm.congr {R T : Nat → Nat → Prop} (h : ∀ i j, R i j ↔ T i j) {mn : Nat} {mx : Int} {i j : Nat} : Tm R mn mx i j ↔ Tm T mn mx i j := by
  constructor
  · rintro ⟨n, a, b, d⟩; exact ⟨n, a, b, (It.congr h n i j).1 d⟩
  · rintro ⟨n, a, b, d⟩; exact ⟨n, a, b, (It.congr h n i j).2 d⟩
def simL : List Pat → List Pat → Prop
  | [], [] => True
  | x :: l, y :: m => x.sim y ∧ simL l m
  | _, _ => False
theorem simL.pre {y z : Pat} (h0 : y.sim z) : ∀ {l m : List Pat}, simL l m → (pre l y).sim (pre m z)
  | [], [], _ => h0
  | x :: l, w :: m, h => ⟨h.1, simL.pre h0 h.2⟩
theorem simL.app : ∀ {l m l' m' : List Pat}, simL l m → simL l' m' → simL (l ++ l') (m ++ m')
  | [], [], _, _, _, h => h
  | x :: l, w :: m, _, _, h, h' => ⟨h.1, simL.app h.2 h'⟩
def sumA : List Pat → Nat
  | [] => 0
  | x :: l => x.A + 4 + sumA l
theorem pre_A (y : Pat) : ∀ l : List Pat, (pre l y).A = sumA l + y.A
  | [] => by simp [pre, sumA]
  | x :: l => by rw [pre, Pat.A, pre_A y l, sumA]; omega
theorem sumA_app : ∀ l m : List Pat, sumA (l ++ m) = sumA l + sumA m
  | [], m => by simp [sumA]
  | x :: l, m => by rw [List.cons_append, sumA, sumA, sumA_app l m]; omega
structure Md (p : List UInt8) (f : Nat → List Pat) (n a b : Nat) : Prop where
  wy : Wy p f n a
  sim : ∀ g h, simL (f g) (f h)
  bare : 40 ∉ p → ∀ g h, f g = f h
  sum : ∀ g, sumA (f g) ≤ b
  hd : p.head? ≠ some 94
theorem Md.more {p : List UInt8} {f : Nat → List Pat} {n a b b' : Nat} (h : Md p f n a b) (hb : b ≤ b') : Md p f n a b' := ⟨h.wy, h.sim, h.bare, fun g => Nat.le_trans (h.sum g) hb, h.hd⟩
theorem Md.single (k : Nat) : Md (sgT k) (fun _ => [.set (sgF k)]) 0 0 7 := by
  have hw := Wy.single (sg_all k) Rx.none
  rw [List.append_nil] at hw
  refine ⟨hw, fun _ _ => ⟨rfl, trivial⟩, fun _ _ _ => rfl, fun _ => by simp [sumA, Pat.A], ?_⟩
  match k with
  | 0 => decide
  | 1 => decide
  | 2 => decide
  | 3 => decide
  | 4 => decide
  | 5 => decide
  | 6 => decide
  | 7 => decide
  | _ + 8 => exact (by decide : ([92, 46] : List UInt8).head? ≠ some 94)
theorem Md.join {p q : List UInt8} {f f' : Nat → List Pat} {n n' a a' b b' : Nat} (h : Md p f n a b) (k : Md q f' n' a' b') : Md (p ++ q) (fun g => f g ++ f' (g + n)) (n + n') (max a a') (b + b') := by
  refine ⟨h.wy.app k.wy, fun g g' => simL.app (h.sim g g') (k.sim _ _), fun hb g g' => ?_, fun g => by rw [sumA_app]; exact Nat.add_le_add (h.sum g) (k.sum _), ?_⟩
  · simp only [List.mem_append, not_or] at hb
    show f g ++ f' (g + n) = f g' ++ f' (g' + n)
    rw [h.bare hb.1 g g', k.bare hb.2 (g + n) (g' + n)]
  · obtain ⟨c, r, e, _⟩ := h.wy.hd
    have := h.hd
    rw [e] at this ⊢
    exact this
structure Mw (p : List UInt8) (x : Nat → Pat) (n a b : Nat) : Prop where
  ws : Ws p x n a
  sim : ∀ g h, (x g).sim (x h)
  len : ∀ g, (x g).A ≤ b
theorem Md.one {p : List UInt8} {f : Nat → List Pat} {n a b : Nat} (h : Md p f n a b) : Mw p (fun g => .wone (pre (f g) .pnil)) n a (b + 7) :=
  ⟨Ws.one h.wy, fun g g' => simL.pre (y := .pnil) (z := .pnil) trivial (h.sim g g'), fun g => by have := h.sum g; simp only [Pat.A, pre_A]; omega⟩
theorem Md.alt {p q : List UInt8} {f : Nat → List Pat} {y : Nat → Pat} {n n' a a' b b' : Nat} (h : Md p f n a b) (k : Mw q y n' a' b') : Mw (p ++ [124] ++ q) (fun g => .wcons (pre (f g) .pnil) (y (g + n))) (n + n') (max a a') (b + b' + 7) :=
  ⟨Ws.cons h.wy k.ws, fun g g' => ⟨simL.pre (y := .pnil) (z := .pnil) trivial (h.sim g g'), k.sim _ _⟩, fun g => by have := h.sum g; have := k.len (g + n); simp only [Pat.A, pre_A]; omega⟩
theorem Mw.nil : Mw [] (fun _ => .wone .pnil) 0 0 7 := ⟨Ws.nil, fun _ _ => trivial, fun _ => by simp [Pat.A]⟩
theorem Mw.grp {p r : List UInt8} {x : Nat → Pat} {n a b m : Nat} {o : Option (Nat × Int)} (h : Mw p x n a b) (hr : Rx r o) (ho : ∀ mm, o = some mm → mm.1 ≤ m) : Md ([40] ++ p ++ [41] ++ r) (fun g => [withRep (.grp (g + 1) (x (g + 1))) o]) (n + 1) (a + 1) ((m + 2) * (b + 6) + 7) := by
  refine ⟨Wy.grp h.ws hr, fun g g' => ⟨?_, trivial⟩, fun hb => absurd (by simp) hb, fun g => ?_, by simp⟩
  · cases o with
    | none => exact h.sim _ _
    | some mm => exact ⟨rfl, rfl, h.sim _ _⟩
  · have hl := h.len (g + 1)
    cases o with
    | none =>
      simp only [withRep, sumA, Pat.A]
      have : 1 * (b + 6) ≤ (m + 2) * (b + 6) := Nat.mul_le_mul_right _ (by omega)
      omega
    | some mm =>
      have h1 := ho mm rfl
      obtain ⟨mn, mx⟩ := mm
      simp only [withRep, sumA, Pat.A]
      have h2 : (mn + 2) * ((x (g + 1)).A + 5 + 1) ≤ (m + 2) * (b + 6) := Nat.mul_le_mul (by simp only at h1; omega) (by omega)
      omega
theorem Mw.grp0 {p : List UInt8} {x : Nat → Pat} {n a b : Nat} (h : Mw p x n a b) : Md ([40] ++ p ++ [41]) (fun g => [.grp (g + 1) (x (g + 1))]) (n + 1) (a + 1) (b + 9) := by
  have hw := Wy.grp h.ws Rx.none
  rw [List.append_nil] at hw
  refine ⟨hw, fun g g' => ⟨h.sim _ _, trivial⟩, fun hb => absurd (by simp) hb, fun g => ?_, by simp⟩
  have hl := h.len (g + 1)
  simp only [sumA, Pat.A]
  omega
def rpT : Nat → List UInt8
  | 0 => []
  | 1 => [63]
  | _ => [43]
def rpO : Nat → Option (Nat × Int)
  | 0 => none
  | 1 => some (0, 1)
  | _ => some (1, -1)
theorem rp_all : ∀ k, Rx (rpT k) (rpO k)
  | 0 => Rx.none
  | 1 => Rx.opt
  | _ + 2 => Rx.plus
def lwT : Nat → List UInt8
  | 0 => [48]
  | 1 => [49]
  | _ => [50]
def hiT : Nat → List UInt8
  | 0 => [50]
  | 1 => [51]
  | _ => []
def bdT (k l : Nat) : List UInt8 := [123] ++ lwT k ++ [44] ++ hiT l ++ [125]
theorem bd_all (k l : Nat) : ∃ o, Rx (bdT k l) (some o) ∧ o.1 ≤ 2 := by
  match k, l with
  | 0, 0 => exact ⟨(0, 2), Rx.upto (m := 0) (n := 2) (by decide) (by decide), by decide⟩
  | 0, 1 => exact ⟨(0, 3), Rx.upto (m := 0) (n := 3) (by decide) (by decide), by decide⟩
  | 0, _ + 2 => exact ⟨(0, -1), Rx.from (m := 0) (by decide), by decide⟩
  | 1, 0 => exact ⟨(1, 2), Rx.upto (m := 1) (n := 2) (by decide) (by decide), by decide⟩
  | 1, 1 => exact ⟨(1, 3), Rx.upto (m := 1) (n := 3) (by decide) (by decide), by decide⟩
  | 1, _ + 2 => exact ⟨(1, -1), Rx.from (m := 1) (by decide), by decide⟩
  | _ + 2, 0 => exact ⟨(2, 2), Rx.upto (m := 2) (n := 2) (by decide) (by decide), by decide⟩
  | _ + 2, 1 => exact ⟨(2, 3), Rx.upto (m := 2) (n := 3) (by decide) (by decide), by decide⟩
  | _ + 2, _ + 2 => exact ⟨(2, -1), Rx.from (m := 2) (by decide), by decide⟩
def mdT (c : Nat → Nat) : Nat → Nat → List UInt8
  | 0, i => sgT (c i / 7 % 9)
  | deep + 1, i =>
    match c i % 7 with
    | 0 => sgT (c i / 7 % 9)
    | 1 => [40] ++ mdT c deep (i + 1) ++ [41]
    | 2 => mdT c deep (i + 1) ++ mdT c deep (i + 2)
    | 3 => [40] ++ mdT c deep (i + 1) ++ [124] ++ mdT c deep (i + 2) ++ [41]
    | 4 => [40] ++ mdT c deep (i + 1) ++ [41, 42]
    | 5 => [40] ++ mdT c deep (i + 1) ++ [124, 41] ++ rpT (c i / 7 % 3)
    | _ => [40] ++ mdT c deep (i + 1) ++ [41, 123] ++ lwT (c i / 7 % 3) ++ [44] ++ hiT (c i / 21 % 3) ++ [125]
def bA : Nat → Nat
  | 0 => 7
  | d + 1 => 4 * bA d + 67
theorem md_all (c : Nat → Nat) : ∀ deep i, ∃ f n a, Md (mdT c deep i) f n a (bA deep) ∧ n + 1 ≤ 2 ^ deep ∧ a ≤ deep
  | 0, i => ⟨_, 0, 0, Md.single _, by decide, by decide⟩
  | deep + 1, i => by
    obtain ⟨f, n, a, h, hn, ha⟩ := md_all c deep (i + 1)
    obtain ⟨f', n', a', h', hn', ha'⟩ := md_all c deep (i + 2)
    have hp : 2 ^ (deep + 1) = 2 * 2 ^ deep := by rw [Nat.pow_succ]; omega
    have hp1 : 1 ≤ 2 ^ deep := Nat.one_le_pow _ _ (by omega)
    have hbA : bA (deep + 1) = 4 * bA deep + 67 := rfl
    rw [hbA]
    unfold mdT
    split
    · exact ⟨_, 0, 0, (Md.single _).more (by omega), by omega, by omega⟩
    · have := h.one.grp0
      exact ⟨_, n + 1, a + 1, this.more (by omega), by omega, by omega⟩
    · exact ⟨_, n + n', max a a', (h.join h').more (by omega), by omega, by omega⟩
    · have := (h.alt h'.one).grp0
      have e : [40] ++ (mdT c deep (i + 1) ++ [124] ++ mdT c deep (i + 2)) ++ [41] = [40] ++ mdT c deep (i + 1) ++ [124] ++ mdT c deep (i + 2) ++ [41] := by simp
      rw [e] at this
      exact ⟨_, n + n' + 1, max a a' + 1, this.more (by omega), by omega, by omega⟩
    · have := Mw.grp (m := 0) h.one Rx.star (fun mm e => by cases e; exact Nat.le_refl 0)
      have e : [40] ++ mdT c deep (i + 1) ++ [41] ++ [42] = [40] ++ mdT c deep (i + 1) ++ [41, 42] := by simp
      rw [e] at this
      exact ⟨_, n + 1, a + 1, this.more (by omega), by omega, by omega⟩
    · have := Mw.grp (m := 1) (h.alt Mw.nil) (rp_all (c i / 7 % 3)) (fun mm e => by
        have hk : ∀ k mm, rpO k = some mm → mm.1 ≤ 1 := fun k mm e => by
          match k, e with
          | 1, e => cases e; decide
          | _ + 2, e => cases e; decide
        exact hk _ mm e)
      have e : [40] ++ (mdT c deep (i + 1) ++ [124] ++ []) ++ [41] ++ rpT (c i / 7 % 3) = [40] ++ mdT c deep (i + 1) ++ [124, 41] ++ rpT (c i / 7 % 3) := by simp
      rw [e] at this
      exact ⟨_, n + 0 + 1, max a 0 + 1, this.more (by omega), by omega, by omega⟩
    · obtain ⟨o, ho, ho2⟩ := bd_all (c i / 7 % 3) (c i / 21 % 3)
      have := Mw.grp (m := 2) h.one ho (fun mm e => by cases e; exact ho2)
      have e : [40] ++ mdT c deep (i + 1) ++ [41] ++ bdT (c i / 7 % 3) (c i / 21 % 3) = [40] ++ mdT c deep (i + 1) ++ [41, 123] ++ lwT (c i / 7 % 3) ++ [44] ++ hiT (c i / 21 % 3) ++ [125] := by simp [bdT]
      rw [e] at this
      exact ⟨_, n + 1, a + 1, this.more (by omega), by omega, by omega⟩
end Go.Proofs.YtnfojonmohijpaaGreatDoor
namespace Go.Proofs.YtnfojonmohijpaaGreatDoor
open Go.RowKit
def pk (c : Int) (n : Nat) : Nat := (if c < 0 then (-(c + 1)).toNat else c.toNat) % n
def inI (c : Int) : Prop := -9223372036854775808 ≤ c ∧ c ≤ 9223372036854775807
set_option maxRecDepth 100000 in
set_option maxHeartbeats 1000000 in
theorem kpick_any (c : Int) (n : Nat) (hc : inI c) (hn : 0 < n) (hn2 : n ≤ 1099511627776) (w : World) : Calls Tryz.prog 34 #[.int .i64 c, .int .i64 n] w fun e w' => e = .returned (.int .i64 (pk c n)) ∧ w' = w := by
  obtain ⟨h1, h2⟩ := hc
  have hn' : (0 : Int) < (n : Int) := by omega
  have hnz : ¬ (n : Int) = 0 := by omega
  by_cases hneg : c < 0
  · obtain ⟨m, hm⟩ : ∃ m : Nat, -(c + 1) = (m : Int) := ⟨(-(c + 1)).toNat, by omega⟩
    have hw1 : IntKind.i64.wrap (c + 1) = c + 1 := by rw [IntKind.wrap_i64]; omega
    have hw2 : IntKind.i64.wrap (-(c + 1)) = (m : Int) := by rw [IntKind.wrap_i64, hm]; omega
    have HP : Hid (((m : Int) % (n : Int)) = (pk c n : Int)) := by
      show (m : Int) % (n : Int) = (pk c n : Int)
      unfold pk
      rw [if_pos hneg, hm, Int.toNat_natCast]
      exact (Int.natCast_emod m n).symm
    have hm0 : (0 : Int) ≤ (m : Int) := by omega
    have hmm : (m : Int) ≤ 9223372036854775807 := by omega
    have hr0 : (0 : Int) ≤ (m : Int) % (n : Int) := Int.emod_nonneg _ hnz
    have hr1 : (m : Int) % (n : Int) < (n : Int) := Int.emod_lt_of_pos _ hn'
    go_enter Tryz.func34, Tryz.ntmps34
    go_wp2_with fail
    go_ret
    exact ⟨ret_int HP, rfl⟩
  · obtain ⟨m, rfl⟩ : ∃ m : Nat, c = (m : Int) := ⟨c.toNat, by omega⟩
    have HP : Hid (((m : Int) % (n : Int)) = (pk (m : Int) n : Int)) := by
      show (m : Int) % (n : Int) = (pk (m : Int) n : Int)
      unfold pk
      rw [if_neg hneg, Int.toNat_natCast]
      exact (Int.natCast_emod m n).symm
    have hr0 : (0 : Int) ≤ (m : Int) % (n : Int) := Int.emod_nonneg _ hnz
    have hr1 : (m : Int) % (n : Int) < (n : Int) := Int.emod_lt_of_pos _ hn'
    have hm0 : (0 : Int) ≤ (m : Int) := by omega
    go_enter Tryz.func34, Tryz.ntmps34
    go_wp2_with fail
    go_ret
    exact ⟨ret_int HP, rfl⟩
structure RawIs (w : World) (v : Value) (zs : List Int) : Prop where
  rd : ∃ a cap, v = .slice a zs.length cap ∧ ∀ (i : Nat) z, zs[i]? = some z → ∃ x : Addr, a = some x ∧ x.block < w.heap.size ∧ w.cell? (x.add i) = some (.int .i64 z)
  len : zs.length ≤ 9223372036854775807
  wf : ∀ (i : Nat) z, zs[i]? = some z → inI z
def cv (zs : List Int) (i : Nat) : Nat := (zs[i]?.map fun z => pk z 1099511627776).getD 0
set_option maxRecDepth 100000 in
set_option maxHeartbeats 1000000 in
theorem kat_any (v : Value) (zs : List Int) (i : Nat) (hi : i ≤ 1000) (w : World) (hr : RawIs w v zs) : Calls Tryz.prog 64 #[v, .int .i64 i] w fun e w' => e = .returned (.int .i64 (cv zs i)) ∧ w' = w := by
  obtain ⟨a, cap, rfl, hc⟩ := hr.rd
  have hl := hr.len
  have hl' : (zs.length : Int) ≤ 9223372036854775807 := by omega
  have hi0 : (0 : Int) ≤ (i : Int) := by omega
  have hi1 : (i : Int) ≤ 1000 := by omega
  by_cases hlt : i < zs.length
  · obtain ⟨z, hz⟩ : ∃ z, zs[i]? = some z := ⟨_, List.getElem?_eq_getElem hlt⟩
    obtain ⟨x, rfl, hx, hcell⟩ := hc i z hz
    have hp := kpick_any z 1099511627776 (hr.wf i z hz) (by decide) (by decide) w
    have HC : Hid (pk z 1099511627776 = cv zs i) := by
      show pk z 1099511627776 = cv zs i
      unfold cv; rw [hz]; rfl
    have hlt' : (i : Int) < (zs.length : Int) := by omega
    clear hc hz hlt
    go_enter Tryz.func64, Tryz.ntmps64
    go_wp2_with fail
    refine hp.mono ?_
    rintro e w1 ⟨rfl, rfl⟩
    rw [HC.out]
    go_wp2_with fail
    go_ret
    exact ⟨rfl, rfl⟩
  · have hge : (zs.length : Int) ≤ (i : Int) := by omega
    have HC : Hid (0 = cv zs i) := by
      show 0 = cv zs i
      unfold cv; rw [List.getElem?_eq_none (by omega)]; rfl
    clear hc hlt
    go_enter Tryz.func64, Tryz.ntmps64
    go_wp2_with fail
    go_ret
    exact ⟨ret_int (congrArg Int.ofNat HC.out), rfl⟩
theorem RawIs.keep {w w' : World} {v : Value} {zs : List Int} (h : RawIs w v zs) (hk : Keeps [] w w') : RawIs w' v zs := by
  obtain ⟨a, cap, rfl, hc⟩ := h.rd
  refine ⟨⟨a, cap, rfl, fun i z hz => ?_⟩, h.len, h.wf⟩
  obtain ⟨x, rfl, hx, hcell⟩ := hc i z hz
  exact ⟨x, rfl, Nat.lt_of_lt_of_le hx hk.size, (World.cell?_of_block (hk.block (x.add i).block (World.block_lt_of_cell? _ _ hcell) (by simp))).trans hcell⟩
def bOf (l : List UInt8) : ByteArray := ⟨l.toArray⟩
set_option maxRecDepth 100000 in
set_option maxHeartbeats 4000000 in
theorem ksingle_any (c : Nat) (hc : c ≤ 1099511627776) (w : World) : Calls Tryz.prog 33 #[.int .i64 c] w fun e w' => e = .returned (.string (bOf (sgT (c % 9)))) ∧ Keeps [] w w' := by
  have hcc : (c : Int) ≤ 1099511627776 := by omega
  have hc0 : (0 : Int) ≤ (c : Int) := by omega
  obtain ⟨k, hk⟩ : ∃ k, c % 9 = k := ⟨_, rfl⟩
  have hm : (c : Int) % 9 = (k : Int) := by omega
  rw [hk]
  have hk9 : k < 9 := by omega
  rcases (by omega : k = 0 ∨ k = 1 ∨ k = 2 ∨ k = 3 ∨ k = 4 ∨ k = 5 ∨ k = 6 ∨ k = 7 ∨ k = 8) with rfl | rfl | rfl | rfl | rfl | rfl | rfl | rfl | rfl
  all_goals
    clear hk hk9
    go_enter Tryz.func33, Tryz.ntmps33
    go_wp2_with fail
    go_ret
    exact ⟨rfl, (Keeps.refl [] w).alloc _⟩
end Go.Proofs.YtnfojonmohijpaaGreatDoor
