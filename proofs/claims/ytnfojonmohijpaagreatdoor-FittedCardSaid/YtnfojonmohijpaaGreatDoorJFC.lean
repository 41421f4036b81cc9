/-
  DERIVED. Plain mathematics: patterns that are alike match alike, with the same trees; the nine singles of yarrowkeep as they are written in one way, and how that is read. Nothing of the program stands here.
-/
import Derived.Test.YtnfojonmohijpaaGreatDoorJOM
import Derived.Test.YtnfojonmohijpaaGreatDoorJUN
import Derived.Test.YtnfojonmohijpaaGreatDoorJTF0
set_option linter.unusedSimpArgs false
set_option linter.unusedVariables false
namespace Go.Proofs.YtnfojonmohijpaaGreatDoor
def Pat.eqv : Pat → Pat → Prop
 | .set f, .set h => ∀ b, b < 256 → f b = h b
 | .grp k x, .grp l y => k = l ∧ x.eqv y
 | .rep a b x, .rep c d y => a = c ∧ b = d ∧ x.eqv y
 | .pnil, .pnil => True
 | .pcons x r, .pcons y t => x.eqv y ∧ r.eqv t
 | .wone x, .wone y => x.eqv y
 | .wcons x r, .wcons y t => x.eqv y ∧ r.eqv t
 | _, _ => False
theorem Pat.eqv.mt {s : ByteArray} : ∀ {x y : Pat}, x.eqv y → ∀ i j, Mt s x i j ↔ Mt s y i j
 | .set f, .set h, e, i, j => by
  have hb : (at' s i).toNat < 256 := by have := (at'_bd s i).2; omega
  constructor
  ·rintro ⟨a, b, c⟩; exact ⟨a, by rw [← e _ hb]; exact b, c⟩
  ·rintro ⟨a, b, c⟩; exact ⟨a, by rw [e _ hb]; exact b, c⟩
 | .grp _ x, .grp _ y, e, i, j => Pat.eqv.mt (x := x) (y := y) e.2 i j
 | .rep a b x, .rep c d y, e, i, j => by
  obtain ⟨rfl, rfl, h⟩ := e
  exact Tm.congr (Pat.eqv.mt (x := x) (y := y) h)
 | .pnil, .pnil, _, i, j => Iff.rfl
 | .pcons x r, .pcons y t, e, i, j => by
  constructor
  ·rintro ⟨m, a, b⟩; exact ⟨m, (Pat.eqv.mt e.1 i m).1 a, (Pat.eqv.mt e.2 m j).1 b⟩
  ·rintro ⟨m, a, b⟩; exact ⟨m, (Pat.eqv.mt e.1 i m).2 a, (Pat.eqv.mt e.2 m j).2 b⟩
 | .wone x, .wone y, e, i, j => Pat.eqv.mt (x := x) (y := y) e i j
 | .wcons x r, .wcons y t, e, i, j => or_congr (Pat.eqv.mt e.1 i j) (Pat.eqv.mt e.2 i j)
def Job.eqv : Job → Job → Prop
 | .node x, .node y => x.eqv y
 | .kids x, .kids y => x.eqv y
 | .times a b x, .times c d y => a = c ∧ b = d ∧ x.eqv y
 | .alts p x, .alts q y => p = q ∧ x.eqv y
 | _, _ => False
theorem eqv_set {f : Nat → Bool} {z : Pat} (h : (Pat.set f).eqv z) : ∃ h', z = .set h' := by cases z <;> first | exact ⟨_, rfl⟩ | exact h.elim
theorem eqv_grp {k : Nat} {x z : Pat} (h : (Pat.grp k x).eqv z) : ∃ y, z = .grp k y ∧ x.eqv y := by cases z <;> first | exact ⟨_, by rw [h.1], h.2⟩ | exact h.elim
theorem eqv_rep {a : Nat} {b : Int} {x z : Pat} (h : (Pat.rep a b x).eqv z) : ∃ y, z = .rep a b y ∧ x.eqv y := by cases z <;> first | exact ⟨_, by rw [h.1, h.2.1], h.2.2⟩ | exact h.elim
theorem eqv_nil {z : Pat} (h : Pat.pnil.eqv z) : z = .pnil := by cases z <;> first | rfl | exact h.elim
theorem eqv_cons {x r z : Pat} (h : (Pat.pcons x r).eqv z) : ∃ y t, z = .pcons y t ∧ x.eqv y ∧ r.eqv t := by cases z <;> first | exact ⟨_, _, rfl, h.1, h.2⟩ | exact h.elim
theorem eqv_wone {x z : Pat} (h : (Pat.wone x).eqv z) : ∃ y, z = .wone y ∧ x.eqv y := by cases z <;> first | exact ⟨_, rfl, h⟩ | exact h.elim
theorem eqv_wcons {x r z : Pat} (h : (Pat.wcons x r).eqv z) : ∃ y t, z = .wcons y t ∧ x.eqv y ∧ r.eqv t := by cases z <;> first | exact ⟨_, _, rfl, h.1, h.2⟩ | exact h.elim
theorem eqv_node {x : Pat} {J : Job} (h : (Job.node x).eqv J) : ∃ y, J = .node y ∧ x.eqv y := by cases J <;> first | exact ⟨_, rfl, h⟩ | exact h.elim
theorem eqv_kids {x : Pat} {J : Job} (h : (Job.kids x).eqv J) : ∃ y, J = .kids y ∧ x.eqv y := by cases J <;> first | exact ⟨_, rfl, h⟩ | exact h.elim
theorem eqv_times {a : Nat} {b : Int} {x : Pat} {J : Job} (h : (Job.times a b x).eqv J) : ∃ y, J = .times a b y ∧ x.eqv y := by cases J <;> first | exact ⟨_, by rw [h.1, h.2.1], h.2.2⟩ | exact h.elim
theorem eqv_alts {p : Nat} {x : Pat} {J : Job} (h : (Job.alts p x).eqv J) : ∃ y, J = .alts p y ∧ x.eqv y := by cases J <;> first | exact ⟨_, by rw [h.1], h.2⟩ | exact h.elim
theorem Cut.same {P Q : Nat → Prop} {i j c : Nat} (h : ∀ m, P m ↔ Q m) (k : Cut P i j c) : Cut Q i j c := ⟨k.1, k.2.1, fun e => (h c).1 (k.2.2.1 e), fun m a b e => k.2.2.2 m a b ((h m).2 e)⟩
theorem TR.eqv {s : ByteArray} {J : Job} {i j : Nat} {u : List UInt8} {ev : List (Nat × Nat × Nat)} (h : TR s J i j u ev) : ∀ J', J.eqv J' → TR s J' i j u ev := by
 induction h with
 | byte f i j => intro J' e; obtain ⟨y, rfl, e0⟩ := eqv_node e; obtain ⟨f', rfl⟩ := eqv_set e0; exact .byte f' i j
 | grp k x i j t ev _ ih => intro J' e; obtain ⟨y, rfl, e0⟩ := eqv_node e; obtain ⟨y, rfl, e1⟩ := eqv_grp e0; exact .grp k y i j t ev (ih (.node y) e1)
 | nil i j => intro J' e; obtain ⟨y, rfl, e0⟩ := eqv_node e; obtain rfl := eqv_nil e0; exact .nil i j
 | lone x i j t ev _ ih => intro J' e; obtain ⟨y, rfl, e0⟩ := eqv_node e; obtain ⟨y, r, rfl, e1, e2⟩ := eqv_cons e0; obtain rfl := eqv_nil e2; exact .lone y i j t ev (ih (.node y) e1)
 | row x y r i j t ev _ ih => intro J' e; obtain ⟨z, rfl, e0⟩ := eqv_node e; have h := ih (.kids z) e0; obtain ⟨x', r', rfl, _, e1⟩ := eqv_cons e0; obtain ⟨y', r'', rfl, _, _⟩ := eqv_cons e1; exact .row x' y' r'' i j t ev h
 | kend i j => intro J' e; obtain ⟨y, rfl, e0⟩ := eqv_kids e; obtain rfl := eqv_nil e0; exact .kend i j
 | kgo x r i j c t u ev fv hc _ _ ih1 ih2 =>
  intro J' e
  obtain ⟨y, rfl, e0⟩ := eqv_kids e
  obtain ⟨x', r', rfl, e1, e2⟩ := eqv_cons e0
  exact .kgo x' r' i j c t u ev fv (hc.same fun m => and_congr (e1.mt i m) (e2.mt m j)) (ih1 (.node x') e1) (ih2 (.kids r') e2)
 | rep mn mx x i j t ev _ ih => intro J' e; obtain ⟨y, rfl, e0⟩ := eqv_node e; obtain ⟨y, rfl, e1⟩ := eqv_rep e0; exact .rep mn mx y i j t ev (ih (.times mn mx y) ⟨rfl, rfl, e1⟩)
 | tend mn mx x i j hn => intro J' e; obtain ⟨y, rfl, e0⟩ := eqv_times e; exact .tend mn mx y i j hn
 | tgo mn mx x i j c t u ev fv hg hc _ _ ih1 ih2 =>
  intro J' e
  obtain ⟨y, rfl, e0⟩ := eqv_times e
  exact .tgo mn mx y i j c t u ev fv hg (hc.same fun m => and_congr (e0.mt i m) (Tm.congr e0.mt)) (ih1 (.node y) e0) (ih2 (.times _ _ y) ⟨rfl, rfl, e0⟩)
 | wone x i j t ev _ ih => intro J' e; obtain ⟨y, rfl, e0⟩ := eqv_node e; obtain ⟨y, rfl, e1⟩ := eqv_wone e0; exact .wone y i j t ev (ih (.node y) e1)
 | wcons x r i j t ev _ ih => intro J' e; obtain ⟨y, rfl, e0⟩ := eqv_node e; have h := ih (.alts 0 y) ⟨rfl, e0⟩; obtain ⟨x', r', rfl, _, _⟩ := eqv_wcons e0; exact .wcons x' r' i j t ev h
 | hit p x r i j t ev hm _ ih => intro J' e; obtain ⟨y, rfl, e0⟩ := eqv_alts e; obtain ⟨x', r', rfl, e1, _⟩ := eqv_wcons e0; exact .hit p x' r' i j t ev ((e1.mt i j).1 hm) (ih (.node x') e1)
 | miss p x r i j t ev hn _ ih => intro J' e; obtain ⟨y, rfl, e0⟩ := eqv_alts e; obtain ⟨x', r', rfl, e1, e2⟩ := eqv_wcons e0; exact .miss p x' r' i j t ev (fun h => hn ((e1.mt i j).2 h)) (ih (.alts (p + 1) r') ⟨rfl, e2⟩)
 | last p x i j t ev _ ih => intro J' e; obtain ⟨y, rfl, e0⟩ := eqv_alts e; obtain ⟨y, rfl, e1⟩ := eqv_wone e0; exact .last p y i j t ev (ih (.node y) e1)
theorem inn1 {s : ByteArray} {i : Nat} {c least : Int} (h : at' s i = c) (hc : 0 ≤ c ∧ c ≠ 91 ∧ c ≠ 92 ∧ c ≠ 93 ∧ c ≠ 45 ∧ c ≠ 94) (hl : least ≤ c) : innS s least i = .ok c (i + 1) := by
 unfold innS
 rw [h, if_neg hc.2.2.1, if_neg (by omega)]
theorem esc2 {s : ByteArray} {i : Nat} {a b c d least : Int} (h0 : at' s i = 120) (h1 : at' s (i + 1) = a) (h2 : at' s (i + 1 + 1) = b) (ha : hexd a = c) (hb : hexd b = d) (hc : 0 ≤ c) (hd : 0 ≤ d ∧ d ≤ 15) (hl : least ≤ 16 * c + d) : escS s least i = .ok (16 * c + d) (i + 3) := by
 rw [escS_x h0]
 unfold hexPS
 have e1 : hexS s 0 false least (i + 1) = .ok c (i + 1 + 1) := by
  unfold hexS
  rw [h1, ha, if_neg (by simp only [Bool.false_eq_true, if_false]; omega)]
 rw [e1]
 simp only [R.bind]
 have e2 : hexS s (16 * c) true least (i + 1 + 1) = .ok d (i + 1 + 1 + 1) := by
  unfold hexS
  rw [h2, hb, if_neg (by simp only [if_true]; omega)]
 rw [e2]
theorem innX {s : ByteArray} {i : Nat} {least : Int} (h : at' s i = 92) : innS s least i = escS s least (i + 1) := by unfold innS; rw [if_pos h]
theorem rng2 {s : ByteArray} {i j k : Nat} {a c : Int} (h : at' s i ≠ 91) (e1 : innS s 0 i = .ok a j) (h45 : at' s j = 45) (e2 : innS s a (j + 1) = .ok c k) : rangeS s i = .ok (stretch a c) k := by
 unfold rangeS
 rw [if_neg h, e1]
 simp only [R.bind]
 rw [if_pos h45, e2]
theorem sgRng {a c : UInt8} (ha : 0 ≤ (a.toNat : Int) ∧ (a.toNat : Int) ≠ 91 ∧ (a.toNat : Int) ≠ 92 ∧ (a.toNat : Int) ≠ 93 ∧ (a.toNat : Int) ≠ 45 ∧ (a.toNat : Int) ≠ 94) (hc : 0 ≤ (c.toNat : Int) ∧ (c.toNat : Int) ≠ 91 ∧ (c.toNat : Int) ≠ 92 ∧ (c.toNat : Int) ≠ 93 ∧ (c.toNat : Int) ≠ 45 ∧ (c.toNat : Int) ≠ 94) (hl : (a.toNat : Int) ≤ (c.toNat : Int)) : Sg [91, a, 45, c, 93] (.set (stretch (a.toNat : Int) (c.toNat : Int))) := by
 refine ⟨⟨91, [a, 45, c, 93], rfl, by unfold noRep; decide, by unfold stopC; decide⟩, fun s i d g hl0 => ?_⟩
 obtain ⟨h0, hl1⟩ := Lies.cons.1 hl0
 obtain ⟨h1, hl2⟩ := Lies.cons.1 hl1
 obtain ⟨h2, hl3⟩ := Lies.cons.1 hl2
 obtain ⟨h3, hl4⟩ := Lies.cons.1 hl3
 obtain ⟨h4, _⟩ := Lies.cons.1 hl4
 have r := rng2 (by rw [h1]; exact ha.2.1) (inn1 h1 ha ha.1) h2 (inn1 h3 hc hl)
 exact G.set d g i (.ok _ (i + 5)) h0 (Or.inr ⟨by rw [h1]; exact ha.2.2.2.2.2, SetU.go _ (i + 1) _ _ r (SetL.done _ _ h4)⟩)
theorem sgDotX : Sg [92, 120, 50, 101] (.set (stretch 46 46)) := by
 refine ⟨⟨92, [120, 50, 101], rfl, by unfold noRep; decide, by unfold stopC; decide⟩, fun s i d g hl => ?_⟩
 obtain ⟨h0, h1, h2, h3⟩ := bytes4 hl
 have e : escS s 0 (i + 1) = .ok 46 (i + 4) := esc2 (c := 2) (d := 14) h1 h2 h3 (by decide) (by decide) (by decide) (by decide) (by decide)
 have := G.esc (s := s) d g i h0
 rw [e] at this
 exact this
theorem sgNotX : Sg [91, 92, 120, 48, 48, 45, 92, 120, 54, 48, 98, 45, 92, 120, 102, 102, 93] (.set fun n => stretch 0 96 n || stretch 98 255 n) := by
 refine ⟨⟨91, [92, 120, 48, 48, 45, 92, 120, 54, 48, 98, 45, 92, 120, 102, 102, 93], rfl, by unfold noRep; decide, by unfold stopC; decide⟩, fun s i d g hl => ?_⟩
 obtain ⟨h0, hl⟩ := Lies.cons.1 hl
 obtain ⟨h1, hl⟩ := Lies.cons.1 hl
 obtain ⟨h2, hl⟩ := Lies.cons.1 hl
 obtain ⟨h3, hl⟩ := Lies.cons.1 hl
 obtain ⟨h4, hl⟩ := Lies.cons.1 hl
 obtain ⟨h5, hl⟩ := Lies.cons.1 hl
 obtain ⟨h6, hl⟩ := Lies.cons.1 hl
 obtain ⟨h7, hl⟩ := Lies.cons.1 hl
 obtain ⟨h8, hl⟩ := Lies.cons.1 hl
 obtain ⟨h9, hl⟩ := Lies.cons.1 hl
 obtain ⟨h10, hl⟩ := Lies.cons.1 hl
 obtain ⟨h11, hl⟩ := Lies.cons.1 hl
 obtain ⟨h12, hl⟩ := Lies.cons.1 hl
 obtain ⟨h13, hl⟩ := Lies.cons.1 hl
 obtain ⟨h14, hl⟩ := Lies.cons.1 hl
 obtain ⟨h15, hl⟩ := Lies.cons.1 hl
 obtain ⟨h16, _⟩ := Lies.cons.1 hl
 have e1 : innS s 0 (i + 1) = .ok 0 (i + 1 + 1 + 1 + 1 + 1) := by
  rw [innX h1]
  exact esc2 (c := 0) (d := 0) h2 h3 h4 (by decide) (by decide) (by decide) (by decide) (by decide)
 have e2 : innS s 0 (i + 1 + 1 + 1 + 1 + 1 + 1) = .ok 96 (i + 1 + 1 + 1 + 1 + 1 + 1 + 1 + 1 + 1 + 1) := by
  rw [innX h6]
  exact esc2 (c := 6) (d := 0) h7 h8 h9 (by decide) (by decide) (by decide) (by decide) (by decide)
 have r1 := rng2 (by rw [h1]; decide) e1 h5 e2
 have e3 := inn1 (least := 0) h10 (by decide) (by decide)
 have e4 : innS s 98 (i + 1 + 1 + 1 + 1 + 1 + 1 + 1 + 1 + 1 + 1 + 1 + 1) = .ok 255 (i + 1 + 1 + 1 + 1 + 1 + 1 + 1 + 1 + 1 + 1 + 1 + 1 + 1 + 1 + 1 + 1) := by
  rw [innX h12]
  exact esc2 (c := 15) (d := 15) h13 h14 h15 (by decide) (by decide) (by decide) (by decide) (by decide)
 have r2 := rng2 (by rw [h10]; decide) e3 h11 e4
 exact G.set d g i (.ok _ (i + 17)) h0 (Or.inr ⟨by rw [h1]; decide, SetU.go _ (i + 1) _ _ r1 (SetL.more _ _ _ _ _ (by rw [h10]; decide) r2 (SetL.done _ _ h16))⟩)
def sgP : Nat → List UInt8
 | 0 => [97]
 | 1 => [98]
 | 2 => [99]
 | 3 => [46]
 | 4 => [91, 97, 45, 98, 93]
 | 5 => [91, 92, 120, 48, 48, 45, 92, 120, 54, 48, 98, 45, 92, 120, 102, 102, 93]
 | 6 => [97]
 | 7 => [91, 97, 45, 122, 93]
 | _ => [92, 120, 50, 101]
def sgH : Nat → Nat → Bool
 | 0 => stretch 97 97
 | 1 => stretch 98 98
 | 2 => stretch 99 99
 | 3 => fun _ => true
 | 4 => stretch 97 98
 | 5 => fun n => stretch 0 96 n || stretch 98 255 n
 | 6 => stretch 97 97
 | 7 => stretch 97 122
 | _ => stretch 46 46
theorem sp_all : ∀ k, Sg (sgP k) (.set (sgH k))
 | 0 => sg97
 | 1 => Sg.lit (c := 98) (by decide) (by unfold notC; decide)
 | 2 => Sg.lit (c := 99) (by decide) (by unfold notC; decide)
 | 3 => sgDot
 | 4 => sgRng (a := 97) (c := 98) (by decide) (by decide) (by decide)
 | 5 => sgNotX
 | 6 => sg97
 | 7 => sgRng (a := 97) (c := 122) (by decide) (by decide) (by decide)
 | _ + 8 => sgDotX
set_option maxRecDepth 100000 in
theorem sp_eq : ∀ k b, b < 256 → sgF k b = sgH k b
 | 0, b, _ => rfl
 | 1, b, _ => rfl
 | 2, b, _ => rfl
 | 3, b, _ => rfl
 | 4, b, h => (by decide +kernel : ∀ m : Fin 256, sgF 4 m.val = sgH 4 m.val) ⟨b, h⟩
 | 5, b, h => (by decide +kernel : ∀ m : Fin 256, sgF 5 m.val = sgH 5 m.val) ⟨b, h⟩
 | 6, b, _ => rfl
 | 7, b, h => (by decide +kernel : ∀ m : Fin 256, sgF 7 m.val = sgH 7 m.val) ⟨b, h⟩
 | _ + 8, b, _ => rfl
theorem sp_txt : ∀ k, setT (sgF k) = sgP k ∧ setT (sgH k) = sgP k
 | 0 => by decide +kernel
 | 1 => by decide +kernel
 | 2 => by decide +kernel
 | 3 => by decide +kernel
 | 4 => by decide +kernel
 | 5 => by decide +kernel
 | 6 => by decide +kernel
 | 7 => by decide +kernel
 | k + 8 => (by decide +kernel : setT (stretch 46 46) = [92, 120, 50, 101] ∧ setT (stretch 46 46) = [92, 120, 50, 101])
end Go.Proofs.YtnfojonmohijpaaGreatDoor
namespace Go.Proofs.YtnfojonmohijpaaGreatDoor
def eqvL : List Pat → List Pat → Prop
 | [], [] => True
 | x :: l, y :: m => x.eqv y ∧ eqvL l m
 | _, _ => False
theorem eqvL.pre {y z : Pat} (h0 : y.eqv z) : ∀ {l m : List Pat}, eqvL l m → (pre l y).eqv (pre m z)
 | [], [], _ => h0
 | x :: l, w :: m, h => ⟨h.1, eqvL.pre h0 h.2⟩
theorem eqvL.app : ∀ {l m l' m' : List Pat}, eqvL l m → eqvL l' m' → eqvL (l ++ l') (m ++ m')
 | [], [], _, _, _, h => h
 | x :: l, w :: m, _, _, h, h' => ⟨h.1, eqvL.app h.2 h'⟩
def alL : List Pat → Nat
 | [] => 0
 | x :: l => max x.al (alL l)
def beL : List Pat → Nat
 | [] => 0
 | x :: l => x.be + 1 + beL l
def tdL : List Pat → Nat
 | [] => 0
 | x :: l => max x.td (tdL l)
def wideL : List Pat → Prop
 | [] => True
 | x :: l => x.wide ∧ wideL l
def patL : List Pat → List UInt8
 | [] => []
 | x :: l => patT x ++ patL l
theorem alL_app : ∀ l m, alL (l ++ m) = max (alL l) (alL m)
 | [], m => by simp [alL]
 | x :: l, m => by rw [List.cons_append, alL, alL, alL_app l m]; omega
theorem beL_app : ∀ l m, beL (l ++ m) = beL l + beL m
 | [], m => by simp [beL]
 | x :: l, m => by rw [List.cons_append, beL, beL, beL_app l m]; omega
theorem tdL_app : ∀ l m, tdL (l ++ m) = max (tdL l) (tdL m)
 | [], m => by simp [tdL]
 | x :: l, m => by rw [List.cons_append, tdL, tdL, tdL_app l m]; omega
theorem wideL_app : ∀ l m, wideL l → wideL m → wideL (l ++ m)
 | [], _, _, h => h
 | _ :: l, m, h, h' => ⟨h.1, wideL_app l m h.2 h'⟩
theorem patL_app : ∀ l m, patL (l ++ m) = patL l ++ patL m
 | [], m => rfl
 | x :: l, m => by rw [List.cons_append, patL, patL, patL_app l m, List.append_assoc]
theorem pre_al : ∀ l, (pre l .pnil).al = alL l
 | [] => rfl
 | x :: l => by rw [pre, Pat.al, pre_al l, alL]
theorem pre_be : ∀ l, (pre l .pnil).be = beL l + 3
 | [] => rfl
 | x :: l => by rw [pre, Pat.be, pre_be l, beL]; omega
theorem pre_td : ∀ l, (pre l .pnil).td = tdL l + 1
 | [] => rfl
 | x :: l => by rw [pre, Pat.td, pre_td l, tdL]; omega
theorem pre_wide : ∀ l, wideL l → (pre l .pnil).wide
 | [], _ => trivial
 | _ :: l, h => ⟨h.1, pre_wide l h.2⟩
theorem pre_txt : ∀ l, patT (pre l .pnil) = patL l
 | [] => rfl
 | x :: l => by rw [pre, patT, pre_txt l, patL]
structure Fm (p p' : List UInt8) (f f' : Nat → List Pat) (n a A B D : Nat) : Prop where
 wy : Wy p f n a
 wy' : Wy p' f' n a
 ev : ∀ g, eqvL (f g) (f' g)
 tx : ∀ g, patL (f g) = p'
 tx' : ∀ g, patL (f' g) = p'
 hd : p.head? ≠ some 94
 hd' : p'.head? ≠ some 94
 al : ∀ g, alL (f g) ≤ A
 be : ∀ g, beL (f g) ≤ B
 td : ∀ g, tdL (f g) ≤ D
 wd : ∀ g, wideL (f g)
structure Fw (p p' : List UInt8) (x x' : Nat → Pat) (n a A B D : Nat) : Prop where
 ws : Ws p x n a
 ws' : Ws p' x' n a
 ev : ∀ g, (x g).eqv (x' g)
 tx : ∀ g, patT (x g) = p'
 tx' : ∀ g, patT (x' g) = p'
 al : ∀ g, (x g).al ≤ A
 be : ∀ g, (x g).be ≤ B
 td : ∀ g, (x g).td ≤ D
 wd : ∀ g, (x g).wide
theorem Fm.more {p p' : List UInt8} {f f' : Nat → List Pat} {n a A B D A' B' D' : Nat} (h : Fm p p' f f' n a A B D) (hA : A ≤ A') (hB : B ≤ B') (hD : D ≤ D') : Fm p p' f f' n a A' B' D' :=
 ⟨h.wy, h.wy', h.ev, h.tx, h.tx', h.hd, h.hd', fun g => Nat.le_trans (h.al g) hA, fun g => Nat.le_trans (h.be g) hB, fun g => Nat.le_trans (h.td g) hD, h.wd⟩
theorem sgP_hd (k : Nat) : (sgP k).head? ≠ some 94 := by
 match k with
 | 0 => decide
 | 1 => decide
 | 2 => decide
 | 3 => decide
 | 4 => decide
 | 5 => decide
 | 6 => decide
 | 7 => decide
 | _ + 8 => exact (by decide : ([92, 120, 50, 101] : List UInt8).head? ≠ some 94)
theorem Fm.single (k : Nat) : Fm (sgT k) (sgP k) (fun _ => [.set (sgF k)]) (fun _ => [.set (sgH k)]) 0 0 3 1 0 := by
 have hw := Wy.single (sg_all k) Rx.none
 have hw' := Wy.single (sp_all k) Rx.none
 rw [List.append_nil] at hw hw'
 refine ⟨hw, hw', fun _ => ⟨sp_eq k, trivial⟩, fun _ => ?_, fun _ => ?_, (Md.single k).hd, sgP_hd k, fun _ => by simp [alL, Pat.al], fun _ => by simp [beL, Pat.be], fun _ => by simp [tdL, Pat.td], fun _ => ⟨trivial, trivial⟩⟩
 ·simp only [patL, patT, (sp_txt k).1, List.append_nil]
 ·simp only [patL, patT, (sp_txt k).2, List.append_nil]
theorem head_app {p q : List UInt8} (h : ∃ c r, p = c :: r ∧ noRep (c.toNat : Int)) (hp : p.head? ≠ some 94) : (p ++ q).head? ≠ some 94 := by
 obtain ⟨c, r, rfl, _⟩ := h
 exact hp
theorem Fm.join {p p' q q' : List UInt8} {f f' h h' : Nat → List Pat} {n a m b A B D B2 : Nat} (k : Fm p p' f f' n a A B D) (l : Fm q q' h h' m b A B2 D) : Fm (p ++ q) (p' ++ q') (fun g => f g ++ h (g + n)) (fun g => f' g ++ h' (g + n)) (n + m) (max a b) A (B + B2) D := by
 refine ⟨k.wy.app l.wy, k.wy'.app l.wy', fun g => (k.ev g).app (l.ev _), fun g => ?_, fun g => ?_, head_app k.wy.hd k.hd, head_app k.wy'.hd k.hd', fun g => ?_, fun g => ?_, fun g => ?_, fun g => wideL_app _ _ (k.wd g) (l.wd _)⟩
 ·rw [patL_app, k.tx, l.tx]
 ·rw [patL_app, k.tx', l.tx']
 ·have := k.al g; have := l.al (g + n); rw [alL_app]; omega
 ·have := k.be g; have := l.be (g + n); rw [beL_app]; omega
 ·have := k.td g; have := l.td (g + n); rw [tdL_app]; omega
theorem Fm.one {p p' : List UInt8} {f f' : Nat → List Pat} {n a A B D : Nat} (h : Fm p p' f f' n a A B D) : Fw p p' (fun g => .wone (pre (f g) .pnil)) (fun g => .wone (pre (f' g) .pnil)) n a A (B + 9) (D + 2) := by
 refine ⟨Ws.one h.wy, Ws.one h.wy', fun g => eqvL.pre (y := .pnil) (z := .pnil) trivial (h.ev g), fun g => ?_, fun g => ?_, fun g => ?_, fun g => ?_, fun g => ?_, fun g => pre_wide _ (h.wd g)⟩
 ·rw [patT, pre_txt, h.tx]
 ·rw [patT, pre_txt, h.tx']
 ·rw [Pat.al, pre_al]; exact h.al g
 ·have := h.be g; rw [Pat.be, pre_be]; omega
 ·have := h.td g; rw [Pat.td, pre_td]; omega
theorem Fm.alt {p p' q q' : List UInt8} {f f' : Nat → List Pat} {y y' : Nat → Pat} {n a m b A B D : Nat} (h : Fm p p' f f' n a A B D) (k : Fw q q' y y' m b A (B + 9) (D + 2)) (hy : ∀ g, (wl (y g)).length ≤ 59) :
    Fw (p ++ [124] ++ q) (p' ++ [124] ++ q') (fun g => .wcons (pre (f g) .pnil) (y (g + n))) (fun g => .wcons (pre (f' g) .pnil) (y' (g + n))) (n + m) (max a b) A (B + 9) (D + 2) := by
 refine ⟨Ws.cons h.wy k.ws, Ws.cons h.wy' k.ws', fun g => ⟨eqvL.pre (y := .pnil) (z := .pnil) trivial (h.ev g), k.ev _⟩, fun g => ?_, fun g => ?_, fun g => ?_, fun g => ?_, fun g => ?_, fun g => ⟨hy _, pre_wide _ (h.wd g), k.wd _⟩⟩
 ·rw [patT, pre_txt, h.tx, k.tx, List.append_assoc]
 ·rw [patT, pre_txt, h.tx', k.tx', List.append_assoc]
 ·have := h.al g; have := k.al (g + n); rw [Pat.al, pre_al]; omega
 ·have := h.be g; have := k.be (g + n); rw [Pat.be, pre_be]; omega
 ·have := h.td g; have := k.td (g + n); rw [Pat.td, pre_td]; omega
theorem Fw.nil {A B D : Nat} : Fw [] [] (fun _ => .wone .pnil) (fun _ => .wone .pnil) 0 0 A (B + 9) (D + 2) :=
 ⟨Ws.nil, Ws.nil, fun _ => trivial, fun _ => rfl, fun _ => rfl, fun _ => Nat.zero_le _, fun _ => by simp [Pat.be], fun _ => by simp [Pat.td], fun _ => trivial⟩
def rpX : Option (Nat × Int) → List UInt8
 | none => []
 | some (mn, mx) => repT mn mx
theorem Fw.grp {p p' r r' : List UInt8} {x x' : Nat → Pat} {n a A B D : Nat} {o : Option (Nat × Int)} (h : Fw p p' x x' n a A B D) (hr : Rx r o) (hr' : Rx r' o) (hx : rpX o = r') (ho : ∀ mm, o = some mm → mm.1 ≤ 2) :
    Fm ([40] ++ p ++ [41] ++ r) ([40] ++ p' ++ [41] ++ r') (fun g => [withRep (.grp (g + 1) (x (g + 1))) o]) (fun g => [withRep (.grp (g + 1) (x' (g + 1))) o]) (n + 1) (a + 1) (A + B + 6) (2 * B + 16) (D + 2) := by
 have ht : ∀ y : Pat, patT (withRep y o) = patT y ++ r' := by
  intro y
  rw [← hx]
  cases o with
  | none => simp [withRep, rpX]
  | some mm => obtain ⟨mn, mx⟩ := mm; simp [withRep, rpX, patT]
 refine ⟨Wy.grp h.ws hr, Wy.grp h.ws' hr', fun g => ⟨?_, trivial⟩, fun g => ?_, fun g => ?_, by simp, by simp, fun g => ?_, fun g => ?_, fun g => ?_, fun g => ⟨?_, trivial⟩⟩
 ·cases o with
  | none => exact ⟨rfl, h.ev _⟩
  | some mm => exact ⟨rfl, rfl, rfl, h.ev _⟩
 ·rw [patL, ht, patT, h.tx, patL, List.append_nil]
 ·rw [patL, ht, patT, h.tx', patL, List.append_nil]
 ·have h1 := h.al (g + 1)
  have h2 := h.be (g + 1)
  cases o with
  | none => simp only [withRep, alL, Pat.al]; omega
  | some mm => obtain ⟨mn, mx⟩ := mm; simp only [withRep, alL, Pat.al, Pat.be]; omega
 ·have h2 := h.be (g + 1)
  cases o with
  | none => simp only [withRep, beL, Pat.be]; omega
  | some mm =>
   have h3 := ho mm rfl
   obtain ⟨mn, mx⟩ := mm
   simp only [withRep, beL, Pat.be]
   have h4 : ((x (g + 1)).be + 5 + 1) * mn ≤ (B + 6) * 2 := Nat.mul_le_mul (by omega) h3
   omega
 ·have h1 := h.td (g + 1)
  cases o with
  | none => simp only [withRep, tdL, Pat.td]; omega
  | some mm => obtain ⟨mn, mx⟩ := mm; simp only [withRep, tdL, Pat.td]; omega
 ·cases o with
  | none => exact h.wd _
  | some mm => exact h.wd _
theorem bd_plain (k l : Nat) : ∃ o r', Rx (bdT k l) (some o) ∧ Rx r' (some o) ∧ rpX (some o) = r' ∧ o.1 ≤ 2 := by
 match k, l with
 | 0, 0 => exact ⟨(0, 2), _, Rx.upto (m := 0) (n := 2) (by decide) (by decide), Rx.upto (m := 0) (n := 2) (by decide) (by decide), by decide, by decide⟩
 | 0, 1 => exact ⟨(0, 3), _, Rx.upto (m := 0) (n := 3) (by decide) (by decide), Rx.upto (m := 0) (n := 3) (by decide) (by decide), by decide, by decide⟩
 | 0, _ + 2 => exact ⟨(0, -1), _, Rx.from (m := 0) (by decide), Rx.star, by decide, by decide⟩
 | 1, 0 => exact ⟨(1, 2), _, Rx.upto (m := 1) (n := 2) (by decide) (by decide), Rx.upto (m := 1) (n := 2) (by decide) (by decide), by decide, by decide⟩
 | 1, 1 => exact ⟨(1, 3), _, Rx.upto (m := 1) (n := 3) (by decide) (by decide), Rx.upto (m := 1) (n := 3) (by decide) (by decide), by decide, by decide⟩
 | 1, _ + 2 => exact ⟨(1, -1), _, Rx.from (m := 1) (by decide), Rx.plus, by decide, by decide⟩
 | _ + 2, 0 => exact ⟨(2, 2), _, Rx.upto (m := 2) (n := 2) (by decide) (by decide), Rx.just (m := 2) (by decide), by decide, by decide⟩
 | _ + 2, 1 => exact ⟨(2, 3), _, Rx.upto (m := 2) (n := 3) (by decide) (by decide), Rx.upto (m := 2) (n := 3) (by decide) (by decide), by decide, by decide⟩
 | _ + 2, _ + 2 => exact ⟨(2, -1), _, Rx.from (m := 2) (by decide), Rx.from (m := 2) (by decide), by decide, by decide⟩
theorem rp_plain : ∀ k, rpX (rpO k) = rpT k ∧ ∀ mm, rpO k = some mm → mm.1 ≤ 2
 | 0 => ⟨rfl, fun mm e => by cases e⟩
 | 1 => ⟨by decide, fun mm e => by cases e; decide⟩
 | _ + 2 => ⟨(by decide : rpX (some (1, -1)) = [43]), fun mm e => by cases e; decide⟩
def mdA : Nat → Nat × Nat × Nat
 | 0 => (3, 1, 0)
 | d + 1 => ((mdA d).1 + (mdA d).2.1 + 15, 2 * (mdA d).2.1 + 34, (mdA d).2.2 + 4)
theorem fm_all (c : Nat → Nat) : ∀ deep i, ∃ p' f f' n a, Fm (mdT c deep i) p' f f' n a (mdA deep).1 (mdA deep).2.1 (mdA deep).2.2 ∧ n + 1 ≤ 2 ^ deep ∧ a ≤ deep
 | 0, i => ⟨_, _, _, 0, 0, Fm.single _, by decide, by decide⟩
 | deep + 1, i => by
  obtain ⟨p', f, f', n, a, h, hn, ha⟩ := fm_all c deep (i + 1)
  obtain ⟨q', h', h'', m, b, k, hm, hb⟩ := fm_all c deep (i + 2)
  have hp : 2 ^ (deep + 1) = 2 * 2 ^ deep := by rw [Nat.pow_succ]; omega
  have hp1 : 1 ≤ 2 ^ deep := Nat.one_le_pow _ _ (by omega)
  have h3 : 3 ≤ (mdA deep).1 := by
   have key : ∀ d, 3 ≤ (mdA d).1 := fun d => by induction d with
    | zero => decide
    | succ d ih => simp only [mdA]; omega
   exact key deep
  have hbA : mdA (deep + 1) = ((mdA deep).1 + (mdA deep).2.1 + 15, 2 * (mdA deep).2.1 + 34, (mdA deep).2.2 + 4) := rfl
  rw [hbA]
  generalize (mdA deep).1 = A at h k h3 ⊢
  generalize (mdA deep).2.1 = B at h k ⊢
  generalize (mdA deep).2.2 = D at h k ⊢
  dsimp only
  unfold mdT
  split
  ·exact ⟨_, _, _, 0, 0, (Fm.single _).more (by omega) (by omega) (by omega), by omega, by omega⟩
  ·have := h.one.grp Rx.none Rx.none rfl (fun mm e => by cases e)
   rw [List.append_nil] at this
   exact ⟨_, _, _, n + 1, a + 1, this.more (by omega) (by omega) (by omega), by omega, by omega⟩
  ·exact ⟨_, _, _, n + m, max a b, (h.join k).more (by omega) (by omega) (by omega), by omega, by omega⟩
  ·have := (h.alt k.one (fun g => by simp [wl])).grp Rx.none Rx.none rfl (fun mm e => by cases e)
   have e : [40] ++ (mdT c deep (i + 1) ++ [124] ++ mdT c deep (i + 2)) ++ [41] ++ [] = [40] ++ mdT c deep (i + 1) ++ [124] ++ mdT c deep (i + 2) ++ [41] := by simp
   rw [e] at this
   exact ⟨_, _, _, n + m + 1, max a b + 1, this.more (by omega) (by omega) (by omega), by omega, by omega⟩
  ·have := h.one.grp Rx.star Rx.star (by decide) (fun mm e => by cases e; decide)
   have e : [40] ++ mdT c deep (i + 1) ++ [41] ++ [42] = [40] ++ mdT c deep (i + 1) ++ [41, 42] := by simp
   rw [e] at this
   exact ⟨_, _, _, n + 1, a + 1, this.more (by omega) (by omega) (by omega), by omega, by omega⟩
  ·obtain ⟨r1, r2⟩ := rp_plain (c i / 7 % 3)
   have := (h.alt Fw.nil (fun g => by simp [wl])).grp (rp_all (c i / 7 % 3)) (rp_all (c i / 7 % 3)) r1 r2
   have e : [40] ++ (mdT c deep (i + 1) ++ [124] ++ []) ++ [41] ++ rpT (c i / 7 % 3) = [40] ++ mdT c deep (i + 1) ++ [124, 41] ++ rpT (c i / 7 % 3) := by simp
   rw [e] at this
   exact ⟨_, _, _, n + 0 + 1, max a 0 + 1, this.more (by omega) (by omega) (by omega), by omega, by omega⟩
  ·obtain ⟨o, r', o1, o2, o3, o4⟩ := bd_plain (c i / 7 % 3) (c i / 21 % 3)
   have := h.one.grp o1 o2 o3 (fun mm e => by cases e; exact o4)
   have e : [40] ++ mdT c deep (i + 1) ++ [41] ++ bdT (c i / 7 % 3) (c i / 21 % 3) = [40] ++ mdT c deep (i + 1) ++ [41, 123] ++ lwT (c i / 7 % 3) ++ [44] ++ hiT (c i / 21 % 3) ++ [125] := by simp [bdT]
   rw [e] at this
   exact ⟨_, _, _, n + 1, a + 1, this.more (by omega) (by omega) (by omega), by omega, by omega⟩
end Go.Proofs.YtnfojonmohijpaaGreatDoor
namespace Go.Proofs.YtnfojonmohijpaaGreatDoor
open Go.RowKit
def oft (m : Nat) (x : Int) (n : Nat) : Bool := decide (m ≤ n) && (decide (x < 0) || decide ((n : Int) ≤ x))
set_option maxRecDepth 100000 in
set_option maxHeartbeats 1000000 in
theorem often_any (m : Nat) (x : Int) (n : Nat) (hok : okRep (some (m, x))) (hn : (n : Int) ≤ 9223372036854775807) (w : World) :
    Calls Tryz.prog 224 #[.agg #[.bool true, .int .i64 m, .int .i64 x], .int .i64 n] w fun e w' => e = .returned (.bool (oft m x n)) ∧ Keeps [] w w' := by
 obtain ⟨hm, hx⟩ := hok
 have hk0 : Keeps [] w (w.alloc (.cells #[.bool true, .int .i64 m, .int .i64 x] 210)) := (Keeps.refl [] w).alloc _
 have h0 : (w.alloc (.cells #[.bool true, .int .i64 m, .int .i64 x] 210)).heap[w.heap.size]? = some (.cells #[.bool true, .int .i64 m, .int .i64 x] 210 (0, 0)) := heap_alloc_new w _
 have hc : (w.alloc (.cells #[.bool true, .int .i64 m, .int .i64 x] 210)).cell? ⟨w.heap.size, 1, none⟩ = some (.int .i64 m) ∧ (w.alloc (.cells #[.bool true, .int .i64 m, .int .i64 x] 210)).cell? ⟨w.heap.size, 2, none⟩ = some (.int .i64 x) := ⟨by rw [Lib.cell_of_heap h0]; rfl, by rw [Lib.cell_of_heap h0]; rfl⟩
 go_enter Tryz.func224, Tryz.ntmps224
 go_upto_region 1 with (fail)
 generalize w.alloc (.cells #[.bool true, .int .i64 m, .int .i64 x] 210) = W at *
 obtain ⟨c1, c2⟩ := hc
 by_cases h1 : m ≤ n
 ·have h1' : (m : Int) ≤ (n : Int) := by omega
  rcases hx with rfl | ⟨k, rfl, hk⟩
  ·have HB : Hid (oft m (-1) n = true) := by show oft m (-1) n = true; simp [oft, h1]
   clear h1
   go_wp2_with fail
   go_ret
   exact ⟨by (rw [HB.out]) <;> rfl, hk0⟩
  ·have hne : ((k : Int) == -1) = false := by first | (simp; done) | (simp; omega)
   by_cases h2 : n ≤ k
   ·have h2' : (n : Int) ≤ (k : Int) := by omega
    have HB : Hid (oft m k n = true) := by show oft m k n = true; simp [oft, h1, h2]
    clear h1 h2
    go_wp2_with fail
    go_ret
    exact ⟨by (rw [HB.out]) <;> rfl, hk0⟩
   ·have h2' : decide ((n : Int) ≤ (k : Int)) = false := by simp; omega
    have h2'' : decide (n ≤ k) = false := by simp; omega
    have HB : Hid (oft m k n = false) := by show oft m k n = false; simp [oft, h1]; omega
    clear h1 h2
    go_wp2_with fail
    go_ret
    exact ⟨by rw [HB.out]; simp_all, hk0⟩
 ·have h1' : decide ((m : Int) ≤ (n : Int)) = false := by simp; omega
  have h1'' : decide (m ≤ n) = false := by simp; omega
  have HB : Hid (oft m x n = false) := by show oft m x n = false; simp [oft, h1]
  clear h1
  go_wp2_with fail
  go_ret
  exact ⟨by rw [HB.out]; simp_all, hk0⟩
theorem ltr_rep {t : Tr} (h : t.ltr = 114) : ∃ l, t = .trep l := by cases t <;> simp [Tr.ltr] at h; exact ⟨_, rfl⟩
theorem piece_cells {X : World} {g : Nat} {cs : List Value} {o : Option (Nat × Int)} {T : TypeId} {fr : Nat × Nat} (hl : cs.length = 258) (h : X.heap[g]? = some (.cells (cs ++ repC o).toArray T fr)) : X.cell? ⟨g, 258, none⟩ = some (.bool o.isSome) := by
 have := rangeBehind hl h 0 (.bool o.isSome) (by cases o with | none => rfl | some p => rfl)
 exact this
set_option maxRecDepth 100000 in
set_option maxHeartbeats 4000000 in
theorem pieceFits_any (n : Nat) (IS : SingleF n) : PieceF n := by
 intro z hz w S S' cs0 a b c t hrep htv
 obtain ⟨rfl, rfl, va, vn, vc, rfl⟩ := htv.face
 cases hrep with
 | piece x o cs ho hrx =>
 have hl : cs.length = 258 := hrx.cells.2
 have h2 : ((w.alloc (.cells (cs ++ repC o).toArray 212)).alloc (.cells #[.int .u8 t.ltr, .int .i64 t.num, .slice va vn vc] 88)).heap[w.heap.size]? = some (.cells (cs ++ repC o).toArray 212 (0, 0)) := heap_alloc2_old w _ _
 have h3 : P3 ((w.alloc (.cells (cs ++ repC o).toArray 212)).alloc (.cells #[.int .u8 t.ltr, .int .i64 t.num, .slice va vn vc] 88)) (w.heap.size + 1) (.int .u8 t.ltr) (.int .i64 t.num) (.slice va vn vc) := heap_alloc2_new w _ _
 have hk0 : Keeps [] w ((w.alloc (.cells (cs ++ repC o).toArray 212)).alloc (.cells #[.int .u8 t.ltr, .int .i64 t.num, .slice va vn vc] 88)) := ((Keeps.refl [] w).alloc _).alloc _
 have c258 := piece_cells hl h2
 have hr1 : ∀ X : World, X.heap[w.heap.size]? = some (.cells (cs ++ repC o).toArray 212 (0, 0)) → X.rangeAt w.heap.size 0 cs := fun X h => rangeSingleIn h
 have hr2 : ∀ X : World, X.heap[w.heap.size]? = some (.cells (cs ++ repC o).toArray 212 (0, 0)) → X.rangeAt w.heap.size 258 (repC o) := fun X h => rangeBehind hl h
 obtain ⟨d0, d1, d2⟩ := h3.main
 have hlt2 : w.heap.size < ((w.alloc (.cells (cs ++ repC o).toArray 212)).alloc (.cells #[.int .u8 t.ltr, .int .i64 t.num, .slice va vn vc] 88)).heap.size := by simp; omega
 generalize (cs ++ repC o).toArray = C at *
 go_enter Tryz.func184, Tryz.ntmps184
 go_upto_region 1 with (fail)
 generalize (w.alloc (.cells C 212)).alloc (.cells #[.int .u8 t.ltr, .int .i64 t.num, .slice va vn vc] 88) = W at *
 obtain ⟨g3, hg3⟩ : ∃ g, w.heap.size + 1 = g := ⟨_, rfl⟩
 obtain ⟨g2, hg2⟩ : ∃ g, w.heap.size = g := ⟨_, rfl⟩
 rw [hg3] at h3 d0 d1 d2 ⊢
 rw [hg2] at h2 c258 hr1 hr2 hlt2 ⊢
 have hg3l := h3.lt
 have hrw := hr1 W h2
 cases o with
 | none =>
  have hb0 : (none : Option (Nat × Int)).isSome = false := rfl
  rw [hb0] at c258
  have hi := infoSgL hl
  have hxsz : x.sz ≤ n := hz
  go_upto_region 2 with (fail)
  go_wp2_with (first
    | (refine wpList_load_mid rfl 208 _ rfl g2 0 rfl cs _ hrw Tryz.underlying208 rfl hi ?_)
    | (refine wpList_load_row rfl 88 _ rfl g3 rfl _ _ _ _ h3 Tryz.underlying88 rfl (info3 _ _ _) ?_))
  refine (IS x hxsz W S S' cs _ _ _ t (hrx.keep hk0 (by simp)) (htv.keep hk0 (by simp))).mono ?_
  rintro e w1 ⟨b, rfl, hbi, hk1⟩
  go_wp2_with fail
  go_ret
  exact ⟨b, rfl, hbi, hk0.trans hk1⟩
 | some p =>
  obtain ⟨mn, mx⟩ := p
  have hb0 : (some (mn, mx) : Option (Nat × Int)).isSome = true := rfl
  rw [hb0] at c258
  have hi := infoSgL hl
  have hxsz : x.sz ≤ n := by have : (Pat.rep mn mx x).sz ≤ n := hz; simp [Pat.sz] at this; omega
  by_cases hb : t.ltr = 114
  ·obtain ⟨r, rfl⟩ := ltr_rep hb
   have e1 : (((Tr.trep r).ltr : Nat) : Int) = 114 := rfl
   have e2 : (((Tr.trep r).num : Nat) : Int) = 0 := rfl
   rw [e1] at h3 d0 ⊢
   rw [e2] at h3 d1 ⊢
   cases htv with
   | trep _ _ m rs hrow hown hSv =>
   obtain rfl := ownsRow_lenT hown
   obtain ⟨hcl, _, hat⟩ := hrow.tl_at
   have hvm : (vn : Int) ≤ 9223372036854775807 := by
    rcases hown.2 with ⟨_, e⟩ | ⟨g, cap, cur, _, _, _, h1, h2, _⟩
    ·omega
    ·unfold maxLen at h2; omega
   have HK : Hid (vn = (tl r).length) := by
    have := hown.1
    show vn = (tl r).length
    omega
   have hO := often_any mn mx vn ho hvm
   have hrp := hr2 W h2
   have hip : (Tryz.prog.info? 210).map (·.size) = some [Value.bool true, .int .i64 mn, .int .i64 mx].length := by kernel_rfl
   have hrp' : W.rangeAt g2 258 [.bool true, .int .i64 mn, .int .i64 mx] := hrp
   have c259 : W.cell? ⟨g2, 259, none⟩ = some (.int .i64 mn) := hrp 1 _ rfl
   have c260 : W.cell? ⟨g2, 260, none⟩ = some (.int .i64 mx) := hrp 2 _ rfl
   have hlv := run_loadVar_at W g2 258 210 [.bool true, .int .i64 mn, .int .i64 mx] _ hrp' Tryz.underlying210 rfl hip
   clear hb e1 e2 hcl hrp
   by_cases hof : oft mn mx vn = true
   ·have HO : Hid (∀ w, Calls Tryz.prog 224 #[.agg #[.bool true, .int .i64 mn, .int .i64 mx], .int .i64 vn] w fun e w' => e = .returned (.bool true) ∧ Keeps [] w w') := by rw [hof] at hO; exact hO
    have HOF : Hid (oft mn mx vn = true) := hof
    clear hO hof
    go_upto_region 5 with (first
      | (go_at_call 224; refine (HO.out _).mono ?_; rintro e w1 ⟨rfl, hk1⟩))
    have d2' := keep_cell hk1 d2
    have h2' := (hk1.block g2 hlt2 (by simp)).trans h2
    have hkA := hk0.trans hk1
    have hi3 : (Tryz.prog.info? 88).map (·.size) = some 3 := by kernel_rfl
    clear d0 d1 d2 c258 c259 c260 hlv hrp' hrw h2 HO
    go_upto_region 6 with (fail)
    go_loopw [6, 30] (fun _ q30 wr => ∃ i : Nat, q30 = .int .i64 i ∧ i ≤ vn ∧ (∀ (j : Nat) (u : Tr), j < i → (tl r)[j]? = some u → Ft x u) ∧ Keeps [] w1 wr) (fun _ q _ => vn - (intOf q).toNat)
    case atStart => exact ⟨0, rfl, Nat.zero_le _, fun j u h => absurd h (Nat.not_lt_zero _), Keeps.refl _ _⟩
    case round =>
     obtain ⟨i, rfl, hi', hall, hkr⟩ := hrel
     have HALL : Hid (∀ (j : Nat) (u : Tr), j < i → (tl r)[j]? = some u → Ft x u) := hall
     clear hall
     by_cases hlt : i < vn
     ·obtain ⟨u, hu⟩ : ∃ u, (tl r)[i]? = some u := ⟨_, List.getElem?_eq_getElem (by have := HK.out; omega)⟩
      obtain ⟨ds, hds, hdc, _, _⟩ := hat i u hu
      obtain ⟨k1, n1, da, dn, dc, rfl⟩ := hds.form
      obtain ⟨gv, vc', hv, _, hgv⟩ := hown.form (by omega)
      cases hv
      have hkB := hkA.trans hkr
      have hgv' : gv < w.heap.size := hgv
      have hrg : wr.rangeAt gv (i * 3) [.int .u8 k1, .int .i64 n1, .slice da dn dc] := fun j z hz => by
       have hj : j < 3 := (List.getElem?_eq_some_iff.1 hz).1
       exact (World.cell?_of_block (hkB.block gv hgv' (by simp))).trans ((World.ownsRow.cellAt hown (i * 3 + j) (by omega)).trans (hdc j z hz))
      have hi0 : (0 : Int) ≤ (i : Int) := by omega
      have hi1 : (i : Int) < (vn : Int) := by omega
      have HI : Hid (i < vn) := hlt
      have HU : Hid ((tl r)[i]? = some u) := hu
      have hq0 : (wr.alloc (.cells #[.int .u8 0, .int .i64 0, .slice none 0 0] 88)).heap[wr.heap.size]? = some (.cells #[.int .u8 0, .int .i64 0, .slice none 0 0] 88 (0, 0)) := heap_alloc_new wr _
      have hk4 : Keeps [] wr ((wr.alloc (.cells #[.int .u8 0, .int .i64 0, .slice none 0 0] 88)).setRow wr.heap.size #[.int .u8 k1, .int .i64 n1, .slice da dn dc]) := ((Keeps.refl [] wr).alloc _).setRow (Or.inr (Nat.le_refl _)) _
      have hq1 : ((wr.alloc (.cells #[.int .u8 0, .int .i64 0, .slice none 0 0] 88)).setRow wr.heap.size #[.int .u8 k1, .int .i64 n1, .slice da dn dc]).heap[wr.heap.size]? = some (.cells #[.int .u8 k1, .int .i64 n1, .slice da dn dc] 88 (0, 0)) := setRow_heap _ _ _ _ _ _ hq0
      have hlt2r : g2 < w1.heap.size := (Array.getElem?_eq_some_iff.1 h2').1
      have h2r := ((hkr.trans hk4).block g2 hlt2r (by simp)).trans h2'
      have hrs := hr1 _ h2r
      have hkC := hkB.trans hk4
      have hIC := IS x hxsz _ S S' cs _ _ _ u (hrx.keep hkC (by simp)) (hds.keep hkC (by simp))
      have hkF := hkr.trans hk4
      clear hi' hlt hu hk4
      go_upto_region 8 with (first | (refine wpList_load_mid rfl 88 _ rfl gv (i * 3) rfl _ _ hrg Tryz.underlying88 rfl hi3 ?_) | (refine wpList_store_row rfl 88 _ _ rfl wr.heap.size #[.int .u8 k1, .int .i64 n1, .slice da dn dc] rfl rfl _ _ hq0 (info3 _ _ _) rfl (all3 rfl rfl rfl) ?_; generalize (wr.alloc (.cells #[.int .u8 0, .int .i64 0, .slice none 0 0] 88)).setRow wr.heap.size #[.int .u8 k1, .int .i64 n1, .slice da dn dc] = w2 at *))
      go_wp2_with (first
        | (refine wpList_load_mid rfl 208 _ rfl g2 0 rfl cs _ hrs Tryz.underlying208 rfl hi ?_)
        | (refine wpList_load_row rfl 88 _ rfl wr.heap.size rfl _ _ _ _ hq1 Tryz.underlying88 rfl (info3 _ _ _) ?_))
      refine hIC.mono ?_
      rintro e w3 ⟨b, rfl, hbi, hk3⟩
      have hkD := hkC.trans hk3
      have HB : Hid (b = true ↔ Ft x u) := hbi
      have hkE := hkF.trans hk3
      clear hIC hbi hq0 hq1 hrs hrg h2r
      cases b with
      | true =>
       go_wp2_with fail
       go_roundw
       case rel => exact ⟨i + 1, by go_num, HI.out, fun j v hj hv => by
         rcases Nat.lt_or_ge j i with h | h
         · exact HALL.out j v h hv
         · obtain rfl : j = i := by omega
           have := HU.out
           rw [this] at hv
           cases hv
           exact HB.out.1 (by trivial), hkE⟩
       case measure => have := HI.out; simp [intOf]; omega
      | false =>
       have HF : Hid (¬ Ft (.rep mn mx x) (.trep r)) := fun h => by
        cases h with
        | rep _ _ _ _ h1 h2 h3 => exact Bool.noConfusion (HB.out.2 (h3 u (List.mem_of_getElem? HU.out)))
       go_wp2_with fail
       go_ret
       exact ⟨_, rfl, ⟨(nomatch ·), fun h => absurd h HF.out⟩, hkD⟩
     ·have hni : ¬ (i : Int) < (vn : Int) := by omega
      have HF : Hid (Ft (.rep mn mx x) (.trep r)) := by
       have h1 := HOF.out
       have h5 := HK.out
       simp only [oft, Bool.and_eq_true, Bool.or_eq_true, decide_eq_true_eq] at h1
       refine .rep mn mx x r (by omega) (by rw [← h5]; exact h1.2) fun u hu => ?_
       obtain ⟨j, hj⟩ := List.getElem?_of_mem hu
       have := (List.getElem?_eq_some_iff.1 hj).1
       exact HALL.out j u (by omega) hj
      have hkB := hkA.trans hkr
      clear hlt hi'
      go_wp2_with fail
      go_ret
      exact ⟨_, rfl, ⟨fun _ => HF.out, fun _ => rfl⟩, hkB⟩
   ·have HO : Hid (∀ w, Calls Tryz.prog 224 #[.agg #[.bool true, .int .i64 mn, .int .i64 mx], .int .i64 vn] w fun e w' => e = .returned (.bool false) ∧ Keeps [] w w') := by
       rw [show oft mn mx vn = false by simpa using hof] at hO
       exact hO
    have HF : Hid (¬ Ft (.rep mn mx x) (.trep r)) := fun h => by
     apply hof
     cases h with
     | rep _ _ _ _ h1 h2 h3 =>
      rw [HK.out]
      simp only [oft, Bool.and_eq_true, Bool.or_eq_true, decide_eq_true_eq]
      exact ⟨h1, h2⟩
    clear hO hof
    go_wp2_with (first
      | (go_at_call 224; refine (HO.out _).mono ?_; rintro e w1 ⟨rfl, hk1⟩))
    go_ret
    exact ⟨_, rfl, ⟨(nomatch ·), fun h => absurd h HF.out⟩, hk0.trans hk1⟩
  ·have hkE : ((t.ltr : Int) == 114) = false := by simp; omega
   have hkN : ((t.ltr : Int) != 114) = true := by simp; omega
   have HF : Hid (¬ Ft (.rep mn mx x) t) := fun h => by cases h; exact hb rfl
   clear hb
   go_wp2_with fail
   go_ret
   exact ⟨_, rfl, ⟨(nomatch ·), fun h => absurd h HF.out⟩, hk0⟩
end Go.Proofs.YtnfojonmohijpaaGreatDoor
