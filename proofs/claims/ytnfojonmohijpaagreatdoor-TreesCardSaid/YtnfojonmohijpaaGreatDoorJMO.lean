/-
  DERIVED. Plain mathematics: that each stretch which matches has its tree, and how long a tree's text can be. Nothing of the program stands here.
-/
import Derived.Test.YtnfojonmohijpaaGreatDoorJMU
import Derived.Test.YtnfojonmohijpaaGreatDoorJSD
import Derived.Test.YtnfojonmohijpaaGreatDoorJRT
import Derived.Test.YtnfojonmohijpaaGreatDoorJUD
import Derived.Test.YtnfojonmohijpaaGreatDoorJPY
import Derived.Test.YtnfojonmohijpaaGreatDoorJUJ
set_option linter.unusedSimpArgs false
set_option linter.unusedVariables false
namespace Go.Proofs.YtnfojonmohijpaaGreatDoor
theorem MN.le' {s : ByteArray} {nds : List Nd} {J : JN} {i j : Nat} (h : MN s nds J i j) : i ≤ j := by
 induction h with
 | byte => omega
 | grp _ _ _ _ _ _ _ _ _ ih => exact ih
 | alt _ _ _ _ _ _ _ _ _ ih => exact ih
 | way _ _ _ _ _ _ _ ih => exact ih
 | rep _ _ _ _ _ _ _ _ _ _ _ _ ih => exact ih
 | rnil => omega
 | rcons _ _ _ _ _ _ _ i1 i2 => omega
 | izero => omega
 | isucc _ _ _ _ _ _ _ i1 i2 => omega
theorem times_total {s : ByteArray} {nds : List Nd} {g c : Nat} (hn : ∀ i j, MN s nds (.node c) i j → ∃ t ev, TN s nds g (.node c) i j t ev) :
    ∀ (d mn : Nat) (mx : Int) (i j : Nat), mn + (j - i) ≤ d → TmK s nds c mn mx i j → ∃ t ev, TN s nds g (.times c mn mx) i j t ev := by
 have hle : ∀ i j, MN s nds (.node c) i j → i ≤ j := fun _ _ h => h.le'
 intro d
 induction d with
 | zero =>
  intro mn mx i j hd h
  exact ⟨_, _, .tend c mn mx i j (by omega)⟩
 | succ d ih =>
  intro mn mx i j hd h
  by_cases hg : i < j ∨ 0 < mn
  ·obtain ⟨q, hq⟩ := Cut.ex (fun m => MN s nds (.node c) i m ∧ TmK s nds c (mn - 1) (less mx) m j) (Tm.le hle h)
   obtain ⟨⟨h1, h2⟩, h3⟩ := Tm.cut hle h hg hq
   obtain ⟨t, ev, ht⟩ := hn i q h1
   obtain ⟨u, fv, hu⟩ := ih (mn - 1) (less mx) q j (by omega) h2
   exact ⟨_, _, .tgo c mn mx i j q t u ev fv hg hq ht hu⟩
  ·exact ⟨_, _, .tend c mn mx i j hg⟩
theorem tn_total {s : ByteArray} {nds : List Nd} {g : Nat} : ∀ (n : Nat) {kd : Kd} {x : Pat} {k i j : Nat}, repK nds kd x k → shp x kd → x.fair g → x.sz ≤ n → MN s nds (.node k) i j → ∃ t ev, TN s nds g (.node k) i j t ev := by
 intro n
 induction n with
 | zero => intro kd x k i j _ _ _ hn; exact absurd hn (by cases x <;> simp [Pat.sz])
 | succ n ih =>
  intro kd x k i j hk hs hf hn hm
  have kids : ∀ (x : Pat) {l : List Nat} {i j : Nat}, rep nds x l → shp x .way → x.fair g → x.sz ≤ n + 1 → MN s nds (.row l) i j → ∃ t ev, TN s nds g (.kids l) i j t ev := by
   intro x
   induction x with
   | pnil => intro l i j hr _ _ _ _; cases hr; exact ⟨_, _, .kend i j⟩
   | pcons y r _ ihr =>
    intro l i j hr hs hf hn hm
    obtain ⟨c, l', rfl, h1, h2⟩ := hr
    obtain ⟨m0, a, b⟩ := MN.row_cons.1 hm
    obtain ⟨q, hq⟩ := Cut.ex (fun m => MN s nds (.node c) i m ∧ MN s nds (.row l') m j) hm.le'
    have hP := hq.hit ⟨m0, a.le', b.le', a, b⟩
    simp only [Pat.sz] at hn
    obtain ⟨t, ev, ht⟩ := ih (kd := .piece) h1 hs.1 hf.1 (by omega) hP.1
    obtain ⟨u, fv, hu⟩ := ihr h2 hs.2 hf.2 (by omega) hP.2
    exact ⟨_, _, .kgo c l' i j q t u ev fv hq ht hu⟩
   | _ => intro l i j _ hs; exact hs.elim
  have alts : ∀ (x : Pat) {p : Nat} {l : List Nat} {i j : Nat}, rep nds x l → shp x .ways → x.fair g → x.sz ≤ n + 1 → (∃ c, c ∈ l ∧ MN s nds (.node c) i j) → ∃ t ev, TN s nds g (.alts p l) i j t ev := by
   intro x
   induction x with
   | wone y _ =>
    intro p l i j hr hs hf hn hm
    obtain ⟨c, lp, rfl, h1, h2⟩ := hr
    obtain ⟨c', hc, hm⟩ := hm
    simp only [List.mem_singleton] at hc
    subst hc
    simp only [Pat.sz] at hn
    obtain ⟨t, ev, ht⟩ := ih (kd := .way) ⟨lp, h1, h2⟩ hs hf (by omega) hm
    exact ⟨_, _, .hit p c' [] i j t ev hm ht⟩
   | wcons y r _ ihr =>
    intro p l i j hr hs hf hn hm
    obtain ⟨c, lp, l', rfl, ⟨h1, h2⟩, h3⟩ := hr
    simp only [Pat.sz] at hn
    by_cases hc : MN s nds (.node c) i j
    ·obtain ⟨t, ev, ht⟩ := ih (kd := .way) ⟨lp, h1, h2⟩ hs.1 hf.1 (by omega) hc
     exact ⟨_, _, .hit p c l' i j t ev hc ht⟩
    ·obtain ⟨c', hc', hm⟩ := hm
     rcases List.mem_cons.1 hc' with rfl | hc'
     ·exact absurd hm hc
     ·obtain ⟨t, ev, ht⟩ := ihr (p := p + 1) h3 hs.2 hf.2 (by omega) ⟨c', hc', hm⟩
      exact ⟨_, _, .miss p c l' i j t ev hc ht⟩
   | _ => intro p l i j _ hs; exact hs.elim
  have go : x.fair g → x.sz ≤ n + 1 → ∃ t ev, TN s nds g (.node k) i j t ev := by
   refine node_lift (C := fun x => x.fair g → x.sz ≤ n + 1 → ∃ t ev, TN s nds g (.node k) i j t ev) ?_ ?_ ?_ ?_ ?_ hk hs
   ·intro y h hf hn; exact h hf.1 (by simp only [Pat.sz] at hn; omega)
   ·intro y h hf hn; exact h hf (by simp only [Pat.sz] at hn; omega)
   ·intro x kd hkd hr hs hf hn
    obtain ⟨nd, e⟩ : ∃ nd, nds[k]? = some nd := by cases hm <;> exact ⟨_, by assumption⟩
    rcases one_kind hkd hr hs e with ⟨h98, f, rfl⟩ | ⟨h103, y, c, lw, rfl, hc, hr', hl, hy⟩ | ⟨h114, y, c, rfl, hc, hr', hy⟩
    ·exact ⟨_, _, .byte k nd i j e h98⟩
    ·simp only [Pat.sz] at hn
     obtain ⟨t, ev, h⟩ := ih (kd := .ways) (x := y) (k := c) ⟨lw, hr', hl⟩ hy hf.2.2 (by omega) ((MN.grp_iff e h103 hc).1 hm)
     exact ⟨_, _, .grp k nd c i j t ev e h103 hc ⟨hf.1, hf.2.1⟩ h⟩
    ·simp only [Pat.sz] at hn
     obtain ⟨q, a, b, hit⟩ := (MN.rep_iff e h114 hc).1 hm
     have hT : TmK s nds c nd.mn nd.mx i j := ⟨q, a, b, (MN.it_iff (fun _ _ => Iff.rfl) q i j).2 hit⟩
     obtain ⟨t, ev, h⟩ := times_total (g := g) (fun i j h => ih (kd := .single) (x := y) hr' hy hf.2 (by omega) h) _ nd.mn nd.mx i j (Nat.le_refl _) hT
     exact ⟨_, _, .rep k nd c i j t ev e h114 hc h⟩
   ·intro x nd e hkind hne hr hs hf hn
    by_cases h0 : nd.kids = []
    ·exact ⟨_, _, .none k nd i j e hkind h0⟩
    ·obtain ⟨t, ev, h⟩ := kids x hr hs hf hn ((MN.way_iff e hkind).1 hm)
     exact ⟨_, _, .way k nd i j t ev e hkind h0 h⟩
   ·intro x nd e hkind hne hr hs hf hn
    obtain ⟨t, ev, h⟩ := alts x (p := 0) hr hs hf hn ((MN.alt_iff e hkind).1 hm)
    exact ⟨_, _, .alt k nd i j t ev e hkind h⟩
  exact go hf hn
def Pat.A : Pat → Nat
 | .set _ => 3
 | .grp _ x => x.A + 5
 | .rep mn _ x => (mn + 2) * (x.A + 1) + 3
 | .pnil => 1
 | .pcons x r => x.A + r.A + 4
 | .wone x => x.A + 6
 | .wcons x r => x.A + r.A + 6
def Job.bnd : Job → Nat → Nat
 | .node x, n => x.A * (n + 1)
 | .kids r, n => r.A * (n + 1) - 3
 | .times mn _ x, n => (x.A + 1) * (mn + 2 * n)
 | .alts _ r, n => r.A * (n + 1)
theorem decT_len (p : Nat) : (decT p).length ≤ 2 := by unfold decT digT; split <;> simp
theorem TR.len {s : ByteArray} {J : Job} {i j : Nat} {t : List UInt8} {ev : List (Nat × Nat × Nat)} (h : TR s J i j t ev) : J.ok s i j → t.length ≤ J.bnd (j - i) := by
 have hle : ∀ {x : Pat} (i j : Nat), Mt s x i j → i ≤ j := fun _ _ h => h.le
 induction h with
 | byte f i j => intro _; simp only [Job.bnd, Pat.A, hexT, List.length_append, List.length_cons, List.length_nil]; omega
 | grp k x i j t ev _ ih =>
  intro hm
  have := ih hm
  simp only [Job.bnd, Pat.A, digT, List.length_append, List.length_cons, List.length_nil, Nat.add_mul, Nat.mul_add] at this ⊢
  omega
 | nil i j => intro _; simp only [Job.bnd, Pat.A, List.length_cons, List.length_nil]; omega
 | lone x i j t ev _ ih =>
  intro hm
  obtain ⟨m, a, b⟩ := hm
  have b' : m = j := b
  subst b'
  have := ih a
  simp only [Job.bnd, Pat.A, Nat.add_mul, Nat.mul_add] at this ⊢
  omega
 | row x y r i j t ev _ ih =>
  intro hm
  have := ih hm
  simp only [Job.bnd, Pat.A, List.length_append, List.length_cons, List.length_nil, Nat.add_mul, Nat.mul_add] at this ⊢
  omega
 | kend i j => intro _; simp
 | kgo x r i j c t u ev fv hc _ _ ih1 ih2 =>
  intro hm
  obtain ⟨m, a, b⟩ := hm
  have hP := hc.hit ⟨m, a.le, b.le, a, b⟩
  have h1 := ih1 hP.1
  have h2 := ih2 hP.2
  have hic := hc.1
  have hcj := hc.2.1
  obtain ⟨p, hp⟩ : ∃ p, p = c - i := ⟨_, rfl⟩
  obtain ⟨q, hq⟩ : ∃ q, q = j - c := ⟨_, rfl⟩
  have hpq : j - i = p + q := by omega
  rw [hpq]
  simp only [Job.bnd] at h1 h2 ⊢
  rw [← hp] at h1
  rw [← hq] at h2
  simp only [Pat.A, List.length_append, List.length_cons, List.length_nil, Nat.add_mul, Nat.mul_add] at h1 h2 ⊢
  omega
 | rep mn mx x i j t ev _ ih =>
  intro hm
  have := ih hm
  simp only [Job.bnd] at this ⊢
  obtain ⟨n, hn⟩ : ∃ n, n = j - i := ⟨_, rfl⟩
  rw [← hn] at this ⊢
  have e1 : (x.A + 1) * (mn + 2 * n) ≤ (mn + 2) * (x.A + 1) * (n + 1) := by
   rw [Nat.mul_comm (mn + 2), Nat.mul_assoc]
   apply Nat.mul_le_mul_left
   have : mn * (n + 1) = mn * n + mn := by rw [Nat.mul_add]; omega
   rw [Nat.add_mul, this]
   omega
  simp only [Pat.A, List.length_append, List.length_cons, List.length_nil]
  rw [Nat.add_mul]
  omega
 | tend mn mx x i j hn => intro _; simp
 | tgo mn mx x i j c t u ev fv hg hc _ _ ih1 ih2 =>
  intro hm
  obtain ⟨hP, hdec⟩ := Tm.cut hle hm hg hc
  have h1 := ih1 hP.1
  have h2 := ih2 hP.2
  have hic := hc.1
  have hcj := hc.2.1
  obtain ⟨p, hp⟩ : ∃ p, p = c - i := ⟨_, rfl⟩
  obtain ⟨q, hq⟩ : ∃ q, q = j - c := ⟨_, rfl⟩
  have hpq : j - i = p + q := by omega
  rw [hpq] at hdec ⊢
  simp only [Job.bnd] at h1 h2 ⊢
  rw [← hp] at h1
  rw [← hq] at h2 hdec
  have key : x.A * (p + 1) + 1 + (x.A + 1) * (mn - 1 + 2 * q) ≤ (x.A + 1) * (mn + 2 * (p + q)) := by
   by_cases h0 : p = 0
   ·subst h0
    obtain ⟨m', rfl⟩ : ∃ m', mn = m' + 1 := ⟨mn - 1, by omega⟩
    have : (x.A + 1) * (m' + 1 + 2 * (0 + q)) = (x.A + 1) * (m' + 2 * q) + (x.A + 1) := by
     rw [show m' + 1 + 2 * (0 + q) = (m' + 2 * q) + 1 by omega, Nat.mul_add, Nat.mul_one]
    rw [this]
    simp only [Nat.add_sub_cancel, Nat.zero_add, Nat.mul_one]
    omega
   ·have e1 : (x.A + 1) * (mn - 1 + 2 * q) + (x.A + 1) * (2 * p) ≤ (x.A + 1) * (mn + 2 * (p + q)) := by
       rw [← Nat.mul_add]
       apply Nat.mul_le_mul_left
       omega
    have e2 : x.A * (p + 1) + 1 ≤ (x.A + 1) * (2 * p) := by
     have : x.A * (p + 1) ≤ x.A * (2 * p) := Nat.mul_le_mul_left _ (by omega)
     rw [Nat.add_mul]
     omega
    omega
  simp only [List.length_append, List.length_cons, List.length_nil]
  omega
 | wone x i j t ev _ ih =>
  intro hm
  have := ih hm
  simp only [Job.bnd, Pat.A, Nat.add_mul, Nat.mul_add] at this ⊢
  omega
 | wcons x r i j t ev _ ih => intro hm; exact ih hm
 | hit p x r i j t ev hm _ ih =>
  intro _
  have := ih hm
  have hd := decT_len p
  simp only [Job.bnd, Pat.A, List.length_append, List.length_cons, List.length_nil, Nat.add_mul, Nat.mul_add] at this ⊢
  omega
 | miss p x r i j t ev hn _ ih =>
  intro hm
  have := ih (hm.elim (fun h => absurd h hn) id)
  simp only [Job.bnd, Pat.A, Nat.add_mul, Nat.mul_add] at this ⊢
  omega
 | last p x i j t ev _ ih =>
  intro hm
  have := ih hm
  have hd := decT_len p
  simp only [Job.bnd, Pat.A, List.length_append, List.length_cons, List.length_nil, Nat.add_mul, Nat.mul_add] at this ⊢
  omega
def Pat.dep : Pat → Nat
 | .set _ => 0
 | .grp _ x => x.dep
 | .rep _ _ x => x.dep + 1
 | .pnil => 0
 | .pcons x r => max x.dep r.dep
 | .wone x => x.dep
 | .wcons x r => max x.dep r.dep
theorem Pat.A_pos (x : Pat) : 1 ≤ x.A := by cases x <;> simp only [Pat.A] <;> omega
theorem Pat.A_le {kd : Kd} : ∀ {x : Pat} {kd : Kd}, shp x kd → x.A ≤ 6 * x.sz * 17 ^ x.dep := by
 have up : ∀ {a d e : Nat}, d ≤ e → a * 17 ^ d ≤ a * 17 ^ e := fun h => Nat.mul_le_mul_left _ (Nat.pow_le_pow_right (by omega) h)
 have pos : ∀ d : Nat, 1 ≤ 17 ^ d := fun d => Nat.one_le_pow _ _ (by omega)
 have two : ∀ {x r : Pat} (n : Nat), n ≤ 6 → x.A ≤ 6 * x.sz * 17 ^ x.dep → r.A ≤ 6 * r.sz * 17 ^ r.dep → x.A + r.A + n ≤ 6 * (1 + x.sz + r.sz) * 17 ^ (max x.dep r.dep) := by
  intro x r n hn h1 h2
  have h1' := Nat.le_trans h1 (up (Nat.le_max_left x.dep r.dep))
  have h2' := Nat.le_trans h2 (up (Nat.le_max_right x.dep r.dep))
  have := pos (max x.dep r.dep)
  rw [Nat.mul_assoc, Nat.add_mul, Nat.add_mul]
  rw [Nat.mul_assoc] at h1' h2'
  omega
 intro x
 induction x with
 | set f => intro _ _; simp [Pat.A, Pat.sz, Pat.dep]
 | grp k x ih =>
  intro kd hs
  have hx : shp x .ways := by cases kd <;> first | exact hs | exact hs.elim
  have h1 := ih hx
  have h2 := pos x.dep
  simp only [Pat.A, Pat.sz, Pat.dep]
  rw [Nat.mul_assoc, Nat.add_mul]
  rw [Nat.mul_assoc] at h1
  omega
 | rep mn mx x ih =>
  intro kd hs
  have hx : mn ≤ 5 ∧ shp x .single := by cases kd <;> first | exact ⟨hs.1, hs.2.2.2⟩ | exact hs.elim
  have h1 := ih hx.2
  have h2 := x.A_pos
  have h3 : (mn + 2) * (x.A + 1) ≤ 7 * (x.A + 1) := Nat.mul_le_mul_right _ (by omega)
  have h4 : 6 * (1 + x.sz) * 17 ^ (x.dep + 1) = 17 * (6 * (1 + x.sz) * 17 ^ x.dep) := by rw [Nat.pow_succ]; ac_rfl
  have h5 : 6 * x.sz * 17 ^ x.dep ≤ 6 * (1 + x.sz) * 17 ^ x.dep := Nat.mul_le_mul_right _ (by omega)
  simp only [Pat.A, Pat.sz, Pat.dep]
  rw [h4]
  omega
 | pnil => intro _ _; simp [Pat.A, Pat.sz, Pat.dep]
 | pcons x r ih1 ih2 =>
  intro kd hs
  have hx : shp x .piece ∧ shp r .way := by cases kd <;> first | exact hs | exact hs.elim
  exact two 4 (by omega) (ih1 hx.1) (ih2 hx.2)
 | wone x ih =>
  intro kd hs
  have hx : shp x .way := by cases kd <;> first | exact hs | exact hs.elim
  have h1 := ih hx
  have h2 := pos x.dep
  simp only [Pat.A, Pat.sz, Pat.dep]
  rw [Nat.mul_assoc, Nat.add_mul]
  rw [Nat.mul_assoc] at h1
  omega
 | wcons x r ih1 ih2 =>
  intro kd hs
  have hx : shp x .way ∧ shp r .ways := by cases kd <;> first | exact hs | exact hs.elim
  exact two 6 (by omega) (ih1 hx.1) (ih2 hx.2)
end Go.Proofs.YtnfojonmohijpaaGreatDoor
namespace Go.Proofs.YtnfojonmohijpaaGreatDoor
theorem NumL.least {s : ByteArray} {least n : Nat} {any : Bool} {i : Nat} {q : R Nat} (h : NumL s least n any i q) : ∀ m j, q = .ok m j → least ≤ m := by
 induction h with
 | dig n x any i q hd hx h5 hl _ ih => exact ih
 | big => intro m j e; cases e
 | done n i hd hl => intro m j e; cases e; exact hl
 | short => intro m j e; cases e
theorem RepR.fair {s : ByteArray} {j k mn : Nat} {mx : Int} (h : RepR s j (.ok (Option.some (mn, mx)) k)) : mx < 0 ∨ (mn : Int) ≤ mx := by
 rcases h with ⟨a, b, c, d, e⟩ | ⟨a, e⟩ | ⟨a, e⟩ | ⟨a, e⟩ | ⟨a, q1, n, e⟩
 ·cases e
 ·cases e; omega
 ·cases e; omega
 ·cases e; omega
 ·cases q1 with
  | bad l => cases e
  | ok m l =>
   rcases e with ⟨a, b, e⟩ | ⟨a, b, q2, n', e⟩ | ⟨a, e⟩
   ·cases e; omega
   ·cases q2 with
    | bad x => cases e
    | ok y x =>
     have hx := n'.least y x rfl
     simp only [Rep3] at e
     by_cases h5 : at' s x = 125
     ·rw [if_pos h5] at e; cases e; omega
     ·rw [if_neg h5] at e; cases e
   ·by_cases h5 : at' s l = 125
    ·rw [if_pos h5] at e; cases e; omega
    ·rw [if_neg h5] at e; cases e
end Go.Proofs.YtnfojonmohijpaaGreatDoor
namespace Go.Proofs.YtnfojonmohijpaaGreatDoor
def depM : Kd → Nat
 | .single => 6
 | _ => 7
theorem G.fair {s : ByteArray} {k : Kd} {d g i : Nat} {q : R (Pat × Nat)} (h : G s k d g i q) : d ≤ 6 → g ≤ 9 → ∀ x g1 j, q = .ok (x, g1) j → g ≤ g1 ∧ g1 ≤ 9 ∧ x.fair g1 ∧ x.dep + d ≤ depM k := by
 induction h with
 | one d g i g1 j x _ e ih => intro hd hg x' g1' j' e'; cases e'; exact ih hd hg x g1 j rfl
 | more d g i g1 j x q _ e _ ih ih2 =>
  intro hd hg x' g1' j' e'
  cases q with
  | bad l => cases e'
  | ok y l =>
   obtain ⟨a1, a2, a3, a4⟩ := ih hd hg x g1 j rfl
   obtain ⟨b1, b2, b3, b4⟩ := ih2 hd a2 y.1 y.2 l rfl
   cases e'
   refine ⟨by omega, b2, ⟨a3.up b1, b3⟩, ?_⟩
   simp only [Pat.dep, depM] at a4 b4 ⊢
   omega
 | wbad => intro _ _ x' g1' j' e'; cases e'
 | nil d g i e => intro hd hg x' g1' j' e'; cases e'; exact ⟨Nat.le_refl _, hg, trivial, by simp only [Pat.dep, depM]; omega⟩
 | cons d g i g1 j x q e _ _ ih ih2 =>
  intro hd hg x' g1' j' e'
  cases q with
  | bad l => cases e'
  | ok y l =>
   obtain ⟨a1, a2, a3, a4⟩ := ih hd hg x g1 j rfl
   obtain ⟨b1, b2, b3, b4⟩ := ih2 hd a2 y.1 y.2 l rfl
   cases e'
   refine ⟨by omega, b2, ⟨a3.up b1, b3⟩, ?_⟩
   simp only [Pat.dep, depM] at a4 b4 ⊢
   omega
 | pbad => intro _ _ x' g1' j' e'; cases e'
 | rep d g i g1 j x q _ r ih =>
  intro hd hg x' g1' j' e'
  obtain ⟨a1, a2, a3, a4⟩ := ih hd hg x g1 j rfl
  cases q with
  | bad l => cases e'
  | ok o l =>
   cases o with
   | none => cases e'; exact ⟨a1, a2, a3, by simp only [withRep, depM] at a4 ⊢; omega⟩
   | some mm =>
    obtain ⟨mn, mx⟩ := mm
    cases e'
    exact ⟨a1, a2, ⟨r.fair, a3⟩, by simp only [withRep, Pat.dep, depM] at a4 ⊢; omega⟩
 | sbad => intro _ _ x' g1' j' e'; cases e'
 | deep => intro _ _ x' g1' j' e'; cases e'
 | grp d g i g1 j x e o _ c ih =>
  intro hd hg x' g1' j' e'
  cases e'
  obtain ⟨a1, a2, a3, a4⟩ := ih (by omega) (by omega) x g1 j rfl
  exact ⟨by omega, a2, ⟨by omega, a1, a3⟩, by simp only [Pat.dep, depM] at a4 ⊢; omega⟩
 | gopen => intro _ _ x' g1' j' e'; cases e'
 | gbad => intro _ _ x' g1' j' e'; cases e'
 | set d g i q e r =>
  intro hd hg x' g1' j' e'
  cases q with
  | bad l => cases e'
  | ok f l => cases e'; exact ⟨Nat.le_refl _, hg, trivial, by simp only [Pat.dep, depM]; omega⟩
 | dot d g i e => intro hd hg x' g1' j' e'; cases e'; exact ⟨Nat.le_refl _, hg, trivial, by simp only [Pat.dep, depM]; omega⟩
 | esc d g i e =>
  intro hd hg x' g1' j' e'
  cases hq : escS s 0 (i + 1) with
  | bad l => rw [hq] at e'; cases e'
  | ok f l => rw [hq] at e'; cases e'; exact ⟨Nat.le_refl _, hg, trivial, by simp only [Pat.dep, depM]; omega⟩
 | no => intro _ _ x' g1' j' e'; cases e'
 | lit d g i e => intro hd hg x' g1' j' e'; cases e'; exact ⟨Nat.le_refl _, hg, trivial, by simp only [Pat.dep, depM]; omega⟩
theorem tree_len {s : ByteArray} {x : Pat} {kd : Kd} {i j : Nat} {t : List UInt8} {ev : List (Nat × Nat × Nat)} (h : TR s (.node x) i j t ev) (hm : Mt s x i j) (hs : shp x kd) (hd : x.dep ≤ 7) (hz : x.sz ≤ 1000) (hj : j ≤ 100) : t.length ≤ 300000000000000 := by
 have h1 : t.length ≤ x.A * (j - i + 1) := h.len hm
 have h2 := Pat.A_le (kd := kd) hs
 have h3 : 17 ^ x.dep ≤ 17 ^ 7 := Nat.pow_le_pow_right (by omega) hd
 have h4 : 6 * x.sz * 17 ^ x.dep ≤ 6 * 1000 * 17 ^ 7 := Nat.mul_le_mul (by omega) h3
 have h5 : x.A * (j - i + 1) ≤ (6 * 1000 * 17 ^ 7) * 101 := Nat.mul_le_mul (Nat.le_trans h2 h4) (by omega)
 have h6 : (6 * 1000 * 17 ^ 7) * 101 ≤ 300000000000000 := by decide
 omega
end Go.Proofs.YtnfojonmohijpaaGreatDoor
namespace Go.Proofs.YtnfojonmohijpaaGreatDoor
open Go.RowKit
theorem ret_str {a b : ByteArray} (h : a = b) : Ending.returned (.string a) = .returned (.string b) := by rw [h]
theorem nmB_appT (a b : List UInt8) : nmB a ++ nmB b = nmB (a ++ b) := ByteArray.mk_append_mk a b
theorem nmB_cut (l : List UInt8) (a : Nat) (h : a < l.length) : (nmB l).extract a (a + 1) = nmB [l.getD a 0] := by
 apply ByteArray.ext
 apply Array.ext'
 rw [Lib.extract_data, Nat.add_sub_cancel_left, nmB_toList, nmB_toList, List.drop_eq_getElem_cons h, List.take_succ_cons, List.take_zero, List.getD_eq_getElem?_getD, List.getElem?_eq_getElem h]
 rfl
theorem hexes_eq (b : Nat) (hb : b ≤ 255) : (nmB hexs).extract (b / 16) (b / 16 + 1) ++ (nmB hexs).extract (b % 16) (b % 16 + 1) = nmB [hexs.getD (b / 16) 0, hexs.getD (b % 16) 0] := by
 rw [nmB_cut hexs (b / 16) (by show b / 16 < 16; omega), nmB_cut hexs (b % 16) (by show b % 16 < 16; omega), nmB_appT]
 rfl
set_option maxRecDepth 100000 in
set_option maxHeartbeats 1000000 in
theorem hexes_any (b : Nat) (hb : b ≤ 255) (w : World) :
    Calls Tryz.prog 140 #[.int .i64 b] w fun e w' => e = .returned (.string (nmB [hexs.getD (b / 16) 0, hexs.getD (b % 16) 0])) ∧ ∃ n, w' = w.drewN n := by
 have h0 : (0 : Int) ≤ (b : Int) := by omega
 have h1 : (b : Int) ≤ 255 := by omega
 have h2 : (0 : Int) ≤ (b : Int) / 16 := by omega
 have h3 : (b : Int) / 16 ≤ 15 := by omega
 have h4 : (0 : Int) ≤ (b : Int) % 16 := by omega
 have h5 : (b : Int) % 16 ≤ 15 := by omega
 go_enter Tryz.func140, Tryz.ntmps140
 go_wp2_with fail
 go_quiet (fail)
 go_wp2_with fail
 go_ret
 exact ⟨ret_str (hexes_eq b hb), _, rfl⟩
end Go.Proofs.YtnfojonmohijpaaGreatDoor
namespace Go.Proofs.YtnfojonmohijpaaGreatDoor
def evs : List Int → List (Nat × Nat × Nat) → List Int
 | l, [] => l
 | l, (n, i, j) :: ev => evs ((l.set (2 * n - 2) i).set (2 * n - 1) j) ev
theorem evs_app : ∀ (ev fv : List (Nat × Nat × Nat)) (l : List Int), evs l (ev ++ fv) = evs (evs l ev) fv
 | [], fv, l => rfl
 | (n, i, j) :: ev, fv, l => by rw [List.cons_append, evs, evs]; exact evs_app ev fv _
end Go.Proofs.YtnfojonmohijpaaGreatDoor
namespace Go.Proofs.YtnfojonmohijpaaGreatDoor
open Go.RowKit
def spV (l : List Int) : List Value := l.map fun x => .int .i64 x
theorem spV_set (l : List Int) (k : Nat) (x : Int) : (spV l).set k (.int .i64 x) = spV (l.set k x) := by
 simp [spV, List.map_set]
def OT (w : World) (b : Nat) (acc : List UInt8) (sp : Value) (keep : Bool) : Prop :=
 ∃ out, OB w b out acc.length sp keep ∧ out.size ≤ 20000 ∧ (keep = true → acc.length ≤ 20000 → out = nmB acc)
theorem OT.lt {w : World} {b : Nat} {acc : List UInt8} {sp : Value} {keep : Bool} (h : OT w b acc sp keep) : b < w.heap.size := by
 obtain ⟨out, h, _⟩ := h
 exact h.lt
theorem OT.keep' {w w' : World} {S : List Nat} {b : Nat} {acc : List UInt8} {sp : Value} {keep : Bool} (h : OT w b acc sp keep) (hk : Keeps S w w') (hb : b ∉ S) : OT w' b acc sp keep := by
 obtain ⟨out, h, h2⟩ := h
 exact ⟨out, h.keep' hk hb, h2⟩
structure TS (w : World) (b bp : Nat) (s : ByteArray) (p : PS) (nds : List Nd) (D : List Nat) (E : Value) (ob : Nat) (sp : Value) (keep : Bool) (g : Nat) (acc : List UInt8) (l : List Int) : Prop where
 tx : TX w b bp s p nds D E (ob :: sp.ownBlock.toList)
 ot : OT w ob acc sp keep
 row : w.ownsRow 0 3 1 sp (2 * g) (spV l)
 ne : sp.ownBlock ≠ some ob
variable {w w' : World} {b bp : Nat} {s : ByteArray} {p : PS} {nds : List Nd} {D : List Nat} {E : Value} {ob : Nat} {sp : Value} {keep : Bool} {g : Nat} {acc : List UInt8} {l : List Int}
theorem TS.len (h : TS w b bp s p nds D E ob sp keep g acc l) : l.length = 2 * g := by
 have := h.row.1
 simpa [spV] using this
theorem TS.zin (h : TS w b bp s p nds D E ob sp keep g acc l) : ∀ x, x ∈ ob :: sp.ownBlock.toList → x < w.heap.size := by
 intro x hx
 rcases List.mem_cons.1 hx with rfl | hx
 ·exact h.ot.lt
 ·exact (h.row.lt x (by simpa using hx)).2
theorem TS.ends (h : TS w b bp s p nds D E ob sp keep g acc l) (hk : Keeps D w w') (hx : TX w' b bp s p nds D E (ob :: sp.ownBlock.toList)) : TS w' b bp s p nds D E ob sp keep g acc l := by
 refine ⟨hx, h.ot.keep' hk fun hm => h.tx.dz ob hm (by simp), h.row.keep hk fun x hx hm => h.tx.dz x hm (by simp [hx]), h.ne⟩
theorem TS.new (h : TS w b bp s p nds D E ob sp keep g acc l) (hk : Keeps [] w w') : TS w' b bp s p nds D E ob sp keep g acc l :=
 h.ends (hk.mono (by simp)) (h.tx.keep hk (by simp))
theorem OT.said {w' : World} {b : Nat} {acc : List UInt8} {sp : Value} {keep : Bool} {out : ByteArray} {t : List UInt8} (h0 : out.size ≤ 20000) (h1 : keep = true → acc.length ≤ 20000 → out = nmB acc)
    (h : OB w' b (saidT out (nmB t) acc.length keep) (acc.length + (nmB t).size) sp keep) : OT w' b (acc ++ t) sp keep := by
 refine ⟨_, by rw [List.length_append, ← nmB_size t]; exact h, ?_, ?_⟩
 ·unfold saidT
  split
  ·rename_i hc
   rw [h1 hc.1 (by omega), nmB_appT, nmB_size, List.length_append, ← nmB_size t]
   exact hc.2
  ·exact h0
 ·intro hk hl
  rw [List.length_append] at hl
  unfold saidT
  rw [if_pos ⟨hk, by rw [nmB_size]; exact hl⟩, h1 hk (by omega), nmB_appT]
theorem tsay (h : TS w b bp s p nds D E ob sp keep g acc l) (t : List UInt8) (hl : acc.length + t.length ≤ 4611686018427387904) :
    Calls Tryz.prog 139 #[.pointer (some ⟨ob, 0, none⟩), .string (nmB t)] w fun e w' => e = .returned (.tuple #[]) ∧ TS w' b bp s p nds D E ob sp keep g (acc ++ t) l ∧ Keeps [ob] w w' := by
 obtain ⟨out, hO, h0, h1⟩ := h.ot
 refine (say_any ob out (nmB t) acc.length sp keep w hO (by rw [nmB_size]; exact hl) h0).mono ?_
 rintro e w2 ⟨rfl, hO2, hk⟩
 refine ⟨rfl, ⟨h.tx.keep hk (by intro x hx; simp at hx; exact Or.inl (by simp [hx])), OT.said h0 h1 hO2, h.row.keep hk ?_, h.ne⟩, hk⟩
 intro x hx hm
 simp only [List.mem_singleton] at hm
 subst hm
 exact h.ne hx
theorem TS.span (h : TS w b bp s p nds D E ob sp keep g acc l) {sb cap : Nat} (hsp : sp = .slice (some ⟨sb, 0, none⟩) (2 * g) cap) (k : Nat) (x : Int) : TS (w.setCell ⟨sb, k, none⟩ (.int .i64 x)) b bp s p nds D E ob sp keep g acc (l.set k x) ∧ Keeps [sb] w (w.setCell ⟨sb, k, none⟩ (.int .i64 x)) := by
 subst hsp
 have hk : Keeps [sb] w (w.setCell ⟨sb, k, none⟩ (.int .i64 x)) := (Keeps.refl [sb] w).setCell (p := ⟨sb, k, none⟩) (by simp) _
 have hne : sb ≠ ob := fun e => h.ne (by simp [Value.ownBlock, e])
 refine ⟨⟨h.tx.keep hk (by intro x hx; simp at hx; exact Or.inl (by simp [Value.ownBlock, hx])), h.ot.keep' hk (by simp; exact fun e => hne e.symm), ?_, h.ne⟩, hk⟩
 have := (World.ownsRow.stored h.row k (.int .i64 x)).1
 rw [spV_set] at this
 exact this
end Go.Proofs.YtnfojonmohijpaaGreatDoor
namespace Go.Proofs.YtnfojonmohijpaaGreatDoor
open Go.RowKit
theorem wrap_any {z : Int} (h0 : -1000000 ≤ z) (h1 : z ≤ 1000000) : IntKind.i64.wrap z = z := by
 have : IntKind.i64.wrap z = if 9223372036854775808 ≤ z % 18446744073709551616 then z % 18446744073709551616 - 18446744073709551616 else z % 18446744073709551616 := by simp [IntKind.wrap, IntKind.bits, IntKind.signed]
 rw [this]
 split <;> omega
def digs10 : List UInt8 := [48, 49, 50, 51, 52, 53, 54, 55, 56, 57]
theorem digs10_cut (n : Nat) (h : n ≤ 9) : (nmB digs10).extract n (n + 1) = nmB (digT n) := by
 rw [nmB_cut digs10 n (by show n < 10; omega)]
 match n, h with
 | 0, _ => rfl
 | 1, _ => rfl
 | 2, _ => rfl
 | 3, _ => rfl
 | 4, _ => rfl
 | 5, _ => rfl
 | 6, _ => rfl
 | 7, _ => rfl
 | 8, _ => rfl
 | 9, _ => rfl
set_option maxRecDepth 100000 in
set_option maxHeartbeats 1000000 in
theorem digits_small (n : Nat) (h : n ≤ 9) (w : World) : Calls Tryz.prog 111 #[.int .i64 n] w fun e w' => e = .returned (.string (nmB (digT n))) ∧ w' = w := by
 have h0 : (0 : Int) ≤ (n : Int) := by omega
 have h1 : (n : Int) < 10 := by omega
 have h2 : (n : Int) % 10 = (n : Int) := by omega
 have h3 : (n : Int).tmod 10 = (n : Int) := by rw [Int.tmod_eq_emod_of_nonneg h0]; exact h2
 have HC := digs10_cut n h
 go_enter Tryz.func111, Tryz.ntmps111
 go_wp2_with fail
 go_ret
 exact ⟨ret_str HC, rfl⟩
set_option maxRecDepth 100000 in
set_option maxHeartbeats 1000000 in
theorem digits_any (n : Nat) (h : n ≤ 99) (w : World) : Calls Tryz.prog 111 #[.int .i64 n] w fun e w' => e = .returned (.string (nmB (decT n))) ∧ w' = w := by
 by_cases h9 : n ≤ 9
 ·have : decT n = digT n := by unfold decT; rw [if_pos (by omega)]
  rw [this]
  exact digits_small n h9 w
 have h0 : (0 : Int) ≤ (n : Int) := by omega
 have h1 : ¬ (n : Int) < 10 := by omega
 have h99 : (n : Int) ≤ 99 := by omega
 have h2 : (0 : Int) ≤ (n : Int) % 10 := by omega
 have h3 : (n : Int) % 10 ≤ 9 := by omega
 have h4 : (0 : Int) ≤ (n : Int) / 10 := by omega
 have h5 : (n : Int) / 10 ≤ 9 := by omega
 have HD : Hid (decT n = digT (n / 10) ++ digT (n % 10)) := by show decT n = _; unfold decT; rw [if_neg (by omega)]
 have HC : Hid ((nmB digs10).extract (n % 10) (n % 10 + 1) = nmB (digT (n % 10))) := digs10_cut (n % 10) (by omega)
 have hlen : (nmB (digT (n / 10))).size ≤ 1 := Nat.le_refl 1
 have HL : Hid (n / 10 ≤ 9) := by show n / 10 ≤ 9; omega
 clear h9 h
 go_enter Tryz.func111, Tryz.ntmps111
 go_wp2_with (first | (go_at_call 111; refine (digits_small (n / 10) HL.out _).mono ?_; rintro e w' ⟨rfl, rfl⟩))
 go_ret
 exact ⟨ret_str (by rw [HD.out, ← nmB_appT, ← HC.out]; rfl), rfl⟩
variable {w : World} {b bp : Nat} {s : ByteArray} {p : PS} {nds : List Nd} {D : List Nat} {E : Value} {ob : Nat} {sp : Value} {keep : Bool} {g : Nat} {acc : List UInt8} {l : List Int}
def tsB (ob : Nat) (sp : Value) (D : List Nat) : List Nat := ob :: (sp.ownBlock.toList ++ D)
def TPo (w : World) (b bp : Nat) (s : ByteArray) (p : PS) (nds : List Nd) (D : List Nat) (E : Value) (ob : Nat) (sp : Value) (keep : Bool) (g : Nat) (acc : List UInt8) (l : List Int) (t : List UInt8) (ev : List (Nat × Nat × Nat)) (e : Ending) (w' : World) : Prop :=
 e = .returned (.tuple #[]) ∧ TS w' b bp s p nds D E ob sp keep g (acc ++ t) (evs l ev) ∧ Keeps (tsB ob sp D) w w'
def TreeOk (s : ByteArray) (nds : List Nd) (n : Nat) : Prop := ∀ (k : Nat), NK nds n k → ∀ (w : World) (b bp : Nat) (p : PS) (D : List Nat) (E : Value) (ob : Nat) (sp : Value) (keep : Bool) (g : Nat) (acc : List UInt8) (l : List Int) (i j : Nat) (t : List UInt8) (ev : List (Nat × Nat × Nat)),
 TS w b bp s p nds D E ob sp keep g acc l → TN s nds g (.node k) i j t ev → MN s nds (.node k) i j → j ≤ s.size → g ≤ 9 → acc.length + t.length ≤ 4611686018427387904 →
 Calls Tryz.prog 88 #[.pointer (some ⟨b, 0, none⟩), .int .i64 k, .int .i64 i, .int .i64 j, .pointer (some ⟨ob, 0, none⟩)] w (TPo w b bp s p nds D E ob sp keep g acc l t ev)
theorem KidsV.kv2 {v kv : Value} {kids : List Nat} (h : KidsV w (avoA bp (b :: (E.ownBlock.toList ++ (D ++ (ob :: sp.ownBlock.toList)))) v) kv kids) (hl : kids.length ≤ 1000) : KV w (tsB ob sp D) kv kids := by
 obtain ⟨ka, kc, rfl, hk⟩ := h.form
 refine ⟨ka, kc, rfl, by omega, fun t c ht => ?_⟩
 obtain ⟨hlt, hc⟩ := List.getElem?_eq_some_iff.1 ht
 obtain ⟨kb, rfl, hcell⟩ := hk t hlt
 refine ⟨kb, 0, rfl, (h.1.lt kb rfl).2, fun hD => h.2 kb rfl ?_, ?_⟩
 ·simp only [tsB, List.mem_cons, List.mem_append, Option.mem_toList] at hD
  simp only [avoA, List.mem_cons, List.mem_append, Option.mem_toList]
  rcases hD with hD | hD | hD <;> simp [hD]
 ·rw [Nat.zero_add, hcell, hc]
theorem KidsV.cap {av : List Nat} {kv : Value} {kids : List Nat} (h : KidsV w av kv kids) : ∃ ka kc, kv = .slice ka kids.length kc ∧ kids.length ≤ kc := by
 rcases h.1.2 with ⟨rfl, e⟩ | ⟨g, cap, cur, rfl, _, _, hc, _⟩
 ·exact ⟨none, 0, by rw [e], by omega⟩
 ·exact ⟨_, cap, rfl, hc⟩
theorem cells6 {q : Nat} {a b c d e f : Value} (h : w.heap[q]? = some (.cells #[a, b, c, d, e, f] 157 (0, 0))) : w.cell? ⟨q, 0, none⟩ = some a ∧ w.cell? ⟨q, 1, none⟩ = some b ∧ w.cell? ⟨q, 2, none⟩ = some c ∧ w.cell? ⟨q, 3, none⟩ = some d ∧ w.cell? ⟨q, 4, none⟩ = some e ∧ w.cell? ⟨q, 5, none⟩ = some f := by
 refine ⟨?_, ?_, ?_, ?_, ?_, ?_⟩ <;> (rw [Lib.cell_of_heap h]; rfl)
theorem KV.less {D D' : List Nat} {lv : Value} {kids : List Nat} (h : KV w D lv kids) (hs : ∀ x, x ∈ D' → x ∈ D) : KV w D' lv kids := by
 obtain ⟨ad, cap, e, hl, hc⟩ := h
 refine ⟨ad, cap, e, hl, fun t c ht => ?_⟩
 obtain ⟨g, off, h1, h2, h3, h4⟩ := hc t c ht
 exact ⟨g, off, h1, h2, fun hm => h3 (hs g hm), h4⟩
theorem tsB_D {x : Nat} (h : x ∈ D) : x ∈ tsB ob sp D := by simp [tsB, h]
theorem tsB_o {x : Nat} (h : x ∈ [ob]) : x ∈ tsB ob sp D := by simp at h; simp [tsB, h]
theorem KV.cell {S : List Nat} {y off n cap m c : Nat} {kids : List Nat} (h : KV w S (.slice (some ⟨y, off, none⟩) n cap) kids) (hc : kids[m]? = some c) : w.cell? ⟨y, off + m, none⟩ = some (.int .i64 c) := by
 obtain ⟨ad, cp, e, hl, hcs⟩ := h
 simp only [Value.slice.injEq] at e
 obtain ⟨rfl, _, rfl⟩ := e
 obtain ⟨g', off', e1, _, _, h4⟩ := hcs m c hc
 simp only [Option.some.injEq, Addr.mk.injEq, and_true] at e1
 obtain ⟨rfl, rfl⟩ := e1
 exact h4
theorem KV.cut {S : List Nat} {y off cap m : Nat} {kids : List Nat} (h : KV w S (.slice (some ⟨y, off, none⟩) kids.length cap) kids) (hm : m ≤ kids.length) (hcap : kids.length ≤ cap) : KV w S (.slice (if cap = m then some ⟨y, off, none⟩ else some ⟨y, off + m, none⟩) (kids.length - m) (cap - m)) (kids.drop m) := by
 obtain ⟨ad, cp, e, hl, hc⟩ := h
 simp only [Value.slice.injEq] at e
 obtain ⟨rfl, _, rfl⟩ := e
 refine ⟨_, _, by rw [List.length_drop], by rw [List.length_drop]; omega, fun t c ht => ?_⟩
 rw [List.getElem?_drop] at ht
 have hlt := (List.getElem?_eq_some_iff.1 ht).1
 rw [if_neg (by omega)]
 obtain ⟨g', off', h1, h2, h3, h4⟩ := hc (m + t) c ht
 simp only [Option.some.injEq, Addr.mk.injEq, and_true] at h1
 obtain ⟨rfl, rfl⟩ := h1
 exact ⟨y, off + m, rfl, h2, h3, by rw [Nat.add_assoc]; exact h4⟩
end Go.Proofs.YtnfojonmohijpaaGreatDoor
namespace Go.Proofs.YtnfojonmohijpaaGreatDoor
open Go.RowKit
theorem cat98 (l : List UInt8) : (⟨#[98]⟩ : ByteArray) ++ nmB l = nmB ([98] ++ l) := nmB_append [98] l
theorem cat40g (l : List UInt8) : (⟨#[40, 103]⟩ : ByteArray) ++ nmB l = nmB ([40, 103] ++ l) := nmB_append [40, 103] l
theorem cat40a (l : List UInt8) : (⟨#[40, 97]⟩ : ByteArray) ++ nmB l = nmB ([40, 97] ++ l) := nmB_append [40, 97] l
end Go.Proofs.YtnfojonmohijpaaGreatDoor
