/-
  DERIVED. Plain mathematics: what the reference's nodes match, and that it is what the pattern matches that they stand for. Nothing of the program stands here.
-/
import Derived.Test.YtnfojonmohijpaaGreatDoorJSG
import Derived.Test.YtnfojonmohijpaaGreatDoorJRM
import Derived.Test.YtnfojonmohijpaaGreatDoorJMA
set_option linter.unusedSimpArgs false
set_option linter.unusedVariables false
namespace Go.Proofs.YtnfojonmohijpaaGreatDoor
inductive JN where
  | node (k : Nat)
  | row (l : List Nat)
  | it (c n : Nat)
inductive MN (s : ByteArray) (nds : List Nd) : JN → Nat → Nat → Prop
  | byte (k : Nat) (nd : Nd) (i : Nat) : nds[k]? = some nd → nd.kind = 98 → i < s.size → nd.f (at' s i).toNat = true → MN s nds (.node k) i (i + 1)
  | grp (k : Nat) (nd : Nd) (c i j : Nat) : nds[k]? = some nd → nd.kind = 103 → nd.kids = [c] → MN s nds (.node c) i j → MN s nds (.node k) i j
  | alt (k : Nat) (nd : Nd) (c i j : Nat) : nds[k]? = some nd → nd.kind = 111 → c ∈ nd.kids → MN s nds (.node c) i j → MN s nds (.node k) i j
  | way (k : Nat) (nd : Nd) (i j : Nat) : nds[k]? = some nd → nd.kind = 119 → MN s nds (.row nd.kids) i j → MN s nds (.node k) i j
  | rep (k : Nat) (nd : Nd) (c n i j : Nat) : nds[k]? = some nd → nd.kind = 114 → nd.kids = [c] → nd.mn ≤ n → (nd.mx < 0 ∨ (n : Int) ≤ nd.mx) → MN s nds (.it c n) i j → MN s nds (.node k) i j
  | rnil (i : Nat) : MN s nds (.row []) i i
  | rcons (c : Nat) (l : List Nat) (i m j : Nat) : MN s nds (.node c) i m → MN s nds (.row l) m j → MN s nds (.row (c :: l)) i j
  | izero (c i : Nat) : MN s nds (.it c 0) i i
  | isucc (c n i m j : Nat) : MN s nds (.node c) i m → MN s nds (.it c n) m j → MN s nds (.it c (n + 1)) i j
theorem MN.row_nil {s : ByteArray} {nds : List Nd} {i j : Nat} : MN s nds (.row []) i j ↔ i = j :=
  ⟨fun h => by cases h; rfl, fun h => by cases h; exact .rnil i⟩
theorem MN.row_cons {s : ByteArray} {nds : List Nd} {c : Nat} {l : List Nat} {i j : Nat} : MN s nds (.row (c :: l)) i j ↔ ∃ m, MN s nds (.node c) i m ∧ MN s nds (.row l) m j :=
  ⟨fun h => by cases h with | rcons _ _ _ m _ a b => exact ⟨m, a, b⟩, fun ⟨m, a, b⟩ => .rcons c l i m j a b⟩
theorem MN.row_one {s : ByteArray} {nds : List Nd} {c : Nat} {i j : Nat} : MN s nds (.row [c]) i j ↔ MN s nds (.node c) i j := by
  rw [MN.row_cons]
  constructor
  · rintro ⟨m, a, b⟩
    rw [MN.row_nil] at b
    subst b
    exact a
  · intro h
    exact ⟨j, h, MN.row_nil.2 rfl⟩
theorem MN.it_iff {s : ByteArray} {nds : List Nd} {c : Nat} {R : Nat → Nat → Prop} (h : ∀ i j, R i j ↔ MN s nds (.node c) i j) : ∀ n i j, It R n i j ↔ MN s nds (.it c n) i j
  | 0, i, j => ⟨fun e => by cases e; exact .izero c i, fun e => by cases e; rfl⟩
  | n + 1, i, j => by
    constructor
    · rintro ⟨m, a, b⟩
      exact .isucc c n i m j ((h i m).1 a) ((MN.it_iff h n m j).1 b)
    · intro e
      cases e with
      | isucc _ _ _ m _ a b => exact ⟨m, (h i m).2 a, (MN.it_iff h n m j).2 b⟩
def ML (s : ByteArray) (nds : List Nd) (kd : Kd) (l : List Nat) (i j : Nat) : Prop :=
  match kd with
  | .ways => ∃ c, c ∈ l ∧ MN s nds (.node c) i j
  | _ => MN s nds (.row l) i j
theorem MN.byte_iff {s : ByteArray} {nds : List Nd} {k : Nat} {nd : Nd} (e : nds[k]? = some nd) (hk : nd.kind = 98) {i j : Nat} : MN s nds (.node k) i j ↔ i < s.size ∧ nd.f (at' s i).toNat = true ∧ j = i + 1 := by
  constructor
  · intro h
    cases h with
    | byte _ nd' _ e' k' a b => cases e.symm.trans e'; exact ⟨a, b, rfl⟩
    | grp _ nd' _ _ _ e' k' => cases e.symm.trans e'; omega
    | alt _ nd' _ _ _ e' k' => cases e.symm.trans e'; omega
    | way _ nd' _ _ e' k' => cases e.symm.trans e'; omega
    | rep _ nd' _ _ _ _ e' k' => cases e.symm.trans e'; omega
  · rintro ⟨a, b, rfl⟩
    exact .byte k nd i e hk a b
theorem MN.grp_iff {s : ByteArray} {nds : List Nd} {k c : Nat} {nd : Nd} (e : nds[k]? = some nd) (hk : nd.kind = 103) (hc : nd.kids = [c]) {i j : Nat} : MN s nds (.node k) i j ↔ MN s nds (.node c) i j := by
  constructor
  · intro h
    cases h with
    | byte _ nd' _ e' k' a b => cases e.symm.trans e'; omega
    | grp _ nd' c' _ _ e' k' hc' h' => cases e.symm.trans e'; rw [hc] at hc'; cases hc'; exact h'
    | alt _ nd' _ _ _ e' k' => cases e.symm.trans e'; omega
    | way _ nd' _ _ e' k' => cases e.symm.trans e'; omega
    | rep _ nd' _ _ _ _ e' k' => cases e.symm.trans e'; omega
  · exact .grp k nd c i j e hk hc
theorem MN.alt_iff {s : ByteArray} {nds : List Nd} {k : Nat} {nd : Nd} (e : nds[k]? = some nd) (hk : nd.kind = 111) {i j : Nat} : MN s nds (.node k) i j ↔ ∃ c, c ∈ nd.kids ∧ MN s nds (.node c) i j := by
  constructor
  · intro h
    cases h with
    | byte _ nd' _ e' k' a b => cases e.symm.trans e'; omega
    | grp _ nd' _ _ _ e' k' => cases e.symm.trans e'; omega
    | alt _ nd' c _ _ e' k' hc h' => cases e.symm.trans e'; exact ⟨c, hc, h'⟩
    | way _ nd' _ _ e' k' => cases e.symm.trans e'; omega
    | rep _ nd' _ _ _ _ e' k' => cases e.symm.trans e'; omega
  · rintro ⟨c, hc, h⟩
    exact .alt k nd c i j e hk hc h
theorem MN.way_iff {s : ByteArray} {nds : List Nd} {k : Nat} {nd : Nd} (e : nds[k]? = some nd) (hk : nd.kind = 119) {i j : Nat} : MN s nds (.node k) i j ↔ MN s nds (.row nd.kids) i j := by
  constructor
  · intro h
    cases h with
    | byte _ nd' _ e' k' a b => cases e.symm.trans e'; omega
    | grp _ nd' _ _ _ e' k' => cases e.symm.trans e'; omega
    | alt _ nd' _ _ _ e' k' => cases e.symm.trans e'; omega
    | way _ nd' _ _ e' k' h' => cases e.symm.trans e'; exact h'
    | rep _ nd' _ _ _ _ e' k' => cases e.symm.trans e'; omega
  · exact .way k nd i j e hk
theorem MN.rep_iff {s : ByteArray} {nds : List Nd} {k c : Nat} {nd : Nd} (e : nds[k]? = some nd) (hk : nd.kind = 114) (hc : nd.kids = [c]) {i j : Nat} : MN s nds (.node k) i j ↔ ∃ n, nd.mn ≤ n ∧ (nd.mx < 0 ∨ (n : Int) ≤ nd.mx) ∧ MN s nds (.it c n) i j := by
  constructor
  · intro h
    cases h with
    | byte _ nd' _ e' k' a b => cases e.symm.trans e'; omega
    | grp _ nd' _ _ _ e' k' => cases e.symm.trans e'; omega
    | alt _ nd' _ _ _ e' k' => cases e.symm.trans e'; omega
    | way _ nd' _ _ e' k' => cases e.symm.trans e'; omega
    | rep _ nd' c' n _ _ e' k' hc' a b h' => cases e.symm.trans e'; rw [hc] at hc'; cases hc'; exact ⟨n, a, b, h'⟩
  · rintro ⟨n, a, b, h⟩
    exact .rep k nd c n i j e hk hc a b h
theorem ListN.way_iff {s : ByteArray} {nds : List Nd} {l : List Nat} {c : Nat} (h : ListN nds 119 l c) {i j : Nat} : MN s nds (.row l) i j ↔ MN s nds (.node c) i j := by
  rcases h with rfl | ⟨_, nd, e, hk, rfl⟩
  · exact MN.row_one
  · exact (MN.way_iff e hk).symm
theorem ListN.alt_iff {s : ByteArray} {nds : List Nd} {l : List Nat} {c : Nat} (h : ListN nds 111 l c) {i j : Nat} : (∃ d, d ∈ l ∧ MN s nds (.node d) i j) ↔ MN s nds (.node c) i j := by
  rcases h with rfl | ⟨_, nd, e, hk, rfl⟩
  · simp
  · exact (MN.alt_iff e hk).symm
theorem at'_nat {s : ByteArray} {i : Nat} (h : i < s.size) : (at' s i).toNat < 256 := by
  have h1 := (at'_bd s i).2
  have h2 := at'_lt h
  omega
theorem rep_Mt {s : ByteArray} {nds : List Nd} : ∀ {x : Pat} {kd : Kd}, shp x kd → ∀ {l : List Nat}, rep nds x l → ∀ {i j : Nat}, Mt s x i j ↔ ML s nds kd l i j := by
  intro x
  induction x with
  | set f =>
    intro kd hs l h i j
    obtain ⟨k, nd, rfl, e, hk, _, hf⟩ := h
    have : Mt s (.set f) i j ↔ MN s nds (.row [k]) i j := by
      rw [MN.row_one, MN.byte_iff e hk]
      show i < s.size ∧ f (at' s i).toNat = true ∧ j = i + 1 ↔ _
      constructor
      · rintro ⟨a, b, c⟩; exact ⟨a, by rw [hf _ (at'_nat a)]; exact b, c⟩
      · rintro ⟨a, b, c⟩; exact ⟨a, by rw [← hf _ (at'_nat a)]; exact b, c⟩
    cases kd with
    | ways => exact hs.elim
    | way => exact hs.elim
    | piece => exact this
    | single => exact this
  | grp m x ih =>
    intro kd hs l h i j
    obtain ⟨k, nd, c, lw, rfl, e, hk, _, hc, hr, hl⟩ := h
    have : shp x .ways → (Mt s (.grp m x) i j ↔ MN s nds (.row [k]) i j) := fun hw => by
      rw [MN.row_one, MN.grp_iff e hk hc, ← hl.alt_iff]
      exact ih hw hr
    cases kd with
    | ways => exact hs.elim
    | way => exact hs.elim
    | piece => exact this hs
    | single => exact this hs
  | rep mn mx x ih =>
    intro kd hs l h i j
    obtain ⟨k, nd, c, rfl, e, hk, rfl, rfl, hc, hr⟩ := h
    have : shp x .single → (Mt s (.rep nd.mn nd.mx x) i j ↔ MN s nds (.row [k]) i j) := fun hw => by
      rw [MN.row_one, MN.rep_iff e hk hc]
      have h1 : ∀ i j, Mt s x i j ↔ MN s nds (.node c) i j := fun i j => by rw [← MN.row_one]; exact ih hw hr
      constructor
      · rintro ⟨n, a, b, h⟩; exact ⟨n, a, b, (MN.it_iff h1 n i j).1 h⟩
      · rintro ⟨n, a, b, h⟩; exact ⟨n, a, b, (MN.it_iff h1 n i j).2 h⟩
    cases kd with
    | ways => exact hs.elim
    | way => exact hs.elim
    | piece => exact this hs.2.2.2
    | single => exact hs.elim
  | pnil =>
    intro kd hs l h i j
    cases h
    cases kd with
    | way => exact MN.row_nil.symm
    | ways => exact hs.elim
    | piece => exact hs.elim
    | single => exact hs.elim
  | pcons x r ih1 ih2 =>
    intro kd hs l h i j
    obtain ⟨k, l', rfl, h1, h2⟩ := h
    cases kd with
    | way =>
      show (∃ m, Mt s x i m ∧ Mt s r m j) ↔ MN s nds (.row (k :: l')) i j
      rw [MN.row_cons]
      constructor
      · rintro ⟨m, a, b⟩; exact ⟨m, MN.row_one.1 ((ih1 hs.1 h1).1 a), (ih2 hs.2 h2).1 b⟩
      · rintro ⟨m, a, b⟩; exact ⟨m, (ih1 hs.1 h1).2 (MN.row_one.2 a), (ih2 hs.2 h2).2 b⟩
    | ways => exact hs.elim
    | piece => exact hs.elim
    | single => exact hs.elim
  | wone x ih =>
    intro kd hs l h i j
    obtain ⟨c, lp, rfl, hr, hl⟩ := h
    cases kd with
    | ways =>
      show Mt s x i j ↔ ∃ d, d ∈ [c] ∧ MN s nds (.node d) i j
      rw [show Mt s x i j ↔ MN s nds (.row lp) i j from ih hs hr, hl.way_iff]
      simp
    | way => exact hs.elim
    | piece => exact hs.elim
    | single => exact hs.elim
  | wcons x r ih1 ih2 =>
    intro kd hs l h i j
    obtain ⟨c, lp, l', rfl, ⟨hr, hl⟩, h2⟩ := h
    cases kd with
    | ways =>
      show (Mt s x i j ∨ Mt s r i j) ↔ ∃ d, d ∈ c :: l' ∧ MN s nds (.node d) i j
      rw [show Mt s x i j ↔ MN s nds (.row lp) i j from ih1 hs.1 hr, hl.way_iff, show Mt s r i j ↔ ∃ d, d ∈ l' ∧ MN s nds (.node d) i j from ih2 hs.2 h2]
      constructor
      · rintro (h | ⟨d, a, b⟩)
        · exact ⟨c, by simp, h⟩
        · exact ⟨d, by simp [a], b⟩
      · rintro ⟨d, a, b⟩
        rcases List.mem_cons.1 a with rfl | a
        · exact Or.inl b
        · exact Or.inr ⟨d, a, b⟩
    | way => exact hs.elim
    | piece => exact hs.elim
    | single => exact hs.elim
end Go.Proofs.YtnfojonmohijpaaGreatDoor
namespace Go.Proofs.YtnfojonmohijpaaGreatDoor
def Pat.fair (g : Nat) : Pat → Prop
  | .set _ => True
  | .grp k x => 0 < k ∧ k ≤ g ∧ x.fair g
  | .rep mn mx x => (mx < 0 ∨ (mn : Int) ≤ mx) ∧ x.fair g
  | .pnil => True
  | .pcons x r => x.fair g ∧ r.fair g
  | .wone x => x.fair g
  | .wcons x r => x.fair g ∧ r.fair g
theorem Pat.fair.up {g h : Nat} (hg : g ≤ h) : ∀ {x : Pat}, x.fair g → x.fair h
  | .set _, _ => trivial
  | .grp _ x, hx => ⟨hx.1, Nat.le_trans hx.2.1 hg, Pat.fair.up hg (x := x) hx.2.2⟩
  | .rep _ _ x, hx => ⟨hx.1, Pat.fair.up hg (x := x) hx.2⟩
  | .pnil, _ => trivial
  | .pcons x r, hx => ⟨Pat.fair.up hg (x := x) hx.1, Pat.fair.up hg (x := r) hx.2⟩
  | .wone x, hx => Pat.fair.up hg (x := x) hx
  | .wcons x r, hx => ⟨Pat.fair.up hg (x := x) hx.1, Pat.fair.up hg (x := r) hx.2⟩
def Pat.wn : Pat → Nat
  | .wcons _ r => r.wn + 1
  | _ => 1
def Pat.thn : Pat → Prop
  | .set _ => True
  | .grp _ x => x.thn
  | .rep _ _ x => x.thn
  | .pnil => True
  | .pcons x r => x.thn ∧ r.thn
  | .wone x => x.thn
  | .wcons x r => r.wn ≤ 98 ∧ x.thn ∧ r.thn
def NK (nds : List Nd) (n k : Nat) : Prop := ∃ (kd : Kd) (x : Pat), repK nds kd x k ∧ shp x kd ∧ x.sz < n ∧ x.fair 9 ∧ x.thn
theorem NK.up {nds : List Nd} {n m k : Nat} (h : NK nds n k) (hm : n ≤ m) : NK nds m k := by
  obtain ⟨kd, x, a, b, c, d⟩ := h
  exact ⟨kd, x, a, b, by omega, d⟩
theorem way_len {nds : List Nd} : ∀ {x : Pat} {l : List Nat}, rep nds x l → shp x .way → l.length ≤ x.sz
  | .pnil, l, h, _ => by cases h; simp
  | .pcons x r, l, h, hs => by
    obtain ⟨k, l', rfl, h1, h2⟩ := h
    have := way_len h2 hs.2
    simp only [Pat.sz, List.length_cons]
    omega
  | .set _, _, _, hs => hs.elim
  | .grp _ _, _, _, hs => hs.elim
  | .rep _ _ _, _, _, hs => hs.elim
  | .wone _, _, _, hs => hs.elim
  | .wcons _ _, _, _, hs => hs.elim
theorem ways_len {nds : List Nd} : ∀ {x : Pat} {l : List Nat}, rep nds x l → shp x .ways → l.length ≤ x.sz ∧ l.length = x.wn
  | .wone x, l, h, hs => by
    obtain ⟨c', lp, rfl, hr, hl⟩ := h
    refine ⟨?_, rfl⟩
    simp only [Pat.sz, List.length_cons, List.length_nil]
    omega
  | .wcons x r, l, h, hs => by
    obtain ⟨c', lp, l', rfl, ⟨hr, hl⟩, h2⟩ := h
    have h3 := ways_len h2 hs.2
    have h4 : (Pat.wcons x r).wn = r.wn + 1 := rfl
    rw [h4]
    simp only [Pat.sz, List.length_cons]
    omega
  | .pnil, _, _, hs => hs.elim
  | .pcons _ _, _, _, hs => hs.elim
  | .set _, _, _, hs => hs.elim
  | .grp _ _, _, _, hs => hs.elim
  | .rep _ _ _, _, _, hs => hs.elim
def Sub (nds : List Nd) (n : Nat) (nd : Nd) : Prop :=
  (nd.kind = 98 ∧ nd.kids = []) ∨ (nd.kind = 103 ∧ ∃ c, nd.kids = [c] ∧ NK nds n c) ∨ (nd.kind = 114 ∧ nd.mn ≤ 5 ∧ -1 ≤ nd.mx ∧ (nd.mx ≤ 5 ∧ (nd.mx < 0 ∨ (nd.mn : Int) ≤ nd.mx)) ∧ ∃ c, nd.kids = [c] ∧ NK nds n c) ∨
  ((nd.kind = 119 ∨ (nd.kind = 111 ∧ nd.kids.length ≤ 99)) ∧ nd.kids.length ≤ n ∧ ∀ c, c ∈ nd.kids → NK nds n c)
theorem Sub.up {nds : List Nd} {n m : Nat} {nd : Nd} (h : Sub nds n nd) (hm : n ≤ m) : Sub nds m nd := by
  rcases h with h | ⟨a, c, b, d⟩ | ⟨a, e1, e2, e3, c, b, d⟩ | ⟨a, l, b⟩
  · exact Or.inl h
  · exact Or.inr (Or.inl ⟨a, c, b, d.up hm⟩)
  · exact Or.inr (Or.inr (Or.inl ⟨a, e1, e2, e3, c, b, d.up hm⟩))
  · exact Or.inr (Or.inr (Or.inr ⟨a, Nat.le_trans l hm, fun c hc => (b c hc).up hm⟩))
theorem kids_way {nds : List Nd} : ∀ {x : Pat} {l : List Nat}, rep nds x l → shp x .way → x.fair 9 → x.thn → ∀ c, c ∈ l → NK nds x.sz c
  | .pnil, l, h, _, _, _, c, hc => by cases h; cases hc
  | .pcons x r, l, h, hs, hf, ht, c, hc => by
    obtain ⟨k, l', rfl, h1, h2⟩ := h
    rcases List.mem_cons.1 hc with rfl | hc
    · exact ⟨.piece, x, h1, hs.1, by simp only [Pat.sz]; omega, hf.1, ht.1⟩
    · exact (kids_way h2 hs.2 hf.2 ht.2 c hc).up (by simp only [Pat.sz]; omega)
  | .set _, _, _, hs, _, _, _, _ => hs.elim
  | .grp _ _, _, _, hs, _, _, _, _ => hs.elim
  | .rep _ _ _, _, _, hs, _, _, _, _ => hs.elim
  | .wone _, _, _, hs, _, _, _, _ => hs.elim
  | .wcons _ _, _, _, hs, _, _, _, _ => hs.elim
theorem kids_ways {nds : List Nd} : ∀ {x : Pat} {l : List Nat}, rep nds x l → shp x .ways → x.fair 9 → x.thn → ∀ c, c ∈ l → NK nds x.sz c
  | .wone x, l, h, hs, hf, ht, c, hc => by
    obtain ⟨c', lp, rfl, hr, hl⟩ := h
    simp only [List.mem_singleton] at hc
    subst hc
    exact ⟨.way, x, ⟨lp, hr, hl⟩, hs, by simp only [Pat.sz]; omega, hf, ht⟩
  | .wcons x r, l, h, hs, hf, ht, c, hc => by
    obtain ⟨c', lp, l', rfl, ⟨hr, hl⟩, h2⟩ := h
    rcases List.mem_cons.1 hc with rfl | hc
    · exact ⟨.way, x, ⟨lp, hr, hl⟩, hs.1, by simp only [Pat.sz]; omega, hf.1, ht.2.1⟩
    · exact (kids_ways h2 hs.2 hf.2 ht.2.2 c hc).up (by simp only [Pat.sz]; omega)
  | .pnil, _, _, hs, _, _, _, _ => hs.elim
  | .pcons _ _, _, _, hs, _, _, _, _ => hs.elim
  | .set _, _, _, hs, _, _, _, _ => hs.elim
  | .grp _ _, _, _, hs, _, _, _, _ => hs.elim
  | .rep _ _ _, _, _, hs, _, _, _, _ => hs.elim
theorem NK.cases {nds : List Nd} : ∀ (n : Nat) {kd : Kd} {x : Pat} {k : Nat}, repK nds kd x k → shp x kd → x.sz ≤ n → x.fair 9 → x.thn → ∃ nd, nds[k]? = some nd ∧ Sub nds x.sz nd := by
  intro n
  induction n with
  | zero => intro kd x k _ _ hn _ _; exact absurd hn (by cases x <;> simp [Pat.sz])
  | succ n ih =>
    intro kd x k h hs hn hf ht
    have hone : (kd = .piece ∨ kd = .single) → rep nds x [k] → ∃ nd, nds[k]? = some nd ∧ Sub nds x.sz nd := by
      intro hkd hr
      cases x with
      | set f =>
        obtain ⟨k', nd, hk', e, hk, h0, _⟩ := hr
        simp only [List.cons.injEq, and_true] at hk'
        subst hk'
        exact ⟨nd, e, Or.inl ⟨hk, h0⟩⟩
      | grp m y =>
        obtain ⟨k', nd, c, lw, hk', e, hk, _, hc, hr, hl⟩ := hr
        simp only [List.cons.injEq, and_true] at hk'
        subst hk'
        have hy : shp y .ways := by rcases hkd with rfl | rfl <;> exact hs
        exact ⟨nd, e, Or.inr (Or.inl ⟨hk, c, hc, .ways, y, ⟨lw, hr, hl⟩, hy, by simp only [Pat.sz]; omega, hf.2.2, ht⟩)⟩
      | rep mn mx y =>
        obtain ⟨k', nd, c, hk', e, hk, rfl, rfl, hc, hr⟩ := hr
        simp only [List.cons.injEq, and_true] at hk'
        subst hk'
        rcases hkd with rfl | rfl
        · exact ⟨nd, e, Or.inr (Or.inr (Or.inl ⟨hk, hs.1, hs.2.1, ⟨hs.2.2.1, hf.1⟩, c, hc, .single, y, hr, hs.2.2.2, by simp only [Pat.sz]; omega, hf.2, ht⟩))⟩
        · exact hs.elim
      | pnil => rcases hkd with rfl | rfl <;> exact hs.elim
      | pcons _ _ => rcases hkd with rfl | rfl <;> exact hs.elim
      | wone _ => rcases hkd with rfl | rfl <;> exact hs.elim
      | wcons _ _ => rcases hkd with rfl | rfl <;> exact hs.elim
    cases kd with
    | single => exact hone (Or.inr rfl) h
    | piece => exact hone (Or.inl rfl) h
    | way =>
      obtain ⟨lp, hr, hl⟩ := h
      rcases hl with rfl | ⟨_, nd, e, hk, rfl⟩
      · cases x with
        | pcons y r =>
          obtain ⟨k', l', e, h1, h2⟩ := hr
          simp only [List.cons.injEq] at e
          obtain ⟨rfl, rfl⟩ := e
          have hy : y.sz ≤ n := by simp only [Pat.sz] at hn; omega
          obtain ⟨nd, a, b⟩ := ih (kd := .piece) h1 hs.1 hy hf.1 ht.1
          exact ⟨nd, a, b.up (by simp only [Pat.sz]; omega)⟩
        | pnil => cases hr
        | _ => exact hs.elim
      · exact ⟨nd, e, Or.inr (Or.inr (Or.inr ⟨Or.inl hk, way_len hr hs, kids_way hr hs hf ht⟩))⟩
    | ways =>
      obtain ⟨lw, hr, hl⟩ := h
      rcases hl with rfl | ⟨_, nd, e, hk, rfl⟩
      · cases x with
        | wone y =>
          obtain ⟨c, lp, e, h1, h2⟩ := hr
          simp only [List.cons.injEq, and_true] at e
          subst e
          have hy : y.sz ≤ n := by simp only [Pat.sz] at hn; omega
          obtain ⟨nd, a, b⟩ := ih (kd := .way) ⟨lp, h1, h2⟩ hs hy hf ht
          exact ⟨nd, a, b.up (by simp only [Pat.sz]; omega)⟩
        | wcons y r =>
          obtain ⟨c, lp, l', e, ⟨h1, h2⟩, h3⟩ := hr
          simp only [List.cons.injEq] at e
          obtain ⟨rfl, rfl⟩ := e
          cases r with
          | wone z => obtain ⟨_, _, e, _⟩ := h3; cases e
          | wcons z q => obtain ⟨_, _, _, e, _⟩ := h3; cases e
          | _ => exact hs.2.elim
        | _ => exact hs.elim
      · obtain ⟨l1, l2⟩ := ways_len hr hs
        have h99 : x.wn ≤ 99 := by
          cases x with
          | wcons y r => have h1 := ht.1; have h4 : (Pat.wcons y r).wn = r.wn + 1 := rfl; omega
          | wone y => exact (by decide : 1 ≤ 99)
          | _ => exact hs.elim
        exact ⟨nd, e, Or.inr (Or.inr (Or.inr ⟨Or.inr ⟨hk, by omega⟩, l1, kids_ways hr hs hf ht⟩))⟩
end Go.Proofs.YtnfojonmohijpaaGreatDoor
namespace Go.Proofs.YtnfojonmohijpaaGreatDoor
open Go.RowKit
def pdrop : Nat → Pat → Pat
  | 0, x => x
  | d + 1, .pcons _ r => pdrop d r
  | _ + 1, _ => .pnil
inductive Mk (w : World) (S : Nat → Prop) (s : ByteArray) (N : Nat) : Kr → Pat → List Value → Prop
  | set (f : Nat → Bool) (v : Value) : MP w S N v (Mt s (.set f)) → Mk w S s N .single (.set f) [.int .i64 0, .slice none 0 0, .slice none 0 0, v]
  | grp (k : Nat) (x : Pat) (a c : Value) : 0 < k → k ≤ 9 → Mk w S s N .ways x [a, c] → Mk w S s N .single (.grp k x) [.int .i64 k, a, c, c]
  | piece (x : Pat) (cs : List Value) : Mk w S s N .single x cs → Mk w S s N .piece x (cs ++ [.bool false, .int .i64 0, .int .i64 0, .slice none 0 0])
  | rep (mn : Nat) (mx : Int) (x : Pat) (cs : List Value) (v : Value) : mn ≤ 5 → -1 ≤ mx → mx ≤ 5 → (mx < 0 ∨ (mn : Int) ≤ mx) → Mk w S s N .single x cs → RR w S N (steps mn mx + 1) v (Left (Mt s x) mn mx) →
      Mk w S s N .piece (.rep mn mx x) (cs ++ [.bool true, .int .i64 mn, .int .i64 mx, v])
  | pnil : Mk w S s N .plist .pnil []
  | pcons (x r : Pat) (cs ds : List Value) : Mk w S s N .piece x cs → Mk w S s N .plist r ds → Mk w S s N .plist (.pcons x r) (cs ++ ds)
  | way (x : Pat) (cs : List Value) (v r : Value) (n : Nat) : Mk w S s N .plist x cs → w.ownsRow 0 273 8 v n cs → (∀ g, v.ownBlock = some g → S g) → RR w S N (n + 1) r (fun d => Mt s (pdrop d x)) → Mk w S s N .way x [v, r]
  | wone (x : Pat) (cs : List Value) : Mk w S s N .way x cs → Mk w S s N .wlist (.wone x) cs
  | wcons (x r : Pat) (cs ds : List Value) : Mk w S s N .way x cs → Mk w S s N .wlist r ds → Mk w S s N .wlist (.wcons x r) (cs ++ ds)
  | ways (x : Pat) (cs : List Value) (v c : Value) (n : Nat) : Mk w S s N .wlist x cs → w.ownsRow 0 222 2 v n cs → (∀ g, v.ownBlock = some g → S g) → MP w S N c (Mt s x) → Mk w S s N .ways x [v, c]
theorem Mk.keep {w w' : World} {S : Nat → Prop} {s : ByteArray} {N : Nat} {L : List Nat} (hk : Keeps L w w') (hs : ∀ g, S g → g ∉ L) {k : Kr} {x : Pat} {cs : List Value} (h : Mk w S s N k x cs) : Mk w' S s N k x cs := by
  induction h with
  | set f v hm => exact .set f v (hm.keep hk hs)
  | grp k x a c h0 h9 _ ih => exact .grp k x a c h0 h9 ih
  | piece x cs _ ih => exact .piece x cs ih
  | rep mn mx x cs v h1 h2 h3 h4 _ hr ih => exact .rep mn mx x cs v h1 h2 h3 h4 ih (hr.keep hk hs)
  | pnil => exact .pnil
  | pcons x r cs ds _ _ i1 i2 => exact .pcons x r cs ds i1 i2
  | way x cs v r n _ ho hp hr ih => exact .way x cs v r n ih (ho.keep hk fun g hg => hs g (hp g hg)) hp (hr.keep hk hs)
  | wone x cs _ ih => exact .wone x cs ih
  | wcons x r cs ds _ _ i1 i2 => exact .wcons x r cs ds i1 i2
  | ways x cs v c n _ ho hp hm ih => exact .ways x cs v c n ih (ho.keep hk fun g hg => hs g (hp g hg)) hp (hm.keep hk hs)
theorem Mk.mono {w : World} {S S' : Nat → Prop} {s : ByteArray} {N : Nat} (hs : ∀ g, S g → g < w.heap.size → S' g) {k : Kr} {x : Pat} {cs : List Value} (h : Mk w S s N k x cs) : Mk w S' s N k x cs := by
  have hb : ∀ {e : TypeId} {size : Nat} {v : Value} {n : Nat} {xs : List Value}, w.ownsRow 0 e size v n xs → (∀ g, v.ownBlock = some g → S g) → ∀ g, v.ownBlock = some g → S' g := fun ho hp g hg => hs g (hp g hg) (ho.lt g hg).2
  induction h with
  | set f v hm => exact .set f v (hm.mono hs)
  | grp k x a c h0 h9 _ ih => exact .grp k x a c h0 h9 ih
  | piece x cs _ ih => exact .piece x cs ih
  | rep mn mx x cs v h1 h2 h3 h4 _ hr ih => exact .rep mn mx x cs v h1 h2 h3 h4 ih (hr.mono hs)
  | pnil => exact .pnil
  | pcons x r cs ds _ _ i1 i2 => exact .pcons x r cs ds i1 i2
  | way x cs v r n _ ho hp hr ih => exact .way x cs v r n ih ho (hb ho hp) (hr.mono hs)
  | wone x cs _ ih => exact .wone x cs ih
  | wcons x r cs ds _ _ i1 i2 => exact .wcons x r cs ds i1 i2
  | ways x cs v c n _ ho hp hm ih => exact .ways x cs v c n ih ho (hb ho hp) (hm.mono hs)
theorem RR.one {w : World} {S : Nat → Prop} {N M : Nat} {v : Value} {F : Nat → Nat → Nat → Prop} (h : RR w S N M v F) : v.oneCell' = true := by
  obtain ⟨g, c, vs, rfl, _⟩ := h
  rfl
theorem Mk.form {w : World} {S : Nat → Prop} {s : ByteArray} {N : Nat} {k : Kr} {x : Pat} {cs : List Value} (h : Mk w S s N k x cs) :
    (∀ u ∈ cs, u.oneCell' = true) ∧ (match k with
      | .single => ∃ k' a c v, cs = [.int .i64 (k' : Nat), a, c, v] ∧ MP w S N v (Mt s x)
      | .ways => ∃ a c, cs = [a, c] ∧ MP w S N c (Mt s x)
      | .way => ∃ a r, cs = [a, r]
      | .piece => cs.length = 8
      | _ => True) := by
  induction h with
  | set f v hm => exact ⟨by intro u hu; simp at hu; rcases hu with rfl | rfl | rfl <;> first | rfl | exact hm.one.1, 0, _, _, v, rfl, hm⟩
  | grp k x a c h0 h9 _ ih =>
    obtain ⟨i1, a', c', e, hm⟩ := ih
    simp only [List.cons.injEq, and_true] at e
    obtain ⟨rfl, rfl⟩ := e
    refine ⟨?_, k, a, c, c, rfl, hm⟩
    intro u hu
    simp at hu
    rcases hu with rfl | rfl | rfl
    · rfl
    · exact i1 _ (by simp)
    · exact i1 _ (by simp)
  | piece x cs _ ih =>
    obtain ⟨i1, k', a, c, v, e, hm⟩ := ih
    refine ⟨?_, by show (cs ++ _).length = 8; rw [List.length_append, e]; rfl⟩
    intro u hu
    rcases List.mem_append.1 hu with hu | hu
    · exact i1 u hu
    · simp at hu; rcases hu with rfl | rfl | rfl <;> rfl
  | rep mn mx x cs v h1 h2 h3 h4 _ hr ih =>
    obtain ⟨i1, k', a, c, v', e, hm⟩ := ih
    refine ⟨?_, by show (cs ++ _).length = 8; rw [List.length_append, e]; rfl⟩
    intro u hu
    rcases List.mem_append.1 hu with hu | hu
    · exact i1 u hu
    · simp at hu; rcases hu with rfl | rfl | rfl | rfl <;> first | rfl | exact hr.one
  | pnil => exact ⟨by simp, trivial⟩
  | pcons x r cs ds _ _ i1 i2 =>
    refine ⟨?_, trivial⟩
    intro u hu
    rcases List.mem_append.1 hu with hu | hu
    · exact i1.1 u hu
    · exact i2.1 u hu
  | way x cs v r n _ ho hp hr ih => exact ⟨by intro u hu; simp at hu; rcases hu with rfl | rfl; exact (ownsRow_one ho).1; exact hr.one, v, r, rfl⟩
  | wone x cs _ ih => exact ⟨ih.1, trivial⟩
  | wcons x r cs ds _ _ i1 i2 =>
    refine ⟨?_, trivial⟩
    intro u hu
    rcases List.mem_append.1 hu with hu | hu
    · exact i1.1 u hu
    · exact i2.1 u hu
  | ways x cs v c n _ ho hp hm ih => exact ⟨by intro u hu; simp at hu; rcases hu with rfl | rfl; exact (ownsRow_one ho).1; exact hm.one.1, v, c, rfl, hm⟩
def NewMk (w : World) (s : ByteArray) (N : Nat) (k : Kr) (x : Pat) (e : Ending) (w' : World) : Prop := ∃ cs, e = .returned (.agg cs.toArray) ∧ Mk w' (fun g => w.heap.size ≤ g) s N k x cs ∧ Keeps [] w w'
def WaysN (s : ByteArray) (N n : Nat) : Prop := ∀ (x : Pat), x.sz ≤ n → x.fair 9 → ∀ (w : World) (S : Nat → Prop) (v : Value), Rep w S .ways x [v] → Calls Tryz.prog 72 #[v, .string s] w (NewMk w s N .ways x)
def SingleN (s : ByteArray) (N n : Nat) : Prop := ∀ (x : Pat), x.sz ≤ n → x.fair 9 → ∀ (w : World) (S : Nat → Prop) (cs : List Value), Rep w S .single x cs → Calls Tryz.prog 212 #[.agg cs.toArray, .string s] w (NewMk w s N .single x)
def PieceN (s : ByteArray) (N n : Nat) : Prop := ∀ (x : Pat), x.sz ≤ n → x.fair 9 → ∀ (w : World) (S : Nat → Prop) (cs : List Value), Rep w S .piece x cs → Calls Tryz.prog 173 #[.agg cs.toArray, .string s] w (NewMk w s N .piece x)
def WayN (s : ByteArray) (N n : Nat) : Prop := ∀ (x : Pat), x.sz ≤ n → x.fair 9 → ∀ (w : World) (S : Nat → Prop) (v : Value), Rep w S .way x [v] → Calls Tryz.prog 125 #[v, .string s] w (NewMk w s N .way x)
end Go.Proofs.YtnfojonmohijpaaGreatDoor
namespace Go.Proofs.YtnfojonmohijpaaGreatDoor
open Go.RowKit
theorem info4 (a b c d : Value) : (Tryz.prog.info? 271).map (·.size) = some (#[a, b, c, d] : Array Value).size := by kernel_rfl
theorem all4 {a b c d : Value} (ha : a.oneCell' = true) (hb : b.oneCell' = true) (hc : c.oneCell' = true) (hd : d.oneCell' = true) : (#[a, b, c, d] : Array Value).all (·.oneCell') = true := by simp [ha, hb, hc, hd]
theorem info2w (a b : Value) : (Tryz.prog.info? 78).map (·.size) = some (#[a, b] : Array Value).size := by kernel_rfl
theorem all2 {a b : Value} (ha : a.oneCell' = true) (hb : b.oneCell' = true) : (#[a, b] : Array Value).all (·.oneCell') = true := by simp [ha, hb]
set_option maxRecDepth 100000 in
set_option maxHeartbeats 2000000 in
theorem newSingle_any (s : ByteArray) (N : Nat) (HN : Hid (N = s.size + 1)) (hs : s.size ≤ 100) (n : Nat) (IW : WaysN s N n) : SingleN s N (n + 1) := by
  intro x hx hfair w S cs hrep
  cases hrep with
  | set f =>
    have hz0 : ((w.alloc (.cells (sc (.int .i64 0) (.slice none 0 0) f).toArray 208)).alloc (.cells #[.int .i64 0, .slice none 0 0, .slice none 0 0, .slice none 0 0] 271)).heap[w.heap.size]? = some (.cells (sc (.int .i64 0) (.slice none 0 0) f).toArray 208 (0, 0)) := heap_alloc2_old w _ _
    have hr0 : ((w.alloc (.cells (sc (.int .i64 0) (.slice none 0 0) f).toArray 208)).alloc (.cells #[.int .i64 0, .slice none 0 0, .slice none 0 0, .slice none 0 0] 271)).heap[w.heap.size + 1]? = some (.cells #[.int .i64 0, .slice none 0 0, .slice none 0 0, .slice none 0 0] 271 (0, 0)) := heap_alloc2_new w _ _
    have hk0 : Keeps [] w ((w.alloc (.cells (sc (.int .i64 0) (.slice none 0 0) f).toArray 208)).alloc (.cells #[.int .i64 0, .slice none 0 0, .slice none 0 0, .slice none 0 0] 271)) := ((Keeps.refl [] w).alloc _).alloc _
    obtain ⟨c0, c1, c2⟩ := sc_cells hz0
    have hll : (Tryz.prog.info? 206).map (·.size) = some (hcells f).toList.length := by rw [Tryz.infoSet]; simp [hcells_size]
    generalize (sc (.int .i64 0) (.slice none 0 0) f).toArray = C at *
    go_enter Tryz.func212, Tryz.ntmps212
    go_upto_if 8 with (fail)
    generalize ((w.alloc (.cells C 208)).alloc (.cells #[.int .i64 0, .slice none 0 0, .slice none 0 0, .slice none 0 0] 271)) = W at *
    obtain ⟨g0, hg0⟩ : ∃ g0, g0 = w.heap.size := ⟨_, rfl⟩
    obtain ⟨g1, hg1⟩ : ∃ g1, g1 = w.heap.size + 1 := ⟨_, rfl⟩
    rw [← hg1] at hr0 ⊢
    rw [← hg0] at c0 c1 c2 ⊢
    have hlo : w.heap.size ≤ W.heap.size := hk0.size
    have hg1w : w.heap.size ≤ g1 := by omega
    have hg1W : g1 < W.heap.size := (Array.getElem?_eq_some_iff.1 hr0).1
    clear hz0 hg0 hg1 c1
    go_wp2_with (first | (refine wpList_load_at rfl 206 _ rfl g0 2 rfl (hcells f).toList _ c2 Tryz.underlying206 rfl hll ?_))
    rw [Array.toArray_toList]
    refine (bytesOf_any f s N HN hs W).mono ?_
    rintro e w1 ⟨v, rfl, hm, hk1⟩
    obtain ⟨gv, cv, fv, rfl, _⟩ := id hm
    have hr1 := (hk1.block g1 (Array.getElem?_eq_some_iff.1 hr0).1 (by simp)).trans hr0
    have hkA := hk0.trans hk1
    go_wp2_with (first | (refine wpList_store_row rfl 271 _ _ rfl g1 #[.int .i64 0, .slice none 0 0, .slice none 0 0, .slice (some ⟨gv, 0, none⟩) N cv] rfl rfl _ _ hr1 (info4 _ _ _ _) rfl (all4 rfl rfl rfl rfl) ?_))
    refine bodyPost_ret (results_cell_row rfl _ _ g1 _ _ _ _ rfl (setRow_heap _ _ _ _ _ _ hr1) Tryz.underlying271 rfl (info4 _ _ _ _)) rfl ?_
    refine ⟨[.int .i64 0, .slice none 0 0, .slice none 0 0, .slice (some ⟨gv, 0, none⟩) N cv], rfl, ?_, ?_⟩
    · exact .set f _ ((hm.keep ((Keeps.refl [g1] w1).setRow (g := g1) (by simp) _) (by intro x hx; simp; omega)).mono fun x hx _ => by omega)
    · exact hkA.setRow (Or.inr hg1w) _
  | grp k y v h0 h9 hr =>
    obtain ⟨va, vn, vc, rfl⟩ : IsSl v := by
      cases hr with
      | ways _ _ _ _ _ ho _ => exact ownsRow_sl ho
    have hz0 : ((w.alloc (.cells (sc (.int .i64 k) (.slice va vn vc) fun _ => false).toArray 208)).alloc (.cells #[.int .i64 0, .slice none 0 0, .slice none 0 0, .slice none 0 0] 271)).heap[w.heap.size]? = some (.cells (sc (.int .i64 k) (.slice va vn vc) fun _ => false).toArray 208 (0, 0)) := heap_alloc2_old w _ _
    have hr0 : ((w.alloc (.cells (sc (.int .i64 k) (.slice va vn vc) fun _ => false).toArray 208)).alloc (.cells #[.int .i64 0, .slice none 0 0, .slice none 0 0, .slice none 0 0] 271)).heap[w.heap.size + 1]? = some (.cells #[.int .i64 0, .slice none 0 0, .slice none 0 0, .slice none 0 0] 271 (0, 0)) := heap_alloc2_new w _ _
    have hk0 : Keeps [] w ((w.alloc (.cells (sc (.int .i64 k) (.slice va vn vc) fun _ => false).toArray 208)).alloc (.cells #[.int .i64 0, .slice none 0 0, .slice none 0 0, .slice none 0 0] 271)) := ((Keeps.refl [] w).alloc _).alloc _
    obtain ⟨c0, c1, c2⟩ := sc_cells hz0
    have hysz : y.sz ≤ n := by simp [Pat.sz] at hx; omega
    have hyf : y.fair 9 := hfair.2.2
    have hkne : ((k : Int) == 0) = false := by simpa using (by omega : ¬ (k : Int) = 0)
    have hrW := hr.keep hk0 (by simp)
    clear c2
    generalize (sc (.int .i64 k) (.slice va vn vc) fun _ => false).toArray = C at *
    go_enter Tryz.func212, Tryz.ntmps212
    go_upto_if 8 with (fail)
    generalize ((w.alloc (.cells C 208)).alloc (.cells #[.int .i64 0, .slice none 0 0, .slice none 0 0, .slice none 0 0] 271)) = W at *
    obtain ⟨g0, hg0⟩ : ∃ g0, g0 = w.heap.size := ⟨_, rfl⟩
    obtain ⟨g1, hg1⟩ : ∃ g1, g1 = w.heap.size + 1 := ⟨_, rfl⟩
    rw [← hg1] at hr0 ⊢
    rw [← hg0] at c0 c1 hz0 ⊢
    have hlo : w.heap.size ≤ W.heap.size := hk0.size
    have hg1w : w.heap.size ≤ g1 := by omega
    have hg1W : g1 < W.heap.size := (Array.getElem?_eq_some_iff.1 hr0).1
    have hg0W : g0 < W.heap.size := (Array.getElem?_eq_some_iff.1 hz0).1
    clear hg0 hg1 hr hx hfair
    go_wp2_with fail
    refine (IW y hysz hyf W S _ hrW).mono ?_
    rintro e w1 ⟨cs, rfl, hm, hk1⟩
    obtain ⟨hone, a, c, rfl, hmp⟩ := id hm.form
    obtain ⟨gc, cc, fc, rfl, _⟩ := id hmp
    obtain ⟨aa, an, ac, rfl⟩ : IsSl a := by
      cases hm with
      | ways _ _ _ _ _ _ ho _ _ => exact ownsRow_sl ho
    have hr1 := (hk1.block g1 hg1W (by simp)).trans hr0
    have c01 : w1.cell? ⟨g0, 0, none⟩ = some (.int .i64 k) := (World.cell?_of_block (hk1.block g0 hg0W (by simp))).trans c0
    have hkA := hk0.trans hk1
    have hq0 : (w1.alloc (.cells #[.slice none 0 0, .slice none 0 0] 78)).heap[w1.heap.size]? = some (.cells #[.slice none 0 0, .slice none 0 0] 78 (0, 0)) := heap_alloc_new w1 _
    have hkQ : Keeps [] w1 ((w1.alloc (.cells #[.slice none 0 0, .slice none 0 0] 78)).setRow w1.heap.size #[.slice aa an ac, .slice (some ⟨gc, 0, none⟩) N cc]) := ((Keeps.refl [] w1).alloc _).setRow (Or.inr (Nat.le_refl _)) _
    have hqR : ((w1.alloc (.cells #[.slice none 0 0, .slice none 0 0] 78)).setRow w1.heap.size #[.slice aa an ac, .slice (some ⟨gc, 0, none⟩) N cc]).heap[w1.heap.size]? = some (.cells #[.slice aa an ac, .slice (some ⟨gc, 0, none⟩) N cc] 78 (0, 0)) := setRow_heap _ _ _ _ _ _ hq0
    have c03 := (World.cell?_of_block (hkQ.block g0 (Nat.lt_of_lt_of_le hg0W hk1.size) (by simp))).trans c01
    have hr3 := (hkQ.block g1 (Nat.lt_of_lt_of_le hg1W hk1.size) (by simp)).trans hr1
    have hm3 := hm.keep hkQ (by simp)
    have q0 : ((w1.alloc (.cells #[.slice none 0 0, .slice none 0 0] 78)).setRow w1.heap.size #[.slice aa an ac, .slice (some ⟨gc, 0, none⟩) N cc]).cell? ⟨w1.heap.size, 0, none⟩ = some (.slice aa an ac) := by rw [Lib.cell_of_heap hqR]; rfl
    have q1 : ((w1.alloc (.cells #[.slice none 0 0, .slice none 0 0] 78)).setRow w1.heap.size #[.slice aa an ac, .slice (some ⟨gc, 0, none⟩) N cc]).cell? ⟨w1.heap.size, 1, none⟩ = some (.slice (some ⟨gc, 0, none⟩) N cc) := by rw [Lib.cell_of_heap hqR]; rfl
    have hkB := hkA.trans hkQ
    clear hz0 hr0 c0 c1 hrW hk0 hqR hm hmp hr1 c01
    go_wp2_with (first | (refine wpList_store_row rfl 271 _ _ rfl g1 #[.int .i64 k, .slice aa an ac, .slice (some ⟨gc, 0, none⟩) N cc, .slice (some ⟨gc, 0, none⟩) N cc] rfl rfl _ _ hr3 (info4 _ _ _ _) rfl (all4 rfl rfl rfl rfl) ?_) | (refine wpList_store_row rfl 78 _ _ rfl w1.heap.size #[.slice aa an ac, .slice (some ⟨gc, 0, none⟩) N cc] rfl rfl _ _ hq0 (info2w _ _) rfl (all2 rfl rfl) ?_; generalize (w1.alloc (.cells #[.slice none 0 0, .slice none 0 0] 78)).setRow w1.heap.size #[.slice aa an ac, .slice (some ⟨gc, 0, none⟩) N cc] = W3 at *))
    refine bodyPost_ret (results_cell_row rfl _ _ g1 _ _ _ _ rfl (setRow_heap _ _ _ _ _ _ hr3) Tryz.underlying271 rfl (info4 _ _ _ _)) rfl ?_
    refine ⟨[.int .i64 k, .slice aa an ac, .slice (some ⟨gc, 0, none⟩) N cc, .slice (some ⟨gc, 0, none⟩) N cc], rfl, ?_, ?_⟩
    · exact .grp k y _ _ h0 h9 ((hm3.keep ((Keeps.refl [g1] W3).setRow (g := g1) (by simp) _) (by intro x hx; simp; omega)).mono fun x hx _ => by omega)
    · exact hkB.setRow (Or.inr hg1w) _
end Go.Proofs.YtnfojonmohijpaaGreatDoor
