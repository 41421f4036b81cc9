/-
  DERIVED. Plain mathematics: what the reference's nodes match, and that it is what the pattern matches that they stand for. Nothing of the program stands here.
-/
import Derived.Test.YtnfojonmohijpaaGreatDoorJPY
import Derived.Test.YtnfojonmohijpaaGreatDoorJRT
import Derived.Test.YtnfojonmohijpaaGreatDoorJSD
import Derived.Test.YtnfojonmohijpaaGreatDoorJRK
import Derived.OwnWalk
import Derived.Laws.BitsAllLaws
import Derived.Test.YtnfojonmohijpaaGreatDoorJMB
import Derived.Deep.MidRow
import Derived.Deep.CutRange
import Derived.Deep.RegionHeld3
import Derived.Test.YtnfojonmohijpaaGreatDoorJUM
import Derived.Deep.RegionWith
import Derived.RegionDies
set_option linter.unusedSimpArgs false
set_option linter.unusedVariables false
namespace Go.Proofs.YtnfojonmohijpaaGreatDoor
inductive JN where
 | node (k : Nat)
 | row (l : List Nat)
 | it (c n : Nat)
inductive MN (s : ByteArray) (nds : List Nd) : JN → Nat → Nat → Prop
 | byte (k : Nat) (nd : Nd) (i : Nat) : nds[k]? = some nd → nd.kind = 98 → i < s.size → nd.f (at' s i).toNat = true → MN s nds (.node k) i (i + 1)
 | grp (k : Nat) (nd : Nd) (c i j : Nat) : nds[k]? = some nd → nd.kind = 103 → nd.kids = [c] → MN s nds (.node c) i j → MN s nds (.node k) i j
 | alt (k : Nat) (nd : Nd) (c i j : Nat) : nds[k]? = some nd → nd.kind = 111 → c ∈ nd.kids → MN s nds (.node c) i j → MN s nds (.node k) i j
 | way (k : Nat) (nd : Nd) (i j : Nat) : nds[k]? = some nd → nd.kind = 119 → MN s nds (.row nd.kids) i j → MN s nds (.node k) i j
 | rep (k : Nat) (nd : Nd) (c n i j : Nat) : nds[k]? = some nd → nd.kind = 114 → nd.kids = [c] → nd.mn ≤ n → (nd.mx < 0 ∨ (n : Int) ≤ nd.mx) → MN s nds (.it c n) i j → MN s nds (.node k) i j
 | rnil (i : Nat) : MN s nds (.row []) i i
 | rcons (c : Nat) (l : List Nat) (i m j : Nat) : MN s nds (.node c) i m → MN s nds (.row l) m j → MN s nds (.row (c :: l)) i j
 | izero (c i : Nat) : MN s nds (.it c 0) i i
 | isucc (c n i m j : Nat) : MN s nds (.node c) i m → MN s nds (.it c n) m j → MN s nds (.it c (n + 1)) i j
theorem MN.row_nil {s : ByteArray} {nds : List Nd} {i j : Nat} : MN s nds (.row []) i j ↔ i = j :=
 ⟨fun h => by cases h; rfl, fun h => by cases h; exact .rnil i⟩
theorem MN.row_cons {s : ByteArray} {nds : List Nd} {c : Nat} {l : List Nat} {i j : Nat} : MN s nds (.row (c :: l)) i j ↔ ∃ m, MN s nds (.node c) i m ∧ MN s nds (.row l) m j :=
 ⟨fun h => by cases h with | rcons _ _ _ m _ a b => exact ⟨m, a, b⟩, fun ⟨m, a, b⟩ => .rcons c l i m j a b⟩
theorem MN.row_one {s : ByteArray} {nds : List Nd} {c : Nat} {i j : Nat} : MN s nds (.row [c]) i j ↔ MN s nds (.node c) i j := by
 rw [MN.row_cons]
 constructor
 ·rintro ⟨m, a, b⟩
  rw [MN.row_nil] at b
  subst b
  exact a
 ·intro h
  exact ⟨j, h, MN.row_nil.2 rfl⟩
theorem MN.it_iff {s : ByteArray} {nds : List Nd} {c : Nat} {R : Nat → Nat → Prop} (h : ∀ i j, R i j ↔ MN s nds (.node c) i j) : ∀ n i j, It R n i j ↔ MN s nds (.it c n) i j
 | 0, i, j => ⟨fun e => by cases e; exact .izero c i, fun e => by cases e; rfl⟩
 | n + 1, i, j => by
  constructor
  ·rintro ⟨m, a, b⟩
   exact .isucc c n i m j ((h i m).1 a) ((MN.it_iff h n m j).1 b)
  ·intro e
   cases e with
   | isucc _ _ _ m _ a b => exact ⟨m, (h i m).2 a, (MN.it_iff h n m j).2 b⟩
def ML (s : ByteArray) (nds : List Nd) (kd : Kd) (l : List Nat) (i j : Nat) : Prop :=
 match kd with
 | .ways => ∃ c, c ∈ l ∧ MN s nds (.node c) i j
 | _ => MN s nds (.row l) i j
theorem MN.byte_iff {s : ByteArray} {nds : List Nd} {k : Nat} {nd : Nd} (e : nds[k]? = some nd) (hk : nd.kind = 98) {i j : Nat} : MN s nds (.node k) i j ↔ i < s.size ∧ nd.f (at' s i).toNat = true ∧ j = i + 1 := by
 constructor
 ·intro h
  cases h with
  | byte _ nd' _ e' k' a b => cases e.symm.trans e'; exact ⟨a, b, rfl⟩
  | grp _ nd' _ _ _ e' k' => cases e.symm.trans e'; omega
  | alt _ nd' _ _ _ e' k' => cases e.symm.trans e'; omega
  | way _ nd' _ _ e' k' => cases e.symm.trans e'; omega
  | rep _ nd' _ _ _ _ e' k' => cases e.symm.trans e'; omega
 ·rintro ⟨a, b, rfl⟩
  exact .byte k nd i e hk a b
theorem MN.grp_iff {s : ByteArray} {nds : List Nd} {k c : Nat} {nd : Nd} (e : nds[k]? = some nd) (hk : nd.kind = 103) (hc : nd.kids = [c]) {i j : Nat} : MN s nds (.node k) i j ↔ MN s nds (.node c) i j := by
 constructor
 ·intro h
  cases h with
  | byte _ nd' _ e' k' a b => cases e.symm.trans e'; omega
  | grp _ nd' c' _ _ e' k' hc' h' => cases e.symm.trans e'; rw [hc] at hc'; cases hc'; exact h'
  | alt _ nd' _ _ _ e' k' => cases e.symm.trans e'; omega
  | way _ nd' _ _ e' k' => cases e.symm.trans e'; omega
  | rep _ nd' _ _ _ _ e' k' => cases e.symm.trans e'; omega
 ·exact .grp k nd c i j e hk hc
theorem MN.alt_iff {s : ByteArray} {nds : List Nd} {k : Nat} {nd : Nd} (e : nds[k]? = some nd) (hk : nd.kind = 111) {i j : Nat} : MN s nds (.node k) i j ↔ ∃ c, c ∈ nd.kids ∧ MN s nds (.node c) i j := by
 constructor
 ·intro h
  cases h with
  | byte _ nd' _ e' k' a b => cases e.symm.trans e'; omega
  | grp _ nd' _ _ _ e' k' => cases e.symm.trans e'; omega
  | alt _ nd' c _ _ e' k' hc h' => cases e.symm.trans e'; exact ⟨c, hc, h'⟩
  | way _ nd' _ _ e' k' => cases e.symm.trans e'; omega
  | rep _ nd' _ _ _ _ e' k' => cases e.symm.trans e'; omega
 ·rintro ⟨c, hc, h⟩
  exact .alt k nd c i j e hk hc h
theorem MN.way_iff {s : ByteArray} {nds : List Nd} {k : Nat} {nd : Nd} (e : nds[k]? = some nd) (hk : nd.kind = 119) {i j : Nat} : MN s nds (.node k) i j ↔ MN s nds (.row nd.kids) i j := by
 constructor
 ·intro h
  cases h with
  | byte _ nd' _ e' k' a b => cases e.symm.trans e'; omega
  | grp _ nd' _ _ _ e' k' => cases e.symm.trans e'; omega
  | alt _ nd' _ _ _ e' k' => cases e.symm.trans e'; omega
  | way _ nd' _ _ e' k' h' => cases e.symm.trans e'; exact h'
  | rep _ nd' _ _ _ _ e' k' => cases e.symm.trans e'; omega
 ·exact .way k nd i j e hk
theorem MN.rep_iff {s : ByteArray} {nds : List Nd} {k c : Nat} {nd : Nd} (e : nds[k]? = some nd) (hk : nd.kind = 114) (hc : nd.kids = [c]) {i j : Nat} : MN s nds (.node k) i j ↔ ∃ n, nd.mn ≤ n ∧ (nd.mx < 0 ∨ (n : Int) ≤ nd.mx) ∧ MN s nds (.it c n) i j := by
 constructor
 ·intro h
  cases h with
  | byte _ nd' _ e' k' a b => cases e.symm.trans e'; omega
  | grp _ nd' _ _ _ e' k' => cases e.symm.trans e'; omega
  | alt _ nd' _ _ _ e' k' => cases e.symm.trans e'; omega
  | way _ nd' _ _ e' k' => cases e.symm.trans e'; omega
  | rep _ nd' c' n _ _ e' k' hc' a b h' => cases e.symm.trans e'; rw [hc] at hc'; cases hc'; exact ⟨n, a, b, h'⟩
 ·rintro ⟨n, a, b, h⟩
  exact .rep k nd c n i j e hk hc a b h
theorem ListN.way_iff {s : ByteArray} {nds : List Nd} {l : List Nat} {c : Nat} (h : ListN nds 119 l c) {i j : Nat} : MN s nds (.row l) i j ↔ MN s nds (.node c) i j := by
 rcases h with rfl | ⟨_, nd, e, hk, rfl⟩
 ·exact MN.row_one
 ·exact (MN.way_iff e hk).symm
theorem ListN.alt_iff {s : ByteArray} {nds : List Nd} {l : List Nat} {c : Nat} (h : ListN nds 111 l c) {i j : Nat} : (∃ d, d ∈ l ∧ MN s nds (.node d) i j) ↔ MN s nds (.node c) i j := by
 rcases h with rfl | ⟨_, nd, e, hk, rfl⟩
 ·simp
 ·exact (MN.alt_iff e hk).symm
theorem at'_nat {s : ByteArray} {i : Nat} (h : i < s.size) : (at' s i).toNat < 256 := by
 have h1 := (at'_bd s i).2
 have h2 := at'_lt h
 omega
theorem rep_Mt {s : ByteArray} {nds : List Nd} : ∀ {x : Pat} {kd : Kd}, shp x kd → ∀ {l : List Nat}, rep nds x l → ∀ {i j : Nat}, Mt s x i j ↔ ML s nds kd l i j := by
 intro x
 induction x with
 | set f =>
  intro kd hs l h i j
  obtain ⟨k, nd, rfl, e, hk, _, hf⟩ := h
  have : Mt s (.set f) i j ↔ MN s nds (.row [k]) i j := by
   rw [MN.row_one, MN.byte_iff e hk]
   show i < s.size ∧ f (at' s i).toNat = true ∧ j = i + 1 ↔ _
   constructor
   ·rintro ⟨a, b, c⟩; exact ⟨a, by rw [hf _ (at'_nat a)]; exact b, c⟩
   ·rintro ⟨a, b, c⟩; exact ⟨a, by rw [← hf _ (at'_nat a)]; exact b, c⟩
  cases kd with
  | ways => exact hs.elim
  | way => exact hs.elim
  | piece => exact this
  | single => exact this
 | grp m x ih =>
  intro kd hs l h i j
  obtain ⟨k, nd, c, lw, rfl, e, hk, _, hc, hr, hl⟩ := h
  have : shp x .ways → (Mt s (.grp m x) i j ↔ MN s nds (.row [k]) i j) := fun hw => by
   rw [MN.row_one, MN.grp_iff e hk hc, ← hl.alt_iff]
   exact ih hw hr
  cases kd with
  | ways => exact hs.elim
  | way => exact hs.elim
  | piece => exact this hs
  | single => exact this hs
 | rep mn mx x ih =>
  intro kd hs l h i j
  obtain ⟨k, nd, c, rfl, e, hk, rfl, rfl, hc, hr⟩ := h
  have : shp x .single → (Mt s (.rep nd.mn nd.mx x) i j ↔ MN s nds (.row [k]) i j) := fun hw => by
   rw [MN.row_one, MN.rep_iff e hk hc]
   have h1 : ∀ i j, Mt s x i j ↔ MN s nds (.node c) i j := fun i j => by rw [← MN.row_one]; exact ih hw hr
   constructor
   ·rintro ⟨n, a, b, h⟩; exact ⟨n, a, b, (MN.it_iff h1 n i j).1 h⟩
   ·rintro ⟨n, a, b, h⟩; exact ⟨n, a, b, (MN.it_iff h1 n i j).2 h⟩
  cases kd with
  | ways => exact hs.elim
  | way => exact hs.elim
  | piece => exact this hs.2.2.2
  | single => exact hs.elim
 | pnil =>
  intro kd hs l h i j
  cases h
  cases kd with
  | way => exact MN.row_nil.symm
  | ways => exact hs.elim
  | piece => exact hs.elim
  | single => exact hs.elim
 | pcons x r ih1 ih2 =>
  intro kd hs l h i j
  obtain ⟨k, l', rfl, h1, h2⟩ := h
  cases kd with
  | way =>
   show (∃ m, Mt s x i m ∧ Mt s r m j) ↔ MN s nds (.row (k :: l')) i j
   rw [MN.row_cons]
   constructor
   ·rintro ⟨m, a, b⟩; exact ⟨m, MN.row_one.1 ((ih1 hs.1 h1).1 a), (ih2 hs.2 h2).1 b⟩
   ·rintro ⟨m, a, b⟩; exact ⟨m, (ih1 hs.1 h1).2 (MN.row_one.2 a), (ih2 hs.2 h2).2 b⟩
  | ways => exact hs.elim
  | piece => exact hs.elim
  | single => exact hs.elim
 | wone x ih =>
  intro kd hs l h i j
  obtain ⟨c, lp, rfl, hr, hl⟩ := h
  cases kd with
  | ways =>
   show Mt s x i j ↔ ∃ d, d ∈ [c] ∧ MN s nds (.node d) i j
   rw [show Mt s x i j ↔ MN s nds (.row lp) i j from ih hs hr, hl.way_iff]
   simp
  | way => exact hs.elim
  | piece => exact hs.elim
  | single => exact hs.elim
 | wcons x r ih1 ih2 =>
  intro kd hs l h i j
  obtain ⟨c, lp, l', rfl, ⟨hr, hl⟩, h2⟩ := h
  cases kd with
  | ways =>
   show (Mt s x i j ∨ Mt s r i j) ↔ ∃ d, d ∈ c :: l' ∧ MN s nds (.node d) i j
   rw [show Mt s x i j ↔ MN s nds (.row lp) i j from ih1 hs.1 hr, hl.way_iff, show Mt s r i j ↔ ∃ d, d ∈ l' ∧ MN s nds (.node d) i j from ih2 hs.2 h2]
   constructor
   ·rintro (h | ⟨d, a, b⟩)
    ·exact ⟨c, by simp, h⟩
    ·exact ⟨d, by simp [a], b⟩
   ·rintro ⟨d, a, b⟩
    rcases List.mem_cons.1 a with rfl | a
    ·exact Or.inl b
    ·exact Or.inr ⟨d, a, b⟩
  | way => exact hs.elim
  | piece => exact hs.elim
  | single => exact hs.elim
end Go.Proofs.YtnfojonmohijpaaGreatDoor
namespace Go.Proofs.YtnfojonmohijpaaGreatDoor
def Pat.fair (g : Nat) : Pat → Prop
 | .set _ => True
 | .grp k x => 0 < k ∧ k ≤ g ∧ x.fair g
 | .rep mn mx x => (mx < 0 ∨ (mn : Int) ≤ mx) ∧ x.fair g
 | .pnil => True
 | .pcons x r => x.fair g ∧ r.fair g
 | .wone x => x.fair g
 | .wcons x r => x.fair g ∧ r.fair g
theorem Pat.fair.up {g h : Nat} (hg : g ≤ h) : ∀ {x : Pat}, x.fair g → x.fair h
 | .set _, _ => trivial
 | .grp _ x, hx => ⟨hx.1, Nat.le_trans hx.2.1 hg, Pat.fair.up hg (x := x) hx.2.2⟩
 | .rep _ _ x, hx => ⟨hx.1, Pat.fair.up hg (x := x) hx.2⟩
 | .pnil, _ => trivial
 | .pcons x r, hx => ⟨Pat.fair.up hg (x := x) hx.1, Pat.fair.up hg (x := r) hx.2⟩
 | .wone x, hx => Pat.fair.up hg (x := x) hx
 | .wcons x r, hx => ⟨Pat.fair.up hg (x := x) hx.1, Pat.fair.up hg (x := r) hx.2⟩
def Pat.wn : Pat → Nat
 | .wcons _ r => r.wn + 1
 | _ => 1
def Pat.thn : Pat → Prop
 | .set _ => True
 | .grp _ x => x.thn
 | .rep _ _ x => x.thn
 | .pnil => True
 | .pcons x r => x.thn ∧ r.thn
 | .wone x => x.thn
 | .wcons x r => r.wn ≤ 98 ∧ x.thn ∧ r.thn
def NK (nds : List Nd) (n k : Nat) : Prop := ∃ (kd : Kd) (x : Pat), repK nds kd x k ∧ shp x kd ∧ x.sz < n ∧ x.fair 9 ∧ x.thn
theorem NK.up {nds : List Nd} {n m k : Nat} (h : NK nds n k) (hm : n ≤ m) : NK nds m k := by
 obtain ⟨kd, x, a, b, c, d⟩ := h
 exact ⟨kd, x, a, b, by omega, d⟩
theorem way_len {nds : List Nd} : ∀ {x : Pat} {l : List Nat}, rep nds x l → shp x .way → l.length ≤ x.sz
 | .pnil, l, h, _ => by cases h; simp
 | .pcons x r, l, h, hs => by
  obtain ⟨k, l', rfl, h1, h2⟩ := h
  have := way_len h2 hs.2
  simp only [Pat.sz, List.length_cons]
  omega
 | .set _, _, _, hs => hs.elim
 | .grp _ _, _, _, hs => hs.elim
 | .rep _ _ _, _, _, hs => hs.elim
 | .wone _, _, _, hs => hs.elim
 | .wcons _ _, _, _, hs => hs.elim
theorem ways_len {nds : List Nd} : ∀ {x : Pat} {l : List Nat}, rep nds x l → shp x .ways → l.length ≤ x.sz ∧ l.length = x.wn
 | .wone x, l, h, hs => by
  obtain ⟨c', lp, rfl, hr, hl⟩ := h
  refine ⟨?_, rfl⟩
  simp only [Pat.sz, List.length_cons, List.length_nil]
  omega
 | .wcons x r, l, h, hs => by
  obtain ⟨c', lp, l', rfl, ⟨hr, hl⟩, h2⟩ := h
  have h3 := ways_len h2 hs.2
  have h4 : (Pat.wcons x r).wn = r.wn + 1 := rfl
  rw [h4]
  simp only [Pat.sz, List.length_cons]
  omega
 | .pnil, _, _, hs => hs.elim
 | .pcons _ _, _, _, hs => hs.elim
 | .set _, _, _, hs => hs.elim
 | .grp _ _, _, _, hs => hs.elim
 | .rep _ _ _, _, _, hs => hs.elim
def Sub (nds : List Nd) (n : Nat) (nd : Nd) : Prop :=
 (nd.kind = 98 ∧ nd.kids = []) ∨ (nd.kind = 103 ∧ ∃ c, nd.kids = [c] ∧ NK nds n c) ∨ (nd.kind = 114 ∧ nd.mn ≤ 5 ∧ -1 ≤ nd.mx ∧ (nd.mx ≤ 5 ∧ (nd.mx < 0 ∨ (nd.mn : Int) ≤ nd.mx)) ∧ ∃ c, nd.kids = [c] ∧ NK nds n c) ∨
 ((nd.kind = 119 ∨ (nd.kind = 111 ∧ nd.kids.length ≤ 99)) ∧ nd.kids.length ≤ n ∧ ∀ c, c ∈ nd.kids → NK nds n c)
theorem Sub.up {nds : List Nd} {n m : Nat} {nd : Nd} (h : Sub nds n nd) (hm : n ≤ m) : Sub nds m nd := by
 rcases h with h | ⟨a, c, b, d⟩ | ⟨a, e1, e2, e3, c, b, d⟩ | ⟨a, l, b⟩
 ·exact Or.inl h
 ·exact Or.inr (Or.inl ⟨a, c, b, d.up hm⟩)
 ·exact Or.inr (Or.inr (Or.inl ⟨a, e1, e2, e3, c, b, d.up hm⟩))
 ·exact Or.inr (Or.inr (Or.inr ⟨a, Nat.le_trans l hm, fun c hc => (b c hc).up hm⟩))
theorem kids_way {nds : List Nd} : ∀ {x : Pat} {l : List Nat}, rep nds x l → shp x .way → x.fair 9 → x.thn → ∀ c, c ∈ l → NK nds x.sz c
 | .pnil, l, h, _, _, _, c, hc => by cases h; cases hc
 | .pcons x r, l, h, hs, hf, ht, c, hc => by
  obtain ⟨k, l', rfl, h1, h2⟩ := h
  rcases List.mem_cons.1 hc with rfl | hc
  ·exact ⟨.piece, x, h1, hs.1, by simp only [Pat.sz]; omega, hf.1, ht.1⟩
  ·exact (kids_way h2 hs.2 hf.2 ht.2 c hc).up (by simp only [Pat.sz]; omega)
 | .set _, _, _, hs, _, _, _, _ => hs.elim
 | .grp _ _, _, _, hs, _, _, _, _ => hs.elim
 | .rep _ _ _, _, _, hs, _, _, _, _ => hs.elim
 | .wone _, _, _, hs, _, _, _, _ => hs.elim
 | .wcons _ _, _, _, hs, _, _, _, _ => hs.elim
theorem kids_ways {nds : List Nd} : ∀ {x : Pat} {l : List Nat}, rep nds x l → shp x .ways → x.fair 9 → x.thn → ∀ c, c ∈ l → NK nds x.sz c
 | .wone x, l, h, hs, hf, ht, c, hc => by
  obtain ⟨c', lp, rfl, hr, hl⟩ := h
  simp only [List.mem_singleton] at hc
  subst hc
  exact ⟨.way, x, ⟨lp, hr, hl⟩, hs, by simp only [Pat.sz]; omega, hf, ht⟩
 | .wcons x r, l, h, hs, hf, ht, c, hc => by
  obtain ⟨c', lp, l', rfl, ⟨hr, hl⟩, h2⟩ := h
  rcases List.mem_cons.1 hc with rfl | hc
  ·exact ⟨.way, x, ⟨lp, hr, hl⟩, hs.1, by simp only [Pat.sz]; omega, hf.1, ht.2.1⟩
  ·exact (kids_ways h2 hs.2 hf.2 ht.2.2 c hc).up (by simp only [Pat.sz]; omega)
 | .pnil, _, _, hs, _, _, _, _ => hs.elim
 | .pcons _ _, _, _, hs, _, _, _, _ => hs.elim
 | .set _, _, _, hs, _, _, _, _ => hs.elim
 | .grp _ _, _, _, hs, _, _, _, _ => hs.elim
 | .rep _ _ _, _, _, hs, _, _, _, _ => hs.elim
theorem NK.cases {nds : List Nd} : ∀ (n : Nat) {kd : Kd} {x : Pat} {k : Nat}, repK nds kd x k → shp x kd → x.sz ≤ n → x.fair 9 → x.thn → ∃ nd, nds[k]? = some nd ∧ Sub nds x.sz nd := by
 intro n
 induction n with
 | zero => intro kd x k _ _ hn _ _; exact absurd hn (by cases x <;> simp [Pat.sz])
 | succ n ih =>
  intro kd x k h hs hn hf ht
  have hone : (kd = .piece ∨ kd = .single) → rep nds x [k] → ∃ nd, nds[k]? = some nd ∧ Sub nds x.sz nd := by
   intro hkd hr
   cases x with
   | set f =>
    obtain ⟨k', nd, hk', e, hk, h0, _⟩ := hr
    simp only [List.cons.injEq, and_true] at hk'
    subst hk'
    exact ⟨nd, e, Or.inl ⟨hk, h0⟩⟩
   | grp m y =>
    obtain ⟨k', nd, c, lw, hk', e, hk, _, hc, hr, hl⟩ := hr
    simp only [List.cons.injEq, and_true] at hk'
    subst hk'
    have hy : shp y .ways := by rcases hkd with rfl | rfl <;> exact hs
    exact ⟨nd, e, Or.inr (Or.inl ⟨hk, c, hc, .ways, y, ⟨lw, hr, hl⟩, hy, by simp only [Pat.sz]; omega, hf.2.2, ht⟩)⟩
   | rep mn mx y =>
    obtain ⟨k', nd, c, hk', e, hk, rfl, rfl, hc, hr⟩ := hr
    simp only [List.cons.injEq, and_true] at hk'
    subst hk'
    rcases hkd with rfl | rfl
    ·exact ⟨nd, e, Or.inr (Or.inr (Or.inl ⟨hk, hs.1, hs.2.1, ⟨hs.2.2.1, hf.1⟩, c, hc, .single, y, hr, hs.2.2.2, by simp only [Pat.sz]; omega, hf.2, ht⟩))⟩
    ·exact hs.elim
   | pnil => rcases hkd with rfl | rfl <;> exact hs.elim
   | pcons _ _ => rcases hkd with rfl | rfl <;> exact hs.elim
   | wone _ => rcases hkd with rfl | rfl <;> exact hs.elim
   | wcons _ _ => rcases hkd with rfl | rfl <;> exact hs.elim
  cases kd with
  | single => exact hone (Or.inr rfl) h
  | piece => exact hone (Or.inl rfl) h
  | way =>
   obtain ⟨lp, hr, hl⟩ := h
   rcases hl with rfl | ⟨_, nd, e, hk, rfl⟩
   ·cases x with
    | pcons y r =>
     obtain ⟨k', l', e, h1, h2⟩ := hr
     simp only [List.cons.injEq] at e
     obtain ⟨rfl, rfl⟩ := e
     have hy : y.sz ≤ n := by simp only [Pat.sz] at hn; omega
     obtain ⟨nd, a, b⟩ := ih (kd := .piece) h1 hs.1 hy hf.1 ht.1
     exact ⟨nd, a, b.up (by simp only [Pat.sz]; omega)⟩
    | pnil => cases hr
    | _ => exact hs.elim
   ·exact ⟨nd, e, Or.inr (Or.inr (Or.inr ⟨Or.inl hk, way_len hr hs, kids_way hr hs hf ht⟩))⟩
  | ways =>
   obtain ⟨lw, hr, hl⟩ := h
   rcases hl with rfl | ⟨_, nd, e, hk, rfl⟩
   ·cases x with
    | wone y =>
     obtain ⟨c, lp, e, h1, h2⟩ := hr
     simp only [List.cons.injEq, and_true] at e
     subst e
     have hy : y.sz ≤ n := by simp only [Pat.sz] at hn; omega
     obtain ⟨nd, a, b⟩ := ih (kd := .way) ⟨lp, h1, h2⟩ hs hy hf ht
     exact ⟨nd, a, b.up (by simp only [Pat.sz]; omega)⟩
    | wcons y r =>
     obtain ⟨c, lp, l', e, ⟨h1, h2⟩, h3⟩ := hr
     simp only [List.cons.injEq] at e
     obtain ⟨rfl, rfl⟩ := e
     cases r with
     | wone z => obtain ⟨_, _, e, _⟩ := h3; cases e
     | wcons z q => obtain ⟨_, _, _, e, _⟩ := h3; cases e
     | _ => exact hs.2.elim
    | _ => exact hs.elim
   ·obtain ⟨l1, l2⟩ := ways_len hr hs
    have h99 : x.wn ≤ 99 := by
     cases x with
     | wcons y r => have h1 := ht.1; have h4 : (Pat.wcons y r).wn = r.wn + 1 := rfl; omega
     | wone y => exact (by decide : 1 ≤ 99)
     | _ => exact hs.elim
    exact ⟨nd, e, Or.inr (Or.inr (Or.inr ⟨Or.inr ⟨hk, by omega⟩, l1, kids_ways hr hs hf ht⟩))⟩
end Go.Proofs.YtnfojonmohijpaaGreatDoor
namespace Go.Proofs.YtnfojonmohijpaaGreatDoor
open Go.RowKit
theorem rangeSingleIn {w : World} {g : Nat} {cs ds : List Value} {T : TypeId} {fr : Nat × Nat} (h : w.heap[g]? = some (.cells (cs ++ ds).toArray T fr)) : w.rangeAt g 0 cs := by
 intro j v hv
 rw [Lib.cell_of_heap h, List.getElem?_toArray, Nat.zero_add, List.getElem?_append_left (List.getElem?_eq_some_iff.1 hv).1]
 exact hv
theorem rangeBehind {w : World} {g k : Nat} {cs ds : List Value} {T : TypeId} {fr : Nat × Nat} (hl : cs.length = k) (h : w.heap[g]? = some (.cells (cs ++ ds).toArray T fr)) : w.rangeAt g k ds := by
 intro j v hv
 rw [Lib.cell_of_heap h, List.getElem?_toArray, List.getElem?_append_right (by omega), hl, Nat.add_sub_cancel_left]
 exact hv
theorem infoSgL {cs : List Value} (h : cs.length = 258) : (Tryz.prog.info? 208).map (·.size) = some cs.length := by have := infoSingleC h; simpa using this
end Go.Proofs.YtnfojonmohijpaaGreatDoor
namespace Go.Proofs.YtnfojonmohijpaaGreatDoor
open Go.RowKit
theorem wpAnyH_tk {P : Program} {ops : Array Oper} {Q : Exit → Act → World → Prop} {md : Region.Mode} {S : World → Prop} (i : Nat) (oi : Oper) (d : Option Tmp) (v : Value) {fuel : Nat} {listed : Array Bool} {a : Act} {w : World} (hi : ops[i]? = some oi) (hd : oi.dst = d)
    (hs : Region.noSelect ops = true) (hf : Region.free md ops listed i = true) (hr : (Region.ready md ops listed).contains i = true)
    (hQ : ∀ c a w, Q (.panic c) (a.put d v) w → Q (.panic c) a w) (hy : YieldsIf P ops S oi v a) (hS : S w)
    (h : wpAnyH P md ops Q S fuel (listed.setIfInBounds i true) (a.put d v) w) : wpAnyH P md ops Q S (fuel + 1) listed a w := by
 subst hd
 exact wpAnyH_take hi hs hf hr hQ hy hS h
theorem wrap_small {z : Int} (h0 : 0 ≤ z) (h1 : z ≤ 1000000) : IntKind.i64.wrap z = z := by
 have h2 : z % 18446744073709551616 = z := by omega
 have : IntKind.i64.wrap z = if 9223372036854775808 ≤ z % 18446744073709551616 then z % 18446744073709551616 - 18446744073709551616 else z % 18446744073709551616 := by simp [IntKind.wrap, IntKind.bits, IntKind.signed]
 rw [this, h2, if_neg (by omega)]
end Go.Proofs.YtnfojonmohijpaaGreatDoor
namespace Go.Proofs.YtnfojonmohijpaaGreatDoor
open Go.RowKit
def hxR (p : US) : R Nat := if hexd p.cur < 0 then .bad p.ix else if hexd (at' p.s (p.ix + 1)) < 0 then .bad (p.ix + 1) else .ok (16 * hexd p.cur + hexd (at' p.s (p.ix + 1))).toNat (p.ix + 2)
theorem hexd_neg {c : Int} (h : c < 0) : hexd c < 0 := by
 unfold hexd; split
 ·omega
 ·split <;> omega
theorem utake_hex (b : Nat) (p : US) (w : World) (hp : UB w b p) (hs : p.s.size ≤ 20000) (hle : p.ix ≤ p.s.size) :
    Calls Tryz.prog 218 #[.pointer (some ⟨b, 0, none⟩), .func (.func 219) #[] #[]] w (UPB b p w (if hexd p.cur < 0 then .bad p.ix else .ok p.cur (p.ix + 1))) := by
 refine utake_may b p 219 #[] (decide (0 ≤ hexd p.cur)) w hp hs hle (fun h => may_isHex h (ucur_bd p).2 w) _ ?_
 by_cases h : hexd p.cur < 0
 ·rw [if_pos h, if_neg (by simp; omega)]
 ·rw [if_neg h, if_pos ⟨by
    rcases Int.lt_or_le p.cur 0 with h0 | h0
    · exact absurd (hexd_neg h0) h
    · exact h0, by simp; omega⟩]
set_option maxRecDepth 100000 in
set_option maxHeartbeats 1000000 in
theorem uhexPair_any (b : Nat) (p : US) (w : World) (hp : UB w b p) (hs : p.s.size ≤ 20000) (hle : p.ix ≤ p.s.size) :
    Calls Tryz.prog 182 #[.pointer (some ⟨b, 0, none⟩)] w (UPN b p w (hxR p)) := by
 unfold hxR
 have hwD : Keeps [] w w.drew := (Keeps.refl [] w).drewN 1
 have hpD := hp.keep hwD (by simp)
 have hT := utake_hex b p w.drew hpD hs hle
 by_cases h1 : hexd p.cur < 0
 ·rw [if_pos h1] at hT ⊢
  have HT : Hid (Calls Tryz.prog 218 #[.pointer (some ⟨b, 0, none⟩), .func (.func 219) #[] #[]] w.drew (UPB b p w.drew (.bad p.ix))) := hT
  clear hT h1
  go_enter Tryz.func182, Tryz.ntmps182
  go_wp2_with fail
  go_region_dies
  all_goals
   refine HT.out.mono ?_
   rintro e w1 ⟨hk1, hc1⟩
   subst hc1
   simp only [fault]
   exact ⟨rfl, (hwD.mono (by simp)).trans hk1, rfl⟩
 ·rw [if_neg h1] at hT ⊢
  have hlt : p.ix < p.s.size := at'_nn (by
    rcases Int.lt_or_le p.cur 0 with h0 | h0
    · exact absurd (hexd_neg h0) h1
    · exact h0)
  have hT2 : ∀ w1, UB w1 b { p with ix := p.ix + 1 } → Calls Tryz.prog 218 #[.pointer (some ⟨b, 0, none⟩), .func (.func 219) #[] #[]] w1 (UPB b { p with ix := p.ix + 1 } w1 (if hexd (at' p.s (p.ix + 1)) < 0 then .bad (p.ix + 1) else .ok (at' p.s (p.ix + 1)) (p.ix + 1 + 1))) := fun w1 hq => utake_hex b { p with ix := p.ix + 1 } w1 hq hs (by simp only; omega)
  by_cases h2 : hexd (at' p.s (p.ix + 1)) < 0
  ·rw [if_pos h2]
   simp only [if_pos h2] at hT2
   have HT : Hid (Calls Tryz.prog 218 #[.pointer (some ⟨b, 0, none⟩), .func (.func 219) #[] #[]] w.drew (UPB b p w.drew (.ok p.cur (p.ix + 1)))) := hT
   have HT2 : Hid (∀ w1, UB w1 b { p with ix := p.ix + 1 } → Calls Tryz.prog 218 #[.pointer (some ⟨b, 0, none⟩), .func (.func 219) #[] #[]] w1 (UPB b { p with ix := p.ix + 1 } w1 (.bad (p.ix + 1)))) := hT2
   clear hT hT2 h1 h2
   go_enter Tryz.func182, Tryz.ntmps182
   go_wp2_with fail
   refine wp_region_held (S := fun _ => True) (by kernel_rfl) ?_
   change wpAnyH _ _ _ _ _ _ _ _ (World.drew _)
   refine wpAnyH_tk 0 _ (some 5) (.pointer (some ⟨b, 0, none⟩)) rfl rfl (by kernel_rfl) (by kernel_rfl) (by kernel_rfl) (fun _ _ _ h => h) (Or.inl ⟨by rfl, fun X hX => by go_simp⟩) trivial ?_
   simp only [Act.put, List.setIfInBounds_toArray, List.set_cons_zero, List.set_cons_succ]
   refine wpAnyH_tk 1 _ (some 6) (.pointer (some ⟨b, 0, none⟩)) rfl rfl (by kernel_rfl) (by kernel_rfl) (by kernel_rfl) (fun _ _ _ h => h) (Or.inl ⟨by rfl, fun X hX => by go_simp⟩) trivial ?_
   simp only [Act.put, List.setIfInBounds_toArray, List.set_cons_zero, List.set_cons_succ]
   refine wpAnyH_tk 2 _ (some 7) (.pointer (some ⟨b, 0, none⟩)) rfl rfl (by kernel_rfl) (by kernel_rfl) (by kernel_rfl) (fun _ _ _ h => h) (Or.inl ⟨by rfl, fun X hX => by go_simp⟩) trivial ?_
   simp only [Act.put, List.setIfInBounds_toArray, List.set_cons_zero, List.set_cons_succ]
   refine wpAnyH_tk 4 _ (some 9) (.pointer (some ⟨b, 0, none⟩)) rfl rfl (by kernel_rfl) (by kernel_rfl) (by kernel_rfl) (fun _ _ _ h => h) (Or.inl ⟨by rfl, fun X hX => by go_simp⟩) trivial ?_
   simp only [Act.put, List.setIfInBounds_toArray, List.set_cons_zero, List.set_cons_succ]
   refine wpAnyH_tk 5 _ (some 10) (.pointer (some ⟨b, 0, none⟩)) rfl rfl (by kernel_rfl) (by kernel_rfl) (by kernel_rfl) (fun _ _ _ h => h) (Or.inl ⟨by rfl, fun X hX => by go_simp⟩) trivial ?_
   simp only [Act.put, List.setIfInBounds_toArray, List.set_cons_zero, List.set_cons_succ]
   refine wpAnyH_tk 6 _ (some 11) (.pointer (some ⟨b, 0, none⟩)) rfl rfl (by kernel_rfl) (by kernel_rfl) (by kernel_rfl) (fun _ _ _ h => h) (Or.inl ⟨by rfl, fun X hX => by go_simp⟩) trivial ?_
   simp only [Act.put, List.setIfInBounds_toArray, List.set_cons_zero, List.set_cons_succ]
   refine wpAnyH_ready (rs := [3]) (by kernel_rfl) (by simp) ?_
   refine AllReadyH.cons rfl (fun K hK => ?_) AllReadyH.nil
   go_simp
   refine HT.out.mono ?_
   rintro e w1 ⟨hk1, rfl, hq1⟩
   refine hK.out _ _ trivial (fun _ => ?_)
   clear hK K
   refine wpAnyH_ready (rs := [7]) (by kernel_rfl) (by simp) ?_
   refine AllReadyH.cons rfl (fun K hK => ?_) AllReadyH.nil
   go_simp
   refine (HT2.out _ hq1).mono ?_
   rintro e w2 ⟨hk2, rfl⟩
   simp only [fault]
   exact ⟨rfl, ((hwD.mono (by simp)).trans hk1).trans hk2, rfl⟩
  ·rw [if_neg h2]
   simp only [if_neg h2] at hT2
   have HT : Hid (Calls Tryz.prog 218 #[.pointer (some ⟨b, 0, none⟩), .func (.func 219) #[] #[]] w.drew (UPB b p w.drew (.ok p.cur (p.ix + 1)))) := hT
   have HT2 : Hid (∀ w1, UB w1 b { p with ix := p.ix + 1 } → Calls Tryz.prog 218 #[.pointer (some ⟨b, 0, none⟩), .func (.func 219) #[] #[]] w1 (UPB b { p with ix := p.ix + 1 } w1 (.ok (at' p.s (p.ix + 1)) (p.ix + 1 + 1)))) := hT2
   have hlt2 := hexd_lt (s := p.s) (i := p.ix + 1) (by omega)
   have hb1 := hexd_bd p.cur
   have hb2 := hexd_bd (at' p.s (p.ix + 1))
   have hc1 := ucur_bd p
   have hc2 : at' p.s (p.ix + 1) ≤ 255 := (at'_bd p.s (p.ix + 1)).2
   have h00 : 0 ≤ p.cur := by
    rcases Int.lt_or_le p.cur 0 with h0 | h0
    ·exact absurd (hexd_neg h0) h1
    ·exact h0
   have h01 : 0 ≤ at' p.s (p.ix + 1) := by
    rcases Int.lt_or_le (at' p.s (p.ix + 1)) 0 with h0 | h0
    ·exact absurd (hexd_neg h0) h2
    ·exact h0
   have hV1 := hexValue_any p.cur h00 hc1.2 (by omega)
   have hV2 := hexValue_any (at' p.s (p.ix + 1)) h01 hc2 (by omega)
   generalize at' p.s (p.ix + 1) = c2 at *
   generalize p.cur = c1 at *
   obtain ⟨a, ha⟩ : ∃ a : Nat, hexd c1 = (a : Int) := ⟨(hexd c1).toNat, by omega⟩
   obtain ⟨z, hz⟩ : ∃ z : Nat, hexd c2 = (z : Int) := ⟨(hexd c2).toNat, by omega⟩
   rw [ha] at hV1 hb1
   rw [hz] at hV2 hb2
   rw [ha, hz]
   have hor := or_hex (a : Int) (z : Int) (by omega) hb1.2 (by omega) hb2.2
   have hsh : (a : Int) * 16 ≤ 255 := by omega
   have HV1 : Hid (∀ w, Calls Tryz.prog 220 #[.int .u8 c1] w fun e w' => e = .returned (.int .u8 (a : Int)) ∧ w' = w) := hV1
   have HV2 : Hid (∀ w, Calls Tryz.prog 220 #[.int .u8 c2] w fun e w' => e = .returned (.int .u8 (z : Int)) ∧ w' = w) := hV2
   clear hT hT2 h1 h2 hc1 hc2 h00 h01 hV1 hV2 ha hz
   go_enter Tryz.func182, Tryz.ntmps182
   go_wp2_with fail
   go_region_with (first
     | (go_at_call 218; refine (HT2.out _ hq1).mono ?_; rintro e w2 ⟨hk2, rfl, hq2⟩)
     | (go_at_call 218; refine HT.out.mono ?_; rintro e w1 ⟨hk1, rfl, hq1⟩))
   all_goals
    go_wp2_with (first
      | (go_at_call 220; refine (HV1.out _).mono ?_; rintro e w3 ⟨rfl, rfl⟩)
      | (go_at_call 220; refine (HV2.out _).mono ?_; rintro e w3 ⟨rfl, rfl⟩))
    go_ret
    exact ⟨((hwD.mono (by simp)).trans hk1).trans hk2, ret_int (by omega), hq2⟩
def grN (p : US) (n : Nat) : Nat := if digB p.cur = true then n * 10 + (p.cur - 48).toNat else 60
set_option maxRecDepth 100000 in
set_option maxHeartbeats 1000000 in
theorem growsTo_any (b : Nat) (p : US) (n : Nat) (hn : n ≤ 59) (w : World) (hp : UB w b p) (hs : p.s.size ≤ 20000) (hle : p.ix ≤ p.s.size) :
    Calls Tryz.prog 280 #[.pointer (some ⟨b, 0, none⟩), .int .i64 n] w fun e w' => e = .returned (.int .i64 (grN p n)) ∧ UB w' b p ∧ Keeps [] w w' := by
 have hn' : (n : Int) ≤ 59 := by omega
 have hn0 : (0 : Int) ≤ (n : Int) := by omega
 unfold grN
 by_cases hlt : p.ix < p.s.size
 ·have hP := upeek_some b p w hp hlt hs
  cases hd : digB p.cur
  ·rw [if_neg (by simp)]
   have HD : Hid (∀ w, Calls Tryz.prog 236 #[.int .u8 p.cur] w fun e w' => e = .returned (.bool false) ∧ w' = w) := by
    show ∀ w, _
    intro w
    have := isDigit_any p.cur w
    rwa [hd] at this
   clear hd
   go_enter Tryz.func280, Tryz.ntmps280
   go_wp2_with (first | (go_at_call 167; refine hP.mono ?_; rintro e w1 ⟨rfl, hp1, hk1⟩) | (go_at_call 236; refine (HD.out _).mono ?_; rintro e w2 ⟨rfl, rfl⟩))
   go_ret
   exact ⟨rfl, hp1, hk1⟩
  ·rw [if_pos rfl]
   have hc : 48 ≤ p.cur ∧ p.cur ≤ 57 := by simpa [digB] using hd
   have HD : Hid (∀ w, Calls Tryz.prog 236 #[.int .u8 p.cur] w fun e w' => e = .returned (.bool true) ∧ w' = w) := by
    show ∀ w, _
    intro w
    have := isDigit_any p.cur w
    rwa [hd] at this
   obtain ⟨c, hcc⟩ : ∃ c : Nat, p.cur = ((48 + c : Nat) : Int) := ⟨(p.cur - 48).toNat, by omega⟩
   have hc9 : (c : Int) ≤ 9 := by omega
   have hc0 : (0 : Int) ≤ (c : Int) := by omega
   have e : (p.cur - 48).toNat = c := by omega
   rw [e]
   have HC : Hid (p.cur = ((48 + c : Nat) : Int)) := hcc
   rw [hcc] at hP HD
   clear hd hc hcc e
   go_enter Tryz.func280, Tryz.ntmps280
   go_wp2_with (first | (go_at_call 167; refine hP.mono ?_; rintro e w1 ⟨rfl, hp1, hk1⟩) | (go_at_call 236; refine (HD.out _).mono ?_; rintro e w2 ⟨rfl, rfl⟩))
   go_ret
   exact ⟨by first | rfl | go_num | exact ret_int (by omega), hp1, hk1⟩
 ·have hge : p.ix = p.s.size := by omega
  have h0 : p.cur = -1 := at'_ge (by omega)
  rw [h0, if_neg (by decide)]
  have hP := upeek_none b p w hp hge
  clear h0 hge hlt
  go_enter Tryz.func280, Tryz.ntmps280
  go_wp2_with (first | (go_at_call 167; refine hP.mono ?_; rintro e w1 ⟨rfl, hp1, hk1⟩))
  go_ret
  exact ⟨rfl, hp1, hk1⟩
end Go.Proofs.YtnfojonmohijpaaGreatDoor
