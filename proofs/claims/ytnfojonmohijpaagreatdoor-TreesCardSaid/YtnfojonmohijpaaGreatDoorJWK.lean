/-
  DERIVED. Plain mathematics: right trees, their texts, and the brackets in them. Nothing of the program stands here.
-/
import Derived.Test.YtnfojonmohijpaaGreatDoorJUG
import Derived.Test.YtnfojonmohijpaaGreatDoorJUJ
import Derived.Test.YtnfojonmohijpaaGreatDoorJSD
import Derived.Test.YtnfojonmohijpaaGreatDoorJRF
import Derived.Test.YtnfojonmohijpaaGreatDoorJUM
import Derived.BigQuiet
import Derived.Deep.Onto
import Derived.Deep.Cut
import Derived.Deep.QuietTactic
set_option linter.unusedSimpArgs false
set_option linter.unusedVariables false
namespace Go.Proofs.YtnfojonmohijpaaGreatDoor
inductive TO : Bool → Tr → Prop
 | tnil : TO true .tnil
 | tbyte (b : Nat) : b < 256 → TO true (.tbyte b)
 | tgrp (k : Nat) (x : Tr) : 1 ≤ k → k ≤ 9 → TO true x → TO true (.tgrp k x)
 | talt (p : Nat) (x : Tr) : p ≤ 59 → TO true x → TO true (.talt p x)
 | tser (l : Tr) : TO false l → 2 ≤ (tl l).length → TO true (.tser l)
 | trep (l : Tr) : TO false l → TO true (.trep l)
 | lnil : TO false .lnil
 | lcons (x r : Tr) : TO true x → TO false r → TO false (.lcons x r)
def nobr (l : List UInt8) : Prop := ∀ c, c ∈ l → c ≠ 40 ∧ c ≠ 41
def dep : List UInt8 → Int
 | [] => 0
 | c :: l => (if c = 40 then 1 else if c = 41 then -1 else 0) + dep l
theorem dep_app : ∀ (a b : List UInt8), dep (a ++ b) = dep a + dep b
 | [], b => by simp [dep]
 | c :: a, b => by rw [List.cons_append, dep, dep, dep_app a b]; omega
theorem dep_nobr : ∀ {l : List UInt8}, nobr l → dep l = 0
 | [], _ => rfl
 | c :: l, h => by
  have h1 := h c (by simp)
  rw [dep, if_neg h1.1, if_neg h1.2, dep_nobr (fun x hx => h x (by simp [hx]))]
  rfl
def up (l : List UInt8) : Prop := ∀ n, 0 ≤ dep (l.take n)
theorem up_nil : up [] := fun n => by simp [dep]
theorem up_nobr {l : List UInt8} (h : nobr l) : up l := fun n => by rw [dep_nobr (fun c hc => h c (List.mem_of_mem_take hc))]; omega
theorem up_app {a b : List UInt8} (ha : up a) (hb : up b) : up (a ++ b) := by
 intro n
 rw [List.take_append, dep_app]
 rcases Nat.lt_or_ge n a.length with h | h
 ·have : b.take (n - a.length) = [] := by rw [show n - a.length = 0 by omega]; simp
  rw [this]
  have := ha n
  simp only [dep]
  omega
 ·rw [List.take_of_length_le h]
  have h1 := ha a.length
  rw [List.take_length] at h1
  have := hb (n - a.length)
  omega
theorem nobr_dec (p : Nat) (hp : p ≤ 99) : nobr (decT p) := by
 have key : ∀ m : Fin 100, ∀ c, c ∈ decT m.val → c ≠ 40 ∧ c ≠ 41 := by decide
 exact key ⟨p, by omega⟩
set_option maxRecDepth 100000 in
theorem nobr_hex (b : Nat) (hb : b < 256) : nobr (hexT b) := by
 have key : ∀ m : Fin 256, ∀ c, c ∈ hexT m.val → c ≠ 40 ∧ c ≠ 41 := by decide
 exact key ⟨b, hb⟩
theorem nobr_app {a b : List UInt8} (ha : nobr a) (hb : nobr b) : nobr (a ++ b) := fun c hc => (List.mem_append.1 hc).elim (ha c) (hb c)
def Tr.mid : Tr → List UInt8
 | .tgrp k x => [103] ++ decT k ++ [32] ++ x.text
 | .talt p x => [97] ++ decT p ++ [32] ++ x.text
 | .tser l => [115] ++ l.text
 | .trep l => [114] ++ l.text
 | _ => []
theorem brk {m : List UInt8} (h : up m) (hd : dep m = 0) : up ([40] ++ m ++ [41]) ∧ dep ([40] ++ m ++ [41]) = 0 ∧ ∀ n, 0 < n → n < ([40] ++ m ++ [41]).length → 0 < dep (([40] ++ m ++ [41]).take n) := by
 have key : ∀ n, n ≤ m.length → dep (([40] ++ m ++ [41]).take (n + 1)) = 1 + dep (m.take n) := by
  intro n hn
  have : ([40] ++ m ++ [41]).take (n + 1) = 40 :: m.take n := by
   simp only [List.cons_append, List.nil_append, List.take_succ_cons]
   rw [List.take_append_of_le_length hn]
  rw [this, dep, if_pos rfl]
 have hall : dep ([40] ++ m ++ [41]) = 0 := by
  rw [dep_app, dep_app, hd]
  decide
 refine ⟨?_, hall, ?_⟩
 ·intro n
  cases n with
  | zero => simp [dep]
  | succ n =>
   rcases Nat.lt_or_ge m.length n with h1 | h1
   ·rw [List.take_of_length_le (by simp; omega), hall]
    exact Int.le_refl _
   ·rw [key n h1]
    have := h n
    omega
 ·intro n hn hl
  cases n with
  | zero => omega
  | succ n =>
   have h1 : n ≤ m.length := by simp at hl; omega
   rw [key n h1]
   have := h n
   omega
theorem TO.even {b : Bool} {t : Tr} (h : TO b t) : up t.text ∧ dep t.text = 0 ∧ up t.mid ∧ dep t.mid = 0 := by
 have n1 : ∀ c : UInt8, c ≠ 40 → c ≠ 41 → nobr [c] := fun c h1 h2 x hx => by rw [List.mem_singleton.1 hx]; exact ⟨h1, h2⟩
 induction h with
 | tnil => exact ⟨up_nobr (n1 _ (by decide) (by decide)), by decide, up_nil, rfl⟩
 | tbyte b hb =>
  have h := nobr_app (n1 98 (by decide) (by decide)) (nobr_hex b hb)
  exact ⟨up_nobr h, dep_nobr h, up_nil, rfl⟩
 | tgrp k x h1 h9 _ ih =>
  have h := nobr_app (nobr_app (n1 103 (by decide) (by decide)) (nobr_dec k (by omega))) (n1 32 (by decide) (by decide))
  have hm : up (Tr.tgrp k x).mid := up_app (up_nobr h) ih.1
  have hd : dep (Tr.tgrp k x).mid = 0 := by show dep (_ ++ x.text) = 0; rw [dep_app, dep_nobr h, ih.2.1]; rfl
  have e : (Tr.tgrp k x).text = [40] ++ (Tr.tgrp k x).mid ++ [41] := by simp [Tr.text, Tr.mid]
  obtain ⟨a, b, _⟩ := brk hm hd
  exact ⟨by rw [e]; exact a, by rw [e]; exact b, hm, hd⟩
 | talt p x h1 _ ih =>
  have h := nobr_app (nobr_app (n1 97 (by decide) (by decide)) (nobr_dec p (by omega))) (n1 32 (by decide) (by decide))
  have hm : up (Tr.talt p x).mid := up_app (up_nobr h) ih.1
  have hd : dep (Tr.talt p x).mid = 0 := by show dep (_ ++ x.text) = 0; rw [dep_app, dep_nobr h, ih.2.1]; rfl
  have e : (Tr.talt p x).text = [40] ++ (Tr.talt p x).mid ++ [41] := by simp [Tr.text, Tr.mid]
  obtain ⟨a, b, _⟩ := brk hm hd
  exact ⟨by rw [e]; exact a, by rw [e]; exact b, hm, hd⟩
 | tser l _ _ ih =>
  have h := n1 115 (by decide) (by decide)
  have hm : up (Tr.tser l).mid := up_app (up_nobr h) ih.1
  have hd : dep (Tr.tser l).mid = 0 := by show dep (_ ++ l.text) = 0; rw [dep_app, dep_nobr h, ih.2.1]; rfl
  have e : (Tr.tser l).text = [40] ++ (Tr.tser l).mid ++ [41] := by simp [Tr.text, Tr.mid]
  obtain ⟨a, b, _⟩ := brk hm hd
  exact ⟨by rw [e]; exact a, by rw [e]; exact b, hm, hd⟩
 | trep l _ ih =>
  have h := n1 114 (by decide) (by decide)
  have hm : up (Tr.trep l).mid := up_app (up_nobr h) ih.1
  have hd : dep (Tr.trep l).mid = 0 := by show dep (_ ++ l.text) = 0; rw [dep_app, dep_nobr h, ih.2.1]; rfl
  have e : (Tr.trep l).text = [40] ++ (Tr.trep l).mid ++ [41] := by simp [Tr.text, Tr.mid]
  obtain ⟨a, b, _⟩ := brk hm hd
  exact ⟨by rw [e]; exact a, by rw [e]; exact b, hm, hd⟩
 | lnil => exact ⟨up_nil, rfl, up_nil, rfl⟩
 | lcons x r _ _ i1 i2 =>
  have h := n1 32 (by decide) (by decide)
  refine ⟨up_app (up_app (up_nobr h) i1.1) i2.1, ?_, up_nil, rfl⟩
  show dep ([32] ++ x.text ++ r.text) = 0
  rw [dep_app, dep_app, dep_nobr h, i1.2.1, i2.2.1]
  rfl
theorem TO.kinds {t : Tr} (h : TO true t) : t = .tnil ∨ (∃ b, t = .tbyte b ∧ b < 256) ∨ (t.text = [40] ++ t.mid ++ [41] ∧ ∀ n, 0 < n → n < t.text.length → 0 < dep (t.text.take n)) := by
 have he := h.even
 cases h with
 | tnil => exact Or.inl rfl
 | tbyte b hb => exact Or.inr (Or.inl ⟨b, rfl, hb⟩)
 | tgrp k x _ _ _ =>
  have e : (Tr.tgrp k x).text = [40] ++ (Tr.tgrp k x).mid ++ [41] := by simp [Tr.text, Tr.mid]
  exact Or.inr (Or.inr ⟨e, by rw [e]; exact (brk he.2.2.1 he.2.2.2).2.2⟩)
 | talt p x _ _ =>
  have e : (Tr.talt p x).text = [40] ++ (Tr.talt p x).mid ++ [41] := by simp [Tr.text, Tr.mid]
  exact Or.inr (Or.inr ⟨e, by rw [e]; exact (brk he.2.2.1 he.2.2.2).2.2⟩)
 | tser l _ _ =>
  have e : (Tr.tser l).text = [40] ++ (Tr.tser l).mid ++ [41] := by simp [Tr.text, Tr.mid]
  exact Or.inr (Or.inr ⟨e, by rw [e]; exact (brk he.2.2.1 he.2.2.2).2.2⟩)
 | trep l _ =>
  have e : (Tr.trep l).text = [40] ++ (Tr.trep l).mid ++ [41] := by simp [Tr.text, Tr.mid]
  exact Or.inr (Or.inr ⟨e, by rw [e]; exact (brk he.2.2.1 he.2.2.2).2.2⟩)
end Go.Proofs.YtnfojonmohijpaaGreatDoor
namespace Go.Proofs.YtnfojonmohijpaaGreatDoor
def Lies (s : ByteArray) (i : Nat) (p : List UInt8) : Prop := ∀ k c, p[k]? = some c → at' s (i + k) = (c.toNat : Int)
theorem Lies.nil {s : ByteArray} {i : Nat} : Lies s i [] := fun k c h => by simp at h
theorem Lies.cons {s : ByteArray} {i : Nat} {c : UInt8} {p : List UInt8} : Lies s i (c :: p) ↔ at' s i = (c.toNat : Int) ∧ Lies s (i + 1) p := by
 constructor
 ·intro h
  refine ⟨h 0 c rfl, fun k d hd => ?_⟩
  have := h (k + 1) d (by simpa using hd)
  rw [show i + 1 + k = i + (k + 1) by omega]
  exact this
 ·rintro ⟨h1, h2⟩ k d hd
  cases k with
  | zero => simp at hd; subst hd; exact h1
  | succ k =>
   have := h2 k d (by simpa using hd)
   rw [show i + (k + 1) = i + 1 + k by omega]
   exact this
theorem Lies.app {s : ByteArray} {p q : List UInt8} : ∀ {i : Nat}, Lies s i (p ++ q) ↔ Lies s i p ∧ Lies s (i + p.length) q := by
 induction p with
 | nil => intro i; simp [Lies.nil]
 | cons c p ih =>
  intro i
  rw [List.cons_append, Lies.cons, ih, Lies.cons, List.length_cons, show i + 1 + p.length = i + (p.length + 1) by omega]
  exact ⟨fun ⟨a, b, d⟩ => ⟨⟨a, b⟩, d⟩, fun ⟨⟨a, b⟩, d⟩ => ⟨a, b, d⟩⟩
end Go.Proofs.YtnfojonmohijpaaGreatDoor
namespace Go.Proofs.YtnfojonmohijpaaGreatDoor
def TXc (s : ByteArray) (k : TK) (i : Nat) : R Tr → Prop
 | .bad _ => True
 | .ok t j => match k with
  | .thing => TO true t ∧ Lies s i t.text ∧ j = i + t.text.length
  | .body => TO true t ∧ t.text = [40] ++ t.mid ++ [41] ∧ Lies s i t.mid ∧ j = i + t.mid.length
  | .row n _ => TO false t ∧ Lies s i t.text ∧ j = i + t.text.length ∧ n ≤ (tl t).length
theorem lies_one {s : ByteArray} {i : Nat} {c : UInt8} (h : at' s i = (c.toNat : Int)) : Lies s i [c] := Lies.cons.2 ⟨h, Lies.nil⟩
set_option maxRecDepth 100000 in
theorem hexs_of (c : Int) (h1 : c ≤ 255) (hh : 0 ≤ hexd c) : ((hexs.getD (hexd c).toNat 0).toNat : Int) = c := by
 have h0 : 0 ≤ c := by
  rcases Int.lt_or_le c 0 with h | h
  ·unfold hexd at hh; split at hh; omega; split at hh <;> omega
  ·exact h
 obtain ⟨n, rfl⟩ : ∃ n : Nat, c = n := ⟨c.toNat, by omega⟩
 have key : ∀ m : Fin 256, 0 ≤ hexd (m.val : Int) → ((hexs.getD (hexd (m.val : Int)).toNat 0).toNat : Int) = (m.val : Int) := by decide
 exact key ⟨n, by omega⟩ hh
theorem digT_at {s : ByteArray} {i k : Nat} (hk : k ≤ 9) (h : at' s i = ((48 + k : Nat) : Int)) : Lies s i (digT k) := by
 refine lies_one ?_
 have : (UInt8.ofNat (48 + k)).toNat = 48 + k := by simp; omega
 rw [this]
 exact h
theorem decT_at {s : ByteArray} {i : Nat} (h : digB (at' s i) = true) : plN s i ≤ 59 ∧ Lies s i (decT (plN s i)) ∧ plE s i = i + (decT (plN s i)).length := by
 have hd : 48 ≤ at' s i ∧ at' s i ≤ 57 := by simpa [digB] using h
 obtain ⟨a, ha⟩ : ∃ a : Nat, at' s i = ((48 + a : Nat) : Int) := ⟨(at' s i - 48).toNat, by omega⟩
 have ha9 : a ≤ 9 := by omega
 have ea : (at' s i - 48).toNat = a := by omega
 by_cases hD : plD s i
 ·have hz : 48 ≤ at' s (i + 1) ∧ at' s (i + 1) ≤ 57 := by have := hD.2.2; simpa [digB] using this
  obtain ⟨c, hc⟩ : ∃ c : Nat, at' s (i + 1) = ((48 + c : Nat) : Int) := ⟨(at' s (i + 1) - 48).toNat, by omega⟩
  have ec : (at' s (i + 1) - 48).toNat = c := by omega
  have hN : plN s i = 10 * a + c := by unfold plN; rw [if_pos hD, ea, ec]
  have hE : plE s i = i + 2 := by unfold plE; rw [if_pos hD]
  have h1 := hD.1
  have h2 := hD.2.1
  have hdec : decT (10 * a + c) = digT a ++ digT c := by
   unfold decT
   rw [if_neg (by omega), show (10 * a + c) / 10 = a by omega, show (10 * a + c) % 10 = c by omega]
  rw [hN, hE, hdec]
  exact ⟨by omega, Lies.app.2 ⟨digT_at ha9 ha, digT_at (by omega) hc⟩, by simp [digT]⟩
 ·have hN : plN s i = a := by unfold plN; rw [if_neg hD, ea]
  have hE : plE s i = i + 1 := by unfold plE; rw [if_neg hD]
  have hdec : decT a = digT a := by unfold decT; rw [if_pos (by omega)]
  rw [hN, hE, hdec]
  exact ⟨by omega, digT_at ha9 ha, rfl⟩
theorem TG.text {s : ByteArray} {k : TK} {d i : Nat} {q : R Tr} (h : TG s k d i q) : TXc s k i q := by
 induction h with
 | nil d i h1 => exact ⟨.tnil, lies_one h1, rfl⟩
 | byte d i h1 h2 h3 =>
  have b1 := hexd_bd (at' s (i + 1))
  have b2 := hexd_bd (at' s (i + 2))
  have c1 := (at'_bd s (i + 1)).2
  have c2 := (at'_bd s (i + 2)).2
  have e1 := hexs_of _ c1 h2
  have e2 := hexs_of _ c2 h3
  obtain ⟨x, hx⟩ : ∃ x : Nat, hexd (at' s (i + 1)) = (x : Int) := ⟨(hexd (at' s (i + 1))).toNat, by omega⟩
  obtain ⟨y, hy⟩ : ∃ y : Nat, hexd (at' s (i + 2)) = (y : Int) := ⟨(hexd (at' s (i + 2))).toNat, by omega⟩
  rw [hx, Int.toNat_natCast] at e1
  rw [hy, Int.toNat_natCast] at e2
  rw [hx, hy, show (16 * (x : Int) + (y : Int)).toNat = 16 * x + y by omega]
  have hq : (16 * x + y) / 16 = x := by omega
  have hr : (16 * x + y) % 16 = y := by omega
  refine ⟨.tbyte _ (by omega), ?_, rfl⟩
  show Lies s i ([98] ++ hexT (16 * x + y))
  refine Lies.app.2 ⟨lies_one h1, ?_⟩
  unfold hexT
  rw [hq, hr]
  exact Lies.cons.2 ⟨e1.symm, lies_one e2.symm⟩
 | opn d i q h1 h2 _ ih =>
  cases q with
  | bad => trivial
  | ok t j =>
   obtain ⟨a, b, c, e⟩ := ih
   by_cases h3 : at' s j = 41
   ·simp only [shut, if_pos h3]
    refine ⟨a, ?_, ?_⟩
    ·rw [b]
     refine Lies.app.2 ⟨Lies.app.2 ⟨lies_one h1, c⟩, ?_⟩
     refine lies_one ?_
     rw [show i + (([40] : List UInt8) ++ t.mid).length = j by simp; omega]
     exact h3
    ·rw [b]; simp; omega
   ·simp only [shut, if_neg h3]
    trivial
 | grp d i q h1 h2 h3 h4 ih =>
  cases q with
  | bad => trivial
  | ok l j =>
   obtain ⟨x, rfl, _, _⟩ := TG.one h4
   obtain ⟨a, b, e, _⟩ := ih
   obtain ⟨g, hg⟩ : ∃ g : Nat, (at' s (i + 1) - 48).toNat = g := ⟨_, rfl⟩
   have hg9 : g ≤ 9 := by omega
   have hdec : decT g = digT g := by unfold decT; rw [if_pos (by omega)]
   cases a with
   | lcons _ _ ax _ =>
    have b' : Lies s (i + 2) ([32] ++ x.text) := by have := b; simpa [Tr.text] using this
    show TO true (.tgrp _ x) ∧ _ ∧ Lies s i ([103] ++ decT _ ++ [32] ++ x.text) ∧ _
    rw [hg, hdec]
    refine ⟨.tgrp g x (by omega) hg9 ax, by simp [Tr.text, Tr.mid, hdec], ?_, ?_⟩
    ·rw [List.append_assoc]
     refine Lies.app.2 ⟨Lies.app.2 ⟨lies_one h1, digT_at hg9 (by show at' s (i + 1) = _; omega)⟩, ?_⟩
     exact b'
    ·rw [e]; simp [Tr.text, Tr.mid, hdT, hdec, digT]; omega
 | alt d i q h1 h2 h4 ih =>
  cases q with
  | bad => trivial
  | ok l j =>
   obtain ⟨x, rfl, _, _⟩ := TG.one h4
   obtain ⟨a, b, e, _⟩ := ih
   obtain ⟨p1, p2, p3⟩ := decT_at h2
   cases a with
   | lcons _ _ ax _ =>
    have b' : Lies s (plE s (i + 1)) ([32] ++ x.text) := by have := b; simpa [Tr.text] using this
    show TO true (.talt _ x) ∧ _ ∧ Lies s i ([97] ++ decT _ ++ [32] ++ x.text) ∧ _
    refine ⟨.talt _ x p1 ax, by simp [Tr.text, Tr.mid], ?_, ?_⟩
    ·rw [List.append_assoc]
     refine Lies.app.2 ⟨Lies.app.2 ⟨lies_one h1, p2⟩, ?_⟩
     rw [show i + (([97] : List UInt8) ++ decT (plN s (i + 1))).length = plE s (i + 1) by simp; omega]
     exact b'
    ·rw [e, p3]; simp [Tr.text, Tr.mid, hdT]; omega
 | ser d i q h1 _ ih =>
  cases q with
  | bad => trivial
  | ok l j =>
   obtain ⟨a, b, e, c⟩ := ih
   exact ⟨.tser l a c, by simp [Tr.text, Tr.mid], Lies.app.2 ⟨lies_one h1, b⟩, by rw [e]; simp [Tr.mid]; omega⟩
 | rep d i q h1 _ ih =>
  cases q with
  | bad => trivial
  | ok l j =>
   obtain ⟨a, b, e, c⟩ := ih
   exact ⟨.trep l a, by simp [Tr.text, Tr.mid], Lies.app.2 ⟨lies_one h1, b⟩, by rw [e]; simp [Tr.mid]; omega⟩
 | fin d i => exact ⟨.lnil, Lies.nil, rfl, Nat.zero_le _⟩
 | stop d i h1 => exact ⟨.lnil, Lies.nil, rfl, Nat.zero_le _⟩
 | go n m d i j t q h0 h1 _ _ ih1 ih2 =>
  obtain ⟨a1, b1, e1⟩ := ih1
  cases q with
  | bad => trivial
  | ok l j2 =>
   obtain ⟨a2, b2, e2, c2⟩ := ih2
   refine ⟨.lcons t l a1 a2, ?_, ?_, by simp [tl]; omega⟩
   ·show Lies s i ([32] ++ t.text ++ l.text)
    refine Lies.app.2 ⟨Lies.app.2 ⟨lies_one h1, b1⟩, ?_⟩
    rw [show i + (([32] : List UInt8) ++ t.text).length = j by simp; omega]
    exact b2
   ·show j2 = i + ([32] ++ t.text ++ l.text).length
    simp
    omega
 | _ => trivial
theorem TreeR.text {s : ByteArray} {t : Tr} {j : Nat} (h : ∃ q0, TG s .thing 0 0 q0 ∧ q0 = .ok t j) (hj : ¬ j < s.size) : TO true t ∧ s = nmB t.text := by
 obtain ⟨q0, h, rfl⟩ := h
 obtain ⟨a, b, e⟩ := h.text
 have hb := h.bd (Nat.zero_le _)
 have hz : s.size = t.text.length := by have := hb.2.1; omega
 refine ⟨a, ?_⟩
 apply ByteArray.ext
 apply Array.ext'
 apply List.ext_getElem?
 intro n
 have hsl : s.data.toList.length = s.size := Array.length_toList
 rcases Nat.lt_or_ge n s.size with hn | hn
 ·have hn' : n < t.text.length := by omega
  have h1 := b n _ (List.getElem?_eq_getElem hn')
  rw [Nat.zero_add, at'_lt hn] at h1
  have h2 : s[n].toNat = (t.text[n]'hn').toNat := by omega
  have h3 : s[n] = t.text[n]'hn' := UInt8.toNat_inj.1 h2
  have h4 : s.data.toList[n]? = some s[n] := by rw [Array.getElem?_toList]; exact Array.getElem?_eq_getElem hn
  rw [h4, h3]
  simp [nmB, hn']
 ·rw [List.getElem?_eq_none (by omega)]
  simp [nmB]
  omega
end Go.Proofs.YtnfojonmohijpaaGreatDoor
namespace Go.Proofs.YtnfojonmohijpaaGreatDoor
open Go.RowKit
structure WS where
 s : ByteArray
 ix : Nat
 bad : Int
 dp : Nat
 v : Value
def WS.cells (p : WS) : Array Value := #[.string p.s, .int .i64 p.ix, .int .i64 p.bad, .int .i64 p.dp, p.v]
def WB (w : World) (b : Nat) (p : WS) : Prop := w.heap[b]? = some (.cells p.cells 164 (0, 0))
theorem WB.lt {w : World} {b : Nat} {p : WS} (h : WB w b p) : b < w.heap.size := (Array.getElem?_eq_some_iff.1 h).1
theorem WB.keep {w w' : World} {b : Nat} {p : WS} {S : List Nat} (h : WB w b p) (hk : Keeps S w w') (hb : b ∉ S) : WB w' b p := (hk.block b h.lt hb).trans h
theorem WB.drewN {w : World} {b : Nat} {p : WS} (h : WB w b p) (n : Nat) : WB (w.drewN n) b p := h
theorem WB.main {w : World} {b : Nat} {p : WS} (h : WB w b p) :
    w.cell? ⟨b, 0, none⟩ = some (.string p.s) ∧ w.cell? ⟨b, 1, none⟩ = some (.int .i64 p.ix) ∧ w.cell? ⟨b, 2, none⟩ = some (.int .i64 p.bad) ∧ w.cell? ⟨b, 3, none⟩ = some (.int .i64 p.dp) ∧ w.cell? ⟨b, 4, none⟩ = some p.v ∧
    w.frozen? ⟨b, 1, none⟩ = false ∧ w.frozen? ⟨b, 2, none⟩ = false ∧ w.frozen? ⟨b, 3, none⟩ = false ∧ w.frozen? ⟨b, 4, none⟩ = false := by
 unfold WB at h
 simp [World.cell?, World.frozen?, h, WS.cells]
theorem WB.setIx {w : World} {b : Nat} {p : WS} (h : WB w b p) (x : Nat) : WB (w.setCell ⟨b, 1, none⟩ (.int .i64 x)) b { p with ix := x } := by
 unfold WB at *
 simp [World.setCell, Array.getElem?_modify, h, WS.cells]
theorem WB.setBad {w : World} {b : Nat} {p : WS} (h : WB w b p) (x : Int) : WB (w.setCell ⟨b, 2, none⟩ (.int .i64 x)) b { p with bad := x } := by
 unfold WB at *
 simp [World.setCell, Array.getElem?_modify, h, WS.cells]
theorem WB.setDp {w : World} {b : Nat} {p : WS} (h : WB w b p) (x : Nat) : WB (w.setCell ⟨b, 3, none⟩ (.int .i64 x)) b { p with dp := x } := by
 unfold WB at *
 simp [World.setCell, Array.getElem?_modify, h, WS.cells]
theorem WB.setV {w : World} {b : Nat} {p : WS} (h : WB w b p) (x : Value) : WB (w.setCell ⟨b, 4, none⟩ x) b { p with v := x } := by
 unfold WB at *
 simp [World.setCell, Array.getElem?_modify, h, WS.cells]
def WS.cur (p : WS) : Int := at' p.s p.ix
set_option maxRecDepth 100000 in
set_option maxHeartbeats 400000 in
theorem wfail_set (b : Nat) (p : WS) (w : World) (hp : WB w b p) (hb : p.bad = -1) :
    Calls Tryz.prog 90 #[.pointer (some ⟨b, 0, none⟩)] w fun e w' => e = .returned (.tuple #[]) ∧ WB w' b { p with bad := p.ix } ∧ Keeps [b] w w' := by
 obtain ⟨c0, c1, c2, c3, c4, f1, f2, f3, f4⟩ := hp.main
 rw [hb] at c2
 clear hb
 go_enter Tryz.func90, Tryz.ntmps90
 go_wp2_with fail
 go_end0
 exact ⟨rfl, hp.setBad p.ix, (Keeps.refl [b] w).setCell (by simp) _⟩
set_option maxRecDepth 100000 in
set_option maxHeartbeats 400000 in
theorem wfail_idle (b : Nat) (p : WS) (w : World) (hp : WB w b p) (hb : 0 ≤ p.bad) :
    Calls Tryz.prog 90 #[.pointer (some ⟨b, 0, none⟩)] w fun e w' => e = .returned (.tuple #[]) ∧ w' = w := by
 obtain ⟨c0, c1, c2, c3, c4, f1, f2, f3, f4⟩ := hp.main
 have hd : decide (p.bad < 0) = false := by simp; omega
 have hn : ¬ p.bad < 0 := by omega
 clear hb
 go_enter Tryz.func90, Tryz.ntmps90
 go_wp2_with fail
 go_end0
 exact ⟨rfl, rfl⟩
def idxO (l : List UInt8) (c : Int) : Option Nat := l.findIdx? fun u => decide ((u.toNat : Int) = c)
def tkP (p : WS) (l : List UInt8) : WS := match idxO l p.cur with | some _ => { p with ix := p.ix + 1 } | none => { p with bad := p.ix }
def tkV (p : WS) (l : List UInt8) : Int := match idxO l p.cur with | some k => (k : Int) | none => -1
set_option maxRecDepth 100000 in
set_option maxHeartbeats 1000000 in
theorem wtake_idle (b : Nat) (p : WS) (o : ByteArray) (w : World) (hp : WB w b p) (hb : 0 ≤ p.bad) :
    Calls Tryz.prog 143 #[.pointer (some ⟨b, 0, none⟩), .string o] w fun e w' => e = .returned (.int .i64 (-1)) ∧ WB w' b p ∧ Keeps [] w w' := by
 obtain ⟨c0, c1, c2, c3, c4, f1, f2, f3, f4⟩ := hp.main
 have hd : decide (p.bad < 0) = false := by simp; omega
 have HB : Hid (0 ≤ p.bad) := hb
 clear hb
 go_enter Tryz.func143, Tryz.ntmps143
 go_upto_region 2 with (fail)
 go_loopw [5] (fun q wr => q = .int .i64 0 ∧ WB wr b p ∧ Keeps [] w wr) (fun _ _ => 0)
 case atStart => exact ⟨rfl, hp, Keeps.refl _ _⟩
 case round =>
  obtain ⟨rfl, hpr, hkr⟩ := hrel
  clear c0 c1 c2 c3 c4 f1 f2 f3 f4
  obtain ⟨c0, c1, c2, c3, c4, f1, f2, f3, f4⟩ := hpr.main
  go_wp2_with fail
  go_quiet (fail)
  go_wp2_with fail
  refine (wfail_idle b p _ (hpr.drewN _) HB.out).mono ?_
  rintro e w2 ⟨rfl, rfl⟩
  go_wp2_with fail
  go_ret
  exact ⟨rfl, hpr.drewN _, hkr.drewN _⟩
theorem idxO_none {l : List UInt8} {c : Int} (h : ∀ (k : Nat) (u : UInt8), l[k]? = some u → (u.toNat : Int) ≠ c) : idxO l c = none := by
 unfold idxO
 rw [List.findIdx?_eq_none_iff]
 intro u hu
 obtain ⟨k, hk⟩ := List.getElem?_of_mem hu
 simpa using h k u hk
theorem idxO_some {l : List UInt8} {c : Int} {k : Nat} {u : UInt8} (hk : l[k]? = some u) (hu : (u.toNat : Int) = c) (hn : ∀ (j : Nat) (v : UInt8), j < k → l[j]? = some v → (v.toNat : Int) ≠ c) : idxO l c = some k := by
 unfold idxO
 rw [List.findIdx?_eq_some_iff_getElem]
 obtain ⟨h1, h2⟩ := List.getElem?_eq_some_iff.1 hk
 refine ⟨h1, by rw [h2]; simpa using hu, fun j hj => ?_⟩
 have := hn j _ hj (List.getElem?_eq_getElem (by omega))
 simpa using this
set_option maxRecDepth 100000 in
set_option maxHeartbeats 2000000 in
theorem wtake_any (b : Nat) (p : WS) (o : ByteArray) (ho : o.size ≤ 100) (w : World) (hp : WB w b p) (hb : p.bad = -1) (hle : p.ix ≤ p.s.size) (hs : p.s.size ≤ 20000) :
    Calls Tryz.prog 143 #[.pointer (some ⟨b, 0, none⟩), .string o] w fun e w' => e = .returned (.int .i64 (tkV p o.data.toList)) ∧ WB w' b (tkP p o.data.toList) ∧ Keeps [b] w w' := by
 have hoi : (o.size : Int) ≤ 100 := by omega
 have HB : Hid (p.bad = -1) := hb
 by_cases hlt : p.ix < p.s.size
 ·have hki : (p.ix : Int) < (p.s.size : Int) := by omega
  have hk0 : (0 : Int) ≤ (p.ix : Int) := by omega
  have hk2 : (p.ix : Int) ≤ 20000 := by omega
  have ec : p.cur = (p.s[p.ix].toNat : Int) := at'_lt hlt
  have HC : Hid (p.cur = (p.s[p.ix].toNat : Int)) := ec
  clear hb ec
  go_enter Tryz.func143, Tryz.ntmps143
  go_upto_region 2 with (fail)
  go_loopw [5] (fun q wr => ∃ k : Nat, q = .int .i64 k ∧ k ≤ o.size ∧ (∀ (j : Nat) (v : UInt8), j < k → o.data.toList[j]? = some v → (v.toNat : Int) ≠ p.cur) ∧ WB wr b p ∧ Keeps [] w wr) (fun q _ => o.size - (intOf q).toNat)
  case atStart => exact ⟨0, rfl, Nat.zero_le _, fun j v h => absurd h (Nat.not_lt_zero _), hp, Keeps.refl _ _⟩
  case round =>
   obtain ⟨k, rfl, hko, hno, hpr, hkr⟩ := hrel
   have HNO : Hid (∀ (j : Nat) (v : UInt8), j < k → o.data.toList[j]? = some v → (v.toNat : Int) ≠ p.cur) := hno
   obtain ⟨c0, c1, c2, c3, c4, f1, f2, f3, f4⟩ := hpr.main
   rw [HB.out] at c2
   have hkk : (0 : Int) ≤ (k : Int) := by omega
   have hk1 : (k : Int) ≤ 100 := by omega
   clear hno
   by_cases hkl : k < o.size
   ·have hkl' : (k : Int) < (o.size : Int) := by omega
    have hou : o.data.toList[k]? = some (o[k]'hkl) := by
     rw [Array.getElem?_toList]
     exact Array.getElem?_eq_getElem hkl
    have HK : Hid (k < o.size) := hkl
    obtain ⟨n1, hn1⟩ : ∃ n, p.s[p.ix].toNat = n := ⟨_, rfl⟩
    obtain ⟨n2, hn2⟩ : ∃ n, (o[k]'hkl).toNat = n := ⟨_, rfl⟩
    have HO : Hid (∃ u, o.data.toList[k]? = some u ∧ u.toNat = n2) := ⟨_, hou, hn2⟩
    have HCU : Hid (p.cur = (n1 : Int)) := by rw [← hn1]; exact HC.out
    clear hou hko
    by_cases he : n1 = n2
    ·have he' : ((n1 : Int) == (n2 : Int)) = true := by simp [he]
     have HE : Hid (n1 = n2) := he
     clear he
     go_wp2_with fail
     go_quiet (fail)
     go_wp2_with fail
     go_quiet (fail)
     go_wp2_with fail
     go_ret
     have hI : idxO o.data.toList p.cur = some k := by
      obtain ⟨u, h1, h2⟩ := HO.out
      exact idxO_some h1 (by rw [HCU.out, HE.out, h2]) HNO.out
     refine ⟨by unfold tkV; rw [hI]; rfl, ?_, (show Keeps [b] w _ from ((hkr.drewN _).mono (by simp))).setCell (by simp) _⟩
     unfold tkP
     rw [hI]
     exact WB.setIx (show WB _ b p from hpr.drewN _) (p.ix + 1)
    ·have he' : ((n1 : Int) == (n2 : Int)) = false := by simp; omega
     have he'' : (n1 == n2) = false := by simp; omega
     have HE : Hid (n1 ≠ n2) := he
     clear he
     go_wp2_with fail
     go_quiet (fail)
     go_wp2_with fail
     go_quiet (fail)
     go_wp2_with fail
     exact ⟨⟨k + 1, by go_num, HK.out, fun j v hj hv => by
       rcases Nat.lt_or_ge j k with h | h
       · exact HNO.out j v h hv
       · obtain rfl : j = k := by omega
         obtain ⟨u, h1, h2⟩ := HO.out
         rw [h1] at hv
         cases hv
         rw [HCU.out, h2]
         have := HE.out
         omega, hpr.drewN _, hkr.drewN _⟩, by have := HK.out; simp [intOf]; omega⟩
   ·have hnk : decide ((k : Int) < (o.size : Int)) = false := by simp; omega
    have hnk' : decide (k < o.size) = false := by simp; omega
    have hke : k = o.size := by omega
    have HI : Hid (idxO o.data.toList p.cur = none) := idxO_none fun j u hu => HNO.out j u (by
      have h1 := (List.getElem?_eq_some_iff.1 hu).1
      have h2 : o.data.toList.length = o.size := Array.length_toList
      omega) hu
    clear hkl hko hke
    go_wp2_with fail
    go_quiet (fail)
    go_wp2_with fail
    refine (wfail_set b p _ (hpr.drewN _) HB.out).mono ?_
    rintro e w2 ⟨rfl, hp2, hk2'⟩
    go_wp2_with fail
    go_ret
    refine ⟨by unfold tkV; rw [HI.out]; rfl, by unfold tkP; rw [HI.out]; exact hp2, ((hkr.drewN _).mono (by simp)).trans hk2'⟩
 ·have hge : p.ix = p.s.size := by omega
  have hni : decide ((p.ix : Int) < (p.s.size : Int)) = false := by simp; omega
  have hni' : decide (p.ix < p.s.size) = false := by simp; omega
  have hc : p.cur = -1 := at'_ge (by omega)
  have HI : Hid (idxO o.data.toList p.cur = none) := idxO_none fun j u hu => by rw [hc]; omega
  clear hlt hge hc hb
  go_enter Tryz.func143, Tryz.ntmps143
  go_upto_region 2 with (fail)
  go_loopw [5] (fun q wr => q = .int .i64 0 ∧ WB wr b p ∧ Keeps [] w wr) (fun _ _ => 0)
  case atStart => exact ⟨rfl, hp, Keeps.refl _ _⟩
  case round =>
   obtain ⟨rfl, hpr, hkr⟩ := hrel
   obtain ⟨c0, c1, c2, c3, c4, f1, f2, f3, f4⟩ := hpr.main
   rw [HB.out] at c2
   go_wp2_with fail
   go_quiet (fail)
   go_wp2_with fail
   refine (wfail_set b p _ (hpr.drewN _) HB.out).mono ?_
   rintro e w2 ⟨rfl, hp2, hk2'⟩
   go_wp2_with fail
   go_ret
   refine ⟨by unfold tkV; rw [HI.out]; rfl, by unfold tkP; rw [HI.out]; exact hp2, ((hkr.drewN _).mono (by simp)).trans hk2'⟩
end Go.Proofs.YtnfojonmohijpaaGreatDoor
