/-
  DERIVED. What a loop that gathers parts has so far, in the reference's 'way' and 'ways'; how a part more is laid down. Nothing is assumed but what stands in each theorem.
-/
import Derived.Test.YtnfojonmohijpaaGreatDoorJRO
set_option linter.unusedSimpArgs false
set_option linter.unusedVariables false
namespace Go.Proofs.YtnfojonmohijpaaGreatDoor
open Go.RowKit
theorem Tryz.infoInt : (Tryz.prog.info? 3).map (fun i => (i.zero, i.size, i.bytes)) = some (some (.int .i64 0), 1, 8) := by kernel_rfl
def app : List Pat → Pat → Pat
 | [], y => y
 | x :: xs, y => .pcons x (app xs y)
theorem app_snoc (xs : List Pat) (x y : Pat) : app (xs ++ [x]) y = app xs (.pcons x y) := by
 induction xs with
 | nil => rfl
 | cons z zs ih => simp only [List.cons_append, app, ih]
def repL (nds : List Nd) : List Pat → List Nat → Prop
 | [], [] => True
 | x :: xs, k :: ks => rep nds x [k] ∧ repL nds xs ks
 | _, _ => False
theorem repL_app {nds : List Nd} (ext : List Nd) : ∀ {xs : List Pat} {ks : List Nat}, repL nds xs ks → repL (nds ++ ext) xs ks
 | [], [], _ => trivial
 | _ :: _, _ :: _, h => ⟨rep_app ext h.1, repL_app ext h.2⟩
theorem repL_snoc {nds : List Nd} {x : Pat} {k : Nat} : ∀ {xs : List Pat} {ks : List Nat}, repL nds xs ks → rep nds x [k] → repL nds (xs ++ [x]) (ks ++ [k])
 | [], [], _, h => ⟨h, trivial⟩
 | _ :: _, _ :: _, h, h' => ⟨h.1, repL_snoc h.2 h'⟩
theorem repL_rep {nds : List Nd} {y : Pat} {l : List Nat} : ∀ {xs : List Pat} {ks : List Nat}, repL nds xs ks → rep nds y l → rep nds (app xs y) (ks ++ l)
 | [], [], _, h => h
 | _ :: _, _ :: _, h, h' => ⟨_, _, rfl, h.1, repL_rep h.2 h'⟩
def appW : List Pat → Pat → Pat
 | [], y => y
 | x :: xs, y => .wcons x (appW xs y)
theorem appW_snoc (xs : List Pat) (x y : Pat) : appW (xs ++ [x]) y = appW xs (.wcons x y) := by
 induction xs with
 | nil => rfl
 | cons z zs ih => simp only [List.cons_append, appW, ih]
def repW (nds : List Nd) : List Pat → List Nat → Prop
 | [], [] => True
 | x :: xs, k :: ks => (∃ lp, rep nds x lp ∧ ListN nds 119 lp k) ∧ repW nds xs ks
 | _, _ => False
theorem repW_app {nds : List Nd} (ext : List Nd) : ∀ {xs : List Pat} {ks : List Nat}, repW nds xs ks → repW (nds ++ ext) xs ks
 | [], [], _ => trivial
 | _ :: _, _ :: _, h => ⟨by obtain ⟨lp, a, b⟩ := h.1; exact ⟨lp, rep_app ext a, b.app ext⟩, repW_app ext h.2⟩
theorem repW_snoc {nds : List Nd} {x : Pat} {k : Nat} : ∀ {xs : List Pat} {ks : List Nat}, repW nds xs ks → (∃ lp, rep nds x lp ∧ ListN nds 119 lp k) → repW nds (xs ++ [x]) (ks ++ [k])
 | [], [], _, h => ⟨h, trivial⟩
 | _ :: _, _ :: _, h, h' => ⟨h.1, repW_snoc h.2 h'⟩
theorem Grow.step {b : Nat} {v v' : Value} {w wr wr' : World} {S : List Nat} (h : Grow b v v' w wr) (hk : Keeps S wr wr') (hS : ∀ x, x ∈ S → x = b ∨ w.heap.size ≤ x) : Grow b v v' w wr' := by
 obtain ⟨k1, o1⟩ := h
 refine ⟨⟨hk.os.trans k1.os, hk.tape.trans k1.tape, hk.output.trans k1.output, Nat.le_trans k1.size hk.size, ?_⟩, o1⟩
 intro k hkl hn
 refine (hk.block k (Nat.lt_of_lt_of_le hkl k1.size) fun hs => ?_).trans (k1.block k hkl hn)
 rcases hS k hs with h | h
 ·exact hn (by simp [avo, h])
 ·omega
structure Lst (b : Nat) (A : List Nat) (p : PS) (w : World) (nds : List Nd) (lv : Value) (ks : List Nat) (p' : PS) (ext : List Nd) (wr : World) : Prop where
 pb : PB wr b p'
 kids : KidsV wr (avoA b A p'.nodes) lv ks
 inv : NInv wr b (lv.ownBlock.toList ++ A) p'.nodes (nds ++ ext)
 grow : Grow b p.nodes p'.nodes w wr
 fresh : ∀ g, lv.ownBlock = some g → w.heap.size ≤ g
 few : ks.length ≤ 61
 avl : ∀ x, x ∈ A → x < w.heap.size
theorem Lst.avl' {b : Nat} {A : List Nat} {p : PS} {w : World} {nds : List Nd} {lv : Value} {ks : List Nat} {p' : PS} {ext : List Nd} {wr : World} (L : Lst b A p w nds lv ks p' ext wr) : ∀ x, x ∈ lv.ownBlock.toList ++ A → x < wr.heap.size := by
 intro x hx
 simp only [List.mem_append, Option.mem_toList] at hx
 rcases hx with h | h
 ·exact (L.kids.1.lt x h).2
 ·exact Nat.lt_of_lt_of_le (L.avl x h) L.grow.1.size
theorem Lst.call {b : Nat} {A : List Nat} {p : PS} {w : World} {nds : List Nd} {lv : Value} {ks : List Nat} {p' : PS} {ext : List Nd} {wr : World} (L : Lst b A p w nds lv ks p' ext wr) {p2 : PS} {ext2 : List Nd} {w2 : World}
    (hp : PB w2 b p2) (hi : NInv w2 b (lv.ownBlock.toList ++ A) p2.nodes (nds ++ ext ++ ext2)) (hg : Grow b p'.nodes p2.nodes wr w2) : Lst b A p w nds lv ks p2 (ext ++ ext2) w2 := by
 refine ⟨hp, ?_, by rw [← List.append_assoc]; exact hi, L.grow.trans hg, L.fresh, L.few, L.avl⟩
 refine L.kids.step hg.1 ?_ ?_
 ·intro x _ hx
  simp only [avo, avoA, List.mem_cons, List.mem_append] at hx ⊢
  rcases hx with h | h
  ·exact Or.inl h
  ·exact Or.inr (Or.inl h)
 ·intro x hxl hx
  simp only [avoA, List.mem_cons, List.mem_append, Option.mem_toList] at hx ⊢
  rcases hx with h | h | h
  ·exact Or.inl h
  ·rcases hg.2 with e | ⟨g, e, hgl⟩
   ·rw [e] at h; exact Or.inr (Or.inl h)
   ·rw [e] at h; cases h; omega
  ·exact Or.inr (Or.inr h)
theorem Lst.snoc {b : Nat} {A : List Nat} {p : PS} {w : World} {nds : List Nd} {lv : Value} {ks : List Nat} {p' : PS} {ext : List Nd} {wr : World} (L : Lst b A p w nds lv ks p' ext wr) (k : Nat) (hf : ks.length < 61) {g cap : Nat} {w1 : World}
    (hown : w1.ownsRow 0 3 1 (.slice (some ⟨g, 0, none⟩) (ks.length + 1) cap) (ks.length + 1) (ks.map (fun (k : Nat) => Value.int .i64 (k : Int)) ++ [.int .i64 (k : Int)]))
    (hgrow : (wr.alloc (.cells #[.int .i64 (k : Int)] 3)).grownBy w1 lv.ownBlock) (hat : lv.ownBlock = some g ∨ g = wr.heap.size + 1) :
    Lst b A p w nds (.slice (some ⟨g, 0, none⟩) (ks.length + 1) cap) (ks ++ [k]) p' ext w1 := by
 have hk1 : Keeps lv.ownBlock.toList (wr.alloc (.cells #[.int .i64 (k : Int)] 3)) w1 := ⟨hgrow.os, hgrow.tape, hgrow.output, hgrow.size, fun j hj hn => hgrow.block j hj (by intro e; apply hn; rw [← e]; simp)⟩
 have hk0 : Keeps lv.ownBlock.toList wr w1 := ((Keeps.refl _ wr).alloc _).trans hk1
 have hgs : wr.heap.size ≤ w1.heap.size := hk0.size
 have hbl := L.pb.lt
 have hgr := L.grow.1.size
 have hb : b ∉ lv.ownBlock.toList := by
  intro hm
  have := L.kids.2 b (by simpa using hm)
  exact this (by simp [avoA])
 refine ⟨L.pb.keep hk0 hb, ⟨by simpa using hown, ?_⟩, ?_, L.grow.step hk0 ?_, ?_, by simp; omega, L.avl⟩
 ·intro g' hg' hm
  have e : g = g' := by simpa [Value.ownBlock] using hg'
  subst e
  rcases hat with h | h
  ·exact L.kids.2 _ h hm
  ·have hinv0 := L.inv.less (A' := A) (by intro x hx; exact Or.inl (by simp [hx]))
   have := hinv0.av hbl (fun x hx => Nat.lt_of_lt_of_le (L.avl x hx) hgr) _ hm
   omega
 ·have hi1 : NInv wr b (lv.ownBlock.toList ++ ([g] ++ A)) p'.nodes (nds ++ ext) := by
     refine L.inv.less ?_
     intro x hx
     simp only [List.mem_append, List.mem_singleton] at hx ⊢
     rcases hx with h | h | h
     ·exact Or.inl (Or.inl h)
     ·subst h
      rcases hat with h | h
      ·exact Or.inl (Or.inl (by rw [h]; simp))
      ·exact Or.inr (by omega)
     ·exact Or.inl (Or.inr h)
  refine (hi1.keepA hk0 ?_).less ?_
  ·intro x hx; exact Or.inr (Or.inl (by simp only [List.mem_append]; exact Or.inl hx))
  ·intro x hx
   left
   simp only [Value.ownBlock, Option.toList_some, List.mem_append, List.mem_singleton] at hx ⊢
   exact Or.inr hx
 ·intro x hx
  exact Or.inr (L.fresh x (by simpa using hx))
 ·intro g' hg'
  have e : g = g' := by simpa [Value.ownBlock] using hg'
  subst e
  rcases hat with h | h
  ·exact L.fresh _ h
  ·omega
end Go.Proofs.YtnfojonmohijpaaGreatDoor
namespace Go.Proofs.YtnfojonmohijpaaGreatDoor
open Go.RowKit
def SameF (p p' : PS) : Prop := p'.s = p.s ∧ p'.root = p.root ∧ p'.bg = p.bg ∧ p'.en = p.en ∧ p'.deep = p.deep
def WSt (b : Nat) (A : List Nat) (p : PS) (w : World) (nds : List Nd) (lv : Value) (wr : World) : Prop :=
 ∃ ks p' ext, Lst b A p w nds lv ks p' ext wr ∧ SameF p p' ∧
  ((p'.bad = p.bad ∧ p.ix ≤ p'.ix ∧ p'.ix ≤ p.s.size ∧ p'.gr ≤ 9 ∧ ext.length ≤ 4 * (p'.ix - p.ix) ∧ ks.length ≤ p'.ix - p.ix ∧
      ∃ xs, repL (nds ++ ext) xs ks ∧ (∀ y g' j', G p.s .way p.deep p'.gr p'.ix (.ok (y, g') j') → G p.s .way p.deep p.gr p.ix (.ok (app xs y, g') j')) ∧
        (∀ l, G p.s .way p.deep p'.gr p'.ix (.bad l) → G p.s .way p.deep p.gr p.ix (.bad l))) ∨
   (∃ j : Nat, p'.bad = (j : Int) ∧ ext.length ≤ 4 * (p.s.size - p.ix) ∧ G p.s .way p.deep p.gr p.ix (.bad j)))
def LEnd (kd : Kd) (b : Nat) (A : List Nat) (p : PS) (w : World) (nds : List Nd) (q : R (Pat × Nat)) (ks : List Nat) (p' : PS) (ext : List Nd) (lv : Value) (wr : World) : Prop :=
 Lst b A p w nds lv ks p' ext wr ∧ After p q p' ∧ G p.s kd p.deep p.gr p.ix q ∧ ext.length + 1 ≤ 4 * (endOf p.s q - p.ix) + bndR kd ∧ (∀ x g j, q = .ok (x, g) j → rep (nds ++ ext) x ks)
def kindOf : Kd → Nat
 | .way => 119
 | _ => 111
theorem repK_of {nds : List Nd} {kd : Kd} {x : Pat} {ks : List Nat} {k : Nat} (hkd : kd = .way ∨ kd = .ways) (h : rep nds x ks) (hl : ListN nds (kindOf kd) ks k) : repK nds kd x k := by
 rcases hkd with rfl | rfl <;> exact ⟨ks, h, hl⟩
theorem bndL_of {kd : Kd} (hkd : kd = .way ∨ kd = .ways) : bndL kd = 0 := by rcases hkd with rfl | rfl <;> rfl
theorem list_one {kd : Kd} (hkd : kd = .way ∨ kd = .ways) {b : Nat} {A : List Nat} {p : PS} {w : World} {nds : List Nd} {q : R (Pat × Nat)} {k : Nat} {p' : PS} {ext : List Nd} {lv : Value} {wr : World} (h : LEnd kd b A p w nds q [k] p' ext lv wr) : Post kd b A p w nds (.returned (.int .i64 k)) wr := by
 obtain ⟨L, hA, hG, hbd, hr⟩ := h
 refine ⟨q, k, p', ext, rfl, hG, hA, L.pb, L.inv.less (fun x hx => Or.inl (by simp [hx])), by rw [bndL_of hkd]; omega, fun x g j e => repK_of hkd (hr x g j e) (Or.inl rfl), L.grow⟩
theorem list_many {kd : Kd} (hkd : kd = .way ∨ kd = .ways) {b : Nat} {A : List Nat} {p : PS} {w : World} {nds : List Nd} {q : R (Pat × Nat)} {ks : List Nat} {p' : PS} {ext : List Nd} {lv : Value} {wr : World} (h : LEnd kd b A p w nds q ks p' ext lv wr) (hk1 : ks.length ≠ 1) (hn : (nds ++ ext).length ≤ 1000) :
    Calls Tryz.prog 136 #[.pointer (some ⟨b, 0, none⟩), .agg #[.int .u8 (kindOf kd : Nat), .slice none 0 0, .int .i64 0, .int .i64 0, .int .i64 0, lv]] wr (Post kd b A p w nds) := by
 obtain ⟨L, hA, hG, hbd, hr⟩ := h
 have hinv : NInv wr b A p'.nodes (nds ++ ext) := L.inv.less (fun x hx => Or.inl (by simp [hx]))
 have hk98 : kindOf kd ≠ 98 := by rcases hkd with rfl | rfl <;> decide
 have hcs : NdAt wr (avoA b A p'.nodes) { kind := kindOf kd, f := fun _ => false, n := 0, mn := 0, mx := 0, kids := ks } [.int .u8 (kindOf kd : Nat), .slice none 0 0, .int .i64 0, .int .i64 0, .int .i64 0, lv] :=
  ⟨.slice none 0 0, lv, rfl, ⟨⟨_, _, _, rfl⟩, fun e => absurd e hk98⟩, L.kids⟩
 refine (add_nd b A p' wr (fun x hx => Nat.lt_of_lt_of_le (L.avl x hx) L.grow.1.size) (nds ++ ext) _ _ L.pb hinv hcs hn).mono ?_
 rintro e w' ⟨v', rfl, hp', hinv', hg'⟩
 rw [List.append_assoc] at hinv'
 obtain ⟨a1, a2, a3, a4, a5, a6⟩ := hA
 refine ⟨q, (nds ++ ext).length, { p' with nodes := v' }, ext ++ [{ kind := kindOf kd, f := fun _ => false, n := 0, mn := 0, mx := 0, kids := ks }], rfl, hG, ⟨a1, a2, a3, a4, a5, ?_⟩, hp', hinv', ?_, ?_, L.grow.trans hg'⟩
 ·cases q with
  | ok x j => exact a6
  | bad j => exact a6
 ·rw [bndL_of hkd]; simp only [List.length_append, List.length_singleton]; omega
 ·intro x g j e
  rw [← List.append_assoc]
  refine repK_of hkd (rep_app _ (hr x g j e)) (Or.inr ⟨hk1, { kind := kindOf kd, f := fun _ => false, n := 0, mn := 0, mx := 0, kids := ks }, by rw [List.length_append]; exact get_last2 _ _ _, rfl, rfl⟩)
theorem has_stop (c : Int) (h0 : 0 ≤ c) : (hasB ⟨#[124, 41, 36]⟩ c (ByteArray.size ⟨#[124, 41, 36]⟩) = true) ↔ stopC c := by
 simp [hasB, ByteArray.size, stopC]
 omega
theorem has_v (s : ByteArray) (c : Int) (v : Bool) (hs : s.size ≤ 60) (h : hasB s c s.size = v) (w : World) :
    Calls Tryz.prog 109 #[.string s, .int .u8 c] w fun e w' => e = .returned (.bool v) ∧ w' = w := by
 subst h; exact has_any s c w hs
theorem Lst.keep {b : Nat} {A : List Nat} {p : PS} {w : World} {nds : List Nd} {lv : Value} {ks : List Nat} {p' : PS} {ext : List Nd} {wr w9 : World} (L : Lst b A p w nds lv ks p' ext wr) (hk : Keeps [] wr w9) : Lst b A p w nds lv ks p' ext w9 :=
 ⟨L.pb.keep hk (by simp), L.kids.step hk (by simp) (fun _ _ h => h), L.inv.keep hk sub_nil, L.grow.step hk sub_nil, L.fresh, L.few, L.avl⟩
theorem WSt.next {b : Nat} {A : List Nat} {p : PS} {w : World} {nds : List Nd} {lv : Value} {ks : List Nat} {p' p2 : PS} {ext ext2 : List Nd} {w1 : World} {k : Nat} {xs : List Pat} {q : R (Pat × Nat)} (L : Lst b A p w nds lv (ks ++ [k]) p2 (ext ++ ext2) w1) (hF : SameF p p') (hbad : p'.bad = p.bad)
    (hi1 : p.ix ≤ p'.ix) (hbd : ext.length ≤ 4 * (p'.ix - p.ix)) (hkl : ks.length ≤ p'.ix - p.ix) (hrx : repL (nds ++ ext) xs ks)
    (hG1 : ∀ y g' j', G p.s .way p.deep p'.gr p'.ix (.ok (y, g') j') → G p.s .way p.deep p.gr p.ix (.ok (app xs y, g') j')) (hG2 : ∀ l, G p.s .way p.deep p'.gr p'.ix (.bad l) → G p.s .way p.deep p.gr p.ix (.bad l))
    (hst : ¬ stopC (at' p.s p'.ix)) (hG : G p'.s .piece p'.deep p'.gr p'.ix q) (hA : After p' q p2) (hbd3 : ext2.length + bndL .piece ≤ 4 * (endOf p'.s q - p'.ix) + bndR .piece) (hrep : ∀ x g j, q = .ok (x, g) j → repK (nds ++ ext ++ ext2) .piece x k) (hlt : p'.ix < p.s.size) (hg9 : p'.gr ≤ 9) :
    WSt b A p w nds lv w1 := by
 obtain ⟨f1, f2, f3, f4, f5⟩ := hF
 obtain ⟨a1, a2, a3, a4, a5, a6⟩ := hA
 rw [f1, f5] at hG
 rw [f1] at hbd3
 refine ⟨ks ++ [k], p2, ext ++ ext2, L, ⟨a1.trans f1, a2.trans f2, a3.trans f3, a4.trans f4, a5.trans f5⟩, ?_⟩
 cases q with
 | bad j =>
  right
  refine ⟨j, a6, ?_, hG2 j (.pbad _ _ _ _ hst hG)⟩
  simp only [endOf, bndL, bndR] at hbd3
  simp only [List.length_append]; omega
 | ok xg j =>
  obtain ⟨x, g1⟩ := xg
  obtain ⟨e1, e2, e3⟩ := a6
  have hok := hG.okb x g1 j rfl
  left
  simp only [endOf, bndL, bndR] at hbd3
  have hj1 := hok.2.2.1 (Or.inl rfl)
  have hj2 := hok.2.1 (Nat.le_of_lt hlt)
  rw [e1, e2]
  refine ⟨e3.trans hbad, by omega, hj2, hok.2.2.2.2 hg9, by simp only [List.length_append]; omega, by simp only [List.length_append, List.length_singleton]; omega, xs ++ [x], ?_, ?_, ?_⟩
  ·rw [← List.append_assoc]
   exact repL_snoc (repL_app _ hrx) (hrep x g1 j rfl)
  ·intro y g' j' hy
   rw [app_snoc]
   exact hG1 _ _ _ (.cons _ _ _ _ _ _ _ hst hG hy)
  ·intro l hl
   exact hG2 l (.cons _ _ _ _ _ _ _ hst hG hl)
theorem WSt.mu {b : Nat} {p p' p2 : PS} {wr w1 : World} {q : R (Pat × Nat)} (hp : PB wr b p') (hp2 : PB w1 b p2) (hF : SameF p p') (hbad : p'.bad = p.bad) (hb : p.bad < 0) (hs : p.s.size ≤ 60) (hG : G p'.s .piece p'.deep p'.gr p'.ix q) (hA : After p' q p2) (hlt : p'.ix < p.s.size) : muP w1 b < muP wr b := by
 rw [muP_eq hp, muP_eq hp2]
 have hb' : ¬ 0 ≤ p'.bad := by omega
 obtain ⟨a1, a2, a3, a4, a5, a6⟩ := hA
 rw [if_neg hb']
 cases q with
 | bad j => rw [if_pos (by rw [a6]; omega)]; omega
 | ok xg j =>
  have := (hG.okb xg.1 xg.2 j rfl).2.2.1 (Or.inl rfl)
  rw [if_neg (by rw [a6.2.2]; exact hb'), a6.1]; omega
set_option maxRecDepth 100000 in
set_option maxHeartbeats 4000000 in
theorem way_any (n : Nat) (IH : Shorter n) (b : Nat) (A : List Nat) (p : PS) (w : World) (nds : List Nd) (h : Pre b A p w nds) (hn : p.s.size - p.ix ≤ n) :
    Calls Tryz.prog 135 #[.pointer (some ⟨b, 0, none⟩)] w (Post .way b A p w nds) := by
 have hb := h.good
 have hs := h.sz
 have hpi := h.ix
 have hroom := h.room
 have hdp := h.deep
 have L0 : Lst b A p w nds (.slice none 0 0) [] p [] w := ⟨h.pb, kids_nil _ _, by simpa [Value.ownBlock] using h.inv, Grow.refl _ _ _, by simp [Value.ownBlock], by simp, h.avl⟩
 have S0 : WSt b A p w nds (.slice none 0 0) w := ⟨[], p, [], L0, ⟨rfl, rfl, rfl, rfl, rfl⟩, Or.inl ⟨rfl, Nat.le_refl _, hpi, h.gr, by simp, by simp, [], trivial, fun _ _ _ e => e, fun _ e => e⟩⟩
 clear L0 h
 obtain ⟨i0, hi0, hz0, hz1, hz2⟩ := info_parts Tryz.infoInt
 go_enter Tryz.func135, Tryz.ntmps135
 go_wp2_with fail
 go_loopw [3] (fun lv wr => WSt b A p w nds lv wr) (fun _ wr => muP wr b)
 case atStart => exact S0
 case round =>
  clear S0
  obtain ⟨ks, p', ext, L, hF, hcase⟩ := hrel
  rcases hcase with ⟨hbad, hi1, hi2, hg9, hbd, hkl, xs, hrx, hG1, hG2⟩ | ⟨j, hbad, hbd, hG⟩
  ·obtain ⟨a1, a2, a3, a4, a5⟩ := hF
   have hb' : p'.bad < 0 := by rw [hbad]; exact hb
   have hs' : p'.s.size ≤ 60 := by rw [a1]; exact hs
   have hcj : p'.cur = at' p.s p'.ix := by rw [cur_good' hb', a1]
   have HG1 : Hid (∀ y g' j', G p.s .way p.deep p'.gr p'.ix (.ok (y, g') j') → G p.s .way p.deep p.gr p.ix (.ok (app xs y, g') j')) := hG1
   have HG2 : Hid (∀ l, G p.s .way p.deep p'.gr p'.ix (.bad l) → G p.s .way p.deep p.gr p.ix (.bad l)) := hG2
   have HRX : Hid (repL (nds ++ ext) xs ks) := hrx
   clear hG1 hG2 hrx
   have A1 : Hid (p'.s = p.s) := a1
   have A5 : Hid (p'.deep = p.deep) := a5
   have AB : Hid (p'.bad = p.bad) := hbad
   have AF : Hid (SameF p p') := ⟨a1, a2, a3, a4, a5⟩
   by_cases hstop : stopC (at' p.s p'.ix)
   ·have E0 : LEnd .way b A p w nds (.ok (app xs .pnil, p'.gr) p'.ix) ks p' ext u3 wr := ⟨L, ⟨a1, a2, a3, a4, a5, rfl, rfl, hbad⟩, HG1.out _ _ _ (.nil _ _ _ hstop), by simp only [endOf, bndR]; omega, by intro x g j e; cases e; have := repL_rep HRX.out (show rep (nds ++ ext) .pnil [] from rfl); simpa using this⟩
    have hlen : (nds ++ ext).length ≤ 1000 := by simp only [List.length_append]; omega
    cases hm : moreB p'
    ·clear hstop hcj a1 a2 a3 a4 a5 hbad
     go_wp2_with (first | (go_at_call 83; refine (more_w b _ _ L.pb).mono ?_; rintro e w2 ⟨rfl, hp2, hk2⟩))
     go_quiet (fail)
     have E : LEnd .way b A p w nds (.ok (app xs .pnil, p'.gr) p'.ix) ks p' ext u3 (w2.drewN nq) := ⟨(L.keep hk2).keep ((Keeps.refl [] w2).drewN nq), E0.2⟩
     generalize w2.drewN nq = w9 at *
     obtain ⟨ks9, hks⟩ : ∃ ks9, ks9 = ks := ⟨ks, rfl⟩
     rw [← hks] at E
     clear hks L hp2 hk2 E0
     rcases E.1.kids.1.2 with ⟨e1, e2⟩ | ⟨g, cap, cur, e1, _, hcur, hle, _, hsz, htake⟩
     ·subst e1
      go_wp2_with (first | (go_at_call 136; refine (list_many (Or.inl rfl) E (by omega) hlen).mono ?_; rintro e w' ⟨q', k', p'', ext', rfl, rest⟩))
      go_ret
      exact ⟨q', k', p'', ext', rfl, rest⟩
     ·subst e1
      by_cases h1 : ks9.length = 1
      ·obtain ⟨k, rfl⟩ := List.length_eq_one_iff.1 h1
       have hcell : w9.cell? ⟨g, 0, none⟩ = some (.int .i64 (k : Int)) := by
        have := E.1.kids.1.cells (g := g) rfl 0 _ rfl
        simpa [Addr.add] using this
       clear hcur htake hsz h1
       go_wp2_with fail
       go_ret
       exact list_one (Or.inl rfl) E
      ·have hl1 : ((ks9.length : Int) == 1) = false := by simpa using (by omega : ¬ (ks9.length : Int) = 1)
       have H1 : Hid (ks9.length ≠ 1) := h1
       clear hcur htake hsz h1
       go_wp2_with (first | (go_at_call 136; refine (list_many (Or.inl rfl) E H1.out hlen).mono ?_; rintro e w' ⟨q', k', p'', ext', rfl, rest⟩))
       go_ret
       exact ⟨q', k', p'', ext', rfl, rest⟩
    ·have hlt1 := (PS.cur_more hm).1
     have ec := at'_lt hlt1
     have hki : (p'.ix : Int) < (p'.s.size : Int) := by omega
     have hkj : (0 : Int) ≤ (p'.ix : Int) := by omega
     have hkk : (p'.ix : Int) ≤ 60 := by omega
     have hcl : (0 : Int) ≤ (p'.s[p'.ix].toNat : Int) := by omega
     generalize hgc : (p'.s[p'.ix].toNat : Int) = c at *
     have hst : stopC c := by rw [← ec, a1]; exact hstop
     have HV := has_v ⟨#[124, 41, 36]⟩ c true (by decide) ((has_stop c hcl).2 hst)
     clear ec hcj hstop hst a1 a2 a3 a4 a5 hbad
     go_wp2_with (first | (go_at_call 83; refine (more_w b _ _ L.pb).mono ?_; rintro e w2 ⟨rfl, hp2, hk2⟩; obtain ⟨c0, h6, h7, f6, f7⟩ := hp2.main))
     go_quiet ((go_at_call 109; exact Calls.quiet_of_same (HV _)))
     have E : LEnd .way b A p w nds (.ok (app xs .pnil, p'.gr) p'.ix) ks p' ext u3 (w2.drewN nq) := ⟨(L.keep hk2).keep ((Keeps.refl [] w2).drewN nq), E0.2⟩
     clear c0 h6 h7 f6 f7 HV
     generalize w2.drewN nq = w9 at *
     obtain ⟨ks9, hks⟩ : ∃ ks9, ks9 = ks := ⟨ks, rfl⟩
     rw [← hks] at E
     clear hks L hp2 hk2 E0
     rcases E.1.kids.1.2 with ⟨e1, e2⟩ | ⟨g, cap, cur, e1, _, hcur, hle, _, hsz, htake⟩
     ·subst e1
      go_wp2_with (first | (go_at_call 136; refine (list_many (Or.inl rfl) E (by omega) hlen).mono ?_; rintro e w' ⟨q', k', p'', ext', rfl, rest⟩))
      go_ret
      exact ⟨q', k', p'', ext', rfl, rest⟩
     ·subst e1
      by_cases h1 : ks9.length = 1
      ·obtain ⟨k, rfl⟩ := List.length_eq_one_iff.1 h1
       have hcell : w9.cell? ⟨g, 0, none⟩ = some (.int .i64 (k : Int)) := by
        have := E.1.kids.1.cells (g := g) rfl 0 _ rfl
        simpa [Addr.add] using this
       clear hcur htake hsz h1
       go_wp2_with fail
       go_ret
       exact list_one (Or.inl rfl) E
      ·have hl1 : ((ks9.length : Int) == 1) = false := by simpa using (by omega : ¬ (ks9.length : Int) = 1)
       have H1 : Hid (ks9.length ≠ 1) := h1
       clear hcur htake hsz h1
       go_wp2_with (first | (go_at_call 136; refine (list_many (Or.inl rfl) E H1.out hlen).mono ?_; rintro e w' ⟨q', k', p'', ext', rfl, rest⟩))
       go_ret
       exact ⟨q', k', p'', ext', rfl, rest⟩
   ·have hat0 : 0 ≤ at' p.s p'.ix := by
       apply Int.not_lt.1; intro hh; exact hstop (Or.inl hh)
    have hm : moreB p' = true := by rw [moreB_eq, hcj]; simpa using hat0
    have hlt1 := (PS.cur_more hm).1
    have hlt2 : p'.ix < p.s.size := at'_nn hat0
    have ec := at'_lt hlt1
    have hki : (p'.ix : Int) < (p'.s.size : Int) := by omega
    have hkj : (0 : Int) ≤ (p'.ix : Int) := by omega
    have hkk : (p'.ix : Int) ≤ 60 := by omega
    have hcl : (0 : Int) ≤ (p'.s[p'.ix].toNat : Int) := by omega
    generalize hgc : (p'.s[p'.ix].toNat : Int) = c at *
    have hst : ¬ stopC c := by rw [← ec, a1]; exact hstop
    have HV := has_v ⟨#[124, 41, 36]⟩ c false (by decide) (Bool.eq_false_iff.2 fun e => hst ((has_stop c hcl).1 e))
    have HST : Hid (¬ stopC (at' p.s p'.ix)) := hstop
    clear ec hcj hstop hst a1 a2 a3 a4 a5 hbad
    go_wp2_with (first | (go_at_call 83; refine (more_w b _ _ L.pb).mono ?_; rintro e w2 ⟨rfl, hp2, hk2⟩; obtain ⟨c0, h6, h7, f6, f7⟩ := hp2.main))
    go_quiet ((go_at_call 109; exact Calls.quiet_of_same (HV _)))
    have L2 := (L.keep hk2).keep ((Keeps.refl [] w2).drewN nq)
    have hpL := L.pb
    have L2' := L.pb
    clear c0 h6 h7 f6 f7 HV hgc hp2 hk2 L hpL
    generalize w2.drewN nq = w9 at *
    have hpre : Pre b (u3.ownBlock.toList ++ A) p' w9 (nds ++ ext) := ⟨L2.pb, L2.inv, L2.avl', hb', hs', Nat.le_of_lt hlt1, by rw [A1.out]; simp only [List.length_append]; omega, hg9, by rw [A5.out]; exact hdp⟩
    have PC := piece_any n IH b (u3.ownBlock.toList ++ A) p' w9 (nds ++ ext) hpre hlt1 (by rw [A1.out]; omega)
    clear hpre IH
    go_wp2_with fail
    refine PC.mono ?_
    rintro e wA ⟨q, k, p2, ext2, rfl, hG, hA, hp3, hinv3, hbd3, hrep3, hgrow3⟩
    have L3 := L2.call hp3 hinv3 hgrow3
    clear PC hp3 hinv3 hgrow3
    have hks61 : ks.length < 61 := by omega
    have hlm : ks.length + 1 ≤ maxLen := by unfold maxLen; omega
    have hun := Tryz.underlying32
    go_wp2_with (first | (at_builtin; refine wpList_append_lies _ rfl _ _ _ rfl 0 3 i0 (.int .i64 0) 1 8 hun hi0 hz0 hz1 hz2 rfl (by decide) u3 ks.length _ rfl (L3.kids.1.alloc _) ⟨wA.heap.size, 0, none⟩ 1 1 [.int .i64 (k : Int)] rfl rfl (cell_one_new _ _ _) (by simp [Value.oneCell']) (by omega) hlm (by omega) (by simp) (wA.heap.size + 1) (by simp) ?_; intro g cap w1 hown hgrow hat hlt))
    have L4 := L3.snoc k hks61 hown hgrow hat
    clear hown hgrow hat hlt hun
    go_roundw
    case rel => exact WSt.next L4 AF.out AB.out hi1 hbd hkl HRX.out HG1.out HG2.out HST.out hG hA hbd3 hrep3 hlt2 hg9
    case measure => exact WSt.mu L2' L4.pb AF.out AB.out hb hs hG hA hlt2
  ·obtain ⟨a1, a2, a3, a4, a5⟩ := hF
   have hm : moreB p' = false := by rw [moreB_eq, cur_bad' (by rw [hbad]; omega)]; decide
   have AF : Hid (After p (.bad j) p') := ⟨a1, a2, a3, a4, a5, hbad⟩
   clear a1 a2 a3 a4 a5 hbad
   go_wp2_with (first | (go_at_call 83; refine (more_w b _ _ L.pb).mono ?_; rintro e w2 ⟨rfl, hp2, hk2⟩))
   go_quiet (fail)
   have E : LEnd .way b A p w nds (.bad j) ks p' ext u3 (w2.drewN nq) := ⟨(L.keep hk2).keep ((Keeps.refl [] w2).drewN nq), AF.out, hG, by simp only [endOf, bndR]; omega, by simp⟩
   have hlen : (nds ++ ext).length ≤ 1000 := by simp only [List.length_append]; omega
   generalize w2.drewN nq = w9 at *
   obtain ⟨ks9, hks⟩ : ∃ ks9, ks9 = ks := ⟨ks, rfl⟩
   rw [← hks] at E
   clear hks L hp2 hk2 hG
   rcases E.1.kids.1.2 with ⟨e1, e2⟩ | ⟨g, cap, cur, e1, _, hcur, hle, _, hsz, htake⟩
   ·subst e1
    go_wp2_with (first | (go_at_call 136; refine (list_many (Or.inl rfl) E (by omega) hlen).mono ?_; rintro e w' ⟨q', k', p'', ext', rfl, rest⟩))
    go_ret
    exact ⟨q', k', p'', ext', rfl, rest⟩
   ·subst e1
    by_cases h1 : ks9.length = 1
    ·obtain ⟨k, rfl⟩ := List.length_eq_one_iff.1 h1
     have hcell : w9.cell? ⟨g, 0, none⟩ = some (.int .i64 (k : Int)) := by
      have := E.1.kids.1.cells (g := g) rfl 0 _ rfl
      simpa [Addr.add] using this
     clear hcur htake hsz h1
     go_wp2_with fail
     go_ret
     exact list_one (Or.inl rfl) E
    ·have hl1 : ((ks9.length : Int) == 1) = false := by simpa using (by omega : ¬ (ks9.length : Int) = 1)
     have H1 : Hid (ks9.length ≠ 1) := h1
     clear hcur htake hsz h1
     go_wp2_with (first | (go_at_call 136; refine (list_many (Or.inl rfl) E H1.out hlen).mono ?_; rintro e w' ⟨q', k', p'', ext', rfl, rest⟩))
     go_ret
     exact ⟨q', k', p'', ext', rfl, rest⟩
end Go.Proofs.YtnfojonmohijpaaGreatDoor
namespace Go.Proofs.YtnfojonmohijpaaGreatDoor
open Go.RowKit
theorem Lst.first {b : Nat} {A : List Nat} {p p' : PS} {w w1 : World} {nds ext : List Nd} (k : Nat) (hp : PB w1 b p') (hi : NInv w1 b A p'.nodes (nds ++ ext)) (hg : Grow b p.nodes p'.nodes w w1) (hA : ∀ x, x ∈ A → x < w.heap.size) :
    Lst b A p w nds (.slice (some ⟨w1.heap.size, 0, none⟩) 1 1) [k] p' ext (w1.alloc (.cells #[.int .i64 (k : Int)] 3)) := by
 have hk := (Keeps.refl [] w1).alloc (.cells #[.int .i64 (k : Int)] 3)
 have hs := hg.1.size
 have hA1 : ∀ x, x ∈ A → x < w1.heap.size := fun x hx => Nat.lt_of_lt_of_le (hA x hx) hs
 refine ⟨hp.keep hk (by simp), kids_one k _ (hi.av hp.lt hA1), ?_, hg.step hk sub_nil, ?_, by simp, hA⟩
 ·refine (hi.less (A' := [w1.heap.size] ++ A) ?_).keep hk sub_nil
  intro x hx
  simp only [List.mem_append, List.mem_singleton] at hx
  rcases hx with rfl | h
  ·exact Or.inr (Nat.le_refl _)
  ·exact Or.inl h
 ·intro g e
  have : g = w1.heap.size := by simpa [Value.ownBlock] using e.symm
  omega
theorem Lst.pbk {b : Nat} {A : List Nat} {p : PS} {w : World} {nds : List Nd} {lv : Value} {ks : List Nat} {p' p2 : PS} {ext : List Nd} {wr w2 : World} (L : Lst b A p w nds lv ks p' ext wr) (hp : PB w2 b p2) (hk : Keeps [b] wr w2) (hn : p2.nodes = p'.nodes) : Lst b A p w nds lv ks p2 ext w2 := by
 refine ⟨hp, ?_, by rw [hn]; exact L.inv.keep hk sub_b, by rw [hn]; exact L.grow.step hk (by simp), L.fresh, L.few, L.avl⟩
 rw [hn]
 refine L.kids.step hk ?_ (fun _ _ h => h)
 intro x _ hx
 simp at hx
 simp [avoA, hx]
def YSt (b : Nat) (A : List Nat) (p : PS) (w : World) (nds : List Nd) (k0 : Nat) (lv : Value) (wr : World) : Prop :=
 ∃ tl p' ext, Lst b A p w nds lv (k0 :: tl) p' ext wr ∧ SameF p p' ∧
  ((p'.bad = p.bad ∧ p.ix ≤ p'.ix ∧ p'.ix ≤ p.s.size ∧ p'.gr ≤ 9 ∧ ext.length ≤ 4 * (p'.ix - p.ix) + 1 ∧ tl.length ≤ p'.ix - p.ix ∧
      ∃ xs x, repW (nds ++ ext) (xs ++ [x]) (k0 :: tl) ∧ (at' p.s p'.ix ≠ 124 → G p.s .ways p.deep p.gr p.ix (.ok (appW xs (.wone x), p'.gr) p'.ix)) ∧
        (at' p.s p'.ix = 124 → ∀ q, G p.s .ways p.deep p'.gr (p'.ix + 1) q → G p.s .ways p.deep p.gr p.ix (q.map fun y => (appW (xs ++ [x]) y.1, y.2)))) ∨
   (∃ j : Nat, p'.bad = (j : Int) ∧ ext.length ≤ 4 * (p.s.size - p.ix) + 1 ∧ G p.s .ways p.deep p.gr p.ix (.bad j)))
theorem repW_end {nds : List Nd} {xs : List Pat} {x : Pat} {ks : List Nat} (h : repW nds (xs ++ [x]) ks) : rep nds (appW xs (.wone x)) ks := by
 induction xs generalizing ks with
 | nil =>
  match ks, h with
  | [k], h => obtain ⟨⟨lp, a, b⟩, _⟩ := h; exact ⟨k, lp, rfl, a, b⟩
 | cons z zs ih =>
  match ks, h with
  | k :: ks, h => obtain ⟨⟨lp, a, b⟩, c⟩ := h; exact ⟨k, lp, ks, rfl, ⟨a, b⟩, ih c⟩
theorem YSt.start {b : Nat} {A : List Nat} {p : PS} {w : World} {nds : List Nd} {lv : Value} {k : Nat} {p' : PS} {ext : List Nd} {w1 : World} {q : R (Pat × Nat)} (L : Lst b A p w nds lv [k] p' ext w1) (hG : G p.s .way p.deep p.gr p.ix q) (hA : After p q p') (hbd : ext.length + bndL .way ≤ 4 * (endOf p.s q - p.ix) + bndR .way)
    (hrep : ∀ x g j, q = .ok (x, g) j → repK (nds ++ ext) .way x k) (hpi : p.ix ≤ p.s.size) (hg9 : p.gr ≤ 9) : YSt b A p w nds k lv w1 := by
 obtain ⟨a1, a2, a3, a4, a5, a6⟩ := hA
 refine ⟨[], p', ext, L, ⟨a1, a2, a3, a4, a5⟩, ?_⟩
 cases q with
 | bad j => right; exact ⟨j, a6, by simpa [endOf, bndL, bndR] using hbd, .wbad _ _ _ _ hG⟩
 | ok xg j =>
  obtain ⟨x, g1⟩ := xg
  obtain ⟨e1, e2, e3⟩ := a6
  have hok := hG.okb x g1 j rfl
  left
  rw [e1, e2]
  refine ⟨e3, hok.1, hok.2.1 hpi, hok.2.2.2.2 hg9, by simpa [endOf, bndL, bndR] using hbd, by simp, [], x, ⟨hrep x g1 j rfl, trivial⟩, fun h => .one _ _ _ _ _ _ hG h, fun h q hq => ?_⟩
  have := G.more _ _ _ _ _ _ _ hG h hq
  exact this
theorem YSt.next {b : Nat} {A : List Nat} {p : PS} {w : World} {nds : List Nd} {lv : Value} {k0 k : Nat} {tl : List Nat} {p' p1 p2 : PS} {ext ext2 : List Nd} {w1 : World} {xs : List Pat} {x : Pat} {q : R (Pat × Nat)} (L : Lst b A p w nds lv ((k0 :: tl) ++ [k]) p2 (ext ++ ext2) w1) (hF : SameF p p') (hbad : p'.bad = p.bad)
    (hp1 : p1 = { p' with ix := p'.ix + 1 }) (hi1 : p.ix ≤ p'.ix) (hbd : ext.length ≤ 4 * (p'.ix - p.ix) + 1) (hkl : tl.length ≤ p'.ix - p.ix) (hrx : repW (nds ++ ext) (xs ++ [x]) (k0 :: tl)) (h124 : at' p.s p'.ix = 124)
    (hG2 : at' p.s p'.ix = 124 → ∀ q, G p.s .ways p.deep p'.gr (p'.ix + 1) q → G p.s .ways p.deep p.gr p.ix (q.map fun y => (appW (xs ++ [x]) y.1, y.2)))
    (hG : G p1.s .way p1.deep p1.gr p1.ix q) (hA : After p1 q p2) (hbd3 : ext2.length + bndL .way ≤ 4 * (endOf p1.s q - p1.ix) + bndR .way) (hrep : ∀ x g j, q = .ok (x, g) j → repK (nds ++ ext ++ ext2) .way x k) (hg9 : p'.gr ≤ 9) :
    YSt b A p w nds k0 lv w1 := by
 subst hp1
 obtain ⟨f1, f2, f3, f4, f5⟩ := hF
 obtain ⟨a1, a2, a3, a4, a5, a6⟩ := hA
 have hG' : G p.s .way p.deep p'.gr (p'.ix + 1) q := by rw [← f1, ← f5]; exact hG
 have hb3 : ext2.length + 0 ≤ 4 * (endOf p.s q - (p'.ix + 1)) + 1 := by rw [← f1]; exact hbd3
 have hlt := at'_nn (s := p.s) (i := p'.ix) (by omega)
 refine ⟨tl ++ [k], p2, ext ++ ext2, L, ⟨a1.trans f1, a2.trans f2, a3.trans f3, a4.trans f4, a5.trans f5⟩, ?_⟩
 cases q with
 | bad j =>
  right
  refine ⟨j, a6, ?_, hG2 h124 _ (.wbad _ _ _ _ hG')⟩
  simp only [endOf] at hb3
  simp only [List.length_append]; omega
 | ok xg j =>
  obtain ⟨y, g1⟩ := xg
  obtain ⟨e1, e2, e3⟩ := a6
  have hok := hG'.okb y g1 j rfl
  left
  simp only [endOf] at hb3
  have hj1 := hok.1
  have hj2 := hok.2.1 hlt
  rw [e1, e2]
  refine ⟨e3.trans hbad, by omega, hj2, hok.2.2.2.2 hg9, by simp only [List.length_append]; omega, by simp only [List.length_append, List.length_singleton]; omega, xs ++ [x], y, ?_, ?_, ?_⟩
  ·rw [← List.append_assoc]
   exact repW_snoc (ks := k0 :: tl) (repW_app _ hrx) (hrep y g1 j rfl)
  ·intro hne
   exact hG2 h124 _ (.one _ _ _ _ _ _ hG' hne)
  ·intro he q hq
   have := hG2 h124 _ (.more _ _ _ _ _ _ _ hG' he hq)
   cases q with
   | bad l => exact this
   | ok z l => simp only [R.map] at this ⊢; rw [appW_snoc]; exact this
theorem YSt.mu {b : Nat} {p p' p1 p2 : PS} {wr w1 : World} {q : R (Pat × Nat)} (hp : PB wr b p') (hp2 : PB w1 b p2) (hp1 : p1 = { p' with ix := p'.ix + 1 }) (hbad : p'.bad = p.bad) (hb : p.bad < 0) (hs : p.s.size ≤ 60) (hG : G p1.s .way p1.deep p1.gr p1.ix q) (hA : After p1 q p2) (hlt : p'.ix < p.s.size) : muP w1 b < muP wr b := by
 subst hp1
 rw [muP_eq hp, muP_eq hp2]
 have hb' : ¬ 0 ≤ p'.bad := by omega
 obtain ⟨a1, a2, a3, a4, a5, a6⟩ := hA
 rw [if_neg hb']
 cases q with
 | bad j => rw [if_pos (by rw [a6]; omega)]; omega
 | ok xg j =>
  have := (hG.okb xg.1 xg.2 j rfl).1
  simp only at this
  rw [if_neg (by rw [a6.2.2]; exact hb'), a6.1]; omega
set_option maxRecDepth 100000 in
set_option maxHeartbeats 2000000 in
theorem ways_step (n : Nat) (IH : Shorter n) (b : Nat) (A : List Nat) (p : PS) (w : World) (nds : List Nd) (h : Pre b A p w nds) (hn : p.s.size - p.ix ≤ n) :
    Calls Tryz.prog 82 #[.pointer (some ⟨b, 0, none⟩)] w (Post .ways b A p w nds) := by
 have hb := h.good
 have hs := h.sz
 have hpi := h.ix
 have hroom := h.room
 have hdp := h.deep
 have hgr := h.gr
 have havl := h.avl
 have WC := way_any n IH b A p w nds h hn
 clear h
 obtain ⟨i0, hi0, hz0, hz1, hz2⟩ := info_parts Tryz.infoInt
 go_enter Tryz.func82, Tryz.ntmps82
 go_wp2_with (first | (go_at_call 135; refine WC.mono ?_; rintro e w1 ⟨q, k0, p', ext, rfl, hG, hA, hp1, hinv1, hbd, hrep, hgrow⟩))
 have S0 := YSt.start (Lst.first k0 hp1 hinv1 hgrow havl) hG hA hbd hrep hpi hgr
 clear WC hp1 hinv1 hgrow hG hA hbd hrep
 go_loopw [4] (fun lv wr => YSt b A p w nds k0 lv wr) (fun _ wr => muP wr b)
 case atStart => exact S0
 case round =>
  clear S0
  obtain ⟨tl, p', ext, L, hF, hcase⟩ := hrel
  have AF : Hid (SameF p p') := hF
  obtain ⟨a1, a2, a3, a4, a5⟩ := hF
  have hs' : p'.s.size ≤ 60 := by rw [a1]; exact hs
  rcases hcase with ⟨hbad, hi1, hi2, hg9, hbd, hkl, xs, x, hrx, hG1, hG2⟩ | ⟨j, hbad, hbd, hG⟩
  ·have hcj : p'.cur = at' p.s p'.ix := by rw [cur_good' (by rw [hbad]; exact hb), a1]
   have AB : Hid (p'.bad = p.bad) := hbad
   have HG2 : Hid (at' p.s p'.ix = 124 → ∀ q, G p.s .ways p.deep p'.gr (p'.ix + 1) q → G p.s .ways p.deep p.gr p.ix (q.map fun y => (appW (xs ++ [x]) y.1, y.2))) := hG2
   by_cases h124 : at' p.s p'.ix = 124
   ·have htk : p'.took 124 = { p' with ix := p'.ix + 1 } := by unfold PS.took; rw [if_pos (by rw [hcj]; exact h124)]
    have hd : decide (p'.cur = 124) = true := by rw [hcj]; simpa using h124
    have hlt2 : p'.ix < p.s.size := at'_nn (by omega)
    have H124 : Hid (at' p.s p'.ix = 124) := h124
    have HRX : Hid (repW (nds ++ ext) (xs ++ [x]) (k0 :: tl)) := hrx
    clear hcj h124 hG1 hG2 hrx a1 a2 a3 a4 a5 hbad
    go_wp2_with (first | (go_at_call 81; refine (take_any b _ 124 _ L.pb (by omega) hs').mono ?_; rintro e w2 ⟨rfl, hp2, hk2⟩; rw [htk] at hp2))
    have L2 := L.pbk hp2 hk2 rfl
    have hLp := L.pb
    clear L hp2 hk2 htk hd
    have hpre : Pre b (u4.ownBlock.toList ++ A) { p' with ix := p'.ix + 1 } w2 (nds ++ ext) := ⟨L2.pb, L2.inv, L2.avl', by show p'.bad < 0; rw [AB.out]; exact hb, hs', by show p'.ix + 1 ≤ p'.s.size; rw [AF.out.1]; exact hlt2, by show (nds ++ ext).length + 4 * (p'.s.size - (p'.ix + 1)) + 2 ≤ 1000; rw [AF.out.1]; simp only [List.length_append]; omega, hg9, by show p'.deep ≤ 6; rw [AF.out.2.2.2.2]; exact hdp⟩
    have WC := way_any n IH b (u4.ownBlock.toList ++ A) _ w2 (nds ++ ext) hpre (by show p'.s.size - (p'.ix + 1) ≤ n; rw [AF.out.1]; omega)
    clear hpre IH
    refine WC.mono ?_
    rintro e wA ⟨q, k, p2, ext2, rfl, hG, hA, hp3, hinv3, hbd3, hrep3, hgrow3⟩
    have L3 := L2.call hp3 hinv3 hgrow3
    clear WC hp3 hinv3 hgrow3 L2
    have hks61 : (k0 :: tl).length < 61 := by simp; omega
    have hlm : (k0 :: tl).length + 1 ≤ maxLen := by unfold maxLen; omega
    have hun := Tryz.underlying32
    go_wp2_with (first | (at_builtin; refine wpList_append_lies _ rfl _ _ _ rfl 0 3 i0 (.int .i64 0) 1 8 hun hi0 hz0 hz1 hz2 rfl (by decide) u4 (k0 :: tl).length _ rfl (L3.kids.1.alloc _) ⟨wA.heap.size, 0, none⟩ 1 1 [.int .i64 (k : Int)] rfl rfl (cell_one_new _ _ _) (by simp [Value.oneCell']) (by omega) hlm (by omega) (by simp) (wA.heap.size + 1) (by simp) ?_; intro g cap wB hown hgrow hat hlt))
    have L4 := L3.snoc k hks61 hown hgrow hat
    clear hown hgrow hat hlt hun
    go_roundw
    case rel => exact YSt.next L4 AF.out AB.out rfl hi1 hbd hkl HRX.out H124.out HG2.out hG hA hbd3 hrep3 hg9
    case measure => exact YSt.mu hLp L4.pb rfl AB.out hb hs hG hA hlt2
   ·have htk : p'.took 124 = p' := by unfold PS.took; rw [if_neg (by rw [hcj]; exact h124)]
    have hd : decide (p'.cur = 124) = false := by rw [hcj]; simpa using h124
    have E0 : LEnd .ways b A p w nds (.ok (appW xs (.wone x), p'.gr) p'.ix) (k0 :: tl) p' ext u4 wr := ⟨L, ⟨a1, a2, a3, a4, a5, rfl, rfl, hbad⟩, hG1 h124, by simp only [endOf, bndR]; omega, by intro z g j e; cases e; exact repW_end hrx⟩
    have hlen : (nds ++ ext).length ≤ 1000 := by simp only [List.length_append]; omega
    clear hcj h124 hG1 hG2 hrx a1 a2 a3 a4 a5 hbad
    rcases L.kids.1.2 with ⟨e1, e2⟩ | ⟨g, cap, cur, e1, _, hcur, hle, _, hsz, htake⟩
    ·simp at e2
    ·subst e1
     clear hcur htake hsz
     by_cases h1 : tl = []
     ·subst h1
      go_wp2_with (first | (go_at_call 81; refine (take_any b _ 124 _ L.pb (by omega) hs').mono ?_; rintro e w2 ⟨rfl, hp2, hk2⟩; rw [htk] at hp2))
      go_ret
      exact list_one (Or.inr rfl) ⟨L.pbk hp2 hk2 rfl, E0.2⟩
     ·have hl0 : tl.length ≠ 0 := fun e => h1 (List.eq_nil_of_length_eq_zero e)
      obtain ⟨LN, hLN⟩ : ∃ LN, LN = (k0 :: tl).length := ⟨_, rfl⟩
      rw [← hLN] at L E0 ⊢
      have hl1 : ((LN : Int) == 1) = false := by
       have : ¬ (LN : Int) = 1 := by rw [hLN]; simp; omega
       simpa using this
      have H1 : Hid ((k0 :: tl).length ≠ 1) := by show (k0 :: tl).length ≠ 1; simp; omega
      clear h1 hl0 hle hLN
      go_wp2_with (first | (go_at_call 136; refine (list_many (Or.inr rfl) ⟨L.pbk hp2 hk2 rfl, E0.2⟩ H1.out hlen).mono ?_; rintro e w' ⟨q', k', p'', ext', rfl, rest⟩) | (go_at_call 81; refine (take_any b _ 124 _ L.pb (by omega) hs').mono ?_; rintro e w2 ⟨rfl, hp2, hk2⟩; rw [htk] at hp2))
      go_ret
      exact ⟨q', k', p'', ext', rfl, rest⟩
  ·have hcur := cur_bad' (p := p') (by rw [hbad]; omega)
   have htk : p'.took 124 = p' := by unfold PS.took; rw [if_neg (by omega)]
   have hd : decide (p'.cur = 124) = false := by rw [hcur]; decide
   have E0 : LEnd .ways b A p w nds (.bad j) (k0 :: tl) p' ext u4 wr := ⟨L, ⟨a1, a2, a3, a4, a5, hbad⟩, hG, by simp only [endOf, bndR]; omega, by simp⟩
   have hlen : (nds ++ ext).length ≤ 1000 := by simp only [List.length_append]; omega
   clear hcur a1 a2 a3 a4 a5 hbad
   rcases L.kids.1.2 with ⟨e1, e2⟩ | ⟨g, cap, cur, e1, _, hcur, hle, _, hsz, htake⟩
   ·simp at e2
   ·subst e1
    clear hcur htake hsz
    by_cases h1 : tl = []
    ·subst h1
     go_wp2_with (first | (go_at_call 81; refine (take_any b _ 124 _ L.pb (by omega) hs').mono ?_; rintro e w2 ⟨rfl, hp2, hk2⟩; rw [htk] at hp2))
     go_ret
     exact list_one (Or.inr rfl) ⟨L.pbk hp2 hk2 rfl, E0.2⟩
    ·have hl0 : tl.length ≠ 0 := fun e => h1 (List.eq_nil_of_length_eq_zero e)
     obtain ⟨LN, hLN⟩ : ∃ LN, LN = (k0 :: tl).length := ⟨_, rfl⟩
     rw [← hLN] at L E0 ⊢
     have hl1 : ((LN : Int) == 1) = false := by
      have : ¬ (LN : Int) = 1 := by rw [hLN]; simp; omega
      simpa using this
     have H1 : Hid ((k0 :: tl).length ≠ 1) := by show (k0 :: tl).length ≠ 1; simp; omega
     clear h1 hl0 hle hLN
     go_wp2_with (first | (go_at_call 136; refine (list_many (Or.inr rfl) ⟨L.pbk hp2 hk2 rfl, E0.2⟩ H1.out hlen).mono ?_; rintro e w' ⟨q', k', p'', ext', rfl, rest⟩) | (go_at_call 81; refine (take_any b _ 124 _ L.pb (by omega) hs').mono ?_; rintro e w2 ⟨rfl, hp2, hk2⟩; rw [htk] at hp2))
     go_ret
     exact ⟨q', k', p'', ext', rfl, rest⟩
theorem shorter (n : Nat) : Shorter n := by
 induction n with
 | zero => intro b A p w nds h hn; omega
 | succ n ih => intro b A p w nds h hn; exact ways_step n ih b A p w nds h (by omega)
theorem ways_any (b : Nat) (A : List Nat) (p : PS) (w : World) (nds : List Nd) (h : Pre b A p w nds) :
    Calls Tryz.prog 82 #[.pointer (some ⟨b, 0, none⟩)] w (Post .ways b A p w nds) := ways_step _ (shorter _) b A p w nds h (Nat.le_refl _)
end Go.Proofs.YtnfojonmohijpaaGreatDoor
