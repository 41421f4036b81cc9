/-
  DERIVED. The contract of the reference's 'ways', by induction on what is left. Conditions: the pattern is at most 60 bytes long, nothing was wrong so far, the nodes lie as they should.
-/
import Derived.Test.YtnfojonmohijpaaGreatDoorJRR
import Derived.Test.YtnfojonmohijpaaGreatDoorJSD
set_option linter.unusedSimpArgs false
set_option linter.unusedVariables false
namespace Go.Proofs.YtnfojonmohijpaaGreatDoor
open Go.RowKit
theorem Lst.first {b : Nat} {A : List Nat} {p p' : PS} {w w1 : World} {nds ext : List Nd} (k : Nat) (hp : PB w1 b p') (hi : NInv w1 b A p'.nodes (nds ++ ext)) (hg : Grow b p.nodes p'.nodes w w1) (hA : ∀ x, x ∈ A → x < w.heap.size) :
    Lst b A p w nds (.slice (some ⟨w1.heap.size, 0, none⟩) 1 1) [k] p' ext (w1.alloc (.cells #[.int .i64 (k : Int)] 3)) := by
 have hk := (Keeps.refl [] w1).alloc (.cells #[.int .i64 (k : Int)] 3)
 have hs := hg.1.size
 have hA1 : ∀ x, x ∈ A → x < w1.heap.size := fun x hx => Nat.lt_of_lt_of_le (hA x hx) hs
 refine ⟨hp.keep hk (by simp), kids_one k _ (hi.av hp.lt hA1), ?_, hg.step hk sub_nil, ?_, by simp, hA⟩
 ·refine (hi.less (A' := [w1.heap.size] ++ A) ?_).keep hk sub_nil
  intro x hx
  simp only [List.mem_append, List.mem_singleton] at hx
  rcases hx with rfl | h
  ·exact Or.inr (Nat.le_refl _)
  ·exact Or.inl h
 ·intro g e
  have : g = w1.heap.size := by simpa [Value.ownBlock] using e.symm
  omega
theorem Lst.pbk {b : Nat} {A : List Nat} {p : PS} {w : World} {nds : List Nd} {lv : Value} {ks : List Nat} {p' p2 : PS} {ext : List Nd} {wr w2 : World} (L : Lst b A p w nds lv ks p' ext wr) (hp : PB w2 b p2) (hk : Keeps [b] wr w2) (hn : p2.nodes = p'.nodes) : Lst b A p w nds lv ks p2 ext w2 := by
 refine ⟨hp, ?_, by rw [hn]; exact L.inv.keep hk sub_b, by rw [hn]; exact L.grow.step hk (by simp), L.fresh, L.few, L.avl⟩
 rw [hn]
 refine L.kids.step hk ?_ (fun _ _ h => h)
 intro x _ hx
 simp at hx
 simp [avoA, hx]
def YSt (b : Nat) (A : List Nat) (p : PS) (w : World) (nds : List Nd) (k0 : Nat) (lv : Value) (wr : World) : Prop :=
 ∃ tl p' ext, Lst b A p w nds lv (k0 :: tl) p' ext wr ∧ SameF p p' ∧
  ((p'.bad = p.bad ∧ p.ix ≤ p'.ix ∧ p'.ix ≤ p.s.size ∧ p'.gr ≤ 9 ∧ ext.length ≤ 4 * (p'.ix - p.ix) + 1 ∧ tl.length ≤ p'.ix - p.ix ∧
      ∃ xs x, repW (nds ++ ext) (xs ++ [x]) (k0 :: tl) ∧ (at' p.s p'.ix ≠ 124 → G p.s .ways p.deep p.gr p.ix (.ok (appW xs (.wone x), p'.gr) p'.ix)) ∧
        (at' p.s p'.ix = 124 → ∀ q, G p.s .ways p.deep p'.gr (p'.ix + 1) q → G p.s .ways p.deep p.gr p.ix (q.map fun y => (appW (xs ++ [x]) y.1, y.2)))) ∨
   (∃ j : Nat, p'.bad = (j : Int) ∧ ext.length ≤ 4 * (p.s.size - p.ix) + 1 ∧ G p.s .ways p.deep p.gr p.ix (.bad j)))
theorem repW_end {nds : List Nd} {xs : List Pat} {x : Pat} {ks : List Nat} (h : repW nds (xs ++ [x]) ks) : rep nds (appW xs (.wone x)) ks := by
 induction xs generalizing ks with
 | nil =>
  match ks, h with
  | [k], h => obtain ⟨⟨lp, a, b⟩, _⟩ := h; exact ⟨k, lp, rfl, a, b⟩
 | cons z zs ih =>
  match ks, h with
  | k :: ks, h => obtain ⟨⟨lp, a, b⟩, c⟩ := h; exact ⟨k, lp, ks, rfl, ⟨a, b⟩, ih c⟩
theorem YSt.start {b : Nat} {A : List Nat} {p : PS} {w : World} {nds : List Nd} {lv : Value} {k : Nat} {p' : PS} {ext : List Nd} {w1 : World} {q : R (Pat × Nat)} (L : Lst b A p w nds lv [k] p' ext w1) (hG : G p.s .way p.deep p.gr p.ix q) (hA : After p q p') (hbd : ext.length + bndL .way ≤ 4 * (endOf p.s q - p.ix) + bndR .way)
    (hrep : ∀ x g j, q = .ok (x, g) j → repK (nds ++ ext) .way x k) (hpi : p.ix ≤ p.s.size) (hg9 : p.gr ≤ 9) : YSt b A p w nds k lv w1 := by
 obtain ⟨a1, a2, a3, a4, a5, a6⟩ := hA
 refine ⟨[], p', ext, L, ⟨a1, a2, a3, a4, a5⟩, ?_⟩
 cases q with
 | bad j => right; exact ⟨j, a6, by simpa [endOf, bndL, bndR] using hbd, .wbad _ _ _ _ hG⟩
 | ok xg j =>
  obtain ⟨x, g1⟩ := xg
  obtain ⟨e1, e2, e3⟩ := a6
  have hok := hG.okb x g1 j rfl
  left
  rw [e1, e2]
  refine ⟨e3, hok.1, hok.2.1 hpi, hok.2.2.2.2 hg9, by simpa [endOf, bndL, bndR] using hbd, by simp, [], x, ⟨hrep x g1 j rfl, trivial⟩, fun h => .one _ _ _ _ _ _ hG h, fun h q hq => ?_⟩
  have := G.more _ _ _ _ _ _ _ hG h hq
  exact this
theorem YSt.next {b : Nat} {A : List Nat} {p : PS} {w : World} {nds : List Nd} {lv : Value} {k0 k : Nat} {tl : List Nat} {p' p1 p2 : PS} {ext ext2 : List Nd} {w1 : World} {xs : List Pat} {x : Pat} {q : R (Pat × Nat)} (L : Lst b A p w nds lv ((k0 :: tl) ++ [k]) p2 (ext ++ ext2) w1) (hF : SameF p p') (hbad : p'.bad = p.bad)
    (hp1 : p1 = { p' with ix := p'.ix + 1 }) (hi1 : p.ix ≤ p'.ix) (hbd : ext.length ≤ 4 * (p'.ix - p.ix) + 1) (hkl : tl.length ≤ p'.ix - p.ix) (hrx : repW (nds ++ ext) (xs ++ [x]) (k0 :: tl)) (h124 : at' p.s p'.ix = 124)
    (hG2 : at' p.s p'.ix = 124 → ∀ q, G p.s .ways p.deep p'.gr (p'.ix + 1) q → G p.s .ways p.deep p.gr p.ix (q.map fun y => (appW (xs ++ [x]) y.1, y.2)))
    (hG : G p1.s .way p1.deep p1.gr p1.ix q) (hA : After p1 q p2) (hbd3 : ext2.length + bndL .way ≤ 4 * (endOf p1.s q - p1.ix) + bndR .way) (hrep : ∀ x g j, q = .ok (x, g) j → repK (nds ++ ext ++ ext2) .way x k) (hg9 : p'.gr ≤ 9) :
    YSt b A p w nds k0 lv w1 := by
 subst hp1
 obtain ⟨f1, f2, f3, f4, f5⟩ := hF
 obtain ⟨a1, a2, a3, a4, a5, a6⟩ := hA
 have hG' : G p.s .way p.deep p'.gr (p'.ix + 1) q := by rw [← f1, ← f5]; exact hG
 have hb3 : ext2.length + 0 ≤ 4 * (endOf p.s q - (p'.ix + 1)) + 1 := by rw [← f1]; exact hbd3
 have hlt := at'_nn (s := p.s) (i := p'.ix) (by omega)
 refine ⟨tl ++ [k], p2, ext ++ ext2, L, ⟨a1.trans f1, a2.trans f2, a3.trans f3, a4.trans f4, a5.trans f5⟩, ?_⟩
 cases q with
 | bad j =>
  right
  refine ⟨j, a6, ?_, hG2 h124 _ (.wbad _ _ _ _ hG')⟩
  simp only [endOf] at hb3
  simp only [List.length_append]; omega
 | ok xg j =>
  obtain ⟨y, g1⟩ := xg
  obtain ⟨e1, e2, e3⟩ := a6
  have hok := hG'.okb y g1 j rfl
  left
  simp only [endOf] at hb3
  have hj1 := hok.1
  have hj2 := hok.2.1 hlt
  rw [e1, e2]
  refine ⟨e3.trans hbad, by omega, hj2, hok.2.2.2.2 hg9, by simp only [List.length_append]; omega, by simp only [List.length_append, List.length_singleton]; omega, xs ++ [x], y, ?_, ?_, ?_⟩
  ·rw [← List.append_assoc]
   exact repW_snoc (ks := k0 :: tl) (repW_app _ hrx) (hrep y g1 j rfl)
  ·intro hne
   exact hG2 h124 _ (.one _ _ _ _ _ _ hG' hne)
  ·intro he q hq
   have := hG2 h124 _ (.more _ _ _ _ _ _ _ hG' he hq)
   cases q with
   | bad l => exact this
   | ok z l => simp only [R.map] at this ⊢; rw [appW_snoc]; exact this
theorem YSt.mu {b : Nat} {p p' p1 p2 : PS} {wr w1 : World} {q : R (Pat × Nat)} (hp : PB wr b p') (hp2 : PB w1 b p2) (hp1 : p1 = { p' with ix := p'.ix + 1 }) (hbad : p'.bad = p.bad) (hb : p.bad < 0) (hs : p.s.size ≤ 60) (hG : G p1.s .way p1.deep p1.gr p1.ix q) (hA : After p1 q p2) (hlt : p'.ix < p.s.size) : muP w1 b < muP wr b := by
 subst hp1
 rw [muP_eq hp, muP_eq hp2]
 have hb' : ¬ 0 ≤ p'.bad := by omega
 obtain ⟨a1, a2, a3, a4, a5, a6⟩ := hA
 rw [if_neg hb']
 cases q with
 | bad j => rw [if_pos (by rw [a6]; omega)]; omega
 | ok xg j =>
  have := (hG.okb xg.1 xg.2 j rfl).1
  simp only at this
  rw [if_neg (by rw [a6.2.2]; exact hb'), a6.1]; omega
set_option maxRecDepth 100000 in
set_option maxHeartbeats 2000000 in
theorem ways_step (n : Nat) (IH : Shorter n) (b : Nat) (A : List Nat) (p : PS) (w : World) (nds : List Nd) (h : Pre b A p w nds) (hn : p.s.size - p.ix ≤ n) :
    Calls Tryz.prog 82 #[.pointer (some ⟨b, 0, none⟩)] w (Post .ways b A p w nds) := by
 have hb := h.good
 have hs := h.sz
 have hpi := h.ix
 have hroom := h.room
 have hdp := h.deep
 have hgr := h.gr
 have havl := h.avl
 have WC := way_any n IH b A p w nds h hn
 clear h
 obtain ⟨i0, hi0, hz0, hz1, hz2⟩ := info_parts Tryz.infoInt
 go_enter Tryz.func82, Tryz.ntmps82
 go_wp2_with (first | (go_at_call 135; refine WC.mono ?_; rintro e w1 ⟨q, k0, p', ext, rfl, hG, hA, hp1, hinv1, hbd, hrep, hgrow⟩))
 have S0 := YSt.start (Lst.first k0 hp1 hinv1 hgrow havl) hG hA hbd hrep hpi hgr
 clear WC hp1 hinv1 hgrow hG hA hbd hrep
 go_loopw [4] (fun lv wr => YSt b A p w nds k0 lv wr) (fun _ wr => muP wr b)
 case atStart => exact S0
 case round =>
  clear S0
  obtain ⟨tl, p', ext, L, hF, hcase⟩ := hrel
  have AF : Hid (SameF p p') := hF
  obtain ⟨a1, a2, a3, a4, a5⟩ := hF
  have hs' : p'.s.size ≤ 60 := by rw [a1]; exact hs
  rcases hcase with ⟨hbad, hi1, hi2, hg9, hbd, hkl, xs, x, hrx, hG1, hG2⟩ | ⟨j, hbad, hbd, hG⟩
  ·have hcj : p'.cur = at' p.s p'.ix := by rw [cur_good' (by rw [hbad]; exact hb), a1]
   have AB : Hid (p'.bad = p.bad) := hbad
   have HG2 : Hid (at' p.s p'.ix = 124 → ∀ q, G p.s .ways p.deep p'.gr (p'.ix + 1) q → G p.s .ways p.deep p.gr p.ix (q.map fun y => (appW (xs ++ [x]) y.1, y.2))) := hG2
   by_cases h124 : at' p.s p'.ix = 124
   ·have htk : p'.took 124 = { p' with ix := p'.ix + 1 } := by unfold PS.took; rw [if_pos (by rw [hcj]; exact h124)]
    have hd : decide (p'.cur = 124) = true := by rw [hcj]; simpa using h124
    have hlt2 : p'.ix < p.s.size := at'_nn (by omega)
    have H124 : Hid (at' p.s p'.ix = 124) := h124
    have HRX : Hid (repW (nds ++ ext) (xs ++ [x]) (k0 :: tl)) := hrx
    clear hcj h124 hG1 hG2 hrx a1 a2 a3 a4 a5 hbad
    go_wp2_with (first | (go_at_call 81; refine (take_any b _ 124 _ L.pb (by omega) hs').mono ?_; rintro e w2 ⟨rfl, hp2, hk2⟩; rw [htk] at hp2))
    have L2 := L.pbk hp2 hk2 rfl
    have hLp := L.pb
    clear L hp2 hk2 htk hd
    have hpre : Pre b (u4.ownBlock.toList ++ A) { p' with ix := p'.ix + 1 } w2 (nds ++ ext) := ⟨L2.pb, L2.inv, L2.avl', by show p'.bad < 0; rw [AB.out]; exact hb, hs', by show p'.ix + 1 ≤ p'.s.size; rw [AF.out.1]; exact hlt2, by show (nds ++ ext).length + 4 * (p'.s.size - (p'.ix + 1)) + 2 ≤ 1000; rw [AF.out.1]; simp only [List.length_append]; omega, hg9, by show p'.deep ≤ 6; rw [AF.out.2.2.2.2]; exact hdp⟩
    have WC := way_any n IH b (u4.ownBlock.toList ++ A) _ w2 (nds ++ ext) hpre (by show p'.s.size - (p'.ix + 1) ≤ n; rw [AF.out.1]; omega)
    clear hpre IH
    refine WC.mono ?_
    rintro e wA ⟨q, k, p2, ext2, rfl, hG, hA, hp3, hinv3, hbd3, hrep3, hgrow3⟩
    have L3 := L2.call hp3 hinv3 hgrow3
    clear WC hp3 hinv3 hgrow3 L2
    have hks61 : (k0 :: tl).length < 61 := by simp; omega
    have hlm : (k0 :: tl).length + 1 ≤ maxLen := by unfold maxLen; omega
    have hun := Tryz.underlying32
    go_wp2_with (first | (at_builtin; refine wpList_append_lies _ rfl _ _ _ rfl 0 3 i0 (.int .i64 0) 1 8 hun hi0 hz0 hz1 hz2 rfl (by decide) u4 (k0 :: tl).length _ rfl (L3.kids.1.alloc _) ⟨wA.heap.size, 0, none⟩ 1 1 [.int .i64 (k : Int)] rfl rfl (cell_one_new _ _ _) (by simp [Value.oneCell']) (by omega) hlm (by omega) (by simp) (wA.heap.size + 1) (by simp) ?_; intro g cap wB hown hgrow hat hlt))
    have L4 := L3.snoc k hks61 hown hgrow hat
    clear hown hgrow hat hlt hun
    go_roundw
    case rel => exact YSt.next L4 AF.out AB.out rfl hi1 hbd hkl HRX.out H124.out HG2.out hG hA hbd3 hrep3 hg9
    case measure => exact YSt.mu hLp L4.pb rfl AB.out hb hs hG hA hlt2
   ·have htk : p'.took 124 = p' := by unfold PS.took; rw [if_neg (by rw [hcj]; exact h124)]
    have hd : decide (p'.cur = 124) = false := by rw [hcj]; simpa using h124
    have E0 : LEnd .ways b A p w nds (.ok (appW xs (.wone x), p'.gr) p'.ix) (k0 :: tl) p' ext u4 wr := ⟨L, ⟨a1, a2, a3, a4, a5, rfl, rfl, hbad⟩, hG1 h124, by simp only [endOf, bndR]; omega, by intro z g j e; cases e; exact repW_end hrx⟩
    have hlen : (nds ++ ext).length ≤ 1000 := by simp only [List.length_append]; omega
    clear hcj h124 hG1 hG2 hrx a1 a2 a3 a4 a5 hbad
    rcases L.kids.1.2 with ⟨e1, e2⟩ | ⟨g, cap, cur, e1, _, hcur, hle, _, hsz, htake⟩
    ·simp at e2
    ·subst e1
     clear hcur htake hsz
     by_cases h1 : tl = []
     ·subst h1
      go_wp2_with (first | (go_at_call 81; refine (take_any b _ 124 _ L.pb (by omega) hs').mono ?_; rintro e w2 ⟨rfl, hp2, hk2⟩; rw [htk] at hp2))
      go_ret
      exact list_one (Or.inr rfl) ⟨L.pbk hp2 hk2 rfl, E0.2⟩
     ·have hl0 : tl.length ≠ 0 := fun e => h1 (List.eq_nil_of_length_eq_zero e)
      obtain ⟨LN, hLN⟩ : ∃ LN, LN = (k0 :: tl).length := ⟨_, rfl⟩
      rw [← hLN] at L E0 ⊢
      have hl1 : ((LN : Int) == 1) = false := by
       have : ¬ (LN : Int) = 1 := by rw [hLN]; simp; omega
       simpa using this
      have H1 : Hid ((k0 :: tl).length ≠ 1) := by show (k0 :: tl).length ≠ 1; simp; omega
      clear h1 hl0 hle hLN
      go_wp2_with (first | (go_at_call 136; refine (list_many (Or.inr rfl) ⟨L.pbk hp2 hk2 rfl, E0.2⟩ H1.out hlen).mono ?_; rintro e w' ⟨q', k', p'', ext', rfl, rest⟩) | (go_at_call 81; refine (take_any b _ 124 _ L.pb (by omega) hs').mono ?_; rintro e w2 ⟨rfl, hp2, hk2⟩; rw [htk] at hp2))
      go_ret
      exact ⟨q', k', p'', ext', rfl, rest⟩
  ·have hcur := cur_bad' (p := p') (by rw [hbad]; omega)
   have htk : p'.took 124 = p' := by unfold PS.took; rw [if_neg (by omega)]
   have hd : decide (p'.cur = 124) = false := by rw [hcur]; decide
   have E0 : LEnd .ways b A p w nds (.bad j) (k0 :: tl) p' ext u4 wr := ⟨L, ⟨a1, a2, a3, a4, a5, hbad⟩, hG, by simp only [endOf, bndR]; omega, by simp⟩
   have hlen : (nds ++ ext).length ≤ 1000 := by simp only [List.length_append]; omega
   clear hcur a1 a2 a3 a4 a5 hbad
   rcases L.kids.1.2 with ⟨e1, e2⟩ | ⟨g, cap, cur, e1, _, hcur, hle, _, hsz, htake⟩
   ·simp at e2
   ·subst e1
    clear hcur htake hsz
    by_cases h1 : tl = []
    ·subst h1
     go_wp2_with (first | (go_at_call 81; refine (take_any b _ 124 _ L.pb (by omega) hs').mono ?_; rintro e w2 ⟨rfl, hp2, hk2⟩; rw [htk] at hp2))
     go_ret
     exact list_one (Or.inr rfl) ⟨L.pbk hp2 hk2 rfl, E0.2⟩
    ·have hl0 : tl.length ≠ 0 := fun e => h1 (List.eq_nil_of_length_eq_zero e)
     obtain ⟨LN, hLN⟩ : ∃ LN, LN = (k0 :: tl).length := ⟨_, rfl⟩
     rw [← hLN] at L E0 ⊢
     have hl1 : ((LN : Int) == 1) = false := by
      have : ¬ (LN : Int) = 1 := by rw [hLN]; simp; omega
      simpa using this
     have H1 : Hid ((k0 :: tl).length ≠ 1) := by show (k0 :: tl).length ≠ 1; simp; omega
     clear h1 hl0 hle hLN
     go_wp2_with (first | (go_at_call 136; refine (list_many (Or.inr rfl) ⟨L.pbk hp2 hk2 rfl, E0.2⟩ H1.out hlen).mono ?_; rintro e w' ⟨q', k', p'', ext', rfl, rest⟩) | (go_at_call 81; refine (take_any b _ 124 _ L.pb (by omega) hs').mono ?_; rintro e w2 ⟨rfl, hp2, hk2⟩; rw [htk] at hp2))
     go_ret
     exact ⟨q', k', p'', ext', rfl, rest⟩
theorem shorter (n : Nat) : Shorter n := by
 induction n with
 | zero => intro b A p w nds h hn; omega
 | succ n ih => intro b A p w nds h hn; exact ways_step n ih b A p w nds h (by omega)
theorem ways_any (b : Nat) (A : List Nat) (p : PS) (w : World) (nds : List Nd) (h : Pre b A p w nds) :
    Calls Tryz.prog 82 #[.pointer (some ⟨b, 0, none⟩)] w (Post .ways b A p w nds) := ways_step _ (shorter _) b A p w nds h (Nat.le_refl _)
end Go.Proofs.YtnfojonmohijpaaGreatDoor
namespace Go.Proofs.YtnfojonmohijpaaGreatDoor
open Go.RowKit
theorem PB.rbe {w : World} {b : Nat} {p : PS} (h : PB w b p) :
    w.cell? ⟨b, 2, none⟩ = some (.int .i64 p.root) ∧ w.cell? ⟨b, 3, none⟩ = some (.bool p.bg) ∧ w.cell? ⟨b, 4, none⟩ = some (.bool p.en) ∧ w.frozen? ⟨b, 2, none⟩ = false ∧ w.frozen? ⟨b, 3, none⟩ = false ∧ w.frozen? ⟨b, 4, none⟩ = false := by
 unfold PB at h
 simp [World.cell?, World.frozen?, h, PS.cells]
theorem PB.setRoot {w : World} {b : Nat} {p : PS} (h : PB w b p) (x : Nat) : PB (w.setCell ⟨b, 2, none⟩ (.int .i64 x)) b { p with root := x } := by
 unfold PB at *
 simp [World.setCell, Array.getElem?_modify, h, PS.cells]
theorem PB.setBg {w : World} {b : Nat} {p : PS} (h : PB w b p) (x : Bool) : PB (w.setCell ⟨b, 3, none⟩ (.bool x)) b { p with bg := x } := by
 unfold PB at *
 simp [World.setCell, Array.getElem?_modify, h, PS.cells]
theorem PB.setEn {w : World} {b : Nat} {p : PS} (h : PB w b p) (x : Bool) : PB (w.setCell ⟨b, 4, none⟩ (.bool x)) b { p with en := x } := by
 unfold PB at *
 simp [World.setCell, Array.getElem?_modify, h, PS.cells]
theorem keeps_new {S : List Nat} {w w1 w2 : World} (h : Keeps [] w w1) (hk : Keeps S w1 w2) (hS : ∀ x, x ∈ S → w.heap.size ≤ x) : Keeps [] w w2 :=
 ⟨hk.os.trans h.os, hk.tape.trans h.tape, hk.output.trans h.output, Nat.le_trans h.size hk.size, fun k hkl hn => (hk.block k (Nat.lt_of_lt_of_le hkl h.size) (fun hx => by have := hS k hx; omega)).trans (h.block k hkl hn)⟩
def ReadPost (s : ByteArray) (w : World) (e : Ending) (w' : World) : Prop :=
 ∃ (b : Nat) (p : PS) (nds : List Nd) (q : R Whole) (en : Int), e = .returned (.tuple #[.pointer (some ⟨b, 0, none⟩), .int .i64 en]) ∧ w.heap.size ≤ b ∧ PatR s q ∧ PB w' b p ∧ NInv w' b [] p.nodes nds ∧ Keeps [] w w' ∧ nds.length ≤ 1000 ∧ p.s = s ∧
  match q with
  | .bad j => en = 2 ∧ p.bad = (j : Int)
  | .ok W _ => en = 0 ∧ p.bg = W.bg ∧ p.en = W.en ∧ p.gr = W.g ∧ repK nds .ways W.x p.root
set_option maxHeartbeats 400000 in
theorem read_long (s : ByteArray) (w : World) (h : 60 < s.size) :
    Calls Tryz.prog 46 #[.string s] w fun e w' => e = .returned (.tuple #[.pointer none, .int .i64 1]) ∧ w' = w := by
 have h' : (60 : Int) < (s.size : Int) := by omega
 go_enter Tryz.func46, Tryz.ntmps46
 go_wp2_with fail
 go_ret2
 exact ⟨rfl, rfl⟩
def p0 (s : ByteArray) : PS := { s := s, nodes := .slice none 0 0, root := 0, bg := false, en := false, gr := 0, bad := -1, ix := 0, deep := 0 }
set_option maxRecDepth 100000 in
set_option maxHeartbeats 1000000 in
theorem read_any (s : ByteArray) (w : World) (hs : s.size ≤ 60) : Calls Tryz.prog 46 #[.string s] w (ReadPost s w) := by
 have h' : ¬ (60 : Int) < (s.size : Int) := by omega
 go_enter Tryz.func46, Tryz.ntmps46
 go_wp2_with fail
 have hp0 : PB (w.alloc (.cells (p0 s).cells 102)) w.heap.size (p0 s) := heap_alloc_new w _
 have hk0 : Keeps [] w (w.alloc (.cells (p0 s).cells 102)) := (Keeps.refl [] w).alloc _
 have hH := hk0
 clear hH
 obtain ⟨b, hbq⟩ : ∃ b, b = w.heap.size := ⟨_, rfl⟩
 rw [← hbq] at hp0 ⊢
 have HBQ : Hid (b = w.heap.size) := hbq
 clear hbq
 have hcur : (p0 s).cur = at' s 0 := by rfl
 have htk : (p0 s).took 94 = { p0 s with ix := wi s } := by
  unfold PS.took wi
  rw [hcur]
  by_cases h : at' s 0 = 94
  ·rw [if_pos h, if_pos h]; rfl
  ·rw [if_neg h, if_neg h]; rfl
 have hwi : wi s ≤ s.size := by
  unfold wi
  by_cases h : at' s 0 = 94
  ·rw [if_pos h]; exact at'_nn (by omega)
  ·rw [if_neg h]; exact Nat.zero_le _
 refine (take_any b (p0 s) 94 _ hp0 (by omega) hs).mono ?_
 rintro e w1 ⟨rfl, hp1, hk1⟩
 rw [htk] at hp1
 rw [hcur]
 have hkA : Keeps [] w w1 := keeps_new hk0 hk1 (by intro x hx; simp at hx; rw [hx, HBQ.out]; exact Nat.le_refl _)
 clear hk1 hk0 hp0 htk hcur
 generalize hbgv : decide (at' s 0 = 94) = bgv
 obtain ⟨_, x3, _, _, y3, _⟩ := hp1.rbe
 have hp2 := hp1.setBg bgv
 have hkB : Keeps [] w (w1.setCell ⟨b, 3, none⟩ (.bool bgv)) := hkA.setCell (Or.inr (by show w.heap.size ≤ b; rw [HBQ.out]; exact Nat.le_refl _)) _
 go_wp2_with fail
 clear x3 y3 hp1 hkA
 generalize (w1.setCell ⟨b, 3, none⟩ (.bool bgv)) = w2 at *
 have hN0 : NInv w2 b [] (.slice none 0 0) [] := ⟨[], rfl, World.ownsRow_nil _ _ _ _, by simp [Value.ownBlock], by simp [Value.ownBlock], by simp⟩
 have WC := ways_any b [] _ w2 [] ⟨hp2, hN0, by simp, by show (-1 : Int) < 0; omega, hs, hwi, by show ([] : List Nd).length + 4 * (s.size - wi s) + 2 ≤ 1000; simp; omega, by show 0 ≤ 9; omega, by show 0 ≤ 6; omega⟩
 refine WC.mono ?_
 rintro e w3 ⟨q, k, p3, ext, rfl, hG, hA, hp3, hinv3, hbd, hrep, hgrow⟩
 have hkC : Keeps [] w w3 := keeps_new hkB hgrow.1 ?_
 rotate_left
 ·intro x hx
  have hx' : x ∈ [b] := hx
  simp at hx'
  rw [hx', HBQ.out]; exact Nat.le_refl _
 have hbS : ∀ x, x ∈ [b] → w.heap.size ≤ x := by
  intro x hx
  simp at hx
  rw [hx, HBQ.out]; exact Nat.le_refl _
 have hlen : ext.length ≤ 1000 := by
  have := endOf_le hG hwi
  simp only [bndL, bndR] at hbd
  have h2 : endOf s q ≤ s.size := this
  have h3 : ext.length + 0 ≤ 4 * (endOf s q - wi s) + 2 := hbd
  omega
 have HG : Hid (G s .ways 0 0 (wi s) q) := hG
 obtain ⟨a1, a2, a3, a4, a5, a6⟩ := hA
 have A1 : Hid (p3.s = s) := a1
 have hs3 : p3.s.size ≤ 60 := by rw [a1]; exact hs
 obtain ⟨x2, _, _, y2, _, _⟩ := hp3.rbe
 have hp4 := hp3.setRoot k
 have hkE : Keeps [] w (w3.setCell ⟨b, 2, none⟩ (.int .i64 (k : Int))) := hkC.setCell (Or.inr (by show w.heap.size ≤ b; rw [HBQ.out]; exact Nat.le_refl _)) _
 have hinv4 := hinv3.keep ((Keeps.refl [b] w3).setB 2 (.int .i64 (k : Int))) sub_b
 have hm1 : (-1 : Int) < 0 := by omega
 clear hG hp3 hinv3 hgrow hkC hkB WC hN0 hp2
 cases q with
 | bad j =>
  have hnb : ¬ (j : Int) < 0 := by omega
  have hcur : PS.cur { p3 with root := k } = -1 := cur_bad' (by show 0 ≤ p3.bad; rw [a6]; omega)
  have htk : PS.took { p3 with root := k } 36 = { p3 with root := k } := by unfold PS.took; rw [if_neg (by omega)]
  have hd : decide (PS.cur { p3 with root := k } = 36) = false := by rw [hcur]; decide
  have hm : moreB { p3 with root := k, en := false } = false := by rw [moreB_eq, show PS.cur { p3 with root := k, en := false } = -1 from hcur]; decide
  have hb6 : Hid (PS.bad { p3 with root := k, en := false } = (j : Int)) := a6
  clear hcur a6 a1 a2 a3 a4 a5
  go_wp2_with (first | (go_at_call 81; refine (take_any b { p3 with root := k } 36 _ hp4 (by omega) hs3).mono ?_; rintro e w5 ⟨rfl, hp5, hk5⟩; rw [htk] at hp5; obtain ⟨_, _, x4, _, _, y4⟩ := hp5.rbe))
  have hp6 := hp5.setEn false
  have hkF : Keeps [] w (w5.setCell ⟨b, 4, none⟩ (.bool false)) := (keeps_new hkE hk5 hbS).setCell (Or.inr (by show w.heap.size ≤ b; rw [HBQ.out]; exact Nat.le_refl _)) _
  have hinv6 := (hinv4.keep hk5 sub_b).keep ((Keeps.refl [b] w5).setB 4 (.bool false)) sub_b
  clear hp5 hk5 htk hd x4 y4
  generalize (w5.setCell ⟨b, 4, none⟩ (.bool false)) = w6 at *
  refine (more_w b { p3 with root := k, en := false } _ hp6).mono ?_
  rintro e w7 ⟨rfl, hp7, hk7⟩
  obtain ⟨c0, h6, h7, f6, f7⟩ := hp7.main
  rw [show PS.bad { p3 with root := k, en := false } = (j : Int) from hb6.out] at h6
  go_wp2_with fail
  go_ret2
  exact ⟨b, _, ext, .bad j, 2, rfl, by rw [HBQ.out]; exact Nat.le_refl _, ⟨_, HG.out, rfl⟩, hp7, hinv6.keep hk7 sub_nil, hkF.trans hk7, hlen, A1.out, rfl, hb6.out⟩
 | ok xg j =>
  obtain ⟨x, g⟩ := xg
  obtain ⟨e1, e2, e3⟩ := a6
  have hcur : PS.cur { p3 with root := k } = at' s j := by rw [cur_good' (by show p3.bad < 0; rw [e3]; exact hm1)]; show at' p3.s p3.ix = _; rw [a1, e1]; rfl
  by_cases h36 : at' s j = 36
  ·have htk : PS.took { p3 with root := k } 36 = { p3 with root := k, ix := j + 1 } := by unfold PS.took; rw [if_pos (by rw [hcur]; exact h36)]; simp [e1]
   have hd : decide (PS.cur { p3 with root := k } = 36) = true := by rw [hcur]; simpa using h36
   have hcur6 : PS.cur { p3 with root := k, ix := j + 1, en := true } = at' s (j + 1) := by rw [cur_good' (by show p3.bad < 0; rw [e3]; exact hm1)]; show at' p3.s (j + 1) = _; rw [a1]; rfl
   have HE : Hid (PatE s (.ok (x, g) j) = if 0 ≤ at' s (j + 1) then .bad (j + 1) else .ok ⟨decide (at' s 0 = 94), true, x, g⟩ (j + 1)) := by
    show PatE s (.ok (x, g) j) = _
    rw [PatE_ok]
    rw [if_pos h36, decide_eq_true h36]
   have hbadn : PS.bad { p3 with root := k, ix := j + 1, en := true } < 0 := by show p3.bad < 0; rw [e3]; exact hm1
   have hbad1 : Hid (PS.bad { p3 with root := k, ix := j + 1, en := true } = -1) := e3
   have hixn : Hid (((PS.ix { p3 with root := k, ix := j + 1, en := true } : Nat) : Int) = ((j + 1) : Nat)) := by show ((PS.ix { p3 with root := k, ix := j + 1, en := true } : Nat) : Int) = ((j + 1) : Nat); rfl
   have hbg6 : Hid (PS.bg { p3 with root := k, ix := j + 1, en := true } = decide (at' s 0 = 94)) := by show p3.bg = _; rw [a3, hbgv]
   have hgr6 : Hid (PS.gr { p3 with root := k, ix := j + 1, en := true } = g) := e2
   clear hcur a1 a2 a3 a4 a5 e1 e2 e3
   go_wp2_with (first | (go_at_call 81; refine (take_any b { p3 with root := k } 36 _ hp4 (by omega) hs3).mono ?_; rintro e w5 ⟨rfl, hp5, hk5⟩; rw [htk] at hp5; obtain ⟨_, _, x4, _, _, y4⟩ := hp5.rbe))
   have hp6 := hp5.setEn true
   have hkF : Keeps [] w (w5.setCell ⟨b, 4, none⟩ (.bool true)) := (keeps_new hkE hk5 hbS).setCell (Or.inr (by show w.heap.size ≤ b; rw [HBQ.out]; exact Nat.le_refl _)) _
   have hinv6 := (hinv4.keep hk5 sub_b).keep ((Keeps.refl [b] w5).setB 4 (.bool true)) sub_b
   clear hp5 hk5 htk hd x4 y4
   generalize (w5.setCell ⟨b, 4, none⟩ (.bool true)) = w6 at *
   refine (more_w b { p3 with root := k, ix := j + 1, en := true } _ hp6).mono ?_
   rintro e w7 ⟨rfl, hp7, hk7⟩
   obtain ⟨c0, h6, h7, f6, f7⟩ := hp7.main
   by_cases hmo : 0 ≤ at' s (j + 1)
   ·have hm : moreB { p3 with root := k, ix := j + 1, en := true } = true := by rw [moreB_eq, hcur6]; simpa using hmo
    have HQ : Hid (PatE s (.ok (x, g) j) = .bad (j + 1)) := by show PatE s (.ok (x, g) j) = _; rw [HE.out, if_pos hmo]
    have hp8 := hp7.setBad (PS.ix { p3 with root := k, ix := j + 1, en := true } : Int)
    obtain ⟨d0, d6, d7, _, _⟩ := hp8.main
    have HIX : Hid (((PS.ix { p3 with root := k, ix := j + 1, en := true } : Nat) : Int) = ((j + 1) : Nat)) := by first | exact hixn.out | rfl
    clear hcur6 hmo hixn hbad1
    have hge : ¬ ((PS.ix { p3 with root := k, ix := j + 1, en := true } : Nat) : Int) < 0 := by omega
    go_wp2_with (first | (go_at_call 84; refine (fail_good b { p3 with root := k, ix := j + 1, en := true } _ hp7 hbadn).mono ?_; rintro e w8 ⟨rfl, rfl⟩))
    go_ret2
    exact ⟨b, _, ext, .bad (j + 1), 2, rfl, by rw [HBQ.out]; exact Nat.le_refl _, ⟨_, HG.out, HQ.out.symm⟩, hp8, (hinv6.keep hk7 sub_nil).keep ((Keeps.refl [b] w7).setB 6 _) sub_b, (hkF.trans hk7).setCell (Or.inr (by show w.heap.size ≤ b; rw [HBQ.out]; exact Nat.le_refl _)) _, hlen, A1.out, rfl, by first | exact HIX.out | rfl⟩
   ·have hm : moreB { p3 with root := k, ix := j + 1, en := true } = false := by rw [moreB_eq, hcur6]; simpa using hmo
    have HQ : Hid (PatE s (.ok (x, g) j) = .ok ⟨decide (at' s 0 = 94), true, x, g⟩ (j + 1)) := by show PatE s (.ok (x, g) j) = _; rw [HE.out, if_neg hmo]
    clear hcur6 hmo hixn
    go_wp2_with fail
    go_ret2
    exact ⟨b, _, ext, .ok ⟨decide (at' s 0 = 94), true, x, g⟩ (j + 1), 0, rfl, by rw [HBQ.out]; exact Nat.le_refl _, ⟨_, HG.out, HQ.out.symm⟩, hp7, hinv6.keep hk7 sub_nil, hkF.trans hk7, hlen, A1.out, rfl, hbg6.out, rfl, hgr6.out, by have := hrep x g j rfl; simpa using this⟩
  ·have htk : PS.took { p3 with root := k } 36 = { p3 with root := k } := by unfold PS.took; rw [if_neg (by rw [hcur]; exact h36)]
   have hd : decide (PS.cur { p3 with root := k } = 36) = false := by rw [hcur]; simpa using h36
   have hcur6 : PS.cur { p3 with root := k, en := false } = at' s j := by rw [cur_good' (by show p3.bad < 0; rw [e3]; exact hm1)]; show at' p3.s p3.ix = _; rw [a1, e1]; rfl
   have HE : Hid (PatE s (.ok (x, g) j) = if 0 ≤ at' s j then .bad j else .ok ⟨decide (at' s 0 = 94), false, x, g⟩ j) := by
    show PatE s (.ok (x, g) j) = _
    rw [PatE_ok]
    rw [if_neg h36, decide_eq_false h36]
   have hbadn : PS.bad { p3 with root := k, en := false } < 0 := by show p3.bad < 0; rw [e3]; exact hm1
   have hbad1 : Hid (PS.bad { p3 with root := k, en := false } = -1) := e3
   have hixn : Hid (((PS.ix { p3 with root := k, en := false } : Nat) : Int) = (j : Nat)) := by show ((PS.ix { p3 with root := k, en := false } : Nat) : Int) = (j : Nat); show (p3.ix : Int) = _; rw [e1]
   have hbg6 : Hid (PS.bg { p3 with root := k, en := false } = decide (at' s 0 = 94)) := by show p3.bg = _; rw [a3, hbgv]
   have hgr6 : Hid (PS.gr { p3 with root := k, en := false } = g) := e2
   clear hcur a1 a2 a3 a4 a5 e1 e2 e3
   go_wp2_with (first | (go_at_call 81; refine (take_any b { p3 with root := k } 36 _ hp4 (by omega) hs3).mono ?_; rintro e w5 ⟨rfl, hp5, hk5⟩; rw [htk] at hp5; obtain ⟨_, _, x4, _, _, y4⟩ := hp5.rbe))
   have hp6 := hp5.setEn false
   have hkF : Keeps [] w (w5.setCell ⟨b, 4, none⟩ (.bool false)) := (keeps_new hkE hk5 hbS).setCell (Or.inr (by show w.heap.size ≤ b; rw [HBQ.out]; exact Nat.le_refl _)) _
   have hinv6 := (hinv4.keep hk5 sub_b).keep ((Keeps.refl [b] w5).setB 4 (.bool false)) sub_b
   clear hp5 hk5 htk hd x4 y4
   generalize (w5.setCell ⟨b, 4, none⟩ (.bool false)) = w6 at *
   refine (more_w b { p3 with root := k, en := false } _ hp6).mono ?_
   rintro e w7 ⟨rfl, hp7, hk7⟩
   obtain ⟨c0, h6, h7, f6, f7⟩ := hp7.main
   by_cases hmo : 0 ≤ at' s j
   ·have hm : moreB { p3 with root := k, en := false } = true := by rw [moreB_eq, hcur6]; simpa using hmo
    have HQ : Hid (PatE s (.ok (x, g) j) = .bad j) := by show PatE s (.ok (x, g) j) = _; rw [HE.out, if_pos hmo]
    have hp8 := hp7.setBad (PS.ix { p3 with root := k, en := false } : Int)
    obtain ⟨d0, d6, d7, _, _⟩ := hp8.main
    have HIX : Hid (((PS.ix { p3 with root := k, en := false } : Nat) : Int) = (j : Nat)) := by first | exact hixn.out | rfl
    clear hcur6 hmo hixn hbad1
    have hge : ¬ ((PS.ix { p3 with root := k, en := false } : Nat) : Int) < 0 := by omega
    go_wp2_with (first | (go_at_call 84; refine (fail_good b { p3 with root := k, en := false } _ hp7 hbadn).mono ?_; rintro e w8 ⟨rfl, rfl⟩))
    go_ret2
    exact ⟨b, _, ext, .bad j, 2, rfl, by rw [HBQ.out]; exact Nat.le_refl _, ⟨_, HG.out, HQ.out.symm⟩, hp8, (hinv6.keep hk7 sub_nil).keep ((Keeps.refl [b] w7).setB 6 _) sub_b, (hkF.trans hk7).setCell (Or.inr (by show w.heap.size ≤ b; rw [HBQ.out]; exact Nat.le_refl _)) _, hlen, A1.out, rfl, by first | exact HIX.out | rfl⟩
   ·have hm : moreB { p3 with root := k, en := false } = false := by rw [moreB_eq, hcur6]; simpa using hmo
    have HQ : Hid (PatE s (.ok (x, g) j) = .ok ⟨decide (at' s 0 = 94), false, x, g⟩ j) := by show PatE s (.ok (x, g) j) = _; rw [HE.out, if_neg hmo]
    clear hcur6 hmo hixn
    go_wp2_with fail
    go_ret2
    exact ⟨b, _, ext, .ok ⟨decide (at' s 0 = 94), false, x, g⟩ j, 0, rfl, by rw [HBQ.out]; exact Nat.le_refl _, ⟨_, HG.out, HQ.out.symm⟩, hp7, hinv6.keep hk7 sub_nil, hkF.trans hk7, hlen, A1.out, rfl, hbg6.out, rfl, hgr6.out, by have := hrep x g j rfl; simpa using this⟩
end Go.Proofs.YtnfojonmohijpaaGreatDoor
