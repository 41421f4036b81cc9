/-
  DERIVED. The contract of the reference's 'single', given that of 'ways' on what is shorter. Conditions: the pattern is at most 60 bytes long, nothing was wrong so far, there is a byte, the nodes lie as they should.
-/
import Derived.Test.YtnfojonmohijpaaGreatDoorJNA
set_option linter.unusedSimpArgs false
set_option linter.unusedVariables false
namespace Go.Proofs.YtnfojonmohijpaaGreatDoor
open Go.RowKit
theorem mk256 (w : World) : (Instr.makeSlice 98 (.int .i64 256) (.int .i64 256)).run Tryz.prog w = .ok (.slice (some ⟨w.heap.size, 0, none⟩) 256 256) (w.alloc (.cells (hcells fun _ => false) 4)) := by kernel_rfl
def NV (w : World) (nb h : Nat) : Prop := w.heap[nb]? = some (.cells #[.int .u8 98, .slice (some ⟨h, 0, none⟩) 256 256, .int .i64 0, .int .i64 0, .int .i64 0, .slice none 0 0] 157 (0, 0))
theorem NV.lt {w : World} {nb h : Nat} (H : NV w nb h) : nb < w.heap.size := (Array.getElem?_eq_some_iff.1 H).1
theorem NV.keep {w w' : World} {nb h : Nat} {S : List Nat} (H : NV w nb h) (hk : Keeps S w w') (hb : nb ∉ S) : NV w' nb h := (hk.block nb H.lt hb).trans H
theorem NV.cells {w : World} {nb h : Nat} (H : NV w nb h) : w.cell? ⟨nb, 0, none⟩ = some (.int .u8 98) ∧ w.cell? ⟨nb, 1, none⟩ = some (.slice (some ⟨h, 0, none⟩) 256 256) ∧ w.cell? ⟨nb, 2, none⟩ = some (.int .i64 0) ∧
    w.cell? ⟨nb, 3, none⟩ = some (.int .i64 0) ∧ w.cell? ⟨nb, 4, none⟩ = some (.int .i64 0) ∧ w.cell? ⟨nb, 5, none⟩ = some (.slice none 0 0) := by
 unfold NV at H
 simp [World.cell?, H]
structure SSt (b : Nat) (A : List Nat) (p : PS) (nds : List Nd) (w0 : World) (h nb : Nat) (p9 : PS) (F : Nat → Bool) (w9 : World) : Prop where
 pb : PB w9 b p9
 hb : HB w9 h F
 nv : NV w9 nb h
 nodes : p9.nodes = p.nodes
 fresh : w0.heap.size ≤ h ∧ w0.heap.size ≤ nb ∧ h ≠ nb
 kb : Keeps [b] w0 w9
 old : NInv w0 b A p.nodes nds
 avl : ∀ x, x ∈ A → x < w0.heap.size
 bl : b < w0.heap.size
theorem SSt.inv {b : Nat} {A : List Nat} {p : PS} {nds : List Nd} {w0 : World} {h nb : Nat} {p9 : PS} {F : Nat → Bool} {w9 : World} (S : SSt b A p nds w0 h nb p9 F w9) : NInv w9 b A p9.nodes nds := by rw [S.nodes]; exact S.old.keep S.kb sub_b
theorem SSt.grow {b : Nat} {A : List Nat} {p : PS} {nds : List Nd} {w0 : World} {h nb : Nat} {p9 : PS} {F : Nat → Bool} {w9 : World} (S : SSt b A p nds w0 h nb p9 F w9) : Grow b p.nodes p.nodes w0 w9 := Grow.of S.kb sub_b
theorem SSt.drewN {b : Nat} {A : List Nat} {p : PS} {nds : List Nd} {w0 : World} {h nb : Nat} {p9 : PS} {F : Nat → Bool} {w9 : World} (S : SSt b A p nds w0 h nb p9 F w9) (n : Nat) : SSt b A p nds w0 h nb p9 F (w9.drewN n) :=
 ⟨S.pb, S.hb, S.nv, S.nodes, S.fresh, S.kb.drewN n, S.old, S.avl, S.bl⟩
theorem SSt.set {b : Nat} {A : List Nat} {p : PS} {nds : List Nd} {w0 : World} {h nb : Nat} {p9 p10 : PS} {F F' : Nat → Bool} {w9 w10 : World} (S : SSt b A p nds w0 h nb p9 F w9) (hp : PB w10 b p10) (hh : HB w10 h F') (hk : Keeps [b, h] w9 w10) (hn : p10.nodes = p9.nodes) : SSt b A p nds w0 h nb p10 F' w10 := by
 have h2 : nb ∉ [b, h] := by have := S.fresh.2.1; have := S.fresh.2.2; have := S.bl; simp; omega
 refine ⟨hp, hh, S.nv.keep hk h2, hn.trans S.nodes, S.fresh, ⟨hk.os.trans S.kb.os, hk.tape.trans S.kb.tape, hk.output.trans S.kb.output, Nat.le_trans S.kb.size hk.size, ?_⟩, S.old, S.avl, S.bl⟩
 intro k hkl hkn
 refine (hk.block k (Nat.lt_of_lt_of_le hkl S.kb.size) ?_).trans (S.kb.block k hkl hkn)
 have := S.fresh.1
 simp at hkn ⊢
 omega
theorem SSt.ix {b : Nat} {A : List Nat} {p : PS} {nds : List Nd} {w0 : World} {h nb : Nat} {p9 : PS} {F : Nat → Bool} {w9 : World} (S : SSt b A p nds w0 h nb p9 F w9) (x : Nat) : SSt b A p nds w0 h nb { p9 with ix := x } F (w9.setCell ⟨b, 7, none⟩ (.int .i64 x)) := by
 have h1 : ¬ b = h := by have := S.fresh.1; have := S.bl; omega
 exact S.set (S.pb.setIx x) (S.hb.setOther h1 _) ((Keeps.refl _ _).setCell (by simp) _) rfl
theorem SSt.bad {b : Nat} {A : List Nat} {p : PS} {nds : List Nd} {w0 : World} {h nb : Nat} {p9 : PS} {F : Nat → Bool} {w9 : World} (S : SSt b A p nds w0 h nb p9 F w9) (x : Int) : SSt b A p nds w0 h nb { p9 with bad := x } F (w9.setCell ⟨b, 6, none⟩ (.int .i64 x)) := by
 have h1 : ¬ b = h := by have := S.fresh.1; have := S.bl; omega
 exact S.set (S.pb.setBad x) (S.hb.setOther h1 _) ((Keeps.refl _ _).setCell (by simp) _) rfl
theorem SSt.put {b : Nat} {A : List Nat} {p : PS} {nds : List Nd} {w0 : World} {h nb : Nat} {p9 : PS} {F : Nat → Bool} {w9 : World} (S : SSt b A p nds w0 h nb p9 F w9) (k : Nat) : SSt b A p nds w0 h nb p9 (fun n => if n = k then true else F n) (w9.setCell ⟨h, k, none⟩ (.bool true)) := by
 have h1 : ¬ h = b := by have := S.fresh.1; have := S.bl; omega
 exact S.set (S.pb.setOther h1 _) (S.hb.set k true) ((Keeps.refl _ _).setCell (by simp) _) rfl
theorem single_fin {b : Nat} {A : List Nat} {p : PS} {nds : List Nd} {w0 : World} {h nb : Nat} {p9 : PS} {F : Nat → Bool} {w9 : World} (S : SSt b A p nds w0 h nb p9 F w9) (hn : nds.length ≤ 1000) (q : R (Pat × Nat))
    (hG : G p.s .single p.deep p.gr p.ix q) (hA : After p q p9) (hq : ∀ x g j, q = .ok (x, g) j → ∃ f, x = .set f ∧ ∀ n, n < 256 → F n = f n) (hix : p.ix < p.s.size) :
    Calls Tryz.prog 136 #[.pointer (some ⟨b, 0, none⟩), .agg #[.int .u8 98, .slice (some ⟨h, 0, none⟩) 256 256, .int .i64 0, .int .i64 0, .int .i64 0, .slice none 0 0]] w9 (Post .single b A p w0 nds) := by
 have hav : h ∉ avoA b A p9.nodes := by
  intro hm
  rw [S.nodes] at hm
  have := S.old.av S.bl S.avl h hm
  have := S.fresh.1
  omega
 have hcs : NdAt w9 (avoA b A p9.nodes) { kind := 98, f := F, n := 0, mn := 0, mx := 0, kids := [] } [.int .u8 98, .slice (some ⟨h, 0, none⟩) 256 256, .int .i64 0, .int .i64 0, .int .i64 0, .slice none 0 0] :=
  ⟨_, _, rfl, ⟨⟨_, _, _, rfl⟩, fun _ => ⟨h, rfl, S.hb, hav⟩⟩, kids_nil _ _⟩
 refine (add_nd b A p9 w9 (fun x hx => Nat.lt_of_lt_of_le (S.avl x hx) S.kb.size) nds _ _ S.pb S.inv hcs hn).mono ?_
 rintro e w' ⟨v', rfl, hp', hinv', hg'⟩
 have hG' : Grow b p.nodes v' w0 w' := S.grow.trans (by rw [← S.nodes]; exact hg')
 obtain ⟨a1, a2, a3, a4, a5, a6⟩ := hA
 have hle := endOf_le hG (Nat.le_of_lt hix)
 refine ⟨q, nds.length, { p9 with nodes := v' }, [{ kind := 98, f := F, n := 0, mn := 0, mx := 0, kids := [] }], rfl, hG, ⟨a1, a2, a3, a4, a5, ?_⟩, hp', hinv', ?_, ?_, hG'⟩
 ·cases q with
  | ok x j => exact a6
  | bad j => exact a6
 ·cases q with
  | ok x j =>
   have := (hG.okb x.1 x.2 j rfl).2.2.1 (Or.inr rfl)
   simp only [endOf, bndL, bndR, List.length_singleton]; omega
  | bad j => simp only [endOf, bndL, bndR, List.length_singleton]; omega
 ·intro x g j e
  obtain ⟨f, rfl, hf⟩ := hq x g j e
  exact ⟨nds.length, _, rfl, get_last _ _, rfl, rfl, hf⟩
theorem after_set (p : PS) (q : R (Nat → Bool)) : After p (q.map fun f => (Pat.set f, p.gr)) (({ p with ix := p.ix + 1 } : PS).after q) := by
 cases q <;> exact ⟨rfl, rfl, rfl, rfl, rfl, by first | exact ⟨rfl, rfl, rfl⟩ | rfl⟩
theorem set_ok {q : R (Nat → Bool)} {f' : Nat → Bool} {g0 : Nat} (hff : ∀ f j, q = .ok f j → ∀ n, n < 256 → f' n = f n) : ∀ x g j, (q.map fun f => (Pat.set f, g0)) = .ok (x, g) j → ∃ f, x = .set f ∧ ∀ n, n < 256 → f' n = f n := by
 intro x g j e
 cases q with
 | ok f j' => cases e; exact ⟨f, rfl, hff f j rfl⟩
 | bad j' => cases e
theorem put_one (n A : Nat) : (if n = A then true else (fun _ : Nat => false) n) = stretch (A : Int) (A : Int) n := by
 unfold stretch
 by_cases e : n = A
 ·subst e; simp
 ·have : ¬ ((A : Int) ≤ (n : Int) ∧ (n : Int) ≤ (A : Int)) := by omega
  by_cases h1 : (A : Int) ≤ (n : Int)
  ·have h2 : ¬ (n : Int) ≤ (A : Int) := by omega
   simp [e, h2]
  ·simp [e, h1]
theorem after_esc (p : PS) (q : R Int) : After p (q.map fun a => (Pat.set (stretch a a), p.gr)) (p.after q) := by
 cases q <;> exact ⟨rfl, rfl, rfl, rfl, rfl, by first | exact ⟨rfl, rfl, rfl⟩ | rfl⟩
theorem esc_ok {q : R Int} {A g0 : Nat} (hva : ∀ a j, q = .ok a j → (A : Int) = a) : ∀ x g j, (q.map fun a => (Pat.set (stretch a a), g0)) = .ok (x, g) j → ∃ f, x = .set f ∧ ∀ n, n < 256 → (if n = A then true else (fun _ : Nat => false) n) = f n := by
 intro x g j e
 cases q with
 | ok f j' => cases e; refine ⟨_, rfl, fun n _ => ?_⟩; rw [← hva f j rfl]; exact put_one n A
 | bad j' => cases e
theorem has_single (c : Int) : (hasB ⟨#[94, 36, 124, 41, 42, 43, 63, 123]⟩ c (ByteArray.size ⟨#[94, 36, 124, 41, 42, 43, 63, 123]⟩) = true) ↔ notC c := by
 simp [hasB, ByteArray.size, notC]
 omega
set_option maxRecDepth 100000 in
set_option maxHeartbeats 4000000 in
theorem single_any (n : Nat) (IH : Shorter n) (b : Nat) (A : List Nat) (p : PS) (w : World) (nds : List Nd) (h : Pre b A p w nds) (hix : p.ix < p.s.size) (hn : p.s.size - p.ix ≤ n) :
    Calls Tryz.prog 225 #[.pointer (some ⟨b, 0, none⟩)] w (Post .single b A p w nds) := by
 obtain ⟨hp, hinv, hav0, hb, hs, hpi, hroom, hgr, hdp⟩ := h
 have hmk := mk256
 go_enter Tryz.func225, Tryz.ntmps225
 go_wp2_with fail
 have hk0 := ((Keeps.refl [] w).alloc (.cells (hcells fun _ => false) 4)).alloc (.cells #[.int .u8 98, .slice (some ⟨w.heap.size, 0, none⟩) 256 256, .int .i64 0, .int .i64 0, .int .i64 0, .slice none 0 0] 157)
 have hp1 := hp.keep hk0 (by simp)
 have hb1 : HB ((w.alloc (.cells (hcells fun _ => false) 4)).alloc (.cells #[.int .u8 98, .slice (some ⟨w.heap.size, 0, none⟩) 256 256, .int .i64 0, .int .i64 0, .int .i64 0, .slice none 0 0] 157)) w.heap.size (fun _ => false) := HB.keep (w := w.alloc (.cells (hcells fun _ => false) 4)) (heap_alloc_new w _) ((Keeps.refl [] _).alloc (.cells #[.int .u8 98, .slice (some ⟨w.heap.size, 0, none⟩) 256 256, .int .i64 0, .int .i64 0, .int .i64 0, .slice none 0 0] 157)) (by simp)
 have nv1 : NV ((w.alloc (.cells (hcells fun _ => false) 4)).alloc (.cells #[.int .u8 98, .slice (some ⟨w.heap.size, 0, none⟩) 256 256, .int .i64 0, .int .i64 0, .int .i64 0, .slice none 0 0] 157)) (w.heap.size + 1) w.heap.size := by
  unfold NV
  rw [show w.heap.size + 1 = (w.alloc (.cells (hcells fun _ => false) 4)).heap.size from by simp]
  exact heap_alloc_new _ _
 have hbl := hp.lt
 have S0 : SSt b A p nds w w.heap.size (w.heap.size + 1) p (fun _ => false) _ := ⟨hp1, hb1, nv1, rfl, ⟨Nat.le_refl _, by omega, by omega⟩, hk0.mono (by simp), hinv, hav0, hbl⟩
 clear hk0 hp1 hb1 nv1 hmk
 generalize ((w.alloc (.cells (hcells fun _ => false) 4)).alloc (.cells #[.int .u8 98, .slice (some ⟨w.heap.size, 0, none⟩) 256 256, .int .i64 0, .int .i64 0, .int .i64 0, .slice none 0 0] 157)) = W at *
 obtain ⟨h, hh⟩ : ∃ h, h = w.heap.size := ⟨_, rfl⟩
 rw [← hh] at S0 ⊢
 have hlen : nds.length ≤ 1000 := by omega
 have ec := at'_lt hix
 have hki : (p.ix : Int) < (p.s.size : Int) := by omega
 have hkj : (0 : Int) ≤ (p.ix : Int) := by omega
 have hkk : (p.ix : Int) ≤ 60 := by omega
 have hc1 := (p.s[p.ix]).toNat_lt
 have hcl : (0 : Int) ≤ (p.s[p.ix].toNat : Int) := by omega
 have hcu : (p.s[p.ix].toNat : Int) ≤ 255 := by omega
 clear hc1
 obtain ⟨c0, h6, h7, f6, f7⟩ := S0.pb.main
 obtain ⟨m0, m1, m2, m3, m4, m5⟩ := S0.nv.cells
 generalize hgc : (p.s[p.ix].toNat : Int) = c at *
 have HE : Hid (at' p.s p.ix = c) := ec
 clear ec
 have hnbB : ¬ b = h := by omega
 have hnbC : ¬ b = h + 1 := by omega
 have hnbD : ¬ h = h + 1 := by omega
 clear hh hbl
 go_quiet (fail)
 clear hgc
 replace S0 := S0.drewN nq
 by_cases e40 : c = 40
 ·have q40 : (c == 40) = true := by simpa using e40
  have HC : Hid (at' p.s p.ix = 40) := by show at' p.s p.ix = 40; rw [HE.out]; exact e40
  clear e40
  go_wp2_with (first | (go_at_call 261; refine (group_any n IH b A p _ nds ⟨S0.pb, S0.inv, fun x hx => Nat.lt_of_lt_of_le (S0.avl x hx) S0.kb.size, hb, hs, hpi, hroom, hgr, hdp⟩ HC.out hn).mono ?_; rintro e w' ⟨q', k', p', ext, rfl, a1, a2, a3, a4, a5, a6, a7⟩))
  go_ret
  exact ⟨q', k', p', ext, rfl, a1, a2, a3, a4, a5, a6, S0.grow.trans a7⟩
 ·have q40 : (c == 40) = false := by simpa using e40
  have E40 : Hid (c ≠ 40) := e40
  clear e40
  by_cases e91 : c = 91
  ·have q91 : (c == 91) = true := by simpa using e91
   have HC : Hid (at' p.s p.ix = 91) := by show at' p.s p.ix = 91; rw [HE.out]; exact e91
   clear e91
   have S1 := S0.ix (p.ix + 1)
   go_wp2_with (first | (go_at_call 262; refine (set_any b h { p with ix := p.ix + 1 } _ S1.pb S1.hb hb hs hix hnbB).mono ?_; rintro e w2 ⟨rfl, q, hq, hp2, ⟨f', hh2, hff⟩, hk2⟩; have S2 := S1.set hp2 hh2 hk2 (by cases q <;> rfl); obtain ⟨m0, m1, m2, m3, m4, m5⟩ := S2.nv.cells) | (go_at_call 136; refine (single_fin S2 hlen (q.map fun f => (.set f, p.gr)) (.set _ _ _ _ HC.out hq) (after_set p q) (set_ok hff) hix).mono ?_; rintro e w' ⟨q', k', p', ext, rfl, rest⟩))
   skip
   go_ret
   exact ⟨q', k', p', ext, rfl, rest⟩
  ·have q91 : (c == 91) = false := by simpa using e91
   have E91 : Hid (c ≠ 91) := e91
   clear e91
   by_cases e46 : c = 46
   ·have q46 : (c == 46) = true := by simpa using e46
    have HC : Hid (at' p.s p.ix = 46) := by show at' p.s p.ix = 46; rw [HE.out]; exact e46
    clear e46
    have S1 := S0.ix (p.ix + 1)
    go_wp2_with fail
    generalize hW9 : (W.drewN nq).setCell ⟨b, 7, none⟩ (.int .i64 ((p.ix : Int) + 1)) = W9 at *
    have S1' : SSt b A p nds w h (h + 1) { p with ix := p.ix + 1 } (fun _ => false) W9 := by rw [← hW9]; exact S1
    clear S1 hW9
    go_loopw [5] (fun u wr => ∃ m : Nat, m ≤ 256 ∧ u = .int .i64 m ∧ SSt b A p nds w h (h + 1) { p with ix := p.ix + 1 } (fun n => decide (n < m)) wr) (fun u _ => 256 - (intOf u).toNat)
    case atStart => exact ⟨0, by omega, rfl, S1'.set S1'.pb (S1'.hb.congr (by simp)) (Keeps.refl _ _) rfl⟩
    case round =>
     obtain ⟨m, hm, rfl, S3⟩ := hrel
     clear S1' c0 h6 h7 f6 f7 m0 m1 m2 m3 m4 m5
     obtain ⟨m0, m1, m2, m3, m4, m5⟩ := S3.nv.cells
     by_cases hm2 : m < 256
     ·have hcm := S3.hb.cell hm2
      have hfm := S3.hb.frozen m
      have hmi : (m : Int) < 256 := by omega
      have hmj : (0 : Int) ≤ (m : Int) := by omega
      go_wp2_with fail
      go_roundw
      case rel =>
       refine ⟨m + 1, by omega, by go_num, (S3.put m).set (S3.put m).pb ((S3.put m).hb.congr ?_) (Keeps.refl _ _) rfl⟩
       intro n _
       by_cases e : n = m
       ·subst e; simp
       ·have : decide (n < m + 1) = decide (n < m) := by simp; omega
        simp [e, this]
      case measure => simp [intOf]; omega
     ·have e : m = 256 := by omega
      subst e
      go_wp2_with (first | (go_at_call 136; refine (single_fin S3 hlen (.ok (.set fun _ => true, p.gr) (p.ix + 1)) (.dot _ _ _ HC.out) ⟨rfl, rfl, rfl, rfl, rfl, rfl, rfl, rfl⟩ (by intro x g j e; cases e; exact ⟨_, rfl, by intro n hn; simpa using hn⟩) hix).mono ?_; rintro e w' ⟨q', k', p', ext, rfl, rest⟩))
      skip
      go_ret
      exact ⟨q', k', p', ext, rfl, rest⟩
   ·have q46 : (c == 46) = false := by simpa using e46
    have E46 : Hid (c ≠ 46) := e46
    clear e46
    by_cases e92 : c = 92
    ·have q92 : (c == 92) = true := by simpa using e92
     have HC : Hid (at' p.s p.ix = 92) := by show at' p.s p.ix = 92; rw [HE.out]; exact e92
     clear e92
     go_wp2_with fail
     refine (esc_any b p _ 0 S0.pb hb hs hix (by omega) (by omega)).mono ?_
     rintro e w2 ⟨v, rfl, ⟨hv0, hv1, hva⟩, hp2, hk2⟩
     obtain ⟨Ab, rfl, hA⟩ := nat_of hv0 hv1
     have S2 := S0.set hp2 (S0.hb.keep hk2 (by simp; omega)) (hk2.mono (by simp)) (by cases escS p.s 0 (p.ix + 1) <;> rfl)
     clear hp2 hk2 c0 h6 h7 f6 f7 m0 m1 m2 m3 m4 m5
     obtain ⟨m0, m1, m2, m3, m4, m5⟩ := S2.nv.cells
     have hcA := S2.hb.cell (k := Ab) (by omega)
     have hfA := S2.hb.frozen Ab
     have hA0 : (0 : Int) ≤ (Ab : Int) := by omega
     have hA1 : (Ab : Int) < 256 := by omega
     have S3 := S2.put Ab
     have HVA : Hid (∀ a j, escS p.s 0 (p.ix + 1) = .ok a j → (Ab : Int) = a) := hva
     clear hva
     go_wp2_with (first | (go_at_call 136; refine (single_fin S3 hlen ((escS p.s 0 (p.ix + 1)).map fun a => (.set (stretch a a), p.gr)) (.esc _ _ _ HC.out) (after_esc p _) (esc_ok HVA.out) hix).mono ?_; rintro e w' ⟨q', k', p', ext, rfl, rest⟩))
     skip
     go_ret
     exact ⟨q', k', p', ext, rfl, rest⟩
    ·have q92 : (c == 92) = false := by simpa using e92
     have E92 : Hid (c ≠ 92) := e92
     clear e92
     by_cases eN : notC c
     ·have HN : Hid (notC (at' p.s p.ix)) := by show notC (at' p.s p.ix); rw [HE.out]; exact eN
      have HH := (has_single c).2 eN
      clear eN
      have S1 := S0.bad p.ix
      go_wp2_with (first | (go_at_call 109; refine (has_any _ c _ (by decide)).mono ?_; rintro e w' ⟨rfl, rfl⟩; rw [HH]) | (go_at_call 84; refine (fail_good b p _ S0.pb hb).mono ?_; rintro e w' ⟨rfl, rfl⟩) | (go_at_call 136; refine (single_fin S1 hlen (.bad p.ix) (.no _ _ _ HN.out) ⟨rfl, rfl, rfl, rfl, rfl, rfl⟩ (by intro x g j e; cases e) hix).mono ?_; rintro e w' ⟨q', k', p', ext, rfl, rest⟩))
      skip
      go_ret
      exact ⟨q', k', p', ext, rfl, rest⟩
     ·have HN : Hid (¬ notC (at' p.s p.ix)) := by show ¬ notC (at' p.s p.ix); rw [HE.out]; exact eN
      have HH := Bool.eq_false_iff.2 fun e => eN ((has_single c).1 e)
      have HG : Hid (G p.s .single p.deep p.gr p.ix (.ok (.set (stretch c c), p.gr) (p.ix + 1))) := by
       show G _ _ _ _ _ _
       rw [← HE.out]
       exact .lit _ _ _ (by rw [HE.out]; exact hcl) (by rw [HE.out]; exact E40.out) (by rw [HE.out]; exact E91.out) (by rw [HE.out]; exact E46.out) (by rw [HE.out]; exact E92.out) HN.out
      clear eN
      obtain ⟨Ab, hA, hA2⟩ := nat_of hcl hcu
      subst hA
      have hA1 : (Ab : Int) < 256 := by omega
      have S2 := S0.ix (p.ix + 1)
      have S3 := S2.put Ab
      have hcA := S0.hb.cell (k := Ab) (by omega)
      have hfA := S0.hb.frozen Ab
      go_wp2_with (first | (go_at_call 109; refine (has_any _ _ _ (by decide)).mono ?_; rintro e w' ⟨rfl, rfl⟩; rw [HH]) | (go_at_call 136; refine (single_fin S3 hlen (.ok (.set (stretch Ab Ab), p.gr) (p.ix + 1)) HG.out ⟨rfl, rfl, rfl, rfl, rfl, rfl, rfl, rfl⟩ (by intro x g j e; cases e; exact ⟨_, rfl, fun n _ => put_one n Ab⟩) hix).mono ?_; rintro e w' ⟨q', k', p', ext, rfl, rest⟩))
      skip
      go_ret
      exact ⟨q', k', p', ext, rfl, rest⟩
end Go.Proofs.YtnfojonmohijpaaGreatDoor
namespace Go.Proofs.YtnfojonmohijpaaGreatDoor
open Go.RowKit
structure QSt (b : Nat) (A : List Nat) (p1 : PS) (nds1 : List Nd) (w1 : World) (kb nb k mn : Nat) (mx : Int) (p9 : PS) (w9 : World) : Prop where
 pb : PB w9 b p9
 kv : w9.heap[kb]? = some (.cells #[.int .i64 (k : Int)] 3 (0, 0))
 nv : w9.heap[nb]? = some (.cells #[.int .u8 114, .slice none 0 0, .int .i64 0, .int .i64 (mn : Int), .int .i64 mx, .slice (some ⟨kb, 0, none⟩) 1 1] 157 (0, 0))
 nodes : p9.nodes = p1.nodes
 fresh : w1.heap.size ≤ kb ∧ w1.heap.size ≤ nb ∧ kb ≠ nb
 kp : Keeps [b] w1 w9
 old : NInv w1 b A p1.nodes nds1
 avl : ∀ x, x ∈ A → x < w1.heap.size
 bl : b < w1.heap.size
theorem QSt.cells {b : Nat} {A : List Nat} {p1 : PS} {nds1 : List Nd} {w1 : World} {kb nb k mn : Nat} {mx : Int} {p9 : PS} {w9 : World} (S : QSt b A p1 nds1 w1 kb nb k mn mx p9 w9) : w9.cell? ⟨nb, 0, none⟩ = some (.int .u8 114) ∧ w9.cell? ⟨nb, 1, none⟩ = some (.slice none 0 0) ∧ w9.cell? ⟨nb, 2, none⟩ = some (.int .i64 0) ∧
    w9.cell? ⟨nb, 3, none⟩ = some (.int .i64 (mn : Int)) ∧ w9.cell? ⟨nb, 4, none⟩ = some (.int .i64 mx) ∧ w9.cell? ⟨nb, 5, none⟩ = some (.slice (some ⟨kb, 0, none⟩) 1 1) ∧ w9.frozen? ⟨nb, 3, none⟩ = false ∧ w9.frozen? ⟨nb, 4, none⟩ = false := by
 simp [World.cell?, World.frozen?, S.nv]
theorem QSt.inv {b : Nat} {A : List Nat} {p1 : PS} {nds1 : List Nd} {w1 : World} {kb nb k mn : Nat} {mx : Int} {p9 : PS} {w9 : World} (S : QSt b A p1 nds1 w1 kb nb k mn mx p9 w9) : NInv w9 b A p9.nodes nds1 := by rw [S.nodes]; exact S.old.keep S.kp sub_b
theorem QSt.grow {b : Nat} {A : List Nat} {p1 : PS} {nds1 : List Nd} {w1 : World} {kb nb k mn : Nat} {mx : Int} {p9 : PS} {w9 : World} (S : QSt b A p1 nds1 w1 kb nb k mn mx p9 w9) : Grow b p1.nodes p1.nodes w1 w9 := Grow.of S.kp sub_b
theorem QSt.call {b : Nat} {A : List Nat} {p1 : PS} {nds1 : List Nd} {w1 : World} {kb nb k mn : Nat} {mx : Int} {p9 : PS} {w9 : World} (S : QSt b A p1 nds1 w1 kb nb k mn mx p9 w9) {p10 : PS} {w10 : World} (hp : PB w10 b p10) (hk : Keeps [b] w9 w10) (hn : p10.nodes = p9.nodes) : QSt b A p1 nds1 w1 kb nb k mn mx p10 w10 := by
 have h0 := S.bl
 have h1 : kb ∉ [b] := by have := S.fresh.1; simp; omega
 have h2 : nb ∉ [b] := by have := S.fresh.2.1; simp; omega
 have l1 := (Array.getElem?_eq_some_iff.1 S.kv).1
 have l2 := (Array.getElem?_eq_some_iff.1 S.nv).1
 exact ⟨hp, (hk.block kb l1 h1).trans S.kv, (hk.block nb l2 h2).trans S.nv, hn.trans S.nodes, S.fresh, S.kp.trans hk, S.old, S.avl, S.bl⟩
theorem QSt.drewN {b : Nat} {A : List Nat} {p1 : PS} {nds1 : List Nd} {w1 : World} {kb nb k mn : Nat} {mx : Int} {p9 : PS} {w9 : World} (S : QSt b A p1 nds1 w1 kb nb k mn mx p9 w9) (n : Nat) : QSt b A p1 nds1 w1 kb nb k mn mx p9 (w9.drewN n) := ⟨S.pb, S.kv, S.nv, S.nodes, S.fresh, S.kp.drewN n, S.old, S.avl, S.bl⟩
theorem QSt.ix {b : Nat} {A : List Nat} {p1 : PS} {nds1 : List Nd} {w1 : World} {kb nb k mn : Nat} {mx : Int} {p9 : PS} {w9 : World} (S : QSt b A p1 nds1 w1 kb nb k mn mx p9 w9) (x : Nat) : QSt b A p1 nds1 w1 kb nb k mn mx { p9 with ix := x } (w9.setCell ⟨b, 7, none⟩ (.int .i64 x)) := S.call (S.pb.setIx x) ((Keeps.refl [b] w9).setB 7 _) rfl
theorem QSt.mn {b : Nat} {A : List Nat} {p1 : PS} {nds1 : List Nd} {w1 : World} {kb nb k mn : Nat} {mx : Int} {p9 : PS} {w9 : World} (S : QSt b A p1 nds1 w1 kb nb k mn mx p9 w9) (x : Nat) : QSt b A p1 nds1 w1 kb nb k x mx p9 (w9.setCell ⟨nb, 3, none⟩ (.int .i64 x)) := by
 have h0 := S.bl
 have h1 := S.fresh
 refine ⟨S.pb.setOther (by simp; omega) _, ?_, ?_, S.nodes, S.fresh, S.kp.setCell (Or.inr (by simp; omega)) _, S.old, S.avl, S.bl⟩
 ·rw [Below.heap_setCell _ _ _ _ (by simp; omega)]; exact S.kv
 ·simp [World.setCell, Array.getElem?_modify, S.nv]
theorem QSt.mx {b : Nat} {A : List Nat} {p1 : PS} {nds1 : List Nd} {w1 : World} {kb nb k mn : Nat} {mx : Int} {p9 : PS} {w9 : World} (S : QSt b A p1 nds1 w1 kb nb k mn mx p9 w9) (x : Int) : QSt b A p1 nds1 w1 kb nb k mn x p9 (w9.setCell ⟨nb, 4, none⟩ (.int .i64 x)) := by
 have h0 := S.bl
 have h1 := S.fresh
 refine ⟨S.pb.setOther (by simp; omega) _, ?_, ?_, S.nodes, S.fresh, S.kp.setCell (Or.inr (by simp; omega)) _, S.old, S.avl, S.bl⟩
 ·rw [Below.heap_setCell _ _ _ _ (by simp; omega)]; exact S.kv
 ·simp [World.setCell, Array.getElem?_modify, S.nv]
structure Sgl (b : Nat) (p : PS) (w : World) (nds : List Nd) (x : Pat) (g1 j k : Nat) (p1 : PS) (ext : List Nd) (w1 : World) : Prop where
 g : G p.s .single p.deep p.gr p.ix (.ok (x, g1) j)
 a : After p (.ok (x, g1) j) p1
 bd : ext.length + 1 ≤ 4 * (j - p.ix)
 rp : rep (nds ++ ext) x [k]
 gw : Grow b p.nodes p1.nodes w w1
 le : j ≤ p.s.size
 lt : p.ix < j
def RA (p1 p9 : PS) (qr : R (Option (Nat × Int))) : Prop :=
 (p9.s = p1.s ∧ p9.root = p1.root ∧ p9.bg = p1.bg ∧ p9.en = p1.en ∧ p9.deep = p1.deep ∧ p9.gr = p1.gr) ∧
 match qr with
 | .ok _ j' => p9.ix = j' ∧ p9.bad = p1.bad
 | .bad l => p9.bad = (l : Int)
theorem ra_after {p p1 p9 : PS} {x : Pat} {g1 j : Nat} {qr : R (Option (Nat × Int))} (ha : After p (.ok (x, g1) j) p1) (hr : RA p1 p9 qr) : After p (qr.map fun o => (withRep x o, g1)) p9 := by
 obtain ⟨a1, a2, a3, a4, a5, a6, a7, a8⟩ := ha
 obtain ⟨⟨r1, r2, r3, r4, r5, r6⟩, r7⟩ := hr
 refine ⟨r1.trans a1, r2.trans a2, r3.trans a3, r4.trans a4, r5.trans a5, ?_⟩
 cases qr with
 | ok o j' => exact ⟨r7.1, r6.trans a7, r7.2.trans a8⟩
 | bad l => exact r7
theorem piece_one {b : Nat} {A : List Nat} {p : PS} {w : World} {nds : List Nd} {x : Pat} {g1 j k : Nat} {p1 : PS} {ext : List Nd} {w1 w9 : World} (S : Sgl b p w nds x g1 j k p1 ext w1) (hp : PB w1 b p1) (hi : NInv w1 b A p1.nodes (nds ++ ext)) (hk : Keeps [b] w1 w9) (hp9 : PB w9 b p1)
    (hr : RepR p.s j (.ok none j)) : Post .piece b A p w nds (.returned (.int .i64 k)) w9 := by
 refine ⟨_, k, p1, ext, rfl, .rep _ _ _ _ _ _ _ S.g hr, S.a, hp9, hi.keep hk sub_b, ?_, ?_, S.gw.trans (Grow.of hk sub_b)⟩
 ·have := S.bd
  simp only [endOf, R.map, bndL, bndR]; omega
 ·intro x' g' j' e
  cases e
  exact S.rp
theorem piece_fin {b : Nat} {A : List Nat} {p : PS} {w : World} {nds : List Nd} {x : Pat} {g1 j k : Nat} {p1 : PS} {ext : List Nd} {w1 w9 : World} (S : Sgl b p w nds x g1 j k p1 ext w1) {kb nb mn : Nat} {mx : Int} {p9 : PS} (Q : QSt b A p1 (nds ++ ext) w1 kb nb k mn mx p9 w9)
    (hn : (nds ++ ext).length ≤ 1000) (qr : R (Option (Nat × Int))) (hr : RepR p.s j qr) (hra : RA p1 p9 qr) (hm : ∀ o j', qr = .ok o j' → o = some (mn, mx)) :
    Calls Tryz.prog 136 #[.pointer (some ⟨b, 0, none⟩), .agg #[.int .u8 114, .slice none 0 0, .int .i64 0, .int .i64 (mn : Int), .int .i64 mx, .slice (some ⟨kb, 0, none⟩) 1 1]] w9 (Post .piece b A p w nds) := by
 have hcs : NdAt w9 (avoA b A p9.nodes) { kind := 114, f := fun _ => false, n := 0, mn := mn, mx := mx, kids := [k] } [.int .u8 114, .slice none 0 0, .int .i64 0, .int .i64 (mn : Int), .int .i64 mx, .slice (some ⟨kb, 0, none⟩) 1 1] := by
  refine ⟨.slice none 0 0, _, rfl, ⟨⟨_, _, _, rfl⟩, by simp⟩, ⟨⟨rfl, Or.inr ⟨kb, 1, _, rfl, Nat.zero_le _, Q.kv, Nat.le_refl _, by unfold maxLen; omega, rfl, rfl⟩⟩, ?_⟩⟩
  intro g hg hm'
  have e : g = kb := by simpa [Value.ownBlock] using hg.symm
  subst e
  rw [Q.nodes] at hm'
  have := Q.old.av Q.bl Q.avl _ hm'
  have := Q.fresh.1
  omega
 refine (add_nd b A p9 w9 (fun x hx => Nat.lt_of_lt_of_le (Q.avl x hx) Q.kp.size) (nds ++ ext) _ _ Q.pb Q.inv hcs hn).mono ?_
 rintro e w' ⟨v', rfl, hp', hinv', hg'⟩
 have hgw : Grow b p.nodes v' w w' := S.gw.trans (Q.grow.trans (by rw [← Q.nodes]; exact hg'))
 rw [List.append_assoc] at hinv'
 have hra' : RA p1 { p9 with nodes := v' } qr := hra
 have hbd := S.bd
 have hlt := S.lt
 have hG := G.rep _ _ _ _ _ _ _ S.g hr
 refine ⟨_, (nds ++ ext).length, { p9 with nodes := v' }, ext ++ [{ kind := 114, f := fun _ => false, n := 0, mn := mn, mx := mx, kids := [k] }], rfl, hG, ra_after S.a hra', hp', hinv', ?_, ?_, hgw⟩
 ·have hle := S.le
  cases qr with
  | ok o j' => have := hr.ok; have hno := hm o j' rfl; simp only [endOf, R.map, bndL, bndR, List.length_append, List.length_singleton]; omega
  | bad l => simp only [endOf, R.map, bndL, bndR, List.length_append, List.length_singleton]; omega
 ·intro x' g' j' e
  cases qr with
  | bad l => cases e
  | ok o l =>
   have ho := hm o l rfl
   subst ho
   cases e
   rw [← List.append_assoc]
   exact ⟨_, { kind := 114, f := fun _ => false, n := 0, mn := mn, mx := mx, kids := [k] }, k, rfl, by rw [List.length_append]; exact get_last2 _ _ _, rfl, rfl, rfl, rfl, rep_app _ S.rp⟩
end Go.Proofs.YtnfojonmohijpaaGreatDoor
namespace Go.Proofs.YtnfojonmohijpaaGreatDoor
open Go.RowKit
theorem cur_good' {p : PS} (hb : p.bad < 0) : p.cur = at' p.s p.ix := by simp [PS.cur, hb]
theorem cur_bad' {p : PS} (hb : 0 ≤ p.bad) : p.cur = -1 := by simp [PS.cur]; omega
theorem NAfter.eq {p p' : PS} {q : R Nat} (h : NAfter p q p') : ∃ a z, p' = { p with ix := a, bad := z } := by
 rcases h with rfl | ⟨_, rfl⟩
 ·cases q <;> exact ⟨_, _, rfl⟩
 ·exact ⟨_, _, rfl⟩
theorem NAfter.nodes {p p' : PS} {q : R Nat} (h : NAfter p q p') : p'.nodes = p.nodes := by obtain ⟨a, z, rfl⟩ := h.eq; rfl
theorem NAfter.s {p p' : PS} {q : R Nat} (h : NAfter p q p') : p'.s = p.s := by obtain ⟨a, z, rfl⟩ := h.eq; rfl
theorem NAfter.root {p p' : PS} {q : R Nat} (h : NAfter p q p') : p'.root = p.root := by obtain ⟨a, z, rfl⟩ := h.eq; rfl
theorem NAfter.bg {p p' : PS} {q : R Nat} (h : NAfter p q p') : p'.bg = p.bg := by obtain ⟨a, z, rfl⟩ := h.eq; rfl
theorem NAfter.en {p p' : PS} {q : R Nat} (h : NAfter p q p') : p'.en = p.en := by obtain ⟨a, z, rfl⟩ := h.eq; rfl
theorem NAfter.deep {p p' : PS} {q : R Nat} (h : NAfter p q p') : p'.deep = p.deep := by obtain ⟨a, z, rfl⟩ := h.eq; rfl
theorem NAfter.gr {p p' : PS} {q : R Nat} (h : NAfter p q p') : p'.gr = p.gr := by obtain ⟨a, z, rfl⟩ := h.eq; rfl
theorem NAfter.need {p p' : PS} {k : Nat} {c : Int} (h : NAfter p (.bad k) p') (hb : p.bad < 0) (hc : 0 ≤ c) : p'.cur = -1 ∧ (p'.needed c).bad = (k : Int) := by
 rcases h with rfl | ⟨e, rfl⟩
 ·have h1 : PS.cur (p.after (R.bad k : R Nat)) = -1 := cur_bad' (by show (0 : Int) ≤ (k : Int); omega)
  refine ⟨h1, ?_⟩
  unfold PS.needed PS.failed
  rw [if_neg (by rw [h1]; omega), if_neg (by show ¬ (k : Int) < 0; omega)]
  rfl
 ·cases e
  have h1 : PS.cur { p with ix := p.s.size } = -1 := by rw [cur_good' (by exact hb)]; exact at'_ge (Nat.le_refl _)
  refine ⟨h1, ?_⟩
  unfold PS.needed PS.failed
  rw [if_neg (by rw [h1]; omega), if_pos (by exact hb)]
set_option maxRecDepth 100000 in
set_option maxHeartbeats 4000000 in
theorem piece_any (n : Nat) (IH : Shorter n) (b : Nat) (A : List Nat) (p : PS) (w : World) (nds : List Nd) (h : Pre b A p w nds) (hix : p.ix < p.s.size) (hn : p.s.size - p.ix ≤ n) :
    Calls Tryz.prog 185 #[.pointer (some ⟨b, 0, none⟩)] w (Post .piece b A p w nds) := by
 have hb := h.good
 have hs := h.sz
 have hroom := h.room
 go_enter Tryz.func185, Tryz.ntmps185
 go_wp2_with (first | (go_at_call 225; refine (single_any n IH b A p _ nds h hix hn).mono ?_; rintro e w1 ⟨q, k, p1, ext, rfl, hG, hA, hp1, hinv1, hbd, hrep, hgrow⟩))
 cases q with
 | bad j =>
  obtain ⟨a1, a2, a3, a4, a5, a6⟩ := hA
  have hm : moreB p1 = false := by rw [moreB_eq, cur_bad' (by rw [a6]; omega)]; decide
  go_wp2_with (first | (go_at_call 83; refine (more_w b _ _ hp1).mono ?_; rintro e w2 ⟨rfl, hp2, hk2⟩))
  go_ret
  refine ⟨.bad j, k, p1, ext, rfl, .sbad _ _ _ _ hG, ⟨a1, a2, a3, a4, a5, a6⟩, hp2, hinv1.keep hk2 sub_nil, ?_, by simp, hgrow.trans (Grow.of hk2 sub_nil)⟩
  simp only [endOf, bndL, bndR] at hbd ⊢; omega
 | ok xg j =>
  obtain ⟨x, g1⟩ := xg
  have hok := hG.okb x g1 j rfl
  have SG : Sgl b p w nds x g1 j k p1 ext w1 := ⟨hG, hA, by simpa [endOf, bndL, bndR] using hbd, hrep x g1 j rfl, hgrow, hok.2.1 (Nat.le_of_lt hix), hok.2.2.1 (Or.inr rfl)⟩
  have hlen : (nds ++ ext).length ≤ 1000 := by
   have := SG.bd
   have := SG.le
   simp only [List.length_append]; omega
  obtain ⟨a1, a2, a3, a4, a5, a6, a7, a8⟩ := hA
  have hcj : p1.cur = at' p.s j := by rw [cur_good' (by rw [a8]; exact hb), a1, a6]
  have hb1 : p1.bad < 0 := by rw [a8]; exact hb
  have hs1 : p1.s.size ≤ 60 := by rw [a1]; exact hs
  cases hm : moreB p1
  ·have hat : at' p.s j = -1 := by rw [← hcj]; exact PS.cur_none hm
   have HR : Hid (RepR p.s j (.ok none j)) := Or.inl ⟨by omega, by omega, by omega, by omega, rfl⟩
   clear hat hcj
   go_wp2_with (first | (go_at_call 83; refine (more_w b _ _ hp1).mono ?_; rintro e w2 ⟨rfl, hp2, hk2⟩))
   go_ret
   exact piece_one SG hp1 hinv1 (hk2.mono (by simp)) hp2 HR.out
  ·have hlt1 := (PS.cur_more hm).1
   have ec := at'_lt hlt1
   have hc1 := (p1.s[p1.ix]).toNat_lt
   have hki : (p1.ix : Int) < (p1.s.size : Int) := by omega
   have hkj : (0 : Int) ≤ (p1.ix : Int) := by omega
   have hkk : (p1.ix : Int) ≤ 60 := by omega
   have hcl : (0 : Int) ≤ (p1.s[p1.ix].toNat : Int) := by omega
   have hcu : (p1.s[p1.ix].toNat : Int) ≤ 255 := by omega
   generalize hgc : (p1.s[p1.ix].toNat : Int) = c at *
   have HE : Hid (at' p.s j = c) := by show at' p.s j = c; rw [← a1, ← a6]; exact ec
   have HJ : Hid (p1.ix = j) := a6
   have HS : Hid (p1.s = p.s) := a1
   clear ec hc1 hcj a1 a2 a3 a4 a5 a6 a7 a8
   go_wp2_with (first | (go_at_call 83; refine (more_w b _ _ hp1).mono ?_; rintro e w2 ⟨rfl, hp2, hk2⟩))
   have hkA := ((Keeps.refl [] w2).alloc (.cells #[.int .i64 (k : Int)] 3)).alloc (.cells #[.int .u8 114, .slice none 0 0, .int .i64 0, .int .i64 0, .int .i64 (-1), .slice (some ⟨w2.heap.size, 0, none⟩) 1 1] 157)
   have hpA := hp2.keep hkA (by simp)
   have hkv : ((w2.alloc (.cells #[.int .i64 (k : Int)] 3)).alloc (.cells #[.int .u8 114, .slice none 0 0, .int .i64 0, .int .i64 0, .int .i64 (-1), .slice (some ⟨w2.heap.size, 0, none⟩) 1 1] 157)).heap[w2.heap.size]? = some (.cells #[.int .i64 (k : Int)] 3 (0, 0)) := by
    rw [Below.heap_alloc _ _ _ (by simp)]; exact heap_alloc_new w2 _
   have hnv : ((w2.alloc (.cells #[.int .i64 (k : Int)] 3)).alloc (.cells #[.int .u8 114, .slice none 0 0, .int .i64 0, .int .i64 0, .int .i64 (-1), .slice (some ⟨w2.heap.size, 0, none⟩) 1 1] 157)).heap[w2.heap.size + 1]? = some (.cells #[.int .u8 114, .slice none 0 0, .int .i64 0, .int .i64 0, .int .i64 (-1), .slice (some ⟨w2.heap.size, 0, none⟩) 1 1] 157 (0, 0)) := by
    rw [show w2.heap.size + 1 = (w2.alloc (.cells #[.int .i64 (k : Int)] 3)).heap.size from by simp]
    exact heap_alloc_new _ _
   have Q0 : QSt b A p1 (nds ++ ext) w1 w2.heap.size (w2.heap.size + 1) k 0 (-1) p1 _ := ⟨hpA, hkv, hnv, rfl, ⟨hk2.size, by have := hk2.size; omega, by omega⟩, (hk2.mono (by simp)).trans (hkA.mono (by simp)), hinv1, fun x hx => Nat.lt_of_lt_of_le (h.avl x hx) hgrow.1.size, hp1.lt⟩
   have hbl := hp2.lt
   clear hkA hpA hkv hnv
   generalize ((w2.alloc (.cells #[.int .i64 (k : Int)] 3)).alloc (.cells #[.int .u8 114, .slice none 0 0, .int .i64 0, .int .i64 0, .int .i64 (-1), .slice (some ⟨w2.heap.size, 0, none⟩) 1 1] 157)) = W at *
   obtain ⟨kb, hkb⟩ : ∃ kb, kb = w2.heap.size := ⟨_, rfl⟩
   rw [← hkb] at Q0 ⊢
   have hnb : ¬ b = kb + 1 := by omega
   have hnb' : ¬ kb + 1 = b := by omega
   clear hkb hbl
   obtain ⟨c0, h6, h7, f6, f7⟩ := Q0.pb.main
   obtain ⟨m0, m1, m2, m3, m4, m5, z3, z4⟩ := Q0.cells
   go_quiet (fail)
   clear hgc
   replace Q0 := Q0.drewN nq
   by_cases e42 : c = 42
   ·have q42 : (c == 42) = true := by simpa using e42
    have HR : Hid (RepR p.s j (.ok (some (0, -1)) (j + 1))) := Or.inr (Or.inl ⟨by rw [HE.out]; exact e42, rfl⟩)
    clear e42
    have Q1 := Q0.ix (p1.ix + 1)
    go_wp2_with (first | (go_at_call 136; refine (piece_fin SG Q1 hlen (.ok (some (0, -1)) (j + 1)) HR.out ⟨⟨rfl, rfl, rfl, rfl, rfl, rfl⟩, by rw [HJ.out], rfl⟩ (by intro o j' e; cases e; rfl)).mono ?_; rintro e w' ⟨q', k', p', ext', rfl, rest⟩))
    go_ret
    exact ⟨q', k', p', ext', rfl, rest⟩
   ·have q42 : (c == 42) = false := by simpa using e42
    have E42 : Hid (c ≠ 42) := e42
    clear e42
    by_cases e43 : c = 43
    ·have q43 : (c == 43) = true := by simpa using e43
     have HR : Hid (RepR p.s j (.ok (some (1, -1)) (j + 1))) := Or.inr (Or.inr (Or.inl ⟨by rw [HE.out]; exact e43, rfl⟩))
     clear e43
     have Q1 := (Q0.ix (p1.ix + 1)).mn 1
     go_wp2_with (first | (go_at_call 136; refine (piece_fin SG Q1 hlen (.ok (some (1, -1)) (j + 1)) HR.out ⟨⟨rfl, rfl, rfl, rfl, rfl, rfl⟩, by rw [HJ.out], rfl⟩ (by intro o j' e; cases e; rfl)).mono ?_; rintro e w' ⟨q', k', p', ext', rfl, rest⟩))
     go_ret
     exact ⟨q', k', p', ext', rfl, rest⟩
    ·have q43 : (c == 43) = false := by simpa using e43
     have E43 : Hid (c ≠ 43) := e43
     clear e43
     by_cases e63 : c = 63
     ·have q63 : (c == 63) = true := by simpa using e63
      have HR : Hid (RepR p.s j (.ok (some (0, 1)) (j + 1))) := Or.inr (Or.inr (Or.inr (Or.inl ⟨by rw [HE.out]; exact e63, rfl⟩)))
      clear e63
      have Q1 := (Q0.ix (p1.ix + 1)).mx 1
      go_wp2_with (first | (go_at_call 136; refine (piece_fin SG Q1 hlen (.ok (some (0, 1)) (j + 1)) HR.out ⟨⟨rfl, rfl, rfl, rfl, rfl, rfl⟩, by rw [HJ.out], rfl⟩ (by intro o j' e; cases e; rfl)).mono ?_; rintro e w' ⟨q', k', p', ext', rfl, rest⟩))
      go_ret
      exact ⟨q', k', p', ext', rfl, rest⟩
     ·have q63 : (c == 63) = false := by simpa using e63
      have E63 : Hid (c ≠ 63) := e63
      clear e63
      by_cases e123 : c = 123
      ·have q123 : (c == 123) = true := by simpa using e123
       have HC : Hid (at' p.s j = 123) := by show at' p.s j = 123; rw [HE.out]; exact e123
       clear e123
       have Q1 := Q0.ix (p1.ix + 1)
       go_wp2_with fail
       have hlt2 : p1.ix + 1 ≤ p1.s.size := hlt1
       refine (number_any b { p1 with ix := p1.ix + 1 } 0 _ Q1.pb hb1 hs1 hlt2 (by omega)).mono ?_
       rintro e w3 ⟨q1, v1, p3, rfl, hN1, hv5, hvm, hna, hp3, hk3⟩
       have HN1 : Hid (NumL p.s 0 0 false (j + 1) q1) := by
        have h' : NumL p1.s 0 0 false (p1.ix + 1) q1 := hN1
        rw [HS.out, HJ.out] at h'
        exact h'
       have hnd3 : p3.nodes = p1.nodes := hna.nodes
       have Q2 := Q1.call hp3 hk3 hnd3
       have Q4 := (Q2.mn v1).mx (v1 : Int)
       clear c0 h6 h7 f6 f7 m0 m1 m2 m3 m4 m5 z3 z4
       obtain ⟨m0, m1, m2, m3, m4, m5, z3, z4⟩ := Q2.cells
       clear hN1 Q1 Q2 hp3 hk3
       go_wp2_with fail
       clear m0 m1 m2 m3 m4 m5 z3 z4
       generalize ((w3.setCell ⟨kb + 1, 3, none⟩ (.int .i64 (v1 : Int))).setCell ⟨kb + 1, 4, none⟩ (.int .i64 (v1 : Int))) = W4 at *
       have hs3 : p3.s = p1.s := hna.s
       have hs3' : p3.s.size ≤ 60 := by rw [hs3]; exact hs1
       cases q1 with
       | bad k' =>
        obtain ⟨hcur, hnb3⟩ := hna.need (c := 125) hb1 (by omega)
        have hd44 : decide (p3.cur = 44) = false := by rw [hcur]; decide
        have htk : p3.took 44 = p3 := by unfold PS.took; rw [if_neg (by omega)]
        have HR : Hid (RepR p.s j (.bad k')) := Or.inr (Or.inr (Or.inr (Or.inr ⟨HC.out, _, HN1.out, rfl⟩)))
        refine (take_any b p3 44 _ Q4.pb (by omega) hs3').mono ?_
        rintro e w5 ⟨rfl, hp5, hk5⟩
        rw [htk] at hp5
        have Q5 := Q4.call hp5 hk5 rfl
        clear hcur htk hp5 hk5 Q4
        go_wp2_with fail
        refine (need_any b p3 125 _ Q5.pb (by omega) hs3').mono ?_
        rintro e w6 ⟨rfl, hp6, hk6⟩
        have Q6 := Q5.call hp6 hk6 (needed_nodes p3 125)
        obtain ⟨m0, m1, m2, m3, m4, m5, z3, z4⟩ := Q6.cells
        have HRA : Hid (RA p1 (p3.needed 125) (.bad k')) := ⟨⟨(needed_s p3 125).trans hna.s, (needed_root p3 125).trans hna.root, (needed_bg p3 125).trans hna.bg, (needed_en p3 125).trans hna.en, (needed_deep p3 125).trans hna.deep, (needed_gr p3 125).trans hna.gr⟩, hnb3⟩
        clear hp6 hk6 Q5 hna hvm
        go_wp2_with (first | (go_at_call 136; refine (piece_fin SG Q6 hlen (.bad k') HR.out HRA.out (by intro o j' e; cases e)).mono ?_; rintro e w' ⟨q', k', p', ext', rfl, rest⟩))
        go_ret
        exact ⟨q', k', p', ext', rfl, rest⟩
       | ok m k' =>
        have hvm' := hvm m k' rfl
        subst hvm'
        have e3 : p3 = { p1 with ix := k' } := by
         rcases hna with e | ⟨e, _⟩
         ·exact e
         ·cases e
        subst e3
        have hk60 := HN1.out.ok v1 k' rfl
        clear hna hvm hnd3 hs3
        have hjs : j < p.s.size := by rw [← HS.out, ← HJ.out]; exact hlt1
        have hcur : PS.cur { p1 with ix := k' } = at' p.s k' := by rw [cur_good' (by exact hb1), ← HS.out]
        by_cases e44 : at' p.s k' = 44
        ·have hd44 : decide (PS.cur { p1 with ix := k' } = 44) = true := by rw [hcur]; simpa using e44
         have htk : PS.took { p1 with ix := k' } 44 = { p1 with ix := k' + 1 } := by unfold PS.took; rw [if_pos (by rw [hcur]; exact e44)]
         have H44 : Hid (at' p.s k' = 44) := e44
         refine (take_any b { p1 with ix := k' } 44 _ Q4.pb (by omega) hs3').mono ?_
         rintro e w5 ⟨rfl, hp5, hk5⟩
         rw [htk] at hp5
         have Q5 := Q4.call hp5 hk5 rfl
         have Q6 := Q5.mx (-1)
         obtain ⟨m0, m1, m2, m3, m4, m5, z3, z4⟩ := Q5.cells
         have hcur2 : PS.cur { p1 with ix := k' + 1 } = at' p.s (k' + 1) := by rw [cur_good' (by exact hb1), ← HS.out]
         clear hcur htk hp5 hk5 Q4 e44
         have hk1s : k' + 1 ≤ p1.s.size := by rw [HS.out]; exact at'_nn (by rw [H44.out]; omega)
         go_wp2_with fail
         clear m0 m1 m2 m3 m4 m5 z3 z4 hd44 Q5
         generalize (w5.setCell ⟨kb + 1, 4, none⟩ (.int .i64 (-1))) = W6 at *
         refine (next_w b { p1 with ix := k' + 1 } 125 _ Q6.pb (by omega)).mono ?_
         rintro e w7 ⟨rfl, hp7, hk7⟩
         have Q7 := Q6.call hp7 (hk7.mono (by simp)) rfl
         clear hp7 hk7 Q6
         obtain ⟨m0, m1, m2, m3, m4, m5, z3, z4⟩ := Q7.cells
         by_cases e125 : at' p.s (k' + 1) = 125
         ·have hd : decide (PS.cur { p1 with ix := k' + 1 } = 125) = true := by rw [hcur2]; simpa using e125
          have hnd : PS.needed { p1 with ix := k' + 1 } 125 = { p1 with ix := k' + 2 } := by unfold PS.needed; rw [if_pos (by rw [hcur2]; exact e125)]
          have HR : Hid (RepR p.s j (.ok (some (v1, -1)) (k' + 2))) := Or.inr (Or.inr (Or.inr (Or.inr ⟨HC.out, _, HN1.out, Or.inl ⟨H44.out, e125, rfl⟩⟩)))
          clear hcur2 e125
          go_wp2_with fail
          refine (need_any b { p1 with ix := k' + 1 } 125 _ Q7.pb (by omega) hs3').mono ?_
          rintro e w8 ⟨rfl, hp8, hk8⟩
          rw [hnd] at hp8
          have Q8 := Q7.call hp8 hk8 rfl
          clear hnd hp8 hk8 Q7 m0 m1 m2 m3 m4 m5 z3 z4
          obtain ⟨m0, m1, m2, m3, m4, m5, z3, z4⟩ := Q8.cells
          go_wp2_with (first | (go_at_call 136; refine (piece_fin SG Q8 hlen (.ok (some (v1, -1)) (k' + 2)) HR.out ⟨⟨rfl, rfl, rfl, rfl, rfl, rfl⟩, rfl, rfl⟩ (by intro o j' e; cases e; rfl)).mono ?_; rintro e w' ⟨q', k', p', ext', rfl, rest⟩))
          go_ret
          exact ⟨q', k', p', ext', rfl, rest⟩
         ·have hd : decide (PS.cur { p1 with ix := k' + 1 } = 125) = false := by rw [hcur2]; simpa using e125
          have H125 : Hid (at' p.s (k' + 1) ≠ 125) := e125
          clear hcur2 e125
          go_wp2_with fail
          refine (number_any b { p1 with ix := k' + 1 } v1 _ Q7.pb hb1 hs3' hk1s hv5).mono ?_
          rintro e w8 ⟨q2, v2, p5, rfl, hN2, hv25, hvm2, hna2, hp8, hk8⟩
          have HN2 : Hid (NumL p.s v1 0 false (k' + 1) q2) := by
           have h' : NumL p1.s v1 0 false (k' + 1) q2 := hN2
           rw [HS.out] at h'
           exact h'
          have Q8 := Q7.call hp8 hk8 hna2.nodes
          have Q9 := Q8.mx (v2 : Int)
          have hs5 : p5.s.size ≤ 60 := by rw [hna2.s]; exact hs3'
          clear m0 m1 m2 m3 m4 m5 z3 z4
          obtain ⟨m0, m1, m2, m3, m4, m5, z3, z4⟩ := Q8.cells
          clear hN2 hp8 hk8 Q7 Q8
          go_wp2_with fail
          refine (need_any b p5 125 _ Q9.pb (by omega) hs5).mono ?_
          rintro e wA ⟨rfl, hpA, hkA⟩
          have QA := Q9.call hpA hkA (needed_nodes p5 125)
          clear m0 m1 m2 m3 m4 m5 z3 z4 hpA hkA Q9
          obtain ⟨m0, m1, m2, m3, m4, m5, z3, z4⟩ := QA.cells
          obtain ⟨qr, HR, HRA, HM⟩ : ∃ qr, Hid (RepR p.s j qr) ∧ Hid (RA p1 (p5.needed 125) qr) ∧ Hid (∀ o j', qr = .ok o j' → o = some (v1, (v2 : Int))) := by
           have fields : (p5.needed 125).s = p1.s ∧ (p5.needed 125).root = p1.root ∧ (p5.needed 125).bg = p1.bg ∧ (p5.needed 125).en = p1.en ∧ (p5.needed 125).deep = p1.deep ∧ (p5.needed 125).gr = p1.gr :=
            ⟨(needed_s p5 125).trans hna2.s, (needed_root p5 125).trans hna2.root, (needed_bg p5 125).trans hna2.bg, (needed_en p5 125).trans hna2.en, (needed_deep p5 125).trans hna2.deep, (needed_gr p5 125).trans hna2.gr⟩
           cases q2 with
           | bad l =>
            refine ⟨.bad l, Or.inr (Or.inr (Or.inr (Or.inr ⟨HC.out, _, HN1.out, Or.inr (Or.inl ⟨H44.out, H125.out, _, HN2.out, rfl⟩)⟩))), ⟨fields, (hna2.need (c := 125) hb1 (by omega)).2⟩, ?_⟩
            intro o j' e; cases e
           | ok n2 l =>
            have e5 : p5 = { p1 with ix := l } := by
             rcases hna2 with e | ⟨e, _⟩
             ·exact e
             ·cases e
            subst e5
            have hv2 := hvm2 n2 l rfl
            subst hv2
            have hcl : PS.cur { p1 with ix := l } = at' p.s l := by rw [cur_good' (by exact hb1), ← HS.out]
            refine ⟨if at' p.s l = 125 then .ok (some (v1, (v2 : Int))) (l + 1) else .bad l, Or.inr (Or.inr (Or.inr (Or.inr ⟨HC.out, _, HN1.out, Or.inr (Or.inl ⟨H44.out, H125.out, _, HN2.out, rfl⟩)⟩))), ?_, ?_⟩
            ·by_cases h5 : at' p.s l = 125
             ·rw [if_pos h5]
              refine ⟨fields, ?_⟩
              unfold PS.needed
              rw [if_pos (by rw [hcl]; exact h5)]
              exact ⟨rfl, rfl⟩
             ·rw [if_neg h5]
              refine ⟨fields, ?_⟩
              unfold PS.needed PS.failed
              rw [if_neg (by rw [hcl]; exact h5), if_pos (by exact hb1)]
            ·by_cases h5 : at' p.s l = 125
             ·rw [if_pos h5]; intro o j' e; cases e; rfl
             ·rw [if_neg h5]; intro o j' e; cases e
          clear hna2 hvm2
          go_wp2_with (first | (go_at_call 136; refine (piece_fin SG QA hlen qr HR.out HRA.out HM.out).mono ?_; rintro e w' ⟨q', k', p', ext', rfl, rest⟩))
          go_ret
          exact ⟨q', k', p', ext', rfl, rest⟩
        ·have hd44 : decide (PS.cur { p1 with ix := k' } = 44) = false := by rw [hcur]; simpa using e44
         have htk : PS.took { p1 with ix := k' } 44 = { p1 with ix := k' } := by unfold PS.took; rw [if_neg (by rw [hcur]; exact e44)]
         refine (take_any b { p1 with ix := k' } 44 _ Q4.pb (by omega) hs3').mono ?_
         rintro e w5 ⟨rfl, hp5, hk5⟩
         rw [htk] at hp5
         have Q5 := Q4.call hp5 hk5 rfl
         obtain ⟨qr, HR, HRA, HM⟩ : ∃ qr, Hid (RepR p.s j qr) ∧ Hid (RA p1 (PS.needed { p1 with ix := k' } 125) qr) ∧ Hid (∀ o j', qr = .ok o j' → o = some (v1, (v1 : Int))) := by
          refine ⟨if at' p.s k' = 125 then .ok (some (v1, (v1 : Int))) (k' + 1) else .bad k', Or.inr (Or.inr (Or.inr (Or.inr ⟨HC.out, _, HN1.out, Or.inr (Or.inr ⟨e44, rfl⟩)⟩))), ?_, ?_⟩
          ·refine ⟨⟨needed_s _ _, needed_root _ _, needed_bg _ _, needed_en _ _, needed_deep _ _, needed_gr _ _⟩, ?_⟩
           by_cases h5 : at' p.s k' = 125
           ·rw [if_pos h5]
            unfold PS.needed
            rw [if_pos (by rw [hcur]; exact h5)]
            exact ⟨rfl, rfl⟩
           ·rw [if_neg h5]
            unfold PS.needed PS.failed
            rw [if_neg (by rw [hcur]; exact h5), if_pos (by exact hb1)]
          ·by_cases h5 : at' p.s k' = 125
           ·rw [if_pos h5]; intro o j' e; cases e; rfl
           ·rw [if_neg h5]; intro o j' e; cases e
         clear hcur htk hp5 hk5 Q4 e44
         go_wp2_with fail
         refine (need_any b { p1 with ix := k' } 125 _ Q5.pb (by omega) hs3').mono ?_
         rintro e w6 ⟨rfl, hp6, hk6⟩
         have Q6 := Q5.call hp6 hk6 (needed_nodes _ 125)
         clear hp6 hk6 Q5
         obtain ⟨m0, m1, m2, m3, m4, m5, z3, z4⟩ := Q6.cells
         go_wp2_with (first | (go_at_call 136; refine (piece_fin SG Q6 hlen qr HR.out HRA.out HM.out).mono ?_; rintro e w' ⟨q', k', p', ext', rfl, rest⟩))
         go_ret
         exact ⟨q', k', p', ext', rfl, rest⟩
      ·have q123 : (c == 123) = false := by simpa using e123
       have HR : Hid (RepR p.s j (.ok none j)) := Or.inl ⟨by rw [HE.out]; exact E42.out, by rw [HE.out]; exact E43.out, by rw [HE.out]; exact E63.out, by rw [HE.out]; exact e123, rfl⟩
       clear e123
       go_wp2_with fail
       go_ret
       exact piece_one SG hp1 hinv1 Q0.kp Q0.pb HR.out
end Go.Proofs.YtnfojonmohijpaaGreatDoor
