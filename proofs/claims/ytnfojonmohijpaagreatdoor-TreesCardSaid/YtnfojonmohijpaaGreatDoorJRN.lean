/-
  DERIVED. What the reference's readers of parts are claimed to do, and the contract of 'group', given that of 'ways' on what is shorter. Conditions: the pattern is at most 60 bytes long, nothing was wrong so far, the nodes lie as they should.
-/
import Derived.Test.YtnfojonmohijpaaGreatDoorJRK
set_option linter.unusedSimpArgs false
set_option linter.unusedVariables false
namespace Go.Proofs.YtnfojonmohijpaaGreatDoor
open Go.RowKit
def endOf {α : Type} (s : ByteArray) : R α → Nat
 | .ok _ j => j
 | .bad _ => s.size
def After (p : PS) (q : R (Pat × Nat)) (p' : PS) : Prop :=
 p'.s = p.s ∧ p'.root = p.root ∧ p'.bg = p.bg ∧ p'.en = p.en ∧ p'.deep = p.deep ∧
 match q with
 | .ok (_, g1) j => p'.ix = j ∧ p'.gr = g1 ∧ p'.bad = p.bad
 | .bad j => p'.bad = (j : Int)
def repK (nds : List Nd) : Kd → Pat → Nat → Prop
 | .single, x, k => rep nds x [k]
 | .piece, x, k => rep nds x [k]
 | .way, x, k => ∃ lp, rep nds x lp ∧ ListN nds 119 lp k
 | .ways, x, k => ∃ lw, rep nds x lw ∧ ListN nds 111 lw k
def bndL : Kd → Nat
 | .single => 1
 | _ => 0
def bndR : Kd → Nat
 | .way => 1
 | .ways => 2
 | _ => 0
structure Pre (b : Nat) (A : List Nat) (p : PS) (w : World) (nds : List Nd) : Prop where
 pb : PB w b p
 inv : NInv w b A p.nodes nds
 avl : ∀ x, x ∈ A → x < w.heap.size
 good : p.bad < 0
 sz : p.s.size ≤ 60
 ix : p.ix ≤ p.s.size
 room : nds.length + 4 * (p.s.size - p.ix) + 2 ≤ 1000
 gr : p.gr ≤ 9
 deep : p.deep ≤ 6
def Post (kd : Kd) (b : Nat) (A : List Nat) (p : PS) (w : World) (nds : List Nd) (e : Ending) (w' : World) : Prop :=
 ∃ (q : R (Pat × Nat)) (k : Nat) (p' : PS) (ext : List Nd), e = .returned (.int .i64 k) ∧ G p.s kd p.deep p.gr p.ix q ∧ After p q p' ∧ PB w' b p' ∧ NInv w' b A p'.nodes (nds ++ ext) ∧
  ext.length + bndL kd ≤ 4 * (endOf p.s q - p.ix) + bndR kd ∧ (∀ x g j, q = .ok (x, g) j → repK (nds ++ ext) kd x k) ∧ Grow b p.nodes p'.nodes w w'
theorem PB.gd {w : World} {b : Nat} {p : PS} (h : PB w b p) :
    w.cell? ⟨b, 5, none⟩ = some (.int .i64 p.gr) ∧ w.cell? ⟨b, 8, none⟩ = some (.int .i64 p.deep) ∧ w.frozen? ⟨b, 5, none⟩ = false ∧ w.frozen? ⟨b, 8, none⟩ = false := by
 unfold PB at h
 simp [World.cell?, World.frozen?, h, PS.cells]
theorem PB.setGr {w : World} {b : Nat} {p : PS} (h : PB w b p) (x : Nat) : PB (w.setCell ⟨b, 5, none⟩ (.int .i64 x)) b { p with gr := x } := by
 unfold PB at *
 simp [World.setCell, Array.getElem?_modify, h, PS.cells]
theorem PB.setDeep {w : World} {b : Nat} {p : PS} (h : PB w b p) (x : Nat) : PB (w.setCell ⟨b, 8, none⟩ (.int .i64 x)) b { p with deep := x } := by
 unfold PB at *
 simp [World.setCell, Array.getElem?_modify, h, PS.cells]
theorem Keeps.setB {b : Nat} {a w : World} (h : Keeps [b] a w) (o : Nat) (u : Value) : Keeps [b] a (w.setCell ⟨b, o, none⟩ u) := h.setCell (by simp) u
theorem sub_b {b : Nat} {w : World} : ∀ x, x ∈ [b] → x = b ∨ w.heap.size ≤ x := by simp
theorem sub_nil {b : Nat} {w : World} : ∀ x, x ∈ ([] : List Nat) → x = b ∨ w.heap.size ≤ x := by simp
theorem kids_one {w : World} (k : Nat) (av : List Nat) (hav : ∀ x, x ∈ av → x < w.heap.size) : KidsV (w.alloc (.cells #[.int .i64 (k : Int)] 3)) av (.slice (some ⟨w.heap.size, 0, none⟩) 1 1) [k] := by
 refine ⟨⟨rfl, Or.inr ⟨w.heap.size, 1, #[.int .i64 (k : Int)], rfl, Nat.zero_le _, heap_alloc_new w _, Nat.le_refl _, by unfold maxLen; omega, rfl, rfl⟩⟩, ?_⟩
 intro g hg hm
 have : g = w.heap.size := by simpa [Value.ownBlock] using hg.symm
 have := hav g hm
 omega
theorem kids_nil (w : World) (av : List Nat) : KidsV w av (.slice none 0 0) [] := ⟨World.ownsRow_nil _ _ _ _, by simp [Value.ownBlock]⟩
theorem NInv.av {w : World} {b : Nat} {A : List Nat} {v : Value} {nds : List Nd} (h : NInv w b A v nds) (hb : b < w.heap.size) (hA : ∀ x, x ∈ A → x < w.heap.size) : ∀ x, x ∈ avoA b A v → x < w.heap.size := by
 obtain ⟨css, hl, ho, hne, hnA, hn⟩ := h
 intro x hx
 simp only [avoA, List.mem_cons, List.mem_append, Option.mem_toList] at hx
 rcases hx with rfl | h | h
 ·exact hb
 ·exact (ho.lt x h).2
 ·exact hA x h
theorem needed_deep (p : PS) (c : Int) : (p.needed c).deep = p.deep := by unfold PS.needed PS.failed; split <;> (try split) <;> rfl
theorem needed_nodes (p : PS) (c : Int) : (p.needed c).nodes = p.nodes := by unfold PS.needed PS.failed; split <;> (try split) <;> rfl
theorem needed_root (p : PS) (c : Int) : (p.needed c).root = p.root := by unfold PS.needed PS.failed; split <;> (try split) <;> rfl
theorem needed_bg (p : PS) (c : Int) : (p.needed c).bg = p.bg := by unfold PS.needed PS.failed; split <;> (try split) <;> rfl
theorem needed_en (p : PS) (c : Int) : (p.needed c).en = p.en := by unfold PS.needed PS.failed; split <;> (try split) <;> rfl
theorem needed_gr (p : PS) (c : Int) : (p.needed c).gr = p.gr := by unfold PS.needed PS.failed; split <;> (try split) <;> rfl
theorem endOf_le {s : ByteArray} {k : Kd} {d g i : Nat} {q : R (Pat × Nat)} (h : G s k d g i q) (hi : i ≤ s.size) : endOf s q ≤ s.size := by
 cases q with
 | bad j => exact Nat.le_refl _
 | ok x j => exact (h.okb x.1 x.2 j rfl).2.1 hi
theorem get_last (nds : List Nd) (nd : Nd) : (nds ++ [nd])[nds.length]? = some nd := by simp
theorem get_last2 (nds ext : List Nd) (nd : Nd) : (nds ++ ext ++ [nd])[nds.length + ext.length]? = some nd := by rw [← List.length_append]; simp
def Shorter (n : Nat) : Prop := ∀ (b : Nat) (A : List Nat) (p : PS) (w : World) (nds : List Nd), Pre b A p w nds → p.s.size - p.ix < n →
 Calls Tryz.prog 82 #[.pointer (some ⟨b, 0, none⟩)] w (Post .ways b A p w nds)
set_option maxRecDepth 100000 in
set_option maxHeartbeats 2000000 in
theorem group_any (n : Nat) (IH : Shorter n) (b : Nat) (A : List Nat) (p : PS) (w : World) (nds : List Nd) (h : Pre b A p w nds) (hc : at' p.s p.ix = 40) (hn : p.s.size - p.ix ≤ n) :
    Calls Tryz.prog 261 #[.pointer (some ⟨b, 0, none⟩)] w (Post .single b A p w nds) := by
 obtain ⟨hp, hinv, hav0, hb, hs, hpi, hroom, hgr, hdp⟩ := h
 have hlt := at'_nn (s := p.s) (i := p.ix) (by omega)
 obtain ⟨c0, h6, h7, f6, f7⟩ := hp.main
 obtain ⟨h5, h8, f5, f8⟩ := hp.gd
 by_cases hd6 : p.deep = 6 ∨ p.gr = 9
 ·have HG : Hid (G p.s .single p.deep p.gr p.ix (.bad p.ix)) := .deep _ _ _ hc hd6
  have hfin : ∀ w', w' = w.setCell ⟨b, 6, none⟩ (.int .i64 p.ix) → Post .single b A p w nds (.returned (.int .i64 0)) w' := by
   rintro w' rfl
   refine ⟨.bad p.ix, 0, { p with bad := (p.ix : Int) }, [], rfl, HG.out, ⟨rfl, rfl, rfl, rfl, rfl, rfl⟩, hp.setBad _, ?_, ?_, by simp, Grow.of ((Keeps.refl [b] w).setB 6 _) sub_b⟩
   ·rw [List.append_nil]; exact hinv.keep ((Keeps.refl [b] w).setB 6 _) sub_b
   ·simp [endOf, bndL, bndR]; omega
  have FIN : Hid (∀ w', w' = w.setCell ⟨b, 6, none⟩ (.int .i64 p.ix) → Post .single b A p w nds (.returned (.int .i64 0)) w') := hfin
  clear hfin HG hc
  by_cases hd : p.deep = 6
  ·have hdi : ((p.deep : Int) == 6) = true := by simpa using (by omega : (p.deep : Int) = 6)
   clear hd hd6
   go_enter Tryz.func261, Tryz.ntmps261
   go_wp2_with (first | (go_at_call 84; refine (fail_good b p _ hp hb).mono ?_; rintro e w' ⟨rfl, rfl⟩))
   go_ret
   exact FIN.out _ rfl
  ·have hdi : ((p.deep : Int) == 6) = false := by simpa using (by omega : ¬ (p.deep : Int) = 6)
   have hgi : ((p.gr : Int) == 9) = true := by simpa using (by omega : (p.gr : Int) = 9)
   clear hd hd6
   go_enter Tryz.func261, Tryz.ntmps261
   go_wp2_with (first | (go_at_call 84; refine (fail_good b p _ hp hb).mono ?_; rintro e w' ⟨rfl, rfl⟩))
   go_ret
   exact FIN.out _ rfl
 ·have hdi : ((p.deep : Int) == 6) = false := by simpa using (by omega : ¬ (p.deep : Int) = 6)
  have hgi : ((p.gr : Int) == 9) = false := by simpa using (by omega : ¬ (p.gr : Int) = 9)
  have hp1 := ((hp.setIx (p.ix + 1)).setDeep (p.deep + 1)).setGr (p.gr + 1)
  have hk1 := (((Keeps.refl [b] w).setB 7 (.int .i64 ((p.ix + 1 : Nat) : Int))).setB 8 (.int .i64 ((p.deep + 1 : Nat) : Int))).setB 5 (.int .i64 ((p.gr + 1 : Nat) : Int))
  have hinv1 := hinv.keep hk1 sub_b
  have hg1 := Grow.of (v := p.nodes) hk1 sub_b
  have hb1 : (0 : Int) ≤ (p.ix : Int) ∧ (p.ix : Int) ≤ 60 ∧ (0 : Int) ≤ (p.gr : Int) ∧ (p.gr : Int) ≤ 9 ∧ (0 : Int) ≤ (p.deep : Int) ∧ (p.deep : Int) ≤ 6 := by omega
  obtain ⟨b1, b2, b3, b4, b5, b6⟩ := hb1
  have IH1 := IH b A { p with ix := p.ix + 1, deep := p.deep + 1, gr := p.gr + 1 } _ nds ⟨hp1, hinv1, by simpa using hav0, hb, hs, hlt, by simp; omega, by simp; omega, by simp; omega⟩ (by simp; omega)
  have HO : Hid (¬ (p.deep = 6 ∨ p.gr = 9)) := hd6
  have HC : Hid (at' p.s p.ix = 40) := hc
  clear hd6 hc IH
  go_enter Tryz.func261, Tryz.ntmps261
  go_wp2_with (first | (go_at_call 82; refine IH1.mono ?_; rintro e w1 ⟨q, k, p2, ext, rfl, hG, hA, hp2, hinv2, hbd, hrep, hgrow⟩))
  obtain ⟨a1, a2, a3, a4, a5, a6⟩ := hA
  have hs2 : p2.s.size ≤ 60 := by rw [a1]; exact hs
  refine (need_any b p2 41 _ hp2 (by omega) hs2).mono ?_
  rintro e w2 ⟨rfl, hp3, hk3⟩
  have hd3 : (p2.needed 41).deep = p.deep + 1 := by rw [needed_deep, a5]
  obtain ⟨_, x8, _, y8⟩ := hp3.gd
  have z8 : w2.cell? ⟨b, 8, none⟩ = some (.int .i64 ((p.deep : Int) + 1)) := by rw [x8, hd3]; rfl
  clear x8
  have hinv3 : NInv w2 b A (p2.needed 41).nodes (nds ++ ext) := by rw [needed_nodes]; exact hinv2.keep hk3 sub_b
  have hp4 := hp3.setDeep p.deep
  have hk4 := (Keeps.refl [b] w2).setB 8 (.int .i64 (p.deep : Int))
  have hinv4 := hinv3.keep hk4 sub_b
  have hg4 := (hg1.trans hgrow).trans ((Grow.of (v := p2.nodes) hk3 sub_b).trans (Grow.of (v := p2.nodes) hk4 sub_b))
  clear hp1 hk1 hinv1 hg1 IH1 hp2 hinv2 hgrow hk3 hp3 hinv3 hk4
  go_wp2_with fail
  generalize hW : w2.setCell ⟨b, 8, none⟩ (.int .i64 (p.deep : Int)) = W at *
  have hWs : W.heap.size = w2.heap.size := by rw [← hW]; simp
  have havW : ∀ x, x ∈ A → x < W.heap.size := by
   intro x hx
   have := hav0 x hx
   have := hg4.1.size
   omega
  have hkA := (Keeps.refl [] W).alloc (.cells #[.int .i64 (k : Int)] 3)
  have hp5 := hp4.keep hkA (by simp)
  have hinv5 := hinv4.keep hkA sub_nil
  have hcs : NdAt (W.alloc (.cells #[.int .i64 (k : Int)] 3)) (avoA b A (p2.needed 41).nodes) { kind := 103, f := fun _ => false, n := p.gr + 1, mn := 0, mx := 0, kids := [k] } [.int .u8 103, .slice none 0 0, .int .i64 ((p.gr + 1 : Nat) : Int), .int .i64 0, .int .i64 0, .slice (some ⟨W.heap.size, 0, none⟩) 1 1] :=
   ⟨.slice none 0 0, _, rfl, ⟨⟨_, _, _, rfl⟩, by simp⟩, kids_one k _ (hinv4.av hp4.lt havW)⟩
  rw [hWs] at hcs
  have hlen : (nds ++ ext).length ≤ 1000 := by
   have := endOf_le hG (show p.ix + 1 ≤ p.s.size from hlt)
   simp only [bndL, bndR] at hbd
   simp only [List.length_append]
   omega
  refine (add_nd b A { p2.needed 41 with deep := p.deep } _ (fun x hx => Nat.lt_of_lt_of_le (havW x hx) hkA.size) (nds ++ ext) _ _ hp5 hinv5 hcs hlen).mono ?_
  rintro e w5 ⟨v', rfl, hp6, hinv6, hg6⟩
  have hgA := hg4.trans ((Grow.of (v := p2.nodes) hkA sub_nil))
  have hgB := hgA.trans (show Grow b p2.nodes v' _ w5 by rw [← needed_nodes p2 41]; exact hg6)
  clear hp5 hinv5 hcs hg6 hkA hg4 hgA hp4 hinv4
  go_wp2_with fail
  go_ret
  have hle := endOf_le hG (show p.ix + 1 ≤ p.s.size from hlt)
  rw [List.append_assoc] at hinv6
  simp only [bndL, bndR] at hbd
  cases q with
  | bad j =>
   have hj : (p2.needed 41).bad = (j : Int) := by
    have : p2.cur = -1 := by unfold PS.cur; rw [if_neg (by rw [a6]; omega)]
    unfold PS.needed PS.failed
    rw [if_neg (by omega), if_neg (by rw [a6]; omega), a6]
   refine ⟨.bad j, _, { p2.needed 41 with nodes := v', deep := p.deep }, ext ++ [{ kind := 103, f := fun _ => false, n := p.gr + 1, mn := 0, mx := 0, kids := [k] }], rfl, .gbad _ _ _ _ HC.out HO.out hG, ⟨?_, ?_, ?_, ?_, rfl, hj⟩, hp6, hinv6, ?_, by simp, hgB⟩
   ·exact (needed_s p2 41).trans a1
   ·exact (needed_root p2 41).trans a2
   ·exact (needed_bg p2 41).trans a3
   ·exact (needed_en p2 41).trans a4
   ·simp only [endOf, bndL, bndR, List.length_append, List.length_singleton] at hbd ⊢; omega
  | ok xg j =>
   obtain ⟨x, g1⟩ := xg
   obtain ⟨e1, e2, e3⟩ := a6
   have hok := hG.okb x g1 j rfl
   by_cases h41 : at' p.s j = 41
   ·have hcur : p2.cur = 41 := by unfold PS.cur; rw [e3, if_pos hb, a1, e1]; exact h41
    refine ⟨.ok (.grp (p.gr + 1) x, g1) (j + 1), _, { p2.needed 41 with nodes := v', deep := p.deep }, ext ++ [{ kind := 103, f := fun _ => false, n := p.gr + 1, mn := 0, mx := 0, kids := [k] }], rfl, .grp _ _ _ _ _ _ HC.out HO.out hG h41, ⟨?_, ?_, ?_, ?_, rfl, ?_, ?_, ?_⟩, hp6, hinv6, ?_, ?_, hgB⟩
    ·exact (needed_s p2 41).trans a1
    ·exact (needed_root p2 41).trans a2
    ·exact (needed_bg p2 41).trans a3
    ·exact (needed_en p2 41).trans a4
    ·simp [PS.needed, hcur, e1]
    ·simp [PS.needed, hcur, e2]
    ·simp [PS.needed, hcur, e3]
    ·simp only [endOf, bndL, bndR, List.length_append, List.length_singleton] at hbd ⊢; omega
    ·intro x' g' j' e'
     cases e'
     obtain ⟨lw, hr1, hr2⟩ := hrep x g1 j rfl
     rw [← List.append_assoc]
     exact ⟨_, { kind := 103, f := fun _ => false, n := p.gr + 1, mn := 0, mx := 0, kids := [k] }, k, lw, rfl, get_last2 _ _ _, rfl, rfl, rfl, rep_app _ hr1, hr2.app _⟩
   ·have hcur : ¬ p2.cur = 41 := by unfold PS.cur; rw [e3, if_pos hb, a1, e1]; exact h41
    have hj : (p2.needed 41).bad = (j : Int) := by
     unfold PS.needed PS.failed
     rw [if_neg hcur, if_pos (by rw [e3]; exact hb)]
     show (p2.ix : Int) = j
     rw [e1]
    refine ⟨.bad j, _, { p2.needed 41 with nodes := v', deep := p.deep }, ext ++ [{ kind := 103, f := fun _ => false, n := p.gr + 1, mn := 0, mx := 0, kids := [k] }], rfl, .gopen _ _ _ _ _ _ HC.out HO.out hG h41, ⟨?_, ?_, ?_, ?_, rfl, hj⟩, hp6, hinv6, ?_, by simp, hgB⟩
    ·exact (needed_s p2 41).trans a1
    ·exact (needed_root p2 41).trans a2
    ·exact (needed_bg p2 41).trans a3
    ·exact (needed_en p2 41).trans a4
    ·simp only [endOf, bndL, bndR, List.length_append, List.length_singleton] at hbd ⊢; omega
end Go.Proofs.YtnfojonmohijpaaGreatDoor
namespace Go.Proofs.YtnfojonmohijpaaGreatDoor
open Go.RowKit
theorem mk256 (w : World) : (Instr.makeSlice 98 (.int .i64 256) (.int .i64 256)).run Tryz.prog w = .ok (.slice (some ⟨w.heap.size, 0, none⟩) 256 256) (w.alloc (.cells (hcells fun _ => false) 4)) := by kernel_rfl
def NV (w : World) (nb h : Nat) : Prop := w.heap[nb]? = some (.cells #[.int .u8 98, .slice (some ⟨h, 0, none⟩) 256 256, .int .i64 0, .int .i64 0, .int .i64 0, .slice none 0 0] 157 (0, 0))
theorem NV.lt {w : World} {nb h : Nat} (H : NV w nb h) : nb < w.heap.size := (Array.getElem?_eq_some_iff.1 H).1
theorem NV.keep {w w' : World} {nb h : Nat} {S : List Nat} (H : NV w nb h) (hk : Keeps S w w') (hb : nb ∉ S) : NV w' nb h := (hk.block nb H.lt hb).trans H
theorem NV.cells {w : World} {nb h : Nat} (H : NV w nb h) : w.cell? ⟨nb, 0, none⟩ = some (.int .u8 98) ∧ w.cell? ⟨nb, 1, none⟩ = some (.slice (some ⟨h, 0, none⟩) 256 256) ∧ w.cell? ⟨nb, 2, none⟩ = some (.int .i64 0) ∧
    w.cell? ⟨nb, 3, none⟩ = some (.int .i64 0) ∧ w.cell? ⟨nb, 4, none⟩ = some (.int .i64 0) ∧ w.cell? ⟨nb, 5, none⟩ = some (.slice none 0 0) := by
 unfold NV at H
 simp [World.cell?, H]
structure SSt (b : Nat) (A : List Nat) (p : PS) (nds : List Nd) (w0 : World) (h nb : Nat) (p9 : PS) (F : Nat → Bool) (w9 : World) : Prop where
 pb : PB w9 b p9
 hb : HB w9 h F
 nv : NV w9 nb h
 nodes : p9.nodes = p.nodes
 fresh : w0.heap.size ≤ h ∧ w0.heap.size ≤ nb ∧ h ≠ nb
 kb : Keeps [b] w0 w9
 old : NInv w0 b A p.nodes nds
 avl : ∀ x, x ∈ A → x < w0.heap.size
 bl : b < w0.heap.size
theorem SSt.inv {b : Nat} {A : List Nat} {p : PS} {nds : List Nd} {w0 : World} {h nb : Nat} {p9 : PS} {F : Nat → Bool} {w9 : World} (S : SSt b A p nds w0 h nb p9 F w9) : NInv w9 b A p9.nodes nds := by rw [S.nodes]; exact S.old.keep S.kb sub_b
theorem SSt.grow {b : Nat} {A : List Nat} {p : PS} {nds : List Nd} {w0 : World} {h nb : Nat} {p9 : PS} {F : Nat → Bool} {w9 : World} (S : SSt b A p nds w0 h nb p9 F w9) : Grow b p.nodes p.nodes w0 w9 := Grow.of S.kb sub_b
theorem SSt.drewN {b : Nat} {A : List Nat} {p : PS} {nds : List Nd} {w0 : World} {h nb : Nat} {p9 : PS} {F : Nat → Bool} {w9 : World} (S : SSt b A p nds w0 h nb p9 F w9) (n : Nat) : SSt b A p nds w0 h nb p9 F (w9.drewN n) :=
 ⟨S.pb, S.hb, S.nv, S.nodes, S.fresh, S.kb.drewN n, S.old, S.avl, S.bl⟩
theorem SSt.set {b : Nat} {A : List Nat} {p : PS} {nds : List Nd} {w0 : World} {h nb : Nat} {p9 p10 : PS} {F F' : Nat → Bool} {w9 w10 : World} (S : SSt b A p nds w0 h nb p9 F w9) (hp : PB w10 b p10) (hh : HB w10 h F') (hk : Keeps [b, h] w9 w10) (hn : p10.nodes = p9.nodes) : SSt b A p nds w0 h nb p10 F' w10 := by
 have h2 : nb ∉ [b, h] := by have := S.fresh.2.1; have := S.fresh.2.2; have := S.bl; simp; omega
 refine ⟨hp, hh, S.nv.keep hk h2, hn.trans S.nodes, S.fresh, ⟨hk.os.trans S.kb.os, hk.tape.trans S.kb.tape, hk.output.trans S.kb.output, Nat.le_trans S.kb.size hk.size, ?_⟩, S.old, S.avl, S.bl⟩
 intro k hkl hkn
 refine (hk.block k (Nat.lt_of_lt_of_le hkl S.kb.size) ?_).trans (S.kb.block k hkl hkn)
 have := S.fresh.1
 simp at hkn ⊢
 omega
theorem SSt.ix {b : Nat} {A : List Nat} {p : PS} {nds : List Nd} {w0 : World} {h nb : Nat} {p9 : PS} {F : Nat → Bool} {w9 : World} (S : SSt b A p nds w0 h nb p9 F w9) (x : Nat) : SSt b A p nds w0 h nb { p9 with ix := x } F (w9.setCell ⟨b, 7, none⟩ (.int .i64 x)) := by
 have h1 : ¬ b = h := by have := S.fresh.1; have := S.bl; omega
 exact S.set (S.pb.setIx x) (S.hb.setOther h1 _) ((Keeps.refl _ _).setCell (by simp) _) rfl
theorem SSt.bad {b : Nat} {A : List Nat} {p : PS} {nds : List Nd} {w0 : World} {h nb : Nat} {p9 : PS} {F : Nat → Bool} {w9 : World} (S : SSt b A p nds w0 h nb p9 F w9) (x : Int) : SSt b A p nds w0 h nb { p9 with bad := x } F (w9.setCell ⟨b, 6, none⟩ (.int .i64 x)) := by
 have h1 : ¬ b = h := by have := S.fresh.1; have := S.bl; omega
 exact S.set (S.pb.setBad x) (S.hb.setOther h1 _) ((Keeps.refl _ _).setCell (by simp) _) rfl
theorem SSt.put {b : Nat} {A : List Nat} {p : PS} {nds : List Nd} {w0 : World} {h nb : Nat} {p9 : PS} {F : Nat → Bool} {w9 : World} (S : SSt b A p nds w0 h nb p9 F w9) (k : Nat) : SSt b A p nds w0 h nb p9 (fun n => if n = k then true else F n) (w9.setCell ⟨h, k, none⟩ (.bool true)) := by
 have h1 : ¬ h = b := by have := S.fresh.1; have := S.bl; omega
 exact S.set (S.pb.setOther h1 _) (S.hb.set k true) ((Keeps.refl _ _).setCell (by simp) _) rfl
theorem single_fin {b : Nat} {A : List Nat} {p : PS} {nds : List Nd} {w0 : World} {h nb : Nat} {p9 : PS} {F : Nat → Bool} {w9 : World} (S : SSt b A p nds w0 h nb p9 F w9) (hn : nds.length ≤ 1000) (q : R (Pat × Nat))
    (hG : G p.s .single p.deep p.gr p.ix q) (hA : After p q p9) (hq : ∀ x g j, q = .ok (x, g) j → ∃ f, x = .set f ∧ ∀ n, n < 256 → F n = f n) (hix : p.ix < p.s.size) :
    Calls Tryz.prog 136 #[.pointer (some ⟨b, 0, none⟩), .agg #[.int .u8 98, .slice (some ⟨h, 0, none⟩) 256 256, .int .i64 0, .int .i64 0, .int .i64 0, .slice none 0 0]] w9 (Post .single b A p w0 nds) := by
 have hav : h ∉ avoA b A p9.nodes := by
  intro hm
  rw [S.nodes] at hm
  have := S.old.av S.bl S.avl h hm
  have := S.fresh.1
  omega
 have hcs : NdAt w9 (avoA b A p9.nodes) { kind := 98, f := F, n := 0, mn := 0, mx := 0, kids := [] } [.int .u8 98, .slice (some ⟨h, 0, none⟩) 256 256, .int .i64 0, .int .i64 0, .int .i64 0, .slice none 0 0] :=
  ⟨_, _, rfl, ⟨⟨_, _, _, rfl⟩, fun _ => ⟨h, rfl, S.hb, hav⟩⟩, kids_nil _ _⟩
 refine (add_nd b A p9 w9 (fun x hx => Nat.lt_of_lt_of_le (S.avl x hx) S.kb.size) nds _ _ S.pb S.inv hcs hn).mono ?_
 rintro e w' ⟨v', rfl, hp', hinv', hg'⟩
 have hG' : Grow b p.nodes v' w0 w' := S.grow.trans (by rw [← S.nodes]; exact hg')
 obtain ⟨a1, a2, a3, a4, a5, a6⟩ := hA
 have hle := endOf_le hG (Nat.le_of_lt hix)
 refine ⟨q, nds.length, { p9 with nodes := v' }, [{ kind := 98, f := F, n := 0, mn := 0, mx := 0, kids := [] }], rfl, hG, ⟨a1, a2, a3, a4, a5, ?_⟩, hp', hinv', ?_, ?_, hG'⟩
 ·cases q with
  | ok x j => exact a6
  | bad j => exact a6
 ·cases q with
  | ok x j =>
   have := (hG.okb x.1 x.2 j rfl).2.2.1 (Or.inr rfl)
   simp only [endOf, bndL, bndR, List.length_singleton]; omega
  | bad j => simp only [endOf, bndL, bndR, List.length_singleton]; omega
 ·intro x g j e
  obtain ⟨f, rfl, hf⟩ := hq x g j e
  exact ⟨nds.length, _, rfl, get_last _ _, rfl, rfl, hf⟩
theorem after_set (p : PS) (q : R (Nat → Bool)) : After p (q.map fun f => (Pat.set f, p.gr)) (({ p with ix := p.ix + 1 } : PS).after q) := by
 cases q <;> exact ⟨rfl, rfl, rfl, rfl, rfl, by first | exact ⟨rfl, rfl, rfl⟩ | rfl⟩
theorem set_ok {q : R (Nat → Bool)} {f' : Nat → Bool} {g0 : Nat} (hff : ∀ f j, q = .ok f j → ∀ n, n < 256 → f' n = f n) : ∀ x g j, (q.map fun f => (Pat.set f, g0)) = .ok (x, g) j → ∃ f, x = .set f ∧ ∀ n, n < 256 → f' n = f n := by
 intro x g j e
 cases q with
 | ok f j' => cases e; exact ⟨f, rfl, hff f j rfl⟩
 | bad j' => cases e
theorem put_one (n A : Nat) : (if n = A then true else (fun _ : Nat => false) n) = stretch (A : Int) (A : Int) n := by
 unfold stretch
 by_cases e : n = A
 ·subst e; simp
 ·have : ¬ ((A : Int) ≤ (n : Int) ∧ (n : Int) ≤ (A : Int)) := by omega
  by_cases h1 : (A : Int) ≤ (n : Int)
  ·have h2 : ¬ (n : Int) ≤ (A : Int) := by omega
   simp [e, h2]
  ·simp [e, h1]
theorem after_esc (p : PS) (q : R Int) : After p (q.map fun a => (Pat.set (stretch a a), p.gr)) (p.after q) := by
 cases q <;> exact ⟨rfl, rfl, rfl, rfl, rfl, by first | exact ⟨rfl, rfl, rfl⟩ | rfl⟩
theorem esc_ok {q : R Int} {A g0 : Nat} (hva : ∀ a j, q = .ok a j → (A : Int) = a) : ∀ x g j, (q.map fun a => (Pat.set (stretch a a), g0)) = .ok (x, g) j → ∃ f, x = .set f ∧ ∀ n, n < 256 → (if n = A then true else (fun _ : Nat => false) n) = f n := by
 intro x g j e
 cases q with
 | ok f j' => cases e; refine ⟨_, rfl, fun n _ => ?_⟩; rw [← hva f j rfl]; exact put_one n A
 | bad j' => cases e
theorem has_single (c : Int) : (hasB ⟨#[94, 36, 124, 41, 42, 43, 63, 123]⟩ c (ByteArray.size ⟨#[94, 36, 124, 41, 42, 43, 63, 123]⟩) = true) ↔ notC c := by
 simp [hasB, ByteArray.size, notC]
 omega
set_option maxRecDepth 100000 in
set_option maxHeartbeats 4000000 in
theorem single_any (n : Nat) (IH : Shorter n) (b : Nat) (A : List Nat) (p : PS) (w : World) (nds : List Nd) (h : Pre b A p w nds) (hix : p.ix < p.s.size) (hn : p.s.size - p.ix ≤ n) :
    Calls Tryz.prog 225 #[.pointer (some ⟨b, 0, none⟩)] w (Post .single b A p w nds) := by
 obtain ⟨hp, hinv, hav0, hb, hs, hpi, hroom, hgr, hdp⟩ := h
 have hmk := mk256
 go_enter Tryz.func225, Tryz.ntmps225
 go_wp2_with fail
 have hk0 := ((Keeps.refl [] w).alloc (.cells (hcells fun _ => false) 4)).alloc (.cells #[.int .u8 98, .slice (some ⟨w.heap.size, 0, none⟩) 256 256, .int .i64 0, .int .i64 0, .int .i64 0, .slice none 0 0] 157)
 have hp1 := hp.keep hk0 (by simp)
 have hb1 : HB ((w.alloc (.cells (hcells fun _ => false) 4)).alloc (.cells #[.int .u8 98, .slice (some ⟨w.heap.size, 0, none⟩) 256 256, .int .i64 0, .int .i64 0, .int .i64 0, .slice none 0 0] 157)) w.heap.size (fun _ => false) := HB.keep (w := w.alloc (.cells (hcells fun _ => false) 4)) (heap_alloc_new w _) ((Keeps.refl [] _).alloc (.cells #[.int .u8 98, .slice (some ⟨w.heap.size, 0, none⟩) 256 256, .int .i64 0, .int .i64 0, .int .i64 0, .slice none 0 0] 157)) (by simp)
 have nv1 : NV ((w.alloc (.cells (hcells fun _ => false) 4)).alloc (.cells #[.int .u8 98, .slice (some ⟨w.heap.size, 0, none⟩) 256 256, .int .i64 0, .int .i64 0, .int .i64 0, .slice none 0 0] 157)) (w.heap.size + 1) w.heap.size := by
  unfold NV
  rw [show w.heap.size + 1 = (w.alloc (.cells (hcells fun _ => false) 4)).heap.size from by simp]
  exact heap_alloc_new _ _
 have hbl := hp.lt
 have S0 : SSt b A p nds w w.heap.size (w.heap.size + 1) p (fun _ => false) _ := ⟨hp1, hb1, nv1, rfl, ⟨Nat.le_refl _, by omega, by omega⟩, hk0.mono (by simp), hinv, hav0, hbl⟩
 clear hk0 hp1 hb1 nv1 hmk
 generalize ((w.alloc (.cells (hcells fun _ => false) 4)).alloc (.cells #[.int .u8 98, .slice (some ⟨w.heap.size, 0, none⟩) 256 256, .int .i64 0, .int .i64 0, .int .i64 0, .slice none 0 0] 157)) = W at *
 obtain ⟨h, hh⟩ : ∃ h, h = w.heap.size := ⟨_, rfl⟩
 rw [← hh] at S0 ⊢
 have hlen : nds.length ≤ 1000 := by omega
 have ec := at'_lt hix
 have hki : (p.ix : Int) < (p.s.size : Int) := by omega
 have hkj : (0 : Int) ≤ (p.ix : Int) := by omega
 have hkk : (p.ix : Int) ≤ 60 := by omega
 have hc1 := (p.s[p.ix]).toNat_lt
 have hcl : (0 : Int) ≤ (p.s[p.ix].toNat : Int) := by omega
 have hcu : (p.s[p.ix].toNat : Int) ≤ 255 := by omega
 clear hc1
 obtain ⟨c0, h6, h7, f6, f7⟩ := S0.pb.main
 obtain ⟨m0, m1, m2, m3, m4, m5⟩ := S0.nv.cells
 generalize hgc : (p.s[p.ix].toNat : Int) = c at *
 have HE : Hid (at' p.s p.ix = c) := ec
 clear ec
 have hnbB : ¬ b = h := by omega
 have hnbC : ¬ b = h + 1 := by omega
 have hnbD : ¬ h = h + 1 := by omega
 clear hh hbl
 go_quiet (fail)
 clear hgc
 replace S0 := S0.drewN nq
 by_cases e40 : c = 40
 ·have q40 : (c == 40) = true := by simpa using e40
  have HC : Hid (at' p.s p.ix = 40) := by show at' p.s p.ix = 40; rw [HE.out]; exact e40
  clear e40
  go_wp2_with (first | (go_at_call 261; refine (group_any n IH b A p _ nds ⟨S0.pb, S0.inv, fun x hx => Nat.lt_of_lt_of_le (S0.avl x hx) S0.kb.size, hb, hs, hpi, hroom, hgr, hdp⟩ HC.out hn).mono ?_; rintro e w' ⟨q', k', p', ext, rfl, a1, a2, a3, a4, a5, a6, a7⟩))
  go_ret
  exact ⟨q', k', p', ext, rfl, a1, a2, a3, a4, a5, a6, S0.grow.trans a7⟩
 ·have q40 : (c == 40) = false := by simpa using e40
  have E40 : Hid (c ≠ 40) := e40
  clear e40
  by_cases e91 : c = 91
  ·have q91 : (c == 91) = true := by simpa using e91
   have HC : Hid (at' p.s p.ix = 91) := by show at' p.s p.ix = 91; rw [HE.out]; exact e91
   clear e91
   have S1 := S0.ix (p.ix + 1)
   go_wp2_with (first | (go_at_call 262; refine (set_any b h { p with ix := p.ix + 1 } _ S1.pb S1.hb hb hs hix hnbB).mono ?_; rintro e w2 ⟨rfl, q, hq, hp2, ⟨f', hh2, hff⟩, hk2⟩; have S2 := S1.set hp2 hh2 hk2 (by cases q <;> rfl); obtain ⟨m0, m1, m2, m3, m4, m5⟩ := S2.nv.cells) | (go_at_call 136; refine (single_fin S2 hlen (q.map fun f => (.set f, p.gr)) (.set _ _ _ _ HC.out hq) (after_set p q) (set_ok hff) hix).mono ?_; rintro e w' ⟨q', k', p', ext, rfl, rest⟩))
   skip
   go_ret
   exact ⟨q', k', p', ext, rfl, rest⟩
  ·have q91 : (c == 91) = false := by simpa using e91
   have E91 : Hid (c ≠ 91) := e91
   clear e91
   by_cases e46 : c = 46
   ·have q46 : (c == 46) = true := by simpa using e46
    have HC : Hid (at' p.s p.ix = 46) := by show at' p.s p.ix = 46; rw [HE.out]; exact e46
    clear e46
    have S1 := S0.ix (p.ix + 1)
    go_wp2_with fail
    generalize hW9 : (W.drewN nq).setCell ⟨b, 7, none⟩ (.int .i64 ((p.ix : Int) + 1)) = W9 at *
    have S1' : SSt b A p nds w h (h + 1) { p with ix := p.ix + 1 } (fun _ => false) W9 := by rw [← hW9]; exact S1
    clear S1 hW9
    go_loopw [5] (fun u wr => ∃ m : Nat, m ≤ 256 ∧ u = .int .i64 m ∧ SSt b A p nds w h (h + 1) { p with ix := p.ix + 1 } (fun n => decide (n < m)) wr) (fun u _ => 256 - (intOf u).toNat)
    case atStart => exact ⟨0, by omega, rfl, S1'.set S1'.pb (S1'.hb.congr (by simp)) (Keeps.refl _ _) rfl⟩
    case round =>
     obtain ⟨m, hm, rfl, S3⟩ := hrel
     clear S1' c0 h6 h7 f6 f7 m0 m1 m2 m3 m4 m5
     obtain ⟨m0, m1, m2, m3, m4, m5⟩ := S3.nv.cells
     by_cases hm2 : m < 256
     ·have hcm := S3.hb.cell hm2
      have hfm := S3.hb.frozen m
      have hmi : (m : Int) < 256 := by omega
      have hmj : (0 : Int) ≤ (m : Int) := by omega
      go_wp2_with fail
      go_roundw
      case rel =>
       refine ⟨m + 1, by omega, by go_num, (S3.put m).set (S3.put m).pb ((S3.put m).hb.congr ?_) (Keeps.refl _ _) rfl⟩
       intro n _
       by_cases e : n = m
       ·subst e; simp
       ·have : decide (n < m + 1) = decide (n < m) := by simp; omega
        simp [e, this]
      case measure => simp [intOf]; omega
     ·have e : m = 256 := by omega
      subst e
      go_wp2_with (first | (go_at_call 136; refine (single_fin S3 hlen (.ok (.set fun _ => true, p.gr) (p.ix + 1)) (.dot _ _ _ HC.out) ⟨rfl, rfl, rfl, rfl, rfl, rfl, rfl, rfl⟩ (by intro x g j e; cases e; exact ⟨_, rfl, by intro n hn; simpa using hn⟩) hix).mono ?_; rintro e w' ⟨q', k', p', ext, rfl, rest⟩))
      skip
      go_ret
      exact ⟨q', k', p', ext, rfl, rest⟩
   ·have q46 : (c == 46) = false := by simpa using e46
    have E46 : Hid (c ≠ 46) := e46
    clear e46
    by_cases e92 : c = 92
    ·have q92 : (c == 92) = true := by simpa using e92
     have HC : Hid (at' p.s p.ix = 92) := by show at' p.s p.ix = 92; rw [HE.out]; exact e92
     clear e92
     go_wp2_with fail
     refine (esc_any b p _ 0 S0.pb hb hs hix (by omega) (by omega)).mono ?_
     rintro e w2 ⟨v, rfl, ⟨hv0, hv1, hva⟩, hp2, hk2⟩
     obtain ⟨Ab, rfl, hA⟩ := nat_of hv0 hv1
     have S2 := S0.set hp2 (S0.hb.keep hk2 (by simp; omega)) (hk2.mono (by simp)) (by cases escS p.s 0 (p.ix + 1) <;> rfl)
     clear hp2 hk2 c0 h6 h7 f6 f7 m0 m1 m2 m3 m4 m5
     obtain ⟨m0, m1, m2, m3, m4, m5⟩ := S2.nv.cells
     have hcA := S2.hb.cell (k := Ab) (by omega)
     have hfA := S2.hb.frozen Ab
     have hA0 : (0 : Int) ≤ (Ab : Int) := by omega
     have hA1 : (Ab : Int) < 256 := by omega
     have S3 := S2.put Ab
     have HVA : Hid (∀ a j, escS p.s 0 (p.ix + 1) = .ok a j → (Ab : Int) = a) := hva
     clear hva
     go_wp2_with (first | (go_at_call 136; refine (single_fin S3 hlen ((escS p.s 0 (p.ix + 1)).map fun a => (.set (stretch a a), p.gr)) (.esc _ _ _ HC.out) (after_esc p _) (esc_ok HVA.out) hix).mono ?_; rintro e w' ⟨q', k', p', ext, rfl, rest⟩))
     skip
     go_ret
     exact ⟨q', k', p', ext, rfl, rest⟩
    ·have q92 : (c == 92) = false := by simpa using e92
     have E92 : Hid (c ≠ 92) := e92
     clear e92
     by_cases eN : notC c
     ·have HN : Hid (notC (at' p.s p.ix)) := by show notC (at' p.s p.ix); rw [HE.out]; exact eN
      have HH := (has_single c).2 eN
      clear eN
      have S1 := S0.bad p.ix
      go_wp2_with (first | (go_at_call 109; refine (has_any _ c _ (by decide)).mono ?_; rintro e w' ⟨rfl, rfl⟩; rw [HH]) | (go_at_call 84; refine (fail_good b p _ S0.pb hb).mono ?_; rintro e w' ⟨rfl, rfl⟩) | (go_at_call 136; refine (single_fin S1 hlen (.bad p.ix) (.no _ _ _ HN.out) ⟨rfl, rfl, rfl, rfl, rfl, rfl⟩ (by intro x g j e; cases e) hix).mono ?_; rintro e w' ⟨q', k', p', ext, rfl, rest⟩))
      skip
      go_ret
      exact ⟨q', k', p', ext, rfl, rest⟩
     ·have HN : Hid (¬ notC (at' p.s p.ix)) := by show ¬ notC (at' p.s p.ix); rw [HE.out]; exact eN
      have HH := Bool.eq_false_iff.2 fun e => eN ((has_single c).1 e)
      have HG : Hid (G p.s .single p.deep p.gr p.ix (.ok (.set (stretch c c), p.gr) (p.ix + 1))) := by
       show G _ _ _ _ _ _
       rw [← HE.out]
       exact .lit _ _ _ (by rw [HE.out]; exact hcl) (by rw [HE.out]; exact E40.out) (by rw [HE.out]; exact E91.out) (by rw [HE.out]; exact E46.out) (by rw [HE.out]; exact E92.out) HN.out
      clear eN
      obtain ⟨Ab, hA, hA2⟩ := nat_of hcl hcu
      subst hA
      have hA1 : (Ab : Int) < 256 := by omega
      have S2 := S0.ix (p.ix + 1)
      have S3 := S2.put Ab
      have hcA := S0.hb.cell (k := Ab) (by omega)
      have hfA := S0.hb.frozen Ab
      go_wp2_with (first | (go_at_call 109; refine (has_any _ _ _ (by decide)).mono ?_; rintro e w' ⟨rfl, rfl⟩; rw [HH]) | (go_at_call 136; refine (single_fin S3 hlen (.ok (.set (stretch Ab Ab), p.gr) (p.ix + 1)) HG.out ⟨rfl, rfl, rfl, rfl, rfl, rfl, rfl, rfl⟩ (by intro x g j e; cases e; exact ⟨_, rfl, fun n _ => put_one n Ab⟩) hix).mono ?_; rintro e w' ⟨q', k', p', ext, rfl, rest⟩))
      skip
      go_ret
      exact ⟨q', k', p', ext, rfl, rest⟩
end Go.Proofs.YtnfojonmohijpaaGreatDoor
