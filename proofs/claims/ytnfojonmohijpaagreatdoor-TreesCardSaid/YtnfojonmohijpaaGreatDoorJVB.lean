/-
  DERIVED. The reference's 'New': a text for a pattern, of which nothing was asked yet. Conditions: the text is at most 100 bytes long, the nodes are at most 1000 and lie as they should.
-/
import Derived.Test.YtnfojonmohijpaaGreatDoorJMI
import Derived.Test.YtnfojonmohijpaaGreatDoorJMC
import Derived.Deep.AppendLies
import Derived.Test.YtnfojonmohijpaaGreatDoorJVE
import Derived.Test.YtnfojonmohijpaaGreatDoorJUJ
import Derived.Test.YtnfojonmohijpaaGreatDoorJUD
import Derived.Test.YtnfojonmohijpaaGreatDoorJMO
import Derived.Test.YtnfojonmohijpaaGreatDoorJPY
import Derived.Test.YtnfojonmohijpaaGreatDoorJRT
set_option linter.unusedSimpArgs false
set_option linter.unusedVariables false
namespace Go.Proofs.YtnfojonmohijpaaGreatDoor
open Go.RowKit
structure NW (w wr : World) (s : ByteArray) (N b bp t : Nat) (D : List Nat) (E : Value) : Prop where
 xb : XB wr b (.pointer (some ⟨bp, 0, none⟩)) s E
 out : wr.ownsRow 0 155 1 E t (D.map fun g => .slice (some ⟨g, 0, none⟩) N N)
 nodup : D.Nodup
 inn : ∀ g, g ∈ D → w.heap.size ≤ g ∧ g ≠ b ∧ E.ownBlock ≠ some g ∧ wr.heap[g]? = some (.cells (Array.replicate N (.slice none 0 0)) 98 (0, 0))
 ee : ∀ g, E.ownBlock = some g → w.heap.size ≤ g ∧ g ≠ b
 keep : Keeps [] w wr
theorem NW.step {w wr w2 w3 : World} {s : ByteArray} {N b bp t g2 cap : Nat} {D : List Nat} {E : Value} (L : NW w wr s N b bp t D E) (hb : w.heap.size ≤ b) (hk2 : Keeps [] wr w2) (hlt : wr.heap.size < w2.heap.size) (hmk : w2.heap[wr.heap.size]? = some (.cells (Array.replicate N (.slice none 0 0)) 98 (0, 0)))
    (hown : w3.ownsRow 0 155 1 (.slice (some ⟨g2, 0, none⟩) (t + 1) cap) (t + 1) ((D.map fun g => .slice (some ⟨g, 0, none⟩) N N) ++ [.slice (some ⟨wr.heap.size, 0, none⟩) N N])) (hgrow : w2.grownBy w3 E.ownBlock) (hat : E.ownBlock = some g2 ∨ g2 = w2.heap.size) :
    NW w (w3.setCell ⟨b, 3, none⟩ (.slice (some ⟨g2, 0, none⟩) (t + 1) cap)) s N b bp (t + 1) (D ++ [wr.heap.size]) (.slice (some ⟨g2, 0, none⟩) (t + 1) cap) := by
 have hsz := L.keep.size
 have hbl := L.xb.lt
 have hsz2 := hk2.size
 have hsz3 := hgrow.size
 have hEl : ∀ g, E.ownBlock = some g → g < wr.heap.size := fun g hg => (L.out.lt g hg).2
 have hk3 : Keeps E.ownBlock.toList wr w3 := ⟨hgrow.os.trans hk2.os, hgrow.tape.trans hk2.tape, hgrow.output.trans hk2.output, Nat.le_trans hk2.size hgrow.size, fun k hk hn => (hgrow.block k (Nat.lt_of_lt_of_le hk hk2.size) (fun e => hn (by rw [← e]; simp))).trans (hk2.block k hk (by simp))⟩
 have hg2 : w.heap.size ≤ g2 ∧ g2 ≠ b := by
  rcases hat with h | h
  ·exact L.ee g2 h
  ·omega
 have hxb3 : XB w3 b (.pointer (some ⟨bp, 0, none⟩)) s E := L.xb.keep hk3 (by intro hm; simp at hm; exact (L.ee b hm).2 rfl)
 have hkS : Keeps [b] w3 (w3.setCell ⟨b, 3, none⟩ (.slice (some ⟨g2, 0, none⟩) (t + 1) cap)) := (Keeps.refl [b] w3).setCell (p := ⟨b, 3, none⟩) (by simp) _
 refine ⟨?_, ?_, ?_, ?_, ?_, ?_⟩
 ·unfold XB at *
  simp [World.setCell, Array.getElem?_modify, hxb3]
 ·rw [List.map_append]
  exact hown.keep hkS (by intro g hg; simp only [Value.ownBlock, Option.some.injEq] at hg; subst hg; simp; exact hg2.2)
 ·rw [List.nodup_append]
  refine ⟨L.nodup, by simp, fun a ha c hc => ?_⟩
  simp only [List.mem_singleton] at hc
  subst hc
  have := (Array.getElem?_eq_some_iff.1 (L.inn a ha).2.2.2).1
  omega
 ·intro g hg
  rcases List.mem_append.1 hg with hg | hg
  ·obtain ⟨h1, h2, h3, h4⟩ := L.inn g hg
   have hgl := (Array.getElem?_eq_some_iff.1 h4).1
   refine ⟨h1, h2, ?_, ?_⟩
   ·simp only [Value.ownBlock, ne_eq, Option.some.injEq]
    rintro rfl
    rcases hat with h | h
    ·exact h3 h
    ·omega
   ·exact (hkS.block g (by omega) (by simp; exact h2)).trans ((hk3.block g hgl (by simp; exact h3)).trans h4)
  ·simp only [List.mem_singleton] at hg
   subst hg
   refine ⟨hsz, by omega, ?_, ?_⟩
   ·simp only [Value.ownBlock, ne_eq, Option.some.injEq]
    rintro rfl
    rcases hat with h | h
    ·have := hEl _ h; omega
    ·omega
   ·have h2 : w3.heap[wr.heap.size]? = w2.heap[wr.heap.size]? := hgrow.block wr.heap.size hlt (fun e => by have := hEl _ e.symm; omega)
    exact (hkS.block wr.heap.size (by omega) (by simp; omega)).trans (h2.trans hmk)
 ·intro g hg
  simp only [Value.ownBlock, Option.some.injEq] at hg
  subst hg
  exact hg2
 ·refine keepsM (keepsM L.keep hk3 ?_) hkS ?_
  ·intro x hx
   simp at hx
   exact Or.inr (L.ee x hx).1
  ·intro x hx
   simp at hx
   subst hx
   exact Or.inr hb
theorem made_nil (N : Nat) : (madeCells #[Value.slice none 0 0] N).toList = List.replicate N (.slice none 0 0) := by
 apply List.ext_getElem?
 intro j
 by_cases hj : j < N
 ·simp [madeCells, hj, Nat.mod_one]
 ·simp [madeCells, hj]
theorem infoRB : (Tryz.prog.info? 98).map (fun i => (i.zero, i.size, i.bytes)) = some (some (.slice none 0 0), 1, 24) := by kernel_rfl
theorem mk_rows (X : World) (N : Nat) (L : Int) (hL : L = (N : Int)) (hN : N ≤ 1000) : (Instr.makeSlice 155 (.int .i64 L) (.int .i64 L)).run Tryz.prog X = .ok (.slice (some ⟨X.heap.size, 0, none⟩) N N) (X.alloc (.cells (Array.replicate N (.slice none 0 0)) 98)) := by
 obtain ⟨i0, hi0, hz0, hz1, hz2⟩ := info_parts infoRB
 have hr := run_make (P := Tryz.prog) X 155 98 i0 (.slice none 0 0) Tryz.underlying155 hi0 hz0 .i64 .i64 N N (by omega) (Int.le_refl _) (by rw [hz2]; omega) (by omega)
 simp only [Int.toNat_natCast, hz1, Nat.mul_one] at hr
 rw [hL, hr, show madeCells (Value.slice none 0 0).cells N = Array.replicate N (.slice none 0 0) from Array.ext' (by rw [Array.toList_replicate]; exact made_nil N)]
theorem infoRR : (Tryz.prog.info? 155).map (fun i => (i.zero, i.size, i.bytes)) = some (some (.slice none 0 0), 1, 24) := by kernel_rfl
theorem NW.tx {w wr : World} {s : ByteArray} {N b bp : Nat} {p : PS} {nds : List Nd} {D : List Nat} {E : Value} (HN : N = s.size + 1) (hs : s.size ≤ 100) (L : NW w wr s N b bp nds.length D E) (hb : w.heap.size ≤ b) (hp : PB w bp p) (hn : NInv w bp [] p.nodes nds) : TX wr b bp s p nds D E [] := by
 subst HN
 have hpl : bp < w.heap.size := (Array.getElem?_eq_some_iff.1 hp).1
 have hpD : bp ∉ D := fun hm => by have := (L.inn bp hm).1; omega
 refine ⟨L.xb, (L.keep.block bp hpl (by simp)).trans hp, ?_, L.out, L.nodup, ⟨by omega, fun hm => (L.inn b hm).2.1 rfl, by simp, hpD, by simp⟩, ?_, by simp, hs, ?_⟩
 ·refine (hn.less (A' := b :: (E.ownBlock.toList ++ (D ++ []))) ?_).keepA L.keep (by simp)
  intro x hx
  simp only [List.mem_cons, List.mem_append, Option.mem_toList, List.not_mem_nil, or_false] at hx
  rcases hx with rfl | hx | hx
  ·exact Or.inr hb
  ·exact Or.inr (L.ee x hx).1
  ·exact Or.inr (L.inn x hx).1
 ·intro g hg
  refine ⟨(L.ee g hg).2, ?_, fun hm => (L.inn g hm).2.2.1 hg, by simp⟩
  have := (L.ee g hg).1
  omega
 ·intro k g hg
  refine ⟨List.replicate (s.size + 1) (.slice none 0 0), by simp, by rw [List.toArray_replicate]; exact (L.inn g (List.mem_of_getElem? hg)).2.2.2, fun i v hv => Or.inl ?_⟩
  exact List.eq_of_mem_replicate (List.mem_of_getElem? hv)
set_option maxRecDepth 100000 in
set_option maxHeartbeats 2000000 in
theorem textNew_any (s : ByteArray) (N : Nat) (HN : Hid (N = s.size + 1)) (hs : s.size ≤ 100) (nds : List Nd) (hl : nds.length ≤ 1000) (bp : Nat) (p : PS) (w : World) (hp : PB w bp p) (hn : NInv w bp [] p.nodes nds) :
    Calls Tryz.prog 47 #[.pointer (some ⟨bp, 0, none⟩), .string s, .bool false] w fun e w' => ∃ b D E, e = .returned (.pointer (some ⟨b, 0, none⟩)) ∧ TX w' b bp s p nds D E [] ∧ (∀ x, x ∈ D → w.heap.size ≤ x) ∧ Keeps [] w w' := by
 obtain ⟨i0, hi0, hz0, hz1, hz2⟩ := info_parts infoRB
 have hun := Tryz.underlying155
 have hun3 := Tryz.underlying152
 obtain ⟨i1, hi1, hy0, hy1, hy2⟩ := info_parts infoRR
 obtain ⟨n1, _⟩ := hp.nodes
 obtain ⟨css, _, hno, _⟩ := id hn
 obtain ⟨na, nn, nc, hnv⟩ := ownsRow_sl hno
 have hnn : nn = nds.length := by
  rcases hno.2 with ⟨e, e2⟩ | ⟨_, _, _, e, _⟩
  ·rw [hnv] at e; cases e; exact e2.symm
  ·rw [hnv] at e; cases e; rfl
 subst hnn
 rw [hnv] at n1
 have HP : Hid (PB w bp p ∧ NInv w bp [] p.nodes nds) := ⟨hp, hn⟩
 have hpl : bp < w.heap.size := (Array.getElem?_eq_some_iff.1 hp).1
 have hadd : (s.size : Int) + 1 ≤ 9223372036854775807 := by omega
 have hll : (nds.length : Int) ≤ 1000 := by omega
 clear hno hn hp hnv
 have hX0 : XB (w.alloc (.cells #[.pointer (some ⟨bp, 0, none⟩), .string s, .bool false, .slice none 0 0] 154)) w.heap.size (.pointer (some ⟨bp, 0, none⟩)) s (.slice none 0 0) := heap_alloc_new w _
 have hL0 : NW w (w.alloc (.cells #[.pointer (some ⟨bp, 0, none⟩), .string s, .bool false, .slice none 0 0] 154)) s N w.heap.size bp 0 [] (.slice none 0 0) :=
  ⟨hX0, World.ownsRow_nil _ _ _ _, List.nodup_nil, by simp, by simp [Value.ownBlock], (Keeps.refl [] w).alloc _⟩
 clear hX0
 go_enter Tryz.func47, Tryz.ntmps47
 go_upto_region 3 with (fail)
 generalize (w.alloc (.cells #[.pointer (some ⟨bp, 0, none⟩), .string s, .bool false, .slice none 0 0] 154)) = W at *
 obtain ⟨b, hbe⟩ : ∃ b, b = w.heap.size := ⟨_, rfl⟩
 rw [← hbe] at hL0 ⊢
 have hbw : w.heap.size ≤ b := by omega
 clear hbe
 go_loopw [8] (fun q wr => ∃ (t : Nat) (D : List Nat) (E : Value), t ≤ nds.length ∧ q = .int .i64 t ∧ NW w wr s N b bp t D E) (fun q _ => nds.length - (intOf q).toNat)
 case atStart => exact ⟨0, [], _, by omega, rfl, hL0⟩
 case round =>
  clear hL0
  obtain ⟨t, D, E, ht, rfl, L⟩ := hrel
  have m1 := (World.cell?_of_block (L.keep.block bp hpl (by simp))).trans n1
  by_cases htl : t < nds.length
  ·have ht1 : (t : Int) < (nds.length : Int) := by omega
   have HT : Hid (t < nds.length) := htl
   clear ht htl
   go_upto_region 5 with (fail)
   have hmkS : ∀ X : World, (Instr.makeSlice 155 (.int .i64 ((s.size : Int) + 1)) (.int .i64 ((s.size : Int) + 1))).run Tryz.prog X = .ok (.slice (some ⟨X.heap.size, 0, none⟩) N N) (X.alloc (.cells (Array.replicate N (.slice none 0 0)) 98)) := fun X => mk_rows X N ((s.size : Int) + 1) (by have := HN.out; omega) (by have := HN.out; omega)
   have hwr : IntKind.i64.wrap ((s.size : Int) + 1) = (s.size : Int) + 1 := wrap_small (by omega) (by omega)
   obtain ⟨x0, x1, x2, x3⟩ := L.xb.main
   have HL : Hid (NW w wr s N b bp t D E) := L
   have hbX := L.xb.lt
   have hbE : some b ≠ E.ownBlock := fun e => (L.ee b e.symm).2 rfl
   have hown := L.out
   have HK2 : Hid (Keeps [] wr ((wr.alloc (.cells (Array.replicate N (.slice none 0 0)) 98)).alloc (.cells #[.slice (some ⟨wr.heap.size, 0, none⟩) N N] 155)).drew) := (((Keeps.refl [] wr).alloc _).alloc _).drew
   have hbf : wr.frozen? ⟨b, 3, none⟩ = false := by have hx := L.xb; unfold XB at hx; simp [World.frozen?, hx]
   have hH1 : ((wr.alloc (.cells (Array.replicate N (.slice none 0 0)) 98)).alloc (.cells #[.slice (some ⟨wr.heap.size, 0, none⟩) N N] 155)).drew.heap.size = wr.heap.size + 2 := by simp
   have hB0 : ((wr.alloc (.cells (Array.replicate N (.slice none 0 0)) 98)).alloc (.cells #[.slice (some ⟨wr.heap.size, 0, none⟩) N N] 155)).drew.heap[wr.heap.size]? = some (.cells (Array.replicate N (.slice none 0 0)) 98 (0, 0)) := heap_alloc2_old wr _ _
   have hB1 : ((wr.alloc (.cells (Array.replicate N (.slice none 0 0)) 98)).alloc (.cells #[.slice (some ⟨wr.heap.size, 0, none⟩) N N] 155)).drew.heap[wr.heap.size + 1]? = some (.cells #[.slice (some ⟨wr.heap.size, 0, none⟩) N N] 155 (0, 0)) := heap_alloc2_new wr _ _
   have HB0 : Hid (((wr.alloc (.cells (Array.replicate N (.slice none 0 0)) 98)).alloc (.cells #[.slice (some ⟨wr.heap.size, 0, none⟩) N N] 155)).drew.heap[wr.heap.size]? = some (.cells (Array.replicate N (.slice none 0 0)) 98 (0, 0))) := hB0
   have HB1 : Hid (((wr.alloc (.cells (Array.replicate N (.slice none 0 0)) 98)).alloc (.cells #[.slice (some ⟨wr.heap.size, 0, none⟩) N N] 155)).drew.heap[wr.heap.size + 1]? = some (.cells #[.slice (some ⟨wr.heap.size, 0, none⟩) N N] 155 (0, 0))) := hB1
   have HH1 : Hid (((wr.alloc (.cells (Array.replicate N (.slice none 0 0)) 98)).alloc (.cells #[.slice (some ⟨wr.heap.size, 0, none⟩) N N] 155)).drew.heap.size = wr.heap.size + 2) := hH1
   have HOW : Hid (wr.ownsRow 0 155 1 E t (D.map fun g => .slice (some ⟨g, 0, none⟩) N N)) := hown
   have HBB : Hid (b < wr.heap.size ∧ wr.cell? ⟨b, 3, none⟩ = some E ∧ wr.frozen? ⟨b, 3, none⟩ = false) := ⟨hbX, x3, hbf⟩
   clear L hB0 hB1 hH1 hown m1 x0 x1 x2
   go_region_law
    ((refine step_append_lies _ (by rfl) _ _ _ (by rfl) 0 155 i1 _ 1 24 hun3 hi1 hy0 hy1 hy2 rfl (by omega) E t _ (by rfl) (HOW.out.keep HK2.out (by simp)) ⟨wr.heap.size + 1, 0, none⟩ 1 1 [.slice (some ⟨wr.heap.size, 0, none⟩) N N] (by rfl) (by rfl) (World.news_of_block (cs := #[.slice (some ⟨wr.heap.size, 0, none⟩) N N]) HB1.out) (by simp [Value.oneCell']) (by omega) (by have := HT.out; unfold maxLen; omega) (by have := HT.out; omega) (Nat.zero_le _) (wr.heap.size + 2) HH1.out ?_; intro g2 cap w3 hown3 hgr3 hat hlt3; have hcz : w3.cell? ⟨b, 3, none⟩ = some E := ((hgr3.cell_far ⟨b, 3, none⟩ (by have := HH1.out; have := HBB.out.1; show b < _; omega) hbE).trans (World.cell?_of_block (HK2.out.block b HBB.out.1 (by simp)))).trans HBB.out.2.1; have hfz : w3.frozen? ⟨b, 3, none⟩ = false := ((hgr3.frozen_far ⟨b, 3, none⟩ (by have := HH1.out; have := HBB.out.1; show b < _; omega) hbE).trans (World.frozen?_of_block (HK2.out.block b HBB.out.1 (by simp)))).trans HBB.out.2.2))
   all_goals
    have hst := NW.step HL.out hbw HK2.out (by rw [HH1.out]; omega) HB0.out hown3 hgr3 (by rw [HH1.out]; exact hat)
    clear hown3 hgr3 hat hlt3 hcz hfz x3 hbf hmkS
    go_wp2_with fail
    exact ⟨⟨t + 1, _, _, HT.out, by go_num, hst⟩, by have := HT.out; simp [intOf]; omega⟩
  ·have hte : t = nds.length := by omega
   have hnt : ¬ (t : Int) < (nds.length : Int) := by omega
   have hend := NW.tx HN.out hs (hte ▸ L) hbw HP.out.1 HP.out.2
   have hke := L.keep
   have hDn : ∀ x, x ∈ D → w.heap.size ≤ x := fun x hx => (L.inn x hx).1
   clear hte htl ht L
   go_wp2_with fail
   go_ret
   exact ⟨b, rfl, D, ⟨E, hend⟩, hDn, hke⟩
end Go.Proofs.YtnfojonmohijpaaGreatDoor
namespace Go.Proofs.YtnfojonmohijpaaGreatDoor
open Go.RowKit
structure OW (w wr : World) (ob : Nat) (keep : Bool) (t : Nat) (sp : Value) : Prop where
 blk : OB wr ob ⟨#[]⟩ 0 sp keep
 row : wr.ownsRow 0 3 1 sp t (spV (List.replicate t (-1)))
 new : ∀ g, sp.ownBlock = some g → w.heap.size ≤ g ∧ g ≠ ob
 keep : Keeps [] w wr
theorem OW.step {w wr w3 : World} {ob t g2 cap : Nat} {keep : Bool} {sp : Value} {o : Obj} (L : OW w wr ob keep t sp) (hob : w.heap.size ≤ ob) (hown : w3.ownsRow 0 3 1 (.slice (some ⟨g2, 0, none⟩) (t + 1) cap) (t + 1) (spV (List.replicate t (-1)) ++ [.int .i64 (-1)])) (hgrow : (wr.alloc o).grownBy w3 sp.ownBlock) (hat : sp.ownBlock = some g2 ∨ g2 = wr.heap.size + 1) :
    OW w (w3.setCell ⟨ob, 2, none⟩ (.slice (some ⟨g2, 0, none⟩) (t + 1) cap)) ob keep (t + 1) (.slice (some ⟨g2, 0, none⟩) (t + 1) cap) := by
 have hsz := L.keep.size
 have hol := L.blk.lt
 have hk2 : Keeps [] wr (wr.alloc o) := (Keeps.refl [] wr).alloc o
 have hk3 : Keeps sp.ownBlock.toList wr w3 := ⟨hgrow.os.trans hk2.os, hgrow.tape.trans hk2.tape, hgrow.output.trans hk2.output, Nat.le_trans hk2.size hgrow.size, fun k hk hn => (hgrow.block k (Nat.lt_of_lt_of_le hk hk2.size) (fun e => hn (by rw [← e]; simp))).trans (hk2.block k hk (by simp))⟩
 have hg2 : w.heap.size ≤ g2 ∧ g2 ≠ ob := by
  rcases hat with h | h
  ·exact L.new g2 h
  ·omega
 have hO3 : OB w3 ob ⟨#[]⟩ 0 sp keep := L.blk.keep' hk3 (by intro hm; simp at hm; exact (L.new ob hm).2 rfl)
 have hkS : Keeps [ob] w3 (w3.setCell ⟨ob, 2, none⟩ (.slice (some ⟨g2, 0, none⟩) (t + 1) cap)) := (Keeps.refl [ob] w3).setCell (p := ⟨ob, 2, none⟩) (by simp) _
 refine ⟨?_, ?_, ?_, ?_⟩
 ·unfold OB at *
  simp [World.setCell, Array.getElem?_modify, hO3]
 ·have e : spV (List.replicate (t + 1) (-1)) = spV (List.replicate t (-1)) ++ [.int .i64 (-1)] := by simp [spV, List.replicate_succ']
  rw [e]
  exact hown.keep hkS (by intro g hg; simp only [Value.ownBlock, Option.some.injEq] at hg; subst hg; simp; exact hg2.2)
 ·intro g hg
  simp only [Value.ownBlock, Option.some.injEq] at hg
  subst hg
  exact hg2
 ·refine keepsM (keepsM L.keep hk3 ?_) hkS ?_
  ·intro x hx
   simp at hx
   exact Or.inr (L.new x hx).1
  ·intro x hx
   simp at hx
   subst hx
   exact Or.inr hob
theorem infoInt1 : (Tryz.prog.info? 3).map (fun i => (i.zero, i.size, i.bytes)) = some (some (.int .i64 0), 1, 8) := by kernel_rfl
set_option maxRecDepth 100000 in
set_option maxHeartbeats 2000000 in
theorem of_any (s : ByteArray) (nds : List Nd) (hn : nds.length ≤ 1000) (k : Nat) (hk : NK nds 1000 k) (w : World) (b bp : Nat) (p : PS) (D : List Nat) (E : Value) (h : TX w b bp s p nds D E []) (hroot : Hid (p.root = k)) (hgr : p.gr ≤ 9)
    (i j : Nat) (keep : Bool) (t : List UInt8) (ev : List (Nat × Nat × Nat)) (HT : Hid (TN s nds p.gr (.node k) i j t ev)) (HM : Hid (MN s nds (.node k) i j)) (hj : j ≤ s.size) (hlen : t.length ≤ 4611686018427387904) :
    Calls Tryz.prog 49 #[.pointer (some ⟨b, 0, none⟩), .int .i64 i, .int .i64 j, .bool keep] w fun e w' => ∃ ob sp, e = .returned (.pointer (some ⟨ob, 0, none⟩)) ∧ TS w' b bp s p nds D E ob sp keep p.gr t (evs (List.replicate (2 * p.gr) (-1)) ev) ∧ Keeps D w w' := by
 obtain ⟨i0, hi0, hz0, hz1, hz2⟩ := info_parts infoInt1
 have hun := Tryz.underlying32
 have hbl := h.xb.lt
 have hpl : bp < w.heap.size := (Array.getElem?_eq_some_iff.1 h.pb).1
 obtain ⟨x0, _, _, _⟩ := h.xb.main
 obtain ⟨r2, _⟩ := h.pb.rbe
 obtain ⟨r5, _⟩ := h.pb.gd
 have hg9 : (p.gr : Int) ≤ 9 := by omega
 have HX : Hid (TX w b bp s p nds D E []) := h
 have hL0 : OW w (w.alloc (.cells #[.string ⟨#[]⟩, .int .i64 0, .slice none 0 0, .bool keep] 106)) w.heap.size keep 0 (.slice none 0 0) :=
  ⟨heap_alloc_new w _, World.ownsRow_nil _ _ _ _, by simp [Value.ownBlock], (Keeps.refl [] w).alloc _⟩
 clear h
 go_enter Tryz.func49, Tryz.ntmps49
 go_upto_region 3 with (fail)
 generalize (w.alloc (.cells #[.string ⟨#[]⟩, .int .i64 0, .slice none 0 0, .bool keep] 106)) = W at *
 obtain ⟨ob, hoe⟩ : ∃ ob, ob = w.heap.size := ⟨_, rfl⟩
 rw [← hoe] at hL0 ⊢
 have hob : w.heap.size ≤ ob := by omega
 have hob2 : ob ≠ b ∧ ob ≠ bp := by omega
 clear hoe
 have hwg : IntKind.i64.wrap (2 * (p.gr : Int)) = 2 * (p.gr : Int) := wrap_small (by omega) (by omega)
 go_loopw [10] (fun q wr => ∃ (m : Nat) (sp : Value), m ≤ 2 * p.gr ∧ q = .int .i64 m ∧ OW w wr ob keep m sp) (fun q _ => 2 * p.gr - (intOf q).toNat)
 case atStart => exact ⟨0, _, by omega, rfl, hL0⟩
 case round =>
  clear hL0
  obtain ⟨m, sp, hm, rfl, L⟩ := hrel
  have y0 := (World.cell?_of_block (L.keep.block b hbl (by simp))).trans x0
  have y5 := (World.cell?_of_block (L.keep.block bp hpl (by simp))).trans r5
  have y2 := (World.cell?_of_block (L.keep.block bp hpl (by simp))).trans r2
  by_cases hml : m < 2 * p.gr
  ·have hm1 : (m : Int) < 2 * (p.gr : Int) := by omega
   have HMM : Hid (m < 2 * p.gr) := hml
   obtain ⟨_, _, z2, _, _, _⟩ := L.blk.main
   have hnews : ∀ (j : Nat) (u : Value), [Value.int .i64 (-1)][j]? = some u → (wr.alloc (.cells #[.int .i64 (-1)] 3)).cell? ((⟨wr.heap.size, 0, none⟩ : Addr).add j) = some u := World.news_of_block (cs := #[.int .i64 (-1)]) (heap_alloc_new wr _)
   have hlm : m + 1 ≤ maxLen := by unfold maxLen; omega
   have HL : Hid (OW w wr ob keep m sp) := L
   have hF : wr.frozen? ⟨ob, 2, none⟩ = false := by have hx := L.blk; unfold OB at hx; simp [World.frozen?, hx]
   have HNE : Hid (some ob ≠ sp.ownBlock) := fun e => (L.new ob e.symm).2 rfl
   have HOL : Hid (ob < wr.heap.size) := L.blk.lt
   clear L hm hml y2
   go_wp2_with (first | (at_builtin; refine wpList_append_lies _ rfl _ _ _ rfl 0 3 i0 _ 1 8 hun hi0 hz0 hz1 hz2 rfl (by decide) sp m _ rfl (HL.out.row.alloc _) ⟨wr.heap.size, 0, none⟩ 1 1 [.int .i64 (-1)] rfl rfl hnews (by simp [Value.oneCell']) (by omega) hlm (by have := HMM.out; omega) (Nat.zero_le _) (wr.heap.size + 1) (by simp) ?_; intro g2 cap w3 hown3 hgr3 hat hlt3; have hcz : w3.cell? ⟨ob, 2, none⟩ = some sp := ((hgr3.cell_far ⟨ob, 2, none⟩ (by have := HOL.out; simp; omega) HNE.out).trans (World.cell?_alloc_old wr _ ⟨ob, 2, none⟩ (by have := HOL.out; simp; omega))).trans z2; have hfz : w3.frozen? ⟨ob, 2, none⟩ = false := ((hgr3.frozen_far ⟨ob, 2, none⟩ (by have := HOL.out; simp; omega) HNE.out).trans (World.frozen?_alloc_old wr _ ⟨ob, 2, none⟩ (by have := HOL.out; simp; omega))).trans hF))
   have hst := OW.step HL.out hob hown3 hgr3 hat
   exact ⟨⟨m + 1, _, HMM.out, by go_num, hst⟩, by have := HMM.out; simp [intOf]; omega⟩
  ·have hme : m = 2 * p.gr := by omega
   have hnm : ¬ (m : Int) < 2 * (p.gr : Int) := by omega
   subst hme
   have hT : TS wr b bp s p nds D E ob sp keep p.gr [] (List.replicate (2 * p.gr) (-1)) := by
    refine ⟨(HX.out.less (Z' := ob :: sp.ownBlock.toList) ?_).keep L.keep (by simp), ⟨_, L.blk, by decide, fun _ _ => rfl⟩, L.row, fun e => (L.new ob e).2 rfl⟩
    intro x hx
    rcases List.mem_cons.1 hx with rfl | hx
    ·exact Or.inr hob
    ·exact Or.inr (L.new x (by simpa using hx)).1
   have hkL := L.keep
   have HSP : Hid (∀ x, x ∈ tsB ob sp D → x ∈ D ∨ w.heap.size ≤ x) := by
    intro x hx
    simp only [tsB, List.mem_cons, List.mem_append, Option.mem_toList] at hx
    rcases hx with rfl | hx | hx
    ·exact Or.inr hob
    ·exact Or.inr (L.new x hx).1
    ·exact Or.inl hx
   rw [hroot.out] at y2
   clear L hm hml
   go_wp2_with fail
   refine (tree_all s nds hn 1000 (Nat.le_refl _) k hk wr b bp p D E ob sp keep p.gr [] _ i j t ev hT HT.out HM.out hj hgr (by simpa using hlen)).mono ?_
   rintro e w4 ⟨rfl, hS4, hk4⟩
   rw [List.nil_append] at hS4
   have hkE : Keeps D w w4 := keepsM (hkL.mono (by simp)) hk4 HSP.out
   clear hT hk4 y0 y5 y2
   go_wp2_with fail
   go_ret
   exact ⟨ob, sp, rfl, hS4, hkE⟩
end Go.Proofs.YtnfojonmohijpaaGreatDoor
namespace Go.Proofs.YtnfojonmohijpaaGreatDoor
def Pat.thin : Pat → Prop
 | .set _ => True
 | .grp _ x => x.thin
 | .rep _ _ x => x.thin
 | .pnil => True
 | .pcons x r => x.thin ∧ r.thin
 | .wone x => x.thin
 | .wcons x r => (wl r).length ≤ 98 ∧ x.thin ∧ r.thin
theorem G.thin {s : ByteArray} {k : Kd} {d g i : Nat} {q : R (Pat × Nat)} (h : G s k d g i q) : d ≤ 6 → g ≤ 9 → i ≤ s.size → s.size ≤ 60 → ∀ x g1 j, q = .ok (x, g1) j → g ≤ g1 ∧ g1 ≤ 9 ∧ x.fair g1 ∧ x.thin ∧ (k = .ways → (wl x).length ≤ j - i + 1) := by
 induction h with
 | one d g i g1 j x _ e ih =>
  intro hd hg hi hs x' g1' j' e'
  cases e'
  obtain ⟨a1, a2, a3, a4, _⟩ := ih hd hg hi hs x g1 j rfl
  exact ⟨a1, a2, a3, a4, fun _ => by simp [wl]⟩
 | more d g i g1 j x q hx e hq ih ih2 =>
  intro hd hg hi hs x' g1' j' e'
  cases q with
  | bad l => cases e'
  | ok y l =>
   obtain ⟨a1, a2, a3, a4, _⟩ := ih hd hg hi hs x g1 j rfl
   have o1 := hx.okb x g1 j rfl
   have hj : j < s.size := at'_nn (by omega)
   obtain ⟨b1, b2, b3, b4, b5⟩ := ih2 hd a2 (by omega) hs y.1 y.2 l rfl
   have o2 := hq.okb y.1 y.2 l rfl
   have hb5 := b5 rfl
   have hl := o2.2.1 (by omega)
   cases e'
   refine ⟨by omega, b2, ⟨a3.up b1, b3⟩, ⟨by omega, a4, b4⟩, fun _ => ?_⟩
   simp only [wl, List.length_cons]
   omega
 | wbad => intro _ _ _ _ x' g1' j' e'; cases e'
 | nil d g i e => intro hd hg hi hs x' g1' j' e'; cases e'; exact ⟨Nat.le_refl _, hg, trivial, trivial, fun h => by cases h⟩
 | cons d g i g1 j x q e hx hq ih ih2 =>
  intro hd hg hi hs x' g1' j' e'
  cases q with
  | bad l => cases e'
  | ok y l =>
   obtain ⟨a1, a2, a3, a4, _⟩ := ih hd hg hi hs x g1 j rfl
   have o1 := hx.okb x g1 j rfl
   obtain ⟨b1, b2, b3, b4, _⟩ := ih2 hd a2 (o1.2.1 hi) hs y.1 y.2 l rfl
   cases e'
   exact ⟨by omega, b2, ⟨a3.up b1, b3⟩, ⟨a4, b4⟩, fun h => by cases h⟩
 | pbad => intro _ _ _ _ x' g1' j' e'; cases e'
 | rep d g i g1 j x q _ r ih =>
  intro hd hg hi hs x' g1' j' e'
  obtain ⟨a1, a2, a3, a4, _⟩ := ih hd hg hi hs x g1 j rfl
  cases q with
  | bad l => cases e'
  | ok o l =>
   cases o with
   | none => cases e'; exact ⟨a1, a2, a3, a4, fun h => by cases h⟩
   | some mm =>
    obtain ⟨mn, mx⟩ := mm
    cases e'
    exact ⟨a1, a2, ⟨r.fair, a3⟩, a4, fun h => by cases h⟩
 | sbad => intro _ _ _ _ x' g1' j' e'; cases e'
 | deep => intro _ _ _ _ x' g1' j' e'; cases e'
 | grp d g i g1 j x e o _ c ih =>
  intro hd hg hi hs x' g1' j' e'
  cases e'
  have hi' : i < s.size := at'_nn (by omega)
  obtain ⟨a1, a2, a3, a4, _⟩ := ih (by omega) (by omega) (by omega) hs x g1 j rfl
  exact ⟨by omega, a2, ⟨by omega, a1, a3⟩, a4, fun h => by cases h⟩
 | gopen => intro _ _ _ _ x' g1' j' e'; cases e'
 | gbad => intro _ _ _ _ x' g1' j' e'; cases e'
 | set d g i q e r =>
  intro hd hg hi hs x' g1' j' e'
  cases q with
  | bad l => cases e'
  | ok f l => cases e'; exact ⟨Nat.le_refl _, hg, trivial, trivial, fun h => by cases h⟩
 | dot d g i e => intro hd hg hi hs x' g1' j' e'; cases e'; exact ⟨Nat.le_refl _, hg, trivial, trivial, fun h => by cases h⟩
 | esc d g i e =>
  intro hd hg hi hs x' g1' j' e'
  cases hq : escS s 0 (i + 1) with
  | bad l => rw [hq] at e'; cases e'
  | ok f l => rw [hq] at e'; cases e'; exact ⟨Nat.le_refl _, hg, trivial, trivial, fun h => by cases h⟩
 | no => intro _ _ _ _ x' g1' j' e'; cases e'
 | lit d g i e => intro hd hg hi hs x' g1' j' e'; cases e'; exact ⟨Nat.le_refl _, hg, trivial, trivial, fun h => by cases h⟩
theorem PatR.good {s : ByteArray} {W : Whole} {j : Nat} (hs : s.size ≤ 60) (h : PatR s (.ok W j)) : W.x.fair 9 ∧ W.x.thin ∧ W.g ≤ 9 := by
 obtain ⟨qw, hG, hqe⟩ := h
 cases qw with
 | bad l => cases hqe
 | ok xg l =>
  obtain ⟨x, g⟩ := xg
  have hwi : wi s ≤ s.size := by
   unfold wi
   by_cases h : at' s 0 = 94
   ·rw [if_pos h]; exact at'_nn (by omega)
   ·rw [if_neg h]; exact Nat.zero_le _
  obtain ⟨_, h2, h3, h4, _⟩ := hG.thin (by omega) (by omega) hwi hs x g l rfl
  rw [PatE_ok] at hqe
  by_cases hc : 0 ≤ at' s (if at' s l = 36 then l + 1 else l)
  ·rw [if_pos hc] at hqe; cases hqe
  ·rw [if_neg hc] at hqe; cases hqe; exact ⟨h3.up h2, h4, h2⟩
def MatchA (p s : ByteArray) (t : List UInt8) (b : Bool) (n : Int) : Prop :=
 (60 < p.size ∧ t = [] ∧ b = false ∧ n = 1) ∨
 (p.size ≤ 60 ∧ ∃ q, PatR p q ∧ match q with
   | .bad _ => t = [] ∧ b = false ∧ n = 2
   | .ok W _ => (100 < s.size ∧ t = [] ∧ b = false ∧ n = 1) ∨
       (s.size ≤ 100 ∧ ((¬ Mt s W.x 0 s.size ∧ t = [] ∧ b = false ∧ n = 0) ∨
         (Mt s W.x 0 s.size ∧ ∃ u ev, TR s (.node W.x) 0 s.size u ev ∧ ((u.length ≤ 20000 ∧ t = u ∧ b = true ∧ n = 0) ∨ (20000 < u.length ∧ t = [] ∧ b = false ∧ n = 1))))))
end Go.Proofs.YtnfojonmohijpaaGreatDoor
