/-
  DERIVED. The reference's 'New': a text for a pattern, of which nothing was asked yet. Conditions: the text is at most 100 bytes long, the nodes are at most 1000 and lie as they should.
-/
import Derived.Test.YtnfojonmohijpaaGreatDoorJMI
import Derived.Test.YtnfojonmohijpaaGreatDoorJNQ
import Derived.Deep.AppendLies
import Derived.Test.YtnfojonmohijpaaGreatDoorJVE
import Derived.Test.YtnfojonmohijpaaGreatDoorJOK
set_option linter.unusedSimpArgs false
set_option linter.unusedVariables false
namespace Go.Proofs.YtnfojonmohijpaaGreatDoor
open Go.RowKit
theorem wp_make_fullO {P : Program} {w : World} {o : Oper} {a : Act} {K : Act → World → Prop} {Q : Exit → Act → World → Prop} (l c : Operand) (t : TypeId) (hop : o.op = Op.makeSlice t l c)
    (base : Nat) (e : TypeId) (i : TypeInfo) (z : Value) (size : Nat) (h1 : P.underlying t = some (.slice e)) (h2 : P.info? e = some i) (h3 : i.zero = some z) (h4 : i.size = size)
    (kl kc : IntKind) (L C : Int) (n : Nat) (hl : a.eval l = .int kl L) (hc : a.eval c = .int kc C) (hL : L = (n : Int)) (hC : C = (n : Int)) (b2 : i.bytes * n ≤ 281474976710656) (b3 : n ≤ maxLen) (b4 : base ≤ w.heap.size)
    (hK : ∀ w', w'.ownsRow base e size (.slice (some ⟨w.heap.size, 0, none⟩) n n) n (madeCells z.cells (n * size)).toList → w.grownBy w' none → K (a.put o.dst (.slice (some ⟨w.heap.size, 0, none⟩) n n)) w') :
    o.wp P a w K Q := by
  obtain ⟨w', hrun, r1, r2⟩ := run_make_full (P := P) w base t e i z size h1 h2 h3 h4 kl kc n b2 b3 b4
  subst hL
  subst hC
  unfold Oper.wp
  simp [execOp, hop, hl, hc, hrun, Result.andThen]
  exact hK w' r1 r2
structure NW (w wr : World) (s : ByteArray) (N b bp t : Nat) (D : List Nat) (E : Value) : Prop where
  xb : XB wr b (.pointer (some ⟨bp, 0, none⟩)) s E
  out : wr.ownsRow 0 155 1 E t (D.map fun g => .slice (some ⟨g, 0, none⟩) N N)
  nodup : D.Nodup
  inn : ∀ g, g ∈ D → w.heap.size ≤ g ∧ g ≠ b ∧ E.ownBlock ≠ some g ∧ wr.heap[g]? = some (.cells (Array.replicate N (.slice none 0 0)) 98 (0, 0))
  ee : ∀ g, E.ownBlock = some g → w.heap.size ≤ g ∧ g ≠ b
  keep : Keeps [] w wr
theorem NW.step {w wr w2 w3 : World} {s : ByteArray} {N b bp t g2 cap : Nat} {D : List Nat} {E : Value} (L : NW w wr s N b bp t D E) (hb : w.heap.size ≤ b) (hk2 : Keeps [] wr w2) (hlt : wr.heap.size < w2.heap.size) (hmk : w2.heap[wr.heap.size]? = some (.cells (Array.replicate N (.slice none 0 0)) 98 (0, 0)))
    (hown : w3.ownsRow 0 155 1 (.slice (some ⟨g2, 0, none⟩) (t + 1) cap) (t + 1) ((D.map fun g => .slice (some ⟨g, 0, none⟩) N N) ++ [.slice (some ⟨wr.heap.size, 0, none⟩) N N])) (hgrow : w2.grownBy w3 E.ownBlock) (hat : E.ownBlock = some g2 ∨ g2 = w2.heap.size) :
    NW w (w3.setCell ⟨b, 3, none⟩ (.slice (some ⟨g2, 0, none⟩) (t + 1) cap)) s N b bp (t + 1) (D ++ [wr.heap.size]) (.slice (some ⟨g2, 0, none⟩) (t + 1) cap) := by
  have hsz := L.keep.size
  have hbl := L.xb.lt
  have hsz2 := hk2.size
  have hsz3 := hgrow.size
  have hEl : ∀ g, E.ownBlock = some g → g < wr.heap.size := fun g hg => (L.out.lt g hg).2
  have hk3 : Keeps E.ownBlock.toList wr w3 := ⟨hgrow.os.trans hk2.os, hgrow.tape.trans hk2.tape, hgrow.output.trans hk2.output, Nat.le_trans hk2.size hgrow.size, fun k hk hn => (hgrow.block k (Nat.lt_of_lt_of_le hk hk2.size) (fun e => hn (by rw [← e]; simp))).trans (hk2.block k hk (by simp))⟩
  have hg2 : w.heap.size ≤ g2 ∧ g2 ≠ b := by
    rcases hat with h | h
    · exact L.ee g2 h
    · omega
  have hxb3 : XB w3 b (.pointer (some ⟨bp, 0, none⟩)) s E := L.xb.keep hk3 (by intro hm; simp at hm; exact (L.ee b hm).2 rfl)
  have hkS : Keeps [b] w3 (w3.setCell ⟨b, 3, none⟩ (.slice (some ⟨g2, 0, none⟩) (t + 1) cap)) := (Keeps.refl [b] w3).setCell (p := ⟨b, 3, none⟩) (by simp) _
  refine ⟨?_, ?_, ?_, ?_, ?_, ?_⟩
  · unfold XB at *
    simp [World.setCell, Array.getElem?_modify, hxb3]
  · rw [List.map_append]
    exact hown.keep hkS (by intro g hg; simp only [Value.ownBlock, Option.some.injEq] at hg; subst hg; simp; exact hg2.2)
  · rw [List.nodup_append]
    refine ⟨L.nodup, by simp, fun a ha c hc => ?_⟩
    simp only [List.mem_singleton] at hc
    subst hc
    have := (Array.getElem?_eq_some_iff.1 (L.inn a ha).2.2.2).1
    omega
  · intro g hg
    rcases List.mem_append.1 hg with hg | hg
    · obtain ⟨h1, h2, h3, h4⟩ := L.inn g hg
      have hgl := (Array.getElem?_eq_some_iff.1 h4).1
      refine ⟨h1, h2, ?_, ?_⟩
      · simp only [Value.ownBlock, ne_eq, Option.some.injEq]
        rintro rfl
        rcases hat with h | h
        · exact h3 h
        · omega
      · exact (hkS.block g (by omega) (by simp; exact h2)).trans ((hk3.block g hgl (by simp; exact h3)).trans h4)
    · simp only [List.mem_singleton] at hg
      subst hg
      refine ⟨hsz, by omega, ?_, ?_⟩
      · simp only [Value.ownBlock, ne_eq, Option.some.injEq]
        rintro rfl
        rcases hat with h | h
        · have := hEl _ h; omega
        · omega
      · have h2 : w3.heap[wr.heap.size]? = w2.heap[wr.heap.size]? := hgrow.block wr.heap.size hlt (fun e => by have := hEl _ e.symm; omega)
        exact (hkS.block wr.heap.size (by omega) (by simp; omega)).trans (h2.trans hmk)
  · intro g hg
    simp only [Value.ownBlock, Option.some.injEq] at hg
    subst hg
    exact hg2
  · refine keepsM (keepsM L.keep hk3 ?_) hkS ?_
    · intro x hx
      simp at hx
      exact Or.inr (L.ee x hx).1
    · intro x hx
      simp at hx
      subst hx
      exact Or.inr hb
theorem made_nil (N : Nat) : (madeCells #[Value.slice none 0 0] N).toList = List.replicate N (.slice none 0 0) := by
  apply List.ext_getElem?
  intro j
  by_cases hj : j < N
  · simp [madeCells, hj, Nat.mod_one]
  · simp [madeCells, hj]
theorem infoRB : (Tryz.prog.info? 98).map (fun i => (i.zero, i.size, i.bytes)) = some (some (.slice none 0 0), 1, 24) := by kernel_rfl
theorem mk_rows (X : World) (N : Nat) (L : Int) (hL : L = (N : Int)) (hN : N ≤ 1000) : (Instr.makeSlice 155 (.int .i64 L) (.int .i64 L)).run Tryz.prog X = .ok (.slice (some ⟨X.heap.size, 0, none⟩) N N) (X.alloc (.cells (Array.replicate N (.slice none 0 0)) 98)) := by
  obtain ⟨i0, hi0, hz0, hz1, hz2⟩ := info_parts infoRB
  have hr := run_make (P := Tryz.prog) X 155 98 i0 (.slice none 0 0) Tryz.underlying155 hi0 hz0 .i64 .i64 N N (by omega) (Int.le_refl _) (by rw [hz2]; omega) (by omega)
  simp only [Int.toNat_natCast, hz1, Nat.mul_one] at hr
  rw [hL, hr, show madeCells (Value.slice none 0 0).cells N = Array.replicate N (.slice none 0 0) from Array.ext' (by rw [Array.toList_replicate]; exact made_nil N)]
theorem infoRR : (Tryz.prog.info? 155).map (fun i => (i.zero, i.size, i.bytes)) = some (some (.slice none 0 0), 1, 24) := by kernel_rfl
theorem NW.tx {w wr : World} {s : ByteArray} {N b bp : Nat} {p : PS} {nds : List Nd} {D : List Nat} {E : Value} (HN : N = s.size + 1) (hs : s.size ≤ 100) (L : NW w wr s N b bp nds.length D E) (hb : w.heap.size ≤ b) (hp : PB w bp p) (hn : NInv w bp [] p.nodes nds) : TX wr b bp s p nds D E [] := by
  subst HN
  have hpl : bp < w.heap.size := (Array.getElem?_eq_some_iff.1 hp).1
  have hpD : bp ∉ D := fun hm => by have := (L.inn bp hm).1; omega
  refine ⟨L.xb, (L.keep.block bp hpl (by simp)).trans hp, ?_, L.out, L.nodup, ⟨by omega, fun hm => (L.inn b hm).2.1 rfl, by simp, hpD, by simp⟩, ?_, by simp, hs, ?_⟩
  · refine (hn.less (A' := b :: (E.ownBlock.toList ++ (D ++ []))) ?_).keepA L.keep (by simp)
    intro x hx
    simp only [List.mem_cons, List.mem_append, Option.mem_toList, List.not_mem_nil, or_false] at hx
    rcases hx with rfl | hx | hx
    · exact Or.inr hb
    · exact Or.inr (L.ee x hx).1
    · exact Or.inr (L.inn x hx).1
  · intro g hg
    refine ⟨(L.ee g hg).2, ?_, fun hm => (L.inn g hm).2.2.1 hg, by simp⟩
    have := (L.ee g hg).1
    omega
  · intro k g hg
    refine ⟨List.replicate (s.size + 1) (.slice none 0 0), by simp, by rw [List.toArray_replicate]; exact (L.inn g (List.mem_of_getElem? hg)).2.2.2, fun i v hv => Or.inl ?_⟩
    exact List.eq_of_mem_replicate (List.mem_of_getElem? hv)
set_option maxRecDepth 100000 in
set_option maxHeartbeats 2000000 in
theorem textNew_any (s : ByteArray) (N : Nat) (HN : Hid (N = s.size + 1)) (hs : s.size ≤ 100) (nds : List Nd) (hl : nds.length ≤ 1000) (bp : Nat) (p : PS) (w : World) (hp : PB w bp p) (hn : NInv w bp [] p.nodes nds) :
    Calls Tryz.prog 47 #[.pointer (some ⟨bp, 0, none⟩), .string s, .bool false] w fun e w' => ∃ b D E, e = .returned (.pointer (some ⟨b, 0, none⟩)) ∧ TX w' b bp s p nds D E [] ∧ (∀ x, x ∈ D → w.heap.size ≤ x) ∧ Keeps [] w w' := by
  obtain ⟨i0, hi0, hz0, hz1, hz2⟩ := info_parts infoRB
  have hun := Tryz.underlying155
  have hun3 := Tryz.underlying152
  obtain ⟨i1, hi1, hy0, hy1, hy2⟩ := info_parts infoRR
  obtain ⟨n1, _⟩ := hp.nodes
  obtain ⟨css, _, hno, _⟩ := id hn
  obtain ⟨na, nn, nc, hnv⟩ := ownsRow_sl hno
  have hnn : nn = nds.length := by
    rcases hno.2 with ⟨e, e2⟩ | ⟨_, _, _, e, _⟩
    · rw [hnv] at e; cases e; exact e2.symm
    · rw [hnv] at e; cases e; rfl
  subst hnn
  rw [hnv] at n1
  have HP : Hid (PB w bp p ∧ NInv w bp [] p.nodes nds) := ⟨hp, hn⟩
  have hpl : bp < w.heap.size := (Array.getElem?_eq_some_iff.1 hp).1
  have hadd : (s.size : Int) + 1 ≤ 9223372036854775807 := by omega
  have hll : (nds.length : Int) ≤ 1000 := by omega
  clear hno hn hp hnv
  have hX0 : XB (w.alloc (.cells #[.pointer (some ⟨bp, 0, none⟩), .string s, .bool false, .slice none 0 0] 154)) w.heap.size (.pointer (some ⟨bp, 0, none⟩)) s (.slice none 0 0) := heap_alloc_new w _
  have hL0 : NW w (w.alloc (.cells #[.pointer (some ⟨bp, 0, none⟩), .string s, .bool false, .slice none 0 0] 154)) s N w.heap.size bp 0 [] (.slice none 0 0) :=
    ⟨hX0, World.ownsRow_nil _ _ _ _, List.nodup_nil, by simp, by simp [Value.ownBlock], (Keeps.refl [] w).alloc _⟩
  clear hX0
  go_enter Tryz.func47, Tryz.ntmps47
  go_upto_region 3 with (fail)
  generalize (w.alloc (.cells #[.pointer (some ⟨bp, 0, none⟩), .string s, .bool false, .slice none 0 0] 154)) = W at *
  obtain ⟨b, hbe⟩ : ∃ b, b = w.heap.size := ⟨_, rfl⟩
  rw [← hbe] at hL0 ⊢
  have hbw : w.heap.size ≤ b := by omega
  clear hbe
  go_loopw [8] (fun q wr => ∃ (t : Nat) (D : List Nat) (E : Value), t ≤ nds.length ∧ q = .int .i64 t ∧ NW w wr s N b bp t D E) (fun q _ => nds.length - (intOf q).toNat)
  case atStart => exact ⟨0, [], _, by omega, rfl, hL0⟩
  case round =>
    clear hL0
    obtain ⟨t, D, E, ht, rfl, L⟩ := hrel
    have m1 := (World.cell?_of_block (L.keep.block bp hpl (by simp))).trans n1
    by_cases htl : t < nds.length
    · have ht1 : (t : Int) < (nds.length : Int) := by omega
      have HT : Hid (t < nds.length) := htl
      clear ht htl
      go_upto_region 5 with (fail)
      have hmkS : ∀ X : World, (Instr.makeSlice 155 (.int .i64 ((s.size : Int) + 1)) (.int .i64 ((s.size : Int) + 1))).run Tryz.prog X = .ok (.slice (some ⟨X.heap.size, 0, none⟩) N N) (X.alloc (.cells (Array.replicate N (.slice none 0 0)) 98)) := fun X => mk_rows X N ((s.size : Int) + 1) (by have := HN.out; omega) (by have := HN.out; omega)
      have hwr : IntKind.i64.wrap ((s.size : Int) + 1) = (s.size : Int) + 1 := wrap_small (by omega) (by omega)
      obtain ⟨x0, x1, x2, x3⟩ := L.xb.main
      have HL : Hid (NW w wr s N b bp t D E) := L
      have hbX := L.xb.lt
      have hbE : some b ≠ E.ownBlock := fun e => (L.ee b e.symm).2 rfl
      have hown := L.out
      have HK2 : Hid (Keeps [] wr ((wr.alloc (.cells (Array.replicate N (.slice none 0 0)) 98)).alloc (.cells #[.slice (some ⟨wr.heap.size, 0, none⟩) N N] 155)).drew) := (((Keeps.refl [] wr).alloc _).alloc _).drew
      have hbf : wr.frozen? ⟨b, 3, none⟩ = false := by have hx := L.xb; unfold XB at hx; simp [World.frozen?, hx]
      have hH1 : ((wr.alloc (.cells (Array.replicate N (.slice none 0 0)) 98)).alloc (.cells #[.slice (some ⟨wr.heap.size, 0, none⟩) N N] 155)).drew.heap.size = wr.heap.size + 2 := by simp
      have hB0 : ((wr.alloc (.cells (Array.replicate N (.slice none 0 0)) 98)).alloc (.cells #[.slice (some ⟨wr.heap.size, 0, none⟩) N N] 155)).drew.heap[wr.heap.size]? = some (.cells (Array.replicate N (.slice none 0 0)) 98 (0, 0)) := heap_alloc2_old wr _ _
      have hB1 : ((wr.alloc (.cells (Array.replicate N (.slice none 0 0)) 98)).alloc (.cells #[.slice (some ⟨wr.heap.size, 0, none⟩) N N] 155)).drew.heap[wr.heap.size + 1]? = some (.cells #[.slice (some ⟨wr.heap.size, 0, none⟩) N N] 155 (0, 0)) := heap_alloc2_new wr _ _
      have HB0 : Hid (((wr.alloc (.cells (Array.replicate N (.slice none 0 0)) 98)).alloc (.cells #[.slice (some ⟨wr.heap.size, 0, none⟩) N N] 155)).drew.heap[wr.heap.size]? = some (.cells (Array.replicate N (.slice none 0 0)) 98 (0, 0))) := hB0
      have HB1 : Hid (((wr.alloc (.cells (Array.replicate N (.slice none 0 0)) 98)).alloc (.cells #[.slice (some ⟨wr.heap.size, 0, none⟩) N N] 155)).drew.heap[wr.heap.size + 1]? = some (.cells #[.slice (some ⟨wr.heap.size, 0, none⟩) N N] 155 (0, 0))) := hB1
      have HH1 : Hid (((wr.alloc (.cells (Array.replicate N (.slice none 0 0)) 98)).alloc (.cells #[.slice (some ⟨wr.heap.size, 0, none⟩) N N] 155)).drew.heap.size = wr.heap.size + 2) := hH1
      have HOW : Hid (wr.ownsRow 0 155 1 E t (D.map fun g => .slice (some ⟨g, 0, none⟩) N N)) := hown
      have HBB : Hid (b < wr.heap.size ∧ wr.cell? ⟨b, 3, none⟩ = some E ∧ wr.frozen? ⟨b, 3, none⟩ = false) := ⟨hbX, x3, hbf⟩
      clear L hB0 hB1 hH1 hown m1 x0 x1 x2
      go_region_law
        ((refine step_append_lies _ (by rfl) _ _ _ (by rfl) 0 155 i1 _ 1 24 hun3 hi1 hy0 hy1 hy2 rfl (by omega) E t _ (by rfl) (HOW.out.keep HK2.out (by simp)) ⟨wr.heap.size + 1, 0, none⟩ 1 1 [.slice (some ⟨wr.heap.size, 0, none⟩) N N] (by rfl) (by rfl) (World.news_of_block (cs := #[.slice (some ⟨wr.heap.size, 0, none⟩) N N]) HB1.out) (by simp [Value.oneCell']) (by omega) (by have := HT.out; unfold maxLen; omega) (by have := HT.out; omega) (Nat.zero_le _) (wr.heap.size + 2) HH1.out ?_; intro g2 cap w3 hown3 hgr3 hat hlt3; have hcz : w3.cell? ⟨b, 3, none⟩ = some E := ((hgr3.cell_far ⟨b, 3, none⟩ (by have := HH1.out; have := HBB.out.1; show b < _; omega) hbE).trans (World.cell?_of_block (HK2.out.block b HBB.out.1 (by simp)))).trans HBB.out.2.1; have hfz : w3.frozen? ⟨b, 3, none⟩ = false := ((hgr3.frozen_far ⟨b, 3, none⟩ (by have := HH1.out; have := HBB.out.1; show b < _; omega) hbE).trans (World.frozen?_of_block (HK2.out.block b HBB.out.1 (by simp)))).trans HBB.out.2.2))
      all_goals
        have hst := NW.step HL.out hbw HK2.out (by rw [HH1.out]; omega) HB0.out hown3 hgr3 (by rw [HH1.out]; exact hat)
        clear hown3 hgr3 hat hlt3 hcz hfz x3 hbf hmkS
        go_wp2_with fail
        exact ⟨⟨t + 1, _, _, HT.out, by go_num, hst⟩, by have := HT.out; simp [intOf]; omega⟩
    · have hte : t = nds.length := by omega
      have hnt : ¬ (t : Int) < (nds.length : Int) := by omega
      have hend := NW.tx HN.out hs (hte ▸ L) hbw HP.out.1 HP.out.2
      have hke := L.keep
      have hDn : ∀ x, x ∈ D → w.heap.size ≤ x := fun x hx => (L.inn x hx).1
      clear hte htl ht L
      go_wp2_with fail
      go_ret
      exact ⟨b, rfl, D, ⟨E, hend⟩, hDn, hke⟩
end Go.Proofs.YtnfojonmohijpaaGreatDoor
namespace Go.Proofs.YtnfojonmohijpaaGreatDoor
open Go.RowKit
structure OW (w wr : World) (ob : Nat) (keep : Bool) (t : Nat) (sp : Value) : Prop where
  blk : OB wr ob ⟨#[]⟩ 0 sp keep
  row : wr.ownsRow 0 3 1 sp t (spV (List.replicate t (-1)))
  new : ∀ g, sp.ownBlock = some g → w.heap.size ≤ g ∧ g ≠ ob
  keep : Keeps [] w wr
theorem OW.step {w wr w3 : World} {ob t g2 cap : Nat} {keep : Bool} {sp : Value} {o : Obj} (L : OW w wr ob keep t sp) (hob : w.heap.size ≤ ob) (hown : w3.ownsRow 0 3 1 (.slice (some ⟨g2, 0, none⟩) (t + 1) cap) (t + 1) (spV (List.replicate t (-1)) ++ [.int .i64 (-1)])) (hgrow : (wr.alloc o).grownBy w3 sp.ownBlock) (hat : sp.ownBlock = some g2 ∨ g2 = wr.heap.size + 1) :
    OW w (w3.setCell ⟨ob, 2, none⟩ (.slice (some ⟨g2, 0, none⟩) (t + 1) cap)) ob keep (t + 1) (.slice (some ⟨g2, 0, none⟩) (t + 1) cap) := by
  have hsz := L.keep.size
  have hol := L.blk.lt
  have hk2 : Keeps [] wr (wr.alloc o) := (Keeps.refl [] wr).alloc o
  have hk3 : Keeps sp.ownBlock.toList wr w3 := ⟨hgrow.os.trans hk2.os, hgrow.tape.trans hk2.tape, hgrow.output.trans hk2.output, Nat.le_trans hk2.size hgrow.size, fun k hk hn => (hgrow.block k (Nat.lt_of_lt_of_le hk hk2.size) (fun e => hn (by rw [← e]; simp))).trans (hk2.block k hk (by simp))⟩
  have hg2 : w.heap.size ≤ g2 ∧ g2 ≠ ob := by
    rcases hat with h | h
    · exact L.new g2 h
    · omega
  have hO3 : OB w3 ob ⟨#[]⟩ 0 sp keep := L.blk.keep' hk3 (by intro hm; simp at hm; exact (L.new ob hm).2 rfl)
  have hkS : Keeps [ob] w3 (w3.setCell ⟨ob, 2, none⟩ (.slice (some ⟨g2, 0, none⟩) (t + 1) cap)) := (Keeps.refl [ob] w3).setCell (p := ⟨ob, 2, none⟩) (by simp) _
  refine ⟨?_, ?_, ?_, ?_⟩
  · unfold OB at *
    simp [World.setCell, Array.getElem?_modify, hO3]
  · have e : spV (List.replicate (t + 1) (-1)) = spV (List.replicate t (-1)) ++ [.int .i64 (-1)] := by simp [spV, List.replicate_succ']
    rw [e]
    exact hown.keep hkS (by intro g hg; simp only [Value.ownBlock, Option.some.injEq] at hg; subst hg; simp; exact hg2.2)
  · intro g hg
    simp only [Value.ownBlock, Option.some.injEq] at hg
    subst hg
    exact hg2
  · refine keepsM (keepsM L.keep hk3 ?_) hkS ?_
    · intro x hx
      simp at hx
      exact Or.inr (L.new x hx).1
    · intro x hx
      simp at hx
      subst hx
      exact Or.inr hob
theorem infoInt1 : (Tryz.prog.info? 3).map (fun i => (i.zero, i.size, i.bytes)) = some (some (.int .i64 0), 1, 8) := by kernel_rfl
set_option maxRecDepth 100000 in
set_option maxHeartbeats 2000000 in
theorem of_any (s : ByteArray) (nds : List Nd) (hn : nds.length ≤ 1000) (k : Nat) (hk : NK nds 1000 k) (w : World) (b bp : Nat) (p : PS) (D : List Nat) (E : Value) (h : TX w b bp s p nds D E []) (hroot : Hid (p.root = k)) (hgr : p.gr ≤ 9)
    (i j : Nat) (keep : Bool) (t : List UInt8) (ev : List (Nat × Nat × Nat)) (HT : Hid (TN s nds p.gr (.node k) i j t ev)) (HM : Hid (MN s nds (.node k) i j)) (hj : j ≤ s.size) (hlen : t.length ≤ 4611686018427387904) :
    Calls Tryz.prog 49 #[.pointer (some ⟨b, 0, none⟩), .int .i64 i, .int .i64 j, .bool keep] w fun e w' => ∃ ob sp, e = .returned (.pointer (some ⟨ob, 0, none⟩)) ∧ TS w' b bp s p nds D E ob sp keep p.gr t (evs (List.replicate (2 * p.gr) (-1)) ev) ∧ Keeps D w w' := by
  obtain ⟨i0, hi0, hz0, hz1, hz2⟩ := info_parts infoInt1
  have hun := Tryz.underlying32
  have hbl := h.xb.lt
  have hpl : bp < w.heap.size := (Array.getElem?_eq_some_iff.1 h.pb).1
  obtain ⟨x0, _, _, _⟩ := h.xb.main
  obtain ⟨r2, _⟩ := h.pb.rbe
  obtain ⟨r5, _⟩ := h.pb.gd
  have hg9 : (p.gr : Int) ≤ 9 := by omega
  have HX : Hid (TX w b bp s p nds D E []) := h
  have hL0 : OW w (w.alloc (.cells #[.string ⟨#[]⟩, .int .i64 0, .slice none 0 0, .bool keep] 106)) w.heap.size keep 0 (.slice none 0 0) :=
    ⟨heap_alloc_new w _, World.ownsRow_nil _ _ _ _, by simp [Value.ownBlock], (Keeps.refl [] w).alloc _⟩
  clear h
  go_enter Tryz.func49, Tryz.ntmps49
  go_upto_region 3 with (fail)
  generalize (w.alloc (.cells #[.string ⟨#[]⟩, .int .i64 0, .slice none 0 0, .bool keep] 106)) = W at *
  obtain ⟨ob, hoe⟩ : ∃ ob, ob = w.heap.size := ⟨_, rfl⟩
  rw [← hoe] at hL0 ⊢
  have hob : w.heap.size ≤ ob := by omega
  have hob2 : ob ≠ b ∧ ob ≠ bp := by omega
  clear hoe
  have hwg : IntKind.i64.wrap (2 * (p.gr : Int)) = 2 * (p.gr : Int) := wrap_small (by omega) (by omega)
  go_loopw [10] (fun q wr => ∃ (m : Nat) (sp : Value), m ≤ 2 * p.gr ∧ q = .int .i64 m ∧ OW w wr ob keep m sp) (fun q _ => 2 * p.gr - (intOf q).toNat)
  case atStart => exact ⟨0, _, by omega, rfl, hL0⟩
  case round =>
    clear hL0
    obtain ⟨m, sp, hm, rfl, L⟩ := hrel
    have y0 := (World.cell?_of_block (L.keep.block b hbl (by simp))).trans x0
    have y5 := (World.cell?_of_block (L.keep.block bp hpl (by simp))).trans r5
    have y2 := (World.cell?_of_block (L.keep.block bp hpl (by simp))).trans r2
    by_cases hml : m < 2 * p.gr
    · have hm1 : (m : Int) < 2 * (p.gr : Int) := by omega
      have HMM : Hid (m < 2 * p.gr) := hml
      obtain ⟨_, _, z2, _, _, _⟩ := L.blk.main
      have hnews : ∀ (j : Nat) (u : Value), [Value.int .i64 (-1)][j]? = some u → (wr.alloc (.cells #[.int .i64 (-1)] 3)).cell? ((⟨wr.heap.size, 0, none⟩ : Addr).add j) = some u := World.news_of_block (cs := #[.int .i64 (-1)]) (heap_alloc_new wr _)
      have hlm : m + 1 ≤ maxLen := by unfold maxLen; omega
      have HL : Hid (OW w wr ob keep m sp) := L
      have hF : wr.frozen? ⟨ob, 2, none⟩ = false := by have hx := L.blk; unfold OB at hx; simp [World.frozen?, hx]
      have HNE : Hid (some ob ≠ sp.ownBlock) := fun e => (L.new ob e.symm).2 rfl
      have HOL : Hid (ob < wr.heap.size) := L.blk.lt
      clear L hm hml y2
      go_wp2_with (first | (at_builtin; refine wpList_append_lies _ rfl _ _ _ rfl 0 3 i0 _ 1 8 hun hi0 hz0 hz1 hz2 rfl (by decide) sp m _ rfl (HL.out.row.alloc _) ⟨wr.heap.size, 0, none⟩ 1 1 [.int .i64 (-1)] rfl rfl hnews (by simp [Value.oneCell']) (by omega) hlm (by have := HMM.out; omega) (Nat.zero_le _) (wr.heap.size + 1) (by simp) ?_; intro g2 cap w3 hown3 hgr3 hat hlt3; have hcz : w3.cell? ⟨ob, 2, none⟩ = some sp := ((hgr3.cell_far ⟨ob, 2, none⟩ (by have := HOL.out; simp; omega) HNE.out).trans (World.cell?_alloc_old wr _ ⟨ob, 2, none⟩ (by have := HOL.out; simp; omega))).trans z2; have hfz : w3.frozen? ⟨ob, 2, none⟩ = false := ((hgr3.frozen_far ⟨ob, 2, none⟩ (by have := HOL.out; simp; omega) HNE.out).trans (World.frozen?_alloc_old wr _ ⟨ob, 2, none⟩ (by have := HOL.out; simp; omega))).trans hF))
      have hst := OW.step HL.out hob hown3 hgr3 hat
      exact ⟨⟨m + 1, _, HMM.out, by go_num, hst⟩, by have := HMM.out; simp [intOf]; omega⟩
    · have hme : m = 2 * p.gr := by omega
      have hnm : ¬ (m : Int) < 2 * (p.gr : Int) := by omega
      subst hme
      have hT : TS wr b bp s p nds D E ob sp keep p.gr [] (List.replicate (2 * p.gr) (-1)) := by
        refine ⟨(HX.out.less (Z' := ob :: sp.ownBlock.toList) ?_).keep L.keep (by simp), ⟨_, L.blk, by decide, fun _ _ => rfl⟩, L.row, fun e => (L.new ob e).2 rfl⟩
        intro x hx
        rcases List.mem_cons.1 hx with rfl | hx
        · exact Or.inr hob
        · exact Or.inr (L.new x (by simpa using hx)).1
      have hkL := L.keep
      have HSP : Hid (∀ x, x ∈ tsB ob sp D → x ∈ D ∨ w.heap.size ≤ x) := by
        intro x hx
        simp only [tsB, List.mem_cons, List.mem_append, Option.mem_toList] at hx
        rcases hx with rfl | hx | hx
        · exact Or.inr hob
        · exact Or.inr (L.new x hx).1
        · exact Or.inl hx
      rw [hroot.out] at y2
      clear L hm hml
      go_wp2_with fail
      refine (tree_all s nds hn 1000 (Nat.le_refl _) k hk wr b bp p D E ob sp keep p.gr [] _ i j t ev hT HT.out HM.out hj hgr (by simpa using hlen)).mono ?_
      rintro e w4 ⟨rfl, hS4, hk4⟩
      rw [List.nil_append] at hS4
      have hkE : Keeps D w w4 := keepsM (hkL.mono (by simp)) hk4 HSP.out
      clear hT hk4 y0 y5 y2
      go_wp2_with fail
      go_ret
      exact ⟨ob, sp, rfl, hS4, hkE⟩
end Go.Proofs.YtnfojonmohijpaaGreatDoor
namespace Go.Proofs.YtnfojonmohijpaaGreatDoor
open Go.RowKit
theorem wn_wl : ∀ {x : Pat}, shp x .ways → (wl x).length = x.wn
  | .wone x, _ => rfl
  | .wcons x r, h => by
    have h1 := wn_wl (x := r) h.2
    have h2 : (Pat.wcons x r).wn = r.wn + 1 := rfl
    rw [h2, ← h1]
    rfl
  | .pnil, h => h.elim
  | .pcons _ _, h => h.elim
  | .set _, h => h.elim
  | .grp _ _, h => h.elim
  | .rep _ _ _, h => h.elim
theorem thin_thn : ∀ {x : Pat} {kd : Kd}, shp x kd → x.thin → x.thn := by
  intro x
  induction x with
  | set f => intro _ _ _; trivial
  | grp k x ih =>
    intro kd hs ht
    have hx : shp x .ways := by cases kd <;> first | exact hs | exact hs.elim
    exact ih hx ht
  | rep mn mx x ih =>
    intro kd hs ht
    have hx : shp x .single := by cases kd <;> first | exact hs.2.2.2 | exact hs.elim
    exact ih hx ht
  | pnil => intro _ _ _; trivial
  | pcons x r ih1 ih2 =>
    intro kd hs ht
    have hx : shp x .piece ∧ shp r .way := by cases kd <;> first | exact hs | exact hs.elim
    exact ⟨ih1 hx.1 ht.1, ih2 hx.2 ht.2⟩
  | wone x ih =>
    intro kd hs ht
    have hx : shp x .way := by cases kd <;> first | exact hs | exact hs.elim
    exact ih hx ht
  | wcons x r ih1 ih2 =>
    intro kd hs ht
    have hx : shp x .way ∧ shp r .ways := by cases kd <;> first | exact hs | exact hs.elim
    exact ⟨by rw [← wn_wl hx.2]; exact ht.1, ih1 hx.1 ht.2.1, ih2 hx.2 ht.2.2⟩
theorem PatR.all {s : ByteArray} {W : Whole} {j : Nat} (hs : s.size ≤ 60) (h : PatR s (.ok W j)) : shp W.x .ways ∧ W.x.sz < 1000 ∧ W.x.fair W.g ∧ W.x.fair 9 ∧ W.x.thn ∧ W.g ≤ 9 ∧ W.x.dep ≤ 7 := by
  obtain ⟨g1, g2, g3⟩ := h.good hs
  obtain ⟨qw, hG, hqe⟩ := h
  cases qw with
  | bad l => cases hqe
  | ok xg l =>
    obtain ⟨x, g⟩ := xg
    have hwi : wi s ≤ s.size := by
      unfold wi
      by_cases h : at' s 0 = 94
      · rw [if_pos h]; exact at'_nn (by omega)
      · rw [if_neg h]; exact Nat.zero_le _
    have h1 := hG.shp x g l rfl
    have h2 := endOf_le hG hwi
    obtain ⟨_, f2, f3, f4⟩ := hG.fair (by omega) (by omega) x g l rfl
    rw [PatE_ok] at hqe
    by_cases hc : 0 ≤ at' s (if at' s l = 36 then l + 1 else l)
    · rw [if_pos hc] at hqe; cases hqe
    · rw [if_neg hc] at hqe
      cases hqe
      simp only [szL, szR, endOf, depM] at h1 h2 f4
      exact ⟨h1.1, by show x.sz < 1000; omega, f3, g1, thin_thn h1.1 g2, g3, by show x.dep ≤ 7; omega⟩
set_option maxRecDepth 100000 in
set_option maxHeartbeats 1000000 in
theorem match_ref (q s : ByteArray) (w : World) :
    Calls Tryz.prog 21 #[.string q, .string s] w fun e w' => ∃ t b n, e = .returned (.tuple #[.string (nmB t), .bool b, .int .i64 n]) ∧ MatchA q s t b n ∧ Keeps [] w w' := by
  by_cases hq : 60 < q.size
  · go_enter Tryz.func21, Tryz.ntmps21
    go_wp2_with (first | (go_at_call 46; refine (read_long q _ hq).mono ?_; rintro e w' ⟨rfl, rfl⟩))
    go_ret3
    exact ⟨[], false, 1, rfl, Or.inl ⟨hq, rfl, rfl, rfl⟩, Keeps.refl _ _⟩
  have hq' : q.size ≤ 60 := by omega
  go_enter Tryz.func21, Tryz.ntmps21
  go_wp2_with fail
  refine (read_any q _ hq').mono ?_
  rintro e w1 ⟨bp, p, nds, R, en, rfl, hb, hR, hp, hinv, hk, hn, hps, hcase⟩
  cases R with
  | bad j =>
    obtain ⟨rfl, hbad⟩ := hcase
    have HA : Hid (MatchA q s [] false 2) := Or.inr ⟨hq', .bad j, hR, rfl, rfl, rfl⟩
    clear hbad hp hinv hR
    go_wp2_with fail
    go_ret3
    exact ⟨[], false, 2, rfl, HA.out, hk⟩
  | ok W j =>
    obtain ⟨rfl, hbg, hen, hgr, hrep⟩ := hcase
    obtain ⟨a1, a2, a3, a4, a5, a6, a7⟩ := hR.all hq'
    have HR : Hid (PatR q (.ok W j)) := hR
    have HREP : Hid (repK nds .ways W.x p.root) := hrep
    have HAL : Hid (shp W.x .ways ∧ W.x.fair W.g ∧ W.x.dep ≤ 7 ∧ W.x.sz < 1000) := ⟨a1, a3, a7, a2⟩
    have hNK : NK nds 1000 p.root := ⟨.ways, W.x, hrep, a1, a2, a4, a5⟩
    have HGR : Hid (p.gr = W.g) := hgr
    have HG9 : Hid (p.gr ≤ 9) := by show p.gr ≤ 9; omega
    obtain ⟨r2, _⟩ := hp.rbe
    clear hbg hen hgr hrep a1 a2 a3 a4 a5 a6 a7 hR
    by_cases hs : s.size ≤ 100
    rotate_left
    · have hs' : (100 : Int) < (s.size : Int) := by omega
      have HA : Hid (MatchA q s [] false 1) := Or.inr ⟨hq', .ok W j, HR.out, Or.inl ⟨by omega, rfl, rfl, rfl⟩⟩
      clear hp hinv hs
      go_wp2_with fail
      go_ret3
      exact ⟨[], false, 1, rfl, HA.out, hk⟩
    have hs' : ¬ (100 : Int) < (s.size : Int) := by omega
    have HS : Hid (s.size ≤ 100) := hs
    obtain ⟨lw, hr1, hr2⟩ := HREP.out
    have HMt : Hid (Mt s W.x 0 s.size ↔ MN s nds (.node p.root) 0 s.size) := by
      show Mt s W.x 0 s.size ↔ MN s nds (.node p.root) 0 s.size
      rw [show Mt s W.x 0 s.size ↔ ∃ d, d ∈ lw ∧ MN s nds (.node d) 0 s.size from rep_Mt HAL.out.1 hr1]
      exact hr2.alt_iff
    clear hr1 hr2
    go_wp2_with fail
    refine (textNew_any s (s.size + 1) rfl hs nds hn bp p w1 hp hinv).mono ?_
    rintro e w2 ⟨b, D, E, rfl, hT2, hDn, hk2⟩
    have y2 := hT2.pb.rbe.1
    have hkA := hk.trans hk2
    have HND : Hid (∀ x, x ∈ D → w.heap.size ≤ x) := fun x hx => Nat.le_trans hk.size (hDn x hx)
    clear hp hinv r2
    go_wp2_with fail
    refine (ends_all s nds hn 1000 (Nat.le_refl _) p.root hNK w2 b bp p D E [] 0 hT2 (by simp) (Nat.zero_le _)).mono ?_
    rintro e w3 ⟨v, rfl, hEA, hT3, hk3⟩
    obtain ⟨x, c, f, rfl, hRB, hxD, _, hsay⟩ := hEA
    have hcz := hRB.at (j := s.size) (by omega)
    have HSY : Hid (f s.size = true ↔ MN s nds (.node p.root) 0 s.size) := hsay s.size (Nat.le_refl _)
    have hi1 : (s.size : Int) < ((s.size + 1 : Nat) : Int) := by omega
    have hi0 : (0 : Int) ≤ (s.size : Int) := by omega
    have hkB : Keeps [] w w3 := keepsM hkA hk3 fun x hx => Or.inr (HND.out x hx)
    clear hT2 hk3 hsay hRB y2 hDn hk2 hk hkA
    cases hf : f s.size
    · rw [hf] at hcz
      have HA : Hid (MatchA q s [] false 0) := Or.inr ⟨hq', .ok W j, HR.out, Or.inr ⟨hs, Or.inl ⟨(fun hm => by (have := HSY.out.2 (HMt.out.1 hm); rw [hf] at this; cases this)), rfl, rfl, rfl⟩⟩⟩
      clear hf hT3
      go_wp2_with fail
      go_ret3
      exact ⟨[], false, 0, rfl, HA.out, hkB⟩
    · rw [hf] at hcz
      have hMN := HSY.out.1 hf
      have hMt := HMt.out.2 hMN
      obtain ⟨t, ev, hTN⟩ := tn_total (g := p.gr) 1000 HREP.out HAL.out.1 (by rw [HGR.out]; exact HAL.out.2.1) (Nat.le_of_lt HAL.out.2.2.2) hMN
      have hTR : TR s (.node W.x) 0 s.size t ev := hTN.toTR (kd := .ways) HREP.out HAL.out.1
      have hlt := tree_len hTR hMt HAL.out.1 HAL.out.2.2.1 (Nat.le_of_lt HAL.out.2.2.2) hs
      have HTR : Hid (TR s (.node W.x) 0 s.size t ev ∧ Mt s W.x 0 s.size) := ⟨hTR, hMt⟩
      clear hf hMt hTR
      go_wp2_with fail
      refine (of_any s nds hn p.root hNK w3 b bp p D E hT3 rfl HG9.out 0 s.size true t ev hTN hMN (Nat.le_refl _) (by omega)).mono ?_
      rintro e w4 ⟨ob, sp, rfl, hS4, hk4⟩
      have hkC : Keeps [] w w4 := keepsM hkB hk4 fun x hx => Or.inr (HND.out x hx)
      obtain ⟨out, hOB, ho, hout⟩ := hS4.ot
      obtain ⟨c0, c1, _, _, _, _⟩ := hOB.main
      clear hT3 hkB hk4 hS4 hOB hcz hTN hMN
      by_cases h2 : t.length ≤ 20000
      · have h2' : ¬ (20000 : Int) < (t.length : Int) := by omega
        have HA : Hid (MatchA q s t true 0) := Or.inr ⟨hq', .ok W j, HR.out, Or.inr ⟨hs, Or.inr ⟨HTR.out.2, t, ev, HTR.out.1, Or.inl ⟨h2, rfl, rfl, rfl⟩⟩⟩⟩
        have ho2 := hout rfl h2
        subst ho2
        clear h2 hout
        go_wp2_with fail
        go_ret3
        exact ⟨t, true, 0, rfl, HA.out, hkC⟩
      · have h2' : (20000 : Int) < (t.length : Int) := by omega
        have HA : Hid (MatchA q s [] false 1) := Or.inr ⟨hq', .ok W j, HR.out, Or.inr ⟨hs, Or.inr ⟨HTR.out.2, t, ev, HTR.out.1, Or.inr ⟨by omega, rfl, rfl, rfl⟩⟩⟩⟩
        clear h2 hout
        go_wp2_with fail
        go_ret3
        exact ⟨[], false, 1, rfl, HA.out, hkC⟩
end Go.Proofs.YtnfojonmohijpaaGreatDoor
namespace Go.Proofs.YtnfojonmohijpaaGreatDoor
theorem lit_piece {s : ByteArray} {d g i : Nat} {c : Int} (h : at' s i = c) (h0 : 0 ≤ c) (h1 : c ≠ 40 ∧ c ≠ 91 ∧ c ≠ 46 ∧ c ≠ 92) (h2 : ¬ notC c) (hn : at' s (i + 1) ≠ 42 ∧ at' s (i + 1) ≠ 43 ∧ at' s (i + 1) ≠ 63 ∧ at' s (i + 1) ≠ 123) :
    G s .piece d g i (.ok (.set (stretch c c), g) (i + 1)) := by
  have a := G.lit (s := s) d g i (by rw [h]; exact h0) (by rw [h]; exact h1.1) (by rw [h]; exact h1.2.1) (by rw [h]; exact h1.2.2.1) (by rw [h]; exact h1.2.2.2) (by rw [h]; exact h2)
  rw [h] at a
  exact G.rep d g i g (i + 1) _ (.ok none (i + 1)) a (Or.inl ⟨hn.1, hn.2.1, hn.2.2.1, hn.2.2.2, rfl⟩)
theorem lit_star {s : ByteArray} {d g i : Nat} {c : Int} (h : at' s i = c) (h0 : 0 ≤ c) (h1 : c ≠ 40 ∧ c ≠ 91 ∧ c ≠ 46 ∧ c ≠ 92) (h2 : ¬ notC c) (hn : at' s (i + 1) = 42) :
    G s .piece d g i (.ok (.rep 0 (-1) (.set (stretch c c)), g) (i + 2)) := by
  have a := G.lit (s := s) d g i (by rw [h]; exact h0) (by rw [h]; exact h1.1) (by rw [h]; exact h1.2.1) (by rw [h]; exact h1.2.2.1) (by rw [h]; exact h1.2.2.2) (by rw [h]; exact h2)
  rw [h] at a
  exact G.rep d g i g (i + 1) _ (.ok (some (0, -1)) (i + 1 + 1)) a (Or.inr (Or.inl ⟨hn, rfl⟩))
theorem way_cons {s : ByteArray} {d g i g1 j g2 k : Nat} {x r : Pat} (h : ¬ stopC (at' s i)) (h1 : G s .piece d g i (.ok (x, g1) j)) (h2 : G s .way d g1 j (.ok (r, g2) k)) : G s .way d g i (.ok (.pcons x r, g2) k) := G.cons d g i g1 j x (.ok (r, g2) k) h h1 h2
theorem ways_cons {s : ByteArray} {d g i g1 j g2 k : Nat} {x r : Pat} (h1 : G s .way d g i (.ok (x, g1) j)) (h : at' s j = 124) (h2 : G s .ways d g1 (j + 1) (.ok (r, g2) k)) : G s .ways d g i (.ok (.wcons x r, g2) k) := G.more d g i g1 j x (.ok (r, g2) k) h1 h h2
theorem grp_piece {s : ByteArray} {d g i g1 j : Nat} {x : Pat} (h : at' s i = 40) (hd : ¬ (d = 6 ∨ g = 9)) (h1 : G s .ways (d + 1) (g + 1) (i + 1) (.ok (x, g1) j)) (hc : at' s j = 41) (hn : at' s (j + 1) ≠ 42 ∧ at' s (j + 1) ≠ 43 ∧ at' s (j + 1) ≠ 63 ∧ at' s (j + 1) ≠ 123) :
    G s .piece d g i (.ok (.grp (g + 1) x, g1) (j + 1)) := G.rep d g i g1 (j + 1) _ (.ok none (j + 1)) (G.grp d g i g1 j x h hd h1 hc) (Or.inl ⟨hn.1, hn.2.1, hn.2.2.1, hn.2.2.2, rfl⟩)
def mS : ByteArray := ⟨#[40, 97, 124, 97, 98, 41, 40, 99, 124, 98, 99, 100, 41, 40, 100, 42, 41]⟩
def mT : ByteArray := ⟨#[97, 98, 99, 100]⟩
def st (c : Int) : Pat := .set (stretch c c)
def m1 : Pat := .wcons (.pcons (st 97) .pnil) (.wone (.pcons (st 97) (.pcons (st 98) .pnil)))
def m2 : Pat := .wcons (.pcons (st 99) .pnil) (.wone (.pcons (st 98) (.pcons (st 99) (.pcons (st 100) .pnil))))
def m3 : Pat := .wone (.pcons (.rep 0 (-1) (st 100)) .pnil)
def mX : Pat := .wone (.pcons (.grp 1 m1) (.pcons (.grp 2 m2) (.pcons (.grp 3 m3) .pnil)))
theorem m_at : at' mS 0 = 40 ∧ at' mS 1 = 97 ∧ at' mS 2 = 124 ∧ at' mS 3 = 97 ∧ at' mS 4 = 98 ∧ at' mS 5 = 41 ∧ at' mS 6 = 40 ∧ at' mS 7 = 99 ∧ at' mS 8 = 124 ∧ at' mS 9 = 98 ∧ at' mS 10 = 99 ∧ at' mS 11 = 100 ∧ at' mS 12 = 41 ∧ at' mS 13 = 40 ∧ at' mS 14 = 100 ∧ at' mS 15 = 42 ∧ at' mS 16 = 41 ∧ at' mS 17 = -1 := by decide
theorem m_g1 : G mS .ways 1 1 1 (.ok (m1, 1) 5) := by
  obtain ⟨h0, h1, h2, h3, h4, h5, h6, h7, h8, h9, h10, h11, h12, h13, h14, h15, h16, h17⟩ := m_at
  have a : G mS .way 1 1 1 (.ok (.pcons (st 97) .pnil, 1) 2) := way_cons (by rw [h1]; unfold stopC; decide) (lit_piece h1 (by decide) (by decide) (by unfold notC; decide) (by rw [h2]; decide)) (G.nil 1 1 2 (by rw [h2]; unfold stopC; decide))
  have b : G mS .way 1 1 4 (.ok (.pcons (st 98) .pnil, 1) 5) := way_cons (by rw [h4]; unfold stopC; decide) (lit_piece h4 (by decide) (by decide) (by unfold notC; decide) (by rw [h5]; decide)) (G.nil 1 1 5 (by rw [h5]; unfold stopC; decide))
  have c : G mS .way 1 1 3 (.ok (.pcons (st 97) (.pcons (st 98) .pnil), 1) 5) := way_cons (by rw [h3]; unfold stopC; decide) (lit_piece h3 (by decide) (by decide) (by unfold notC; decide) (by rw [h4]; decide)) b
  exact ways_cons a h2 (G.one 1 1 3 1 5 _ c (by rw [h5]; decide))
theorem m_g2 : G mS .ways 1 2 7 (.ok (m2, 2) 12) := by
  obtain ⟨h0, h1, h2, h3, h4, h5, h6, h7, h8, h9, h10, h11, h12, h13, h14, h15, h16, h17⟩ := m_at
  have a : G mS .way 1 2 7 (.ok (.pcons (st 99) .pnil, 2) 8) := way_cons (by rw [h7]; unfold stopC; decide) (lit_piece h7 (by decide) (by decide) (by unfold notC; decide) (by rw [h8]; decide)) (G.nil 1 2 8 (by rw [h8]; unfold stopC; decide))
  have b : G mS .way 1 2 11 (.ok (.pcons (st 100) .pnil, 2) 12) := way_cons (by rw [h11]; unfold stopC; decide) (lit_piece h11 (by decide) (by decide) (by unfold notC; decide) (by rw [h12]; decide)) (G.nil 1 2 12 (by rw [h12]; unfold stopC; decide))
  have c : G mS .way 1 2 10 (.ok (.pcons (st 99) (.pcons (st 100) .pnil), 2) 12) := way_cons (by rw [h10]; unfold stopC; decide) (lit_piece h10 (by decide) (by decide) (by unfold notC; decide) (by rw [h11]; decide)) b
  have d : G mS .way 1 2 9 (.ok (.pcons (st 98) (.pcons (st 99) (.pcons (st 100) .pnil)), 2) 12) := way_cons (by rw [h9]; unfold stopC; decide) (lit_piece h9 (by decide) (by decide) (by unfold notC; decide) (by rw [h10]; decide)) c
  exact ways_cons a h8 (G.one 1 2 9 2 12 _ d (by rw [h12]; decide))
theorem m_g3 : G mS .ways 1 3 14 (.ok (m3, 3) 16) := by
  obtain ⟨h0, h1, h2, h3, h4, h5, h6, h7, h8, h9, h10, h11, h12, h13, h14, h15, h16, h17⟩ := m_at
  have a : G mS .way 1 3 14 (.ok (.pcons (.rep 0 (-1) (st 100)) .pnil, 3) 16) := way_cons (by rw [h14]; unfold stopC; decide) (lit_star h14 (by decide) (by decide) (by unfold notC; decide) h15) (G.nil 1 3 16 (by rw [h16]; unfold stopC; decide))
  exact G.one 1 3 14 3 16 _ a (by rw [h16]; decide)
theorem m_read : PatR mS (.ok ⟨false, false, mX, 3⟩ 17) := by
  obtain ⟨h0, h1, h2, h3, h4, h5, h6, h7, h8, h9, h10, h11, h12, h13, h14, h15, h16, h17⟩ := m_at
  have p1 : G mS .piece 0 0 0 (.ok (.grp 1 m1, 1) 6) := grp_piece h0 (by decide) m_g1 h5 (by rw [h6]; decide)
  have p2 : G mS .piece 0 1 6 (.ok (.grp 2 m2, 2) 13) := grp_piece h6 (by decide) m_g2 h12 (by rw [h13]; decide)
  have p3 : G mS .piece 0 2 13 (.ok (.grp 3 m3, 3) 17) := grp_piece h13 (by decide) m_g3 h16 (by rw [h17]; decide)
  have w3 : G mS .way 0 2 13 (.ok (.pcons (.grp 3 m3) .pnil, 3) 17) := way_cons (by rw [h13]; unfold stopC; decide) p3 (G.nil 0 3 17 (by rw [h17]; unfold stopC; decide))
  have w2 : G mS .way 0 1 6 (.ok (.pcons (.grp 2 m2) (.pcons (.grp 3 m3) .pnil), 3) 17) := way_cons (by rw [h6]; unfold stopC; decide) p2 w3
  have w1 : G mS .way 0 0 0 (.ok (.pcons (.grp 1 m1) (.pcons (.grp 2 m2) (.pcons (.grp 3 m3) .pnil)), 3) 17) := way_cons (by rw [h0]; unfold stopC; decide) p1 w2
  have hw : wi mS = 0 := by simp [wi, h0]
  refine ⟨.ok (mX, 3) 17, ?_, ?_⟩
  · rw [hw]
    exact G.one 0 0 0 3 17 _ w1 (by rw [h17]; decide)
  · simp [PatE_ok, h17, h0]
theorem st_iff {s : ByteArray} {c : Int} {i j : Nat} : Mt s (st c) i j ↔ i < s.size ∧ stretch c c (at' s i).toNat = true ∧ j = i + 1 := Iff.rfl
theorem st_yes {s : ByteArray} {c : Int} {i : Nat} (h : i < s.size ∧ stretch c c (at' s i).toNat = true) : Mt s (st c) i (i + 1) := ⟨h.1, h.2, rfl⟩
theorem st_no {s : ByteArray} {c : Int} {i j : Nat} (h : stretch c c (at' s i).toNat = false) : ¬ Mt s (st c) i j := fun hm => by have := hm.2.1; rw [h] at this; cases this
theorem TR.cast {s : ByteArray} {J : Job} {i j : Nat} {t u : List UInt8} {ev : List (Nat × Nat × Nat)} (h : TR s J i j t ev) (e : t = u) : TR s J i j u ev := e ▸ h
theorem t_at : stretch 97 97 (at' mT 0).toNat = true ∧ stretch 98 98 (at' mT 1).toNat = true ∧ stretch 99 99 (at' mT 2).toNat = true ∧ stretch 100 100 (at' mT 3).toNat = true ∧ stretch 98 98 (at' mT 2).toNat = false ∧ mT.size = 4 := by decide
theorem g1_end {j : Nat} : Mt mT m1 0 j ↔ j = 1 ∨ j = 2 := by
  obtain ⟨b0, b1, b2, b3, n2, hs⟩ := t_at
  constructor
  · rintro (⟨m, ⟨_, _, rfl⟩, h⟩ | ⟨m, ⟨_, _, rfl⟩, m', ⟨_, _, rfl⟩, h⟩)
    · exact Or.inl h.symm
    · exact Or.inr h.symm
  · rintro (rfl | rfl)
    · exact Or.inl ⟨1, st_yes (by rw [hs]; exact ⟨by decide, b0⟩), rfl⟩
    · exact Or.inr ⟨1, st_yes (by rw [hs]; exact ⟨by decide, b0⟩), 2, st_yes (by rw [hs]; exact ⟨by decide, b1⟩), rfl⟩
theorem g2_end {j : Nat} : Mt mT m2 2 j ↔ j = 3 := by
  obtain ⟨b0, b1, b2, b3, n2, hs⟩ := t_at
  constructor
  · rintro (⟨m, ⟨_, _, rfl⟩, h⟩ | ⟨m, h, _⟩)
    · exact h.symm
    · exact absurd h (st_no n2)
  · rintro rfl
    exact Or.inl ⟨3, st_yes (by rw [hs]; exact ⟨by decide, b2⟩), rfl⟩
theorem g3_yes : Mt mT m3 3 4 := by
  obtain ⟨b0, b1, b2, b3, n2, hs⟩ := t_at
  exact ⟨4, ⟨1, by decide, Or.inl (by decide), 4, st_yes (by rw [hs]; exact ⟨by decide, b3⟩), rfl⟩, rfl⟩
theorem m_rest2 : Mt mT (.pcons (.grp 3 m3) .pnil) 3 4 := ⟨4, g3_yes, rfl⟩
theorem m_rest1 : Mt mT (.pcons (.grp 2 m2) (.pcons (.grp 3 m3) .pnil)) 2 4 := ⟨3, g2_end.2 rfl, m_rest2⟩
theorem m_mt : Mt mT mX 0 mT.size := ⟨2, g1_end.2 (Or.inr rfl), m_rest1⟩
def mTree : List UInt8 := [40, 115, 32, 40, 103, 49, 32, 40, 97, 49, 32, 40, 115, 32, 98, 54, 49, 32, 98, 54, 50, 41, 41, 41, 32, 40, 103, 50, 32, 40, 97, 48, 32, 98, 54, 51, 41, 41, 32, 40, 103, 51, 32, 40, 114, 32, 98, 54, 52, 41, 41, 41]
theorem m_tree : ∃ ev, TR mT (.node mX) 0 mT.size mTree ev := by
  obtain ⟨b0, b1, b2, b3, n2, hs⟩ := t_at
  have k1 : TR mT (.kids (.pcons (st 97) (.pcons (st 98) .pnil))) 0 2 _ _ := .kgo (st 97) _ 0 2 1 _ _ _ _ ⟨by decide, by decide, fun _ => ⟨st_yes (by rw [hs]; exact ⟨by decide, b0⟩), 2, st_yes (by rw [hs]; exact ⟨by decide, b1⟩), rfl⟩, fun m h1 _ hm => by have := hm.1.2.2; omega⟩ (.byte _ 0 1)
    (.kgo (st 98) .pnil 1 2 2 _ _ _ _ ⟨by decide, by decide, fun _ => ⟨st_yes (by rw [hs]; exact ⟨by decide, b1⟩), rfl⟩, fun m h1 h2 _ => by omega⟩ (.byte _ 1 2) (.kend 2 2))
  have r1 : TR mT (.node (.grp 1 m1)) 0 2 _ _ := .grp 1 m1 0 2 _ _ (.wcons _ _ 0 2 _ _ (.miss 0 _ _ 0 2 _ _ (fun hm => by obtain ⟨m, h1, h2⟩ := hm; have e1 := h1.2.2; have e2 : m = 2 := h2; omega) (.last 1 _ 0 2 _ _ (.row _ _ _ 0 2 _ _ k1))))
  have r2 : TR mT (.node (.grp 2 m2)) 2 3 _ _ := .grp 2 m2 2 3 _ _ (.wcons _ _ 2 3 _ _ (.hit 0 _ _ 2 3 _ _ ⟨3, st_yes (by rw [hs]; exact ⟨by decide, b2⟩), rfl⟩ (.lone _ 2 3 _ _ (.byte _ 2 3))))
  have r3 : TR mT (.node (.grp 3 m3)) 3 4 _ _ := .grp 3 m3 3 4 _ _ (.wone _ 3 4 _ _ (.lone _ 3 4 _ _ (.rep 0 (-1) _ 3 4 _ _ (.tgo 0 (-1) (st 100) 3 4 4 _ _ _ _ (Or.inl (by decide)) ⟨by decide, by decide, fun _ => ⟨st_yes (by rw [hs]; exact ⟨by decide, b3⟩), 0, by decide, Or.inl (by decide), rfl⟩, fun m h1 h2 _ => by omega⟩ (.byte _ 3 4) (.tend _ _ _ 4 4 (by decide))))))
  have q3 : TR mT (.kids (.pcons (.grp 3 m3) .pnil)) 3 4 _ _ := .kgo (.grp 3 m3) .pnil 3 4 4 _ _ _ _ ⟨by decide, by decide, fun _ => ⟨g3_yes, rfl⟩, fun m h1 h2 _ => by omega⟩ r3 (.kend 4 4)
  have q2 : TR mT (.kids (.pcons (.grp 2 m2) (.pcons (.grp 3 m3) .pnil))) 2 4 _ _ := .kgo (.grp 2 m2) _ 2 4 3 _ _ _ _ ⟨by decide, by decide, fun _ => ⟨g2_end.2 rfl, m_rest2⟩, fun m h1 _ hm => by have := g2_end.1 hm.1; omega⟩ r2 q3
  have q1 : TR mT (.kids (.pcons (.grp 1 m1) (.pcons (.grp 2 m2) (.pcons (.grp 3 m3) .pnil)))) 0 4 _ _ := .kgo (.grp 1 m1) _ 0 4 2 _ _ _ _ ⟨by decide, by decide, fun _ => ⟨g1_end.2 (Or.inr rfl), m_rest1⟩, fun m h1 _ hm => by have := g1_end.1 hm.1; omega⟩ r1 q2
  have z : TR mT (.node mX) 0 4 _ _ := .wone _ 0 4 _ _ (.row _ _ _ 0 4 _ _ q1)
  rw [hs]
  exact ⟨_, z.cast (by decide +kernel)⟩
theorem m_match : MatchA mS mT mTree true 0 := by
  obtain ⟨ev, h⟩ := m_tree
  exact Or.inr ⟨by decide, _, m_read, Or.inr ⟨by decide, Or.inr ⟨m_mt, mTree, ev, h, Or.inl ⟨by decide, rfl, rfl, rfl⟩⟩⟩⟩
end Go.Proofs.YtnfojonmohijpaaGreatDoor
namespace Go.Proofs.YtnfojonmohijpaaGreatDoor
open Go.RowKit
set_option maxRecDepth 100000 in
set_option maxHeartbeats 2000000 in
theorem law_match (p s : ByteArray) (w : World) (hgn : GN w) :
    Calls Tryz.prog 18 #[.string p, .string s] w fun e w' => e = .returned (.bool true) ∧ Keeps [] w w' := by
  go_enter Tryz.func18, Tryz.ntmps18
  go_wp2_with fail
  refine (ymatch_any p s w hgn).mono ?_
  rintro e w1 ⟨t, b, n, rfl, h1, hk1⟩
  have H1 : Hid (MatchA p s t b n) := h1
  clear h1 hgn
  go_wp2_with fail
  refine (match_ref p s w1).mono ?_
  rintro e w2 ⟨t2, b2, n2, rfl, h2, hk2⟩
  obtain ⟨rfl, rfl, rfl⟩ := H1.out.det h2
  have hk := hk1.trans hk2
  clear h2 hk1 hk2
  go_wp2_with fail
  go_ret
  exact ⟨rfl, hk⟩
set_option maxRecDepth 100000 in
set_option maxHeartbeats 2000000 in
theorem law_matches (p s : ByteArray) (w : World) (hgn : GN w) :
    Calls Tryz.prog 4 #[.string p, .string s] w fun e w' => e = .returned (.bool true) ∧ Keeps [] w w' := by
  go_enter Tryz.func4, Tryz.ntmps4
  go_wp2_with fail
  refine (ymatch_any mS mT w hgn).mono ?_
  rintro e w1 ⟨t, b, n, rfl, h1, hk1⟩
  obtain ⟨rfl, rfl, rfl⟩ := h1.det m_match
  have hgn1 := hgn.keep hk1 (by simp)
  have hx : nmB mTree = ⟨#[40, 115, 32, 40, 103, 49, 32, 40, 97, 49, 32, 40, 115, 32, 98, 54, 49, 32, 98, 54, 50, 41, 41, 41, 32, 40, 103, 50, 32, 40, 97, 48, 32, 98, 54, 51, 41, 41, 32, 40, 103, 51, 32, 40, 114, 32, 98, 54, 52, 41, 41, 41]⟩ := rfl
  rw [hx]
  clear h1 hgn
  go_wp2_with fail
  refine (law_match p s w1 hgn1).mono ?_
  rintro e w2 ⟨rfl, hk2⟩
  have hk := hk1.trans hk2
  clear hk1 hk2 hgn1
  go_wp2_with fail
  go_ret
  exact ⟨rfl, hk⟩
end Go.Proofs.YtnfojonmohijpaaGreatDoor
