/-
  DERIVED. The reference's 'New': a text for a pattern, of which nothing was asked yet. Conditions: the text is at most 100 bytes long, the nodes are at most 1000 and lie as they should.
-/
import Derived.Test.YtnfojonmohijpaaGreatDoorJMG
import Derived.Test.YtnfojonmohijpaaGreatDoorJNQ
import Derived.Deep.AppendLies
import Derived.Test.YtnfojonmohijpaaGreatDoorJMS
import Derived.Test.YtnfojonmohijpaaGreatDoorJON
import Derived.Test.YtnfojonmohijpaaGreatDoorJSpec
set_option linter.unusedSimpArgs false
set_option linter.unusedVariables false
namespace Go.Proofs.YtnfojonmohijpaaGreatDoor
open Go.RowKit
def XF (w : World) (b : Nat) (P : Value) (s : ByteArray) (E : Value) (fo : Bool) : Prop := w.heap[b]? = some (.cells #[P, .string s, .bool fo, E] 154 (0, 0))
theorem XF.xb {w : World} {b : Nat} {P : Value} {s : ByteArray} {E : Value} {fo : Bool} (h : XF w b P s E fo) : XB w b P s E := ⟨fo, h⟩
theorem XF.two {w : World} {b : Nat} {P : Value} {s : ByteArray} {E : Value} {fo : Bool} (h : XF w b P s E fo) : w.cell? ⟨b, 2, none⟩ = some (.bool fo) := by
 unfold XF at h
 simp [World.cell?, h]
structure NW (w wr : World) (fo : Bool) (s : ByteArray) (N b bp t : Nat) (D : List Nat) (E : Value) : Prop where
 xf : XF wr b (.pointer (some ⟨bp, 0, none⟩)) s E fo
 out : wr.ownsRow 0 155 1 E t (D.map fun g => .slice (some ⟨g, 0, none⟩) N N)
 nodup : D.Nodup
 inn : ∀ g, g ∈ D → w.heap.size ≤ g ∧ g ≠ b ∧ E.ownBlock ≠ some g ∧ wr.heap[g]? = some (.cells (Array.replicate N (.slice none 0 0)) 98 (0, 0))
 ee : ∀ g, E.ownBlock = some g → w.heap.size ≤ g ∧ g ≠ b
 keep : Keeps [] w wr
theorem NW.xb {w wr : World} {fo : Bool} {s : ByteArray} {N b bp t : Nat} {D : List Nat} {E : Value} (h : NW w wr fo s N b bp t D E) : XB wr b (.pointer (some ⟨bp, 0, none⟩)) s E := h.xf.xb
theorem NW.step {w wr w2 w3 : World} {fo : Bool} {s : ByteArray} {N b bp t g2 cap : Nat} {D : List Nat} {E : Value} (L : NW w wr fo s N b bp t D E) (hb : w.heap.size ≤ b) (hk2 : Keeps [] wr w2) (hlt : wr.heap.size < w2.heap.size) (hmk : w2.heap[wr.heap.size]? = some (.cells (Array.replicate N (.slice none 0 0)) 98 (0, 0)))
    (hown : w3.ownsRow 0 155 1 (.slice (some ⟨g2, 0, none⟩) (t + 1) cap) (t + 1) ((D.map fun g => .slice (some ⟨g, 0, none⟩) N N) ++ [.slice (some ⟨wr.heap.size, 0, none⟩) N N])) (hgrow : w2.grownBy w3 E.ownBlock) (hat : E.ownBlock = some g2 ∨ g2 = w2.heap.size) :
    NW w (w3.setCell ⟨b, 3, none⟩ (.slice (some ⟨g2, 0, none⟩) (t + 1) cap)) fo s N b bp (t + 1) (D ++ [wr.heap.size]) (.slice (some ⟨g2, 0, none⟩) (t + 1) cap) := by
 have hsz := L.keep.size
 have hbl := L.xb.lt
 have hsz2 := hk2.size
 have hsz3 := hgrow.size
 have hEl : ∀ g, E.ownBlock = some g → g < wr.heap.size := fun g hg => (L.out.lt g hg).2
 have hk3 : Keeps E.ownBlock.toList wr w3 := ⟨hgrow.os.trans hk2.os, hgrow.tape.trans hk2.tape, hgrow.output.trans hk2.output, Nat.le_trans hk2.size hgrow.size, fun k hk hn => (hgrow.block k (Nat.lt_of_lt_of_le hk hk2.size) (fun e => hn (by rw [← e]; simp))).trans (hk2.block k hk (by simp))⟩
 have hg2 : w.heap.size ≤ g2 ∧ g2 ≠ b := by
  rcases hat with h | h
  ·exact L.ee g2 h
  ·omega
 have hxb3 : XF w3 b (.pointer (some ⟨bp, 0, none⟩)) s E fo := (hk3.block b hbl (by intro hm; simp at hm; exact (L.ee b hm).2 rfl)).trans L.xf
 have hkS : Keeps [b] w3 (w3.setCell ⟨b, 3, none⟩ (.slice (some ⟨g2, 0, none⟩) (t + 1) cap)) := (Keeps.refl [b] w3).setCell (p := ⟨b, 3, none⟩) (by simp) _
 refine ⟨?_, ?_, ?_, ?_, ?_, ?_⟩
 ·unfold XF at *
  simp [World.setCell, Array.getElem?_modify, hxb3]
 ·rw [List.map_append]
  exact hown.keep hkS (by intro g hg; simp only [Value.ownBlock, Option.some.injEq] at hg; subst hg; simp; exact hg2.2)
 ·rw [List.nodup_append]
  refine ⟨L.nodup, by simp, fun a ha c hc => ?_⟩
  simp only [List.mem_singleton] at hc
  subst hc
  have := (Array.getElem?_eq_some_iff.1 (L.inn a ha).2.2.2).1
  omega
 ·intro g hg
  rcases List.mem_append.1 hg with hg | hg
  ·obtain ⟨h1, h2, h3, h4⟩ := L.inn g hg
   have hgl := (Array.getElem?_eq_some_iff.1 h4).1
   refine ⟨h1, h2, ?_, ?_⟩
   ·simp only [Value.ownBlock, ne_eq, Option.some.injEq]
    rintro rfl
    rcases hat with h | h
    ·exact h3 h
    ·omega
   ·exact (hkS.block g (by omega) (by simp; exact h2)).trans ((hk3.block g hgl (by simp; exact h3)).trans h4)
  ·simp only [List.mem_singleton] at hg
   subst hg
   refine ⟨hsz, by omega, ?_, ?_⟩
   ·simp only [Value.ownBlock, ne_eq, Option.some.injEq]
    rintro rfl
    rcases hat with h | h
    ·have := hEl _ h; omega
    ·omega
   ·have h2 : w3.heap[wr.heap.size]? = w2.heap[wr.heap.size]? := hgrow.block wr.heap.size hlt (fun e => by have := hEl _ e.symm; omega)
    exact (hkS.block wr.heap.size (by omega) (by simp; omega)).trans (h2.trans hmk)
 ·intro g hg
  simp only [Value.ownBlock, Option.some.injEq] at hg
  subst hg
  exact hg2
 ·refine keepsM (keepsM L.keep hk3 ?_) hkS ?_
  ·intro x hx
   simp at hx
   exact Or.inr (L.ee x hx).1
  ·intro x hx
   simp at hx
   subst hx
   exact Or.inr hb
theorem made_nil (N : Nat) : (madeCells #[Value.slice none 0 0] N).toList = List.replicate N (.slice none 0 0) := by
 apply List.ext_getElem?
 intro j
 by_cases hj : j < N
 ·simp [madeCells, hj, Nat.mod_one]
 ·simp [madeCells, hj]
theorem infoRB : (Tryz.prog.info? 98).map (fun i => (i.zero, i.size, i.bytes)) = some (some (.slice none 0 0), 1, 24) := by kernel_rfl
theorem mk_rows (X : World) (N : Nat) (L : Int) (hL : L = (N : Int)) (hN : N ≤ 1000) : (Instr.makeSlice 155 (.int .i64 L) (.int .i64 L)).run Tryz.prog X = .ok (.slice (some ⟨X.heap.size, 0, none⟩) N N) (X.alloc (.cells (Array.replicate N (.slice none 0 0)) 98)) := by
 obtain ⟨i0, hi0, hz0, hz1, hz2⟩ := info_parts infoRB
 have hr := run_make (P := Tryz.prog) X 155 98 i0 (.slice none 0 0) Tryz.underlying155 hi0 hz0 .i64 .i64 N N (by omega) (Int.le_refl _) (by rw [hz2]; omega) (by omega)
 simp only [Int.toNat_natCast, hz1, Nat.mul_one] at hr
 rw [hL, hr, show madeCells (Value.slice none 0 0).cells N = Array.replicate N (.slice none 0 0) from Array.ext' (by rw [Array.toList_replicate]; exact made_nil N)]
theorem infoRR : (Tryz.prog.info? 155).map (fun i => (i.zero, i.size, i.bytes)) = some (some (.slice none 0 0), 1, 24) := by kernel_rfl
theorem NW.tx {w wr : World} {fo : Bool} {s : ByteArray} {N b bp : Nat} {p : PS} {nds : List Nd} {D Z : List Nat} {E : Value} (HN : N = s.size + 1) (hs : s.size ≤ 100) (L : NW w wr fo s N b bp nds.length D E) (hb : w.heap.size ≤ b) (hp : PB w bp p) (hn : NInv w bp Z p.nodes nds) (hZ : ∀ x, x ∈ Z → x < w.heap.size) (hpZ : bp ∉ Z) : TX wr b bp s p (nds.map (Nd.fo fo)) D E Z := by
 subst HN
 have hpl : bp < w.heap.size := (Array.getElem?_eq_some_iff.1 hp).1
 have hpD : bp ∉ D := fun hm => by have := (L.inn bp hm).1; omega
 have hno : ∀ x, w.heap.size ≤ x → x ∉ Z := fun x h hm => by have := hZ x hm; omega
 refine ⟨L.xb, (L.keep.block bp hpl (by simp)).trans hp, ⟨fo, nds, L.xf.two, rfl, ?_⟩, by rw [List.length_map]; exact L.out, L.nodup, ⟨by omega, fun hm => (L.inn b hm).2.1 rfl, hno b hb, hpD, hpZ⟩, ?_, fun g hg => hno g (L.inn g hg).1, hs, ?_⟩
 ·refine (hn.less (A' := b :: (E.ownBlock.toList ++ (D ++ Z))) ?_).keepA L.keep (by simp)
  intro x hx
  simp only [List.mem_cons, List.mem_append, Option.mem_toList] at hx
  rcases hx with rfl | hx | hx | hx
  ·exact Or.inr hb
  ·exact Or.inr (L.ee x hx).1
  ·exact Or.inr (L.inn x hx).1
  ·exact Or.inl hx
 ·intro g hg
  have h1 := (L.ee g hg).1
  exact ⟨(L.ee g hg).2, by omega, fun hm => (L.inn g hm).2.2.1 hg, hno g h1⟩
 ·intro k g hg
  refine ⟨List.replicate (s.size + 1) (.slice none 0 0), by simp, by rw [List.toArray_replicate]; exact (L.inn g (List.mem_of_getElem? hg)).2.2.2, fun i v hv => Or.inl ?_⟩
  exact List.eq_of_mem_replicate (List.mem_of_getElem? hv)
set_option maxRecDepth 100000 in
set_option maxHeartbeats 2000000 in
theorem textNew_fz (fo : Bool) (s : ByteArray) (N : Nat) (HN : Hid (N = s.size + 1)) (hs : s.size ≤ 100) (nds : List Nd) (hl : nds.length ≤ 1000) (bp : Nat) (p : PS) (Z : List Nat) (w : World) (hp : PB w bp p) (hn : NInv w bp Z p.nodes nds) (HZ : Hid ((∀ x, x ∈ Z → x < w.heap.size) ∧ bp ∉ Z)) :
    Calls Tryz.prog 47 #[.pointer (some ⟨bp, 0, none⟩), .string s, .bool fo] w fun e w' => ∃ b D E, e = .returned (.pointer (some ⟨b, 0, none⟩)) ∧ TX w' b bp s p (nds.map (Nd.fo fo)) D E Z ∧ (∀ x, x ∈ D → w.heap.size ≤ x) ∧ w.heap.size ≤ b ∧ (∀ x, E.ownBlock = some x → w.heap.size ≤ x) ∧ Keeps [] w w' := by
 obtain ⟨i0, hi0, hz0, hz1, hz2⟩ := info_parts infoRB
 have hun := Tryz.underlying155
 have hun3 := Tryz.underlying152
 obtain ⟨i1, hi1, hy0, hy1, hy2⟩ := info_parts infoRR
 obtain ⟨n1, _⟩ := hp.nodes
 obtain ⟨css, _, hno, _⟩ := id hn
 obtain ⟨na, nn, nc, hnv⟩ := ownsRow_sl hno
 have hnn : nn = nds.length := by
  rcases hno.2 with ⟨e, e2⟩ | ⟨_, _, _, e, _⟩
  ·rw [hnv] at e; cases e; exact e2.symm
  ·rw [hnv] at e; cases e; rfl
 subst hnn
 rw [hnv] at n1
 have HP : Hid (PB w bp p ∧ NInv w bp Z p.nodes nds) := ⟨hp, hn⟩
 have hpl : bp < w.heap.size := (Array.getElem?_eq_some_iff.1 hp).1
 have hadd : (s.size : Int) + 1 ≤ 9223372036854775807 := by omega
 have hll : (nds.length : Int) ≤ 1000 := by omega
 clear hno hn hp hnv
 have hX0 : XF (w.alloc (.cells #[.pointer (some ⟨bp, 0, none⟩), .string s, .bool fo, .slice none 0 0] 154)) w.heap.size (.pointer (some ⟨bp, 0, none⟩)) s (.slice none 0 0) fo := heap_alloc_new w _
 have hL0 : NW w (w.alloc (.cells #[.pointer (some ⟨bp, 0, none⟩), .string s, .bool fo, .slice none 0 0] 154)) fo s N w.heap.size bp 0 [] (.slice none 0 0) :=
  ⟨hX0, World.ownsRow_nil _ _ _ _, List.nodup_nil, by simp, by simp [Value.ownBlock], (Keeps.refl [] w).alloc _⟩
 clear hX0
 go_enter Tryz.func47, Tryz.ntmps47
 go_upto_region 3 with (fail)
 generalize (w.alloc (.cells #[.pointer (some ⟨bp, 0, none⟩), .string s, .bool fo, .slice none 0 0] 154)) = W at *
 obtain ⟨b, hbe⟩ : ∃ b, b = w.heap.size := ⟨_, rfl⟩
 rw [← hbe] at hL0 ⊢
 have hbw : w.heap.size ≤ b := by omega
 clear hbe
 go_loopw [8] (fun q wr => ∃ (t : Nat) (D : List Nat) (E : Value), t ≤ nds.length ∧ q = .int .i64 t ∧ NW w wr fo s N b bp t D E) (fun q _ => nds.length - (intOf q).toNat)
 case atStart => exact ⟨0, [], _, by omega, rfl, hL0⟩
 case round =>
  clear hL0
  obtain ⟨t, D, E, ht, rfl, L⟩ := hrel
  have m1 := (World.cell?_of_block (L.keep.block bp hpl (by simp))).trans n1
  by_cases htl : t < nds.length
  ·have ht1 : (t : Int) < (nds.length : Int) := by omega
   have HT : Hid (t < nds.length) := htl
   clear ht htl
   go_upto_region 5 with (fail)
   have hmkS : ∀ X : World, (Instr.makeSlice 155 (.int .i64 ((s.size : Int) + 1)) (.int .i64 ((s.size : Int) + 1))).run Tryz.prog X = .ok (.slice (some ⟨X.heap.size, 0, none⟩) N N) (X.alloc (.cells (Array.replicate N (.slice none 0 0)) 98)) := fun X => mk_rows X N ((s.size : Int) + 1) (by have := HN.out; omega) (by have := HN.out; omega)
   have hwr : IntKind.i64.wrap ((s.size : Int) + 1) = (s.size : Int) + 1 := wrap_small (by omega) (by omega)
   obtain ⟨x0, x1, x2, x3⟩ := L.xb.main
   have HL : Hid (NW w wr fo s N b bp t D E) := L
   have hbX := L.xb.lt
   have hbE : some b ≠ E.ownBlock := fun e => (L.ee b e.symm).2 rfl
   have hown := L.out
   have HK2 : Hid (Keeps [] wr ((wr.alloc (.cells (Array.replicate N (.slice none 0 0)) 98)).alloc (.cells #[.slice (some ⟨wr.heap.size, 0, none⟩) N N] 155)).drew) := (((Keeps.refl [] wr).alloc _).alloc _).drew
   have hbf : wr.frozen? ⟨b, 3, none⟩ = false := by have hx := L.xf; unfold XF at hx; simp [World.frozen?, hx]
   have hH1 : ((wr.alloc (.cells (Array.replicate N (.slice none 0 0)) 98)).alloc (.cells #[.slice (some ⟨wr.heap.size, 0, none⟩) N N] 155)).drew.heap.size = wr.heap.size + 2 := by simp
   have hB0 : ((wr.alloc (.cells (Array.replicate N (.slice none 0 0)) 98)).alloc (.cells #[.slice (some ⟨wr.heap.size, 0, none⟩) N N] 155)).drew.heap[wr.heap.size]? = some (.cells (Array.replicate N (.slice none 0 0)) 98 (0, 0)) := heap_alloc2_old wr _ _
   have hB1 : ((wr.alloc (.cells (Array.replicate N (.slice none 0 0)) 98)).alloc (.cells #[.slice (some ⟨wr.heap.size, 0, none⟩) N N] 155)).drew.heap[wr.heap.size + 1]? = some (.cells #[.slice (some ⟨wr.heap.size, 0, none⟩) N N] 155 (0, 0)) := heap_alloc2_new wr _ _
   have HB0 : Hid (((wr.alloc (.cells (Array.replicate N (.slice none 0 0)) 98)).alloc (.cells #[.slice (some ⟨wr.heap.size, 0, none⟩) N N] 155)).drew.heap[wr.heap.size]? = some (.cells (Array.replicate N (.slice none 0 0)) 98 (0, 0))) := hB0
   have HB1 : Hid (((wr.alloc (.cells (Array.replicate N (.slice none 0 0)) 98)).alloc (.cells #[.slice (some ⟨wr.heap.size, 0, none⟩) N N] 155)).drew.heap[wr.heap.size + 1]? = some (.cells #[.slice (some ⟨wr.heap.size, 0, none⟩) N N] 155 (0, 0))) := hB1
   have HH1 : Hid (((wr.alloc (.cells (Array.replicate N (.slice none 0 0)) 98)).alloc (.cells #[.slice (some ⟨wr.heap.size, 0, none⟩) N N] 155)).drew.heap.size = wr.heap.size + 2) := hH1
   have HOW : Hid (wr.ownsRow 0 155 1 E t (D.map fun g => .slice (some ⟨g, 0, none⟩) N N)) := hown
   have HBB : Hid (b < wr.heap.size ∧ wr.cell? ⟨b, 3, none⟩ = some E ∧ wr.frozen? ⟨b, 3, none⟩ = false) := ⟨hbX, x3, hbf⟩
   clear L hB0 hB1 hH1 hown m1 x0 x1 x2
   go_region_law
    ((refine step_append_lies _ (by rfl) _ _ _ (by rfl) 0 155 i1 _ 1 24 hun3 hi1 hy0 hy1 hy2 rfl (by omega) E t _ (by rfl) (HOW.out.keep HK2.out (by simp)) ⟨wr.heap.size + 1, 0, none⟩ 1 1 [.slice (some ⟨wr.heap.size, 0, none⟩) N N] (by rfl) (by rfl) (World.news_of_block (cs := #[.slice (some ⟨wr.heap.size, 0, none⟩) N N]) HB1.out) (by simp [Value.oneCell']) (by omega) (by have := HT.out; unfold maxLen; omega) (by have := HT.out; omega) (Nat.zero_le _) (wr.heap.size + 2) HH1.out ?_; intro g2 cap w3 hown3 hgr3 hat hlt3; have hcz : w3.cell? ⟨b, 3, none⟩ = some E := ((hgr3.cell_far ⟨b, 3, none⟩ (by have := HH1.out; have := HBB.out.1; show b < _; omega) hbE).trans (World.cell?_of_block (HK2.out.block b HBB.out.1 (by simp)))).trans HBB.out.2.1; have hfz : w3.frozen? ⟨b, 3, none⟩ = false := ((hgr3.frozen_far ⟨b, 3, none⟩ (by have := HH1.out; have := HBB.out.1; show b < _; omega) hbE).trans (World.frozen?_of_block (HK2.out.block b HBB.out.1 (by simp)))).trans HBB.out.2.2))
   all_goals
    have hst := NW.step HL.out hbw HK2.out (by rw [HH1.out]; omega) HB0.out hown3 hgr3 (by rw [HH1.out]; exact hat)
    clear hown3 hgr3 hat hlt3 hcz hfz x3 hbf hmkS
    go_wp2_with fail
    exact ⟨⟨t + 1, _, _, HT.out, by go_num, hst⟩, by have := HT.out; simp [intOf]; omega⟩
  ·have hte : t = nds.length := by omega
   have hnt : ¬ (t : Int) < (nds.length : Int) := by omega
   have hend := NW.tx HN.out hs (hte ▸ L) hbw HP.out.1 HP.out.2 HZ.out.1 HZ.out.2
   have hEn : ∀ x, E.ownBlock = some x → w.heap.size ≤ x := fun x hx => (L.ee x hx).1
   have hke := L.keep
   have hDn : ∀ x, x ∈ D → w.heap.size ≤ x := fun x hx => (L.inn x hx).1
   clear hte htl ht L
   go_wp2_with fail
   go_ret
   first | exact ⟨b, rfl, D, E, hend, hDn, hbw, hEn, hke⟩ | exact ⟨b, rfl, hbw, D, E, hend, hDn, hEn, hke⟩
end Go.Proofs.YtnfojonmohijpaaGreatDoor
namespace Go.Proofs.YtnfojonmohijpaaGreatDoor
open Go.RowKit
theorem wn_wl : ∀ {x : Pat}, shp x .ways → (wl x).length = x.wn
 | .wone x, _ => rfl
 | .wcons x r, h => by
  have h1 := wn_wl (x := r) h.2
  have h2 : (Pat.wcons x r).wn = r.wn + 1 := rfl
  rw [h2, ← h1]
  rfl
 | .pnil, h => h.elim
 | .pcons _ _, h => h.elim
 | .set _, h => h.elim
 | .grp _ _, h => h.elim
 | .rep _ _ _, h => h.elim
theorem thin_thn : ∀ {x : Pat} {kd : Kd}, shp x kd → x.thin → x.thn := by
 intro x
 induction x with
 | set f => intro _ _ _; trivial
 | grp k x ih =>
  intro kd hs ht
  have hx : shp x .ways := by cases kd <;> first | exact hs | exact hs.elim
  exact ih hx ht
 | rep mn mx x ih =>
  intro kd hs ht
  have hx : shp x .single := by cases kd <;> first | exact hs.2.2.2 | exact hs.elim
  exact ih hx ht
 | pnil => intro _ _ _; trivial
 | pcons x r ih1 ih2 =>
  intro kd hs ht
  have hx : shp x .piece ∧ shp r .way := by cases kd <;> first | exact hs | exact hs.elim
  exact ⟨ih1 hx.1 ht.1, ih2 hx.2 ht.2⟩
 | wone x ih =>
  intro kd hs ht
  have hx : shp x .way := by cases kd <;> first | exact hs | exact hs.elim
  exact ih hx ht
 | wcons x r ih1 ih2 =>
  intro kd hs ht
  have hx : shp x .way ∧ shp r .ways := by cases kd <;> first | exact hs | exact hs.elim
  exact ⟨by rw [← wn_wl hx.2]; exact ht.1, ih1 hx.1 ht.2.1, ih2 hx.2 ht.2.2⟩
theorem PatR.all {s : ByteArray} {W : Whole} {j : Nat} (hs : s.size ≤ 60) (h : PatR s (.ok W j)) : shp W.x .ways ∧ W.x.sz < 1000 ∧ W.x.fair W.g ∧ W.x.fair 9 ∧ W.x.thn ∧ W.g ≤ 9 ∧ W.x.dep ≤ 7 := by
 obtain ⟨g1, g2, g3⟩ := h.good hs
 obtain ⟨qw, hG, hqe⟩ := h
 cases qw with
 | bad l => cases hqe
 | ok xg l =>
  obtain ⟨x, g⟩ := xg
  have hwi : wi s ≤ s.size := by
   unfold wi
   by_cases h : at' s 0 = 94
   ·rw [if_pos h]; exact at'_nn (by omega)
   ·rw [if_neg h]; exact Nat.zero_le _
  have h1 := hG.shp x g l rfl
  have h2 := endOf_le hG hwi
  obtain ⟨_, f2, f3, f4⟩ := hG.fair (by omega) (by omega) x g l rfl
  rw [PatE_ok] at hqe
  by_cases hc : 0 ≤ at' s (if at' s l = 36 then l + 1 else l)
  ·rw [if_pos hc] at hqe; cases hqe
  ·rw [if_neg hc] at hqe
   cases hqe
   simp only [szL, szR, endOf, depM] at h1 h2 f4
   exact ⟨h1.1, by show x.sz < 1000; omega, f3, g1, thin_thn h1.1 g2, g3, by show x.dep ≤ 7; omega⟩
end Go.Proofs.YtnfojonmohijpaaGreatDoor
namespace Go.Proofs.YtnfojonmohijpaaGreatDoor
open Go.RowKit
def IS (w : World) (lo : Nat) (v : Value) : Option (List Int) → Prop
 | none => v = .slice none 0 0
 | some l => w.ownsRow lo 3 1 v l.length (spV l)
structure KP (nds : List Nd) (p : PS) (W : Whole) : Prop where
 shp : shp W.x .ways
 sz : W.x.sz < 1000
 fair : W.x.fair W.g
 fair9 : W.x.fair 9
 thn : W.x.thn
 g9 : W.g ≤ 9
 dep : W.x.dep ≤ 7
 bg : p.bg = W.bg
 en : p.en = W.en
 gr : p.gr = W.g
 rep : repK nds .ways W.x p.root
theorem KP.nk {nds : List Nd} {p : PS} {W : Whole} (h : KP nds p W) : NK nds 1000 p.root := ⟨.ways, W.x, h.rep, h.shp, h.sz, h.fair9, h.thn⟩
theorem KP.iff {nds : List Nd} {p : PS} {W : Whole} (h : KP nds p W) {s : ByteArray} {i j : Nat} : Mt s W.x i j ↔ MN s nds (.node p.root) i j := by
 obtain ⟨lw, hr1, hr2⟩ := h.rep
 rw [show Mt s W.x i j ↔ ∃ d, d ∈ lw ∧ MN s nds (.node d) i j from rep_Mt h.shp hr1]
 exact hr2.alt_iff
end Go.Proofs.YtnfojonmohijpaaGreatDoor
namespace Go.Proofs.YtnfojonmohijpaaGreatDoor
open Go.RowKit
structure Rec where
 b : Nat
 bp : Nat
 p : PS
 nds : List Nd
 D : List Nat
 E : Value
 W : Whole
def allD (l : List Rec) : List Nat := l.flatMap (·.D)
structure TXs (w0 w : World) (s : ByteArray) (rs : List Rul) (X : List Nat) (recs : List Rec) : Prop where
 each : ∀ (k : Nat) (r : Rec), recs[k]? = some r → ∃ Z, TX w r.b r.bp s r.p r.nds r.D r.E Z ∧ (∀ x, x ∈ Z → x < w.heap.size) ∧ (∀ x, x ∈ X → x ∈ Z) ∧ ∀ (j : Nat) (q : Rec), recs[j]? = some q → j ≠ k → ∀ x, x ∈ q.D → x ∈ Z
 fact : ∀ (k : Nat) (r : Rec), recs[k]? = some r → (∀ x, x ∈ r.D → w0.heap.size ≤ x) ∧ KP r.nds r.p r.W ∧ r.nds.length ≤ 1000 ∧ RlOk rs k r.W
variable {w0 w w' : World} {s : ByteArray} {rs : List Rul} {X : List Nat} {recs : List Rec}
theorem TXs.nil (w0 w : World) (s : ByteArray) (rs : List Rul) (X : List Nat) : TXs w0 w s rs X [] := ⟨fun k r h => by simp at h, fun k r h => by simp at h⟩
theorem TXs.keep (h : TXs w0 w s rs X recs) {S : List Nat} (hk : Keeps S w w') (hS : ∀ x, x ∈ S → x ∈ X ∨ w.heap.size ≤ x) : TXs w0 w' s rs X recs := by
 refine ⟨fun k r hr => ?_, h.fact⟩
 obtain ⟨Z, h1, h2, h3, h4⟩ := h.each k r hr
 exact ⟨Z, h1.keep hk fun x hx => (hS x hx).imp (h3 x) id, fun x hx => Nat.lt_of_lt_of_le (h2 x hx) hk.size, h3, h4⟩
theorem TXs.step (h : TXs w0 w s rs X recs) {S X' : List Nat} (hk : Keeps S w w') (hS : ∀ x, x ∈ S → x ∈ X ∨ w.heap.size ≤ x) (hX : ∀ x, x ∈ X' → (x ∈ X ∨ w.heap.size ≤ x) ∧ x < w'.heap.size) : TXs w0 w' s rs X' recs := by
 refine ⟨fun k r hr => ?_, h.fact⟩
 obtain ⟨Z, h1, h2, h3, h4⟩ := h.each k r hr
 refine ⟨X' ++ Z, (h1.less (Z' := X' ++ Z) ?_).keep hk ?_, ?_, fun x hx => List.mem_append_left _ hx, fun j q hq hj x hx => List.mem_append_right _ (h4 j q hq hj x hx)⟩
 ·intro x hx
  rcases List.mem_append.1 hx with hx | hx
  ·exact (hX x hx).1.imp (h3 x) id
  ·exact Or.inl hx
 ·intro x hx
  exact (hS x hx).imp (fun a => List.mem_append_right _ (h3 x a)) id
 ·intro x hx
  rcases List.mem_append.1 hx with hx | hx
  ·exact (hX x hx).2
  ·exact Nat.lt_of_lt_of_le (h2 x hx) hk.size
theorem TXs.dlt (h : TXs w0 w s rs X recs) : ∀ x, x ∈ allD recs → x < w.heap.size := by
 intro x hx
 obtain ⟨r, hr, hxr⟩ := List.mem_flatMap.1 hx
 obtain ⟨k, hk⟩ := List.getElem?_of_mem hr
 obtain ⟨Z, h1, _⟩ := h.each k r hk
 exact h1.dlt x hxr
theorem TXs.apart (h : TXs w0 w s rs X recs) {k : Nat} {r : Rec} (hr : recs[k]? = some r) : ∀ x, x ∈ X → x ∉ r.D := by
 obtain ⟨Z, h1, _, h3, _⟩ := h.each k r hr
 exact fun x hx hD => h1.dz x hD (h3 x hx)
theorem TXs.ends (h : TXs w0 w s rs X recs) {k : Nat} {r : Rec} {Z : List Nat} (hr : recs[k]? = some r) (hT : TX w' r.b r.bp s r.p r.nds r.D r.E Z) (h2 : ∀ x, x ∈ Z → x < w.heap.size) (h3 : ∀ x, x ∈ X → x ∈ Z) (h4 : ∀ (j : Nat) (q : Rec), recs[j]? = some q → j ≠ k → ∀ x, x ∈ q.D → x ∈ Z) (hk : Keeps r.D w w') : TXs w0 w' s rs X recs := by
 refine ⟨fun j q hq => ?_, h.fact⟩
 by_cases e : j = k
 ·subst e
  rw [hr] at hq
  cases hq
  exact ⟨Z, hT, fun x hx => Nat.lt_of_lt_of_le (h2 x hx) hk.size, h3, h4⟩
 ·obtain ⟨Z', k1, k2, k3, k4⟩ := h.each j q hq
  exact ⟨Z', k1.keep hk fun x hx => Or.inl (k4 k r hr (Ne.symm e) x hx), fun x hx => Nat.lt_of_lt_of_le (k2 x hx) hk.size, k3, k4⟩
theorem TXs.add (h : TXs w0 w s rs X recs) {r : Rec} (hT : TX w' r.b r.bp s r.p r.nds r.D r.E (X ++ allD recs)) (hX : ∀ x, x ∈ X → x < w.heap.size) (hD : ∀ x, x ∈ r.D → w.heap.size ≤ x) (hk : Keeps [] w w') (h0 : w0.heap.size ≤ w.heap.size) (hK : KP r.nds r.p r.W) (hl : r.nds.length ≤ 1000) (hok : RlOk rs recs.length r.W) : TXs w0 w' s rs X (recs ++ [r]) := by
 have hcase : ∀ {k : Nat} {q : Rec}, (recs ++ [r])[k]? = some q → (k < recs.length ∧ recs[k]? = some q) ∨ (k = recs.length ∧ q = r) := by
  intro k q hq
  by_cases hkl : k < recs.length
  ·rw [List.getElem?_append_left hkl] at hq
   exact Or.inl ⟨hkl, hq⟩
  ·have hkl' : k = recs.length := by
      have := (List.getElem?_eq_some_iff.1 hq).1
      simp at this
      omega
   subst hkl'
   rw [List.getElem?_append_right (Nat.le_refl _)] at hq
   simp at hq
   exact Or.inr ⟨rfl, hq.symm⟩
 refine ⟨fun k q hq => ?_, fun k q hq => ?_⟩
 ·rcases hcase hq with ⟨hkl, hq⟩ | ⟨rfl, rfl⟩
  ·obtain ⟨Z, h1, h2, h3, h4⟩ := h.each k q hq
   refine ⟨r.D ++ Z, (h1.less (Z' := r.D ++ Z) ?_).keep hk (by simp), ?_, fun x hx => List.mem_append_right _ (h3 x hx), ?_⟩
   ·intro x hx
    rcases List.mem_append.1 hx with hx | hx
    ·exact Or.inr (hD x hx)
    ·exact Or.inl hx
   ·intro x hx
    rcases List.mem_append.1 hx with hx | hx
    ·exact hT.dlt x hx
    ·exact Nat.lt_of_lt_of_le (h2 x hx) hk.size
   ·intro j q' hq' hj x hx
    rcases hcase hq' with ⟨_, hq'⟩ | ⟨_, rfl⟩
    ·exact List.mem_append_right _ (h4 j q' hq' hj x hx)
    ·exact List.mem_append_left _ hx
  ·refine ⟨X ++ allD recs, hT, ?_, fun x hx => List.mem_append_left _ hx, ?_⟩
   ·intro x hx
    refine Nat.lt_of_lt_of_le ?_ hk.size
    rcases List.mem_append.1 hx with hx | hx
    ·exact hX x hx
    ·exact h.dlt x hx
   ·intro j q' hq' hj x hx
    rcases hcase hq' with ⟨_, hq'⟩ | ⟨e, _⟩
    ·exact List.mem_append_right _ (List.mem_flatMap.2 ⟨q', List.mem_of_getElem? hq', hx⟩)
    ·exact absurd e hj
 ·rcases hcase hq with ⟨_, hq⟩ | ⟨rfl, rfl⟩
  ·exact h.fact k q hq
  ·exact ⟨fun x hx => Nat.le_trans h0 (hD x hx), hK, hl, hok⟩
def TsR (w : World) (v : Value) (recs : List Rec) : Prop := w.ownsRow 0 96 1 v recs.length (recs.map fun r => .pointer (some ⟨r.b, 0, none⟩))
def TkLp (w wr : World) (s : ByteArray) (rs : List Rul) (v : Value) (i : Nat) : Prop :=
 ∃ Ws : List Whole, Ws.length = i ∧ (∀ (k : Nat) (W : Whole), Ws[k]? = some W → RlOk rs k W) ∧ Keeps [] w wr ∧ ((100 < s.size ∧ v = .slice none 0 0) ∨ (s.size ≤ 100 ∧ ∃ recs : List Rec, recs.map (·.W) = Ws ∧ TsR wr v recs ∧ (∀ g, v.ownBlock = some g → w.heap.size ≤ g) ∧ TXs w wr s rs v.ownBlock.toList recs))
theorem TkLp.zero (w : World) (s : ByteArray) (rs : List Rul) : TkLp w w s rs (.slice none 0 0) 0 := by
 refine ⟨[], rfl, fun k W h => by simp at h, Keeps.refl _ _, ?_⟩
 by_cases h : 100 < s.size
 ·exact Or.inl ⟨h, rfl⟩
 ·exact Or.inr ⟨by omega, [], rfl, ⟨rfl, .inl ⟨rfl, rfl⟩⟩, (fun g h => by cases h), TXs.nil _ _ _ _ _⟩
theorem TkLp.sl {w wr : World} {s : ByteArray} {rs : List Rul} {v : Value} {i : Nat} (h : TkLp w wr s rs v i) : IsSl v := by
 obtain ⟨_, _, _, _, ⟨_, rfl⟩ | ⟨_, recs, _, h, _⟩⟩ := h
 ·exact ⟨_, _, _, rfl⟩
 ·exact ownsRow_sl h
theorem TkLp.keeps {w wr : World} {s : ByteArray} {rs : List Rul} {v : Value} {i : Nat} (h : TkLp w wr s rs v i) : Keeps [] w wr := by
 obtain ⟨_, _, _, h, _⟩ := h
 exact h
theorem TkLp.oks {w wr : World} {s : ByteArray} {rs : List Rul} {v : Value} {i : Nat} (h : TkLp w wr s rs v i) : ∀ k, k < i → ∃ W, RlOk rs k W := by
 obtain ⟨Ws, rfl, h, _, _⟩ := h
 exact fun k hk => ⟨_, h k _ (List.getElem?_eq_getElem hk)⟩
theorem TkLp.bad {w wr : World} {s : ByteArray} {rs : List Rul} {v : Value} {i : Nat} {n : Int} (h : TkLp w wr s rs v i) (h1 : 1 ≤ rs.length) (h8 : rs.length ≤ 8) (hb : RlBad rs i n) (hn : n ≠ 0) : TokA rs s [] 0 n :=
 ⟨[], n, Or.inr ⟨h1, h8, Or.inl ⟨i, h.oks, hb, rfl, hn⟩⟩, Or.inl ⟨hn, rfl, rfl, rfl⟩⟩
theorem TkLp.long {w wr w' : World} {s : ByteArray} {rs : List Rul} {v : Value} {i : Nat} {W : Whole} (h : TkLp w wr s rs v i) (hs : 100 < s.size) (hk : Keeps [] wr w') (hW : RlOk rs i W) : TkLp w w' s rs v (i + 1) := by
 obtain ⟨Ws, rfl, h1, h2, ⟨_, h3⟩ | ⟨h3, _⟩⟩ := h
 ·refine ⟨Ws ++ [W], by simp, fun k V hV => ?_, h2.trans hk, Or.inl ⟨hs, h3⟩⟩
  by_cases hkl : k < Ws.length
  ·rw [List.getElem?_append_left hkl] at hV
   exact h1 k V hV
  ·have : k = Ws.length := by
      have := (List.getElem?_eq_some_iff.1 hV).1
      simp at this
      omega
   subst this
   rw [List.getElem?_append_right (Nat.le_refl _)] at hV
   simp at hV
   subst hV
   exact hW
 ·omega
end Go.Proofs.YtnfojonmohijpaaGreatDoor
