/-
  DERIVED. The program's restsOf: what the times that are left can match. Conditions: the text is at most 100 bytes long, the numbers are within their bounds.
-/
import Derived.Test.YtnfojonmohijpaaGreatDoorJPW
import Derived.Deep.CutRange
import Derived.Lib.Strings
import Derived.Lib.Slices
import Derived.Lib.Walk
import Derived.Lib.Builder
import Derived.Lib.AppendStr
import Derived.Lib.UnsafeStr
import Derived.Laws.Externs
import Derived.Lib.OthersKept
import Derived.Lib.FrozenHead
import Derived.Test.YtnfojonmohijpaaGreatDoorJSpec
import Derived.Test.YtnfojonmohijpaaGreatDoorJNA
import Derived.Test.YtnfojonmohijpaaGreatDoorJRU
set_option linter.unusedSimpArgs false
set_option linter.unusedVariables false
namespace Go.Proofs.YtnfojonmohijpaaGreatDoor
open Go.RowKit
def RR (w : World) (S : Nat → Prop) (N M : Nat) (v : Value) (F : Nat → Nat → Nat → Prop) : Prop :=
 ∃ g c vs, v = .slice (some ⟨g, 0, none⟩) M c ∧ w.ownsRow 0 76 1 (.slice (some ⟨g, 0, none⟩) M c) M vs ∧ S g ∧ ∀ d, d < M → ∃ u, vs[d]? = some u ∧ MP w S N u (F d)
theorem RR.keep {w w' : World} {S : Nat → Prop} {L : List Nat} {N M : Nat} {v : Value} {F : Nat → Nat → Nat → Prop} (h : RR w S N M v F) (hk : Keeps L w w') (hs : ∀ g, S g → g ∉ L) : RR w' S N M v F := by
 obtain ⟨g, c, vs, e, ho, hg, hr⟩ := h
 refine ⟨g, c, vs, e, ho.keep hk (fun x hx => by simp only [Value.ownBlock, Option.some.injEq] at hx; subst hx; exact hs _ hg), hg, fun d hd => ?_⟩
 obtain ⟨u, a, b⟩ := hr d hd
 exact ⟨u, a, b.keep hk hs⟩
theorem RR.mono {w : World} {S S' : Nat → Prop} {N M : Nat} {v : Value} {F : Nat → Nat → Nat → Prop} (h : RR w S N M v F) (hs : ∀ g, S g → g < w.heap.size → S' g) : RR w S' N M v F := by
 obtain ⟨g, c, vs, e, ho, hg, hr⟩ := h
 refine ⟨g, c, vs, e, ho, hs g hg (World.ownsRow.lt ho g rfl).2, fun d hd => ?_⟩
 obtain ⟨u, a, b⟩ := hr d hd
 exact ⟨u, a, b.mono hs⟩
theorem RR.at {w : World} {S : Nat → Prop} {N M : Nat} {v : Value} {F : Nat → Nat → Nat → Prop} (h : RR w S N M v F) {d : Nat} (hd : d < M) : ∃ g c u, v = .slice (some ⟨g, 0, none⟩) M c ∧ g < w.heap.size ∧ S g ∧ w.cell? ⟨g, d, none⟩ = some u ∧ MP w S N u (F d) := by
 obtain ⟨g, c, vs, e, ho, hg, hr⟩ := h
 obtain ⟨u, a, b⟩ := hr d hd
 exact ⟨g, c, u, e, (World.ownsRow.lt ho g rfl).2, hg, (World.ownsRow.cellAt ho d (by omega)).trans a, b⟩
theorem infoMap : (Tryz.prog.info? 76).map (fun i => (i.zero, i.size, i.bytes)) = some (some (.slice none 0 0), 1, 24) := by kernel_rfl
structure FL (w wr : World) (g N M : Nat) (F : Nat → Nat → Nat → Prop) (d : Nat) : Prop where
 own : ∃ vs, wr.ownsRow 0 76 1 (.slice (some ⟨g, 0, none⟩) M M) M vs ∧ ∀ e, d ≤ e → e < M → ∃ u, vs[e]? = some u ∧ MP wr (fun x => w.heap.size ≤ x ∧ x ≠ g) N u (F e)
 keep : Keeps [] w wr
 low : w.heap.size ≤ g
theorem FL.glt {w wr : World} {g N M d : Nat} {F : Nat → Nat → Nat → Prop} (h : FL w wr g N M F d) : g < wr.heap.size := by
 obtain ⟨vs, a, b⟩ := h.own
 exact (World.ownsRow.lt a g rfl).2
theorem FL.keeps {w wr w' : World} {g N M d : Nat} {F : Nat → Nat → Nat → Prop} (h : FL w wr g N M F d) (hk : Keeps [] wr w') : FL w w' g N M F d := by
 obtain ⟨vs, a, b⟩ := h.own
 exact ⟨⟨vs, a.keep hk (by simp), fun e h1 h2 => by
   obtain ⟨u, x, y⟩ := b e h1 h2
   exact ⟨u, x, y.keep hk (by simp)⟩⟩, h.keep.trans hk, h.low⟩
theorem FL.cell {w wr : World} {g N M d : Nat} {F : Nat → Nat → Nat → Prop} (h : FL w wr g N M F d) {e : Nat} (he : e < M) : (∃ u, wr.cell? ⟨g, e, none⟩ = some u) ∧ wr.frozen? ⟨g, e, none⟩ = false := by
 obtain ⟨vs, a, b⟩ := h.own
 have hl : vs.length = M := by have := a.1; omega
 refine ⟨⟨vs[e]'(by omega), ?_⟩, World.ownsRow.frozenAt a e⟩
 rw [World.ownsRow.cellAt a e (by omega), List.getElem?_eq_getElem]
theorem FL.at {w wr : World} {g N M d : Nat} {F : Nat → Nat → Nat → Prop} (h : FL w wr g N M F d) {e : Nat} (hd : d ≤ e) (he : e < M) : ∃ u, wr.cell? ⟨g, e, none⟩ = some u ∧ MP wr (fun x => w.heap.size ≤ x ∧ x ≠ g) N u (F e) := by
 obtain ⟨vs, a, b⟩ := h.own
 obtain ⟨u, x, y⟩ := b e hd he
 exact ⟨u, (World.ownsRow.cellAt a e (by omega)).trans x, y⟩
theorem FL.put {w wr : World} {g N M d : Nat} {F : Nat → Nat → Nat → Prop} (h : FL w wr g N M F (d + 1)) (hd : d < M) {u : Value} {S : Nat → Prop} (hu : MP wr S N u (F d)) (hs : ∀ x, S x → w.heap.size ≤ x ∧ x ≠ g) : FL w (wr.setCell ⟨g, d, none⟩ u) g N M F d := by
 obtain ⟨vs, a, b⟩ := h.own
 have hl : vs.length = M := by have := a.1; omega
 have hk : Keeps [g] wr (wr.setCell ⟨g, d, none⟩ u) := (Keeps.refl [g] wr).setCell (p := ⟨g, d, none⟩) (by simp) _
 refine ⟨⟨vs.set d u, (World.ownsRow.stored a d u).1, fun e h1 h2 => ?_⟩, keepsM h.keep hk (by intro x hx; simp at hx; subst hx; exact Or.inr h.low), h.low⟩
 by_cases e1 : e = d
 ·subst e1
  exact ⟨u, by rw [List.getElem?_set_self (by omega)], (hu.mono (S' := fun x => w.heap.size ≤ x ∧ x ≠ g) fun x hx _ => hs x hx).keep hk (by intro x hx; simp; exact hx.2)⟩
 ·obtain ⟨v, x, y⟩ := b e (by omega) h2
  exact ⟨v, by rw [List.getElem?_set_ne (by omega)]; exact x, y.keep hk (by intro x hx; simp; exact hx.2)⟩
theorem FL.any {w wr : World} {g N M d : Nat} {F : Nat → Nat → Nat → Prop} (h : FL w wr g N M F (d + 1)) (u : Value) : FL w (wr.setCell ⟨g, d, none⟩ u) g N M F (d + 1) := by
 obtain ⟨vs, a, b⟩ := h.own
 have hk : Keeps [g] wr (wr.setCell ⟨g, d, none⟩ u) := (Keeps.refl [g] wr).setCell (p := ⟨g, d, none⟩) (by simp) _
 refine ⟨⟨vs.set d u, (World.ownsRow.stored a d u).1, fun e h1 h2 => ?_⟩, keepsM h.keep hk (by intro x hx; simp at hx; subst hx; exact Or.inr h.low), h.low⟩
 obtain ⟨v, x, y⟩ := b e (by omega) h2
 exact ⟨v, by rw [List.getElem?_set_ne (by omega)]; exact x, y.keep hk (by intro x hx; simp; exact hx.2)⟩
theorem FL.done {w wr : World} {g N M : Nat} {F : Nat → Nat → Nat → Prop} (h : FL w wr g N M F 0) : RR wr (fun x => w.heap.size ≤ x) N M (.slice (some ⟨g, 0, none⟩) M M) F := by
 obtain ⟨vs, a, b⟩ := h.own
 refine ⟨g, M, vs, rfl, a, h.low, fun d hd => ?_⟩
 obtain ⟨u, x, y⟩ := b d (by omega) hd
 exact ⟨u, x, y.mono fun z hz _ => hz.1⟩
end Go.Proofs.YtnfojonmohijpaaGreatDoor
namespace Go.Proofs.YtnfojonmohijpaaGreatDoor
open Go.RowKit
def steps (mn : Nat) (mx : Int) : Nat := if mx < 0 then mn else mx.toNat
theorem Left.last {R : Nat → Nat → Prop} {mn : Nat} {mx : Int} (hf : mx < 0 ∨ (mn : Int) ≤ mx) (hx : -1 ≤ mx) (i j : Nat) : Left R mn mx (steps mn mx) i j ↔ if mx < 0 then Tm R 0 (-1) i j else i = j := by
 unfold steps Left
 by_cases h : mx < 0
 ·rw [if_pos h, if_pos h, lessN_any mx h]
  have : mx = -1 := by omega
  subst this
  rw [Nat.sub_self]
 ·rw [if_neg h, if_neg h]
  obtain ⟨m, rfl⟩ : ∃ m : Nat, mx = m := ⟨mx.toNat, by omega⟩
  rw [lessN_some, Int.toNat_natCast, Nat.sub_self, show mn - m = 0 by omega]
  exact Tm.none
theorem repBlock {w w' : World} {g : Nat} {mn : Nat} {mx : Int} {L : List Nat} (h : w.heap[g]? = some (.cells #[.bool true, .int .i64 mn, .int .i64 mx] 210 (0, 0))) (hk : Keeps L w w') (hg : g ∉ L) : w'.heap[g]? = some (.cells #[.bool true, .int .i64 mn, .int .i64 mx] 210 (0, 0)) :=
 (hk.block g (Array.getElem?_eq_some_iff.1 h).1 hg).trans h
theorem repCells {w : World} {g : Nat} {mn : Nat} {mx : Int} (h : w.heap[g]? = some (.cells #[.bool true, .int .i64 mn, .int .i64 mx] 210 (0, 0))) : w.cell? ⟨g, 1, none⟩ = some (.int .i64 mn) ∧ w.cell? ⟨g, 2, none⟩ = some (.int .i64 mx) := by
 simp [World.cell?, h]
set_option maxRecDepth 100000 in
set_option maxHeartbeats 2000000 in
theorem restsOf_any (n N : Nat) (HN : Hid (N = n + 1)) (hn : n ≤ 100) (mn : Nat) (mx : Int) (hmn : mn ≤ 5) (hmx : -1 ≤ mx) (hmx5 : mx ≤ 5) (hf : mx < 0 ∨ (mn : Int) ≤ mx) (K M : Nat) (HK : Hid (K = steps mn mx)) (HM : Hid (M = K + 1))
    {S : Nat → Prop} (g1 c1 : Nat) {R : Nat → Nat → Prop} (hle : ∀ i j, R i j → i ≤ j) (hin : ∀ i j, R i j → i < N → j < N) (w : World) (h1 : MP w S N (.slice (some ⟨g1, 0, none⟩) N c1) R) :
    Calls Tryz.prog 213 #[.agg #[.bool true, .int .i64 mn, .int .i64 mx], .slice (some ⟨g1, 0, none⟩) N c1] w fun e w' => ∃ g, e = .returned (.slice (some ⟨g, 0, none⟩) M M) ∧ RR w' (fun g => w.heap.size ≤ g) N M (.slice (some ⟨g, 0, none⟩) M M) (Left R mn mx) ∧ Keeps [] w w' := by
 have hNm : (N : Int) ≤ 101 := by have := HN.out; omega
 have hN1 : (1 : Int) ≤ (N : Int) := by have := HN.out; omega
 have hsub : (N : Int) - 1 = (n : Int) := by have := HN.out; omega
 have hnn : (n : Int) ≤ 100 := by omega
 have hK5 : K ≤ 5 := by
  have := HK.out
  unfold steps at this
  split at this <;> omega
 have hz0 : (w.alloc (.cells #[.bool true, .int .i64 mn, .int .i64 mx] 210)).heap[w.heap.size]? = some (.cells #[.bool true, .int .i64 mn, .int .i64 mx] 210 (0, 0)) := heap_alloc_new w _
 have hk0 : Keeps [] w (w.alloc (.cells #[.bool true, .int .i64 mn, .int .i64 mx] 210)) := (Keeps.refl [] w).alloc _
 go_enter Tryz.func213, Tryz.ntmps213
 go_wp2_with fail
 generalize w.alloc (.cells #[.bool true, .int .i64 mn, .int .i64 mx] 210) = W at *
 obtain ⟨g0, hg0⟩ : ∃ g0, g0 = w.heap.size := ⟨_, rfl⟩
 rw [← hg0] at hz0 ⊢
 have hW := h1.keep hk0 (by simp)
 have hw0 := hk0.size
 have hg0w : g0 < W.heap.size := (Array.getElem?_eq_some_iff.1 hz0).1
 clear hg0 h1
 refine (empty_mp n N HN hn W).mono ?_
 rintro e w1 ⟨vn, rfl, hN0, hk1⟩
 obtain ⟨gn, cn, fn, rfl, _⟩ := id hN0
 have hz1 := repBlock hz0 hk1 (by simp)
 have hW1 := hW.keep hk1 (by simp)
 obtain ⟨ca, cb⟩ := repCells hz1
 go_upto_if 19 with (fail)
 go_cut [6, 7] from 17 to 23 (fun q6 q7 wx => ∃ gl cl, q6 = .int .i64 K ∧ q7 = .slice (some ⟨gl, 0, none⟩) N cl ∧ MP wx (fun x => W.heap.size ≤ x) N (.slice (some ⟨gl, 0, none⟩) N cl) (Left R mn mx K) ∧ Keeps [] w1 wx)
 case first =>
  by_cases hx : mx < 0
  ·have hx1 : mx = -1 := by omega
   have HL : Hid (∀ i j, Left R mn mx K i j ↔ Tm R 0 (-1) i j) := fun i j => by
    rw [HK.out, Left.last hf hmx, if_pos hx]
   have HKn : Hid (K = mn) := by
    have := HK.out
    unfold steps at this
    rw [if_pos hx] at this
    exact this
   subst hx1
   have hC := star_mp N n HN hn hle hin w1.drew (hW1.keep ((Keeps.refl [] w1).drewN 1) (by simp))
   clear hx hmx hmx5 hf
   go_wp2_with fail
   go_region_with (first | (go_at_call 255; refine hC.mono ?_; rintro e w2 ⟨vl, rfl, hL, hk2⟩; obtain ⟨gl, cl, fl, rfl, _⟩ := id hL; have hz2 := repCells (repBlock hz1 (((Keeps.refl [] w1).drewN 1).trans hk2) (by simp)); obtain ⟨cx, cy⟩ := hz2))
   all_goals
    have hL2 : MP w2 (fun x => W.heap.size ≤ x) N (.slice (some ⟨gl, 0, none⟩) N cl) (Left R mn (-1) K) := (hL.mono (S' := fun x => W.heap.size ≤ x) fun x hx _ => by have := hk1.size; simp at hx; omega).congr fun i j _ _ => (HL.out i j).symm
    have hk3 : Keeps [] w1 w2 := ((Keeps.refl [] w1).drewN 1).trans hk2
    have HKm : Hid (Value.int .i64 (mn : Int) = .int .i64 (K : Int)) := by show Value.int .i64 (mn : Int) = .int .i64 (K : Int); rw [HKn.out]
    clear hL hk2 hC hW hW1 hz0 hz1 hN0
    go_wp2_with fail
    go_meet
    case rel => exact ⟨gl, cl, HKm.out, rfl, hL2, hk3⟩
  ·have HL : Hid (∀ i j, Left R mn mx K i j ↔ i = j) := fun i j => by
      rw [HK.out, Left.last hf hmx, if_neg hx]
   have HKm : Hid (Value.int .i64 mx = .int .i64 (K : Int)) := by
    show Value.int .i64 mx = .int .i64 (K : Int)
    have := HK.out
    unfold steps at this
    rw [if_neg hx] at this
    congr
    omega
   have hx1 : (mx == -1) = false := by simp; omega
   have hL2 : MP w1 (fun x => W.heap.size ≤ x) N (.slice (some ⟨gn, 0, none⟩) N cn) (Left R mn mx K) := hN0.congr fun i j _ _ => (HL.out i j).symm
   go_wp2_with fail
   go_meet
   case rel => exact ⟨gn, cn, HKm.out, rfl, hL2, Keeps.refl _ _⟩
 case rest =>
  obtain ⟨gl, cl, rfl, rfl, hL, hkx⟩ := hcut
  obtain ⟨w2, hw2⟩ : ∃ w2 : World, w2 = wc := ⟨_, rfl⟩
  subst hw2
  have hz2 := repBlock hz1 hkx (by simp)
  have hW2 := hW1.keep hkx (by simp)
  have hN2 := hN0.keep hkx (by simp)
  have hkA := hk1.trans hkx
  obtain ⟨i0, hi0, hy0, hy1, hy2⟩ := info_parts infoMap
  have hun := Tryz.underlying220
  have hadd : (K : Int) + 1 ≤ 9223372036854775807 := by omega
  clear ca cb hW1 hN0 hk1 hkx hz0 hz1
  go_wp2_with (first | (refine wpList_make_full w2 rfl _ _ 220 rfl 0 76 i0 (.slice none 0 0) 1 hun hi0 hy0 hy1 .i64 .i64 ((K : Int) + 1) ((K : Int) + 1) M rfl rfl (by have := HM.out; omega) (by have := HM.out; omega) (by have := HM.out; rw [hy2]; omega) (by have := HM.out; unfold maxLen; omega) (Nat.zero_le _) ?_))
  intro w3 hown hgr
  have hk3 : Keeps [] w2 w3 := Keeps.ofGrownNone hgr
  have hz3 := repBlock hz2 hk3 (by simp)
  have hW3 := hW2.keep hk3 (by simp)
  obtain ⟨g, hg⟩ : ∃ g, g = w2.heap.size := ⟨_, rfl⟩
  rw [← hg] at hown ⊢
  have hgW : W.heap.size ≤ g := by have := hkA.size; omega
  have hN3 : MP w3 (fun x => W.heap.size ≤ x ∧ x ≠ g) N (.slice (some ⟨gn, 0, none⟩) N cn) (fun i j => i = j) := (hN2.mono (S' := fun x => W.heap.size ≤ x ∧ x ≠ g) fun x hx hy => ⟨hx, by omega⟩).keep hk3 (by simp)
  have hL3 : MP w3 (fun x => W.heap.size ≤ x ∧ x ≠ g) N (.slice (some ⟨gl, 0, none⟩) N cl) (Left R mn mx K) := (hL.mono (S' := fun x => W.heap.size ≤ x ∧ x ≠ g) fun x hx hy => ⟨hx, by omega⟩).keep hk3 (by simp)
  have F0 : FL W w3 g N M (Left R mn mx) (K + 1) := ⟨⟨_, hown, fun e h1 h2 => by have := HM.out; omega⟩, hkA.trans hk3, hgW⟩
  obtain ⟨⟨u0, hc0⟩, hf0⟩ := F0.cell (e := K) (by have := HM.out; omega)
  have F1 := F0.put (by have := HM.out; omega) hL3 (fun x hx => hx)
  have hkp : Keeps [g] w3 (w3.setCell ⟨g, K, none⟩ (.slice (some ⟨gl, 0, none⟩) N cl)) := (Keeps.refl [g] w3).setCell (p := ⟨g, K, none⟩) (by simp) _
  have hz4 := repBlock hz3 hkp (by simp; omega)
  have hN4 := hN3.keep hkp (by intro x hx; simp; exact hx.2)
  have hKi0 : (0 : Int) ≤ (K : Int) := by omega
  have hKi1 : (K : Int) < (M : Int) := by have := HM.out; omega
  have hM6 : (M : Int) ≤ 6 := by have := HM.out; omega
  clear hown hgr hk3 hkA hN2 hL hL3 hN3 F0 hz2 hz3 hg hW2 hW3
  go_wp2_with fail
  generalize w3.setCell ⟨g, K, none⟩ (.slice (some ⟨gl, 0, none⟩) N cl) = w4 at *
  clear hc0 hf0 hkp
  go_loopw [9] (fun q wr => ∃ d : Nat, d ≤ K ∧ q = .int .i64 ((d : Int) - 1) ∧ FL W wr g N M (Left R mn mx) d ∧ MP wr (fun x => W.heap.size ≤ x ∧ x ≠ g) N (.slice (some ⟨gn, 0, none⟩) N cn) (fun i j => i = j) ∧ wr.heap[g0]? = some (.cells #[.bool true, .int .i64 mn, .int .i64 mx] 210 (0, 0))) (fun q _ => (intOf q + 1).toNat)
  case atStart => exact ⟨K, Nat.le_refl _, rfl, F1, hN4, hz4⟩
  case round =>
   clear F1 hN4 hz4
   obtain ⟨d, hd, rfl, hF, hNn, hz⟩ := hrel
   cases d with
   | zero =>
    have e : (((0 : Nat) : Int) - 1) = -1 := by omega
    rw [e]
    have hend := hF.done.mono (S' := fun x => w.heap.size ≤ x) fun x hx _ => by omega
    have hkE := hk0.trans hF.keep
    go_wp2_with fail
    go_ret
    exact ⟨g, rfl, hend, hkE⟩
   | succ d =>
    have e : (((d + 1 : Nat) : Int) - 1) = (d : Int) := by omega
    rw [e]
    clear e
    obtain ⟨c, HC⟩ : ∃ c, Hid (c = d + 1) := ⟨_, rfl⟩
    have hdc : (d : Int) + 1 = (c : Int) := by have := HC.out; omega
    have hFc : FL W wr g N M (Left R mn mx) c := by have := HC.out; rw [this]; exact hF
    obtain ⟨u, hcu, hu⟩ := hFc.at (e := c) (Nat.le_refl _) (by have := HM.out; have := HC.out; omega)
    obtain ⟨gu, cu, fu, rfl, _⟩ := id hu
    obtain ⟨⟨u0, hc0⟩, hf0⟩ := hFc.cell (e := d) (by have := HM.out; omega)
    have hd0 : (0 : Int) ≤ (d : Int) := by omega
    have hd1 : (d : Int) < (M : Int) := by have := HM.out; omega
    have hd2 : (0 : Int) ≤ (c : Int) := by omega
    have hd3 : (c : Int) < (M : Int) := by have := HM.out; omega
    have HD : Hid (d + 1 ≤ K) := hd
    have hWr := hW.keep hFc.keep (by simp)
    have hC := then_mp N (by omega) hle hin wr hWr hu
    clear hd hF
    go_wp2_with fail
    refine hC.mono ?_
    rintro e w5 ⟨vt, rfl, hT, hk5⟩
    obtain ⟨gt, ct, ft, rfl, _⟩ := id hT
    have hF5 := hFc.keeps hk5
    have hF5' : FL W w5 g N M (Left R mn mx) (d + 1) := by have := HC.out; rw [← this]; exact hF5
    have hdM : d < M := by have := HM.out; have := HD.out; omega
    obtain ⟨⟨u5, hc5⟩, hf5⟩ := hF5.cell hdM
    have hN5 := hNn.keep hk5 (by simp)
    have hz5 := repBlock hz hk5 (by simp)
    obtain ⟨ca, cb⟩ := repCells hz5
    have hgg := hFc.glt
    have hnew : ∀ x, wr.heap.size ≤ x → W.heap.size ≤ x ∧ x ≠ g := by intro x hx; have := hFc.keep.size; omega
    have hkp : ∀ u, Keeps [g] w5 (w5.setCell ⟨g, d, none⟩ u) := fun u => (Keeps.refl [g] w5).setCell (p := ⟨g, d, none⟩) (by simp) _
    have hstep := fun i j => Left.step (R := R) (mn := mn) (mx := mx) (d := d) (i := i) (j := j) (by
      have h1 := HK.out
      have h2 := HD.out
      unfold steps at h1
      split at h1 <;> omega)
    have HS : Hid (∀ i j, Left R mn mx d i j ↔ ((mn ≤ d ∧ i = j) ∨ ∃ m, R i m ∧ Left R mn mx (d + 1) m j)) := hstep
    have HT : Hid (MP w5 (fun x => wr.heap.size ≤ x) N (.slice (some ⟨gt, 0, none⟩) N ct) (fun i j => ∃ m, R i m ∧ Left R mn mx (d + 1) m j)) := by
     have := HC.out
     rw [this] at hT
     exact hT
    clear hT hC hu hcu hF5 hFc hk5 hstep hc0 hf0 hz hNn
    by_cases hle2 : mn ≤ d
    ·have hge : (mn : Int) ≤ (d : Int) := by omega
     have hT6 := (HT.out.mono (S' := fun x => W.heap.size ≤ x ∧ x ≠ g) fun x hx _ => hnew x hx).keep (hkp (.slice (some ⟨gt, 0, none⟩) N ct)) (by intro x hx; simp; exact hx.2)
     have hF6 := hF5'.any (.slice (some ⟨gt, 0, none⟩) N ct)
     have hN6 := hN5.keep (hkp (.slice (some ⟨gt, 0, none⟩) N ct)) (by intro x hx; simp; exact hx.2)
     have hz6 := repBlock hz5 (hkp (.slice (some ⟨gt, 0, none⟩) N ct)) (by simp; omega)
     obtain ⟨cx, cy⟩ := repCells hz6
     have hc6 : (w5.setCell ⟨g, d, none⟩ (.slice (some ⟨gt, 0, none⟩) N ct)).cell? ⟨g, d, none⟩ = some (.slice (some ⟨gt, 0, none⟩) N ct) := World.cell?_setCell_same _ _ _ hc5
     have hkw : Keeps [] wr wr := Keeps.refl _ _
     have HG : Hid (mn ≤ d) := hle2
     clear hF5' hN5 hz5 ca cb hkp HT hle2
     go_upto_if 50 with (fail)
     generalize w5.setCell ⟨g, d, none⟩ (.slice (some ⟨gt, 0, none⟩) N ct) = w6 at *
     have hC := or_mp N (by omega) w6 hT6 hN6
     go_wp2_with fail
     refine hC.mono ?_
     rintro e w7 ⟨vo, rfl, hO, hk7⟩
     obtain ⟨go, co, fo, rfl, _⟩ := id hO
     have hF7 := hF6.keeps hk7
     obtain ⟨⟨u7, hc7⟩, hf7⟩ := hF7.cell hdM
     have hnew7 : ∀ x, w6.heap.size ≤ x → W.heap.size ≤ x ∧ x ≠ g := by intro x hx; have h1 := hF6.keep.size; have h2 := hF6.glt; omega
     have hkp : Keeps [g] w7 (w7.setCell ⟨g, d, none⟩ (.slice (some ⟨go, 0, none⟩) N co)) := (Keeps.refl [g] w7).setCell (p := ⟨g, d, none⟩) (by simp) _
     have hF8 := hF7.put hdM (u := .slice (some ⟨go, 0, none⟩) N co) (hO.congr fun i j _ _ => by
       rw [HS.out]
       constructor
       · rintro (h | h)
         · exact Or.inr h
         · exact Or.inl ⟨HG.out, h⟩
       · rintro (⟨_, h⟩ | h)
         · exact Or.inr h
         · exact Or.inl h) hnew7
     have hN8 := (hN6.keep hk7 (by simp)).keep hkp (by intro x hx; simp; exact hx.2)
     have hz8 := repBlock (repBlock hz6 hk7 (by simp)) hkp (by simp; omega)
     clear hC hO hk7 hF6 hF7 hN6 hz6 hT6 hkp
     go_wp2_with fail
     go_roundw
     case rel => exact ⟨d, by have := HD.out; omega, by go_num, hF8, hN8, hz8⟩
     case measure => simp [intOf]
    ·have hlt : ¬ (mn : Int) ≤ (d : Int) := by omega
     have hF6 := hF5'.put hdM (u := .slice (some ⟨gt, 0, none⟩) N ct) (HT.out.congr fun i j _ _ => by
       rw [HS.out]
       constructor
       · exact Or.inr
       · rintro (⟨h, _⟩ | h)
         · omega
         · exact h) hnew
     have hN6 := hN5.keep (hkp (.slice (some ⟨gt, 0, none⟩) N ct)) (by intro x hx; simp; exact hx.2)
     have hz6 := repBlock hz5 (hkp (.slice (some ⟨gt, 0, none⟩) N ct)) (by simp; omega)
     obtain ⟨cx, cy⟩ := repCells hz6
     clear hF5' hN5 hz5 ca cb hkp HT
     go_wp2_with fail
     go_roundw
     case rel => exact ⟨d, by have := HD.out; omega, by go_num, hF6, hN6, hz6⟩
     case measure => simp [intOf]
end Go.Proofs.YtnfojonmohijpaaGreatDoor
namespace Go.Proofs.YtnfojonmohijpaaGreatDoor
open Go.RowKit
theorem Below.ofKeeps {B : Nat} {w w' : World} {S : List Nat} (h : Keeps S w w') (hB : B ≤ w.heap.size) (hs : ∀ g, g ∈ S → B ≤ g) : Below B w w' :=
 ⟨h.os, h.tape, h.output, h.size, fun k hk => h.block k (by omega) (fun hm => by have := hs k hm; omega)⟩
end Go.Proofs.YtnfojonmohijpaaGreatDoor
namespace Go.Proofs.YtnfojonmohijpaaGreatDoor
open Go.RowKit
theorem add_off (g off j : Nat) : (⟨g, off, none⟩ : Addr).add j = ⟨g, off + j, none⟩ := by unfold Addr.add; split <;> simp_all
theorem run_loadVar_at (w : World) (g off : Nat) (ty : TypeId) (cs : List Value) (d : TypeDesc) (hc : ∀ j v, cs[j]? = some v → w.cell? ⟨g, off + j, none⟩ = some v)
    (hu : Tryz.prog.underlying ty = some d) (hd : (match d with | .struct _ | .array _ _ => true | _ => false) = true) (hi : (Tryz.prog.info? ty).map (·.size) = some cs.length) :
    (loadVar ty ⟨g, off, none⟩).run Tryz.prog w = .ok (.agg cs.toArray) w := by
 have hl : (loadCells ⟨g, off, none⟩ cs.length).run Tryz.prog w = .ok cs.toArray w :=
  run_loadCells_list (P := Tryz.prog) w ⟨g, off, none⟩ cs (fun j v hv => by rw [add_off]; exact hc j v hv)
 cases hq : Tryz.prog.info? ty with
 | none => simp [hq] at hi
 | some i =>
  have hs : i.size = cs.length := by simpa [hq] using hi
  have hagg : (isAgg ty).run Tryz.prog w = .ok true w := by
   unfold isAgg
   rw [Sem.run_bind, run_underlying hu w]
   cases d <;> simp_all
  simp [loadVar, Sem.run_bind, hagg, sizeOf, typeInfo, hq, hs, hl]
theorem wpList_load_at {ops : Array Oper} {rest : List Oper} {o : Oper} {a : Act} {w : World} {Q : Exit → Act → World → Prop} (hgd : o.guard = none) (ty : TypeId) (x : Operand) (ho : o.op = .load ty x)
    (g off : Nat) (hx : a.eval x = .pointer (some ⟨g, off, none⟩)) (cs : List Value) (d : TypeDesc) (hc : ∀ j v, cs[j]? = some v → w.cell? ⟨g, off + j, none⟩ = some v)
    (hu : Tryz.prog.underlying ty = some d) (hd : (match d with | .struct _ | .array _ _ => true | _ => false) = true) (hi : (Tryz.prog.info? ty).map (·.size) = some cs.length)
    (h : wpList Tryz.prog ops Q rest (a.put o.dst (.agg cs.toArray)) w) : wpList Tryz.prog ops Q (o :: rest) a w := by
 refine wpList_plain hgd fun K hK => ?_
 unfold Oper.wp execOp
 simp only [ho, hx, Instr.loadAt, Instr.sureAddr, Sem.run_bind, Sem.run_pure, Result.andThen_ok, run_loadVar_at w g off ty cs d hc hu hd hi]
 exact hK _ _ h
def wl : Pat → List Pat
 | .wone x => [x]
 | .wcons x r => x :: wl r
 | _ => []
def pl : Pat → List Pat
 | .pcons x r => x :: pl r
 | _ => []
def tw : Nat → List Pat → List UInt8
 | _, [] => []
 | k, x :: r => (if 0 < k then [124] else []) ++ patT x ++ tw (k + 1) r
def tp (l : List Pat) : List UInt8 := l.flatMap patT
theorem Rep.wl_text {w : World} {S : Nat → Prop} {x : Pat} {vs : List Value} (h : Rep w S .wlist x vs) : (∀ k, tw k (wl x) = (if 0 < k then [124] else []) ++ patT x) ∧ (wl x).length = vs.length ∧ (∀ (i : Nat) (y : Pat), (wl x)[i]? = some y → ∃ u, vs[i]? = some u ∧ Rep w S .way y [u] ∧ y.sz < x.sz) := by
 generalize hk : Kr.wlist = kk at h
 induction h with
 | wone x v h1 _ =>
  refine ⟨fun k => by simp [wl, tw, patT], rfl, ?_⟩
  intro i y hy
  match i, hy with
  | 0, hy => simp [wl] at hy; subst hy; exact ⟨v, rfl, h1, by simp [Pat.sz]⟩
 | wcons x r v vs h1 _ _ ih =>
  obtain ⟨a, b, c⟩ := ih rfl
  refine ⟨fun k => by simp [wl, tw, patT, a (k + 1)], by simp [wl, b], ?_⟩
  intro i y hy
  match i, hy with
  | 0, hy => simp [wl] at hy; subst hy; exact ⟨v, rfl, h1, by simp [Pat.sz]; omega⟩
  | i + 1, hy =>
   obtain ⟨u, h2, h3, h4⟩ := c i y (by simpa [wl] using hy)
   exact ⟨u, by simpa using h2, h3, by simp [Pat.sz]; omega⟩
 | _ => cases hk
theorem Rep.pl_text {w : World} {S : Nat → Prop} {x : Pat} {cs : List Value} (h : Rep w S .plist x cs) : tp (pl x) = patT x ∧ cs.length = (pl x).length * 261 ∧ (∀ (i : Nat) (y : Pat), (pl x)[i]? = some y → ∃ ds, Rep w S .piece y ds ∧ (∀ (j : Nat) (u : Value), ds[j]? = some u → cs[i * 261 + j]? = some u) ∧ y.sz < x.sz) := by
 generalize hk : Kr.plist = kk at h
 induction h with
 | pnil => exact ⟨rfl, rfl, by intro i y hy; simp [pl] at hy⟩
 | pcons x r cs ds h1 _ _ ih =>
  obtain ⟨a, b, c⟩ := ih rfl
  have hl : cs.length = 261 := h1.cells.2
  refine ⟨by simp [pl, tp, patT] at a ⊢; exact a, by simp [pl, b, hl]; omega, ?_⟩
  intro i y hy
  match i, hy with
  | 0, hy =>
   simp [pl] at hy
   subst hy
   refine ⟨cs, h1, ?_, by simp [Pat.sz]; omega⟩
   intro j u hu
   have hj : j < cs.length := by
    rcases Nat.lt_or_ge j cs.length with h | h
    ·exact h
    ·rw [List.getElem?_eq_none h] at hu; cases hu
   rw [Nat.zero_mul, Nat.zero_add, List.getElem?_append_left hj]
   exact hu
  | i + 1, hy =>
   obtain ⟨es, h2, h3, h4⟩ := c i y (by simpa [pl] using hy)
   refine ⟨es, h2, ?_, by simp [Pat.sz]; omega⟩
   intro j u hu
   have := h3 j u hu
   rw [List.getElem?_append_right (by omega), hl]
   have e : (i + 1) * 261 + j - 261 = i * 261 + j := by omega
   rw [e]
   exact this
 | _ => cases hk
theorem sz_rep (x : Pat) (o : Option (Nat × Int)) : x.sz ≤ (withRep x o).sz := by
 cases o with
 | none => exact Nat.le_refl _
 | some p => obtain ⟨m, n⟩ := p; simp [withRep, Pat.sz]
theorem sz_pos (x : Pat) : 0 < x.sz := by cases x <;> simp [Pat.sz] <;> omega
end Go.Proofs.YtnfojonmohijpaaGreatDoor
namespace Go.Proofs.YtnfojonmohijpaaGreatDoor
open Go.RowKit
theorem sc_cells {w : World} {g : Nat} {k v : Value} {f : Nat → Bool} {T : TypeId} {fr : Nat × Nat} (h : w.heap[g]? = some (.cells (sc k v f).toArray T fr)) :
    w.cell? ⟨g, 0, none⟩ = some k ∧ w.cell? ⟨g, 1, none⟩ = some v ∧ ∀ j u, (hcells f).toList[j]? = some u → w.cell? ⟨g, 2 + j, none⟩ = some u := by
 refine ⟨by rw [Lib.cell_of_heap h]; rfl, by rw [Lib.cell_of_heap h]; rfl, ?_⟩
 intro j u hu
 rw [Lib.cell_of_heap h]
 have e : 2 + j = j + 1 + 1 := by omega
 rw [e]
 simpa [sc] using hu
end Go.Proofs.YtnfojonmohijpaaGreatDoor
namespace Go.Proofs.YtnfojonmohijpaaGreatDoor
def shp : Pat → Kd → Prop
 | .set _, .single => True
 | .set _, .piece => True
 | .grp _ x, .single => shp x .ways
 | .grp _ x, .piece => shp x .ways
 | .rep mn mx x, .piece => mn ≤ 5 ∧ -1 ≤ mx ∧ mx ≤ 5 ∧ shp x .single
 | .pnil, .way => True
 | .pcons x r, .way => shp x .piece ∧ shp r .way
 | .wone x, .ways => shp x .way
 | .wcons x r, .ways => shp x .way ∧ shp r .ways
 | _, _ => False
theorem shp_up {x : Pat} (h : shp x .single) : shp x .piece := by
 cases x <;> first | exact h | exact h.elim
theorem RepR.bd {s : ByteArray} {j k mn : Nat} {mx : Int} (h : RepR s j (.ok (Option.some (mn, mx)) k)) : mn ≤ 5 ∧ -1 ≤ mx ∧ mx ≤ 5 := by
 rcases h with ⟨_, _, _, _, e⟩ | ⟨_, e⟩ | ⟨_, e⟩ | ⟨_, e⟩ | ⟨_, q1, n, e⟩
 ·cases e
 ·cases e; omega
 ·cases e; omega
 ·cases e; omega
 ·cases q1 with
  | bad l => cases e
  | ok m l =>
   have hm := (n.ok m l rfl).2.2.1 (by omega)
   rcases e with ⟨_, _, e⟩ | ⟨_, _, q2, n', e⟩ | ⟨_, e⟩
   ·cases e; omega
   ·cases q2 with
    | bad x => cases e
    | ok y x =>
     have hy := (n'.ok y x rfl).2.2.1 (by omega)
     simp only [Rep3] at e
     by_cases h5 : at' s x = 125
     ·rw [if_pos h5] at e; cases e; omega
     ·rw [if_neg h5] at e; cases e
   ·by_cases h5 : at' s l = 125
    ·rw [if_pos h5] at e; cases e; omega
    ·rw [if_neg h5] at e; cases e
def szL : Kd → Nat
 | .single => 2
 | .piece => 2
 | _ => 0
def szR : Kd → Nat
 | .way => 1
 | .ways => 2
 | _ => 0
theorem G.shp {s : ByteArray} {k : Kd} {d g i : Nat} {q : R (Pat × Nat)} (h : G s k d g i q) : ∀ x g1 j, q = .ok (x, g1) j → shp x k ∧ x.sz + szL k ≤ 4 * (j - i) + szR k := by
 induction h with
 | one d g i g1 j x hg e ih => intro x' g1' j' e'; cases e'; have := ih x g1 j rfl; exact ⟨this.1, by simp only [Pat.sz, szL, szR] at this ⊢; omega⟩
 | more d g i g1 j x q hg e hg2 ih ih2 =>
  intro x' g1' j' e'
  cases q with
  | bad l => cases e'
  | ok y l =>
   have h1 := ih x g1 j rfl
   have h2 := ih2 y.1 y.2 l rfl
   have o1 := hg.okb x g1 j rfl
   have o2 := hg2.okb y.1 y.2 l rfl
   cases e'
   refine ⟨⟨h1.1, h2.1⟩, ?_⟩
   simp only [Pat.sz, szL, szR] at h1 h2 ⊢; omega
 | wbad => intro x' g1' j' e'; cases e'
 | nil d g i e => intro x' g1' j' e'; cases e'; exact ⟨trivial, by simp [Pat.sz, szL, szR]⟩
 | cons d g i g1 j x q e hg hg2 ih ih2 =>
  intro x' g1' j' e'
  cases q with
  | bad l => cases e'
  | ok y l =>
   have h1 := ih x g1 j rfl
   have h2 := ih2 y.1 y.2 l rfl
   have o1 := hg.okb x g1 j rfl
   have o2 := hg2.okb y.1 y.2 l rfl
   cases e'
   refine ⟨⟨h1.1, h2.1⟩, ?_⟩
   simp only [Pat.sz, szL, szR] at h1 h2 ⊢; omega
 | pbad => intro x' g1' j' e'; cases e'
 | rep d g i g1 j x q hg r ih =>
  intro x' g1' j' e'
  have o1 := hg.okb x g1 j rfl
  have h1 := ih x g1 j rfl
  cases q with
  | bad l => cases e'
  | ok o l =>
   have hr := r.ok
   cases o with
   | none => cases e'; exact ⟨shp_up h1.1, by simp only [withRep, szL, szR] at h1 ⊢; omega⟩
   | some mm =>
    obtain ⟨mn, mx⟩ := mm
    obtain ⟨b1, b2, b3⟩ := r.bd
    have hlt : j < l := by
     rcases r with ⟨_, _, _, _, e⟩ | ⟨_, e⟩ | ⟨_, e⟩ | ⟨_, e⟩ | ⟨_, q1, n, e⟩
     ·cases e
     ·cases e; omega
     ·cases e; omega
     ·cases e; omega
     ·cases q1 with
      | bad z => cases e
      | ok m z =>
       have hm := n.ok m z rfl
       rcases e with ⟨_, _, e⟩ | ⟨_, _, q2, n', e⟩ | ⟨_, e⟩
       ·cases e; omega
       ·cases q2 with
        | bad y => cases e
        | ok y y' =>
         have hy := n'.ok y y' rfl
         simp only [Rep3] at e
         by_cases h5 : at' s y' = 125
         ·rw [if_pos h5] at e; cases e; omega
         ·rw [if_neg h5] at e; cases e
       ·by_cases h5 : at' s z = 125
        ·rw [if_pos h5] at e; cases e; omega
        ·rw [if_neg h5] at e; cases e
    cases e'
    refine ⟨⟨b1, b2, b3, h1.1⟩, ?_⟩
    simp only [withRep, Pat.sz, szL, szR] at h1 ⊢; omega
 | sbad => intro x' g1' j' e'; cases e'
 | deep => intro x' g1' j' e'; cases e'
 | grp d g i g1 j x e o hg c ih => intro x' g1' j' e'; have o1 := hg.okb x g1 j rfl; cases e'; have := ih x g1 j rfl; exact ⟨this.1, by simp only [Pat.sz, szL, szR] at this ⊢; omega⟩
 | gopen => intro x' g1' j' e'; cases e'
 | gbad => intro x' g1' j' e'; cases e'
 | set d g i q e r =>
  intro x' g1' j' e'
  have hG := G.set (s := s) d g i q e r
  cases q with
  | bad l => cases e'
  | ok y l => cases e'; have := (hG.okb _ _ _ rfl).2.2.1 (Or.inr rfl); exact ⟨trivial, by simp only [Pat.sz, szL, szR]; omega⟩
 | dot d g i e => intro x' g1' j' e'; cases e'; exact ⟨trivial, by simp only [Pat.sz, szL, szR]; omega⟩
 | esc d g i e =>
  intro x' g1' j' e'
  cases r : escS s 0 (i + 1) with
  | bad l => rw [r] at e'; cases e'
  | ok y l => rw [r] at e'; cases e'; have := escS_ok r; exact ⟨trivial, by simp only [Pat.sz, szL, szR]; omega⟩
 | no => intro x' g1' j' e'; cases e'
 | lit d g i a => intro x' g1' j' e'; cases e'; exact ⟨trivial, by simp only [Pat.sz, szL, szR]; omega⟩
end Go.Proofs.YtnfojonmohijpaaGreatDoor
namespace Go.Proofs.YtnfojonmohijpaaGreatDoor
inductive JN where
 | node (k : Nat)
 | row (l : List Nat)
 | it (c n : Nat)
inductive MN (s : ByteArray) (nds : List Nd) : JN → Nat → Nat → Prop
 | byte (k : Nat) (nd : Nd) (i : Nat) : nds[k]? = some nd → nd.kind = 98 → i < s.size → nd.f (at' s i).toNat = true → MN s nds (.node k) i (i + 1)
 | grp (k : Nat) (nd : Nd) (c i j : Nat) : nds[k]? = some nd → nd.kind = 103 → nd.kids = [c] → MN s nds (.node c) i j → MN s nds (.node k) i j
 | alt (k : Nat) (nd : Nd) (c i j : Nat) : nds[k]? = some nd → nd.kind = 111 → c ∈ nd.kids → MN s nds (.node c) i j → MN s nds (.node k) i j
 | way (k : Nat) (nd : Nd) (i j : Nat) : nds[k]? = some nd → nd.kind = 119 → MN s nds (.row nd.kids) i j → MN s nds (.node k) i j
 | rep (k : Nat) (nd : Nd) (c n i j : Nat) : nds[k]? = some nd → nd.kind = 114 → nd.kids = [c] → nd.mn ≤ n → (nd.mx < 0 ∨ (n : Int) ≤ nd.mx) → MN s nds (.it c n) i j → MN s nds (.node k) i j
 | rnil (i : Nat) : MN s nds (.row []) i i
 | rcons (c : Nat) (l : List Nat) (i m j : Nat) : MN s nds (.node c) i m → MN s nds (.row l) m j → MN s nds (.row (c :: l)) i j
 | izero (c i : Nat) : MN s nds (.it c 0) i i
 | isucc (c n i m j : Nat) : MN s nds (.node c) i m → MN s nds (.it c n) m j → MN s nds (.it c (n + 1)) i j
theorem MN.row_nil {s : ByteArray} {nds : List Nd} {i j : Nat} : MN s nds (.row []) i j ↔ i = j :=
 ⟨fun h => by cases h; rfl, fun h => by cases h; exact .rnil i⟩
theorem MN.row_cons {s : ByteArray} {nds : List Nd} {c : Nat} {l : List Nat} {i j : Nat} : MN s nds (.row (c :: l)) i j ↔ ∃ m, MN s nds (.node c) i m ∧ MN s nds (.row l) m j :=
 ⟨fun h => by cases h with | rcons _ _ _ m _ a b => exact ⟨m, a, b⟩, fun ⟨m, a, b⟩ => .rcons c l i m j a b⟩
theorem MN.row_one {s : ByteArray} {nds : List Nd} {c : Nat} {i j : Nat} : MN s nds (.row [c]) i j ↔ MN s nds (.node c) i j := by
 rw [MN.row_cons]
 constructor
 ·rintro ⟨m, a, b⟩
  rw [MN.row_nil] at b
  subst b
  exact a
 ·intro h
  exact ⟨j, h, MN.row_nil.2 rfl⟩
theorem MN.it_iff {s : ByteArray} {nds : List Nd} {c : Nat} {R : Nat → Nat → Prop} (h : ∀ i j, R i j ↔ MN s nds (.node c) i j) : ∀ n i j, It R n i j ↔ MN s nds (.it c n) i j
 | 0, i, j => ⟨fun e => by cases e; exact .izero c i, fun e => by cases e; rfl⟩
 | n + 1, i, j => by
  constructor
  ·rintro ⟨m, a, b⟩
   exact .isucc c n i m j ((h i m).1 a) ((MN.it_iff h n m j).1 b)
  ·intro e
   cases e with
   | isucc _ _ _ m _ a b => exact ⟨m, (h i m).2 a, (MN.it_iff h n m j).2 b⟩
def ML (s : ByteArray) (nds : List Nd) (kd : Kd) (l : List Nat) (i j : Nat) : Prop :=
 match kd with
 | .ways => ∃ c, c ∈ l ∧ MN s nds (.node c) i j
 | _ => MN s nds (.row l) i j
theorem MN.byte_iff {s : ByteArray} {nds : List Nd} {k : Nat} {nd : Nd} (e : nds[k]? = some nd) (hk : nd.kind = 98) {i j : Nat} : MN s nds (.node k) i j ↔ i < s.size ∧ nd.f (at' s i).toNat = true ∧ j = i + 1 := by
 constructor
 ·intro h
  cases h with
  | byte _ nd' _ e' k' a b => cases e.symm.trans e'; exact ⟨a, b, rfl⟩
  | grp _ nd' _ _ _ e' k' => cases e.symm.trans e'; omega
  | alt _ nd' _ _ _ e' k' => cases e.symm.trans e'; omega
  | way _ nd' _ _ e' k' => cases e.symm.trans e'; omega
  | rep _ nd' _ _ _ _ e' k' => cases e.symm.trans e'; omega
 ·rintro ⟨a, b, rfl⟩
  exact .byte k nd i e hk a b
theorem MN.grp_iff {s : ByteArray} {nds : List Nd} {k c : Nat} {nd : Nd} (e : nds[k]? = some nd) (hk : nd.kind = 103) (hc : nd.kids = [c]) {i j : Nat} : MN s nds (.node k) i j ↔ MN s nds (.node c) i j := by
 constructor
 ·intro h
  cases h with
  | byte _ nd' _ e' k' a b => cases e.symm.trans e'; omega
  | grp _ nd' c' _ _ e' k' hc' h' => cases e.symm.trans e'; rw [hc] at hc'; cases hc'; exact h'
  | alt _ nd' _ _ _ e' k' => cases e.symm.trans e'; omega
  | way _ nd' _ _ e' k' => cases e.symm.trans e'; omega
  | rep _ nd' _ _ _ _ e' k' => cases e.symm.trans e'; omega
 ·exact .grp k nd c i j e hk hc
theorem MN.alt_iff {s : ByteArray} {nds : List Nd} {k : Nat} {nd : Nd} (e : nds[k]? = some nd) (hk : nd.kind = 111) {i j : Nat} : MN s nds (.node k) i j ↔ ∃ c, c ∈ nd.kids ∧ MN s nds (.node c) i j := by
 constructor
 ·intro h
  cases h with
  | byte _ nd' _ e' k' a b => cases e.symm.trans e'; omega
  | grp _ nd' _ _ _ e' k' => cases e.symm.trans e'; omega
  | alt _ nd' c _ _ e' k' hc h' => cases e.symm.trans e'; exact ⟨c, hc, h'⟩
  | way _ nd' _ _ e' k' => cases e.symm.trans e'; omega
  | rep _ nd' _ _ _ _ e' k' => cases e.symm.trans e'; omega
 ·rintro ⟨c, hc, h⟩
  exact .alt k nd c i j e hk hc h
theorem MN.way_iff {s : ByteArray} {nds : List Nd} {k : Nat} {nd : Nd} (e : nds[k]? = some nd) (hk : nd.kind = 119) {i j : Nat} : MN s nds (.node k) i j ↔ MN s nds (.row nd.kids) i j := by
 constructor
 ·intro h
  cases h with
  | byte _ nd' _ e' k' a b => cases e.symm.trans e'; omega
  | grp _ nd' _ _ _ e' k' => cases e.symm.trans e'; omega
  | alt _ nd' _ _ _ e' k' => cases e.symm.trans e'; omega
  | way _ nd' _ _ e' k' h' => cases e.symm.trans e'; exact h'
  | rep _ nd' _ _ _ _ e' k' => cases e.symm.trans e'; omega
 ·exact .way k nd i j e hk
theorem MN.rep_iff {s : ByteArray} {nds : List Nd} {k c : Nat} {nd : Nd} (e : nds[k]? = some nd) (hk : nd.kind = 114) (hc : nd.kids = [c]) {i j : Nat} : MN s nds (.node k) i j ↔ ∃ n, nd.mn ≤ n ∧ (nd.mx < 0 ∨ (n : Int) ≤ nd.mx) ∧ MN s nds (.it c n) i j := by
 constructor
 ·intro h
  cases h with
  | byte _ nd' _ e' k' a b => cases e.symm.trans e'; omega
  | grp _ nd' _ _ _ e' k' => cases e.symm.trans e'; omega
  | alt _ nd' _ _ _ e' k' => cases e.symm.trans e'; omega
  | way _ nd' _ _ e' k' => cases e.symm.trans e'; omega
  | rep _ nd' c' n _ _ e' k' hc' a b h' => cases e.symm.trans e'; rw [hc] at hc'; cases hc'; exact ⟨n, a, b, h'⟩
 ·rintro ⟨n, a, b, h⟩
  exact .rep k nd c n i j e hk hc a b h
theorem ListN.way_iff {s : ByteArray} {nds : List Nd} {l : List Nat} {c : Nat} (h : ListN nds 119 l c) {i j : Nat} : MN s nds (.row l) i j ↔ MN s nds (.node c) i j := by
 rcases h with rfl | ⟨_, nd, e, hk, rfl⟩
 ·exact MN.row_one
 ·exact (MN.way_iff e hk).symm
theorem ListN.alt_iff {s : ByteArray} {nds : List Nd} {l : List Nat} {c : Nat} (h : ListN nds 111 l c) {i j : Nat} : (∃ d, d ∈ l ∧ MN s nds (.node d) i j) ↔ MN s nds (.node c) i j := by
 rcases h with rfl | ⟨_, nd, e, hk, rfl⟩
 ·simp
 ·exact (MN.alt_iff e hk).symm
theorem at'_nat {s : ByteArray} {i : Nat} (h : i < s.size) : (at' s i).toNat < 256 := by
 have h1 := (at'_bd s i).2
 have h2 := at'_lt h
 omega
theorem rep_Mt {s : ByteArray} {nds : List Nd} : ∀ {x : Pat} {kd : Kd}, shp x kd → ∀ {l : List Nat}, rep nds x l → ∀ {i j : Nat}, Mt s x i j ↔ ML s nds kd l i j := by
 intro x
 induction x with
 | set f =>
  intro kd hs l h i j
  obtain ⟨k, nd, rfl, e, hk, _, hf⟩ := h
  have : Mt s (.set f) i j ↔ MN s nds (.row [k]) i j := by
   rw [MN.row_one, MN.byte_iff e hk]
   show i < s.size ∧ f (at' s i).toNat = true ∧ j = i + 1 ↔ _
   constructor
   ·rintro ⟨a, b, c⟩; exact ⟨a, by rw [hf _ (at'_nat a)]; exact b, c⟩
   ·rintro ⟨a, b, c⟩; exact ⟨a, by rw [← hf _ (at'_nat a)]; exact b, c⟩
  cases kd with
  | ways => exact hs.elim
  | way => exact hs.elim
  | piece => exact this
  | single => exact this
 | grp m x ih =>
  intro kd hs l h i j
  obtain ⟨k, nd, c, lw, rfl, e, hk, _, hc, hr, hl⟩ := h
  have : shp x .ways → (Mt s (.grp m x) i j ↔ MN s nds (.row [k]) i j) := fun hw => by
   rw [MN.row_one, MN.grp_iff e hk hc, ← hl.alt_iff]
   exact ih hw hr
  cases kd with
  | ways => exact hs.elim
  | way => exact hs.elim
  | piece => exact this hs
  | single => exact this hs
 | rep mn mx x ih =>
  intro kd hs l h i j
  obtain ⟨k, nd, c, rfl, e, hk, rfl, rfl, hc, hr⟩ := h
  have : shp x .single → (Mt s (.rep nd.mn nd.mx x) i j ↔ MN s nds (.row [k]) i j) := fun hw => by
   rw [MN.row_one, MN.rep_iff e hk hc]
   have h1 : ∀ i j, Mt s x i j ↔ MN s nds (.node c) i j := fun i j => by rw [← MN.row_one]; exact ih hw hr
   constructor
   ·rintro ⟨n, a, b, h⟩; exact ⟨n, a, b, (MN.it_iff h1 n i j).1 h⟩
   ·rintro ⟨n, a, b, h⟩; exact ⟨n, a, b, (MN.it_iff h1 n i j).2 h⟩
  cases kd with
  | ways => exact hs.elim
  | way => exact hs.elim
  | piece => exact this hs.2.2.2
  | single => exact hs.elim
 | pnil =>
  intro kd hs l h i j
  cases h
  cases kd with
  | way => exact MN.row_nil.symm
  | ways => exact hs.elim
  | piece => exact hs.elim
  | single => exact hs.elim
 | pcons x r ih1 ih2 =>
  intro kd hs l h i j
  obtain ⟨k, l', rfl, h1, h2⟩ := h
  cases kd with
  | way =>
   show (∃ m, Mt s x i m ∧ Mt s r m j) ↔ MN s nds (.row (k :: l')) i j
   rw [MN.row_cons]
   constructor
   ·rintro ⟨m, a, b⟩; exact ⟨m, MN.row_one.1 ((ih1 hs.1 h1).1 a), (ih2 hs.2 h2).1 b⟩
   ·rintro ⟨m, a, b⟩; exact ⟨m, (ih1 hs.1 h1).2 (MN.row_one.2 a), (ih2 hs.2 h2).2 b⟩
  | ways => exact hs.elim
  | piece => exact hs.elim
  | single => exact hs.elim
 | wone x ih =>
  intro kd hs l h i j
  obtain ⟨c, lp, rfl, hr, hl⟩ := h
  cases kd with
  | ways =>
   show Mt s x i j ↔ ∃ d, d ∈ [c] ∧ MN s nds (.node d) i j
   rw [show Mt s x i j ↔ MN s nds (.row lp) i j from ih hs hr, hl.way_iff]
   simp
  | way => exact hs.elim
  | piece => exact hs.elim
  | single => exact hs.elim
 | wcons x r ih1 ih2 =>
  intro kd hs l h i j
  obtain ⟨c, lp, l', rfl, ⟨hr, hl⟩, h2⟩ := h
  cases kd with
  | ways =>
   show (Mt s x i j ∨ Mt s r i j) ↔ ∃ d, d ∈ c :: l' ∧ MN s nds (.node d) i j
   rw [show Mt s x i j ↔ MN s nds (.row lp) i j from ih1 hs.1 hr, hl.way_iff, show Mt s r i j ↔ ∃ d, d ∈ l' ∧ MN s nds (.node d) i j from ih2 hs.2 h2]
   constructor
   ·rintro (h | ⟨d, a, b⟩)
    ·exact ⟨c, by simp, h⟩
    ·exact ⟨d, by simp [a], b⟩
   ·rintro ⟨d, a, b⟩
    rcases List.mem_cons.1 a with rfl | a
    ·exact Or.inl b
    ·exact Or.inr ⟨d, a, b⟩
  | way => exact hs.elim
  | piece => exact hs.elim
  | single => exact hs.elim
end Go.Proofs.YtnfojonmohijpaaGreatDoor
namespace Go.Proofs.YtnfojonmohijpaaGreatDoor
def Pat.fair (g : Nat) : Pat → Prop
 | .set _ => True
 | .grp k x => 0 < k ∧ k ≤ g ∧ x.fair g
 | .rep mn mx x => (mx < 0 ∨ (mn : Int) ≤ mx) ∧ x.fair g
 | .pnil => True
 | .pcons x r => x.fair g ∧ r.fair g
 | .wone x => x.fair g
 | .wcons x r => x.fair g ∧ r.fair g
theorem Pat.fair.up {g h : Nat} (hg : g ≤ h) : ∀ {x : Pat}, x.fair g → x.fair h
 | .set _, _ => trivial
 | .grp _ x, hx => ⟨hx.1, Nat.le_trans hx.2.1 hg, Pat.fair.up hg (x := x) hx.2.2⟩
 | .rep _ _ x, hx => ⟨hx.1, Pat.fair.up hg (x := x) hx.2⟩
 | .pnil, _ => trivial
 | .pcons x r, hx => ⟨Pat.fair.up hg (x := x) hx.1, Pat.fair.up hg (x := r) hx.2⟩
 | .wone x, hx => Pat.fair.up hg (x := x) hx
 | .wcons x r, hx => ⟨Pat.fair.up hg (x := x) hx.1, Pat.fair.up hg (x := r) hx.2⟩
def Pat.wn : Pat → Nat
 | .wcons _ r => r.wn + 1
 | _ => 1
def Pat.thn : Pat → Prop
 | .set _ => True
 | .grp _ x => x.thn
 | .rep _ _ x => x.thn
 | .pnil => True
 | .pcons x r => x.thn ∧ r.thn
 | .wone x => x.thn
 | .wcons x r => r.wn ≤ 98 ∧ x.thn ∧ r.thn
def NK (nds : List Nd) (n k : Nat) : Prop := ∃ (kd : Kd) (x : Pat), repK nds kd x k ∧ shp x kd ∧ x.sz < n ∧ x.fair 9 ∧ x.thn
theorem NK.up {nds : List Nd} {n m k : Nat} (h : NK nds n k) (hm : n ≤ m) : NK nds m k := by
 obtain ⟨kd, x, a, b, c, d⟩ := h
 exact ⟨kd, x, a, b, by omega, d⟩
theorem way_len {nds : List Nd} : ∀ {x : Pat} {l : List Nat}, rep nds x l → shp x .way → l.length ≤ x.sz
 | .pnil, l, h, _ => by cases h; simp
 | .pcons x r, l, h, hs => by
  obtain ⟨k, l', rfl, h1, h2⟩ := h
  have := way_len h2 hs.2
  simp only [Pat.sz, List.length_cons]
  omega
 | .set _, _, _, hs => hs.elim
 | .grp _ _, _, _, hs => hs.elim
 | .rep _ _ _, _, _, hs => hs.elim
 | .wone _, _, _, hs => hs.elim
 | .wcons _ _, _, _, hs => hs.elim
theorem ways_len {nds : List Nd} : ∀ {x : Pat} {l : List Nat}, rep nds x l → shp x .ways → l.length ≤ x.sz ∧ l.length = x.wn
 | .wone x, l, h, hs => by
  obtain ⟨c', lp, rfl, hr, hl⟩ := h
  refine ⟨?_, rfl⟩
  simp only [Pat.sz, List.length_cons, List.length_nil]
  omega
 | .wcons x r, l, h, hs => by
  obtain ⟨c', lp, l', rfl, ⟨hr, hl⟩, h2⟩ := h
  have h3 := ways_len h2 hs.2
  have h4 : (Pat.wcons x r).wn = r.wn + 1 := rfl
  rw [h4]
  simp only [Pat.sz, List.length_cons]
  omega
 | .pnil, _, _, hs => hs.elim
 | .pcons _ _, _, _, hs => hs.elim
 | .set _, _, _, hs => hs.elim
 | .grp _ _, _, _, hs => hs.elim
 | .rep _ _ _, _, _, hs => hs.elim
def Sub (nds : List Nd) (n : Nat) (nd : Nd) : Prop :=
 (nd.kind = 98 ∧ nd.kids = []) ∨ (nd.kind = 103 ∧ ∃ c, nd.kids = [c] ∧ NK nds n c) ∨ (nd.kind = 114 ∧ nd.mn ≤ 5 ∧ -1 ≤ nd.mx ∧ (nd.mx ≤ 5 ∧ (nd.mx < 0 ∨ (nd.mn : Int) ≤ nd.mx)) ∧ ∃ c, nd.kids = [c] ∧ NK nds n c) ∨
 ((nd.kind = 119 ∨ (nd.kind = 111 ∧ nd.kids.length ≤ 99)) ∧ nd.kids.length ≤ n ∧ ∀ c, c ∈ nd.kids → NK nds n c)
theorem Sub.up {nds : List Nd} {n m : Nat} {nd : Nd} (h : Sub nds n nd) (hm : n ≤ m) : Sub nds m nd := by
 rcases h with h | ⟨a, c, b, d⟩ | ⟨a, e1, e2, e3, c, b, d⟩ | ⟨a, l, b⟩
 ·exact Or.inl h
 ·exact Or.inr (Or.inl ⟨a, c, b, d.up hm⟩)
 ·exact Or.inr (Or.inr (Or.inl ⟨a, e1, e2, e3, c, b, d.up hm⟩))
 ·exact Or.inr (Or.inr (Or.inr ⟨a, Nat.le_trans l hm, fun c hc => (b c hc).up hm⟩))
theorem kids_way {nds : List Nd} : ∀ {x : Pat} {l : List Nat}, rep nds x l → shp x .way → x.fair 9 → x.thn → ∀ c, c ∈ l → NK nds x.sz c
 | .pnil, l, h, _, _, _, c, hc => by cases h; cases hc
 | .pcons x r, l, h, hs, hf, ht, c, hc => by
  obtain ⟨k, l', rfl, h1, h2⟩ := h
  rcases List.mem_cons.1 hc with rfl | hc
  ·exact ⟨.piece, x, h1, hs.1, by simp only [Pat.sz]; omega, hf.1, ht.1⟩
  ·exact (kids_way h2 hs.2 hf.2 ht.2 c hc).up (by simp only [Pat.sz]; omega)
 | .set _, _, _, hs, _, _, _, _ => hs.elim
 | .grp _ _, _, _, hs, _, _, _, _ => hs.elim
 | .rep _ _ _, _, _, hs, _, _, _, _ => hs.elim
 | .wone _, _, _, hs, _, _, _, _ => hs.elim
 | .wcons _ _, _, _, hs, _, _, _, _ => hs.elim
theorem kids_ways {nds : List Nd} : ∀ {x : Pat} {l : List Nat}, rep nds x l → shp x .ways → x.fair 9 → x.thn → ∀ c, c ∈ l → NK nds x.sz c
 | .wone x, l, h, hs, hf, ht, c, hc => by
  obtain ⟨c', lp, rfl, hr, hl⟩ := h
  simp only [List.mem_singleton] at hc
  subst hc
  exact ⟨.way, x, ⟨lp, hr, hl⟩, hs, by simp only [Pat.sz]; omega, hf, ht⟩
 | .wcons x r, l, h, hs, hf, ht, c, hc => by
  obtain ⟨c', lp, l', rfl, ⟨hr, hl⟩, h2⟩ := h
  rcases List.mem_cons.1 hc with rfl | hc
  ·exact ⟨.way, x, ⟨lp, hr, hl⟩, hs.1, by simp only [Pat.sz]; omega, hf.1, ht.2.1⟩
  ·exact (kids_ways h2 hs.2 hf.2 ht.2.2 c hc).up (by simp only [Pat.sz]; omega)
 | .pnil, _, _, hs, _, _, _, _ => hs.elim
 | .pcons _ _, _, _, hs, _, _, _, _ => hs.elim
 | .set _, _, _, hs, _, _, _, _ => hs.elim
 | .grp _ _, _, _, hs, _, _, _, _ => hs.elim
 | .rep _ _ _, _, _, hs, _, _, _, _ => hs.elim
theorem NK.cases {nds : List Nd} : ∀ (n : Nat) {kd : Kd} {x : Pat} {k : Nat}, repK nds kd x k → shp x kd → x.sz ≤ n → x.fair 9 → x.thn → ∃ nd, nds[k]? = some nd ∧ Sub nds x.sz nd := by
 intro n
 induction n with
 | zero => intro kd x k _ _ hn _ _; exact absurd hn (by cases x <;> simp [Pat.sz])
 | succ n ih =>
  intro kd x k h hs hn hf ht
  have hone : (kd = .piece ∨ kd = .single) → rep nds x [k] → ∃ nd, nds[k]? = some nd ∧ Sub nds x.sz nd := by
   intro hkd hr
   cases x with
   | set f =>
    obtain ⟨k', nd, hk', e, hk, h0, _⟩ := hr
    simp only [List.cons.injEq, and_true] at hk'
    subst hk'
    exact ⟨nd, e, Or.inl ⟨hk, h0⟩⟩
   | grp m y =>
    obtain ⟨k', nd, c, lw, hk', e, hk, _, hc, hr, hl⟩ := hr
    simp only [List.cons.injEq, and_true] at hk'
    subst hk'
    have hy : shp y .ways := by rcases hkd with rfl | rfl <;> exact hs
    exact ⟨nd, e, Or.inr (Or.inl ⟨hk, c, hc, .ways, y, ⟨lw, hr, hl⟩, hy, by simp only [Pat.sz]; omega, hf.2.2, ht⟩)⟩
   | rep mn mx y =>
    obtain ⟨k', nd, c, hk', e, hk, rfl, rfl, hc, hr⟩ := hr
    simp only [List.cons.injEq, and_true] at hk'
    subst hk'
    rcases hkd with rfl | rfl
    ·exact ⟨nd, e, Or.inr (Or.inr (Or.inl ⟨hk, hs.1, hs.2.1, ⟨hs.2.2.1, hf.1⟩, c, hc, .single, y, hr, hs.2.2.2, by simp only [Pat.sz]; omega, hf.2, ht⟩))⟩
    ·exact hs.elim
   | pnil => rcases hkd with rfl | rfl <;> exact hs.elim
   | pcons _ _ => rcases hkd with rfl | rfl <;> exact hs.elim
   | wone _ => rcases hkd with rfl | rfl <;> exact hs.elim
   | wcons _ _ => rcases hkd with rfl | rfl <;> exact hs.elim
  cases kd with
  | single => exact hone (Or.inr rfl) h
  | piece => exact hone (Or.inl rfl) h
  | way =>
   obtain ⟨lp, hr, hl⟩ := h
   rcases hl with rfl | ⟨_, nd, e, hk, rfl⟩
   ·cases x with
    | pcons y r =>
     obtain ⟨k', l', e, h1, h2⟩ := hr
     simp only [List.cons.injEq] at e
     obtain ⟨rfl, rfl⟩ := e
     have hy : y.sz ≤ n := by simp only [Pat.sz] at hn; omega
     obtain ⟨nd, a, b⟩ := ih (kd := .piece) h1 hs.1 hy hf.1 ht.1
     exact ⟨nd, a, b.up (by simp only [Pat.sz]; omega)⟩
    | pnil => cases hr
    | _ => exact hs.elim
   ·exact ⟨nd, e, Or.inr (Or.inr (Or.inr ⟨Or.inl hk, way_len hr hs, kids_way hr hs hf ht⟩))⟩
  | ways =>
   obtain ⟨lw, hr, hl⟩ := h
   rcases hl with rfl | ⟨_, nd, e, hk, rfl⟩
   ·cases x with
    | wone y =>
     obtain ⟨c, lp, e, h1, h2⟩ := hr
     simp only [List.cons.injEq, and_true] at e
     subst e
     have hy : y.sz ≤ n := by simp only [Pat.sz] at hn; omega
     obtain ⟨nd, a, b⟩ := ih (kd := .way) ⟨lp, h1, h2⟩ hs hy hf ht
     exact ⟨nd, a, b.up (by simp only [Pat.sz]; omega)⟩
    | wcons y r =>
     obtain ⟨c, lp, l', e, ⟨h1, h2⟩, h3⟩ := hr
     simp only [List.cons.injEq] at e
     obtain ⟨rfl, rfl⟩ := e
     cases r with
     | wone z => obtain ⟨_, _, e, _⟩ := h3; cases e
     | wcons z q => obtain ⟨_, _, _, e, _⟩ := h3; cases e
     | _ => exact hs.2.elim
    | _ => exact hs.elim
   ·obtain ⟨l1, l2⟩ := ways_len hr hs
    have h99 : x.wn ≤ 99 := by
     cases x with
     | wcons y r => have h1 := ht.1; have h4 : (Pat.wcons y r).wn = r.wn + 1 := rfl; omega
     | wone y => exact (by decide : 1 ≤ 99)
     | _ => exact hs.elim
    exact ⟨nd, e, Or.inr (Or.inr (Or.inr ⟨Or.inr ⟨hk, by omega⟩, l1, kids_ways hr hs hf ht⟩))⟩
end Go.Proofs.YtnfojonmohijpaaGreatDoor
