/-
  DERIVED. The program's bytesOf. Conditions: the text is at most 100 bytes long.
-/
import Derived.Test.YtnfojonmohijpabGreatDoorJNM
import Derived.Test.YtnfojonmohijpabGreatDoorJPW
import Derived.Test.YtnfojonmohijpabGreatDoorJSpec
import Derived.Deep.CutRange
import Derived.Lib.Strings
import Derived.Lib.Slices
import Derived.Lib.Walk
import Derived.Lib.Builder
import Derived.Lib.AppendStr
import Derived.Lib.UnsafeStr
import Derived.Laws.Externs
import Derived.Lib.OthersKept
import Derived.Lib.FrozenHead
import Derived.Test.YtnfojonmohijpabGreatDoorJNA
set_option linter.unusedSimpArgs false
set_option linter.unusedVariables false
namespace Go.Proofs.YtnfojonmohijpabGreatDoor
open Go.RowKit
set_option maxRecDepth 100000 in
set_option maxHeartbeats 2000000 in
theorem bytesOf_any (f : Nat → Bool) (s : ByteArray) (N : Nat) (HN : Hid (N = s.size + 1)) (hs : s.size ≤ 100) (w : World) : Calls Tryz.prog 161 #[.agg (hcells f), .string s] w (NewMP w N (Mt s (.set f))) := by
 have hz0 : HQ (w.alloc (.cells (hcells f) 174)) w.heap.size f := heap_alloc_new w _
 have hk0 : Keeps [] w (w.alloc (.cells (hcells f) 174)) := (Keeps.refl [] w).alloc _
 generalize hcells f = C at *
 go_enter Tryz.func161, Tryz.ntmps161
 go_wp2_with fail
 generalize w.alloc (.cells C 174) = W at *
 obtain ⟨g0, hg0⟩ : ∃ g0, w.heap.size = g0 := ⟨_, rfl⟩
 rw [hg0] at hz0 ⊢
 refine (none_any s.size N HN hs W).mono ?_
 rintro e w1 ⟨g, rfl, hM, hk, hg⟩
 have hz1 := hz0.keep hk (by simp)
 have hg0l : g0 < W.heap.size := hz0.lt
 have hgw : w.heap.size ≤ g := by have := hk0.size; omega
 have hkA := hk0.trans hk
 have hNm : (N : Int) ≤ 101 := by have := HN.out; omega
 have hsm : (s.size : Int) ≤ 100 := by omega
 clear hz0 hk0 hk hg0
 go_wp2_with fail
 go_loopw [6, 12] (fun _ q wr => ∃ k : Nat, k ≤ s.size ∧ q = .int .i64 k ∧ MV wr (.slice (some ⟨g, 0, none⟩) N N) N (fun i j => decide (i < k) && (f (at' s i).toNat && decide (j = i + 1))) ∧ HQ wr g0 f ∧ Keeps [] w wr) (fun _ q _ => s.size - (intOf q).toNat)
 case atStart => exact ⟨0, by omega, rfl, hM.ext (fun a b _ _ => by simp), hz1, hkA⟩
 case round =>
  clear hM hz1 hkA
  obtain ⟨k, hk, rfl, hM, hz, hK⟩ := hrel
  by_cases hlt : k < s.size
  ·have hk0 : (0 : Int) ≤ (k : Int) := by omega
   have hk1 : (k : Int) < (s.size : Int) := by omega
   have hk2 : (k : Int) < (N : Int) := by have := HN.out; omega
   have hb : at' s k = (s[k].toNat : Int) := at'_lt hlt
   have hb2 : s[k].toNat < 256 := UInt8.toNat_lt _
   have hb3 : (0 : Int) ≤ (s[k].toNat : Int) := by omega
   have hb4 : (s[k].toNat : Int) < 256 := by omega
   have hcl := hz.cell hb2
   have HB : Hid ((at' s k).toNat = s[k].toNat) := by show (at' s k).toNat = s[k].toNat; rw [hb]; rfl
   clear hb hk
   cases hf : f s[k].toNat with
   | false =>
    rw [hf] at hcl
    have HF : Hid (f s[k].toNat = false) := hf
    have HK : Hid (k < s.size) := hlt
    clear hf
    go_wp2_with fail
    go_roundw
    case rel => exact ⟨k + 1, HK.out, by go_num, hM.ext (fun a b _ _ => by
      by_cases e1 : a = k
      · subst e1; rw [HB.out, HF.out]; simp
      · have : (a < k + 1) ↔ (a < k) := by omega
        simp [this]), hz, hK⟩
    case measure => have := HK.out; simp [intOf]; omega
   | true =>
    rw [hf] at hcl
    have HF : Hid (f s[k].toNat = true) := hf
    have HK : Hid (k < s.size) := hlt
    clear hf
    have hC := padd_any g N N k (k + 1) _ (by have := HN.out; omega) (by omega) wr hM
    have e9 : ((k + 1 : Nat) : Int) = (k : Int) + 1 := by omega
    rw [e9] at hC
    clear e9
    go_wp2_with (go_at_call 126; refine hC.mono ?_; rintro e w2 ⟨rfl, hM2, hK2⟩)
    have hz2 := hz.keep hK2 (by simp; omega)
    have hK3 : Keeps [] w w2 := keepsM hK hK2 (by intro x hx; simp at hx; omega)
    go_roundw
    case rel => exact ⟨k + 1, HK.out, by go_num, hM2.ext (fun a b _ _ => by
      by_cases e1 : a = k
      · subst e1; rw [HB.out, HF.out]; simp
      · have : (a < k + 1) ↔ (a < k) := by omega
        simp [e1, this]), hz2, hK3⟩
    case measure => have := HK.out; simp [intOf]; omega
  ·have he : k = s.size := by omega
   have hnk : ¬ (k : Int) < (s.size : Int) := by omega
   have hM2 : MP wr (fun x => w.heap.size ≤ x) N (.slice (some ⟨g, 0, none⟩) N N) (Mt s (.set f)) := ⟨g, N, _, rfl, hM, hgw, fun i j hi hj => by
     simp only [Bool.and_eq_true, decide_eq_true_eq, he]
     exact Iff.rfl⟩
   clear hM hk he hlt
   go_wp2_with fail
   go_ret
   exact ⟨_, rfl, hM2, hK⟩
end Go.Proofs.YtnfojonmohijpabGreatDoor
namespace Go.Proofs.YtnfojonmohijpabGreatDoor
open Go.RowKit
def RR (w : World) (S : Nat → Prop) (N M : Nat) (v : Value) (F : Nat → Nat → Nat → Prop) : Prop :=
 ∃ g c vs, v = .slice (some ⟨g, 0, none⟩) M c ∧ w.ownsRow 0 63 1 (.slice (some ⟨g, 0, none⟩) M c) M vs ∧ S g ∧ ∀ d, d < M → ∃ u, vs[d]? = some u ∧ MP w S N u (F d)
theorem RR.keep {w w' : World} {S : Nat → Prop} {L : List Nat} {N M : Nat} {v : Value} {F : Nat → Nat → Nat → Prop} (h : RR w S N M v F) (hk : Keeps L w w') (hs : ∀ g, S g → g ∉ L) : RR w' S N M v F := by
 obtain ⟨g, c, vs, e, ho, hg, hr⟩ := h
 refine ⟨g, c, vs, e, ho.keep hk (fun x hx => by simp only [Value.ownBlock, Option.some.injEq] at hx; subst hx; exact hs _ hg), hg, fun d hd => ?_⟩
 obtain ⟨u, a, b⟩ := hr d hd
 exact ⟨u, a, b.keep hk hs⟩
theorem RR.mono {w : World} {S S' : Nat → Prop} {N M : Nat} {v : Value} {F : Nat → Nat → Nat → Prop} (h : RR w S N M v F) (hs : ∀ g, S g → g < w.heap.size → S' g) : RR w S' N M v F := by
 obtain ⟨g, c, vs, e, ho, hg, hr⟩ := h
 refine ⟨g, c, vs, e, ho, hs g hg (World.ownsRow.lt ho g rfl).2, fun d hd => ?_⟩
 obtain ⟨u, a, b⟩ := hr d hd
 exact ⟨u, a, b.mono hs⟩
theorem RR.at {w : World} {S : Nat → Prop} {N M : Nat} {v : Value} {F : Nat → Nat → Nat → Prop} (h : RR w S N M v F) {d : Nat} (hd : d < M) : ∃ g c u, v = .slice (some ⟨g, 0, none⟩) M c ∧ g < w.heap.size ∧ S g ∧ w.cell? ⟨g, d, none⟩ = some u ∧ MP w S N u (F d) := by
 obtain ⟨g, c, vs, e, ho, hg, hr⟩ := h
 obtain ⟨u, a, b⟩ := hr d hd
 exact ⟨g, c, u, e, (World.ownsRow.lt ho g rfl).2, hg, (World.ownsRow.cellAt ho d (by omega)).trans a, b⟩
theorem infoMap : (Tryz.prog.info? 63).map (fun i => (i.zero, i.size, i.bytes)) = some (some (.slice none 0 0), 1, 24) := by kernel_rfl
structure FL (w wr : World) (g N M : Nat) (F : Nat → Nat → Nat → Prop) (d : Nat) : Prop where
 own : ∃ vs, wr.ownsRow 0 63 1 (.slice (some ⟨g, 0, none⟩) M M) M vs ∧ ∀ e, d ≤ e → e < M → ∃ u, vs[e]? = some u ∧ MP wr (fun x => w.heap.size ≤ x ∧ x ≠ g) N u (F e)
 keep : Keeps [] w wr
 low : w.heap.size ≤ g
theorem FL.glt {w wr : World} {g N M d : Nat} {F : Nat → Nat → Nat → Prop} (h : FL w wr g N M F d) : g < wr.heap.size := by
 obtain ⟨vs, a, b⟩ := h.own
 exact (World.ownsRow.lt a g rfl).2
theorem FL.keeps {w wr w' : World} {g N M d : Nat} {F : Nat → Nat → Nat → Prop} (h : FL w wr g N M F d) (hk : Keeps [] wr w') : FL w w' g N M F d := by
 obtain ⟨vs, a, b⟩ := h.own
 exact ⟨⟨vs, a.keep hk (by simp), fun e h1 h2 => by
   obtain ⟨u, x, y⟩ := b e h1 h2
   exact ⟨u, x, y.keep hk (by simp)⟩⟩, h.keep.trans hk, h.low⟩
theorem FL.cell {w wr : World} {g N M d : Nat} {F : Nat → Nat → Nat → Prop} (h : FL w wr g N M F d) {e : Nat} (he : e < M) : (∃ u, wr.cell? ⟨g, e, none⟩ = some u) ∧ wr.frozen? ⟨g, e, none⟩ = false := by
 obtain ⟨vs, a, b⟩ := h.own
 have hl : vs.length = M := by have := a.1; omega
 refine ⟨⟨vs[e]'(by omega), ?_⟩, World.ownsRow.frozenAt a e⟩
 rw [World.ownsRow.cellAt a e (by omega), List.getElem?_eq_getElem]
theorem FL.at {w wr : World} {g N M d : Nat} {F : Nat → Nat → Nat → Prop} (h : FL w wr g N M F d) {e : Nat} (hd : d ≤ e) (he : e < M) : ∃ u, wr.cell? ⟨g, e, none⟩ = some u ∧ MP wr (fun x => w.heap.size ≤ x ∧ x ≠ g) N u (F e) := by
 obtain ⟨vs, a, b⟩ := h.own
 obtain ⟨u, x, y⟩ := b e hd he
 exact ⟨u, (World.ownsRow.cellAt a e (by omega)).trans x, y⟩
theorem FL.put {w wr : World} {g N M d : Nat} {F : Nat → Nat → Nat → Prop} (h : FL w wr g N M F (d + 1)) (hd : d < M) {u : Value} {S : Nat → Prop} (hu : MP wr S N u (F d)) (hs : ∀ x, S x → w.heap.size ≤ x ∧ x ≠ g) : FL w (wr.setCell ⟨g, d, none⟩ u) g N M F d := by
 obtain ⟨vs, a, b⟩ := h.own
 have hl : vs.length = M := by have := a.1; omega
 have hk : Keeps [g] wr (wr.setCell ⟨g, d, none⟩ u) := (Keeps.refl [g] wr).setCell (p := ⟨g, d, none⟩) (by simp) _
 refine ⟨⟨vs.set d u, (World.ownsRow.stored a d u).1, fun e h1 h2 => ?_⟩, keepsM h.keep hk (by intro x hx; simp at hx; subst hx; exact Or.inr h.low), h.low⟩
 by_cases e1 : e = d
 ·subst e1
  exact ⟨u, by rw [List.getElem?_set_self (by omega)], (hu.mono (S' := fun x => w.heap.size ≤ x ∧ x ≠ g) fun x hx _ => hs x hx).keep hk (by intro x hx; simp; exact hx.2)⟩
 ·obtain ⟨v, x, y⟩ := b e (by omega) h2
  exact ⟨v, by rw [List.getElem?_set_ne (by omega)]; exact x, y.keep hk (by intro x hx; simp; exact hx.2)⟩
theorem FL.any {w wr : World} {g N M d : Nat} {F : Nat → Nat → Nat → Prop} (h : FL w wr g N M F (d + 1)) (u : Value) : FL w (wr.setCell ⟨g, d, none⟩ u) g N M F (d + 1) := by
 obtain ⟨vs, a, b⟩ := h.own
 have hk : Keeps [g] wr (wr.setCell ⟨g, d, none⟩ u) := (Keeps.refl [g] wr).setCell (p := ⟨g, d, none⟩) (by simp) _
 refine ⟨⟨vs.set d u, (World.ownsRow.stored a d u).1, fun e h1 h2 => ?_⟩, keepsM h.keep hk (by intro x hx; simp at hx; subst hx; exact Or.inr h.low), h.low⟩
 obtain ⟨v, x, y⟩ := b e (by omega) h2
 exact ⟨v, by rw [List.getElem?_set_ne (by omega)]; exact x, y.keep hk (by intro x hx; simp; exact hx.2)⟩
theorem FL.done {w wr : World} {g N M : Nat} {F : Nat → Nat → Nat → Prop} (h : FL w wr g N M F 0) : RR wr (fun x => w.heap.size ≤ x) N M (.slice (some ⟨g, 0, none⟩) M M) F := by
 obtain ⟨vs, a, b⟩ := h.own
 refine ⟨g, M, vs, rfl, a, h.low, fun d hd => ?_⟩
 obtain ⟨u, x, y⟩ := b d (by omega) hd
 exact ⟨u, x, y.mono fun z hz _ => hz.1⟩
end Go.Proofs.YtnfojonmohijpabGreatDoor
namespace Go.Proofs.YtnfojonmohijpabGreatDoor
open Go.RowKit
def steps (mn : Nat) (mx : Int) : Nat := if mx < 0 then mn else mx.toNat
theorem Left.last {R : Nat → Nat → Prop} {mn : Nat} {mx : Int} (hf : mx < 0 ∨ (mn : Int) ≤ mx) (hx : -1 ≤ mx) (i j : Nat) : Left R mn mx (steps mn mx) i j ↔ if mx < 0 then Tm R 0 (-1) i j else i = j := by
 unfold steps Left
 by_cases h : mx < 0
 ·rw [if_pos h, if_pos h, lessN_any mx h]
  have : mx = -1 := by omega
  subst this
  rw [Nat.sub_self]
 ·rw [if_neg h, if_neg h]
  obtain ⟨m, rfl⟩ : ∃ m : Nat, mx = m := ⟨mx.toNat, by omega⟩
  rw [lessN_some, Int.toNat_natCast, Nat.sub_self, show mn - m = 0 by omega]
  exact Tm.none
theorem repBlock {w w' : World} {g : Nat} {mn : Nat} {mx : Int} {L : List Nat} (h : w.heap[g]? = some (.cells #[.bool true, .int .i64 mn, .int .i64 mx] 178 (0, 0))) (hk : Keeps L w w') (hg : g ∉ L) : w'.heap[g]? = some (.cells #[.bool true, .int .i64 mn, .int .i64 mx] 178 (0, 0)) :=
 (hk.block g (Array.getElem?_eq_some_iff.1 h).1 hg).trans h
theorem repCells {w : World} {g : Nat} {mn : Nat} {mx : Int} (h : w.heap[g]? = some (.cells #[.bool true, .int .i64 mn, .int .i64 mx] 178 (0, 0))) : w.cell? ⟨g, 1, none⟩ = some (.int .i64 mn) ∧ w.cell? ⟨g, 2, none⟩ = some (.int .i64 mx) := by
 simp [World.cell?, h]
set_option maxRecDepth 100000 in
set_option maxHeartbeats 2000000 in
theorem restsOf_any (n N : Nat) (HN : Hid (N = n + 1)) (hn : n ≤ 100) (mn : Nat) (mx : Int) (hmn : mn ≤ 5) (hmx : -1 ≤ mx) (hmx5 : mx ≤ 5) (hf : mx < 0 ∨ (mn : Int) ≤ mx) (K M : Nat) (HK : Hid (K = steps mn mx)) (HM : Hid (M = K + 1))
    {S : Nat → Prop} (g1 c1 : Nat) {R : Nat → Nat → Prop} (hle : ∀ i j, R i j → i ≤ j) (hin : ∀ i j, R i j → i < N → j < N) (w : World) (h1 : MP w S N (.slice (some ⟨g1, 0, none⟩) N c1) R) :
    Calls Tryz.prog 128 #[.agg #[.bool true, .int .i64 mn, .int .i64 mx], .slice (some ⟨g1, 0, none⟩) N c1] w fun e w' => ∃ g, e = .returned (.slice (some ⟨g, 0, none⟩) M M) ∧ RR w' (fun g => w.heap.size ≤ g) N M (.slice (some ⟨g, 0, none⟩) M M) (Left R mn mx) ∧ Keeps [] w w' := by
 have hNm : (N : Int) ≤ 101 := by have := HN.out; omega
 have hN1 : (1 : Int) ≤ (N : Int) := by have := HN.out; omega
 have hsub : (N : Int) - 1 = (n : Int) := by have := HN.out; omega
 have hnn : (n : Int) ≤ 100 := by omega
 have hK5 : K ≤ 5 := by
  have := HK.out
  unfold steps at this
  split at this <;> omega
 have hz0 : (w.alloc (.cells #[.bool true, .int .i64 mn, .int .i64 mx] 178)).heap[w.heap.size]? = some (.cells #[.bool true, .int .i64 mn, .int .i64 mx] 178 (0, 0)) := heap_alloc_new w _
 have hk0 : Keeps [] w (w.alloc (.cells #[.bool true, .int .i64 mn, .int .i64 mx] 178)) := (Keeps.refl [] w).alloc _
 go_enter Tryz.func128, Tryz.ntmps128
 go_wp2_with fail
 generalize w.alloc (.cells #[.bool true, .int .i64 mn, .int .i64 mx] 178) = W at *
 obtain ⟨g0, hg0⟩ : ∃ g0, g0 = w.heap.size := ⟨_, rfl⟩
 rw [← hg0] at hz0 ⊢
 have hW := h1.keep hk0 (by simp)
 have hw0 := hk0.size
 have hg0w : g0 < W.heap.size := (Array.getElem?_eq_some_iff.1 hz0).1
 clear hg0 h1
 refine (empty_mp n N HN hn W).mono ?_
 rintro e w1 ⟨vn, rfl, hN0, hk1⟩
 obtain ⟨gn, cn, fn, rfl, _⟩ := id hN0
 have hz1 := repBlock hz0 hk1 (by simp)
 have hW1 := hW.keep hk1 (by simp)
 obtain ⟨ca, cb⟩ := repCells hz1
 go_upto_if 19 with (fail)
 go_cut [6, 7] from 17 to 23 (fun q6 q7 wx => ∃ gl cl, q6 = .int .i64 K ∧ q7 = .slice (some ⟨gl, 0, none⟩) N cl ∧ MP wx (fun x => W.heap.size ≤ x) N (.slice (some ⟨gl, 0, none⟩) N cl) (Left R mn mx K) ∧ Keeps [] w1 wx)
 case first =>
  by_cases hx : mx < 0
  ·have hx1 : mx = -1 := by omega
   have HL : Hid (∀ i j, Left R mn mx K i j ↔ Tm R 0 (-1) i j) := fun i j => by
    rw [HK.out, Left.last hf hmx, if_pos hx]
   have HKn : Hid (K = mn) := by
    have := HK.out
    unfold steps at this
    rw [if_pos hx] at this
    exact this
   subst hx1
   have hC := star_mp N n HN hn hle hin w1.drew (hW1.keep ((Keeps.refl [] w1).drewN 1) (by simp))
   clear hx hmx hmx5 hf
   go_wp2_with fail
   go_region_with (first | (go_at_call 162; refine hC.mono ?_; rintro e w2 ⟨vl, rfl, hL, hk2⟩; obtain ⟨gl, cl, fl, rfl, _⟩ := id hL; have hz2 := repCells (repBlock hz1 (((Keeps.refl [] w1).drewN 1).trans hk2) (by simp)); obtain ⟨cx, cy⟩ := hz2))
   all_goals
    have hL2 : MP w2 (fun x => W.heap.size ≤ x) N (.slice (some ⟨gl, 0, none⟩) N cl) (Left R mn (-1) K) := (hL.mono (S' := fun x => W.heap.size ≤ x) fun x hx _ => by have := hk1.size; simp at hx; omega).congr fun i j _ _ => (HL.out i j).symm
    have hk3 : Keeps [] w1 w2 := ((Keeps.refl [] w1).drewN 1).trans hk2
    have HKm : Hid (Value.int .i64 (mn : Int) = .int .i64 (K : Int)) := by show Value.int .i64 (mn : Int) = .int .i64 (K : Int); rw [HKn.out]
    clear hL hk2 hC hW hW1 hz0 hz1 hN0
    go_wp2_with fail
    go_meet
    case rel => exact ⟨gl, cl, HKm.out, rfl, hL2, hk3⟩
  ·have HL : Hid (∀ i j, Left R mn mx K i j ↔ i = j) := fun i j => by
      rw [HK.out, Left.last hf hmx, if_neg hx]
   have HKm : Hid (Value.int .i64 mx = .int .i64 (K : Int)) := by
    show Value.int .i64 mx = .int .i64 (K : Int)
    have := HK.out
    unfold steps at this
    rw [if_neg hx] at this
    congr
    omega
   have hx1 : (mx == -1) = false := by simp; omega
   have hL2 : MP w1 (fun x => W.heap.size ≤ x) N (.slice (some ⟨gn, 0, none⟩) N cn) (Left R mn mx K) := hN0.congr fun i j _ _ => (HL.out i j).symm
   go_wp2_with fail
   go_meet
   case rel => exact ⟨gn, cn, HKm.out, rfl, hL2, Keeps.refl _ _⟩
 case rest =>
  obtain ⟨gl, cl, rfl, rfl, hL, hkx⟩ := hcut
  obtain ⟨w2, hw2⟩ : ∃ w2 : World, w2 = wc := ⟨_, rfl⟩
  subst hw2
  have hz2 := repBlock hz1 hkx (by simp)
  have hW2 := hW1.keep hkx (by simp)
  have hN2 := hN0.keep hkx (by simp)
  have hkA := hk1.trans hkx
  obtain ⟨i0, hi0, hy0, hy1, hy2⟩ := info_parts infoMap
  have hun := Tryz.underlying148
  have hadd : (K : Int) + 1 ≤ 9223372036854775807 := by omega
  clear ca cb hW1 hN0 hk1 hkx hz0 hz1
  go_wp2_with (first | (refine wpList_make_full w2 rfl _ _ 148 rfl 0 63 i0 (.slice none 0 0) 1 hun hi0 hy0 hy1 .i64 .i64 ((K : Int) + 1) ((K : Int) + 1) M rfl rfl (by have := HM.out; omega) (by have := HM.out; omega) (by have := HM.out; rw [hy2]; omega) (by have := HM.out; unfold maxLen; omega) (Nat.zero_le _) ?_))
  intro w3 hown hgr
  have hk3 : Keeps [] w2 w3 := Keeps.ofGrownNone hgr
  have hz3 := repBlock hz2 hk3 (by simp)
  have hW3 := hW2.keep hk3 (by simp)
  obtain ⟨g, hg⟩ : ∃ g, g = w2.heap.size := ⟨_, rfl⟩
  rw [← hg] at hown ⊢
  have hgW : W.heap.size ≤ g := by have := hkA.size; omega
  have hN3 : MP w3 (fun x => W.heap.size ≤ x ∧ x ≠ g) N (.slice (some ⟨gn, 0, none⟩) N cn) (fun i j => i = j) := (hN2.mono (S' := fun x => W.heap.size ≤ x ∧ x ≠ g) fun x hx hy => ⟨hx, by omega⟩).keep hk3 (by simp)
  have hL3 : MP w3 (fun x => W.heap.size ≤ x ∧ x ≠ g) N (.slice (some ⟨gl, 0, none⟩) N cl) (Left R mn mx K) := (hL.mono (S' := fun x => W.heap.size ≤ x ∧ x ≠ g) fun x hx hy => ⟨hx, by omega⟩).keep hk3 (by simp)
  have F0 : FL W w3 g N M (Left R mn mx) (K + 1) := ⟨⟨_, hown, fun e h1 h2 => by have := HM.out; omega⟩, hkA.trans hk3, hgW⟩
  obtain ⟨⟨u0, hc0⟩, hf0⟩ := F0.cell (e := K) (by have := HM.out; omega)
  have F1 := F0.put (by have := HM.out; omega) hL3 (fun x hx => hx)
  have hkp : Keeps [g] w3 (w3.setCell ⟨g, K, none⟩ (.slice (some ⟨gl, 0, none⟩) N cl)) := (Keeps.refl [g] w3).setCell (p := ⟨g, K, none⟩) (by simp) _
  have hz4 := repBlock hz3 hkp (by simp; omega)
  have hN4 := hN3.keep hkp (by intro x hx; simp; exact hx.2)
  have hKi0 : (0 : Int) ≤ (K : Int) := by omega
  have hKi1 : (K : Int) < (M : Int) := by have := HM.out; omega
  have hM6 : (M : Int) ≤ 6 := by have := HM.out; omega
  clear hown hgr hk3 hkA hN2 hL hL3 hN3 F0 hz2 hz3 hg hW2 hW3
  go_wp2_with fail
  generalize w3.setCell ⟨g, K, none⟩ (.slice (some ⟨gl, 0, none⟩) N cl) = w4 at *
  clear hc0 hf0 hkp
  go_loopw [9] (fun q wr => ∃ d : Nat, d ≤ K ∧ q = .int .i64 ((d : Int) - 1) ∧ FL W wr g N M (Left R mn mx) d ∧ MP wr (fun x => W.heap.size ≤ x ∧ x ≠ g) N (.slice (some ⟨gn, 0, none⟩) N cn) (fun i j => i = j) ∧ wr.heap[g0]? = some (.cells #[.bool true, .int .i64 mn, .int .i64 mx] 178 (0, 0))) (fun q _ => (intOf q + 1).toNat)
  case atStart => exact ⟨K, Nat.le_refl _, rfl, F1, hN4, hz4⟩
  case round =>
   clear F1 hN4 hz4
   obtain ⟨d, hd, rfl, hF, hNn, hz⟩ := hrel
   cases d with
   | zero =>
    have e : (((0 : Nat) : Int) - 1) = -1 := by omega
    rw [e]
    have hend := hF.done.mono (S' := fun x => w.heap.size ≤ x) fun x hx _ => by omega
    have hkE := hk0.trans hF.keep
    go_wp2_with fail
    go_ret
    exact ⟨g, rfl, hend, hkE⟩
   | succ d =>
    have e : (((d + 1 : Nat) : Int) - 1) = (d : Int) := by omega
    rw [e]
    clear e
    obtain ⟨c, HC⟩ : ∃ c, Hid (c = d + 1) := ⟨_, rfl⟩
    have hdc : (d : Int) + 1 = (c : Int) := by have := HC.out; omega
    have hFc : FL W wr g N M (Left R mn mx) c := by have := HC.out; rw [this]; exact hF
    obtain ⟨u, hcu, hu⟩ := hFc.at (e := c) (Nat.le_refl _) (by have := HM.out; have := HC.out; omega)
    obtain ⟨gu, cu, fu, rfl, _⟩ := id hu
    obtain ⟨⟨u0, hc0⟩, hf0⟩ := hFc.cell (e := d) (by have := HM.out; omega)
    have hd0 : (0 : Int) ≤ (d : Int) := by omega
    have hd1 : (d : Int) < (M : Int) := by have := HM.out; omega
    have hd2 : (0 : Int) ≤ (c : Int) := by omega
    have hd3 : (c : Int) < (M : Int) := by have := HM.out; omega
    have HD : Hid (d + 1 ≤ K) := hd
    have hWr := hW.keep hFc.keep (by simp)
    have hC := then_mp N (by omega) hle hin wr hWr hu
    clear hd hF
    go_wp2_with fail
    refine hC.mono ?_
    rintro e w5 ⟨vt, rfl, hT, hk5⟩
    obtain ⟨gt, ct, ft, rfl, _⟩ := id hT
    have hF5 := hFc.keeps hk5
    have hF5' : FL W w5 g N M (Left R mn mx) (d + 1) := by have := HC.out; rw [← this]; exact hF5
    have hdM : d < M := by have := HM.out; have := HD.out; omega
    obtain ⟨⟨u5, hc5⟩, hf5⟩ := hF5.cell hdM
    have hN5 := hNn.keep hk5 (by simp)
    have hz5 := repBlock hz hk5 (by simp)
    obtain ⟨ca, cb⟩ := repCells hz5
    have hgg := hFc.glt
    have hnew : ∀ x, wr.heap.size ≤ x → W.heap.size ≤ x ∧ x ≠ g := by intro x hx; have := hFc.keep.size; omega
    have hkp : ∀ u, Keeps [g] w5 (w5.setCell ⟨g, d, none⟩ u) := fun u => (Keeps.refl [g] w5).setCell (p := ⟨g, d, none⟩) (by simp) _
    have hstep := fun i j => Left.step (R := R) (mn := mn) (mx := mx) (d := d) (i := i) (j := j) (by
      have h1 := HK.out
      have h2 := HD.out
      unfold steps at h1
      split at h1 <;> omega)
    have HS : Hid (∀ i j, Left R mn mx d i j ↔ ((mn ≤ d ∧ i = j) ∨ ∃ m, R i m ∧ Left R mn mx (d + 1) m j)) := hstep
    have HT : Hid (MP w5 (fun x => wr.heap.size ≤ x) N (.slice (some ⟨gt, 0, none⟩) N ct) (fun i j => ∃ m, R i m ∧ Left R mn mx (d + 1) m j)) := by
     have := HC.out
     rw [this] at hT
     exact hT
    clear hT hC hu hcu hF5 hFc hk5 hstep hc0 hf0 hz hNn
    by_cases hle2 : mn ≤ d
    ·have hge : (mn : Int) ≤ (d : Int) := by omega
     have hT6 := (HT.out.mono (S' := fun x => W.heap.size ≤ x ∧ x ≠ g) fun x hx _ => hnew x hx).keep (hkp (.slice (some ⟨gt, 0, none⟩) N ct)) (by intro x hx; simp; exact hx.2)
     have hF6 := hF5'.any (.slice (some ⟨gt, 0, none⟩) N ct)
     have hN6 := hN5.keep (hkp (.slice (some ⟨gt, 0, none⟩) N ct)) (by intro x hx; simp; exact hx.2)
     have hz6 := repBlock hz5 (hkp (.slice (some ⟨gt, 0, none⟩) N ct)) (by simp; omega)
     obtain ⟨cx, cy⟩ := repCells hz6
     have hc6 : (w5.setCell ⟨g, d, none⟩ (.slice (some ⟨gt, 0, none⟩) N ct)).cell? ⟨g, d, none⟩ = some (.slice (some ⟨gt, 0, none⟩) N ct) := World.cell?_setCell_same _ _ _ hc5
     have hkw : Keeps [] wr wr := Keeps.refl _ _
     have HG : Hid (mn ≤ d) := hle2
     clear hF5' hN5 hz5 ca cb hkp HT hle2
     go_upto_if 50 with (fail)
     generalize w5.setCell ⟨g, d, none⟩ (.slice (some ⟨gt, 0, none⟩) N ct) = w6 at *
     have hC := or_mp N (by omega) w6 hT6 hN6
     go_wp2_with fail
     refine hC.mono ?_
     rintro e w7 ⟨vo, rfl, hO, hk7⟩
     obtain ⟨go, co, fo, rfl, _⟩ := id hO
     have hF7 := hF6.keeps hk7
     obtain ⟨⟨u7, hc7⟩, hf7⟩ := hF7.cell hdM
     have hnew7 : ∀ x, w6.heap.size ≤ x → W.heap.size ≤ x ∧ x ≠ g := by intro x hx; have h1 := hF6.keep.size; have h2 := hF6.glt; omega
     have hkp : Keeps [g] w7 (w7.setCell ⟨g, d, none⟩ (.slice (some ⟨go, 0, none⟩) N co)) := (Keeps.refl [g] w7).setCell (p := ⟨g, d, none⟩) (by simp) _
     have hF8 := hF7.put hdM (u := .slice (some ⟨go, 0, none⟩) N co) (hO.congr fun i j _ _ => by
       rw [HS.out]
       constructor
       · rintro (h | h)
         · exact Or.inr h
         · exact Or.inl ⟨HG.out, h⟩
       · rintro (⟨_, h⟩ | h)
         · exact Or.inr h
         · exact Or.inl h) hnew7
     have hN8 := (hN6.keep hk7 (by simp)).keep hkp (by intro x hx; simp; exact hx.2)
     have hz8 := repBlock (repBlock hz6 hk7 (by simp)) hkp (by simp; omega)
     clear hC hO hk7 hF6 hF7 hN6 hz6 hT6 hkp
     go_wp2_with fail
     go_roundw
     case rel => exact ⟨d, by have := HD.out; omega, by go_num, hF8, hN8, hz8⟩
     case measure => simp [intOf]
    ·have hlt : ¬ (mn : Int) ≤ (d : Int) := by omega
     have hF6 := hF5'.put hdM (u := .slice (some ⟨gt, 0, none⟩) N ct) (HT.out.congr fun i j _ _ => by
       rw [HS.out]
       constructor
       · exact Or.inr
       · rintro (⟨h, _⟩ | h)
         · omega
         · exact h) hnew
     have hN6 := hN5.keep (hkp (.slice (some ⟨gt, 0, none⟩) N ct)) (by intro x hx; simp; exact hx.2)
     have hz6 := repBlock hz5 (hkp (.slice (some ⟨gt, 0, none⟩) N ct)) (by simp; omega)
     obtain ⟨cx, cy⟩ := repCells hz6
     clear hF5' hN5 hz5 ca cb hkp HT
     go_wp2_with fail
     go_roundw
     case rel => exact ⟨d, by have := HD.out; omega, by go_num, hF6, hN6, hz6⟩
     case measure => simp [intOf]
end Go.Proofs.YtnfojonmohijpabGreatDoor
namespace Go.Proofs.YtnfojonmohijpabGreatDoor
open Go.RowKit
def upB (B n : Nat) : List Nat := (List.range n).filter fun k => decide (B ≤ k)
theorem upB_not {B n g : Nat} (h : g < B) : g ∉ upB B n := by
 intro hm
 simp [upB] at hm
 omega
theorem Keeps.ofBelow {B : Nat} {w w' : World} (h : Below B w w') : Keeps (upB B w.heap.size) w w' :=
 ⟨h.os, h.tape, h.output, h.size, fun j hj hn => h.block j (by
   apply Classical.byContradiction
   intro hc
   exact hn (by simp [upB]; omega))⟩
theorem Below.ofKeeps {B : Nat} {w w' : World} {S : List Nat} (h : Keeps S w w') (hB : B ≤ w.heap.size) (hs : ∀ g, g ∈ S → B ≤ g) : Below B w w' :=
 ⟨h.os, h.tape, h.output, h.size, fun k hk => h.block k (by omega) (fun hm => by have := hs k hm; omega)⟩
theorem Below.join {B : Nat} {a w w' : World} (h : Below B a w) (k : Below B w w') : Below B a w' :=
 ⟨k.os.trans h.os, k.tape.trans h.tape, k.output.trans h.output, Nat.le_trans h.size k.size, fun j hj => (k.block j hj).trans (h.block j hj)⟩
theorem sizeBld : (Tryz.prog.info? 119).map (·.size) = some 2 := by kernel_rfl
theorem undPB : Tryz.prog.underlying 117 = some (.pointer 119) := by kernel_rfl
theorem undUP : Tryz.prog.underlying 213 = some .unsafePointer := by kernel_rfl
theorem byteCells_app (l m : List UInt8) : Lib.byteCells (l ++ m) = Lib.byteCells l ++ Lib.byteCells m := by simp [Lib.byteCells]
theorem strCells_nmB (l : List UInt8) : Lib.strCells (nmB l) = Lib.byteCells l := by simp [Lib.strCells, Lib.byteCells, nmB]
end Go.Proofs.YtnfojonmohijpabGreatDoor
namespace Go.Proofs.YtnfojonmohijpabGreatDoor
open Go.RowKit
theorem add_off (g off j : Nat) : (⟨g, off, none⟩ : Addr).add j = ⟨g, off + j, none⟩ := by unfold Addr.add; split <;> simp_all
theorem run_loadVar_at (w : World) (g off : Nat) (ty : TypeId) (cs : List Value) (d : TypeDesc) (hc : ∀ j v, cs[j]? = some v → w.cell? ⟨g, off + j, none⟩ = some v)
    (hu : Tryz.prog.underlying ty = some d) (hd : (match d with | .struct _ | .array _ _ => true | _ => false) = true) (hi : (Tryz.prog.info? ty).map (·.size) = some cs.length) :
    (loadVar ty ⟨g, off, none⟩).run Tryz.prog w = .ok (.agg cs.toArray) w := by
 have hl : (loadCells ⟨g, off, none⟩ cs.length).run Tryz.prog w = .ok cs.toArray w :=
  run_loadCells_list (P := Tryz.prog) w ⟨g, off, none⟩ cs (fun j v hv => by rw [add_off]; exact hc j v hv)
 cases hq : Tryz.prog.info? ty with
 | none => simp [hq] at hi
 | some i =>
  have hs : i.size = cs.length := by simpa [hq] using hi
  have hagg : (isAgg ty).run Tryz.prog w = .ok true w := by
   unfold isAgg
   rw [Sem.run_bind, run_underlying hu w]
   cases d <;> simp_all
  simp [loadVar, Sem.run_bind, hagg, sizeOf, typeInfo, hq, hs, hl]
theorem wpList_load_at {ops : Array Oper} {rest : List Oper} {o : Oper} {a : Act} {w : World} {Q : Exit → Act → World → Prop} (hgd : o.guard = none) (ty : TypeId) (x : Operand) (ho : o.op = .load ty x)
    (g off : Nat) (hx : a.eval x = .pointer (some ⟨g, off, none⟩)) (cs : List Value) (d : TypeDesc) (hc : ∀ j v, cs[j]? = some v → w.cell? ⟨g, off + j, none⟩ = some v)
    (hu : Tryz.prog.underlying ty = some d) (hd : (match d with | .struct _ | .array _ _ => true | _ => false) = true) (hi : (Tryz.prog.info? ty).map (·.size) = some cs.length)
    (h : wpList Tryz.prog ops Q rest (a.put o.dst (.agg cs.toArray)) w) : wpList Tryz.prog ops Q (o :: rest) a w := by
 refine wpList_plain hgd fun K hK => ?_
 unfold Oper.wp execOp
 simp only [ho, hx, Instr.loadAt, Instr.sureAddr, Sem.run_bind, Sem.run_pure, Result.andThen_ok, run_loadVar_at w g off ty cs d hc hu hd hi]
 exact hK _ _ h
def wl : Pat → List Pat
 | .wone x => [x]
 | .wcons x r => x :: wl r
 | _ => []
def pl : Pat → List Pat
 | .pcons x r => x :: pl r
 | _ => []
def tw : Nat → List Pat → List UInt8
 | _, [] => []
 | k, x :: r => (if 0 < k then [124] else []) ++ patT x ++ tw (k + 1) r
def tp (l : List Pat) : List UInt8 := l.flatMap patT
theorem Rep.wl_text {w : World} {S : Nat → Prop} {x : Pat} {vs : List Value} (h : Rep w S .wlist x vs) : (∀ k, tw k (wl x) = (if 0 < k then [124] else []) ++ patT x) ∧ (wl x).length = vs.length ∧ (∀ (i : Nat) (y : Pat), (wl x)[i]? = some y → ∃ u, vs[i]? = some u ∧ Rep w S .way y [u] ∧ y.sz < x.sz) := by
 generalize hk : Kr.wlist = kk at h
 induction h with
 | wone x v h1 _ =>
  refine ⟨fun k => by simp [wl, tw, patT], rfl, ?_⟩
  intro i y hy
  match i, hy with
  | 0, hy => simp [wl] at hy; subst hy; exact ⟨v, rfl, h1, by simp [Pat.sz]⟩
 | wcons x r v vs h1 _ _ ih =>
  obtain ⟨a, b, c⟩ := ih rfl
  refine ⟨fun k => by simp [wl, tw, patT, a (k + 1)], by simp [wl, b], ?_⟩
  intro i y hy
  match i, hy with
  | 0, hy => simp [wl] at hy; subst hy; exact ⟨v, rfl, h1, by simp [Pat.sz]; omega⟩
  | i + 1, hy =>
   obtain ⟨u, h2, h3, h4⟩ := c i y (by simpa [wl] using hy)
   exact ⟨u, by simpa using h2, h3, by simp [Pat.sz]; omega⟩
 | _ => cases hk
theorem Rep.pl_text {w : World} {S : Nat → Prop} {x : Pat} {cs : List Value} (h : Rep w S .plist x cs) : tp (pl x) = patT x ∧ cs.length = (pl x).length * 261 ∧ (∀ (i : Nat) (y : Pat), (pl x)[i]? = some y → ∃ ds, Rep w S .piece y ds ∧ (∀ (j : Nat) (u : Value), ds[j]? = some u → cs[i * 261 + j]? = some u) ∧ y.sz < x.sz) := by
 generalize hk : Kr.plist = kk at h
 induction h with
 | pnil => exact ⟨rfl, rfl, by intro i y hy; simp [pl] at hy⟩
 | pcons x r cs ds h1 _ _ ih =>
  obtain ⟨a, b, c⟩ := ih rfl
  have hl : cs.length = 261 := h1.cells.2
  refine ⟨by simp [pl, tp, patT] at a ⊢; exact a, by simp [pl, b, hl]; omega, ?_⟩
  intro i y hy
  match i, hy with
  | 0, hy =>
   simp [pl] at hy
   subst hy
   refine ⟨cs, h1, ?_, by simp [Pat.sz]; omega⟩
   intro j u hu
   have hj : j < cs.length := by
    rcases Nat.lt_or_ge j cs.length with h | h
    ·exact h
    ·rw [List.getElem?_eq_none h] at hu; cases hu
   rw [Nat.zero_mul, Nat.zero_add, List.getElem?_append_left hj]
   exact hu
  | i + 1, hy =>
   obtain ⟨es, h2, h3, h4⟩ := c i y (by simpa [pl] using hy)
   refine ⟨es, h2, ?_, by simp [Pat.sz]; omega⟩
   intro j u hu
   have := h3 j u hu
   rw [List.getElem?_append_right (by omega), hl]
   have e : (i + 1) * 261 + j - 261 = i * 261 + j := by omega
   rw [e]
   exact this
 | _ => cases hk
theorem sz_rep (x : Pat) (o : Option (Nat × Int)) : x.sz ≤ (withRep x o).sz := by
 cases o with
 | none => exact Nat.le_refl _
 | some p => obtain ⟨m, n⟩ := p; simp [withRep, Pat.sz]
theorem sz_pos (x : Pat) : 0 < x.sz := by cases x <;> simp [Pat.sz] <;> omega
end Go.Proofs.YtnfojonmohijpabGreatDoor
namespace Go.Proofs.YtnfojonmohijpabGreatDoor
open Go.RowKit
structure WF (B b : Nat) (w w' : World) : Prop where
 below : Below B w w'
 others : Lib.OthersKept 5 (some b) w w'
theorem WF.refl (B b : Nat) (w : World) : WF B b w w := ⟨Below.refl B w, Lib.OthersKept.refl _ _ w⟩
theorem WF.trans {B b : Nat} {a w w' : World} (h : WF B b a w) (k : WF B b w w') : WF B b a w' := ⟨Below.join h.below k.below, h.others.trans k.others⟩
theorem WF.ofKeeps {B b : Nat} {w w' : World} (h : Keeps [] w w') (hB : B ≤ w.heap.size) : WF B b w w' :=
 ⟨Below.ofKeeps h hB (by simp), fun k o hk _ _ => (h.block k (Array.getElem?_eq_some_iff.1 hk).1 (by simp)).trans hk⟩
theorem row_wf {w w' : World} {B b g : Nat} {cs : Array Value} {T : TypeId} {fr : Nat × Nat} (h : w.heap[g]? = some (.cells cs T fr)) (hT : T ≠ 5) (hg : g ≠ b) (hf : WF B b w w') : w'.heap[g]? = some (.cells cs T fr) :=
 hf.others g _ h (by simpa using hg) (by intro c fz e; cases e; exact hT rfl)
theorem sc_cells {w : World} {g : Nat} {k v : Value} {f : Nat → Bool} {T : TypeId} {fr : Nat × Nat} (h : w.heap[g]? = some (.cells (sc k v f).toArray T fr)) :
    w.cell? ⟨g, 0, none⟩ = some k ∧ w.cell? ⟨g, 1, none⟩ = some v ∧ ∀ j u, (hcells f).toList[j]? = some u → w.cell? ⟨g, 2 + j, none⟩ = some u := by
 refine ⟨by rw [Lib.cell_of_heap h]; rfl, by rw [Lib.cell_of_heap h]; rfl, ?_⟩
 intro j u hu
 rw [Lib.cell_of_heap h]
 have e : 2 + j = j + 1 + 1 := by omega
 rw [e]
 simpa [sc] using hu
end Go.Proofs.YtnfojonmohijpabGreatDoor
namespace Go.Proofs.YtnfojonmohijpabGreatDoor
def shp : Pat → Kd → Prop
 | .set _, .single => True
 | .set _, .piece => True
 | .grp _ x, .single => shp x .ways
 | .grp _ x, .piece => shp x .ways
 | .rep mn mx x, .piece => mn ≤ 5 ∧ -1 ≤ mx ∧ mx ≤ 5 ∧ shp x .single
 | .pnil, .way => True
 | .pcons x r, .way => shp x .piece ∧ shp r .way
 | .wone x, .ways => shp x .way
 | .wcons x r, .ways => shp x .way ∧ shp r .ways
 | _, _ => False
theorem shp_up {x : Pat} (h : shp x .single) : shp x .piece := by
 cases x <;> first | exact h | exact h.elim
theorem RepR.bd {s : ByteArray} {j k mn : Nat} {mx : Int} (h : RepR s j (.ok (Option.some (mn, mx)) k)) : mn ≤ 5 ∧ -1 ≤ mx ∧ mx ≤ 5 := by
 rcases h with ⟨_, _, _, _, e⟩ | ⟨_, e⟩ | ⟨_, e⟩ | ⟨_, e⟩ | ⟨_, q1, n, e⟩
 ·cases e
 ·cases e; omega
 ·cases e; omega
 ·cases e; omega
 ·cases q1 with
  | bad l => cases e
  | ok m l =>
   have hm := (n.ok m l rfl).2.2.1 (by omega)
   rcases e with ⟨_, _, e⟩ | ⟨_, _, q2, n', e⟩ | ⟨_, e⟩
   ·cases e; omega
   ·cases q2 with
    | bad x => cases e
    | ok y x =>
     have hy := (n'.ok y x rfl).2.2.1 (by omega)
     simp only [Rep3] at e
     by_cases h5 : at' s x = 125
     ·rw [if_pos h5] at e; cases e; omega
     ·rw [if_neg h5] at e; cases e
   ·by_cases h5 : at' s l = 125
    ·rw [if_pos h5] at e; cases e; omega
    ·rw [if_neg h5] at e; cases e
def szL : Kd → Nat
 | .single => 2
 | .piece => 2
 | _ => 0
def szR : Kd → Nat
 | .way => 1
 | .ways => 2
 | _ => 0
theorem G.shp {s : ByteArray} {k : Kd} {d g i : Nat} {q : R (Pat × Nat)} (h : G s k d g i q) : ∀ x g1 j, q = .ok (x, g1) j → shp x k ∧ x.sz + szL k ≤ 4 * (j - i) + szR k := by
 induction h with
 | one d g i g1 j x hg e ih => intro x' g1' j' e'; cases e'; have := ih x g1 j rfl; exact ⟨this.1, by simp only [Pat.sz, szL, szR] at this ⊢; omega⟩
 | more d g i g1 j x q hg e hg2 ih ih2 =>
  intro x' g1' j' e'
  cases q with
  | bad l => cases e'
  | ok y l =>
   have h1 := ih x g1 j rfl
   have h2 := ih2 y.1 y.2 l rfl
   have o1 := hg.okb x g1 j rfl
   have o2 := hg2.okb y.1 y.2 l rfl
   cases e'
   refine ⟨⟨h1.1, h2.1⟩, ?_⟩
   simp only [Pat.sz, szL, szR] at h1 h2 ⊢; omega
 | wbad => intro x' g1' j' e'; cases e'
 | nil d g i e => intro x' g1' j' e'; cases e'; exact ⟨trivial, by simp [Pat.sz, szL, szR]⟩
 | cons d g i g1 j x q e hg hg2 ih ih2 =>
  intro x' g1' j' e'
  cases q with
  | bad l => cases e'
  | ok y l =>
   have h1 := ih x g1 j rfl
   have h2 := ih2 y.1 y.2 l rfl
   have o1 := hg.okb x g1 j rfl
   have o2 := hg2.okb y.1 y.2 l rfl
   cases e'
   refine ⟨⟨h1.1, h2.1⟩, ?_⟩
   simp only [Pat.sz, szL, szR] at h1 h2 ⊢; omega
 | pbad => intro x' g1' j' e'; cases e'
 | rep d g i g1 j x q hg r ih =>
  intro x' g1' j' e'
  have o1 := hg.okb x g1 j rfl
  have h1 := ih x g1 j rfl
  cases q with
  | bad l => cases e'
  | ok o l =>
   have hr := r.ok
   cases o with
   | none => cases e'; exact ⟨shp_up h1.1, by simp only [withRep, szL, szR] at h1 ⊢; omega⟩
   | some mm =>
    obtain ⟨mn, mx⟩ := mm
    obtain ⟨b1, b2, b3⟩ := r.bd
    have hlt : j < l := by
     rcases r with ⟨_, _, _, _, e⟩ | ⟨_, e⟩ | ⟨_, e⟩ | ⟨_, e⟩ | ⟨_, q1, n, e⟩
     ·cases e
     ·cases e; omega
     ·cases e; omega
     ·cases e; omega
     ·cases q1 with
      | bad z => cases e
      | ok m z =>
       have hm := n.ok m z rfl
       rcases e with ⟨_, _, e⟩ | ⟨_, _, q2, n', e⟩ | ⟨_, e⟩
       ·cases e; omega
       ·cases q2 with
        | bad y => cases e
        | ok y y' =>
         have hy := n'.ok y y' rfl
         simp only [Rep3] at e
         by_cases h5 : at' s y' = 125
         ·rw [if_pos h5] at e; cases e; omega
         ·rw [if_neg h5] at e; cases e
       ·by_cases h5 : at' s z = 125
        ·rw [if_pos h5] at e; cases e; omega
        ·rw [if_neg h5] at e; cases e
    cases e'
    refine ⟨⟨b1, b2, b3, h1.1⟩, ?_⟩
    simp only [withRep, Pat.sz, szL, szR] at h1 ⊢; omega
 | sbad => intro x' g1' j' e'; cases e'
 | deep => intro x' g1' j' e'; cases e'
 | grp d g i g1 j x e o hg c ih => intro x' g1' j' e'; have o1 := hg.okb x g1 j rfl; cases e'; have := ih x g1 j rfl; exact ⟨this.1, by simp only [Pat.sz, szL, szR] at this ⊢; omega⟩
 | gopen => intro x' g1' j' e'; cases e'
 | gbad => intro x' g1' j' e'; cases e'
 | set d g i q e r =>
  intro x' g1' j' e'
  have hG := G.set (s := s) d g i q e r
  cases q with
  | bad l => cases e'
  | ok y l => cases e'; have := (hG.okb _ _ _ rfl).2.2.1 (Or.inr rfl); exact ⟨trivial, by simp only [Pat.sz, szL, szR]; omega⟩
 | dot d g i e => intro x' g1' j' e'; cases e'; exact ⟨trivial, by simp only [Pat.sz, szL, szR]; omega⟩
 | esc d g i e =>
  intro x' g1' j' e'
  cases r : escS s 0 (i + 1) with
  | bad l => rw [r] at e'; cases e'
  | ok y l => rw [r] at e'; cases e'; have := escS_ok r; exact ⟨trivial, by simp only [Pat.sz, szL, szR]; omega⟩
 | no => intro x' g1' j' e'; cases e'
 | lit d g i a => intro x' g1' j' e'; cases e'; exact ⟨trivial, by simp only [Pat.sz, szL, szR]; omega⟩
end Go.Proofs.YtnfojonmohijpabGreatDoor
namespace Go.Proofs.YtnfojonmohijpabGreatDoor
def Pat.fair (g : Nat) : Pat → Prop
 | .set _ => True
 | .grp k x => 0 < k ∧ k ≤ g ∧ x.fair g
 | .rep mn mx x => (mx < 0 ∨ (mn : Int) ≤ mx) ∧ x.fair g
 | .pnil => True
 | .pcons x r => x.fair g ∧ r.fair g
 | .wone x => x.fair g
 | .wcons x r => x.fair g ∧ r.fair g
theorem Pat.fair.up {g h : Nat} (hg : g ≤ h) : ∀ {x : Pat}, x.fair g → x.fair h
 | .set _, _ => trivial
 | .grp _ x, hx => ⟨hx.1, Nat.le_trans hx.2.1 hg, Pat.fair.up hg (x := x) hx.2.2⟩
 | .rep _ _ x, hx => ⟨hx.1, Pat.fair.up hg (x := x) hx.2⟩
 | .pnil, _ => trivial
 | .pcons x r, hx => ⟨Pat.fair.up hg (x := x) hx.1, Pat.fair.up hg (x := r) hx.2⟩
 | .wone x, hx => Pat.fair.up hg (x := x) hx
 | .wcons x r, hx => ⟨Pat.fair.up hg (x := x) hx.1, Pat.fair.up hg (x := r) hx.2⟩
end Go.Proofs.YtnfojonmohijpabGreatDoor
