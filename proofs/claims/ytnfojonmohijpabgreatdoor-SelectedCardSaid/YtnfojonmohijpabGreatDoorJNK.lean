/-
  DERIVED. The program's restsOf: what the times that are left can match. Conditions: the text is at most 100 bytes long, the numbers are within their bounds.
-/
import Derived.Test.YtnfojonmohijpabGreatDoorJNM
import Derived.Test.YtnfojonmohijpabGreatDoorJPW
import Derived.Lib.Strings
import Derived.Lib.Slices
import Derived.Lib.Walk
import Derived.Lib.Builder
import Derived.Lib.AppendStr
import Derived.Lib.UnsafeStr
import Derived.Laws.Externs
import Derived.Lib.OthersKept
import Derived.Lib.FrozenHead
import Derived.Test.YtnfojonmohijpabGreatDoorJSpec
import Derived.Test.YtnfojonmohijpabGreatDoorJRG
import Derived.Test.YtnfojonmohijpabGreatDoorJKB
set_option linter.unusedSimpArgs false
set_option linter.unusedVariables false
namespace Go.Proofs.YtnfojonmohijpabGreatDoor
open Go.RowKit
def steps (mn : Nat) (mx : Int) : Nat := if mx < 0 then mn else mx.toNat
theorem Left.last {R : Nat → Nat → Prop} {mn : Nat} {mx : Int} (hf : mx < 0 ∨ (mn : Int) ≤ mx) (hx : -1 ≤ mx) (i j : Nat) : Left R mn mx (steps mn mx) i j ↔ if mx < 0 then Tm R 0 (-1) i j else i = j := by
 unfold steps Left
 by_cases h : mx < 0
 ·rw [if_pos h, if_pos h, lessN_any mx h]
  have : mx = -1 := by omega
  subst this
  rw [Nat.sub_self]
 ·rw [if_neg h, if_neg h]
  obtain ⟨m, rfl⟩ : ∃ m : Nat, mx = m := ⟨mx.toNat, by omega⟩
  rw [lessN_some, Int.toNat_natCast, Nat.sub_self, show mn - m = 0 by omega]
  exact Tm.none
theorem repBlock {w w' : World} {g : Nat} {mn : Nat} {mx : Int} {L : List Nat} (h : w.heap[g]? = some (.cells #[.bool true, .int .i64 mn, .int .i64 mx] 178 (0, 0))) (hk : Keeps L w w') (hg : g ∉ L) : w'.heap[g]? = some (.cells #[.bool true, .int .i64 mn, .int .i64 mx] 178 (0, 0)) :=
 (hk.block g (Array.getElem?_eq_some_iff.1 h).1 hg).trans h
theorem repCells {w : World} {g : Nat} {mn : Nat} {mx : Int} (h : w.heap[g]? = some (.cells #[.bool true, .int .i64 mn, .int .i64 mx] 178 (0, 0))) : w.cell? ⟨g, 1, none⟩ = some (.int .i64 mn) ∧ w.cell? ⟨g, 2, none⟩ = some (.int .i64 mx) := by
 simp [World.cell?, h]
set_option maxRecDepth 100000 in
set_option maxHeartbeats 2000000 in
theorem restsOf_any (n N : Nat) (HN : Hid (N = n + 1)) (hn : n ≤ 100) (mn : Nat) (mx : Int) (hmn : mn ≤ 5) (hmx : -1 ≤ mx) (hmx5 : mx ≤ 5) (hf : mx < 0 ∨ (mn : Int) ≤ mx) (K M : Nat) (HK : Hid (K = steps mn mx)) (HM : Hid (M = K + 1))
    {S : Nat → Prop} (g1 c1 : Nat) {R : Nat → Nat → Prop} (hle : ∀ i j, R i j → i ≤ j) (hin : ∀ i j, R i j → i < N → j < N) (w : World) (h1 : MP w S N (.slice (some ⟨g1, 0, none⟩) N c1) R) :
    Calls Tryz.prog 128 #[.agg #[.bool true, .int .i64 mn, .int .i64 mx], .slice (some ⟨g1, 0, none⟩) N c1] w fun e w' => ∃ g, e = .returned (.slice (some ⟨g, 0, none⟩) M M) ∧ RR w' (fun g => w.heap.size ≤ g) N M (.slice (some ⟨g, 0, none⟩) M M) (Left R mn mx) ∧ Keeps [] w w' := by
 have hNm : (N : Int) ≤ 101 := by have := HN.out; omega
 have hN1 : (1 : Int) ≤ (N : Int) := by have := HN.out; omega
 have hsub : (N : Int) - 1 = (n : Int) := by have := HN.out; omega
 have hnn : (n : Int) ≤ 100 := by omega
 have hK5 : K ≤ 5 := by
  have := HK.out
  unfold steps at this
  split at this <;> omega
 have hz0 : (w.alloc (.cells #[.bool true, .int .i64 mn, .int .i64 mx] 178)).heap[w.heap.size]? = some (.cells #[.bool true, .int .i64 mn, .int .i64 mx] 178 (0, 0)) := heap_alloc_new w _
 have hk0 : Keeps [] w (w.alloc (.cells #[.bool true, .int .i64 mn, .int .i64 mx] 178)) := (Keeps.refl [] w).alloc _
 go_enter Tryz.func128, Tryz.ntmps128
 go_wp2_with fail
 generalize w.alloc (.cells #[.bool true, .int .i64 mn, .int .i64 mx] 178) = W at *
 obtain ⟨g0, hg0⟩ : ∃ g0, g0 = w.heap.size := ⟨_, rfl⟩
 rw [← hg0] at hz0 ⊢
 have hW := h1.keep hk0 (by simp)
 have hw0 := hk0.size
 have hg0w : g0 < W.heap.size := (Array.getElem?_eq_some_iff.1 hz0).1
 clear hg0 h1
 refine (empty_mp n N HN hn W).mono ?_
 rintro e w1 ⟨vn, rfl, hN0, hk1⟩
 obtain ⟨gn, cn, fn, rfl, _⟩ := id hN0
 have hz1 := repBlock hz0 hk1 (by simp)
 have hW1 := hW.keep hk1 (by simp)
 obtain ⟨ca, cb⟩ := repCells hz1
 go_upto_if 19 with (fail)
 go_cut [6, 7] from 17 to 23 (fun q6 q7 wx => ∃ gl cl, q6 = .int .i64 K ∧ q7 = .slice (some ⟨gl, 0, none⟩) N cl ∧ MP wx (fun x => W.heap.size ≤ x) N (.slice (some ⟨gl, 0, none⟩) N cl) (Left R mn mx K) ∧ Keeps [] w1 wx)
 case first =>
  by_cases hx : mx < 0
  ·have hx1 : mx = -1 := by omega
   have HL : Hid (∀ i j, Left R mn mx K i j ↔ Tm R 0 (-1) i j) := fun i j => by
    rw [HK.out, Left.last hf hmx, if_pos hx]
   have HKn : Hid (K = mn) := by
    have := HK.out
    unfold steps at this
    rw [if_pos hx] at this
    exact this
   subst hx1
   have hC := star_mp N n HN hn hle hin w1.drew (hW1.keep ((Keeps.refl [] w1).drewN 1) (by simp))
   clear hx hmx hmx5 hf
   go_wp2_with fail
   go_region_with (first | (go_at_call 162; refine hC.mono ?_; rintro e w2 ⟨vl, rfl, hL, hk2⟩; obtain ⟨gl, cl, fl, rfl, _⟩ := id hL; have hz2 := repCells (repBlock hz1 (((Keeps.refl [] w1).drewN 1).trans hk2) (by simp)); obtain ⟨cx, cy⟩ := hz2))
   all_goals
    have hL2 : MP w2 (fun x => W.heap.size ≤ x) N (.slice (some ⟨gl, 0, none⟩) N cl) (Left R mn (-1) K) := (hL.mono (S' := fun x => W.heap.size ≤ x) fun x hx _ => by have := hk1.size; simp at hx; omega).congr fun i j _ _ => (HL.out i j).symm
    have hk3 : Keeps [] w1 w2 := ((Keeps.refl [] w1).drewN 1).trans hk2
    have HKm : Hid (Value.int .i64 (mn : Int) = .int .i64 (K : Int)) := by show Value.int .i64 (mn : Int) = .int .i64 (K : Int); rw [HKn.out]
    clear hL hk2 hC hW hW1 hz0 hz1 hN0
    go_wp2_with fail
    go_meet
    case rel => exact ⟨gl, cl, HKm.out, rfl, hL2, hk3⟩
  ·have HL : Hid (∀ i j, Left R mn mx K i j ↔ i = j) := fun i j => by
      rw [HK.out, Left.last hf hmx, if_neg hx]
   have HKm : Hid (Value.int .i64 mx = .int .i64 (K : Int)) := by
    show Value.int .i64 mx = .int .i64 (K : Int)
    have := HK.out
    unfold steps at this
    rw [if_neg hx] at this
    congr
    omega
   have hx1 : (mx == -1) = false := by simp; omega
   have hL2 : MP w1 (fun x => W.heap.size ≤ x) N (.slice (some ⟨gn, 0, none⟩) N cn) (Left R mn mx K) := hN0.congr fun i j _ _ => (HL.out i j).symm
   go_wp2_with fail
   go_meet
   case rel => exact ⟨gn, cn, HKm.out, rfl, hL2, Keeps.refl _ _⟩
 case rest =>
  obtain ⟨gl, cl, rfl, rfl, hL, hkx⟩ := hcut
  obtain ⟨w2, hw2⟩ : ∃ w2 : World, w2 = wc := ⟨_, rfl⟩
  subst hw2
  have hz2 := repBlock hz1 hkx (by simp)
  have hW2 := hW1.keep hkx (by simp)
  have hN2 := hN0.keep hkx (by simp)
  have hkA := hk1.trans hkx
  obtain ⟨i0, hi0, hy0, hy1, hy2⟩ := info_parts infoMap
  have hun := Tryz.underlying148
  have hadd : (K : Int) + 1 ≤ 9223372036854775807 := by omega
  clear ca cb hW1 hN0 hk1 hkx hz0 hz1
  go_wp2_with (first | (refine wpList_make_full w2 rfl _ _ 148 rfl 0 63 i0 (.slice none 0 0) 1 hun hi0 hy0 hy1 .i64 .i64 ((K : Int) + 1) ((K : Int) + 1) M rfl rfl (by have := HM.out; omega) (by have := HM.out; omega) (by have := HM.out; rw [hy2]; omega) (by have := HM.out; unfold maxLen; omega) (Nat.zero_le _) ?_))
  intro w3 hown hgr
  have hk3 : Keeps [] w2 w3 := Keeps.ofGrownNone hgr
  have hz3 := repBlock hz2 hk3 (by simp)
  have hW3 := hW2.keep hk3 (by simp)
  obtain ⟨g, hg⟩ : ∃ g, g = w2.heap.size := ⟨_, rfl⟩
  rw [← hg] at hown ⊢
  have hgW : W.heap.size ≤ g := by have := hkA.size; omega
  have hN3 : MP w3 (fun x => W.heap.size ≤ x ∧ x ≠ g) N (.slice (some ⟨gn, 0, none⟩) N cn) (fun i j => i = j) := (hN2.mono (S' := fun x => W.heap.size ≤ x ∧ x ≠ g) fun x hx hy => ⟨hx, by omega⟩).keep hk3 (by simp)
  have hL3 : MP w3 (fun x => W.heap.size ≤ x ∧ x ≠ g) N (.slice (some ⟨gl, 0, none⟩) N cl) (Left R mn mx K) := (hL.mono (S' := fun x => W.heap.size ≤ x ∧ x ≠ g) fun x hx hy => ⟨hx, by omega⟩).keep hk3 (by simp)
  have F0 : FL W w3 g N M (Left R mn mx) (K + 1) := ⟨⟨_, hown, fun e h1 h2 => by have := HM.out; omega⟩, hkA.trans hk3, hgW⟩
  obtain ⟨⟨u0, hc0⟩, hf0⟩ := F0.cell (e := K) (by have := HM.out; omega)
  have F1 := F0.put (by have := HM.out; omega) hL3 (fun x hx => hx)
  have hkp : Keeps [g] w3 (w3.setCell ⟨g, K, none⟩ (.slice (some ⟨gl, 0, none⟩) N cl)) := (Keeps.refl [g] w3).setCell (p := ⟨g, K, none⟩) (by simp) _
  have hz4 := repBlock hz3 hkp (by simp; omega)
  have hN4 := hN3.keep hkp (by intro x hx; simp; exact hx.2)
  have hKi0 : (0 : Int) ≤ (K : Int) := by omega
  have hKi1 : (K : Int) < (M : Int) := by have := HM.out; omega
  have hM6 : (M : Int) ≤ 6 := by have := HM.out; omega
  clear hown hgr hk3 hkA hN2 hL hL3 hN3 F0 hz2 hz3 hg hW2 hW3
  go_wp2_with fail
  generalize w3.setCell ⟨g, K, none⟩ (.slice (some ⟨gl, 0, none⟩) N cl) = w4 at *
  clear hc0 hf0 hkp
  go_loopw [9] (fun q wr => ∃ d : Nat, d ≤ K ∧ q = .int .i64 ((d : Int) - 1) ∧ FL W wr g N M (Left R mn mx) d ∧ MP wr (fun x => W.heap.size ≤ x ∧ x ≠ g) N (.slice (some ⟨gn, 0, none⟩) N cn) (fun i j => i = j) ∧ wr.heap[g0]? = some (.cells #[.bool true, .int .i64 mn, .int .i64 mx] 178 (0, 0))) (fun q _ => (intOf q + 1).toNat)
  case atStart => exact ⟨K, Nat.le_refl _, rfl, F1, hN4, hz4⟩
  case round =>
   clear F1 hN4 hz4
   obtain ⟨d, hd, rfl, hF, hNn, hz⟩ := hrel
   cases d with
   | zero =>
    have e : (((0 : Nat) : Int) - 1) = -1 := by omega
    rw [e]
    have hend := hF.done.mono (S' := fun x => w.heap.size ≤ x) fun x hx _ => by omega
    have hkE := hk0.trans hF.keep
    go_wp2_with fail
    go_ret
    exact ⟨g, rfl, hend, hkE⟩
   | succ d =>
    have e : (((d + 1 : Nat) : Int) - 1) = (d : Int) := by omega
    rw [e]
    clear e
    obtain ⟨c, HC⟩ : ∃ c, Hid (c = d + 1) := ⟨_, rfl⟩
    have hdc : (d : Int) + 1 = (c : Int) := by have := HC.out; omega
    have hFc : FL W wr g N M (Left R mn mx) c := by have := HC.out; rw [this]; exact hF
    obtain ⟨u, hcu, hu⟩ := hFc.at (e := c) (Nat.le_refl _) (by have := HM.out; have := HC.out; omega)
    obtain ⟨gu, cu, fu, rfl, _⟩ := id hu
    obtain ⟨⟨u0, hc0⟩, hf0⟩ := hFc.cell (e := d) (by have := HM.out; omega)
    have hd0 : (0 : Int) ≤ (d : Int) := by omega
    have hd1 : (d : Int) < (M : Int) := by have := HM.out; omega
    have hd2 : (0 : Int) ≤ (c : Int) := by omega
    have hd3 : (c : Int) < (M : Int) := by have := HM.out; omega
    have HD : Hid (d + 1 ≤ K) := hd
    have hWr := hW.keep hFc.keep (by simp)
    have hC := then_mp N (by omega) hle hin wr hWr hu
    clear hd hF
    go_wp2_with fail
    refine hC.mono ?_
    rintro e w5 ⟨vt, rfl, hT, hk5⟩
    obtain ⟨gt, ct, ft, rfl, _⟩ := id hT
    have hF5 := hFc.keeps hk5
    have hF5' : FL W w5 g N M (Left R mn mx) (d + 1) := by have := HC.out; rw [← this]; exact hF5
    have hdM : d < M := by have := HM.out; have := HD.out; omega
    obtain ⟨⟨u5, hc5⟩, hf5⟩ := hF5.cell hdM
    have hN5 := hNn.keep hk5 (by simp)
    have hz5 := repBlock hz hk5 (by simp)
    obtain ⟨ca, cb⟩ := repCells hz5
    have hgg := hFc.glt
    have hnew : ∀ x, wr.heap.size ≤ x → W.heap.size ≤ x ∧ x ≠ g := by intro x hx; have := hFc.keep.size; omega
    have hkp : ∀ u, Keeps [g] w5 (w5.setCell ⟨g, d, none⟩ u) := fun u => (Keeps.refl [g] w5).setCell (p := ⟨g, d, none⟩) (by simp) _
    have hstep := fun i j => Left.step (R := R) (mn := mn) (mx := mx) (d := d) (i := i) (j := j) (by
      have h1 := HK.out
      have h2 := HD.out
      unfold steps at h1
      split at h1 <;> omega)
    have HS : Hid (∀ i j, Left R mn mx d i j ↔ ((mn ≤ d ∧ i = j) ∨ ∃ m, R i m ∧ Left R mn mx (d + 1) m j)) := hstep
    have HT : Hid (MP w5 (fun x => wr.heap.size ≤ x) N (.slice (some ⟨gt, 0, none⟩) N ct) (fun i j => ∃ m, R i m ∧ Left R mn mx (d + 1) m j)) := by
     have := HC.out
     rw [this] at hT
     exact hT
    clear hT hC hu hcu hF5 hFc hk5 hstep hc0 hf0 hz hNn
    by_cases hle2 : mn ≤ d
    ·have hge : (mn : Int) ≤ (d : Int) := by omega
     have hT6 := (HT.out.mono (S' := fun x => W.heap.size ≤ x ∧ x ≠ g) fun x hx _ => hnew x hx).keep (hkp (.slice (some ⟨gt, 0, none⟩) N ct)) (by intro x hx; simp; exact hx.2)
     have hF6 := hF5'.any (.slice (some ⟨gt, 0, none⟩) N ct)
     have hN6 := hN5.keep (hkp (.slice (some ⟨gt, 0, none⟩) N ct)) (by intro x hx; simp; exact hx.2)
     have hz6 := repBlock hz5 (hkp (.slice (some ⟨gt, 0, none⟩) N ct)) (by simp; omega)
     obtain ⟨cx, cy⟩ := repCells hz6
     have hc6 : (w5.setCell ⟨g, d, none⟩ (.slice (some ⟨gt, 0, none⟩) N ct)).cell? ⟨g, d, none⟩ = some (.slice (some ⟨gt, 0, none⟩) N ct) := World.cell?_setCell_same _ _ _ hc5
     have hkw : Keeps [] wr wr := Keeps.refl _ _
     have HG : Hid (mn ≤ d) := hle2
     clear hF5' hN5 hz5 ca cb hkp HT hle2
     go_upto_if 50 with (fail)
     generalize w5.setCell ⟨g, d, none⟩ (.slice (some ⟨gt, 0, none⟩) N ct) = w6 at *
     have hC := or_mp N (by omega) w6 hT6 hN6
     go_wp2_with fail
     refine hC.mono ?_
     rintro e w7 ⟨vo, rfl, hO, hk7⟩
     obtain ⟨go, co, fo, rfl, _⟩ := id hO
     have hF7 := hF6.keeps hk7
     obtain ⟨⟨u7, hc7⟩, hf7⟩ := hF7.cell hdM
     have hnew7 : ∀ x, w6.heap.size ≤ x → W.heap.size ≤ x ∧ x ≠ g := by intro x hx; have h1 := hF6.keep.size; have h2 := hF6.glt; omega
     have hkp : Keeps [g] w7 (w7.setCell ⟨g, d, none⟩ (.slice (some ⟨go, 0, none⟩) N co)) := (Keeps.refl [g] w7).setCell (p := ⟨g, d, none⟩) (by simp) _
     have hF8 := hF7.put hdM (u := .slice (some ⟨go, 0, none⟩) N co) (hO.congr fun i j _ _ => by
       rw [HS.out]
       constructor
       · rintro (h | h)
         · exact Or.inr h
         · exact Or.inl ⟨HG.out, h⟩
       · rintro (⟨_, h⟩ | h)
         · exact Or.inr h
         · exact Or.inl h) hnew7
     have hN8 := (hN6.keep hk7 (by simp)).keep hkp (by intro x hx; simp; exact hx.2)
     have hz8 := repBlock (repBlock hz6 hk7 (by simp)) hkp (by simp; omega)
     clear hC hO hk7 hF6 hF7 hN6 hz6 hT6 hkp
     go_wp2_with fail
     go_roundw
     case rel => exact ⟨d, by have := HD.out; omega, by go_num, hF8, hN8, hz8⟩
     case measure => simp [intOf]
    ·have hlt : ¬ (mn : Int) ≤ (d : Int) := by omega
     have hF6 := hF5'.put hdM (u := .slice (some ⟨gt, 0, none⟩) N ct) (HT.out.congr fun i j _ _ => by
       rw [HS.out]
       constructor
       · exact Or.inr
       · rintro (⟨h, _⟩ | h)
         · omega
         · exact h) hnew
     have hN6 := hN5.keep (hkp (.slice (some ⟨gt, 0, none⟩) N ct)) (by intro x hx; simp; exact hx.2)
     have hz6 := repBlock hz5 (hkp (.slice (some ⟨gt, 0, none⟩) N ct)) (by simp; omega)
     obtain ⟨cx, cy⟩ := repCells hz6
     clear hF5' hN5 hz5 ca cb hkp HT
     go_wp2_with fail
     go_roundw
     case rel => exact ⟨d, by have := HD.out; omega, by go_num, hF6, hN6, hz6⟩
     case measure => simp [intOf]
end Go.Proofs.YtnfojonmohijpabGreatDoor
namespace Go.Proofs.YtnfojonmohijpabGreatDoor
open Go.RowKit
def upB (B n : Nat) : List Nat := (List.range n).filter fun k => decide (B ≤ k)
theorem upB_not {B n g : Nat} (h : g < B) : g ∉ upB B n := by
 intro hm
 simp [upB] at hm
 omega
theorem Keeps.ofBelow {B : Nat} {w w' : World} (h : Below B w w') : Keeps (upB B w.heap.size) w w' :=
 ⟨h.os, h.tape, h.output, h.size, fun j hj hn => h.block j (by
   apply Classical.byContradiction
   intro hc
   exact hn (by simp [upB]; omega))⟩
theorem Below.ofKeeps {B : Nat} {w w' : World} {S : List Nat} (h : Keeps S w w') (hB : B ≤ w.heap.size) (hs : ∀ g, g ∈ S → B ≤ g) : Below B w w' :=
 ⟨h.os, h.tape, h.output, h.size, fun k hk => h.block k (by omega) (fun hm => by have := hs k hm; omega)⟩
theorem Below.join {B : Nat} {a w w' : World} (h : Below B a w) (k : Below B w w') : Below B a w' :=
 ⟨k.os.trans h.os, k.tape.trans h.tape, k.output.trans h.output, Nat.le_trans h.size k.size, fun j hj => (k.block j hj).trans (h.block j hj)⟩
def BD (w : World) (B b : Nat) (l : List UInt8) : Prop :=
 B ≤ b ∧ ∃ p v, (p = .pointer none ∨ p = .pointer (some ⟨b, 0, none⟩)) ∧ w.heap[b]? = some (.cells #[p, v] 119 (0, 0)) ∧ w.ownsRow B 5 1 v l.length (Lib.byteCells l) ∧ v.ownBlock ≠ some b ∧ (l = [] → v = .slice none 0 0)
theorem BD.keep {w w' : World} {B b : Nat} {l : List UInt8} (h : BD w B b l) (hk : Keeps [] w w') : BD w' B b l := by
 obtain ⟨hB, p, v, hp, hb, ho, hn, h0⟩ := h
 exact ⟨hB, p, v, hp, (hk.block b (Array.getElem?_eq_some_iff.1 hb).1 (by simp)).trans hb, ho.keep hk (by simp), hn, h0⟩
theorem sizeBld : (Tryz.prog.info? 119).map (·.size) = some 2 := by kernel_rfl
theorem liesBld : liesAt Tryz.prog Tryz.prog.depth 119 (2 / Tryz.prog.cellsOf 119) 0 119 1 = true := by kernel_rfl
theorem undPB : Tryz.prog.underlying 117 = some (.pointer 119) := by kernel_rfl
theorem undUP : Tryz.prog.underlying 213 = some .unsafePointer := by kernel_rfl
set_option maxHeartbeats 1000000 in
set_option maxRecDepth 100000 in
theorem copyCheck_used (b : Nat) (w : World) (h0 : w.cell? ⟨b, 0, none⟩ = some (.pointer (some ⟨b, 0, none⟩))) :
    Calls Tryz.prog 88 #[.pointer (some ⟨b, 0, none⟩)] w fun e w' => e = .returned (.tuple #[]) ∧ w' = w := by
 obtain ⟨j, hj, _⟩ := Option.map_eq_some_iff.1 sizeBld
 have hne := Lib.run_neq_ptr_same (P := Tryz.prog) w ⟨b, 0, none⟩ undPB hj
 go_enter Tryz.func88, Tryz.ntmps88
 go_wp2_with fail
 go_end0
 exact ⟨rfl, rfl⟩
set_option maxHeartbeats 1000000 in
set_option maxRecDepth 100000 in
theorem copyCheck_fresh (b : Nat) (w : World) (h0 : w.cell? ⟨b, 0, none⟩ = some (.pointer none)) (hsh : w.shape? b = some (119, 2)) (hfz : w.frozen? ⟨b, 0, none⟩ = false) :
    Calls Tryz.prog 88 #[.pointer (some ⟨b, 0, none⟩)] w fun e w' => e = .returned (.tuple #[]) ∧ w' = w.setCell ⟨b, 0, none⟩ (.pointer (some ⟨b, 0, none⟩)) := by
 obtain ⟨j, hj, hjs⟩ := Option.map_eq_some_iff.1 sizeBld
 have e1 := Lib.run_to_unsafe (P := Tryz.prog) w ⟨b, 0, none⟩ undPB undUP hj (by rw [hjs]; decide) hsh (Nat.zero_lt_succ 1)
 have e2 : (callFunc 119 #[.pointer (some ⟨b, 0, none⟩)]).run Tryz.prog w = .ok (.value (.pointer (some ⟨b, 0, none⟩))) w := by
  rw [run_callFunc_extern Tryz.func119 (by kernel_rfl) (by kernel_rfl) (by kernel_rfl) (e := Extern.AbiNoEscape.same) (by kernel_rfl), Lib.run_noEscape]
  rfl
 have e3 := Lib.run_from_unsafe (P := Tryz.prog) w ⟨b, 0, none⟩ undUP undPB hj hsh liesBld
 go_enter Tryz.func88, Tryz.ntmps88
 go_wp2_with fail
 go_end0
 exact ⟨rfl, rfl⟩
theorem copyCheck_any (B b : Nat) (l : List UInt8) (w : World) (h : BD w B b l) :
    Calls Tryz.prog 88 #[.pointer (some ⟨b, 0, none⟩)] w fun e w' => e = .returned (.tuple #[]) ∧ Below B w w' ∧ Lib.OthersKept 5 (some b) w w' ∧ ∃ v, w'.heap[b]? = some (.cells #[.pointer (some ⟨b, 0, none⟩), v] 119 (0, 0)) ∧ w'.ownsRow B 5 1 v l.length (Lib.byteCells l) ∧ v.ownBlock ≠ some b ∧ (l = [] → v = .slice none 0 0) := by
 obtain ⟨hB, p, v, hp, hb, ho, hn, h0⟩ := h
 rcases hp with rfl | rfl
 ·have hc : Lib.BuilderAt 119 5 B b (.pointer none) (Lib.byteCells l) w := ⟨hB, v, hb, by rw [Lib.byteCells_length]; exact ho, hn⟩
  refine (copyCheck_fresh b w hc.cell0 hc.shape hc.frozen0).mono ?_
  rintro e w' ⟨rfl, rfl⟩
  refine ⟨rfl, (Below.refl B w).setCell (p := ⟨b, 0, none⟩) hB _, (Lib.OthersKept.refl _ _ w).setCell ⟨b, 0, none⟩ rfl _, v, ?_, ho.setOther (a := ⟨b, 0, none⟩) hn _, hn, h0⟩
  simp [World.setCell, Array.getElem?_modify, hb]
 ·refine (copyCheck_used b w (by rw [Lib.cell_of_heap hb]; rfl)).mono ?_
  rintro e w' ⟨rfl, rfl⟩
  exact ⟨rfl, Below.refl B _, Lib.OthersKept.refl _ _ _, v, hb, ho, hn, h0⟩
theorem BD.put {w : World} {B b : Nat} {p v v' : Value} {l : List UInt8} (hB : B ≤ b) (hp : p = .pointer none ∨ p = .pointer (some ⟨b, 0, none⟩)) (hb : w.heap[b]? = some (.cells #[p, v] 119 (0, 0))) (ho : w.ownsRow B 5 1 v' l.length (Lib.byteCells l)) (h0 : l = [] → v' = .slice none 0 0) : BD (w.setCell ⟨b, 1, none⟩ v') B b l := by
 have hne := Lib.ownBlock_ne ho hb (by decide)
 refine ⟨hB, p, v', hp, ?_, ho.setOther (a := ⟨b, 1, none⟩) hne _, hne, h0⟩
 simp [World.setCell, Array.getElem?_modify, hb]
theorem byteCells_snoc (l : List UInt8) (u : UInt8) : Lib.byteCells (l ++ [u]) = Lib.byteCells l ++ [.int .u8 (u.toNat : Int)] := by simp [Lib.byteCells]
theorem byteCells_app (l m : List UInt8) : Lib.byteCells (l ++ m) = Lib.byteCells l ++ Lib.byteCells m := by simp [Lib.byteCells]
theorem strCells_nmB (l : List UInt8) : Lib.strCells (nmB l) = Lib.byteCells l := by simp [Lib.strCells, Lib.byteCells, nmB]
set_option maxHeartbeats 2000000 in
set_option maxRecDepth 100000 in
theorem writeByte_any (B b : Nat) (l : List UInt8) (u : UInt8) (c : Int) (hc : c = (u.toNat : Int)) (w : World) (h : BD w B b l) (hlen : l.length ≤ 1000000000) (hBw : B ≤ w.heap.size) :
    Calls Tryz.prog 53 #[.pointer (some ⟨b, 0, none⟩), .int .u8 c] w fun e w' => e = .returned .nilIface ∧ BD w' B b (l ++ [u]) ∧ Below B w w' ∧ Lib.OthersKept 5 (some b) w w' := by
 subst hc
 obtain ⟨i0, hi0, hz0, hz1, hz2⟩ := info_parts Tryz.infoByte
 have hB := h.1
 go_enter Tryz.func53, Tryz.ntmps53
 go_wp2_with fail
 refine (copyCheck_any B b l _ h).mono ?_
 rintro e w1 ⟨rfl, hb1, hk1, v, hbk, hown, hne, h0⟩
 have c0 : w1.cell? ⟨b, 0, none⟩ = some (.pointer (some ⟨b, 0, none⟩)) := by rw [Lib.cell_of_heap hbk]; rfl
 have c1 : w1.cell? ⟨b, 1, none⟩ = some v := by rw [Lib.cell_of_heap hbk]; rfl
 have hlt : b < w1.heap.size := (Array.getElem?_eq_some_iff.1 hbk).1
 have hsz := hb1.size
 have hun := Tryz.underlying44
 have hlm : l.length + 1 ≤ maxLen := by unfold maxLen; omega
 go_wp2_with (at_builtin; refine wpList_append_lies _ rfl _ _ _ rfl B 5 i0 (.int .u8 0) 1 1 hun hi0 hz0 hz1 hz2 rfl (by decide) v l.length _ rfl (hown.alloc _) ⟨w1.heap.size, 0, none⟩ 1 1 [.int .u8 (u.toNat : Int)] rfl rfl ?c1 ?c2 ?c3 hlm ?c4 ?c5 (w1.heap.size + 1) ?c6 ?_)
 case c1 =>
  intro j u hj
  match j, hj with
  | 0, hj => simp at hj; subst hj; simp [Addr.add]
 case c2 => intro u hu; simp at hu; subst hu; rfl
 case c3 => omega
 case c4 => omega
 case c5 => simp; omega
 case c6 => simp
 intro g cap w4 hown4 hgrow hat hlt4
 have hb4 : w4.heap[b]? = some (.cells #[.pointer (some ⟨b, 0, none⟩), v] 119 (0, 0)) := by
  rw [hgrow.block b (by simp; omega) (fun e => hne e.symm), Lib.alloc_old w1 _ b hlt]
  exact hbk
 have d0 : w4.cell? ⟨b, 0, none⟩ = some (.pointer (some ⟨b, 0, none⟩)) := by rw [Lib.cell_of_heap hb4]; rfl
 have d1 : w4.cell? ⟨b, 1, none⟩ = some v := by rw [Lib.cell_of_heap hb4]; rfl
 have f1 : w4.frozen? ⟨b, 1, none⟩ = false := Lib.frozen_of_heap hb4 1
 go_wp2_with fail
 go_ret
 refine ⟨rfl, BD.put hB (Or.inr rfl) hb4 (by rw [byteCells_snoc, List.length_append, List.length_singleton]; exact hown4) (by intro h; simp at h), ?_, ((hk1.alloc _).grown hgrow (Lib.ownsRowF_kind (World.ownsRowF_of (hown.alloc _)))).setCell ⟨b, 1, none⟩ rfl _⟩
 exact ((hb1.alloc (by omega) _).grown hgrow (by simp; omega) (fun k hk => (hown.lt k hk).1)).setCell (p := ⟨b, 1, none⟩) hB _
set_option maxHeartbeats 2000000 in
set_option maxRecDepth 100000 in
theorem writeString_any (B b : Nat) (l m : List UInt8) (w : World) (h : BD w B b l) (hlen : l.length ≤ 1000000000) (hlm' : m.length ≤ 1000000000) (hBw : B ≤ w.heap.size) :
    Calls Tryz.prog 50 #[.pointer (some ⟨b, 0, none⟩), .string (nmB m)] w fun e w' => (∃ v, e = .returned v) ∧ BD w' B b (l ++ m) ∧ Below B w w' ∧ Lib.OthersKept 5 (some b) w w' := by
 obtain ⟨i0, hi0, hz0, hz1, hz2⟩ := info_parts Tryz.infoByte
 have hB := h.1
 have hms : (nmB m).size = m.length := nmB_size m
 go_enter Tryz.func50, Tryz.ntmps50
 go_wp2_with fail
 refine (copyCheck_any B b l _ h).mono ?_
 rintro e w1 ⟨rfl, hb1, hk1, v, hbk, hown, hne, h0⟩
 have c0 : w1.cell? ⟨b, 0, none⟩ = some (.pointer (some ⟨b, 0, none⟩)) := by rw [Lib.cell_of_heap hbk]; rfl
 have c1 : w1.cell? ⟨b, 1, none⟩ = some v := by rw [Lib.cell_of_heap hbk]; rfl
 have hlt : b < w1.heap.size := (Array.getElem?_eq_some_iff.1 hbk).1
 have hsz := hb1.size
 have hun := Tryz.underlying44
 have hus := Tryz.underlying9
 have hlm : l.length + (nmB m).size ≤ maxLen := by unfold maxLen; omega
 have hlb : l.length + (nmB m).size ≤ 140737488355328 := by omega
 clear hms
 go_wp2_with (at_builtin; refine Lib.wpList_append_own_string _ rfl _ _ 44 9 rfl B 5 i0 hun hus hi0 hz0 hz1 hz2 _ _ _ rfl hown (nmB m) rfl ?c3 ?c4 ?c5 ?_)
 case c3 => exact hlm
 case c4 => exact hlb
 case c5 => omega
 intro v' w4 hown4 hgrow hnil
 have hb4 : w4.heap[b]? = some (.cells #[.pointer (some ⟨b, 0, none⟩), v] 119 (0, 0)) := by
  rw [hgrow.block b hlt (fun e => hne e.symm)]
  exact hbk
 have d0 : w4.cell? ⟨b, 0, none⟩ = some (.pointer (some ⟨b, 0, none⟩)) := by rw [Lib.cell_of_heap hb4]; rfl
 have d1 : w4.cell? ⟨b, 1, none⟩ = some v := by rw [Lib.cell_of_heap hb4]; rfl
 have f1 : w4.frozen? ⟨b, 1, none⟩ = false := Lib.frozen_of_heap hb4 1
 obtain ⟨va, vn, vc, rfl⟩ : ∃ a n c, v' = .slice a n c := by
  rcases hown4.2 with ⟨hv, _⟩ | ⟨g, cap, cur, hv, _⟩
  ·exact ⟨_, _, _, hv⟩
  ·exact ⟨_, _, _, hv⟩
 go_wp2_with fail
 go_ret2
 refine ⟨⟨_, rfl⟩, BD.put hB (Or.inr rfl) hb4 (by rw [byteCells_app, List.length_append, ← strCells_nmB m]; simpa [nmB_size] using hown4) ?_, ?_, (hk1.grown hgrow (Lib.ownsRowF_kind (World.ownsRowF_of hown))).setCell ⟨b, 1, none⟩ rfl _⟩
 ·intro hn
  have h1 := List.append_eq_nil_iff.1 hn
  exact hnil.2 ⟨h0 h1.1, by rw [h1.2]; rfl⟩
 ·exact (hb1.grown hgrow (by omega) (fun k hk => (hown.lt k hk).1)).setCell (p := ⟨b, 1, none⟩) hB _
set_option maxHeartbeats 2000000 in
set_option maxRecDepth 100000 in
theorem string_nil (B b : Nat) (p : Value) (w : World) (hbk : w.heap[b]? = some (.cells #[p, .slice none 0 0] 119 (0, 0))) :
    Calls Tryz.prog 52 #[.pointer (some ⟨b, 0, none⟩)] w fun e w' => e = .returned (.string (nmB [])) ∧ Below B w w' := by
 have hUS : ∀ (W : World) (q : Option Addr), (Builtin.unsafeString_ #[172, 3] 9 #[.pointer q, .int .i64 0]).run Tryz.prog W = .ok (.string .empty) W := fun W q => Lib.run_unsafeString_none W _ _ _ q
 have c1 : w.drew.cell? ⟨b, 1, none⟩ = some (.slice none 0 0) := by
  have : w.drew.heap[b]? = some (.cells #[p, .slice none 0 0] 119 (0, 0)) := hbk
  rw [Lib.cell_of_heap this]; rfl
 have hSD : (Builtin.unsafeSliceData_ #[44] 172 #[.slice none 0 0]).run Tryz.prog w.drew = .ok (.pointer none) w.drew := rfl
 go_enter Tryz.func52, Tryz.ntmps52
 go_wp2_with fail
 go_region
 all_goals (go_wp2_with fail; go_ret; exact ⟨rfl, Below.drew (Below.refl B w)⟩)
set_option maxHeartbeats 2000000 in
set_option maxRecDepth 100000 in
theorem string_some (B b : Nat) (l : List UInt8) (w : World) (h : BD w B b l) (h0 : l ≠ []) :
    Calls Tryz.prog 52 #[.pointer (some ⟨b, 0, none⟩)] w fun e w' => e = .returned (.string (nmB l)) ∧ Below B w w' := by
 obtain ⟨hB, p, v, hp, hbk, hown, hne, _⟩ := h
 have hl0 : l.length ≠ 0 := by simpa using h0
 obtain ⟨g, cap, cur, rfl, hbg, hg, hnc, hcm, hcs, htake⟩ : ∃ g cap cur, v = .slice (some ⟨g, 0, none⟩) l.length cap ∧ B ≤ g ∧ w.heap[g]? = some (.cells cur 5 (0, 0)) ∧ l.length ≤ cap ∧ cap ≤ maxLen ∧ cur.size = cap * 1 ∧ cur.toList.take (l.length * 1) = Lib.byteCells l := by
  rcases hown.2 with ⟨_, hz⟩ | ⟨g, cap, cur, hv, r⟩
  ·exact absurd hz hl0
  ·exact ⟨g, cap, cur, hv, r⟩
 have c1 : w.drew.cell? ⟨b, 1, none⟩ = some (.slice (some ⟨g, 0, none⟩) l.length cap) := by
  have : w.drew.heap[b]? = some (.cells #[p, .slice (some ⟨g, 0, none⟩) l.length cap] 119 (0, 0)) := hbk
  rw [Lib.cell_of_heap this]; rfl
 have hSD : (Builtin.unsafeSliceData_ #[44] 172 #[.slice (some ⟨g, 0, none⟩) l.length cap]).run Tryz.prog w.drew = .ok (.pointer (some ⟨g, 0, none⟩)) w.drew :=
  Lib.run_unsafeSliceData_row _ _ _ _ _ _ (by omega)
 have hUS : (Builtin.unsafeString_ #[172, 3] 9 #[.pointer (some ⟨g, 0, none⟩), .int .i64 l.length]).run Tryz.prog w.drew = .ok (.string (nmB l)) (w.drew.freeze ⟨g, 0, none⟩ l.length) := by
  refine Lib.run_unsafeString_row w.drew 172 3 9 5 Tryz.underlying172 (by kernel_rfl) g cur.size (by have hg' : w.drew.heap[g]? = some (.cells cur 5 (0, 0)) := hg; simp [World.shape?, hg']) l h0 (by omega) (by unfold maxLen at hcm; omega) ?_
  intro j x hx
  have := hown.cells (g := g) rfl j (.int .u8 x.toNat) (by simp [Lib.byteCells, hx])
  exact this
 go_enter Tryz.func52, Tryz.ntmps52
 go_wp2_with fail
 go_region
 all_goals (go_wp2_with fail; go_ret; exact ⟨rfl, Lib.below_freeze (Below.drew (Below.refl B w)) (p := ⟨g, 0, none⟩) hbg _⟩)
theorem string_any (B b : Nat) (l : List UInt8) (w : World) (h : BD w B b l) :
    Calls Tryz.prog 52 #[.pointer (some ⟨b, 0, none⟩)] w fun e w' => e = .returned (.string (nmB l)) ∧ Below B w w' := by
 by_cases h0 : l = []
 ·subst h0
  obtain ⟨hB, p, v, hp, hbk, hown, hne, hv⟩ := h
  rw [hv rfl] at hbk
  exact string_nil B b p w hbk
 ·exact string_some B b l w h h0
end Go.Proofs.YtnfojonmohijpabGreatDoor
namespace Go.Proofs.YtnfojonmohijpabGreatDoor
open Go.RowKit
theorem add_off (g off j : Nat) : (⟨g, off, none⟩ : Addr).add j = ⟨g, off + j, none⟩ := by unfold Addr.add; split <;> simp_all
theorem run_loadVar_at (w : World) (g off : Nat) (ty : TypeId) (cs : List Value) (d : TypeDesc) (hc : ∀ j v, cs[j]? = some v → w.cell? ⟨g, off + j, none⟩ = some v)
    (hu : Tryz.prog.underlying ty = some d) (hd : (match d with | .struct _ | .array _ _ => true | _ => false) = true) (hi : (Tryz.prog.info? ty).map (·.size) = some cs.length) :
    (loadVar ty ⟨g, off, none⟩).run Tryz.prog w = .ok (.agg cs.toArray) w := by
 have hl : (loadCells ⟨g, off, none⟩ cs.length).run Tryz.prog w = .ok cs.toArray w :=
  run_loadCells_list (P := Tryz.prog) w ⟨g, off, none⟩ cs (fun j v hv => by rw [add_off]; exact hc j v hv)
 cases hq : Tryz.prog.info? ty with
 | none => simp [hq] at hi
 | some i =>
  have hs : i.size = cs.length := by simpa [hq] using hi
  have hagg : (isAgg ty).run Tryz.prog w = .ok true w := by
   unfold isAgg
   rw [Sem.run_bind, run_underlying hu w]
   cases d <;> simp_all
  simp [loadVar, Sem.run_bind, hagg, sizeOf, typeInfo, hq, hs, hl]
theorem wpList_load_at {ops : Array Oper} {rest : List Oper} {o : Oper} {a : Act} {w : World} {Q : Exit → Act → World → Prop} (hgd : o.guard = none) (ty : TypeId) (x : Operand) (ho : o.op = .load ty x)
    (g off : Nat) (hx : a.eval x = .pointer (some ⟨g, off, none⟩)) (cs : List Value) (d : TypeDesc) (hc : ∀ j v, cs[j]? = some v → w.cell? ⟨g, off + j, none⟩ = some v)
    (hu : Tryz.prog.underlying ty = some d) (hd : (match d with | .struct _ | .array _ _ => true | _ => false) = true) (hi : (Tryz.prog.info? ty).map (·.size) = some cs.length)
    (h : wpList Tryz.prog ops Q rest (a.put o.dst (.agg cs.toArray)) w) : wpList Tryz.prog ops Q (o :: rest) a w := by
 refine wpList_plain hgd fun K hK => ?_
 unfold Oper.wp execOp
 simp only [ho, hx, Instr.loadAt, Instr.sureAddr, Sem.run_bind, Sem.run_pure, Result.andThen_ok, run_loadVar_at w g off ty cs d hc hu hd hi]
 exact hK _ _ h
def wl : Pat → List Pat
 | .wone x => [x]
 | .wcons x r => x :: wl r
 | _ => []
def pl : Pat → List Pat
 | .pcons x r => x :: pl r
 | _ => []
def tw : Nat → List Pat → List UInt8
 | _, [] => []
 | k, x :: r => (if 0 < k then [124] else []) ++ patT x ++ tw (k + 1) r
def tp (l : List Pat) : List UInt8 := l.flatMap patT
theorem Rep.wl_text {w : World} {S : Nat → Prop} {x : Pat} {vs : List Value} (h : Rep w S .wlist x vs) : (∀ k, tw k (wl x) = (if 0 < k then [124] else []) ++ patT x) ∧ (wl x).length = vs.length ∧ (∀ (i : Nat) (y : Pat), (wl x)[i]? = some y → ∃ u, vs[i]? = some u ∧ Rep w S .way y [u] ∧ y.sz < x.sz) := by
 generalize hk : Kr.wlist = kk at h
 induction h with
 | wone x v h1 _ =>
  refine ⟨fun k => by simp [wl, tw, patT], rfl, ?_⟩
  intro i y hy
  match i, hy with
  | 0, hy => simp [wl] at hy; subst hy; exact ⟨v, rfl, h1, by simp [Pat.sz]⟩
 | wcons x r v vs h1 _ _ ih =>
  obtain ⟨a, b, c⟩ := ih rfl
  refine ⟨fun k => by simp [wl, tw, patT, a (k + 1)], by simp [wl, b], ?_⟩
  intro i y hy
  match i, hy with
  | 0, hy => simp [wl] at hy; subst hy; exact ⟨v, rfl, h1, by simp [Pat.sz]; omega⟩
  | i + 1, hy =>
   obtain ⟨u, h2, h3, h4⟩ := c i y (by simpa [wl] using hy)
   exact ⟨u, by simpa using h2, h3, by simp [Pat.sz]; omega⟩
 | _ => cases hk
theorem Rep.pl_text {w : World} {S : Nat → Prop} {x : Pat} {cs : List Value} (h : Rep w S .plist x cs) : tp (pl x) = patT x ∧ cs.length = (pl x).length * 261 ∧ (∀ (i : Nat) (y : Pat), (pl x)[i]? = some y → ∃ ds, Rep w S .piece y ds ∧ (∀ (j : Nat) (u : Value), ds[j]? = some u → cs[i * 261 + j]? = some u) ∧ y.sz < x.sz) := by
 generalize hk : Kr.plist = kk at h
 induction h with
 | pnil => exact ⟨rfl, rfl, by intro i y hy; simp [pl] at hy⟩
 | pcons x r cs ds h1 _ _ ih =>
  obtain ⟨a, b, c⟩ := ih rfl
  have hl : cs.length = 261 := h1.cells.2
  refine ⟨by simp [pl, tp, patT] at a ⊢; exact a, by simp [pl, b, hl]; omega, ?_⟩
  intro i y hy
  match i, hy with
  | 0, hy =>
   simp [pl] at hy
   subst hy
   refine ⟨cs, h1, ?_, by simp [Pat.sz]; omega⟩
   intro j u hu
   have hj : j < cs.length := by
    rcases Nat.lt_or_ge j cs.length with h | h
    ·exact h
    ·rw [List.getElem?_eq_none h] at hu; cases hu
   rw [Nat.zero_mul, Nat.zero_add, List.getElem?_append_left hj]
   exact hu
  | i + 1, hy =>
   obtain ⟨es, h2, h3, h4⟩ := c i y (by simpa [pl] using hy)
   refine ⟨es, h2, ?_, by simp [Pat.sz]; omega⟩
   intro j u hu
   have := h3 j u hu
   rw [List.getElem?_append_right (by omega), hl]
   have e : (i + 1) * 261 + j - 261 = i * 261 + j := by omega
   rw [e]
   exact this
 | _ => cases hk
theorem sz_rep (x : Pat) (o : Option (Nat × Int)) : x.sz ≤ (withRep x o).sz := by
 cases o with
 | none => exact Nat.le_refl _
 | some p => obtain ⟨m, n⟩ := p; simp [withRep, Pat.sz]
theorem sz_pos (x : Pat) : 0 < x.sz := by cases x <;> simp [Pat.sz] <;> omega
end Go.Proofs.YtnfojonmohijpabGreatDoor
namespace Go.Proofs.YtnfojonmohijpabGreatDoor
open Go.RowKit
structure WF (B b : Nat) (w w' : World) : Prop where
 below : Below B w w'
 others : Lib.OthersKept 5 (some b) w w'
theorem WF.refl (B b : Nat) (w : World) : WF B b w w := ⟨Below.refl B w, Lib.OthersKept.refl _ _ w⟩
theorem WF.trans {B b : Nat} {a w w' : World} (h : WF B b a w) (k : WF B b w w') : WF B b a w' := ⟨Below.join h.below k.below, h.others.trans k.others⟩
theorem WF.ofKeeps {B b : Nat} {w w' : World} (h : Keeps [] w w') (hB : B ≤ w.heap.size) : WF B b w w' :=
 ⟨Below.ofKeeps h hB (by simp), fun k o hk _ _ => (h.block k (Array.getElem?_eq_some_iff.1 hk).1 (by simp)).trans hk⟩
theorem row_wf {w w' : World} {B b g : Nat} {cs : Array Value} {T : TypeId} {fr : Nat × Nat} (h : w.heap[g]? = some (.cells cs T fr)) (hT : T ≠ 5) (hg : g ≠ b) (hf : WF B b w w') : w'.heap[g]? = some (.cells cs T fr) :=
 hf.others g _ h (by simpa using hg) (by intro c fz e; cases e; exact hT rfl)
theorem BD.lt {w : World} {B b : Nat} {l : List UInt8} (h : BD w B b l) : b < w.heap.size := by
 obtain ⟨_, p, v, _, hb, _⟩ := h
 exact (Array.getElem?_eq_some_iff.1 hb).1
theorem sc_cells {w : World} {g : Nat} {k v : Value} {f : Nat → Bool} {T : TypeId} {fr : Nat × Nat} (h : w.heap[g]? = some (.cells (sc k v f).toArray T fr)) :
    w.cell? ⟨g, 0, none⟩ = some k ∧ w.cell? ⟨g, 1, none⟩ = some v ∧ ∀ j u, (hcells f).toList[j]? = some u → w.cell? ⟨g, 2 + j, none⟩ = some u := by
 refine ⟨by rw [Lib.cell_of_heap h]; rfl, by rw [Lib.cell_of_heap h]; rfl, ?_⟩
 intro j u hu
 rw [Lib.cell_of_heap h]
 have e : 2 + j = j + 1 + 1 := by omega
 rw [e]
 simpa [sc] using hu
end Go.Proofs.YtnfojonmohijpabGreatDoor
namespace Go.Proofs.YtnfojonmohijpabGreatDoor
def shp : Pat → Kd → Prop
 | .set _, .single => True
 | .set _, .piece => True
 | .grp _ x, .single => shp x .ways
 | .grp _ x, .piece => shp x .ways
 | .rep mn mx x, .piece => mn ≤ 5 ∧ -1 ≤ mx ∧ mx ≤ 5 ∧ shp x .single
 | .pnil, .way => True
 | .pcons x r, .way => shp x .piece ∧ shp r .way
 | .wone x, .ways => shp x .way
 | .wcons x r, .ways => shp x .way ∧ shp r .ways
 | _, _ => False
theorem shp_up {x : Pat} (h : shp x .single) : shp x .piece := by
 cases x <;> first | exact h | exact h.elim
theorem RepR.bd {s : ByteArray} {j k mn : Nat} {mx : Int} (h : RepR s j (.ok (Option.some (mn, mx)) k)) : mn ≤ 5 ∧ -1 ≤ mx ∧ mx ≤ 5 := by
 rcases h with ⟨_, _, _, _, e⟩ | ⟨_, e⟩ | ⟨_, e⟩ | ⟨_, e⟩ | ⟨_, q1, n, e⟩
 ·cases e
 ·cases e; omega
 ·cases e; omega
 ·cases e; omega
 ·cases q1 with
  | bad l => cases e
  | ok m l =>
   have hm := (n.ok m l rfl).2.2.1 (by omega)
   rcases e with ⟨_, _, e⟩ | ⟨_, _, q2, n', e⟩ | ⟨_, e⟩
   ·cases e; omega
   ·cases q2 with
    | bad x => cases e
    | ok y x =>
     have hy := (n'.ok y x rfl).2.2.1 (by omega)
     simp only [Rep3] at e
     by_cases h5 : at' s x = 125
     ·rw [if_pos h5] at e; cases e; omega
     ·rw [if_neg h5] at e; cases e
   ·by_cases h5 : at' s l = 125
    ·rw [if_pos h5] at e; cases e; omega
    ·rw [if_neg h5] at e; cases e
def szL : Kd → Nat
 | .single => 2
 | .piece => 2
 | _ => 0
def szR : Kd → Nat
 | .way => 1
 | .ways => 2
 | _ => 0
theorem G.shp {s : ByteArray} {k : Kd} {d g i : Nat} {q : R (Pat × Nat)} (h : G s k d g i q) : ∀ x g1 j, q = .ok (x, g1) j → shp x k ∧ x.sz + szL k ≤ 4 * (j - i) + szR k := by
 induction h with
 | one d g i g1 j x hg e ih => intro x' g1' j' e'; cases e'; have := ih x g1 j rfl; exact ⟨this.1, by simp only [Pat.sz, szL, szR] at this ⊢; omega⟩
 | more d g i g1 j x q hg e hg2 ih ih2 =>
  intro x' g1' j' e'
  cases q with
  | bad l => cases e'
  | ok y l =>
   have h1 := ih x g1 j rfl
   have h2 := ih2 y.1 y.2 l rfl
   have o1 := hg.okb x g1 j rfl
   have o2 := hg2.okb y.1 y.2 l rfl
   cases e'
   refine ⟨⟨h1.1, h2.1⟩, ?_⟩
   simp only [Pat.sz, szL, szR] at h1 h2 ⊢; omega
 | wbad => intro x' g1' j' e'; cases e'
 | nil d g i e => intro x' g1' j' e'; cases e'; exact ⟨trivial, by simp [Pat.sz, szL, szR]⟩
 | cons d g i g1 j x q e hg hg2 ih ih2 =>
  intro x' g1' j' e'
  cases q with
  | bad l => cases e'
  | ok y l =>
   have h1 := ih x g1 j rfl
   have h2 := ih2 y.1 y.2 l rfl
   have o1 := hg.okb x g1 j rfl
   have o2 := hg2.okb y.1 y.2 l rfl
   cases e'
   refine ⟨⟨h1.1, h2.1⟩, ?_⟩
   simp only [Pat.sz, szL, szR] at h1 h2 ⊢; omega
 | pbad => intro x' g1' j' e'; cases e'
 | rep d g i g1 j x q hg r ih =>
  intro x' g1' j' e'
  have o1 := hg.okb x g1 j rfl
  have h1 := ih x g1 j rfl
  cases q with
  | bad l => cases e'
  | ok o l =>
   have hr := r.ok
   cases o with
   | none => cases e'; exact ⟨shp_up h1.1, by simp only [withRep, szL, szR] at h1 ⊢; omega⟩
   | some mm =>
    obtain ⟨mn, mx⟩ := mm
    obtain ⟨b1, b2, b3⟩ := r.bd
    have hlt : j < l := by
     rcases r with ⟨_, _, _, _, e⟩ | ⟨_, e⟩ | ⟨_, e⟩ | ⟨_, e⟩ | ⟨_, q1, n, e⟩
     ·cases e
     ·cases e; omega
     ·cases e; omega
     ·cases e; omega
     ·cases q1 with
      | bad z => cases e
      | ok m z =>
       have hm := n.ok m z rfl
       rcases e with ⟨_, _, e⟩ | ⟨_, _, q2, n', e⟩ | ⟨_, e⟩
       ·cases e; omega
       ·cases q2 with
        | bad y => cases e
        | ok y y' =>
         have hy := n'.ok y y' rfl
         simp only [Rep3] at e
         by_cases h5 : at' s y' = 125
         ·rw [if_pos h5] at e; cases e; omega
         ·rw [if_neg h5] at e; cases e
       ·by_cases h5 : at' s z = 125
        ·rw [if_pos h5] at e; cases e; omega
        ·rw [if_neg h5] at e; cases e
    cases e'
    refine ⟨⟨b1, b2, b3, h1.1⟩, ?_⟩
    simp only [withRep, Pat.sz, szL, szR] at h1 ⊢; omega
 | sbad => intro x' g1' j' e'; cases e'
 | deep => intro x' g1' j' e'; cases e'
 | grp d g i g1 j x e o hg c ih => intro x' g1' j' e'; have o1 := hg.okb x g1 j rfl; cases e'; have := ih x g1 j rfl; exact ⟨this.1, by simp only [Pat.sz, szL, szR] at this ⊢; omega⟩
 | gopen => intro x' g1' j' e'; cases e'
 | gbad => intro x' g1' j' e'; cases e'
 | set d g i q e r =>
  intro x' g1' j' e'
  have hG := G.set (s := s) d g i q e r
  cases q with
  | bad l => cases e'
  | ok y l => cases e'; have := (hG.okb _ _ _ rfl).2.2.1 (Or.inr rfl); exact ⟨trivial, by simp only [Pat.sz, szL, szR]; omega⟩
 | dot d g i e => intro x' g1' j' e'; cases e'; exact ⟨trivial, by simp only [Pat.sz, szL, szR]; omega⟩
 | esc d g i e =>
  intro x' g1' j' e'
  cases r : escS s 0 (i + 1) with
  | bad l => rw [r] at e'; cases e'
  | ok y l => rw [r] at e'; cases e'; have := escS_ok r; exact ⟨trivial, by simp only [Pat.sz, szL, szR]; omega⟩
 | no => intro x' g1' j' e'; cases e'
 | lit d g i a => intro x' g1' j' e'; cases e'; exact ⟨trivial, by simp only [Pat.sz, szL, szR]; omega⟩
end Go.Proofs.YtnfojonmohijpabGreatDoor
namespace Go.Proofs.YtnfojonmohijpabGreatDoor
def Pat.fair (g : Nat) : Pat → Prop
 | .set _ => True
 | .grp k x => 0 < k ∧ k ≤ g ∧ x.fair g
 | .rep mn mx x => (mx < 0 ∨ (mn : Int) ≤ mx) ∧ x.fair g
 | .pnil => True
 | .pcons x r => x.fair g ∧ r.fair g
 | .wone x => x.fair g
 | .wcons x r => x.fair g ∧ r.fair g
theorem Pat.fair.up {g h : Nat} (hg : g ≤ h) : ∀ {x : Pat}, x.fair g → x.fair h
 | .set _, _ => trivial
 | .grp _ x, hx => ⟨hx.1, Nat.le_trans hx.2.1 hg, Pat.fair.up hg (x := x) hx.2.2⟩
 | .rep _ _ x, hx => ⟨hx.1, Pat.fair.up hg (x := x) hx.2⟩
 | .pnil, _ => trivial
 | .pcons x r, hx => ⟨Pat.fair.up hg (x := x) hx.1, Pat.fair.up hg (x := r) hx.2⟩
 | .wone x, hx => Pat.fair.up hg (x := x) hx
 | .wcons x r, hx => ⟨Pat.fair.up hg (x := x) hx.1, Pat.fair.up hg (x := r) hx.2⟩
end Go.Proofs.YtnfojonmohijpabGreatDoor
