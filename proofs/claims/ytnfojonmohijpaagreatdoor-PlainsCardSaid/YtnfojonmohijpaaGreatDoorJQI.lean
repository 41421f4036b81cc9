/-
  DERIVED. Contracts of the program's Pattern.Plain and Plain. Conditions: the variables classNames and uint64pow10 hold what they are laid with.
-/
import Derived.Test.YtnfojonmohijpaaGreatDoorJQH
import Derived.Test.YtnfojonmohijpaaGreatDoorJTF
import Derived.Test.YtnfojonmohijpaaGreatDoorJSpec
set_option linter.unusedSimpArgs false
set_option linter.unusedVariables false
namespace Go.Proofs.YtnfojonmohijpaaGreatDoor
open Go.RowKit

theorem whole_sz {s : ByteArray} {W : Whole} {j : Nat} (hs : s.size ≤ 60) (h : PatR s (.ok W j)) : W.x.sz ≤ 1000 := by
  obtain ⟨qw, hG, hqe⟩ := h
  cases qw with
  | bad l => cases hqe
  | ok xg l =>
    obtain ⟨x, g⟩ := xg
    have h1 := hG.shp x g l rfl
    have h2 := endOf_le hG (by unfold wi; by_cases h : at' s 0 = 94; (rw [if_pos h]; exact at'_nn (by omega)); (rw [if_neg h]; exact Nat.zero_le _))
    rw [PatE_ok] at hqe
    have hx : W.x = x := by
      by_cases hc : 0 ≤ at' s (if at' s l = 36 then l + 1 else l)
      · rw [if_pos hc] at hqe; cases hqe
      · rw [if_neg hc] at hqe; cases hqe; rfl
    rw [hx]
    simp only [szL, szR, endOf] at h1 h2
    omega

theorem Keeps.ofBelow0 {w w' : World} (h : Below w.heap.size w w') : Keeps [] w w' := ⟨h.os, h.tape, h.output, h.size, fun j hj _ => h.block j hj⟩

set_option maxRecDepth 100000 in
set_option maxHeartbeats 2000000 in
theorem pplain_any (W : Whole) (v : Value) (S : Nat → Prop) (w : World) (hrep : Rep w S .ways W.x [v]) (hgp : GP w) (hsz : W.x.sz ≤ 1000) :
    Calls Tryz.prog 37 #[.agg #[.bool W.bg, .bool W.en, v, .int .i64 (W.g : Int)]] w fun e w' => e = .returned (.string (nmB (wholeT W))) ∧ Keeps [] w w' := by
  have hrep1 := hrep.mono (S' := fun g => g < w.heap.size) fun g _ h => h
  have hB0 : 1 < w.heap.size := World.block_lt_of_cell? w _ hgp
  have hpl := patT_len W.x
  obtain ⟨va, vn, vc, rfl⟩ : IsSl v := by
    cases hrep with
    | ways _ _ _ _ _ ho _ => exact ownsRow_sl ho
  have hk0 : Keeps [] w ((w.alloc (.cells #[.bool W.bg, .bool W.en, .slice va vn vc, .int .i64 (W.g : Int)] 70)).alloc (.cells #[.pointer none, .slice none 0 0] 133)) := ((Keeps.refl [] w).alloc _).alloc _
  have hp0 : P4 ((w.alloc (.cells #[.bool W.bg, .bool W.en, .slice va vn vc, .int .i64 (W.g : Int)] 70)).alloc (.cells #[.pointer none, .slice none 0 0] 133)) w.heap.size (.bool W.bg) (.bool W.en) (.slice va vn vc) (.int .i64 (W.g : Int)) := heap_alloc2_old w _ _
  have hb0 : BD ((w.alloc (.cells #[.bool W.bg, .bool W.en, .slice va vn vc, .int .i64 (W.g : Int)] 70)).alloc (.cells #[.pointer none, .slice none 0 0] 133)) w.heap.size (w.heap.size + 1) [] :=
    ⟨by omega, .pointer none, .slice none 0 0, Or.inl rfl, heap_alloc2_new w _ _, ⟨rfl, Or.inl ⟨rfl, rfl⟩⟩, by simp [Value.ownBlock], fun _ => rfl⟩
  have hr0 := hrep1.keep hk0 (by simp)
  have hg0 := hgp.keep hk0
  have HW : Hid (wholeT W = (if W.bg then [94] else []) ++ patT W.x ++ (if W.en then [36] else [])) := rfl
  have WW := (writers 1000).1 W.x hsz
  obtain ⟨m0, m1, m2, m3, _⟩ := hp0.main
  have hz : ((w.alloc (.cells #[.bool W.bg, .bool W.en, .slice va vn vc, .int .i64 (W.g : Int)] 70)).alloc (.cells #[.pointer none, .slice none 0 0] 133)).heap.size = w.heap.size + 2 := by simp
  clear hrep hrep1 hgp
  go_enter Tryz.func37, Tryz.ntmps37
  go_upto_if 5 with (fail)
  generalize hW0 : (w.alloc (.cells #[.bool W.bg, .bool W.en, .slice va vn vc, .int .i64 (W.g : Int)] 70)).alloc (.cells #[.pointer none, .slice none 0 0] 133) = W0 at *
  generalize Value.agg #[.bool W.bg, .bool W.en, .slice va vn vc, .int .i64 (W.g : Int)] = ag
  go_cut [] from 5 to 7 (fun wx => BD wx w.heap.size (w.heap.size + 1) (if W.bg then [94] else []) ∧ WF w.heap.size (w.heap.size + 1) W0 wx)
  case first =>
    by_cases hbv : W.bg = true
    · go_wp2_with fail
      refine (writeByte_any w.heap.size (w.heap.size + 1) [] 94 94 rfl W0 hb0 (by simp) (by omega)).mono ?_
      rintro e w1 ⟨rfl, hb1, hbel1, hoth1⟩
      go_wp2_with fail
      go_meet
      case rel => exact ⟨by simpa [hbv] using hb1, hbel1, hoth1⟩
      all_goals (rename_i hf; rw [hbv] at hf; cases hf)
    · have hbf : W.bg = false := by simpa using hbv
      go_wp2_with fail
      go_meet
      case rel => exact ⟨by simpa [hbf] using hb0, WF.refl _ _ _⟩
  case rest =>
    obtain ⟨hbx, hfx⟩ := hcut
    obtain ⟨w1, hw1⟩ : ∃ w1 : World, w1 = wc := ⟨_, rfl⟩
    subst hw1
    have hS : ∀ g, (fun g => g < w.heap.size) g → g < w.heap.size := fun g h => h
    have hr1 := hr0.wf hS hfx
    have hg1 := hg0.wf hB0 hfx
    have hp1 : P4 w1 w.heap.size (.bool W.bg) (.bool W.en) (.slice va vn vc) (.int .i64 (W.g : Int)) := row_wf hp0 (by decide) (by omega) hfx
    obtain ⟨n0, n1, n2, n3, _⟩ := hp1.main
    have hs1 := hfx.below.size
    have hlb : (if W.bg = true then [94] else ([] : List UInt8)).length ≤ 1 := by split <;> simp
    clear m0 m1 m2 m3 hp0 hb0 hr0 hg0
    go_wp2_with fail
    refine (WW w1 _ w.heap.size (w.heap.size + 1) _ _ hr1 hS hbx hg1 hB0 (by omega) (by omega)).mono ?_
    rintro e w2 ⟨rfl, hb2, hf2⟩
    have hp2 : P4 w2 w.heap.size (.bool W.bg) (.bool W.en) (.slice va vn vc) (.int .i64 (W.g : Int)) := row_wf hp1 (by decide) (by omega) hf2
    obtain ⟨k0, k1, k2, k3, _⟩ := hp2.main
    have hs2 := hf2.below.size
    clear n0 n1 n2 n3 hp1 hbx hr1 hg1
    go_upto_if 11 with (fail)
    go_cut [] from 11 to 13 (fun wx => BD wx w.heap.size (w.heap.size + 1) (wholeT W) ∧ WF w.heap.size (w.heap.size + 1) w2 wx)
    case first =>
      by_cases hev : W.en = true
      · go_wp2_with fail
        refine (writeByte_any w.heap.size (w.heap.size + 1) _ 36 36 rfl w2 hb2 (by rw [List.length_append]; omega) (by omega)).mono ?_
        rintro e w3 ⟨rfl, hb3, hbel3, hoth3⟩
        go_wp2_with fail
        go_meet
        case rel => exact ⟨by rw [HW.out]; simpa [hev] using hb3, hbel3, hoth3⟩
        all_goals (rename_i hf; rw [hev] at hf; cases hf)
      · have hef : W.en = false := by simpa using hev
        go_wp2_with fail
        go_meet
        case rel => exact ⟨by rw [HW.out]; simpa [hef] using hb2, WF.refl _ _ _⟩
    case rest =>
      obtain ⟨hb3, hf3⟩ := hcut
      obtain ⟨w3, hw3⟩ : ∃ w3 : World, w3 = wc := ⟨_, rfl⟩
      subst hw3
      go_wp2_with fail
      refine (string_any w.heap.size (w.heap.size + 1) (wholeT W) w3 hb3).mono ?_
      rintro e w4 ⟨rfl, hbel4⟩
      have hend : Keeps [] w w4 := Keeps.ofBelow0 (Below.join (Below.join (Below.join (Below.ofKeeps hk0 (Nat.le_refl _) (by simp)) hfx.below) hf2.below) (Below.join hf3.below hbel4))
      clear hb3 hf3 hbel4 hb2 hf2 hk0 hfx
      go_wp2_with fail
      go_ret
      exact ⟨rfl, hend⟩
end Go.Proofs.YtnfojonmohijpaaGreatDoor

/-
  DERIVED. The contract of the program's Plain. Conditions: the variables classNames and uint64pow10 hold what they are laid with.
-/
namespace Go.Proofs.YtnfojonmohijpaaGreatDoor
open Go.RowKit

theorem infoPat4 (a b c d : Value) : (Tryz.prog.info? 70).map (·.size) = some [a, b, c, d].length := by kernel_rfl

set_option maxRecDepth 100000 in
set_option maxHeartbeats 2000000 in
theorem yplain_any (s : ByteArray) (w : World) (hgn : GN w) (hgp : GP w) :
    Calls Tryz.prog 15 #[.string s] w fun e w' => ∃ t place errno, e = .returned (.tuple #[.string (nmB t), .int .i64 place, .int .i64 errno]) ∧ PlainA s t place errno ∧ Keeps [] w w' := by
  go_enter Tryz.func15, Tryz.ntmps15
  go_wp2_with fail
  refine (readPattern_prog s w hgn).mono ?_
  rintro e w1 ⟨hk1, hc1⟩
  have hgp1 := hgp.keep hk1
  have hz0 : P4 (w1.alloc (.cells #[.bool false, .bool false, .slice none 0 0, .int .i64 0] 70)) w1.heap.size (.bool false) (.bool false) (.slice none 0 0) (.int .i64 0) := heap_alloc_new w1 _
  have hk2 : Keeps [] w1 (w1.alloc (.cells #[.bool false, .bool false, .slice none 0 0, .int .i64 0] 70)) := (Keeps.refl [] w1).alloc _
  have hC : (∃ x y : Int, y ≠ 0 ∧ e = .returned (.tuple #[.agg #[.bool false, .bool false, .slice none 0 0, .int .i64 0], .int .i64 x, .int .i64 y]) ∧ PlainA s [] x y) ∨
      ∃ W j v, s.size ≤ 60 ∧ PatR s (.ok W j) ∧ e = .returned (.tuple #[.agg #[.bool W.bg, .bool W.en, v, .int .i64 W.g], .int .i64 0, .int .i64 0]) ∧ v.oneCell' = true ∧ Rep w1 (fun g => w.heap.size ≤ g) .ways W.x [v] := by
    rcases hc1 with ⟨hl, he⟩ | ⟨hs, q, hq, h⟩
    · exact Or.inl ⟨0, 1, by decide, he, Or.inl ⟨hl, rfl, rfl, rfl⟩⟩
    · cases q with
      | bad j => exact Or.inl ⟨j, 2, by decide, h, Or.inr ⟨hs, .bad j, hq, rfl, rfl, rfl⟩⟩
      | ok W j =>
        obtain ⟨v, he, hv, hrep⟩ := h
        exact Or.inr ⟨W, j, v, hs, hq, he, hv, hrep⟩
  clear hc1
  rcases hC with ⟨x, y, hy0, rfl, hp⟩ | ⟨W, j, v, hs, hq, rfl, hv, hrep⟩
  rotate_left
  · skip
    have hsz := whole_sz hs hq
    have o4 := four_one (x := W.bg) (y := W.en) (n := (W.g : Int)) hv
    have HQ : Hid (PlainA s (wholeT W) 0 0) := Or.inr ⟨hs, .ok W j, hq, rfl, rfl, rfl⟩
    have hk3 : Keeps [] w1 ((w1.alloc (.cells #[.bool false, .bool false, .slice none 0 0, .int .i64 0] 70)).setRow w1.heap.size #[.bool W.bg, .bool W.en, v, .int .i64 (W.g : Int)]) := hk2.setRow (Or.inr (Nat.le_refl _)) _
    have hrow : ((w1.alloc (.cells #[.bool false, .bool false, .slice none 0 0, .int .i64 0] 70)).setRow w1.heap.size #[.bool W.bg, .bool W.en, v, .int .i64 (W.g : Int)]).heap[w1.heap.size]? = some (.cells #[.bool W.bg, .bool W.en, v, .int .i64 (W.g : Int)] 70 (0, 0)) := setRow_heap _ _ _ _ _ _ hz0
    have hc3 : ∀ t u, [Value.bool W.bg, .bool W.en, v, .int .i64 (W.g : Int)][t]? = some u → ((w1.alloc (.cells #[.bool false, .bool false, .slice none 0 0, .int .i64 0] 70)).setRow w1.heap.size #[.bool W.bg, .bool W.en, v, .int .i64 (W.g : Int)]).cell? ⟨w1.heap.size, 0 + t, none⟩ = some u := by
      intro t u hu
      rw [Lib.cell_of_heap hrow, Nat.zero_add]
      simpa using hu
    have hr3 := hrep.keep hk3 (by simp)
    have hg3 := hgp1.keep hk3
    have hkA := hk1.trans hk3
    have hi4 := infoPat4 (.bool W.bg) (.bool W.en) v (.int .i64 (W.g : Int))
    clear hrep hq hgp1 hgp hgn hs hk1 hk2 hrow
    go_wp2_with (first | (refine wpList_store_row rfl 70 _ _ rfl w1.heap.size _ rfl rfl _ _ hz0 infoPat rfl o4 ?_; generalize (w1.alloc (.cells #[.bool false, .bool false, .slice none 0 0, .int .i64 0] 70)).setRow w1.heap.size #[.bool W.bg, .bool W.en, v, .int .i64 (W.g : Int)] = W3 at *) | (refine wpList_load_at rfl 70 _ rfl w1.heap.size 0 rfl [.bool W.bg, .bool W.en, v, .int .i64 (W.g : Int)] _ hc3 Tryz.underlying70 rfl hi4 ?_))
    refine (pplain_any W v _ _ hr3 hg3 hsz).mono ?_
    rintro e w4 ⟨rfl, hk4⟩
    have hend := hkA.trans hk4
    clear hr3 hg3 hc3 hk4 hkA
    go_wp2_with fail
    go_ret3
    exact ⟨_, _, _, rfl, HQ.out, hend⟩
  have o4 := four_one (x := false) (y := false) (n := 0) (v := .slice none 0 0) rfl
  have hk3 : Keeps [] w1 ((w1.alloc (.cells #[.bool false, .bool false, .slice none 0 0, .int .i64 0] 70)).setRow w1.heap.size #[.bool false, .bool false, .slice none 0 0, .int .i64 0]) := hk2.setRow (Or.inr (Nat.le_refl _)) _
  have hkA := hk1.trans hk3
  have HP : Hid (PlainA s [] x y) := hp
  clear hgp1 hk2 hk3 hp hk1
  go_wp2_with (first | (refine wpList_store_row rfl 70 _ _ rfl w1.heap.size _ rfl rfl _ _ hz0 infoPat rfl o4 ?_; generalize (w1.alloc (.cells #[.bool false, .bool false, .slice none 0 0, .int .i64 0] 70)).setRow w1.heap.size #[.bool false, .bool false, .slice none 0 0, .int .i64 0] = W3 at *))
  go_ret3
  exact ⟨[], x, y, rfl, HP.out, hkA⟩
end Go.Proofs.YtnfojonmohijpaaGreatDoor

/-
  DERIVED. The contracts of the laws plain and Plains. Conditions: the variables classNames and uint64pow10 hold what they are laid with.
-/
namespace Go.Proofs.YtnfojonmohijpaaGreatDoor
open Go.RowKit

set_option maxRecDepth 100000 in
set_option maxHeartbeats 2000000 in
theorem law_plain (s : ByteArray) (w : World) (hgn : GN w) (hgp : GP w) :
    Calls Tryz.prog 16 #[.string s] w fun e w' => e = .returned (.bool true) ∧ Keeps [] w w' := by
  go_enter Tryz.func16, Tryz.ntmps16
  go_wp2_with fail
  refine (yplain_any s w hgn hgp).mono ?_
  rintro e w1 ⟨t, pl, er, rfl, h1, hk1⟩
  have H1 : Hid (PlainA s t pl er) := h1
  clear h1 hgn hgp
  go_wp2_with fail
  refine (plain_ref s w1).mono ?_
  rintro e w2 ⟨t2, pl2, er2, rfl, h2, hk2⟩
  obtain ⟨rfl, rfl, rfl⟩ := H1.out.det h2
  have hk := hk1.trans hk2
  clear h2 hk1 hk2
  go_wp2_with fail
  go_ret
  exact ⟨rfl, hk⟩

theorem ex_plain : PlainA exS [91, 97, 45, 100, 93, 120] 0 0 := Or.inr ⟨ex_size, .ok exW 7, ex_read, ex_text.symm, rfl, rfl⟩

set_option maxRecDepth 100000 in
set_option maxHeartbeats 2000000 in
theorem law_plains (s : ByteArray) (w : World) (hgn : GN w) (hgp : GP w) :
    Calls Tryz.prog 3 #[.string s] w fun e w' => e = .returned (.bool true) ∧ Keeps [] w w' := by
  go_enter Tryz.func3, Tryz.ntmps3
  go_wp2_with fail
  refine (yplain_any exS w hgn hgp).mono ?_
  rintro e w1 ⟨t, pl, er, rfl, h1, hk1⟩
  obtain ⟨rfl, rfl, rfl⟩ := h1.det ex_plain
  have hgn1 := hgn.keep hk1 (by simp)
  have hgp1 := hgp.keep hk1
  have hx : nmB [91, 97, 45, 100, 93, 120] = ⟨#[91, 97, 45, 100, 93, 120]⟩ := rfl
  rw [hx]
  clear h1 hgn hgp
  go_wp2_with fail
  refine (law_plain s w1 hgn1 hgp1).mono ?_
  rintro e w2 ⟨rfl, hk2⟩
  have hk := hk1.trans hk2
  clear hk1 hk2 hgn1 hgp1
  go_wp2_with fail
  go_ret
  exact ⟨rfl, hk⟩
end Go.Proofs.YtnfojonmohijpaaGreatDoor
