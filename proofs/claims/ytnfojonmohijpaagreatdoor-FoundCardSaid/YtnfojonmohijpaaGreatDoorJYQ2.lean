/-
  DERIVED. The walk of Found, arm 2 of 2.
-/
import Derived.Test.YtnfojonmohijpaaGreatDoorJYF
import Derived.Test.YtnfojonmohijpaaGreatDoorJYC
import Derived.ProofKit
import Derived.Test.YtnfojonmohijpaaGreatDoorJPC
import Derived.Test.YtnfojonmohijpaaGreatDoorJSG
import Derived.Test.YtnfojonmohijpaaGreatDoorRows
import Derived.LaidMore
import Derived.OpenShut
import Derived.Stop.Joined
import Derived.ChangeMaps5
set_option linter.unusedSimpArgs false
set_option linter.unusedVariables false
namespace Go.Proofs.YtnfojonmohijpaaGreatDoor
open Go.RowKit
set_option maxRecDepth 100000 in
set_option maxHeartbeats 40000000 in
theorem found_any_2 (v1 : Value) (z1 : List Int) (s : ByteArray) (c : Int) (hc : inI c) (w : World) (hr1 : RawIs w v1 z1) (hgn : GN w) (harm : 58 < (mdT (cv z1) 3 0).length) :
    Calls Tryz.prog 13 #[v1, .string s, .int .i64 c] w fun e w' => e = .returned (.bool true) ∧ Keeps [] w w' := by
  have HA : Hid (∀ w, GN w → Calls Tryz.prog 30 #[] w fun e w' => e = .returned (.bool true) ∧ Keeps [] w w') := awake_any
  go_enter Tryz.func13, Tryz.ntmps13
  go_wp2_with fail
  refine (HA.out w hgn).mono ?_
  rintro e w1 ⟨rfl, hk1⟩
  have hg1 := hgn.keep hk1 (by simp)
  have hr11 := hr1.keep hk1
  clear hr1 hgn HA
  go_wp2_with fail
  refine (made_any v1 z1 3 (by decide) 0 (by decide) w1 hr11).mono ?_
  rintro e w2 ⟨rfl, hk2⟩
  have hk := hk1.trans hk2
  have hg := hg1.keep hk2 (by simp)
  have hMp := made3_md (cv z1) 0
  have hLp := mdT_len (cv z1) 3 0
  generalize mdT (cv z1) 3 0 = p0 at hMp hLp harm ⊢
  clear hk1 hk2 hr11 hg1
  have hzp : (bOf p0).size = p0.length := bOf_size p0
  have hp53 : p0.length ≤ 109 := by omega
  clear hLp
  · have hS1 := ksingle_any p0.length (by omega)
    have hm1 := made3_sg (p0.length % 9)
    have hl1 := sgT_len (p0.length % 9)
    have HS1 : Hid (∀ w, Calls Tryz.prog 33 #[.int .i64 p0.length] w fun e w' => e = .returned (.string (bOf (sgT (p0.length % 9)))) ∧ Keeps [] w w') := hS1
    clear hS1 hMp
    have i3 : decide ((58 : Int) < (p0.length : Int)) = true := by simp; omega
    have j1 := of_decide_eq_true i3
    clear harm
    go_wp2_with fail
    refine (HS1.out w2).mono ?_
    rintro e w3 ⟨rfl, hk31⟩
    have hk03 := hk.trans hk31
    have hg3 := hg.keep hk31 (by simp)
    clear hk31 HS1 hk hg i3 j1
    generalize sgT (p0.length % 9) = p at hm1 hl1 ⊢
    have hMp := hm1
    clear hp53 hzp
    have hzp : (bOf p).size = p.length := bOf_size p
    have hl5 : p.length ≤ 58 := by omega
    have i1 : ((bOf p).size : Int) ≤ 58 := by omega
    clear hl1 hm1
    go_wp2_with fail
    have q32 : ∀ (w : World) (a : Option Addr) (n c n' c' : Nat), (binOp .eql 32 (.slice a n c) (.slice none n' c')).run Tryz.prog w = .ok (.bool a.isNone) w := fun w a n c n' c' => Lib.run_eql_slice_nil w _ _ a n c n' c' Tryz.underlying32
    refine (ktext_any s 9 (by decide) w3).mono ?_
    rintro e w4 ⟨rfl, hk4⟩
    have hkB := hk03.trans hk4
    have hg4 := hg3.keep hk4 (by simp)
    have hts := txT_size s 9
    generalize txT s 9 = t at hts ⊢
    have hts' : (t.size : Int) ≤ 9 := by omega
    have HT : Hid (t.size ≤ 9) := hts
    clear hk4 hk03 hg3
    have KP := kpick_any c (t.size + 1) hc (by omega) (by omega) w4
    have HK : Hid (pk c (t.size + 1) ≤ t.size) := by show pk c (t.size + 1) ≤ t.size; have : pk c (t.size + 1) < t.size + 1 := Nat.mod_lt _ (by omega); omega
    rw [show ((t.size + 1 : Nat) : Int) = (t.size : Int) + 1 by omega] at KP
    generalize pk c (t.size + 1) = k at KP HK
    clear hts
    go_wp2_with fail
    refine KP.mono ?_
    rintro e w5 ⟨rfl, rfl⟩
    have hkt : (k : Int) ≤ (t.size : Int) := by have := HK.out; omega
    have hk0 : (0 : Int) ≤ (k : Int) := by omega
    clear KP
    go_wp2_with fail
    refine (ysearch_any (bOf p) t k w5 hg4).mono ?_
    rintro e w6 ⟨v, ans, n, rfl, hS, hI, hk5⟩
    obtain ⟨rfl, M, hF⟩ := found_math hMp hl5 HT.out HK.out hS
    have HF : Hid (FdL p t k ans M) := hF
    have hkC := hkB.trans hk5
    have hg5 := hg4.keep hk5 (by simp)
    clear hS hF hkB hg4 hk5
    cases ans with
    | none =>
      obtain rfl : v = .slice none 0 0 := hI
      go_wp2_with fail
      go_quiet (fail)
      go_upto_region 13 with (fail)
      go_loopw [13] (fun q wr => ∃ i : Nat, q = .int .i64 i ∧ k ≤ i ∧ i ≤ t.size + 1 ∧ Keeps [] w6 wr) (fun q _ => t.size + 1 - (intOf q).toNat)
      case atStart => exact ⟨k, rfl, Nat.le_refl _, Nat.le_succ_of_le HK.out, (Keeps.refl [] w6).drewN _⟩
      case round =>
        obtain ⟨i, rfl, hki, hi, hkL⟩ := hrel
        by_cases hlt : i ≤ t.size
        · have hi0 : (0 : Int) ≤ (i : Int) := by omega
          have hi1 : (i : Int) ≤ (t.size : Int) := by omega
          have HI : Hid (k ≤ i ∧ i ≤ t.size) := ⟨hki, hlt⟩
          clear hki hi hlt
          go_upto_region 16 with (fail)
          go_loopw [14] (fun q wr => ∃ j : Nat, q = .int .i64 ((j : Int) - 1) ∧ i ≤ j ∧ j ≤ t.size + 1 ∧ Keeps [] w6 wr) (fun q _ => (intOf q + 1).toNat)
          case atStart => exact ⟨t.size + 1, congrArg (Value.int .i64) (by omega), Nat.le_succ_of_le HI.out.2, Nat.le_refl _, hkL⟩
          case round =>
            obtain ⟨j, rfl, hij, hj, hkM⟩ := hrel
            rcases Nat.lt_or_ge i j with hlt | hge
            · obtain ⟨m, rfl⟩ : ∃ m, j = m + 1 := ⟨j - 1, by omega⟩
              rw [show ((m + 1 : Nat) : Int) - 1 = (m : Int) by omega]
              have hm0 : (0 : Int) ≤ (m : Int) := by omega
              have hm1 : (i : Int) ≤ (m : Int) := by omega
              have hm2 : (m : Int) ≤ (t.size : Int) := by omega
              have HM : Hid (i ≤ m ∧ m ≤ t.size) := ⟨by omega, by omega⟩
              have hgM := hg5.keep hkM (by simp)
              clear hij hj hlt
              go_wp2_with fail
              refine (ymatch_any _ (t.extract i m) _ hgM).mono ?_
              rintro e wa ⟨u, b, n1, rfl, ha, hka⟩
              have hkN := hkM.trans hka
              obtain ⟨rfl, hb⟩ := HF.out.mt i m _ HM.out.1 HM.out.2 (seg_mid t HM.out.1 HM.out.2).1 (seg_mid t HM.out.1 HM.out.2).2 _ _ _ ha
              have HB : Hid (b = true ↔ M i m) := hb
              clear ha hka hb hgM
              cases b with
              | true =>
                exact absurd (HB.out.1 rfl) (HF.out.no rfl i m HI.out.1 HM.out.1 HM.out.2)
              | false =>
                go_wp2_with fail
                exact ⟨⟨m, rfl, HM.out.1, Nat.le_succ_of_le HM.out.2, hkN⟩, by simp [intOf]⟩
            · obtain rfl : j = i := by omega
              have hjj : ¬ (j : Int) ≤ (j : Int) - 1 := by omega
              clear hij hj hge
              go_wp2_with fail
              exact ⟨⟨j + 1, by go_num, Nat.le_succ_of_le HI.out.1, Nat.succ_le_succ HI.out.2, hkM⟩, by have := HI.out; simp [intOf]; omega⟩
        · have hi1 : ¬ (i : Int) ≤ (t.size : Int) := by omega
          clear hki hi hlt
          have hkE := hkC.trans hkL
          go_wp2_with fail
          go_ret
          exact ⟨rfl, hkE⟩
    | some l =>
      obtain ⟨i0, j0, r, rfl, hrl, f1, f2, f3, f4, f5, f6⟩ := HF.out.yes l rfl
      obtain ⟨g, cap, rfl, c0, c1⟩ := row_two hI
      have F5 : Hid (∀ i' j', k ≤ i' → i' < i0 → i' ≤ j' → j' ≤ t.size → ¬ M i' j') := f5
      have F6 : Hid (∀ j', j0 < j' → j' ≤ t.size → ¬ M i0 j') := f6
      have F4 : Hid (M i0 j0) := f4
      have F3 : Hid (k ≤ i0 ∧ i0 ≤ j0 ∧ j0 ≤ t.size) := ⟨f1, f2, f3⟩
      obtain ⟨N, hN⟩ : ∃ N, N = r.length + 2 := ⟨_, rfl⟩
      rw [← hN]
      have g1 : decide ((N : Int) < 2) = false := by simp; omega
      have g2 : (0 : Int) < (N : Int) := by omega
      have g3 : (1 : Int) < (N : Int) := by omega
      have n4 : decide (i0 < k) = false := by simp; omega
      have n5 : decide (j0 < i0) = false := by simp; omega
      have n6 : decide (t.size < j0) = false := by simp; omega
      have gA : 0 < N := by omega
      have gB : 1 < N := by omega
      have g4 : decide ((i0 : Int) < (k : Int)) = false := by simp; omega
      have g5 : decide ((j0 : Int) < (i0 : Int)) = false := by simp; omega
      have g6 : decide ((t.size : Int) < (j0 : Int)) = false := by simp; omega
      clear hI hrl f1 f2 f3 f4 f5 f6 hN
      go_wp2_with fail
      go_quiet (fail)
      clear g1 g4 g5 g6 n4 n5 n6
      go_upto_region 13 with (fail)
      go_loopw [13] (fun q wr => ∃ i : Nat, q = .int .i64 i ∧ k ≤ i ∧ i ≤ t.size + 1 ∧ (∀ i' j', k ≤ i' → i' < i → i' ≤ j' → j' ≤ t.size → ¬ M i' j') ∧ Keeps [] w6 wr) (fun q _ => t.size + 1 - (intOf q).toNat)
      case atStart => exact ⟨k, rfl, Nat.le_refl _, Nat.le_succ_of_le HK.out, fun i' j' h1 h2 => absurd h2 (by omega), (Keeps.refl [] w6).drewN _⟩
      case round =>
        obtain ⟨i, rfl, hki, hi, hno, hkL⟩ := hrel
        by_cases hlt : i ≤ t.size
        · have hi0 : (0 : Int) ≤ (i : Int) := by omega
          have hi1 : (i : Int) ≤ (t.size : Int) := by omega
          have HI : Hid (k ≤ i ∧ i ≤ t.size) := ⟨hki, hlt⟩
          have HNO : Hid (∀ i' j', k ≤ i' → i' < i → i' ≤ j' → j' ≤ t.size → ¬ M i' j') := hno
          clear hki hi hlt hno
          go_upto_region 16 with (fail)
          go_loopw [14] (fun q wr => ∃ j : Nat, q = .int .i64 ((j : Int) - 1) ∧ i ≤ j ∧ j ≤ t.size + 1 ∧ (∀ j', j ≤ j' → j' ≤ t.size → ¬ M i j') ∧ Keeps [] w6 wr) (fun q _ => (intOf q + 1).toNat)
          case atStart => exact ⟨t.size + 1, congrArg (Value.int .i64) (by omega), Nat.le_succ_of_le HI.out.2, Nat.le_refl _, fun j' h1 h2 => absurd h1 (by omega), hkL⟩
          case round =>
            obtain ⟨j, rfl, hij, hj, hnj, hkM⟩ := hrel
            have HNJ : Hid (∀ j', j ≤ j' → j' ≤ t.size → ¬ M i j') := hnj
            clear hnj
            rcases Nat.lt_or_ge i j with hlt | hge
            · obtain ⟨m, rfl⟩ : ∃ m, j = m + 1 := ⟨j - 1, by omega⟩
              rw [show ((m + 1 : Nat) : Int) - 1 = (m : Int) by omega]
              have hm0 : (0 : Int) ≤ (m : Int) := by omega
              have hm1 : (i : Int) ≤ (m : Int) := by omega
              have hm2 : (m : Int) ≤ (t.size : Int) := by omega
              have HM : Hid (i ≤ m ∧ m ≤ t.size) := ⟨by omega, by omega⟩
              have hgM := hg5.keep hkM (by simp)
              clear hij hj hlt
              go_wp2_with fail
              refine (ymatch_any _ (t.extract i m) _ hgM).mono ?_
              rintro e wa ⟨u, b, n1, rfl, ha, hka⟩
              have hkN := hkM.trans hka
              obtain ⟨rfl, hb⟩ := HF.out.mt i m _ HM.out.1 HM.out.2 (seg_mid t HM.out.1 HM.out.2).1 (seg_mid t HM.out.1 HM.out.2).2 _ _ _ ha
              have HB : Hid (b = true ↔ M i m) := hb
              clear ha hka hb hgM
              cases b with
              | true =>
                have hm := HB.out.1 rfl
                obtain ⟨q1, q2, q3⟩ := F3.out
                obtain ⟨q4, q5⟩ := HI.out
                obtain ⟨q6, q7⟩ := HM.out
                have e1 : i0 = i := by
                  rcases Nat.lt_trichotomy i0 i with h | h | h
                  · exact absurd F4.out (HNO.out i0 j0 q1 h q2 q3)
                  · exact h
                  · exact absurd hm (F5.out i m q4 h q6 q7)
                have e2 : j0 = m := by
                  rcases Nat.lt_trichotomy j0 m with h | h | h
                  · exact absurd hm (e1 ▸ F6.out m h q7)
                  · exact h
                  · exact absurd (e1 ▸ F4.out) (HNJ.out j0 (by omega) q3)
                have d0 := keep_cell hkN c0
                have d1 := keep_cell hkN c1
                rw [e1] at d0
                rw [e2] at d1
                have hkE := hkC.trans hkN
                clear hm q1 q2 q3 q4 q5 q6 q7 e1 e2 c0 c1
                go_wp2_with fail
                go_ret
                exact ⟨rfl, hkE⟩
              | false =>
                go_wp2_with fail
                exact ⟨⟨m, rfl, HM.out.1, Nat.le_succ_of_le HM.out.2, fun j' h1 h2 h3 => by
                  rcases Nat.lt_or_ge m j' with h | h
                  · exact HNJ.out j' h h2 h3
                  · obtain rfl : j' = m := by omega
                    exact Bool.noConfusion (HB.out.2 h3), hkN⟩, by simp [intOf]⟩
            · obtain rfl : j = i := by omega
              have hjj : ¬ (j : Int) ≤ (j : Int) - 1 := by omega
              clear hij hj hge
              go_wp2_with fail
              exact ⟨⟨j + 1, by go_num, Nat.le_succ_of_le HI.out.1, Nat.succ_le_succ HI.out.2, fun i' j' h1 h2 h3 h4 => by
                rcases Nat.lt_or_ge i' j with h | h
                · exact HNO.out i' j' h1 h h3 h4
                · obtain rfl : i' = j := by omega
                  exact HNJ.out j' h3 h4, hkM⟩, by have := HI.out; simp [intOf]; omega⟩
        · have hi1 : ¬ (i : Int) ≤ (t.size : Int) := by omega
          obtain ⟨q1, q2, q3⟩ := F3.out
          exact absurd F4.out (hno i0 j0 q1 (by omega) q2 q3)
end Go.Proofs.YtnfojonmohijpaaGreatDoor
namespace Go.Proofs.YtnfojonmohijpaaGreatDoor
theorem found_any (v1 : Value) (z1 : List Int) (s : ByteArray) (c : Int) (hc : inI c) (w : World) (hr1 : RawIs w v1 z1) (hgn : GN w) :
    Calls Tryz.prog 13 #[v1, .string s, .int .i64 c] w fun e w' => e = .returned (.bool true) ∧ Keeps [] w w' := by
  rcases Nat.lt_or_ge 58 (mdT (cv z1) 3 0).length with h | h
  · exact found_any_2 v1 z1 s c hc w hr1 hgn h
  · exact found_any_1 v1 z1 s c hc w hr1 hgn h
end Go.Proofs.YtnfojonmohijpaaGreatDoor
namespace Go.Proofs.YtnfojonmohijpaaGreatDoor
open Go.ChangeShapes Go.WideShapes Go.ChangeAt Go.WideMaps Go.WideElems Go.RowKit
set_option maxRecDepth 100000 in
theorem raw_open {H : Type} {enc : TypeId × Value → H} {W : World} {base : Nat} {v : Value} {d : DataW H} {p : List MemPlace} (hv : Value.okWide Tryz.prog W .any base 32 v)
    (h : DataW.Trod enc Tryz.prog W 0 (fun _ => true) true 32 v d p) : ∃ zs, RawIs W v zs := by
  obtain ⟨a0, len0, cap0, rfl⟩ := okWide_slice Tryz.underlying32 hv
  obtain ⟨fuel, hf⟩ := h
  rcases open_ints Tryz.underlying32 Tryz.underlying3 (by kernel_rfl) hf with ⟨hcs, _⟩ | ⟨x, l, c, zs, hcs, _, hl, hm, hz, _, hcell, hwz⟩
  · simp [Value.cells] at hcs
    obtain ⟨rfl, rfl, rfl⟩ := hcs
    exact ⟨[], ⟨none, 0, rfl, fun i z h => by simp at h⟩, by simp, fun i z h => by simp at h⟩
  · simp [Value.cells] at hcs
    obtain ⟨rfl, rfl, rfl⟩ := hcs
    simp only [if_true] at hz
    have hll : (zs.take len0).length = len0 := by simp; omega
    have hget : ∀ (i : Nat) (z : Int), (zs.take len0)[i]? = some z → zs[i]? = some z ∧ i < zs.length := by
      intro i z hi
      have h1 := (List.getElem?_eq_some_iff.1 hi).1
      rw [hll] at h1
      rw [List.getElem?_take_of_lt h1] at hi
      exact ⟨hi, (List.getElem?_eq_some_iff.1 hi).1⟩
    refine ⟨zs.take len0, ⟨some x, cap0, by rw [hll], fun i z hi => ?_⟩, ?_, fun i z hi => ?_⟩
    · obtain ⟨h1, h2⟩ := hget i z hi
      have h3 := hcell i h2
      rw [List.getD_eq_getElem?_getD, h1] at h3
      have h4 := World.block_lt_of_cell? _ _ h3
      have h5 : (x.add i).block = x.block := by unfold Addr.add; first | rfl | (split <;> rfl)
      exact ⟨x, rfl, by rw [← h5]; exact h4, h3⟩
    · rw [hll]; unfold maxLen at hm; omega
    · obtain ⟨h1, _⟩ := hget i z hi
      have h3 := hwz z (List.mem_of_getElem? h1)
      simp [Lit.wf] at h3
      have h6 : IntKind.i64.min = -9223372036854775808 := by decide
      exact ⟨by omega, h3.2⟩
end Go.Proofs.YtnfojonmohijpaaGreatDoor
namespace Go.Proofs.YtnfojonmohijpaaGreatDoor
open Go.ChangeShapes Go.WideShapes Go.ChangeAt Go.WideMaps Go.WideElems Go.RowKit
theorem ownK : ownKnob Tryz.prog.godebug = none := by kernel_rfl
theorem gCls : Tryz.prog.globalNamed "yarrow/byteset.classNames" = some 6 := by kernel_rfl
theorem tCls : (Tryz.prog.globals[6]?).map (·.type) = some 357 := by kernel_rfl
theorem cStr : Tryz.prog.cellsOf 9 = 1 := by kernel_rfl
theorem cCls : Tryz.prog.cellsOf 357 = 7 := by kernel_rfl
theorem str_cell {H : Type} {enc : TypeId × Value → H} {W : World} {base fuel : Nat} {sp : Nat → Bool} {held : Bool} {c : Value} {x : DataW H × List MemPlace} {l : List UInt8}
    (h : DataW.trod enc Tryz.prog W base sp held fuel 9 [c] = some x) (hx : DataW.lit (.string l) = x.1) : c = .string (nmB l) := by
  obtain ⟨s, hc, rfl, _⟩ := DataW.trod_string Tryz.underlying9 h
  simp only [List.cons.injEq, and_true] at hc
  simp only [DataW.lit.injEq, Lit.string.injEq] at hx
  subst hc
  rw [hx]
  congr 1
theorem seven {α : Type} (l : List α) (h : l.length = 7) : ∃ a b c d e f g, l = [a, b, c, d, e, f, g] := by
  match l, h with
  | [a, b, c, d, e, f, g], _ => exact ⟨a, b, c, d, e, f, g, rfl⟩
set_option maxRecDepth 100000 in
theorem of_laidN {W : World} (h : laidMetH Tryz.prog Rows.plainsRow.laid W) : GN W := by
  rw [MakeChecks.laidMetH_plain _ _ _ (by kernel_rfl)] at h
  obtain ⟨ps, ⟨g0, t0, cs0, f0, p0, q0, hg0, ht0, hv0, hd0, ⟨g1, t1, cs1, f1, p1, q1, hg1, ht1, hv1, hd1, ⟨g2, t2, cs2, f2, p2, q2, hg2, ht2, hv2, hd2, ⟨g3, t3, cs3, f3, p3, q3, hg3, ht3, hv3, hd3, _, _⟩, _⟩, _⟩, _⟩, _, _⟩ := h
  obtain rfl := Option.some.inj (gCls.symm.trans hg3)
  obtain rfl := Option.some.inj (tCls.symm.trans ht3)
  clear hd0 hd1 hd2 hv0 hv1 hv2 hg0 hg1 hg2 ht0 ht1 ht2
  obtain ⟨xs, m, rfl, hx, hlen, hn, hel⟩ := DataW.trod_array Tryz.underlying357 hd3
  rw [cCls] at hlen
  rw [cStr] at hel
  have hl : ∃ t fr, W.heap[6]? = some (.cells cs3 t fr) := by
    simp only [World.var?, gCls, Option.bind_some] at hv3
    split at hv3
    · rename_i c t fr he
      cases hv3
      exact ⟨t, fr, he⟩
    · cases hv3
  obtain ⟨t, fr, hl⟩ := hl
  refine ⟨t, fr, hl.trans ?_⟩
  obtain ⟨l3⟩ := cs3
  unfold Rows.laid_yarrow_byteset_classNames at hx
  simp only [Prod.mk.injEq, DataW.agg.injEq] at hx
  obtain ⟨hx, _⟩ := hx
  obtain ⟨c0, c1, c2, c3, c4, c5, c6, rfl⟩ := seven l3 hlen
  obtain ⟨x0, x1, x2, x3, x4, x5, x6, rfl⟩ := seven xs hn
  · simp only [List.map_cons, List.map_nil, List.cons.injEq, and_true] at hx
    obtain ⟨e0, e1, e2, e3, e4, e5, e6⟩ := hx
    have h0 := str_cell (hel 0 (by decide)) e0
    have h1 := str_cell (hel 1 (by decide)) e1
    have h2 := str_cell (hel 2 (by decide)) e2
    have h3 := str_cell (hel 3 (by decide)) e3
    have h4 := str_cell (hel 4 (by decide)) e4
    have h5 := str_cell (hel 5 (by decide)) e5
    have h6 := str_cell (hel 6 (by decide)) e6
    subst h0 h1 h2 h3 h4 h5 h6
    rfl
end Go.Proofs.YtnfojonmohijpaaGreatDoor
