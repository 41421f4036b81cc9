/-
  DERIVED. The walk of Joined, arm 1 of 3.
-/
import Derived.Test.YtnfojonmohijpaaGreatDoorJYF
import Derived.Test.YtnfojonmohijpaaGreatDoorJYC
import Derived.ProofKit
set_option linter.unusedSimpArgs false
set_option linter.unusedVariables false
namespace Go.Proofs.YtnfojonmohijpaaGreatDoor
open Go.RowKit
set_option maxRecDepth 100000 in
set_option maxHeartbeats 40000000 in
theorem joined_any_1 (v1 v2 : Value) (z1 z2 : List Int) (s : ByteArray) (w : World) (hr1 : RawIs w v1 z1) (hr2 : RawIs w v2 z2) (hgn : GN w) (harm : (mdT (cv z1) 2 0).length ≤ 25 ∧ (mdT (cv z2) 2 0).length ≤ 25) :
    Calls Tryz.prog 11 #[v1, v2, .string s] w fun e w' => e = .returned (.bool true) ∧ Keeps [] w w' := by
  have HA : Hid (∀ w, GN w → Calls Tryz.prog 30 #[] w fun e w' => e = .returned (.bool true) ∧ Keeps [] w w') := awake_any
  go_enter Tryz.func11, Tryz.ntmps11
  go_wp2_with fail
  refine (HA.out w hgn).mono ?_
  rintro e w1 ⟨rfl, hk1⟩
  have hg1 := hgn.keep hk1 (by simp)
  have hr11 := hr1.keep hk1
  have hr21 := hr2.keep hk1
  clear hr1 hr2 hgn HA
  go_wp2_with fail
  refine (made_any v1 z1 2 (by decide) 0 (by decide) w1 hr11).mono ?_
  rintro e w2 ⟨rfl, hk2⟩
  have hk12 := hk1.trans hk2
  have hg2 := hg1.keep hk2 (by simp)
  have hr22 := hr21.keep hk2
  have hMp := made2_md (cv z1) 0
  have hLp := mdT_len (cv z1) 2 0
  generalize mdT (cv z1) 2 0 = p at hMp hLp harm ⊢
  clear hk1 hk2 hr11 hr21 hg1
  go_wp2_with fail
  refine (made_any v2 z2 2 (by decide) 0 (by decide) w2 hr22).mono ?_
  rintro e w3 ⟨rfl, hk3⟩
  have hk := hk12.trans hk3
  have hg := hg2.keep hk3 (by simp)
  have hMq := made2_md (cv z2) 0
  have hLq := mdT_len (cv z2) 2 0
  generalize mdT (cv z2) 2 0 = q at hMq hLq harm ⊢
  clear hk12 hk3 hr22 hg2
  have hzp : (bOf p).size = p.length := bOf_size p
  have hzq : (bOf q).size = q.length := bOf_size q
  have hp53 : p.length ≤ 53 := by omega
  have hq53 : q.length ≤ 53 := by omega
  clear hLp hLq
  have hsm := harm
  clear harm
  · obtain ⟨hp25, hq25⟩ := hsm
    have i1 : ((bOf p).size : Int) ≤ 25 := by omega
    have i2 : ((bOf q).size : Int) ≤ 25 := by omega
    have i3 : decide ((25 : Int) < ((bOf p).size : Int)) = false := by simp; omega
    have i4 : decide ((25 : Int) < ((bOf q).size : Int)) = false := by simp; omega
    go_wp2_with fail
    clear hp53 hq53 i3 i4
    have hg3 := hg
    have hk03 := hk
    clear hg hk
    have hl5 := hp25
    have hl6 := hq25
    clear hp25 hq25
    refine (ktext_any s 10 (by decide) w3).mono ?_
    rintro e w4 ⟨rfl, hk4⟩
    have hkB := hk03.trans hk4
    have hg4 := hg3.keep hk4 (by simp)
    have hts := txT_size s 10
    generalize txT s 10 = t at hts ⊢
    have hts' : (t.size : Int) ≤ 10 := by omega
    clear hk4 hk03 hg3
    go_wp2_with fail
    refine (ymatch_any (bOf p) t w4 hg4).mono ?_
    rintro e w5 ⟨tp, a, e1, rfl, h1, hk5⟩
    have hkC := hkB.trans hk5
    have hg5 := hg4.keep hk5 (by simp)
    have hz1 := h1.size
    have H1 : Hid (MatchA (bOf p) t tp a e1) := h1
    clear hk5 hkB hg4 h1
    go_wp2_with fail
    refine (ymatch_any _ t w5 hg5).mono ?_
    rintro e w6 ⟨tb, b, e2, rfl, h2, hk6⟩
    have hkD := hkC.trans hk6
    have hg6 := hg5.keep hk6 (by simp)
    rw [gpB] at h2
    have H2 : Hid (MatchA (bOf (gpT q)) t tb b e2) := h2
    clear hk6 hkC hg5 h2
    go_wp2_with fail
    refine (ymatch_any _ t w6 hg6).mono ?_
    rintro e w7 ⟨te, c, e3, rfl, h3, hk7⟩
    have hkE := hkD.trans hk7
    have hg7 := hg6.keep hk7 (by simp)
    rw [altB] at h3
    have H3 : Hid (MatchA (bOf (gpT p ++ [124] ++ gpT q)) t te c e3) := h3
    clear hk7 hkD hg6 h3
    go_wp2_with fail
    refine (ymatch_any _ t w7 hg7).mono ?_
    rintro e w8 ⟨ti, d, e4, rfl, h4, hk8⟩
    have hkF := hkE.trans hk8
    have hg8 := hg7.keep hk8 (by simp)
    rw [gpB] at h4
    have hz4 := h4.size
    have H4 : Hid (MatchA (bOf (gpT p)) t ti d e4) := h4
    clear hk8 hkE hg7 h4
    go_wp2_with fail
    refine (ymatch_any _ t w8 hg8).mono ?_
    rintro e w9 ⟨tk, k, e5, rfl, h5, hk9⟩
    have hkG := hkF.trans hk9
    have hg9 := hg8.keep hk9 (by simp)
    rw [bothB] at h5
    have hz5 := h5.size
    obtain ⟨rfl, rfl, rfl, rfl, rfl, hc, hd, hin, hei, M1, M2, hJ⟩ := joined_math hMp hMq hl5 hl6 hts H1.out H2.out H3.out H4.out h5
    clear hk9 hkF hg8 h5 H1 H2 H3 H4
    subst hc hd
    have HIN : Hid (d = true → 40 ∉ p → ti = [40, 103, 49, 32] ++ tp ++ [41]) := hin
    have HEI : Hid (d = true → te = [40, 97, 48, 32] ++ ti ++ [41]) := hei
    have HJ : Hid (JL p q t tk k M1 M2) := hJ
    have HP : Hid (p.length ≤ 25) := hl5
    clear hin hei hJ hl5 hl6
    cases d <;> cases b
    all_goals
      go_upto_region 19 with (fail)
      go_loopw [26, 27] (fun o q wr => ∃ i : Nat, q = .int .i64 i ∧ o = .bool (decide (40 ∉ p.take i)) ∧ i ≤ p.length ∧ Keeps [] w9 wr) (fun _ q _ => p.length - (intOf q).toNat)
      case atStart => exact ⟨0, rfl, by simp, Nat.zero_le _, Keeps.refl _ _⟩
      case round =>
        obtain ⟨i, rfl, rfl, hi, hkr⟩ := hrel
        by_cases hlt : i < p.length
        · have hls : i < (bOf p).size := by omega
          have hpi : p[i]? = some ((bOf p)[i]'hls) := by
            rw [show (bOf p)[i]'hls = p[i]'hlt from by simp [bOf, ByteArray.getElem_eq_getElem_data]]
            exact List.getElem?_eq_getElem hlt
          obtain ⟨n, hn⟩ : ∃ n, ((bOf p)[i]'hls).toNat = n := ⟨_, rfl⟩
          have hst : (40 ∈ p.take (i + 1)) ↔ (40 ∈ p.take i ∨ n = 40) := by
            rw [List.take_add_one, hpi, List.mem_append]
            refine or_congr Iff.rfl ?_
            simp only [Option.toList_some, List.mem_singleton]
            rw [← hn]
            constructor
            · intro h; rw [← h]; rfl
            · intro h; exact (UInt8.toNat_inj.1 h).symm
          have hi0 : (0 : Int) ≤ (i : Int) := by omega
          have hi1 : (i : Int) < (p.length : Int) := by omega
          have hi1' : (i : Int) < ((bOf p).size : Int) := by omega
          have hi2 : (i : Int) ≤ 100 := by have := HP.out; omega
          have HI : Hid (i < p.length) := hlt
          have hn0 : (0 : Int) ≤ (n : Int) := by omega
          have HS : Hid ((40 ∈ p.take (i + 1)) ↔ (40 ∈ p.take i ∨ n = 40)) := hst
          clear hpi hst hlt hi
          by_cases hb : 40 ∈ p.take i
          · rw [show decide (40 ∉ p.take i) = false from by simp [hb]]
            have HB : Hid (40 ∈ p.take i) := hb
            clear hb
            go_wp2_with fail
            exact ⟨⟨i + 1, by go_num, by rw [decide_eq_false (fun h => h (HS.out.2 (Or.inl HB.out)))], HI.out, hkr⟩, by have := HI.out; simp [intOf]; omega⟩
          · rw [show decide (40 ∉ p.take i) = true from by simp [hb]]
            have HB : Hid (40 ∉ p.take i) := hb
            clear hb
            by_cases h40 : n = 40
            · have h40' : (n : Int) = 40 := by omega
              have HC : Hid (n = 40) := h40
              clear h40
              go_wp2_with fail
              exact ⟨⟨i + 1, by go_num, by rw [decide_eq_false (fun h => h (HS.out.2 (Or.inr HC.out)))]; try simp [h40'], HI.out, hkr⟩, by have := HI.out; simp [intOf]; omega⟩
            · have h40' : ¬ (n : Int) = 40 := by omega
              have HC : Hid (n ≠ 40) := h40
              clear h40
              go_wp2_with fail
              exact ⟨⟨i + 1, by go_num, congrArg Value.bool ((show ((n : Int) != 40) = true from by simp [h40']).trans (decide_eq_true (show ¬ (40 ∈ p.take (i + 1)) from fun h => (HS.out.1 h).elim HB.out HC.out)).symm), HI.out, hkr⟩, by have := HI.out; simp [intOf]; omega⟩
        · have hpl : p.take i = p := List.take_of_length_le (by omega)
          rw [hpl]
          have hni : ¬ (i : Int) < (p.length : Int) := by omega
          have hni' : ¬ (i : Int) < ((bOf p).size : Int) := by omega
          clear hpl hlt hi
          have hk10 := hkG.trans hkr
          have hg10 := hg9.keep hkr (by simp)
          clear hkr hkG hg9
          have HX : Hid (40 ∈ p ∨ 40 ∉ p) := Classical.em _
          try
            have hte := HEI.out (by trivial)
            have hte' : nmB te = (⟨#[40, 97, 48, 32]⟩ : ByteArray) ++ nmB ti ++ ⟨#[41]⟩ := by
              rw [hte]; exact (bOf_app _ _).trans (congrArg (· ++ bOf [41]) (bOf_app _ _))
            clear hte
          rcases HX.out with hbr | hbr
          all_goals
            first
              | (have hdd : decide (40 ∉ p) = false := decide_eq_false (fun h => h hbr)
                 rw [hdd]
                 clear hdd)
              | (have hdd : decide (40 ∉ p) = true := decide_eq_true hbr
                 rw [hdd]
                 clear hdd
                 try
                   have hti := HIN.out (by trivial) hbr
                   have hti' : nmB ti = (⟨#[40, 103, 49, 32]⟩ : ByteArray) ++ nmB tp ++ ⟨#[41]⟩ := by
                     rw [hti]; exact (bOf_app _ _).trans (congrArg (· ++ bOf [41]) (bOf_app _ _))
                   clear hti)
            clear hbr HX
            go_upto_region 25 with (fail)
            go_loopw [28] (fun q wr2 => ∃ n : Nat, q = .int .i64 ((n : Int) - 1) ∧ n ≤ t.size + 1 ∧ (∀ m, n ≤ m → m ≤ t.size → ¬ (M1 m ∧ M2 m)) ∧ Keeps [] w wr2 ∧ GN wr2) (fun q _ => (intOf q + 1).toNat)
            case atStart => exact ⟨t.size + 1, congrArg (Value.int .i64) (by omega), Nat.le_refl _, fun m h1 h2 => by omega, hk10, hg10⟩
            case round =>
              obtain ⟨n, rfl, hn, hno, hkL, hgL⟩ := hrel
              cases n with
              | zero =>
                obtain rfl : k = false := by
                  cases hkk : k with
                  | false => rfl
                  | true => obtain ⟨m, h1, h2⟩ := HJ.out.yes hkk; exact absurd h2 (hno m (Nat.zero_le _) h1)
                go_wp2_with fail
                go_ret
                exact ⟨rfl, hkL⟩
              | succ m =>
                rw [show ((m + 1 : Nat) : Int) - 1 = (m : Int) by omega]
                have hm0 : (0 : Int) ≤ (m : Int) := by omega
                have hm1 : (m : Int) ≤ (t.size : Int) := by omega
                have HM : Hid (m ≤ t.size) := by show m ≤ t.size; omega
                have HNO : Hid (∀ j, m + 1 ≤ j → j ≤ t.size → ¬ (M1 j ∧ M2 j)) := hno
                clear hno hn
                go_wp2_with fail
                refine (ymatch_any _ (t.extract 0 m) _ hgL).mono ?_
                rintro e wa ⟨x, b1, n1, rfl, h6, hka⟩
                have hkM := hkL.trans hka
                have hgM := hgL.keep hka (by simp)
                rw [gpB] at h6
                have hz6 := h6.size
                obtain ⟨rfl, hb1⟩ := HJ.out.fst m _ (seg_pre t HM.out).1 (seg_pre t HM.out).2 _ _ _ h6
                have H6 : Hid (MatchA (bOf (gpT p)) (t.extract 0 m) x b1 0) := h6
                have HB1 : Hid (b1 = true ↔ M1 m) := hb1
                clear hka h6 hkL hgL hb1
                go_wp2_with fail
                refine (ymatch_any _ (t.extract m t.size) _ hgM).mono ?_
                rintro e wb ⟨y, b2, n2, rfl, h7, hkb⟩
                have hkN := hkM.trans hkb
                have hgN := hgM.keep hkb (by simp)
                rw [gpB] at h7
                obtain ⟨rfl, hb2⟩ := HJ.out.snd m _ HM.out (seg_suf t HM.out).1 (seg_suf t HM.out).2 _ _ _ h7
                have HB2 : Hid (b2 = true ↔ M2 m) := hb2
                clear hkb h7 hkM hgM hb2
                cases b1 with
                | false =>
                  go_wp2_with fail
                  exact ⟨⟨m, rfl, Nat.le_succ_of_le HM.out, fun j h1 h2 => by
                    rcases Nat.lt_or_ge m j with h | h
                    · exact HNO.out j h h2
                    · obtain rfl : j = m := by omega
                      exact fun hh => Bool.noConfusion (HB1.out.2 hh.1), hkN, hgN⟩, by simp [intOf]⟩
                | true =>
                  cases b2 with
                  | false =>
                    go_wp2_with fail
                    exact ⟨⟨m, rfl, Nat.le_succ_of_le HM.out, fun j h1 h2 => by
                      rcases Nat.lt_or_ge m j with h | h
                      · exact HNO.out j h h2
                      · obtain rfl : j = m := by omega
                        exact fun hh => Bool.noConfusion (HB2.out.2 hh.2), hkN, hgN⟩, by simp [intOf]⟩
                  | true =>
                    have hM1 := HB1.out.1 rfl
                    have hM2 := HB2.out.1 rfl
                    obtain rfl : k = true := by
                      cases hkk : k with
                      | true => rfl
                      | false => exact absurd ⟨hM1, hM2⟩ (HJ.out.no hkk m HM.out)
                    obtain ⟨r, hr, hrn⟩ := HJ.out.top m _ (seg_pre t HM.out).1 (seg_pre t HM.out).2 HM.out hM1 hM2 (fun j h1 h2 => HNO.out j h1 h2) _ _ _ H6.out
                    have HR : Hid (tk = [40, 115, 32] ++ x ++ [32] ++ r ∧ r ≠ []) := ⟨hr, hrn⟩
                    clear hM1 hM2 hr hrn
                    go_upto_region 33 with (fail)
                    generalize hH : (⟨#[40, 115, 32]⟩ : ByteArray) ++ nmB x ++ ⟨#[32]⟩ = H
                    obtain ⟨hq1, hq2⟩ := both_head HR.out.1 HR.out.2 hH
                    generalize nmB tk = B at hq1 hq2 hz5 ⊢
                    have hq3 : (H.size : Int) < (B.size : Int) := by omega
                    have hq4 : decide ((H.size : Int) < (B.size : Int)) = true := by simp; omega
                    clear HR hH hz6 hz1 hz4
                    go_wp2_with fail
                    go_ret
                    exact ⟨rfl, hkN⟩
end Go.Proofs.YtnfojonmohijpaaGreatDoor
namespace Go.Proofs.YtnfojonmohijpaaGreatDoor
open Go.RowKit
set_option maxRecDepth 100000 in
set_option maxHeartbeats 40000000 in
theorem joined_any_2 (v1 v2 : Value) (z1 z2 : List Int) (s : ByteArray) (w : World) (hr1 : RawIs w v1 z1) (hr2 : RawIs w v2 z2) (hgn : GN w) (harm : 25 < (mdT (cv z1) 2 0).length) :
    Calls Tryz.prog 11 #[v1, v2, .string s] w fun e w' => e = .returned (.bool true) ∧ Keeps [] w w' := by
  have HA : Hid (∀ w, GN w → Calls Tryz.prog 30 #[] w fun e w' => e = .returned (.bool true) ∧ Keeps [] w w') := awake_any
  go_enter Tryz.func11, Tryz.ntmps11
  go_wp2_with fail
  refine (HA.out w hgn).mono ?_
  rintro e w1 ⟨rfl, hk1⟩
  have hg1 := hgn.keep hk1 (by simp)
  have hr11 := hr1.keep hk1
  have hr21 := hr2.keep hk1
  clear hr1 hr2 hgn HA
  go_wp2_with fail
  refine (made_any v1 z1 2 (by decide) 0 (by decide) w1 hr11).mono ?_
  rintro e w2 ⟨rfl, hk2⟩
  have hk12 := hk1.trans hk2
  have hg2 := hg1.keep hk2 (by simp)
  have hr22 := hr21.keep hk2
  have hMp := made2_md (cv z1) 0
  have hLp := mdT_len (cv z1) 2 0
  generalize mdT (cv z1) 2 0 = p at hMp hLp harm ⊢
  clear hk1 hk2 hr11 hr21 hg1
  go_wp2_with fail
  refine (made_any v2 z2 2 (by decide) 0 (by decide) w2 hr22).mono ?_
  rintro e w3 ⟨rfl, hk3⟩
  have hk := hk12.trans hk3
  have hg := hg2.keep hk3 (by simp)
  have hMq := made2_md (cv z2) 0
  have hLq := mdT_len (cv z2) 2 0
  generalize mdT (cv z2) 2 0 = q at hMq hLq ⊢
  clear hk12 hk3 hr22 hg2
  have hzp : (bOf p).size = p.length := bOf_size p
  have hzq : (bOf q).size = q.length := bOf_size q
  have hp53 : p.length ≤ 53 := by omega
  have hq53 : q.length ≤ 53 := by omega
  clear hLp hLq
  · have hsm := harm
    have hS1 := ksingle_any p.length (by omega)
    have hS2 := ksingle_any q.length (by omega)
    have hm1 := made2_sg (p.length % 9)
    have hm2 := made2_sg (q.length % 9)
    have hl1 := sgT_len (p.length % 9)
    have hl2 := sgT_len (q.length % 9)
    have HS1 : Hid (∀ w, Calls Tryz.prog 33 #[.int .i64 p.length] w fun e w' => e = .returned (.string (bOf (sgT (p.length % 9)))) ∧ Keeps [] w w') := hS1
    have HS2 : Hid (∀ w, Calls Tryz.prog 33 #[.int .i64 q.length] w fun e w' => e = .returned (.string (bOf (sgT (q.length % 9)))) ∧ Keeps [] w w') := hS2
    clear hS1 hS2 hMp hMq
    have i3 : decide ((25 : Int) < (p.length : Int)) = true := by simp; omega
    clear harm
    · have j1 := of_decide_eq_true i3
      go_wp2_with fail
      refine (HS1.out w3).mono ?_
      rintro e w31 ⟨rfl, hk31⟩
      have hkA := hk.trans hk31
      have hgA := hg.keep hk31 (by simp)
      clear hk31 HS1 hk hg
      go_wp2_with fail
      refine (HS2.out w31).mono ?_
      rintro e w32 ⟨rfl, hk32⟩
      have hk03 := hkA.trans hk32
      have hg3 := hgA.keep hk32 (by simp)
      clear hk32 HS2 hkA hgA hsm hp53 hq53 j1
      generalize hpp : sgT (p.length % 9) = p1 at hm1 hl1 ⊢
      generalize hqq : sgT (q.length % 9) = q1 at hm2 hl2 ⊢
      clear hpp hqq hzp hzq i3
      have hMp := hm1
      have hMq := hm2
      have hzp : (bOf p1).size = p1.length := bOf_size p1
      have hzq : (bOf q1).size = q1.length := bOf_size q1
      have hl5 : p1.length ≤ 25 := by omega
      have hl6 : q1.length ≤ 25 := by omega
      have i1 : ((bOf p1).size : Int) ≤ 25 := by omega
      have i2 : ((bOf q1).size : Int) ≤ 25 := by omega
      clear hl1 hl2 hm1 hm2
      go_wp2_with fail
      refine (ktext_any s 10 (by decide) w32).mono ?_
      rintro e w4 ⟨rfl, hk4⟩
      have hkB := hk03.trans hk4
      have hg4 := hg3.keep hk4 (by simp)
      have hts := txT_size s 10
      generalize txT s 10 = t at hts ⊢
      have hts' : (t.size : Int) ≤ 10 := by omega
      clear hk4 hk03 hg3
      go_wp2_with fail
      refine (ymatch_any (bOf p1) t w4 hg4).mono ?_
      rintro e w5 ⟨tp, a, e1, rfl, h1, hk5⟩
      have hkC := hkB.trans hk5
      have hg5 := hg4.keep hk5 (by simp)
      have hz1 := h1.size
      have H1 : Hid (MatchA (bOf p1) t tp a e1) := h1
      clear hk5 hkB hg4 h1
      go_wp2_with fail
      refine (ymatch_any _ t w5 hg5).mono ?_
      rintro e w6 ⟨tb, b, e2, rfl, h2, hk6⟩
      have hkD := hkC.trans hk6
      have hg6 := hg5.keep hk6 (by simp)
      rw [gpB] at h2
      have H2 : Hid (MatchA (bOf (gpT q1)) t tb b e2) := h2
      clear hk6 hkC hg5 h2
      go_wp2_with fail
      refine (ymatch_any _ t w6 hg6).mono ?_
      rintro e w7 ⟨te, c, e3, rfl, h3, hk7⟩
      have hkE := hkD.trans hk7
      have hg7 := hg6.keep hk7 (by simp)
      rw [altB] at h3
      have H3 : Hid (MatchA (bOf (gpT p1 ++ [124] ++ gpT q1)) t te c e3) := h3
      clear hk7 hkD hg6 h3
      go_wp2_with fail
      refine (ymatch_any _ t w7 hg7).mono ?_
      rintro e w8 ⟨ti, d, e4, rfl, h4, hk8⟩
      have hkF := hkE.trans hk8
      have hg8 := hg7.keep hk8 (by simp)
      rw [gpB] at h4
      have hz4 := h4.size
      have H4 : Hid (MatchA (bOf (gpT p1)) t ti d e4) := h4
      clear hk8 hkE hg7 h4
      go_wp2_with fail
      refine (ymatch_any _ t w8 hg8).mono ?_
      rintro e w9 ⟨tk, k, e5, rfl, h5, hk9⟩
      have hkG := hkF.trans hk9
      have hg9 := hg8.keep hk9 (by simp)
      rw [bothB] at h5
      have hz5 := h5.size
      obtain ⟨rfl, rfl, rfl, rfl, rfl, hc, hd, hin, hei, M1, M2, hJ⟩ := joined_math hMp hMq hl5 hl6 hts H1.out H2.out H3.out H4.out h5
      clear hk9 hkF hg8 h5 H1 H2 H3 H4
      subst hc hd
      have HIN : Hid (d = true → 40 ∉ p1 → ti = [40, 103, 49, 32] ++ tp ++ [41]) := hin
      have HEI : Hid (d = true → te = [40, 97, 48, 32] ++ ti ++ [41]) := hei
      have HJ : Hid (JL p1 q1 t tk k M1 M2) := hJ
      have HP : Hid (p1.length ≤ 25) := hl5
      clear hin hei hJ hl5 hl6
      cases d <;> cases b
      all_goals
        go_upto_region 19 with (fail)
        go_loopw [26, 27] (fun o q1 wr => ∃ i : Nat, q1 = .int .i64 i ∧ o = .bool (decide (40 ∉ p1.take i)) ∧ i ≤ p1.length ∧ Keeps [] w9 wr) (fun _ q1 _ => p1.length - (intOf q1).toNat)
        case atStart => exact ⟨0, rfl, by simp, Nat.zero_le _, Keeps.refl _ _⟩
        case round =>
          obtain ⟨i, rfl, rfl, hi, hkr⟩ := hrel
          by_cases hlt : i < p1.length
          · have hls : i < (bOf p1).size := by omega
            have hpi : p1[i]? = some ((bOf p1)[i]'hls) := by
              rw [show (bOf p1)[i]'hls = p1[i]'hlt from by simp [bOf, ByteArray.getElem_eq_getElem_data]]
              exact List.getElem?_eq_getElem hlt
            obtain ⟨n, hn⟩ : ∃ n, ((bOf p1)[i]'hls).toNat = n := ⟨_, rfl⟩
            have hst : (40 ∈ p1.take (i + 1)) ↔ (40 ∈ p1.take i ∨ n = 40) := by
              rw [List.take_add_one, hpi, List.mem_append]
              refine or_congr Iff.rfl ?_
              simp only [Option.toList_some, List.mem_singleton]
              rw [← hn]
              constructor
              · intro h; rw [← h]; rfl
              · intro h; exact (UInt8.toNat_inj.1 h).symm
            have hi0 : (0 : Int) ≤ (i : Int) := by omega
            have hi1 : (i : Int) < (p1.length : Int) := by omega
            have hi1' : (i : Int) < ((bOf p1).size : Int) := by omega
            have hi2 : (i : Int) ≤ 100 := by have := HP.out; omega
            have HI : Hid (i < p1.length) := hlt
            have hn0 : (0 : Int) ≤ (n : Int) := by omega
            have HS : Hid ((40 ∈ p1.take (i + 1)) ↔ (40 ∈ p1.take i ∨ n = 40)) := hst
            clear hpi hst hlt hi
            by_cases hb : 40 ∈ p1.take i
            · rw [show decide (40 ∉ p1.take i) = false from by simp [hb]]
              have HB : Hid (40 ∈ p1.take i) := hb
              clear hb
              go_wp2_with fail
              exact ⟨⟨i + 1, by go_num, by rw [decide_eq_false (fun h => h (HS.out.2 (Or.inl HB.out)))], HI.out, hkr⟩, by have := HI.out; simp [intOf]; omega⟩
            · rw [show decide (40 ∉ p1.take i) = true from by simp [hb]]
              have HB : Hid (40 ∉ p1.take i) := hb
              clear hb
              by_cases h40 : n = 40
              · have h40' : (n : Int) = 40 := by omega
                have HC : Hid (n = 40) := h40
                clear h40
                go_wp2_with fail
                exact ⟨⟨i + 1, by go_num, by rw [decide_eq_false (fun h => h (HS.out.2 (Or.inr HC.out)))]; try simp [h40'], HI.out, hkr⟩, by have := HI.out; simp [intOf]; omega⟩
              · have h40' : ¬ (n : Int) = 40 := by omega
                have HC : Hid (n ≠ 40) := h40
                clear h40
                go_wp2_with fail
                exact ⟨⟨i + 1, by go_num, congrArg Value.bool ((show ((n : Int) != 40) = true from by simp [h40']).trans (decide_eq_true (show ¬ (40 ∈ p1.take (i + 1)) from fun h => (HS.out.1 h).elim HB.out HC.out)).symm), HI.out, hkr⟩, by have := HI.out; simp [intOf]; omega⟩
          · have hpl : p1.take i = p1 := List.take_of_length_le (by omega)
            rw [hpl]
            have hni : ¬ (i : Int) < (p1.length : Int) := by omega
            have hni' : ¬ (i : Int) < ((bOf p1).size : Int) := by omega
            clear hpl hlt hi
            have hk10 := hkG.trans hkr
            have hg10 := hg9.keep hkr (by simp)
            clear hkr hkG hg9
            have HX : Hid (40 ∈ p1 ∨ 40 ∉ p1) := Classical.em _
            try
              have hte := HEI.out (by trivial)
              have hte' : nmB te = (⟨#[40, 97, 48, 32]⟩ : ByteArray) ++ nmB ti ++ ⟨#[41]⟩ := by
                rw [hte]; exact (bOf_app _ _).trans (congrArg (· ++ bOf [41]) (bOf_app _ _))
              clear hte
            rcases HX.out with hbr | hbr
            all_goals
              first
                | (have hdd : decide (40 ∉ p1) = false := decide_eq_false (fun h => h hbr)
                   rw [hdd]
                   clear hdd)
                | (have hdd : decide (40 ∉ p1) = true := decide_eq_true hbr
                   rw [hdd]
                   clear hdd
                   try
                     have hti := HIN.out (by trivial) hbr
                     have hti' : nmB ti = (⟨#[40, 103, 49, 32]⟩ : ByteArray) ++ nmB tp ++ ⟨#[41]⟩ := by
                       rw [hti]; exact (bOf_app _ _).trans (congrArg (· ++ bOf [41]) (bOf_app _ _))
                     clear hti)
              clear hbr HX
              go_upto_region 25 with (fail)
              go_loopw [28] (fun q1 wr2 => ∃ n : Nat, q1 = .int .i64 ((n : Int) - 1) ∧ n ≤ t.size + 1 ∧ (∀ m, n ≤ m → m ≤ t.size → ¬ (M1 m ∧ M2 m)) ∧ Keeps [] w wr2 ∧ GN wr2) (fun q1 _ => (intOf q1 + 1).toNat)
              case atStart => exact ⟨t.size + 1, congrArg (Value.int .i64) (by omega), Nat.le_refl _, fun m h1 h2 => by omega, hk10, hg10⟩
              case round =>
                obtain ⟨n, rfl, hn, hno, hkL, hgL⟩ := hrel
                cases n with
                | zero =>
                  obtain rfl : k = false := by
                    cases hkk : k with
                    | false => rfl
                    | true => obtain ⟨m, h1, h2⟩ := HJ.out.yes hkk; exact absurd h2 (hno m (Nat.zero_le _) h1)
                  go_wp2_with fail
                  go_ret
                  exact ⟨rfl, hkL⟩
                | succ m =>
                  rw [show ((m + 1 : Nat) : Int) - 1 = (m : Int) by omega]
                  have hm0 : (0 : Int) ≤ (m : Int) := by omega
                  have hm1 : (m : Int) ≤ (t.size : Int) := by omega
                  have HM : Hid (m ≤ t.size) := by show m ≤ t.size; omega
                  have HNO : Hid (∀ j, m + 1 ≤ j → j ≤ t.size → ¬ (M1 j ∧ M2 j)) := hno
                  clear hno hn
                  go_wp2_with fail
                  refine (ymatch_any _ (t.extract 0 m) _ hgL).mono ?_
                  rintro e wa ⟨x, b1, n1, rfl, h6, hka⟩
                  have hkM := hkL.trans hka
                  have hgM := hgL.keep hka (by simp)
                  rw [gpB] at h6
                  have hz6 := h6.size
                  obtain ⟨rfl, hb1⟩ := HJ.out.fst m _ (seg_pre t HM.out).1 (seg_pre t HM.out).2 _ _ _ h6
                  have H6 : Hid (MatchA (bOf (gpT p1)) (t.extract 0 m) x b1 0) := h6
                  have HB1 : Hid (b1 = true ↔ M1 m) := hb1
                  clear hka h6 hkL hgL hb1
                  go_wp2_with fail
                  refine (ymatch_any _ (t.extract m t.size) _ hgM).mono ?_
                  rintro e wb ⟨y, b2, n2, rfl, h7, hkb⟩
                  have hkN := hkM.trans hkb
                  have hgN := hgM.keep hkb (by simp)
                  rw [gpB] at h7
                  obtain ⟨rfl, hb2⟩ := HJ.out.snd m _ HM.out (seg_suf t HM.out).1 (seg_suf t HM.out).2 _ _ _ h7
                  have HB2 : Hid (b2 = true ↔ M2 m) := hb2
                  clear hkb h7 hkM hgM hb2
                  cases b1 with
                  | false =>
                    go_wp2_with fail
                    exact ⟨⟨m, rfl, Nat.le_succ_of_le HM.out, fun j h1 h2 => by
                      rcases Nat.lt_or_ge m j with h | h
                      · exact HNO.out j h h2
                      · obtain rfl : j = m := by omega
                        exact fun hh => Bool.noConfusion (HB1.out.2 hh.1), hkN, hgN⟩, by simp [intOf]⟩
                  | true =>
                    cases b2 with
                    | false =>
                      go_wp2_with fail
                      exact ⟨⟨m, rfl, Nat.le_succ_of_le HM.out, fun j h1 h2 => by
                        rcases Nat.lt_or_ge m j with h | h
                        · exact HNO.out j h h2
                        · obtain rfl : j = m := by omega
                          exact fun hh => Bool.noConfusion (HB2.out.2 hh.2), hkN, hgN⟩, by simp [intOf]⟩
                    | true =>
                      have hM1 := HB1.out.1 rfl
                      have hM2 := HB2.out.1 rfl
                      obtain rfl : k = true := by
                        cases hkk : k with
                        | true => rfl
                        | false => exact absurd ⟨hM1, hM2⟩ (HJ.out.no hkk m HM.out)
                      obtain ⟨r, hr, hrn⟩ := HJ.out.top m _ (seg_pre t HM.out).1 (seg_pre t HM.out).2 HM.out hM1 hM2 (fun j h1 h2 => HNO.out j h1 h2) _ _ _ H6.out
                      have HR : Hid (tk = [40, 115, 32] ++ x ++ [32] ++ r ∧ r ≠ []) := ⟨hr, hrn⟩
                      clear hM1 hM2 hr hrn
                      go_upto_region 33 with (fail)
                      generalize hH : (⟨#[40, 115, 32]⟩ : ByteArray) ++ nmB x ++ ⟨#[32]⟩ = H
                      obtain ⟨hq1, hq2⟩ := both_head HR.out.1 HR.out.2 hH
                      generalize nmB tk = B at hq1 hq2 hz5 ⊢
                      have hq3 : (H.size : Int) < (B.size : Int) := by omega
                      have hq4 : decide ((H.size : Int) < (B.size : Int)) = true := by simp; omega
                      clear HR hH hz6 hz1 hz4
                      go_wp2_with fail
                      go_ret
                      exact ⟨rfl, hkN⟩
end Go.Proofs.YtnfojonmohijpaaGreatDoor
namespace Go.Proofs.YtnfojonmohijpaaGreatDoor
open Go.RowKit
set_option maxRecDepth 100000 in
set_option maxHeartbeats 40000000 in
theorem joined_any_3 (v1 v2 : Value) (z1 z2 : List Int) (s : ByteArray) (w : World) (hr1 : RawIs w v1 z1) (hr2 : RawIs w v2 z2) (hgn : GN w) (harm : (mdT (cv z1) 2 0).length ≤ 25 ∧ 25 < (mdT (cv z2) 2 0).length) :
    Calls Tryz.prog 11 #[v1, v2, .string s] w fun e w' => e = .returned (.bool true) ∧ Keeps [] w w' := by
  have HA : Hid (∀ w, GN w → Calls Tryz.prog 30 #[] w fun e w' => e = .returned (.bool true) ∧ Keeps [] w w') := awake_any
  go_enter Tryz.func11, Tryz.ntmps11
  go_wp2_with fail
  refine (HA.out w hgn).mono ?_
  rintro e w1 ⟨rfl, hk1⟩
  have hg1 := hgn.keep hk1 (by simp)
  have hr11 := hr1.keep hk1
  have hr21 := hr2.keep hk1
  clear hr1 hr2 hgn HA
  go_wp2_with fail
  refine (made_any v1 z1 2 (by decide) 0 (by decide) w1 hr11).mono ?_
  rintro e w2 ⟨rfl, hk2⟩
  have hk12 := hk1.trans hk2
  have hg2 := hg1.keep hk2 (by simp)
  have hr22 := hr21.keep hk2
  have hMp := made2_md (cv z1) 0
  have hLp := mdT_len (cv z1) 2 0
  generalize mdT (cv z1) 2 0 = p at hMp hLp harm ⊢
  clear hk1 hk2 hr11 hr21 hg1
  go_wp2_with fail
  refine (made_any v2 z2 2 (by decide) 0 (by decide) w2 hr22).mono ?_
  rintro e w3 ⟨rfl, hk3⟩
  have hk := hk12.trans hk3
  have hg := hg2.keep hk3 (by simp)
  have hMq := made2_md (cv z2) 0
  have hLq := mdT_len (cv z2) 2 0
  generalize mdT (cv z2) 2 0 = q at hMq hLq harm ⊢
  clear hk12 hk3 hr22 hg2
  have hzp : (bOf p).size = p.length := bOf_size p
  have hzq : (bOf q).size = q.length := bOf_size q
  have hp53 : p.length ≤ 53 := by omega
  have hq53 : q.length ≤ 53 := by omega
  clear hLp hLq
  · have hsm := harm
    have hS1 := ksingle_any p.length (by omega)
    have hS2 := ksingle_any q.length (by omega)
    have hm1 := made2_sg (p.length % 9)
    have hm2 := made2_sg (q.length % 9)
    have hl1 := sgT_len (p.length % 9)
    have hl2 := sgT_len (q.length % 9)
    have HS1 : Hid (∀ w, Calls Tryz.prog 33 #[.int .i64 p.length] w fun e w' => e = .returned (.string (bOf (sgT (p.length % 9)))) ∧ Keeps [] w w') := hS1
    have HS2 : Hid (∀ w, Calls Tryz.prog 33 #[.int .i64 q.length] w fun e w' => e = .returned (.string (bOf (sgT (q.length % 9)))) ∧ Keeps [] w w') := hS2
    clear hS1 hS2 hMp hMq
    have i3 : decide ((25 : Int) < (p.length : Int)) = false := by simp; omega
    have i4 : decide ((25 : Int) < (q.length : Int)) = true := by simp; omega
    clear harm
    · have j1 := of_decide_eq_true i4
      go_wp2_with fail
      refine (HS1.out w3).mono ?_
      rintro e w31 ⟨rfl, hk31⟩
      have hkA := hk.trans hk31
      have hgA := hg.keep hk31 (by simp)
      clear hk31 HS1 hk hg
      go_wp2_with fail
      refine (HS2.out w31).mono ?_
      rintro e w32 ⟨rfl, hk32⟩
      have hk03 := hkA.trans hk32
      have hg3 := hgA.keep hk32 (by simp)
      clear hk32 HS2 hkA hgA hsm hp53 hq53 j1
      generalize hpp : sgT (p.length % 9) = p1 at hm1 hl1 ⊢
      generalize hqq : sgT (q.length % 9) = q1 at hm2 hl2 ⊢
      clear hpp hqq hzp hzq i3 i4
      have hMp := hm1
      have hMq := hm2
      have hzp : (bOf p1).size = p1.length := bOf_size p1
      have hzq : (bOf q1).size = q1.length := bOf_size q1
      have hl5 : p1.length ≤ 25 := by omega
      have hl6 : q1.length ≤ 25 := by omega
      have i1 : ((bOf p1).size : Int) ≤ 25 := by omega
      have i2 : ((bOf q1).size : Int) ≤ 25 := by omega
      clear hl1 hl2 hm1 hm2
      go_wp2_with fail
      refine (ktext_any s 10 (by decide) w32).mono ?_
      rintro e w4 ⟨rfl, hk4⟩
      have hkB := hk03.trans hk4
      have hg4 := hg3.keep hk4 (by simp)
      have hts := txT_size s 10
      generalize txT s 10 = t at hts ⊢
      have hts' : (t.size : Int) ≤ 10 := by omega
      clear hk4 hk03 hg3
      go_wp2_with fail
      refine (ymatch_any (bOf p1) t w4 hg4).mono ?_
      rintro e w5 ⟨tp, a, e1, rfl, h1, hk5⟩
      have hkC := hkB.trans hk5
      have hg5 := hg4.keep hk5 (by simp)
      have hz1 := h1.size
      have H1 : Hid (MatchA (bOf p1) t tp a e1) := h1
      clear hk5 hkB hg4 h1
      go_wp2_with fail
      refine (ymatch_any _ t w5 hg5).mono ?_
      rintro e w6 ⟨tb, b, e2, rfl, h2, hk6⟩
      have hkD := hkC.trans hk6
      have hg6 := hg5.keep hk6 (by simp)
      rw [gpB] at h2
      have H2 : Hid (MatchA (bOf (gpT q1)) t tb b e2) := h2
      clear hk6 hkC hg5 h2
      go_wp2_with fail
      refine (ymatch_any _ t w6 hg6).mono ?_
      rintro e w7 ⟨te, c, e3, rfl, h3, hk7⟩
      have hkE := hkD.trans hk7
      have hg7 := hg6.keep hk7 (by simp)
      rw [altB] at h3
      have H3 : Hid (MatchA (bOf (gpT p1 ++ [124] ++ gpT q1)) t te c e3) := h3
      clear hk7 hkD hg6 h3
      go_wp2_with fail
      refine (ymatch_any _ t w7 hg7).mono ?_
      rintro e w8 ⟨ti, d, e4, rfl, h4, hk8⟩
      have hkF := hkE.trans hk8
      have hg8 := hg7.keep hk8 (by simp)
      rw [gpB] at h4
      have hz4 := h4.size
      have H4 : Hid (MatchA (bOf (gpT p1)) t ti d e4) := h4
      clear hk8 hkE hg7 h4
      go_wp2_with fail
      refine (ymatch_any _ t w8 hg8).mono ?_
      rintro e w9 ⟨tk, k, e5, rfl, h5, hk9⟩
      have hkG := hkF.trans hk9
      have hg9 := hg8.keep hk9 (by simp)
      rw [bothB] at h5
      have hz5 := h5.size
      obtain ⟨rfl, rfl, rfl, rfl, rfl, hc, hd, hin, hei, M1, M2, hJ⟩ := joined_math hMp hMq hl5 hl6 hts H1.out H2.out H3.out H4.out h5
      clear hk9 hkF hg8 h5 H1 H2 H3 H4
      subst hc hd
      have HIN : Hid (d = true → 40 ∉ p1 → ti = [40, 103, 49, 32] ++ tp ++ [41]) := hin
      have HEI : Hid (d = true → te = [40, 97, 48, 32] ++ ti ++ [41]) := hei
      have HJ : Hid (JL p1 q1 t tk k M1 M2) := hJ
      have HP : Hid (p1.length ≤ 25) := hl5
      clear hin hei hJ hl5 hl6
      cases d <;> cases b
      all_goals
        go_upto_region 19 with (fail)
        go_loopw [26, 27] (fun o q1 wr => ∃ i : Nat, q1 = .int .i64 i ∧ o = .bool (decide (40 ∉ p1.take i)) ∧ i ≤ p1.length ∧ Keeps [] w9 wr) (fun _ q1 _ => p1.length - (intOf q1).toNat)
        case atStart => exact ⟨0, rfl, by simp, Nat.zero_le _, Keeps.refl _ _⟩
        case round =>
          obtain ⟨i, rfl, rfl, hi, hkr⟩ := hrel
          by_cases hlt : i < p1.length
          · have hls : i < (bOf p1).size := by omega
            have hpi : p1[i]? = some ((bOf p1)[i]'hls) := by
              rw [show (bOf p1)[i]'hls = p1[i]'hlt from by simp [bOf, ByteArray.getElem_eq_getElem_data]]
              exact List.getElem?_eq_getElem hlt
            obtain ⟨n, hn⟩ : ∃ n, ((bOf p1)[i]'hls).toNat = n := ⟨_, rfl⟩
            have hst : (40 ∈ p1.take (i + 1)) ↔ (40 ∈ p1.take i ∨ n = 40) := by
              rw [List.take_add_one, hpi, List.mem_append]
              refine or_congr Iff.rfl ?_
              simp only [Option.toList_some, List.mem_singleton]
              rw [← hn]
              constructor
              · intro h; rw [← h]; rfl
              · intro h; exact (UInt8.toNat_inj.1 h).symm
            have hi0 : (0 : Int) ≤ (i : Int) := by omega
            have hi1 : (i : Int) < (p1.length : Int) := by omega
            have hi1' : (i : Int) < ((bOf p1).size : Int) := by omega
            have hi2 : (i : Int) ≤ 100 := by have := HP.out; omega
            have HI : Hid (i < p1.length) := hlt
            have hn0 : (0 : Int) ≤ (n : Int) := by omega
            have HS : Hid ((40 ∈ p1.take (i + 1)) ↔ (40 ∈ p1.take i ∨ n = 40)) := hst
            clear hpi hst hlt hi
            by_cases hb : 40 ∈ p1.take i
            · rw [show decide (40 ∉ p1.take i) = false from by simp [hb]]
              have HB : Hid (40 ∈ p1.take i) := hb
              clear hb
              go_wp2_with fail
              exact ⟨⟨i + 1, by go_num, by rw [decide_eq_false (fun h => h (HS.out.2 (Or.inl HB.out)))], HI.out, hkr⟩, by have := HI.out; simp [intOf]; omega⟩
            · rw [show decide (40 ∉ p1.take i) = true from by simp [hb]]
              have HB : Hid (40 ∉ p1.take i) := hb
              clear hb
              by_cases h40 : n = 40
              · have h40' : (n : Int) = 40 := by omega
                have HC : Hid (n = 40) := h40
                clear h40
                go_wp2_with fail
                exact ⟨⟨i + 1, by go_num, by rw [decide_eq_false (fun h => h (HS.out.2 (Or.inr HC.out)))]; try simp [h40'], HI.out, hkr⟩, by have := HI.out; simp [intOf]; omega⟩
              · have h40' : ¬ (n : Int) = 40 := by omega
                have HC : Hid (n ≠ 40) := h40
                clear h40
                go_wp2_with fail
                exact ⟨⟨i + 1, by go_num, congrArg Value.bool ((show ((n : Int) != 40) = true from by simp [h40']).trans (decide_eq_true (show ¬ (40 ∈ p1.take (i + 1)) from fun h => (HS.out.1 h).elim HB.out HC.out)).symm), HI.out, hkr⟩, by have := HI.out; simp [intOf]; omega⟩
          · have hpl : p1.take i = p1 := List.take_of_length_le (by omega)
            rw [hpl]
            have hni : ¬ (i : Int) < (p1.length : Int) := by omega
            have hni' : ¬ (i : Int) < ((bOf p1).size : Int) := by omega
            clear hpl hlt hi
            have hk10 := hkG.trans hkr
            have hg10 := hg9.keep hkr (by simp)
            clear hkr hkG hg9
            have HX : Hid (40 ∈ p1 ∨ 40 ∉ p1) := Classical.em _
            try
              have hte := HEI.out (by trivial)
              have hte' : nmB te = (⟨#[40, 97, 48, 32]⟩ : ByteArray) ++ nmB ti ++ ⟨#[41]⟩ := by
                rw [hte]; exact (bOf_app _ _).trans (congrArg (· ++ bOf [41]) (bOf_app _ _))
              clear hte
            rcases HX.out with hbr | hbr
            all_goals
              first
                | (have hdd : decide (40 ∉ p1) = false := decide_eq_false (fun h => h hbr)
                   rw [hdd]
                   clear hdd)
                | (have hdd : decide (40 ∉ p1) = true := decide_eq_true hbr
                   rw [hdd]
                   clear hdd
                   try
                     have hti := HIN.out (by trivial) hbr
                     have hti' : nmB ti = (⟨#[40, 103, 49, 32]⟩ : ByteArray) ++ nmB tp ++ ⟨#[41]⟩ := by
                       rw [hti]; exact (bOf_app _ _).trans (congrArg (· ++ bOf [41]) (bOf_app _ _))
                     clear hti)
              clear hbr HX
              go_upto_region 25 with (fail)
              go_loopw [28] (fun q1 wr2 => ∃ n : Nat, q1 = .int .i64 ((n : Int) - 1) ∧ n ≤ t.size + 1 ∧ (∀ m, n ≤ m → m ≤ t.size → ¬ (M1 m ∧ M2 m)) ∧ Keeps [] w wr2 ∧ GN wr2) (fun q1 _ => (intOf q1 + 1).toNat)
              case atStart => exact ⟨t.size + 1, congrArg (Value.int .i64) (by omega), Nat.le_refl _, fun m h1 h2 => by omega, hk10, hg10⟩
              case round =>
                obtain ⟨n, rfl, hn, hno, hkL, hgL⟩ := hrel
                cases n with
                | zero =>
                  obtain rfl : k = false := by
                    cases hkk : k with
                    | false => rfl
                    | true => obtain ⟨m, h1, h2⟩ := HJ.out.yes hkk; exact absurd h2 (hno m (Nat.zero_le _) h1)
                  go_wp2_with fail
                  go_ret
                  exact ⟨rfl, hkL⟩
                | succ m =>
                  rw [show ((m + 1 : Nat) : Int) - 1 = (m : Int) by omega]
                  have hm0 : (0 : Int) ≤ (m : Int) := by omega
                  have hm1 : (m : Int) ≤ (t.size : Int) := by omega
                  have HM : Hid (m ≤ t.size) := by show m ≤ t.size; omega
                  have HNO : Hid (∀ j, m + 1 ≤ j → j ≤ t.size → ¬ (M1 j ∧ M2 j)) := hno
                  clear hno hn
                  go_wp2_with fail
                  refine (ymatch_any _ (t.extract 0 m) _ hgL).mono ?_
                  rintro e wa ⟨x, b1, n1, rfl, h6, hka⟩
                  have hkM := hkL.trans hka
                  have hgM := hgL.keep hka (by simp)
                  rw [gpB] at h6
                  have hz6 := h6.size
                  obtain ⟨rfl, hb1⟩ := HJ.out.fst m _ (seg_pre t HM.out).1 (seg_pre t HM.out).2 _ _ _ h6
                  have H6 : Hid (MatchA (bOf (gpT p1)) (t.extract 0 m) x b1 0) := h6
                  have HB1 : Hid (b1 = true ↔ M1 m) := hb1
                  clear hka h6 hkL hgL hb1
                  go_wp2_with fail
                  refine (ymatch_any _ (t.extract m t.size) _ hgM).mono ?_
                  rintro e wb ⟨y, b2, n2, rfl, h7, hkb⟩
                  have hkN := hkM.trans hkb
                  have hgN := hgM.keep hkb (by simp)
                  rw [gpB] at h7
                  obtain ⟨rfl, hb2⟩ := HJ.out.snd m _ HM.out (seg_suf t HM.out).1 (seg_suf t HM.out).2 _ _ _ h7
                  have HB2 : Hid (b2 = true ↔ M2 m) := hb2
                  clear hkb h7 hkM hgM hb2
                  cases b1 with
                  | false =>
                    go_wp2_with fail
                    exact ⟨⟨m, rfl, Nat.le_succ_of_le HM.out, fun j h1 h2 => by
                      rcases Nat.lt_or_ge m j with h | h
                      · exact HNO.out j h h2
                      · obtain rfl : j = m := by omega
                        exact fun hh => Bool.noConfusion (HB1.out.2 hh.1), hkN, hgN⟩, by simp [intOf]⟩
                  | true =>
                    cases b2 with
                    | false =>
                      go_wp2_with fail
                      exact ⟨⟨m, rfl, Nat.le_succ_of_le HM.out, fun j h1 h2 => by
                        rcases Nat.lt_or_ge m j with h | h
                        · exact HNO.out j h h2
                        · obtain rfl : j = m := by omega
                          exact fun hh => Bool.noConfusion (HB2.out.2 hh.2), hkN, hgN⟩, by simp [intOf]⟩
                    | true =>
                      have hM1 := HB1.out.1 rfl
                      have hM2 := HB2.out.1 rfl
                      obtain rfl : k = true := by
                        cases hkk : k with
                        | true => rfl
                        | false => exact absurd ⟨hM1, hM2⟩ (HJ.out.no hkk m HM.out)
                      obtain ⟨r, hr, hrn⟩ := HJ.out.top m _ (seg_pre t HM.out).1 (seg_pre t HM.out).2 HM.out hM1 hM2 (fun j h1 h2 => HNO.out j h1 h2) _ _ _ H6.out
                      have HR : Hid (tk = [40, 115, 32] ++ x ++ [32] ++ r ∧ r ≠ []) := ⟨hr, hrn⟩
                      clear hM1 hM2 hr hrn
                      go_upto_region 33 with (fail)
                      generalize hH : (⟨#[40, 115, 32]⟩ : ByteArray) ++ nmB x ++ ⟨#[32]⟩ = H
                      obtain ⟨hq1, hq2⟩ := both_head HR.out.1 HR.out.2 hH
                      generalize nmB tk = B at hq1 hq2 hz5 ⊢
                      have hq3 : (H.size : Int) < (B.size : Int) := by omega
                      have hq4 : decide ((H.size : Int) < (B.size : Int)) = true := by simp; omega
                      clear HR hH hz6 hz1 hz4
                      go_wp2_with fail
                      go_ret
                      exact ⟨rfl, hkN⟩
end Go.Proofs.YtnfojonmohijpaaGreatDoor
namespace Go.Proofs.YtnfojonmohijpaaGreatDoor
open Go.RowKit
theorem joined_any (v1 v2 : Value) (z1 z2 : List Int) (s : ByteArray) (w : World) (hr1 : RawIs w v1 z1) (hr2 : RawIs w v2 z2) (hgn : GN w) :
    Calls Tryz.prog 11 #[v1, v2, .string s] w fun e w' => e = .returned (.bool true) ∧ Keeps [] w w' := by
  by_cases h1 : (mdT (cv z1) 2 0).length ≤ 25
  · by_cases h2 : (mdT (cv z2) 2 0).length ≤ 25
    · exact joined_any_1 v1 v2 z1 z2 s w hr1 hr2 hgn ⟨h1, h2⟩
    · exact joined_any_3 v1 v2 z1 z2 s w hr1 hr2 hgn ⟨h1, Nat.lt_of_not_le h2⟩
  · exact joined_any_2 v1 v2 z1 z2 s w hr1 hr2 hgn (Nat.lt_of_not_le h1)
end Go.Proofs.YtnfojonmohijpaaGreatDoor
namespace Go.Proofs.YtnfojonmohijpaaGreatDoor
open Go.ChangeShapes Go.WideShapes Go.ChangeAt Go.WideMaps Go.WideElems Go.RowKit
set_option maxRecDepth 100000 in
theorem raw_open {H : Type} {enc : TypeId × Value → H} {W : World} {base : Nat} {v : Value} {d : DataW H} {p : List MemPlace} (hv : Value.okWide Tryz.prog W .any base 32 v)
    (h : DataW.Trod enc Tryz.prog W 0 (fun _ => true) true 32 v d p) : ∃ zs, RawIs W v zs := by
  obtain ⟨a0, len0, cap0, rfl⟩ := okWide_slice Tryz.underlying32 hv
  obtain ⟨fuel, hf⟩ := h
  rcases open_ints Tryz.underlying32 Tryz.underlying3 (by kernel_rfl) hf with ⟨hcs, _⟩ | ⟨x, l, c, zs, hcs, _, hl, hm, hz, _, hcell, hwz⟩
  · simp [Value.cells] at hcs
    obtain ⟨rfl, rfl, rfl⟩ := hcs
    exact ⟨[], ⟨none, 0, rfl, fun i z h => by simp at h⟩, by simp, fun i z h => by simp at h⟩
  · simp [Value.cells] at hcs
    obtain ⟨rfl, rfl, rfl⟩ := hcs
    simp only [if_true] at hz
    have hll : (zs.take len0).length = len0 := by simp; omega
    have hget : ∀ (i : Nat) (z : Int), (zs.take len0)[i]? = some z → zs[i]? = some z ∧ i < zs.length := by
      intro i z hi
      have h1 := (List.getElem?_eq_some_iff.1 hi).1
      rw [hll] at h1
      rw [List.getElem?_take_of_lt h1] at hi
      exact ⟨hi, (List.getElem?_eq_some_iff.1 hi).1⟩
    refine ⟨zs.take len0, ⟨some x, cap0, by rw [hll], fun i z hi => ?_⟩, ?_, fun i z hi => ?_⟩
    · obtain ⟨h1, h2⟩ := hget i z hi
      have h3 := hcell i h2
      rw [List.getD_eq_getElem?_getD, h1] at h3
      have h4 := World.block_lt_of_cell? _ _ h3
      have h5 : (x.add i).block = x.block := by unfold Addr.add; first | rfl | (split <;> rfl)
      exact ⟨x, rfl, by rw [← h5]; exact h4, h3⟩
    · rw [hll]; unfold maxLen at hm; omega
    · obtain ⟨h1, _⟩ := hget i z hi
      have h3 := hwz z (List.mem_of_getElem? h1)
      simp [Lit.wf] at h3
      have h6 : IntKind.i64.min = -9223372036854775808 := by decide
      exact ⟨by omega, h3.2⟩
end Go.Proofs.YtnfojonmohijpaaGreatDoor
