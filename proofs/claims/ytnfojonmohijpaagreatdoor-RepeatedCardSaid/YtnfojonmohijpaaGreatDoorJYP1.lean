/-
  DERIVED. The walk of Repeated, arm 1 of 2.
-/
import Derived.Test.YtnfojonmohijpaaGreatDoorJYF
import Derived.Test.YtnfojonmohijpaaGreatDoorJYC
import Derived.ProofKit
import Derived.Test.YtnfojonmohijpaaGreatDoorJPC
import Derived.Test.YtnfojonmohijpaaGreatDoorJSG
import Derived.Test.YtnfojonmohijpaaGreatDoorRows
import Derived.LaidMore
import Derived.OpenShut
import Derived.Stop.Joined
import Derived.ChangeMaps5
set_option linter.unusedSimpArgs false
set_option linter.unusedVariables false
namespace Go.Proofs.YtnfojonmohijpaaGreatDoor
open Go.RowKit
set_option maxRecDepth 100000 in
set_option maxHeartbeats 40000000 in
theorem repeated_any_1 (v1 : Value) (z1 : List Int) (s : ByteArray) (c : Int) (hc : inI c) (w : World) (hr1 : RawIs w v1 z1) (hgn : GN w) (harm : (mdT (cv z1) 2 0).length ≤ 40) :
    Calls Tryz.prog 12 #[v1, .string s, .int .i64 c] w fun e w' => e = .returned (.bool true) ∧ Keeps [] w w' := by
  have HA : Hid (∀ w, GN w → Calls Tryz.prog 30 #[] w fun e w' => e = .returned (.bool true) ∧ Keeps [] w w') := awake_any
  go_enter Tryz.func12, Tryz.ntmps12
  go_wp2_with fail
  refine (HA.out w hgn).mono ?_
  rintro e w1 ⟨rfl, hk1⟩
  have hg1 := hgn.keep hk1 (by simp)
  have hr11 := hr1.keep hk1
  clear hr1 hgn HA
  go_wp2_with fail
  refine (made_any v1 z1 2 (by decide) 0 (by decide) w1 hr11).mono ?_
  rintro e w2 ⟨rfl, hk2⟩
  have hk := hk1.trans hk2
  have hg := hg1.keep hk2 (by simp)
  have hMp := made2_md (cv z1) 0
  have hLp := mdT_len (cv z1) 2 0
  generalize mdT (cv z1) 2 0 = p at hMp hLp harm ⊢
  clear hk1 hk2 hr11 hg1
  have hzp : (bOf p).size = p.length := bOf_size p
  have hp53 : p.length ≤ 53 := by omega
  clear hLp
  · have i1 : ((bOf p).size : Int) ≤ 40 := by omega
    have i3 : decide ((40 : Int) < ((bOf p).size : Int)) = false := by simp; omega
    go_wp2_with fail
    clear hp53 i3
    have hl5 := harm
    clear harm
    have hg3 := hg
    have hk03 := hk
    clear hg hk
    rw [gpB]
    refine (ktext_any s 8 (by decide) w2).mono ?_
    rintro e w4 ⟨rfl, hk4⟩
    have hkB := hk03.trans hk4
    have hg4 := hg3.keep hk4 (by simp)
    have hts := txT_size s 8
    generalize txT s 8 = t at hts ⊢
    have hts' : (t.size : Int) ≤ 8 := by omega
    have HT : Hid (t.size ≤ 8) := hts
    clear hk4 hk03 hg3 hts
    go_wp2_with fail
    refine (kpick_any c 5 hc (by decide) (by decide) w4).mono ?_
    rintro e w5 ⟨rfl, rfl⟩
    have hn4 : pk c 5 ≤ 4 := by have : pk c 5 < 5 := Nat.mod_lt _ (by decide); omega
    generalize pk c 5 = n at hn4 ⊢
    have hn0 : (0 : Int) ≤ (n : Int) := by omega
    have hn5 : (n : Int) ≤ 4 := by omega
    have HN : Hid (n ≤ 4) := hn4
    have cv0 := dg_conv n (by omega) (48 + (n : Int)) (by omega)
    have cv1 := dg_conv (n + 1) (by omega) (49 + (n : Int)) (by omega) (w5.alloc (.cells #[.int .u8 (48 + (n : Int))] 5))
    rw [show (w5.alloc (.cells #[.int .u8 (48 + (n : Int))] 5)).heap.size = w5.heap.size + 1 from Array.size_push _] at cv1
    have hd0 := dgB_size n
    have hd1 := dgB_size (n + 1)
    have hqs : (bOf (gpT p)).size = p.length + 2 := by rw [bOf_size, gpT_len]
    have hqi : ((bOf (gpT p)).size : Int) ≤ 60 := by omega
    clear hn4 hzp
    go_wp2_with fail
    have hk6 : Keeps [] w5 _ := ((Keeps.refl [] w5).alloc (.cells #[.int .u8 (48 + (n : Int))] 5)).alloc (.cells #[.int .u8 (49 + (n : Int))] 5)
    have hkC := hkB.trans hk6
    have hg6 := hg4.keep hk6 (by simp)
    clear hk6 hkB hg4 cv0 cv1
    refine (ymatch_any _ t _ hg6).mono ?_
    rintro e w10 ⟨t1, b1, e1, rfl, h1, hkN⟩
    have hK1 := hkC.trans hkN
    have hG1 := hg6.keep hkN (by simp)
    rw [js0B] at h1
    have H1 : Hid (MatchA (bOf (gpT p ++ jsT 0)) t t1 b1 e1) := h1
    clear hkN hkC hg6 h1
    go_wp2_with fail
    refine (ymatch_any _ t _ hG1).mono ?_
    rintro e w11 ⟨t2, b2, e2, rfl, h2, hkN⟩
    have hK2 := hK1.trans hkN
    have hG2 := hG1.keep hkN (by simp)
    rw [js1B] at h2
    have H2 : Hid (MatchA (bOf (gpT p ++ jsT 1)) t t2 b2 e2) := h2
    clear hkN hK1 hG1 h2
    go_wp2_with fail
    refine (ymatch_any _ t _ hG2).mono ?_
    rintro e w12 ⟨t3, b3, e3, rfl, h3, hkN⟩
    have hK3 := hK2.trans hkN
    have hG3 := hG2.keep hkN (by simp)
    have H3 : Hid (MatchA (bOf (gpT p)) t t3 b3 e3) := h3
    clear hkN hK2 hG2 h3
    go_wp2_with fail
    refine (ymatch_any _ t _ hG3).mono ?_
    rintro e w13 ⟨t4, b4, e4, rfl, h4, hkN⟩
    have hK4 := hK3.trans hkN
    have hG4 := hG3.keep hkN (by simp)
    rw [starB] at h4
    have H4 : Hid (MatchA (bOf (gpT p ++ [42])) t t4 b4 e4) := h4
    clear hkN hK3 hG3 h4
    go_wp2_with fail
    refine (ymatch_any _ t _ hG4).mono ?_
    rintro e w14 ⟨t5, b5, e5, rfl, h5, hkN⟩
    have hK5 := hK4.trans hkN
    have hG5 := hG4.keep hkN (by simp)
    rw [plusB] at h5
    have H5 : Hid (MatchA (bOf (gpT p ++ [43])) t t5 b5 e5) := h5
    clear hkN hK4 hG4 h5
    go_wp2_with fail
    refine (ymatch_any _ t _ hG5).mono ?_
    rintro e w15 ⟨t6, b6, e6, rfl, h6, hkN⟩
    have hK6 := hK5.trans hkN
    have hG6 := hG5.keep hkN (by simp)
    rw [jsB] at h6
    have H6 : Hid (MatchA (bOf (gpT p ++ jsT (n + 1))) t t6 b6 e6) := h6
    clear hkN hK5 hG5 h6
    go_wp2_with fail
    refine (ymatch_any _ t _ hG6).mono ?_
    rintro e w16 ⟨t7, b7, e7, rfl, h7, hkN⟩
    have hK7 := hK6.trans hkN
    have hG7 := hG6.keep hkN (by simp)
    rw [uptB] at h7
    have H7 : Hid (MatchA (bOf (gpT p ++ upT (n + 1))) t t7 b7 e7) := h7
    clear hkN hK6 hG6 h7
    go_wp2_with fail
    refine (ymatch_any _ t _ hG7).mono ?_
    rintro e w17 ⟨t8, b8, e8, rfl, h8, hkN⟩
    have hK8 := hK7.trans hkN
    have hG8 := hG7.keep hkN (by simp)
    rw [uptB] at h8
    have H8 : Hid (MatchA (bOf (gpT p ++ upT n)) t t8 b8 e8) := h8
    clear hkN hK7 hG7 h8
    obtain ⟨rfl, rfl, rfl, rfl, rfl, rfl, rfl, rfl, c1, c2, c3, c4, c5, M1, M2, hR⟩ := repeated_math hMp hl5 HT.out HN.out H1.out H2.out H3.out H4.out H5.out H6.out H7.out H8.out
    have C1 : Hid (b1 = true ↔ t.size = 0) := c1
    have C3 : Hid (b4 = true ↔ b5 = true ∨ t.size = 0) := c3
    have C5 : Hid (b7 = true → b4 = true) := c5
    have C4 : Hid (b7 = (b8 || b6)) := c4
    have C2 : Hid (b2 = b3) := c2
    have HR : Hid (RL p t n b6 M1 M2) := hR
    clear c1 c2 c3 c4 c5 hR H1 H2 H3 H4 H5 H6 H7 H8 hMp hl5
    go_upto_region 24 with (fail)
    go_loopw [37, 38] (fun o q wr => ∃ (b : Bool) (i : Nat), o = .bool b ∧ q = .int .i64 i ∧ i ≤ t.size + 1 ∧ (b = true ↔ ∃ m, m < i ∧ M1 m ∧ M2 m) ∧ Keeps [] w wr ∧ GN wr) (fun _ q _ => t.size + 1 - (intOf q).toNat)
    case atStart => exact ⟨false, 0, rfl, rfl, Nat.zero_le _, ⟨(nomatch ·), fun ⟨m, h, _⟩ => absurd h (Nat.not_lt_zero _)⟩, hK8, hG8⟩
    case round =>
      obtain ⟨b, i, rfl, rfl, hi, hb, hkL, hgL⟩ := hrel
      by_cases hlt : i ≤ t.size
      · have hi0 : (0 : Int) ≤ (i : Int) := by omega
        have hi1 : (i : Int) ≤ (t.size : Int) := by omega
        have HI : Hid (i ≤ t.size) := hlt
        have HB : Hid (b = true ↔ ∃ m, m < i ∧ M1 m ∧ M2 m) := hb
        clear hb hi hlt hK8 hG8
        go_wp2_with fail
        refine (ymatch_any _ (t.extract 0 i) _ hgL).mono ?_
        rintro e wa ⟨ta, x, n1, rfl, ha, hka⟩
        have hkM := hkL.trans hka
        have hgM := hgL.keep hka (by simp)
        obtain ⟨rfl, hx⟩ := HR.out.fst i _ (seg_pre t HI.out).1 (seg_pre t HI.out).2 _ _ _ ha
        have HX : Hid (x = true ↔ M1 i) := hx
        clear hka ha hkL hgL hx
        go_wp2_with fail
        refine (ymatch_any _ (t.extract i t.size) _ hgM).mono ?_
        rintro e wb ⟨tb, y, n2, rfl, hc2, hkb⟩
        have hkN := hkM.trans hkb
        have hgN := hgM.keep hkb (by simp)
        rw [jsB] at hc2
        obtain ⟨rfl, hy⟩ := HR.out.snd i _ HI.out (seg_suf t HI.out).1 (seg_suf t HI.out).2 _ _ _ hc2
        have HY : Hid (y = true ↔ M2 i) := hy
        clear hkb hc2 hkM hgM hy
        have HC : ∀ c : Bool, c = (b || (x && y)) → (c = true ↔ ∃ m, m < i + 1 ∧ M1 m ∧ M2 m) := by
          rintro c rfl
          rw [Bool.or_eq_true, Bool.and_eq_true, HB.out, HX.out, HY.out]
          constructor
          · rintro (⟨m, h1, h2⟩ | h)
            · exact ⟨m, by omega, h2⟩
            · exact ⟨i, by omega, h⟩
          · rintro ⟨m, h1, h2⟩
            rcases Nat.lt_or_ge m i with h | h
            · exact Or.inl ⟨m, h, h2⟩
            · obtain rfl : m = i := by omega
              exact Or.inr h2
        have HH : Hid (∀ c : Bool, c = (b || (x && y)) → (c = true ↔ ∃ m, m < i + 1 ∧ M1 m ∧ M2 m)) := HC
        clear HC HB HX HY
        cases b <;> cases x <;> cases y
        all_goals
          go_wp2_with fail
          exact ⟨⟨_, i + 1, rfl, by go_num, Nat.succ_le_succ HI.out, HH.out _ rfl, hkN, hgN⟩, by have := HI.out; simp [intOf]; omega⟩
      · obtain rfl : b = b6 := by
          rw [Bool.eq_iff_iff, hb, HR.out.all]
          constructor
          · rintro ⟨m, h1, h2⟩; exact ⟨m, by omega, h2⟩
          · rintro ⟨m, h1, h2⟩; exact ⟨m, by omega, h2⟩
        have hi1 : ¬ (i : Int) ≤ (t.size : Int) := by omega
        clear hb hi hlt hK8 hG8 HR
        have c2 := C2.out
        subst c2
        have c4 := C4.out
        subst c4
        rcases Nat.eq_zero_or_pos t.size with h0 | h0
        · have c1 := C1.out.2 h0
          have c3 := C3.out.2 (Or.inr h0)
          subst c1 c3
          obtain rfl : t = ⟨#[]⟩ := ByteArray.ext (Array.eq_empty_of_size_eq_zero h0)
          cases b2 <;> cases b5 <;> cases b <;> cases b8
          all_goals
            go_wp2_with fail
            go_ret
            exact ⟨rfl, hkL⟩
        · have htn : t ≠ ⟨#[]⟩ := by
            rintro rfl
            exact absurd h0 (by decide)
          have c1 : b1 = false := by
            cases hb1 : b1 with
            | false => rfl
            | true => have := C1.out.1 hb1; omega
          subst c1
          have c3 : b4 = b5 := by
            rw [Bool.eq_iff_iff, C3.out]
            constructor
            · rintro (h | h)
              · exact h
              · omega
            · exact Or.inl
          subst c3
          have c5 := C5.out
          clear h0
          have hte : t.toList.isEmpty = false := by
            cases hl : t.toList with
            | nil => exact absurd (ByteArray.ext (by have : t.data.toList = [] := (ByteArray.toList_eq t).symm.trans hl; exact Array.toList_eq_nil_iff.1 this)) htn
            | cons a l => rfl
          cases b2 <;> cases b4 <;> cases b <;> cases b8
          all_goals
            first
              | exact absurd (c5 rfl) (by decide)
              | (clear c5
                 go_wp2_with fail
                 go_ret
                 exact ⟨rfl, hkL⟩)
end Go.Proofs.YtnfojonmohijpaaGreatDoor
namespace Go.Proofs.YtnfojonmohijpaaGreatDoor
open Go.RowKit
set_option maxRecDepth 100000 in
set_option maxHeartbeats 40000000 in
theorem repeated_any_2 (v1 : Value) (z1 : List Int) (s : ByteArray) (c : Int) (hc : inI c) (w : World) (hr1 : RawIs w v1 z1) (hgn : GN w) (harm : 40 < (mdT (cv z1) 2 0).length) :
    Calls Tryz.prog 12 #[v1, .string s, .int .i64 c] w fun e w' => e = .returned (.bool true) ∧ Keeps [] w w' := by
  have HA : Hid (∀ w, GN w → Calls Tryz.prog 30 #[] w fun e w' => e = .returned (.bool true) ∧ Keeps [] w w') := awake_any
  go_enter Tryz.func12, Tryz.ntmps12
  go_wp2_with fail
  refine (HA.out w hgn).mono ?_
  rintro e w1 ⟨rfl, hk1⟩
  have hg1 := hgn.keep hk1 (by simp)
  have hr11 := hr1.keep hk1
  clear hr1 hgn HA
  go_wp2_with fail
  refine (made_any v1 z1 2 (by decide) 0 (by decide) w1 hr11).mono ?_
  rintro e w2 ⟨rfl, hk2⟩
  have hk := hk1.trans hk2
  have hg := hg1.keep hk2 (by simp)
  have hMp := made2_md (cv z1) 0
  have hLp := mdT_len (cv z1) 2 0
  generalize mdT (cv z1) 2 0 = p0 at hMp hLp harm ⊢
  clear hk1 hk2 hr11 hg1
  have hzp : (bOf p0).size = p0.length := bOf_size p0
  have hp53 : p0.length ≤ 53 := by omega
  clear hLp
  · have hS1 := ksingle_any p0.length (by omega)
    have hm1 := made2_sg (p0.length % 9)
    have hl1 := sgT_len (p0.length % 9)
    have HS1 : Hid (∀ w, Calls Tryz.prog 33 #[.int .i64 p0.length] w fun e w' => e = .returned (.string (bOf (sgT (p0.length % 9)))) ∧ Keeps [] w w') := hS1
    clear hS1 hMp
    have i3 : decide ((40 : Int) < (p0.length : Int)) = true := by simp; omega
    have j1 := of_decide_eq_true i3
    clear harm
    go_wp2_with fail
    refine (HS1.out w2).mono ?_
    rintro e w3 ⟨rfl, hk31⟩
    have hk03 := hk.trans hk31
    have hg3 := hg.keep hk31 (by simp)
    clear hk31 HS1 hk hg i3 j1
    generalize sgT (p0.length % 9) = p at hm1 hl1 ⊢
    have hMp := hm1
    clear hp53 hzp
    have hzp : (bOf p).size = p.length := bOf_size p
    have hl5 : p.length ≤ 40 := by omega
    have i1 : ((bOf p).size : Int) ≤ 40 := by omega
    clear hl1 hm1
    go_wp2_with fail
    rw [gpB]
    refine (ktext_any s 8 (by decide) w3).mono ?_
    rintro e w4 ⟨rfl, hk4⟩
    have hkB := hk03.trans hk4
    have hg4 := hg3.keep hk4 (by simp)
    have hts := txT_size s 8
    generalize txT s 8 = t at hts ⊢
    have hts' : (t.size : Int) ≤ 8 := by omega
    have HT : Hid (t.size ≤ 8) := hts
    clear hk4 hk03 hg3 hts
    go_wp2_with fail
    refine (kpick_any c 5 hc (by decide) (by decide) w4).mono ?_
    rintro e w5 ⟨rfl, rfl⟩
    have hn4 : pk c 5 ≤ 4 := by have : pk c 5 < 5 := Nat.mod_lt _ (by decide); omega
    generalize pk c 5 = n at hn4 ⊢
    have hn0 : (0 : Int) ≤ (n : Int) := by omega
    have hn5 : (n : Int) ≤ 4 := by omega
    have HN : Hid (n ≤ 4) := hn4
    have cv0 := dg_conv n (by omega) (48 + (n : Int)) (by omega)
    have cv1 := dg_conv (n + 1) (by omega) (49 + (n : Int)) (by omega) (w5.alloc (.cells #[.int .u8 (48 + (n : Int))] 5))
    rw [show (w5.alloc (.cells #[.int .u8 (48 + (n : Int))] 5)).heap.size = w5.heap.size + 1 from Array.size_push _] at cv1
    have hd0 := dgB_size n
    have hd1 := dgB_size (n + 1)
    have hqs : (bOf (gpT p)).size = p.length + 2 := by rw [bOf_size, gpT_len]
    have hqi : ((bOf (gpT p)).size : Int) ≤ 60 := by omega
    clear hn4 hzp
    go_wp2_with fail
    have hk6 : Keeps [] w5 _ := ((Keeps.refl [] w5).alloc (.cells #[.int .u8 (48 + (n : Int))] 5)).alloc (.cells #[.int .u8 (49 + (n : Int))] 5)
    have hkC := hkB.trans hk6
    have hg6 := hg4.keep hk6 (by simp)
    clear hk6 hkB hg4 cv0 cv1
    refine (ymatch_any _ t _ hg6).mono ?_
    rintro e w10 ⟨t1, b1, e1, rfl, h1, hkN⟩
    have hK1 := hkC.trans hkN
    have hG1 := hg6.keep hkN (by simp)
    rw [js0B] at h1
    have H1 : Hid (MatchA (bOf (gpT p ++ jsT 0)) t t1 b1 e1) := h1
    clear hkN hkC hg6 h1
    go_wp2_with fail
    refine (ymatch_any _ t _ hG1).mono ?_
    rintro e w11 ⟨t2, b2, e2, rfl, h2, hkN⟩
    have hK2 := hK1.trans hkN
    have hG2 := hG1.keep hkN (by simp)
    rw [js1B] at h2
    have H2 : Hid (MatchA (bOf (gpT p ++ jsT 1)) t t2 b2 e2) := h2
    clear hkN hK1 hG1 h2
    go_wp2_with fail
    refine (ymatch_any _ t _ hG2).mono ?_
    rintro e w12 ⟨t3, b3, e3, rfl, h3, hkN⟩
    have hK3 := hK2.trans hkN
    have hG3 := hG2.keep hkN (by simp)
    have H3 : Hid (MatchA (bOf (gpT p)) t t3 b3 e3) := h3
    clear hkN hK2 hG2 h3
    go_wp2_with fail
    refine (ymatch_any _ t _ hG3).mono ?_
    rintro e w13 ⟨t4, b4, e4, rfl, h4, hkN⟩
    have hK4 := hK3.trans hkN
    have hG4 := hG3.keep hkN (by simp)
    rw [starB] at h4
    have H4 : Hid (MatchA (bOf (gpT p ++ [42])) t t4 b4 e4) := h4
    clear hkN hK3 hG3 h4
    go_wp2_with fail
    refine (ymatch_any _ t _ hG4).mono ?_
    rintro e w14 ⟨t5, b5, e5, rfl, h5, hkN⟩
    have hK5 := hK4.trans hkN
    have hG5 := hG4.keep hkN (by simp)
    rw [plusB] at h5
    have H5 : Hid (MatchA (bOf (gpT p ++ [43])) t t5 b5 e5) := h5
    clear hkN hK4 hG4 h5
    go_wp2_with fail
    refine (ymatch_any _ t _ hG5).mono ?_
    rintro e w15 ⟨t6, b6, e6, rfl, h6, hkN⟩
    have hK6 := hK5.trans hkN
    have hG6 := hG5.keep hkN (by simp)
    rw [jsB] at h6
    have H6 : Hid (MatchA (bOf (gpT p ++ jsT (n + 1))) t t6 b6 e6) := h6
    clear hkN hK5 hG5 h6
    go_wp2_with fail
    refine (ymatch_any _ t _ hG6).mono ?_
    rintro e w16 ⟨t7, b7, e7, rfl, h7, hkN⟩
    have hK7 := hK6.trans hkN
    have hG7 := hG6.keep hkN (by simp)
    rw [uptB] at h7
    have H7 : Hid (MatchA (bOf (gpT p ++ upT (n + 1))) t t7 b7 e7) := h7
    clear hkN hK6 hG6 h7
    go_wp2_with fail
    refine (ymatch_any _ t _ hG7).mono ?_
    rintro e w17 ⟨t8, b8, e8, rfl, h8, hkN⟩
    have hK8 := hK7.trans hkN
    have hG8 := hG7.keep hkN (by simp)
    rw [uptB] at h8
    have H8 : Hid (MatchA (bOf (gpT p ++ upT n)) t t8 b8 e8) := h8
    clear hkN hK7 hG7 h8
    obtain ⟨rfl, rfl, rfl, rfl, rfl, rfl, rfl, rfl, c1, c2, c3, c4, c5, M1, M2, hR⟩ := repeated_math hMp hl5 HT.out HN.out H1.out H2.out H3.out H4.out H5.out H6.out H7.out H8.out
    have C1 : Hid (b1 = true ↔ t.size = 0) := c1
    have C3 : Hid (b4 = true ↔ b5 = true ∨ t.size = 0) := c3
    have C5 : Hid (b7 = true → b4 = true) := c5
    have C4 : Hid (b7 = (b8 || b6)) := c4
    have C2 : Hid (b2 = b3) := c2
    have HR : Hid (RL p t n b6 M1 M2) := hR
    clear c1 c2 c3 c4 c5 hR H1 H2 H3 H4 H5 H6 H7 H8 hMp hl5
    go_upto_region 24 with (fail)
    go_loopw [37, 38] (fun o q wr => ∃ (b : Bool) (i : Nat), o = .bool b ∧ q = .int .i64 i ∧ i ≤ t.size + 1 ∧ (b = true ↔ ∃ m, m < i ∧ M1 m ∧ M2 m) ∧ Keeps [] w wr ∧ GN wr) (fun _ q _ => t.size + 1 - (intOf q).toNat)
    case atStart => exact ⟨false, 0, rfl, rfl, Nat.zero_le _, ⟨(nomatch ·), fun ⟨m, h, _⟩ => absurd h (Nat.not_lt_zero _)⟩, hK8, hG8⟩
    case round =>
      obtain ⟨b, i, rfl, rfl, hi, hb, hkL, hgL⟩ := hrel
      by_cases hlt : i ≤ t.size
      · have hi0 : (0 : Int) ≤ (i : Int) := by omega
        have hi1 : (i : Int) ≤ (t.size : Int) := by omega
        have HI : Hid (i ≤ t.size) := hlt
        have HB : Hid (b = true ↔ ∃ m, m < i ∧ M1 m ∧ M2 m) := hb
        clear hb hi hlt hK8 hG8
        go_wp2_with fail
        refine (ymatch_any _ (t.extract 0 i) _ hgL).mono ?_
        rintro e wa ⟨ta, x, n1, rfl, ha, hka⟩
        have hkM := hkL.trans hka
        have hgM := hgL.keep hka (by simp)
        obtain ⟨rfl, hx⟩ := HR.out.fst i _ (seg_pre t HI.out).1 (seg_pre t HI.out).2 _ _ _ ha
        have HX : Hid (x = true ↔ M1 i) := hx
        clear hka ha hkL hgL hx
        go_wp2_with fail
        refine (ymatch_any _ (t.extract i t.size) _ hgM).mono ?_
        rintro e wb ⟨tb, y, n2, rfl, hc2, hkb⟩
        have hkN := hkM.trans hkb
        have hgN := hgM.keep hkb (by simp)
        rw [jsB] at hc2
        obtain ⟨rfl, hy⟩ := HR.out.snd i _ HI.out (seg_suf t HI.out).1 (seg_suf t HI.out).2 _ _ _ hc2
        have HY : Hid (y = true ↔ M2 i) := hy
        clear hkb hc2 hkM hgM hy
        have HC : ∀ c : Bool, c = (b || (x && y)) → (c = true ↔ ∃ m, m < i + 1 ∧ M1 m ∧ M2 m) := by
          rintro c rfl
          rw [Bool.or_eq_true, Bool.and_eq_true, HB.out, HX.out, HY.out]
          constructor
          · rintro (⟨m, h1, h2⟩ | h)
            · exact ⟨m, by omega, h2⟩
            · exact ⟨i, by omega, h⟩
          · rintro ⟨m, h1, h2⟩
            rcases Nat.lt_or_ge m i with h | h
            · exact Or.inl ⟨m, h, h2⟩
            · obtain rfl : m = i := by omega
              exact Or.inr h2
        have HH : Hid (∀ c : Bool, c = (b || (x && y)) → (c = true ↔ ∃ m, m < i + 1 ∧ M1 m ∧ M2 m)) := HC
        clear HC HB HX HY
        cases b <;> cases x <;> cases y
        all_goals
          go_wp2_with fail
          exact ⟨⟨_, i + 1, rfl, by go_num, Nat.succ_le_succ HI.out, HH.out _ rfl, hkN, hgN⟩, by have := HI.out; simp [intOf]; omega⟩
      · obtain rfl : b = b6 := by
          rw [Bool.eq_iff_iff, hb, HR.out.all]
          constructor
          · rintro ⟨m, h1, h2⟩; exact ⟨m, by omega, h2⟩
          · rintro ⟨m, h1, h2⟩; exact ⟨m, by omega, h2⟩
        have hi1 : ¬ (i : Int) ≤ (t.size : Int) := by omega
        clear hb hi hlt hK8 hG8 HR
        have c2 := C2.out
        subst c2
        have c4 := C4.out
        subst c4
        rcases Nat.eq_zero_or_pos t.size with h0 | h0
        · have c1 := C1.out.2 h0
          have c3 := C3.out.2 (Or.inr h0)
          subst c1 c3
          obtain rfl : t = ⟨#[]⟩ := ByteArray.ext (Array.eq_empty_of_size_eq_zero h0)
          cases b2 <;> cases b5 <;> cases b <;> cases b8
          all_goals
            go_wp2_with fail
            go_ret
            exact ⟨rfl, hkL⟩
        · have htn : t ≠ ⟨#[]⟩ := by
            rintro rfl
            exact absurd h0 (by decide)
          have c1 : b1 = false := by
            cases hb1 : b1 with
            | false => rfl
            | true => have := C1.out.1 hb1; omega
          subst c1
          have c3 : b4 = b5 := by
            rw [Bool.eq_iff_iff, C3.out]
            constructor
            · rintro (h | h)
              · exact h
              · omega
            · exact Or.inl
          subst c3
          have c5 := C5.out
          clear h0
          have hte : t.toList.isEmpty = false := by
            cases hl : t.toList with
            | nil => exact absurd (ByteArray.ext (by have : t.data.toList = [] := (ByteArray.toList_eq t).symm.trans hl; exact Array.toList_eq_nil_iff.1 this)) htn
            | cons a l => rfl
          cases b2 <;> cases b4 <;> cases b <;> cases b8
          all_goals
            first
              | exact absurd (c5 rfl) (by decide)
              | (clear c5
                 go_wp2_with fail
                 go_ret
                 exact ⟨rfl, hkL⟩)
end Go.Proofs.YtnfojonmohijpaaGreatDoor
namespace Go.Proofs.YtnfojonmohijpaaGreatDoor
theorem repeated_any (v1 : Value) (z1 : List Int) (s : ByteArray) (c : Int) (hc : inI c) (w : World) (hr1 : RawIs w v1 z1) (hgn : GN w) :
    Calls Tryz.prog 12 #[v1, .string s, .int .i64 c] w fun e w' => e = .returned (.bool true) ∧ Keeps [] w w' := by
  rcases Nat.lt_or_ge 40 (mdT (cv z1) 2 0).length with h | h
  · exact repeated_any_2 v1 z1 s c hc w hr1 hgn h
  · exact repeated_any_1 v1 z1 s c hc w hr1 hgn h
end Go.Proofs.YtnfojonmohijpaaGreatDoor
namespace Go.Proofs.YtnfojonmohijpaaGreatDoor
open Go.ChangeShapes Go.WideShapes Go.ChangeAt Go.WideMaps Go.WideElems Go.RowKit
set_option maxRecDepth 100000 in
theorem raw_open {H : Type} {enc : TypeId × Value → H} {W : World} {base : Nat} {v : Value} {d : DataW H} {p : List MemPlace} (hv : Value.okWide Tryz.prog W .any base 32 v)
    (h : DataW.Trod enc Tryz.prog W 0 (fun _ => true) true 32 v d p) : ∃ zs, RawIs W v zs := by
  obtain ⟨a0, len0, cap0, rfl⟩ := okWide_slice Tryz.underlying32 hv
  obtain ⟨fuel, hf⟩ := h
  rcases open_ints Tryz.underlying32 Tryz.underlying3 (by kernel_rfl) hf with ⟨hcs, _⟩ | ⟨x, l, c, zs, hcs, _, hl, hm, hz, _, hcell, hwz⟩
  · simp [Value.cells] at hcs
    obtain ⟨rfl, rfl, rfl⟩ := hcs
    exact ⟨[], ⟨none, 0, rfl, fun i z h => by simp at h⟩, by simp, fun i z h => by simp at h⟩
  · simp [Value.cells] at hcs
    obtain ⟨rfl, rfl, rfl⟩ := hcs
    simp only [if_true] at hz
    have hll : (zs.take len0).length = len0 := by simp; omega
    have hget : ∀ (i : Nat) (z : Int), (zs.take len0)[i]? = some z → zs[i]? = some z ∧ i < zs.length := by
      intro i z hi
      have h1 := (List.getElem?_eq_some_iff.1 hi).1
      rw [hll] at h1
      rw [List.getElem?_take_of_lt h1] at hi
      exact ⟨hi, (List.getElem?_eq_some_iff.1 hi).1⟩
    refine ⟨zs.take len0, ⟨some x, cap0, by rw [hll], fun i z hi => ?_⟩, ?_, fun i z hi => ?_⟩
    · obtain ⟨h1, h2⟩ := hget i z hi
      have h3 := hcell i h2
      rw [List.getD_eq_getElem?_getD, h1] at h3
      have h4 := World.block_lt_of_cell? _ _ h3
      have h5 : (x.add i).block = x.block := by unfold Addr.add; first | rfl | (split <;> rfl)
      exact ⟨x, rfl, by rw [← h5]; exact h4, h3⟩
    · rw [hll]; unfold maxLen at hm; omega
    · obtain ⟨h1, _⟩ := hget i z hi
      have h3 := hwz z (List.mem_of_getElem? h1)
      simp [Lit.wf] at h3
      have h6 : IntKind.i64.min = -9223372036854775808 := by decide
      exact ⟨by omega, h3.2⟩
end Go.Proofs.YtnfojonmohijpaaGreatDoor
namespace Go.Proofs.YtnfojonmohijpaaGreatDoor
open Go.ChangeShapes Go.WideShapes Go.ChangeAt Go.WideMaps Go.WideElems Go.RowKit
theorem ownK : ownKnob Tryz.prog.godebug = none := by kernel_rfl
theorem gCls : Tryz.prog.globalNamed "yarrow/byteset.classNames" = some 6 := by kernel_rfl
theorem tCls : (Tryz.prog.globals[6]?).map (·.type) = some 357 := by kernel_rfl
theorem cStr : Tryz.prog.cellsOf 9 = 1 := by kernel_rfl
theorem cCls : Tryz.prog.cellsOf 357 = 7 := by kernel_rfl
theorem str_cell {H : Type} {enc : TypeId × Value → H} {W : World} {base fuel : Nat} {sp : Nat → Bool} {held : Bool} {c : Value} {x : DataW H × List MemPlace} {l : List UInt8}
    (h : DataW.trod enc Tryz.prog W base sp held fuel 9 [c] = some x) (hx : DataW.lit (.string l) = x.1) : c = .string (nmB l) := by
  obtain ⟨s, hc, rfl, _⟩ := DataW.trod_string Tryz.underlying9 h
  simp only [List.cons.injEq, and_true] at hc
  simp only [DataW.lit.injEq, Lit.string.injEq] at hx
  subst hc
  rw [hx]
  congr 1
theorem seven {α : Type} (l : List α) (h : l.length = 7) : ∃ a b c d e f g, l = [a, b, c, d, e, f, g] := by
  match l, h with
  | [a, b, c, d, e, f, g], _ => exact ⟨a, b, c, d, e, f, g, rfl⟩
set_option maxRecDepth 100000 in
theorem of_laidN {W : World} (h : laidMetH Tryz.prog Rows.plainsRow.laid W) : GN W := by
  rw [MakeChecks.laidMetH_plain _ _ _ (by kernel_rfl)] at h
  obtain ⟨ps, ⟨g0, t0, cs0, f0, p0, q0, hg0, ht0, hv0, hd0, ⟨g1, t1, cs1, f1, p1, q1, hg1, ht1, hv1, hd1, ⟨g2, t2, cs2, f2, p2, q2, hg2, ht2, hv2, hd2, ⟨g3, t3, cs3, f3, p3, q3, hg3, ht3, hv3, hd3, _, _⟩, _⟩, _⟩, _⟩, _, _⟩ := h
  obtain rfl := Option.some.inj (gCls.symm.trans hg3)
  obtain rfl := Option.some.inj (tCls.symm.trans ht3)
  clear hd0 hd1 hd2 hv0 hv1 hv2 hg0 hg1 hg2 ht0 ht1 ht2
  obtain ⟨xs, m, rfl, hx, hlen, hn, hel⟩ := DataW.trod_array Tryz.underlying357 hd3
  rw [cCls] at hlen
  rw [cStr] at hel
  have hl : ∃ t fr, W.heap[6]? = some (.cells cs3 t fr) := by
    simp only [World.var?, gCls, Option.bind_some] at hv3
    split at hv3
    · rename_i c t fr he
      cases hv3
      exact ⟨t, fr, he⟩
    · cases hv3
  obtain ⟨t, fr, hl⟩ := hl
  refine ⟨t, fr, hl.trans ?_⟩
  obtain ⟨l3⟩ := cs3
  unfold Rows.laid_yarrow_byteset_classNames at hx
  simp only [Prod.mk.injEq, DataW.agg.injEq] at hx
  obtain ⟨hx, _⟩ := hx
  obtain ⟨c0, c1, c2, c3, c4, c5, c6, rfl⟩ := seven l3 hlen
  obtain ⟨x0, x1, x2, x3, x4, x5, x6, rfl⟩ := seven xs hn
  · simp only [List.map_cons, List.map_nil, List.cons.injEq, and_true] at hx
    obtain ⟨e0, e1, e2, e3, e4, e5, e6⟩ := hx
    have h0 := str_cell (hel 0 (by decide)) e0
    have h1 := str_cell (hel 1 (by decide)) e1
    have h2 := str_cell (hel 2 (by decide)) e2
    have h3 := str_cell (hel 3 (by decide)) e3
    have h4 := str_cell (hel 4 (by decide)) e4
    have h5 := str_cell (hel 5 (by decide)) e5
    have h6 := str_cell (hel 6 (by decide)) e6
    subst h0 h1 h2 h3 h4 h5 h6
    rfl
end Go.Proofs.YtnfojonmohijpaaGreatDoor
