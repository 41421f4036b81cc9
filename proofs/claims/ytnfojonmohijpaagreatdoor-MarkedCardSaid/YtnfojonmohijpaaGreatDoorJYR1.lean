/-
  DERIVED. The walk of Marked, arm 1 of 2.
-/
import Derived.Test.YtnfojonmohijpaaGreatDoorJYF
import Derived.Test.YtnfojonmohijpaaGreatDoorJYC
import Derived.ProofKit
import Derived.Test.YtnfojonmohijpaaGreatDoorJPC
import Derived.Test.YtnfojonmohijpaaGreatDoorJSG
import Derived.Test.YtnfojonmohijpaaGreatDoorRows
import Derived.LaidMore
import Derived.OpenShut
import Derived.Stop.Joined
import Derived.ChangeMaps5
set_option linter.unusedSimpArgs false
set_option linter.unusedVariables false
namespace Go.Proofs.YtnfojonmohijpaaGreatDoor
open Go.RowKit
set_option maxRecDepth 100000 in
set_option maxHeartbeats 40000000 in
theorem marked_any_1 (v1 : Value) (z1 : List Int) (s : ByteArray) (w : World) (hr1 : RawIs w v1 z1) (hgn : GN w) (harm : (mdT (cv z1) 2 0).length ≤ 50) :
    Calls Tryz.prog 14 #[v1, .string s] w fun e w' => e = .returned (.bool true) ∧ Keeps [] w w' := by
  have HA : Hid (∀ w, GN w → Calls Tryz.prog 30 #[] w fun e w' => e = .returned (.bool true) ∧ Keeps [] w w') := awake_any
  go_enter Tryz.func14, Tryz.ntmps14
  go_wp2_with fail
  refine (HA.out w hgn).mono ?_
  rintro e w1 ⟨rfl, hk1⟩
  have hg1 := hgn.keep hk1 (by simp)
  have hr11 := hr1.keep hk1
  clear hr1 hgn HA
  go_wp2_with fail
  refine (made_any v1 z1 2 (by decide) 0 (by decide) w1 hr11).mono ?_
  rintro e w2 ⟨rfl, hk2⟩
  have hk := hk1.trans hk2
  have hg := hg1.keep hk2 (by simp)
  have hMp := made2_md (cv z1) 0
  have hLp := mdT_len (cv z1) 2 0
  generalize mdT (cv z1) 2 0 = p at hMp hLp harm ⊢
  clear hk1 hk2 hr11 hg1
  have hzp : (bOf p).size = p.length := bOf_size p
  have hp53 : p.length ≤ 53 := by omega
  clear hLp
  · have i1 : ((bOf p).size : Int) ≤ 50 := by omega
    have i3 : decide ((50 : Int) < ((bOf p).size : Int)) = false := by simp; omega
    go_wp2_with fail
    clear hp53 i3
    have hl5 := harm
    clear harm
    have hg3 := hg
    have hk03 := hk
    clear hg hk
    have q32 : ∀ (w : World) (a : Option Addr) (n c n' c' : Nat), (binOp .eql 32 (.slice a n c) (.slice none n' c')).run Tryz.prog w = .ok (.bool a.isNone) w := fun w a n c n' c' => Lib.run_eql_slice_nil w _ _ a n c n' c' Tryz.underlying32
    rw [gpB]
    refine (ktext_any s 10 (by decide) w2).mono ?_
    rintro e w4 ⟨rfl, hk4⟩
    have hkB := hk03.trans hk4
    have hg4 := hg3.keep hk4 (by simp)
    have hts := txT_size s 10
    generalize txT s 10 = t at hts ⊢
    have hts' : (t.size : Int) ≤ 10 := by omega
    have HT : Hid (t.size ≤ 10) := hts
    have hqs : (bOf (gpT p)).size = p.length + 2 := by rw [bOf_size, gpT_len]
    have hqi : ((bOf (gpT p)).size : Int) ≤ 60 := by omega
    clear hk4 hk03 hg3 hts hzp i1 hqs
    go_wp2_with fail
    refine (ymatch_any _ t w4 hg4).mono ?_
    rintro e w5 ⟨u, is, e0, rfl, h0, hk5⟩
    have hkC := hkB.trans hk5
    have hg5 := hg4.keep hk5 (by simp)
    have H0 : Hid (MatchA (bOf (gpT p)) t u is e0) := h0
    clear hk5 hkB hg4 h0
    go_wp2_with fail
    refine (ysearch_any _ t 0 w5 hg5).mono ?_
    rintro e w6 ⟨vl, al, e1, rfl, h1, I1, hk6⟩
    have hkD := hkC.trans hk6
    have hg6 := hg5.keep hk6 (by simp)
    rw [mk11B] at h1
    have H1 : Hid (SearchA (bOf (mkT true true (gpT p))) t 0 al e1) := h1
    have J1 : Hid (IW w6 w5.heap.size vl al) := I1
    have hX6 : Keeps [] w6 w6 := Keeps.refl _ _
    clear hk6 hkC hg5 h1 I1
    go_wp2_with fail
    refine (ysearch_any _ t 0 w6 hg6).mono ?_
    rintro e w7 ⟨vm, am, e2, rfl, h2, I2, hk7⟩
    have hkE := hkD.trans hk7
    have hX6 := hX6.trans hk7
    have hX7 : Keeps [] w7 w7 := Keeps.refl _ _
    have hg7 := hg6.keep hk7 (by simp)
    rw [mk10B] at h2
    have H2 : Hid (SearchA (bOf (mkT true false (gpT p))) t 0 am e2) := h2
    have J2 : Hid (IW w7 w6.heap.size vm am) := I2
    clear hk7 hkD hg6 h2 I2
    go_wp2_with fail
    refine (ysearch_any _ t 0 w7 hg7).mono ?_
    rintro e w8 ⟨vn, an, e3, rfl, h3, I3, hk8⟩
    have hkF := hkE.trans hk8
    have hX6 := hX6.trans hk8
    have hX7 := hX7.trans hk8
    have hX8 : Keeps [] w8 w8 := Keeps.refl _ _
    have hg8 := hg7.keep hk8 (by simp)
    rw [mk01B] at h3
    have H3 : Hid (SearchA (bOf (mkT false true (gpT p))) t 0 an e3) := h3
    have J3 : Hid (IW w8 w7.heap.size vn an) := I3
    clear hk8 hkE hg7 h3 I3
    go_wp2_with fail
    refine (ysearch_any _ t 0 w8 hg8).mono ?_
    rintro e w9 ⟨vf, af, e4, rfl, h4, I4, hk9⟩
    have hkG := hkF.trans hk9
    have hX6 := hX6.trans hk9
    have hX7 := hX7.trans hk9
    have hX8 := hX8.trans hk9
    rw [mk00B] at h4
    obtain ⟨rfl, rfl, rfl, rfl, rfl, hA, hB⟩ := marked_math hMp hl5 HT.out H0.out H1.out H2.out H3.out h4
    have J4 : Hid (IW w9 w8.heap.size vf af) := I4
    have HB : Hid (MkL t.size am an af) := hB
    clear hk9 hkF hg8 h4 H0 H1 H2 H3 I4 hMp hl5 hB
    have h00 : (0 : Int) ≤ (t.size : Int) := by omega
    rcases hA with ⟨rfl, rfl⟩ | ⟨rfl, r1, hr1, rfl⟩
    · obtain rfl : vl = .slice none 0 0 := J1.out
      clear J1
      have hB := HB.out
      clear HB
      cases hB with
      | none =>
        obtain rfl : vm = .slice none 0 0 := J2.out
        clear J2
        obtain rfl : vn = .slice none 0 0 := J3.out
        clear J3
        obtain rfl : vf = .slice none 0 0 := J4.out
        clear J4
        go_wp2_with fail
        go_quiet (fail)
        go_wp2_with fail
        go_ret
        exact ⟨rfl, hkG.trans ((Keeps.refl [] w9).drewN _)⟩
      | free i j r hr hi hij hj =>
        obtain rfl : vm = .slice none 0 0 := J2.out
        clear J2
        obtain rfl : vn = .slice none 0 0 := J3.out
        clear J3
        obtain ⟨fg, fc, rfl, f0, f1⟩ := row_two J4.out
        have f0 := keep_cell (Keeps.refl [] w9) f0
        have f1 := keep_cell (Keeps.refl [] w9) f1
        obtain ⟨fN, fN0⟩ : ∃ N, N = r.length + 2 := ⟨_, rfl⟩
        rw [← fN0]
        have fa : decide ((fN : Int) < 2) = false := by simp; omega
        have fb : 0 < fN := by omega
        have fd : 1 < fN := by omega
        have fb' : (0 : Int) < (fN : Int) := by omega
        have fd' : (1 : Int) < (fN : Int) := by omega
        clear fN0
        have x1 : ¬ (i : Int) = 0 := by omega
        have x2 : ((i : Int) == 0) = false := by simp; omega
        have x3 : (j : Int) < (t.size : Int) := by omega
        have x4 : j < t.size := hj
        have x5 : ¬ i = 0 := by omega
        clear hr hi hij hj J4
        go_wp2_with fail
        go_quiet (fail)
        go_wp2_with fail
        go_ret
        exact ⟨rfl, hkG.trans ((Keeps.refl [] w9).drewN _)⟩
      | last i j i' r r' hr hr' hi hij hj hi' =>
        obtain rfl : vm = .slice none 0 0 := J2.out
        clear J2
        obtain ⟨ng, nc, rfl, n0, n1⟩ := row_two J3.out
        have n0 := keep_cell hX8 n0
        have n1 := keep_cell hX8 n1
        obtain ⟨nN, nN0⟩ : ∃ N, N = r'.length + 2 := ⟨_, rfl⟩
        rw [← nN0]
        have na : decide ((nN : Int) < 2) = false := by simp; omega
        have nb : 0 < nN := by omega
        have nd : 1 < nN := by omega
        have nb' : (0 : Int) < (nN : Int) := by omega
        have nd' : (1 : Int) < (nN : Int) := by omega
        clear nN0
        obtain ⟨fg, fc, rfl, f0, f1⟩ := row_two J4.out
        have f0 := keep_cell (Keeps.refl [] w9) f0
        have f1 := keep_cell (Keeps.refl [] w9) f1
        obtain ⟨fN, fN0⟩ : ∃ N, N = r.length + 2 := ⟨_, rfl⟩
        rw [← fN0]
        have fa : decide ((fN : Int) < 2) = false := by simp; omega
        have fb : 0 < fN := by omega
        have fd : 1 < fN := by omega
        have fb' : (0 : Int) < (fN : Int) := by omega
        have fd' : (1 : Int) < (fN : Int) := by omega
        clear fN0
        have x1 : ¬ (i : Int) = 0 := by omega
        have x2 : ((i : Int) == 0) = false := by simp; omega
        have x5 : ¬ i = 0 := by omega
        clear hr hr' hi hij hj hi' J3 J4
        go_wp2_with fail
        go_quiet (fail)
        go_wp2_with fail
        go_ret
        exact ⟨rfl, hkG.trans ((Keeps.refl [] w9).drewN _)⟩
      | first j r r' hr hr' hj =>
        obtain ⟨mg, mc, rfl, m0, m1⟩ := row_two J2.out
        have m0 := keep_cell hX7 m0
        have m1 := keep_cell hX7 m1
        obtain ⟨mN, mN0⟩ : ∃ N, N = r'.length + 2 := ⟨_, rfl⟩
        rw [← mN0]
        have ma : decide ((mN : Int) < 2) = false := by simp; omega
        have mb : 0 < mN := by omega
        have md : 1 < mN := by omega
        have mb' : (0 : Int) < (mN : Int) := by omega
        have md' : (1 : Int) < (mN : Int) := by omega
        clear mN0
        obtain rfl : vn = .slice none 0 0 := J3.out
        clear J3
        obtain ⟨fg, fc, rfl, f0, f1⟩ := row_two J4.out
        have f0 := keep_cell (Keeps.refl [] w9) f0
        have f1 := keep_cell (Keeps.refl [] w9) f1
        obtain ⟨fN, fN0⟩ : ∃ N, N = r.length + 2 := ⟨_, rfl⟩
        rw [← fN0]
        have fa : decide ((fN : Int) < 2) = false := by simp; omega
        have fb : 0 < fN := by omega
        have fd : 1 < fN := by omega
        have fb' : (0 : Int) < (fN : Int) := by omega
        have fd' : (1 : Int) < (fN : Int) := by omega
        clear fN0
        have x3 : (j : Int) < (t.size : Int) := by omega
        have x4 : j < t.size := hj
        clear hr hr' hj J2 J4
        go_wp2_with fail
        go_quiet (fail)
        go_wp2_with fail
        go_ret
        exact ⟨rfl, hkG.trans ((Keeps.refl [] w9).drewN _)⟩
      | both j i' r r' r'' hr hr' hr'' hj hi' =>
        obtain ⟨mg, mc, rfl, m0, m1⟩ := row_two J2.out
        have m0 := keep_cell hX7 m0
        have m1 := keep_cell hX7 m1
        obtain ⟨mN, mN0⟩ : ∃ N, N = r'.length + 2 := ⟨_, rfl⟩
        rw [← mN0]
        have ma : decide ((mN : Int) < 2) = false := by simp; omega
        have mb : 0 < mN := by omega
        have md : 1 < mN := by omega
        have mb' : (0 : Int) < (mN : Int) := by omega
        have md' : (1 : Int) < (mN : Int) := by omega
        clear mN0
        obtain ⟨ng, nc, rfl, n0, n1⟩ := row_two J3.out
        have n0 := keep_cell hX8 n0
        have n1 := keep_cell hX8 n1
        obtain ⟨nN, nN0⟩ : ∃ N, N = r''.length + 2 := ⟨_, rfl⟩
        rw [← nN0]
        have na : decide ((nN : Int) < 2) = false := by simp; omega
        have nb : 0 < nN := by omega
        have nd : 1 < nN := by omega
        have nb' : (0 : Int) < (nN : Int) := by omega
        have nd' : (1 : Int) < (nN : Int) := by omega
        clear nN0
        obtain ⟨fg, fc, rfl, f0, f1⟩ := row_two J4.out
        have f0 := keep_cell (Keeps.refl [] w9) f0
        have f1 := keep_cell (Keeps.refl [] w9) f1
        obtain ⟨fN, fN0⟩ : ∃ N, N = r.length + 2 := ⟨_, rfl⟩
        rw [← fN0]
        have fa : decide ((fN : Int) < 2) = false := by simp; omega
        have fb : 0 < fN := by omega
        have fd : 1 < fN := by omega
        have fb' : (0 : Int) < (fN : Int) := by omega
        have fd' : (1 : Int) < (fN : Int) := by omega
        clear fN0
        clear hr hr' hr'' hj hi' J2 J3 J4
        go_wp2_with fail
        go_quiet (fail)
        go_wp2_with fail
        go_ret
        exact ⟨rfl, hkG.trans ((Keeps.refl [] w9).drewN _)⟩
    · obtain ⟨lg, lc, rfl, l0, l1, l2, l3⟩ := row_four J1.out
      have l0 := keep_cell hX6 l0
      have l1 := keep_cell hX6 l1
      have l2 := keep_cell hX6 l2
      have l3 := keep_cell hX6 l3
      obtain ⟨lN, lN0⟩ : ∃ N, N = r1.length + 4 := ⟨_, rfl⟩
      rw [← lN0]
      have la : decide ((lN : Int) < 4) = false := by simp; omega
      have lb : 0 < lN := by omega
      have ld : 1 < lN := by omega
      have lb' : (0 : Int) < (lN : Int) := by omega
      have ld' : (1 : Int) < (lN : Int) := by omega
      have le : 2 < lN := by omega
      have lf : 3 < lN := by omega
      have le' : (2 : Int) < (lN : Int) := by omega
      have lf' : (3 : Int) < (lN : Int) := by omega
      clear lN0
      clear J1 hr1
      have hB := HB.out
      clear HB
      cases hB with
      | none =>
        obtain rfl : vm = .slice none 0 0 := J2.out
        clear J2
        obtain rfl : vn = .slice none 0 0 := J3.out
        clear J3
        obtain rfl : vf = .slice none 0 0 := J4.out
        clear J4
        go_wp2_with fail
        go_quiet (fail)
        go_wp2_with fail
        go_ret
        exact ⟨rfl, hkG.trans ((Keeps.refl [] w9).drewN _)⟩
      | free i j r hr hi hij hj =>
        obtain rfl : vm = .slice none 0 0 := J2.out
        clear J2
        obtain rfl : vn = .slice none 0 0 := J3.out
        clear J3
        obtain ⟨fg, fc, rfl, f0, f1⟩ := row_two J4.out
        have f0 := keep_cell (Keeps.refl [] w9) f0
        have f1 := keep_cell (Keeps.refl [] w9) f1
        obtain ⟨fN, fN0⟩ : ∃ N, N = r.length + 2 := ⟨_, rfl⟩
        rw [← fN0]
        have fa : decide ((fN : Int) < 2) = false := by simp; omega
        have fb : 0 < fN := by omega
        have fd : 1 < fN := by omega
        have fb' : (0 : Int) < (fN : Int) := by omega
        have fd' : (1 : Int) < (fN : Int) := by omega
        clear fN0
        have x1 : ¬ (i : Int) = 0 := by omega
        have x2 : ((i : Int) == 0) = false := by simp; omega
        have x3 : (j : Int) < (t.size : Int) := by omega
        have x4 : j < t.size := hj
        have x5 : ¬ i = 0 := by omega
        clear hr hi hij hj J4
        go_wp2_with fail
        go_quiet (fail)
        go_wp2_with fail
        go_ret
        exact ⟨rfl, hkG.trans ((Keeps.refl [] w9).drewN _)⟩
      | last i j i' r r' hr hr' hi hij hj hi' =>
        obtain rfl : vm = .slice none 0 0 := J2.out
        clear J2
        obtain ⟨ng, nc, rfl, n0, n1⟩ := row_two J3.out
        have n0 := keep_cell hX8 n0
        have n1 := keep_cell hX8 n1
        obtain ⟨nN, nN0⟩ : ∃ N, N = r'.length + 2 := ⟨_, rfl⟩
        rw [← nN0]
        have na : decide ((nN : Int) < 2) = false := by simp; omega
        have nb : 0 < nN := by omega
        have nd : 1 < nN := by omega
        have nb' : (0 : Int) < (nN : Int) := by omega
        have nd' : (1 : Int) < (nN : Int) := by omega
        clear nN0
        obtain ⟨fg, fc, rfl, f0, f1⟩ := row_two J4.out
        have f0 := keep_cell (Keeps.refl [] w9) f0
        have f1 := keep_cell (Keeps.refl [] w9) f1
        obtain ⟨fN, fN0⟩ : ∃ N, N = r.length + 2 := ⟨_, rfl⟩
        rw [← fN0]
        have fa : decide ((fN : Int) < 2) = false := by simp; omega
        have fb : 0 < fN := by omega
        have fd : 1 < fN := by omega
        have fb' : (0 : Int) < (fN : Int) := by omega
        have fd' : (1 : Int) < (fN : Int) := by omega
        clear fN0
        have x1 : ¬ (i : Int) = 0 := by omega
        have x2 : ((i : Int) == 0) = false := by simp; omega
        have x5 : ¬ i = 0 := by omega
        clear hr hr' hi hij hj hi' J3 J4
        go_wp2_with fail
        go_quiet (fail)
        go_wp2_with fail
        go_ret
        exact ⟨rfl, hkG.trans ((Keeps.refl [] w9).drewN _)⟩
      | first j r r' hr hr' hj =>
        obtain ⟨mg, mc, rfl, m0, m1⟩ := row_two J2.out
        have m0 := keep_cell hX7 m0
        have m1 := keep_cell hX7 m1
        obtain ⟨mN, mN0⟩ : ∃ N, N = r'.length + 2 := ⟨_, rfl⟩
        rw [← mN0]
        have ma : decide ((mN : Int) < 2) = false := by simp; omega
        have mb : 0 < mN := by omega
        have md : 1 < mN := by omega
        have mb' : (0 : Int) < (mN : Int) := by omega
        have md' : (1 : Int) < (mN : Int) := by omega
        clear mN0
        obtain rfl : vn = .slice none 0 0 := J3.out
        clear J3
        obtain ⟨fg, fc, rfl, f0, f1⟩ := row_two J4.out
        have f0 := keep_cell (Keeps.refl [] w9) f0
        have f1 := keep_cell (Keeps.refl [] w9) f1
        obtain ⟨fN, fN0⟩ : ∃ N, N = r.length + 2 := ⟨_, rfl⟩
        rw [← fN0]
        have fa : decide ((fN : Int) < 2) = false := by simp; omega
        have fb : 0 < fN := by omega
        have fd : 1 < fN := by omega
        have fb' : (0 : Int) < (fN : Int) := by omega
        have fd' : (1 : Int) < (fN : Int) := by omega
        clear fN0
        have x3 : (j : Int) < (t.size : Int) := by omega
        have x4 : j < t.size := hj
        clear hr hr' hj J2 J4
        go_wp2_with fail
        go_quiet (fail)
        go_wp2_with fail
        go_ret
        exact ⟨rfl, hkG.trans ((Keeps.refl [] w9).drewN _)⟩
      | both j i' r r' r'' hr hr' hr'' hj hi' =>
        obtain ⟨mg, mc, rfl, m0, m1⟩ := row_two J2.out
        have m0 := keep_cell hX7 m0
        have m1 := keep_cell hX7 m1
        obtain ⟨mN, mN0⟩ : ∃ N, N = r'.length + 2 := ⟨_, rfl⟩
        rw [← mN0]
        have ma : decide ((mN : Int) < 2) = false := by simp; omega
        have mb : 0 < mN := by omega
        have md : 1 < mN := by omega
        have mb' : (0 : Int) < (mN : Int) := by omega
        have md' : (1 : Int) < (mN : Int) := by omega
        clear mN0
        obtain ⟨ng, nc, rfl, n0, n1⟩ := row_two J3.out
        have n0 := keep_cell hX8 n0
        have n1 := keep_cell hX8 n1
        obtain ⟨nN, nN0⟩ : ∃ N, N = r''.length + 2 := ⟨_, rfl⟩
        rw [← nN0]
        have na : decide ((nN : Int) < 2) = false := by simp; omega
        have nb : 0 < nN := by omega
        have nd : 1 < nN := by omega
        have nb' : (0 : Int) < (nN : Int) := by omega
        have nd' : (1 : Int) < (nN : Int) := by omega
        clear nN0
        obtain ⟨fg, fc, rfl, f0, f1⟩ := row_two J4.out
        have f0 := keep_cell (Keeps.refl [] w9) f0
        have f1 := keep_cell (Keeps.refl [] w9) f1
        obtain ⟨fN, fN0⟩ : ∃ N, N = r.length + 2 := ⟨_, rfl⟩
        rw [← fN0]
        have fa : decide ((fN : Int) < 2) = false := by simp; omega
        have fb : 0 < fN := by omega
        have fd : 1 < fN := by omega
        have fb' : (0 : Int) < (fN : Int) := by omega
        have fd' : (1 : Int) < (fN : Int) := by omega
        clear fN0
        clear hr hr' hr'' hj hi' J2 J3 J4
        go_wp2_with fail
        go_quiet (fail)
        go_wp2_with fail
        go_ret
        exact ⟨rfl, hkG.trans ((Keeps.refl [] w9).drewN _)⟩
end Go.Proofs.YtnfojonmohijpaaGreatDoor
namespace Go.Proofs.YtnfojonmohijpaaGreatDoor
open Go.RowKit
set_option maxRecDepth 100000 in
set_option maxHeartbeats 40000000 in
theorem marked_any_2 (v1 : Value) (z1 : List Int) (s : ByteArray) (w : World) (hr1 : RawIs w v1 z1) (hgn : GN w) (harm : 50 < (mdT (cv z1) 2 0).length) :
    Calls Tryz.prog 14 #[v1, .string s] w fun e w' => e = .returned (.bool true) ∧ Keeps [] w w' := by
  have HA : Hid (∀ w, GN w → Calls Tryz.prog 30 #[] w fun e w' => e = .returned (.bool true) ∧ Keeps [] w w') := awake_any
  go_enter Tryz.func14, Tryz.ntmps14
  go_wp2_with fail
  refine (HA.out w hgn).mono ?_
  rintro e w1 ⟨rfl, hk1⟩
  have hg1 := hgn.keep hk1 (by simp)
  have hr11 := hr1.keep hk1
  clear hr1 hgn HA
  go_wp2_with fail
  refine (made_any v1 z1 2 (by decide) 0 (by decide) w1 hr11).mono ?_
  rintro e w2 ⟨rfl, hk2⟩
  have hk := hk1.trans hk2
  have hg := hg1.keep hk2 (by simp)
  have hMp := made2_md (cv z1) 0
  have hLp := mdT_len (cv z1) 2 0
  generalize mdT (cv z1) 2 0 = p0 at hMp hLp harm ⊢
  clear hk1 hk2 hr11 hg1
  have hzp : (bOf p0).size = p0.length := bOf_size p0
  have hp53 : p0.length ≤ 53 := by omega
  clear hLp
  · have hS1 := ksingle_any p0.length (by omega)
    have hm1 := made2_sg (p0.length % 9)
    have hl1 := sgT_len (p0.length % 9)
    have HS1 : Hid (∀ w, Calls Tryz.prog 33 #[.int .i64 p0.length] w fun e w' => e = .returned (.string (bOf (sgT (p0.length % 9)))) ∧ Keeps [] w w') := hS1
    clear hS1 hMp
    have i3 : decide ((50 : Int) < (p0.length : Int)) = true := by simp; omega
    have j1 := of_decide_eq_true i3
    clear harm
    go_wp2_with fail
    refine (HS1.out w2).mono ?_
    rintro e w3 ⟨rfl, hk31⟩
    have hk03 := hk.trans hk31
    have hg3 := hg.keep hk31 (by simp)
    clear hk31 HS1 hk hg i3 j1
    generalize sgT (p0.length % 9) = p at hm1 hl1 ⊢
    have hMp := hm1
    clear hp53 hzp
    have hzp : (bOf p).size = p.length := bOf_size p
    have hl5 : p.length ≤ 50 := by omega
    have i1 : ((bOf p).size : Int) ≤ 50 := by omega
    clear hl1 hm1
    go_wp2_with fail
    have q32 : ∀ (w : World) (a : Option Addr) (n c n' c' : Nat), (binOp .eql 32 (.slice a n c) (.slice none n' c')).run Tryz.prog w = .ok (.bool a.isNone) w := fun w a n c n' c' => Lib.run_eql_slice_nil w _ _ a n c n' c' Tryz.underlying32
    rw [gpB]
    refine (ktext_any s 10 (by decide) w3).mono ?_
    rintro e w4 ⟨rfl, hk4⟩
    have hkB := hk03.trans hk4
    have hg4 := hg3.keep hk4 (by simp)
    have hts := txT_size s 10
    generalize txT s 10 = t at hts ⊢
    have hts' : (t.size : Int) ≤ 10 := by omega
    have HT : Hid (t.size ≤ 10) := hts
    have hqs : (bOf (gpT p)).size = p.length + 2 := by rw [bOf_size, gpT_len]
    have hqi : ((bOf (gpT p)).size : Int) ≤ 60 := by omega
    clear hk4 hk03 hg3 hts hzp i1 hqs
    go_wp2_with fail
    refine (ymatch_any _ t w4 hg4).mono ?_
    rintro e w5 ⟨u, is, e0, rfl, h0, hk5⟩
    have hkC := hkB.trans hk5
    have hg5 := hg4.keep hk5 (by simp)
    have H0 : Hid (MatchA (bOf (gpT p)) t u is e0) := h0
    clear hk5 hkB hg4 h0
    go_wp2_with fail
    refine (ysearch_any _ t 0 w5 hg5).mono ?_
    rintro e w6 ⟨vl, al, e1, rfl, h1, I1, hk6⟩
    have hkD := hkC.trans hk6
    have hg6 := hg5.keep hk6 (by simp)
    rw [mk11B] at h1
    have H1 : Hid (SearchA (bOf (mkT true true (gpT p))) t 0 al e1) := h1
    have J1 : Hid (IW w6 w5.heap.size vl al) := I1
    have hX6 : Keeps [] w6 w6 := Keeps.refl _ _
    clear hk6 hkC hg5 h1 I1
    go_wp2_with fail
    refine (ysearch_any _ t 0 w6 hg6).mono ?_
    rintro e w7 ⟨vm, am, e2, rfl, h2, I2, hk7⟩
    have hkE := hkD.trans hk7
    have hX6 := hX6.trans hk7
    have hX7 : Keeps [] w7 w7 := Keeps.refl _ _
    have hg7 := hg6.keep hk7 (by simp)
    rw [mk10B] at h2
    have H2 : Hid (SearchA (bOf (mkT true false (gpT p))) t 0 am e2) := h2
    have J2 : Hid (IW w7 w6.heap.size vm am) := I2
    clear hk7 hkD hg6 h2 I2
    go_wp2_with fail
    refine (ysearch_any _ t 0 w7 hg7).mono ?_
    rintro e w8 ⟨vn, an, e3, rfl, h3, I3, hk8⟩
    have hkF := hkE.trans hk8
    have hX6 := hX6.trans hk8
    have hX7 := hX7.trans hk8
    have hX8 : Keeps [] w8 w8 := Keeps.refl _ _
    have hg8 := hg7.keep hk8 (by simp)
    rw [mk01B] at h3
    have H3 : Hid (SearchA (bOf (mkT false true (gpT p))) t 0 an e3) := h3
    have J3 : Hid (IW w8 w7.heap.size vn an) := I3
    clear hk8 hkE hg7 h3 I3
    go_wp2_with fail
    refine (ysearch_any _ t 0 w8 hg8).mono ?_
    rintro e w9 ⟨vf, af, e4, rfl, h4, I4, hk9⟩
    have hkG := hkF.trans hk9
    have hX6 := hX6.trans hk9
    have hX7 := hX7.trans hk9
    have hX8 := hX8.trans hk9
    rw [mk00B] at h4
    obtain ⟨rfl, rfl, rfl, rfl, rfl, hA, hB⟩ := marked_math hMp hl5 HT.out H0.out H1.out H2.out H3.out h4
    have J4 : Hid (IW w9 w8.heap.size vf af) := I4
    have HB : Hid (MkL t.size am an af) := hB
    clear hk9 hkF hg8 h4 H0 H1 H2 H3 I4 hMp hl5 hB
    have h00 : (0 : Int) ≤ (t.size : Int) := by omega
    rcases hA with ⟨rfl, rfl⟩ | ⟨rfl, r1, hr1, rfl⟩
    · obtain rfl : vl = .slice none 0 0 := J1.out
      clear J1
      have hB := HB.out
      clear HB
      cases hB with
      | none =>
        obtain rfl : vm = .slice none 0 0 := J2.out
        clear J2
        obtain rfl : vn = .slice none 0 0 := J3.out
        clear J3
        obtain rfl : vf = .slice none 0 0 := J4.out
        clear J4
        go_wp2_with fail
        go_quiet (fail)
        go_wp2_with fail
        go_ret
        exact ⟨rfl, hkG.trans ((Keeps.refl [] w9).drewN _)⟩
      | free i j r hr hi hij hj =>
        obtain rfl : vm = .slice none 0 0 := J2.out
        clear J2
        obtain rfl : vn = .slice none 0 0 := J3.out
        clear J3
        obtain ⟨fg, fc, rfl, f0, f1⟩ := row_two J4.out
        have f0 := keep_cell (Keeps.refl [] w9) f0
        have f1 := keep_cell (Keeps.refl [] w9) f1
        obtain ⟨fN, fN0⟩ : ∃ N, N = r.length + 2 := ⟨_, rfl⟩
        rw [← fN0]
        have fa : decide ((fN : Int) < 2) = false := by simp; omega
        have fb : 0 < fN := by omega
        have fd : 1 < fN := by omega
        have fb' : (0 : Int) < (fN : Int) := by omega
        have fd' : (1 : Int) < (fN : Int) := by omega
        clear fN0
        have x1 : ¬ (i : Int) = 0 := by omega
        have x2 : ((i : Int) == 0) = false := by simp; omega
        have x3 : (j : Int) < (t.size : Int) := by omega
        have x4 : j < t.size := hj
        have x5 : ¬ i = 0 := by omega
        clear hr hi hij hj J4
        go_wp2_with fail
        go_quiet (fail)
        go_wp2_with fail
        go_ret
        exact ⟨rfl, hkG.trans ((Keeps.refl [] w9).drewN _)⟩
      | last i j i' r r' hr hr' hi hij hj hi' =>
        obtain rfl : vm = .slice none 0 0 := J2.out
        clear J2
        obtain ⟨ng, nc, rfl, n0, n1⟩ := row_two J3.out
        have n0 := keep_cell hX8 n0
        have n1 := keep_cell hX8 n1
        obtain ⟨nN, nN0⟩ : ∃ N, N = r'.length + 2 := ⟨_, rfl⟩
        rw [← nN0]
        have na : decide ((nN : Int) < 2) = false := by simp; omega
        have nb : 0 < nN := by omega
        have nd : 1 < nN := by omega
        have nb' : (0 : Int) < (nN : Int) := by omega
        have nd' : (1 : Int) < (nN : Int) := by omega
        clear nN0
        obtain ⟨fg, fc, rfl, f0, f1⟩ := row_two J4.out
        have f0 := keep_cell (Keeps.refl [] w9) f0
        have f1 := keep_cell (Keeps.refl [] w9) f1
        obtain ⟨fN, fN0⟩ : ∃ N, N = r.length + 2 := ⟨_, rfl⟩
        rw [← fN0]
        have fa : decide ((fN : Int) < 2) = false := by simp; omega
        have fb : 0 < fN := by omega
        have fd : 1 < fN := by omega
        have fb' : (0 : Int) < (fN : Int) := by omega
        have fd' : (1 : Int) < (fN : Int) := by omega
        clear fN0
        have x1 : ¬ (i : Int) = 0 := by omega
        have x2 : ((i : Int) == 0) = false := by simp; omega
        have x5 : ¬ i = 0 := by omega
        clear hr hr' hi hij hj hi' J3 J4
        go_wp2_with fail
        go_quiet (fail)
        go_wp2_with fail
        go_ret
        exact ⟨rfl, hkG.trans ((Keeps.refl [] w9).drewN _)⟩
      | first j r r' hr hr' hj =>
        obtain ⟨mg, mc, rfl, m0, m1⟩ := row_two J2.out
        have m0 := keep_cell hX7 m0
        have m1 := keep_cell hX7 m1
        obtain ⟨mN, mN0⟩ : ∃ N, N = r'.length + 2 := ⟨_, rfl⟩
        rw [← mN0]
        have ma : decide ((mN : Int) < 2) = false := by simp; omega
        have mb : 0 < mN := by omega
        have md : 1 < mN := by omega
        have mb' : (0 : Int) < (mN : Int) := by omega
        have md' : (1 : Int) < (mN : Int) := by omega
        clear mN0
        obtain rfl : vn = .slice none 0 0 := J3.out
        clear J3
        obtain ⟨fg, fc, rfl, f0, f1⟩ := row_two J4.out
        have f0 := keep_cell (Keeps.refl [] w9) f0
        have f1 := keep_cell (Keeps.refl [] w9) f1
        obtain ⟨fN, fN0⟩ : ∃ N, N = r.length + 2 := ⟨_, rfl⟩
        rw [← fN0]
        have fa : decide ((fN : Int) < 2) = false := by simp; omega
        have fb : 0 < fN := by omega
        have fd : 1 < fN := by omega
        have fb' : (0 : Int) < (fN : Int) := by omega
        have fd' : (1 : Int) < (fN : Int) := by omega
        clear fN0
        have x3 : (j : Int) < (t.size : Int) := by omega
        have x4 : j < t.size := hj
        clear hr hr' hj J2 J4
        go_wp2_with fail
        go_quiet (fail)
        go_wp2_with fail
        go_ret
        exact ⟨rfl, hkG.trans ((Keeps.refl [] w9).drewN _)⟩
      | both j i' r r' r'' hr hr' hr'' hj hi' =>
        obtain ⟨mg, mc, rfl, m0, m1⟩ := row_two J2.out
        have m0 := keep_cell hX7 m0
        have m1 := keep_cell hX7 m1
        obtain ⟨mN, mN0⟩ : ∃ N, N = r'.length + 2 := ⟨_, rfl⟩
        rw [← mN0]
        have ma : decide ((mN : Int) < 2) = false := by simp; omega
        have mb : 0 < mN := by omega
        have md : 1 < mN := by omega
        have mb' : (0 : Int) < (mN : Int) := by omega
        have md' : (1 : Int) < (mN : Int) := by omega
        clear mN0
        obtain ⟨ng, nc, rfl, n0, n1⟩ := row_two J3.out
        have n0 := keep_cell hX8 n0
        have n1 := keep_cell hX8 n1
        obtain ⟨nN, nN0⟩ : ∃ N, N = r''.length + 2 := ⟨_, rfl⟩
        rw [← nN0]
        have na : decide ((nN : Int) < 2) = false := by simp; omega
        have nb : 0 < nN := by omega
        have nd : 1 < nN := by omega
        have nb' : (0 : Int) < (nN : Int) := by omega
        have nd' : (1 : Int) < (nN : Int) := by omega
        clear nN0
        obtain ⟨fg, fc, rfl, f0, f1⟩ := row_two J4.out
        have f0 := keep_cell (Keeps.refl [] w9) f0
        have f1 := keep_cell (Keeps.refl [] w9) f1
        obtain ⟨fN, fN0⟩ : ∃ N, N = r.length + 2 := ⟨_, rfl⟩
        rw [← fN0]
        have fa : decide ((fN : Int) < 2) = false := by simp; omega
        have fb : 0 < fN := by omega
        have fd : 1 < fN := by omega
        have fb' : (0 : Int) < (fN : Int) := by omega
        have fd' : (1 : Int) < (fN : Int) := by omega
        clear fN0
        clear hr hr' hr'' hj hi' J2 J3 J4
        go_wp2_with fail
        go_quiet (fail)
        go_wp2_with fail
        go_ret
        exact ⟨rfl, hkG.trans ((Keeps.refl [] w9).drewN _)⟩
    · obtain ⟨lg, lc, rfl, l0, l1, l2, l3⟩ := row_four J1.out
      have l0 := keep_cell hX6 l0
      have l1 := keep_cell hX6 l1
      have l2 := keep_cell hX6 l2
      have l3 := keep_cell hX6 l3
      obtain ⟨lN, lN0⟩ : ∃ N, N = r1.length + 4 := ⟨_, rfl⟩
      rw [← lN0]
      have la : decide ((lN : Int) < 4) = false := by simp; omega
      have lb : 0 < lN := by omega
      have ld : 1 < lN := by omega
      have lb' : (0 : Int) < (lN : Int) := by omega
      have ld' : (1 : Int) < (lN : Int) := by omega
      have le : 2 < lN := by omega
      have lf : 3 < lN := by omega
      have le' : (2 : Int) < (lN : Int) := by omega
      have lf' : (3 : Int) < (lN : Int) := by omega
      clear lN0
      clear J1 hr1
      have hB := HB.out
      clear HB
      cases hB with
      | none =>
        obtain rfl : vm = .slice none 0 0 := J2.out
        clear J2
        obtain rfl : vn = .slice none 0 0 := J3.out
        clear J3
        obtain rfl : vf = .slice none 0 0 := J4.out
        clear J4
        go_wp2_with fail
        go_quiet (fail)
        go_wp2_with fail
        go_ret
        exact ⟨rfl, hkG.trans ((Keeps.refl [] w9).drewN _)⟩
      | free i j r hr hi hij hj =>
        obtain rfl : vm = .slice none 0 0 := J2.out
        clear J2
        obtain rfl : vn = .slice none 0 0 := J3.out
        clear J3
        obtain ⟨fg, fc, rfl, f0, f1⟩ := row_two J4.out
        have f0 := keep_cell (Keeps.refl [] w9) f0
        have f1 := keep_cell (Keeps.refl [] w9) f1
        obtain ⟨fN, fN0⟩ : ∃ N, N = r.length + 2 := ⟨_, rfl⟩
        rw [← fN0]
        have fa : decide ((fN : Int) < 2) = false := by simp; omega
        have fb : 0 < fN := by omega
        have fd : 1 < fN := by omega
        have fb' : (0 : Int) < (fN : Int) := by omega
        have fd' : (1 : Int) < (fN : Int) := by omega
        clear fN0
        have x1 : ¬ (i : Int) = 0 := by omega
        have x2 : ((i : Int) == 0) = false := by simp; omega
        have x3 : (j : Int) < (t.size : Int) := by omega
        have x4 : j < t.size := hj
        have x5 : ¬ i = 0 := by omega
        clear hr hi hij hj J4
        go_wp2_with fail
        go_quiet (fail)
        go_wp2_with fail
        go_ret
        exact ⟨rfl, hkG.trans ((Keeps.refl [] w9).drewN _)⟩
      | last i j i' r r' hr hr' hi hij hj hi' =>
        obtain rfl : vm = .slice none 0 0 := J2.out
        clear J2
        obtain ⟨ng, nc, rfl, n0, n1⟩ := row_two J3.out
        have n0 := keep_cell hX8 n0
        have n1 := keep_cell hX8 n1
        obtain ⟨nN, nN0⟩ : ∃ N, N = r'.length + 2 := ⟨_, rfl⟩
        rw [← nN0]
        have na : decide ((nN : Int) < 2) = false := by simp; omega
        have nb : 0 < nN := by omega
        have nd : 1 < nN := by omega
        have nb' : (0 : Int) < (nN : Int) := by omega
        have nd' : (1 : Int) < (nN : Int) := by omega
        clear nN0
        obtain ⟨fg, fc, rfl, f0, f1⟩ := row_two J4.out
        have f0 := keep_cell (Keeps.refl [] w9) f0
        have f1 := keep_cell (Keeps.refl [] w9) f1
        obtain ⟨fN, fN0⟩ : ∃ N, N = r.length + 2 := ⟨_, rfl⟩
        rw [← fN0]
        have fa : decide ((fN : Int) < 2) = false := by simp; omega
        have fb : 0 < fN := by omega
        have fd : 1 < fN := by omega
        have fb' : (0 : Int) < (fN : Int) := by omega
        have fd' : (1 : Int) < (fN : Int) := by omega
        clear fN0
        have x1 : ¬ (i : Int) = 0 := by omega
        have x2 : ((i : Int) == 0) = false := by simp; omega
        have x5 : ¬ i = 0 := by omega
        clear hr hr' hi hij hj hi' J3 J4
        go_wp2_with fail
        go_quiet (fail)
        go_wp2_with fail
        go_ret
        exact ⟨rfl, hkG.trans ((Keeps.refl [] w9).drewN _)⟩
      | first j r r' hr hr' hj =>
        obtain ⟨mg, mc, rfl, m0, m1⟩ := row_two J2.out
        have m0 := keep_cell hX7 m0
        have m1 := keep_cell hX7 m1
        obtain ⟨mN, mN0⟩ : ∃ N, N = r'.length + 2 := ⟨_, rfl⟩
        rw [← mN0]
        have ma : decide ((mN : Int) < 2) = false := by simp; omega
        have mb : 0 < mN := by omega
        have md : 1 < mN := by omega
        have mb' : (0 : Int) < (mN : Int) := by omega
        have md' : (1 : Int) < (mN : Int) := by omega
        clear mN0
        obtain rfl : vn = .slice none 0 0 := J3.out
        clear J3
        obtain ⟨fg, fc, rfl, f0, f1⟩ := row_two J4.out
        have f0 := keep_cell (Keeps.refl [] w9) f0
        have f1 := keep_cell (Keeps.refl [] w9) f1
        obtain ⟨fN, fN0⟩ : ∃ N, N = r.length + 2 := ⟨_, rfl⟩
        rw [← fN0]
        have fa : decide ((fN : Int) < 2) = false := by simp; omega
        have fb : 0 < fN := by omega
        have fd : 1 < fN := by omega
        have fb' : (0 : Int) < (fN : Int) := by omega
        have fd' : (1 : Int) < (fN : Int) := by omega
        clear fN0
        have x3 : (j : Int) < (t.size : Int) := by omega
        have x4 : j < t.size := hj
        clear hr hr' hj J2 J4
        go_wp2_with fail
        go_quiet (fail)
        go_wp2_with fail
        go_ret
        exact ⟨rfl, hkG.trans ((Keeps.refl [] w9).drewN _)⟩
      | both j i' r r' r'' hr hr' hr'' hj hi' =>
        obtain ⟨mg, mc, rfl, m0, m1⟩ := row_two J2.out
        have m0 := keep_cell hX7 m0
        have m1 := keep_cell hX7 m1
        obtain ⟨mN, mN0⟩ : ∃ N, N = r'.length + 2 := ⟨_, rfl⟩
        rw [← mN0]
        have ma : decide ((mN : Int) < 2) = false := by simp; omega
        have mb : 0 < mN := by omega
        have md : 1 < mN := by omega
        have mb' : (0 : Int) < (mN : Int) := by omega
        have md' : (1 : Int) < (mN : Int) := by omega
        clear mN0
        obtain ⟨ng, nc, rfl, n0, n1⟩ := row_two J3.out
        have n0 := keep_cell hX8 n0
        have n1 := keep_cell hX8 n1
        obtain ⟨nN, nN0⟩ : ∃ N, N = r''.length + 2 := ⟨_, rfl⟩
        rw [← nN0]
        have na : decide ((nN : Int) < 2) = false := by simp; omega
        have nb : 0 < nN := by omega
        have nd : 1 < nN := by omega
        have nb' : (0 : Int) < (nN : Int) := by omega
        have nd' : (1 : Int) < (nN : Int) := by omega
        clear nN0
        obtain ⟨fg, fc, rfl, f0, f1⟩ := row_two J4.out
        have f0 := keep_cell (Keeps.refl [] w9) f0
        have f1 := keep_cell (Keeps.refl [] w9) f1
        obtain ⟨fN, fN0⟩ : ∃ N, N = r.length + 2 := ⟨_, rfl⟩
        rw [← fN0]
        have fa : decide ((fN : Int) < 2) = false := by simp; omega
        have fb : 0 < fN := by omega
        have fd : 1 < fN := by omega
        have fb' : (0 : Int) < (fN : Int) := by omega
        have fd' : (1 : Int) < (fN : Int) := by omega
        clear fN0
        clear hr hr' hr'' hj hi' J2 J3 J4
        go_wp2_with fail
        go_quiet (fail)
        go_wp2_with fail
        go_ret
        exact ⟨rfl, hkG.trans ((Keeps.refl [] w9).drewN _)⟩
end Go.Proofs.YtnfojonmohijpaaGreatDoor
namespace Go.Proofs.YtnfojonmohijpaaGreatDoor
theorem marked_any (v1 : Value) (z1 : List Int) (s : ByteArray) (w : World) (hr1 : RawIs w v1 z1) (hgn : GN w) :
    Calls Tryz.prog 14 #[v1, .string s] w fun e w' => e = .returned (.bool true) ∧ Keeps [] w w' := by
  rcases Nat.lt_or_ge 50 (mdT (cv z1) 2 0).length with h | h
  · exact marked_any_2 v1 z1 s w hr1 hgn h
  · exact marked_any_1 v1 z1 s w hr1 hgn h
end Go.Proofs.YtnfojonmohijpaaGreatDoor
namespace Go.Proofs.YtnfojonmohijpaaGreatDoor
open Go.ChangeShapes Go.WideShapes Go.ChangeAt Go.WideMaps Go.WideElems Go.RowKit
set_option maxRecDepth 100000 in
theorem raw_open {H : Type} {enc : TypeId × Value → H} {W : World} {base : Nat} {v : Value} {d : DataW H} {p : List MemPlace} (hv : Value.okWide Tryz.prog W .any base 32 v)
    (h : DataW.Trod enc Tryz.prog W 0 (fun _ => true) true 32 v d p) : ∃ zs, RawIs W v zs := by
  obtain ⟨a0, len0, cap0, rfl⟩ := okWide_slice Tryz.underlying32 hv
  obtain ⟨fuel, hf⟩ := h
  rcases open_ints Tryz.underlying32 Tryz.underlying3 (by kernel_rfl) hf with ⟨hcs, _⟩ | ⟨x, l, c, zs, hcs, _, hl, hm, hz, _, hcell, hwz⟩
  · simp [Value.cells] at hcs
    obtain ⟨rfl, rfl, rfl⟩ := hcs
    exact ⟨[], ⟨none, 0, rfl, fun i z h => by simp at h⟩, by simp, fun i z h => by simp at h⟩
  · simp [Value.cells] at hcs
    obtain ⟨rfl, rfl, rfl⟩ := hcs
    simp only [if_true] at hz
    have hll : (zs.take len0).length = len0 := by simp; omega
    have hget : ∀ (i : Nat) (z : Int), (zs.take len0)[i]? = some z → zs[i]? = some z ∧ i < zs.length := by
      intro i z hi
      have h1 := (List.getElem?_eq_some_iff.1 hi).1
      rw [hll] at h1
      rw [List.getElem?_take_of_lt h1] at hi
      exact ⟨hi, (List.getElem?_eq_some_iff.1 hi).1⟩
    refine ⟨zs.take len0, ⟨some x, cap0, by rw [hll], fun i z hi => ?_⟩, ?_, fun i z hi => ?_⟩
    · obtain ⟨h1, h2⟩ := hget i z hi
      have h3 := hcell i h2
      rw [List.getD_eq_getElem?_getD, h1] at h3
      have h4 := World.block_lt_of_cell? _ _ h3
      have h5 : (x.add i).block = x.block := by unfold Addr.add; first | rfl | (split <;> rfl)
      exact ⟨x, rfl, by rw [← h5]; exact h4, h3⟩
    · rw [hll]; unfold maxLen at hm; omega
    · obtain ⟨h1, _⟩ := hget i z hi
      have h3 := hwz z (List.mem_of_getElem? h1)
      simp [Lit.wf] at h3
      have h6 : IntKind.i64.min = -9223372036854775808 := by decide
      exact ⟨by omega, h3.2⟩
end Go.Proofs.YtnfojonmohijpaaGreatDoor
namespace Go.Proofs.YtnfojonmohijpaaGreatDoor
open Go.ChangeShapes Go.WideShapes Go.ChangeAt Go.WideMaps Go.WideElems Go.RowKit
theorem ownK : ownKnob Tryz.prog.godebug = none := by kernel_rfl
theorem gCls : Tryz.prog.globalNamed "yarrow/byteset.classNames" = some 6 := by kernel_rfl
theorem tCls : (Tryz.prog.globals[6]?).map (·.type) = some 357 := by kernel_rfl
theorem cStr : Tryz.prog.cellsOf 9 = 1 := by kernel_rfl
theorem cCls : Tryz.prog.cellsOf 357 = 7 := by kernel_rfl
theorem str_cell {H : Type} {enc : TypeId × Value → H} {W : World} {base fuel : Nat} {sp : Nat → Bool} {held : Bool} {c : Value} {x : DataW H × List MemPlace} {l : List UInt8}
    (h : DataW.trod enc Tryz.prog W base sp held fuel 9 [c] = some x) (hx : DataW.lit (.string l) = x.1) : c = .string (nmB l) := by
  obtain ⟨s, hc, rfl, _⟩ := DataW.trod_string Tryz.underlying9 h
  simp only [List.cons.injEq, and_true] at hc
  simp only [DataW.lit.injEq, Lit.string.injEq] at hx
  subst hc
  rw [hx]
  congr 1
theorem seven {α : Type} (l : List α) (h : l.length = 7) : ∃ a b c d e f g, l = [a, b, c, d, e, f, g] := by
  match l, h with
  | [a, b, c, d, e, f, g], _ => exact ⟨a, b, c, d, e, f, g, rfl⟩
set_option maxRecDepth 100000 in
theorem of_laidN {W : World} (h : laidMetH Tryz.prog Rows.plainsRow.laid W) : GN W := by
  rw [MakeChecks.laidMetH_plain _ _ _ (by kernel_rfl)] at h
  obtain ⟨ps, ⟨g0, t0, cs0, f0, p0, q0, hg0, ht0, hv0, hd0, ⟨g1, t1, cs1, f1, p1, q1, hg1, ht1, hv1, hd1, ⟨g2, t2, cs2, f2, p2, q2, hg2, ht2, hv2, hd2, ⟨g3, t3, cs3, f3, p3, q3, hg3, ht3, hv3, hd3, _, _⟩, _⟩, _⟩, _⟩, _, _⟩ := h
  obtain rfl := Option.some.inj (gCls.symm.trans hg3)
  obtain rfl := Option.some.inj (tCls.symm.trans ht3)
  clear hd0 hd1 hd2 hv0 hv1 hv2 hg0 hg1 hg2 ht0 ht1 ht2
  obtain ⟨xs, m, rfl, hx, hlen, hn, hel⟩ := DataW.trod_array Tryz.underlying357 hd3
  rw [cCls] at hlen
  rw [cStr] at hel
  have hl : ∃ t fr, W.heap[6]? = some (.cells cs3 t fr) := by
    simp only [World.var?, gCls, Option.bind_some] at hv3
    split at hv3
    · rename_i c t fr he
      cases hv3
      exact ⟨t, fr, he⟩
    · cases hv3
  obtain ⟨t, fr, hl⟩ := hl
  refine ⟨t, fr, hl.trans ?_⟩
  obtain ⟨l3⟩ := cs3
  unfold Rows.laid_yarrow_byteset_classNames at hx
  simp only [Prod.mk.injEq, DataW.agg.injEq] at hx
  obtain ⟨hx, _⟩ := hx
  obtain ⟨c0, c1, c2, c3, c4, c5, c6, rfl⟩ := seven l3 hlen
  obtain ⟨x0, x1, x2, x3, x4, x5, x6, rfl⟩ := seven xs hn
  · simp only [List.map_cons, List.map_nil, List.cons.injEq, and_true] at hx
    obtain ⟨e0, e1, e2, e3, e4, e5, e6⟩ := hx
    have h0 := str_cell (hel 0 (by decide)) e0
    have h1 := str_cell (hel 1 (by decide)) e1
    have h2 := str_cell (hel 2 (by decide)) e2
    have h3 := str_cell (hel 3 (by decide)) e3
    have h4 := str_cell (hel 4 (by decide)) e4
    have h5 := str_cell (hel 5 (by decide)) e5
    have h6 := str_cell (hel 6 (by decide)) e6
    subst h0 h1 h2 h3 h4 h5 h6
    rfl
end Go.Proofs.YtnfojonmohijpaaGreatDoor
