/-
  DERIVED. The contract of yarrowkeep's made: the pattern's text is the one that the raw numbers speak of.
-/
import Derived.Test.YtnfojonmohijpaaGreatDoorJYC
import Derived.Test.YtnfojonmohijpaaGreatDoorJOF
import Derived.Test.YtnfojonmohijpaaGreatDoorJOK
import Derived.BigQuiet
import Derived.Lib.SliceRun
import Derived.Deep.QuietTactic
set_option linter.unusedSimpArgs false
set_option linter.unusedVariables false
namespace Go.Proofs.YtnfojonmohijpaaGreatDoor
open Go.RowKit
theorem bOf_app (a b : List UInt8) : bOf (a ++ b) = bOf a ++ bOf b := by
  apply ByteArray.ext
  simp [bOf]
theorem sgT_len (k : Nat) : (sgT k).length ≤ 11 := by
  match k with
  | 0 => decide
  | 1 => decide
  | 2 => decide
  | 3 => decide
  | 4 => decide
  | 5 => decide
  | 6 => decide
  | 7 => decide
  | _ + 8 => exact (by decide : ([92, 46] : List UInt8).length ≤ 11)
theorem rpT_len (k : Nat) : (rpT k).length ≤ 1 := by
  match k with
  | 0 => decide
  | 1 => decide
  | _ + 2 => exact (by decide : ([43] : List UInt8).length ≤ 1)
theorem lwT_len (k : Nat) : (lwT k).length ≤ 1 := by
  match k with
  | 0 => decide
  | 1 => decide
  | _ + 2 => exact (by decide : ([50] : List UInt8).length ≤ 1)
theorem hiT_len (k : Nat) : (hiT k).length ≤ 1 := by
  match k with
  | 0 => decide
  | 1 => decide
  | _ + 2 => exact (by decide : ([] : List UInt8).length ≤ 1)
theorem mdT_len (c : Nat → Nat) : ∀ deep i, (mdT c deep i).length + 3 ≤ 14 * 2 ^ deep
  | 0, i => by have := sgT_len (c i / 7 % 9); simp only [mdT]; omega
  | deep + 1, i => by
    have h1 := mdT_len c deep (i + 1)
    have h2 := mdT_len c deep (i + 2)
    have h3 := sgT_len (c i / 7 % 9)
    have h4 := rpT_len (c i / 7 % 3)
    have h5 := lwT_len (c i / 7 % 3)
    have h6 := hiT_len (c i / 21 % 3)
    have hp : 2 ^ (deep + 1) = 2 * 2 ^ deep := by rw [Nat.pow_succ]; omega
    have hp1 : 1 ≤ 2 ^ deep := Nat.one_le_pow _ _ (by omega)
    unfold mdT
    split <;> (try simp only [List.length_append, List.length_cons, List.length_nil]) <;> omega
theorem bOf_size (l : List UInt8) : (bOf l).size = l.length := by simp [bOf, ByteArray.size]
theorem mdT_zero (c : Nat → Nat) (deep i : Nat) (h : deep = 0 ∨ c i % 7 = 0) : mdT c deep i = sgT (c i / 7 % 9) := by
  cases deep with
  | zero => rfl
  | succ d =>
    rcases h with h | h
    · cases h
    · unfold mdT; rw [h]; rfl
theorem cv_lt (zs : List Int) (i : Nat) : cv zs i < 1099511627776 := by
  unfold cv
  cases zs[i]? with
  | none => decide
  | some z => exact Nat.mod_lt _ (by decide)
def mdX (k c : Nat) (x y : ByteArray) : ByteArray :=
  match k with
  | 1 => bOf [40] ++ x ++ bOf [41]
  | 2 => x ++ y
  | 3 => bOf [40] ++ x ++ bOf [124] ++ y ++ bOf [41]
  | 4 => bOf [40] ++ x ++ bOf [41, 42]
  | 5 => bOf [40] ++ x ++ bOf [124, 41] ++ bOf (rpT (c / 7 % 3))
  | _ => bOf [40] ++ x ++ bOf [41, 123] ++ bOf (lwT (c / 7 % 3)) ++ bOf [44] ++ bOf (hiT (c / 21 % 3)) ++ bOf [125]
theorem mdT_succ (c : Nat → Nat) (deep i : Nat) (h : c i % 7 ≠ 0) : bOf (mdT c (deep + 1) i) = mdX (c i % 7) (c i) (bOf (mdT c deep (i + 1))) (bOf (mdT c deep (i + 2))) := by
  rw [mdT]
  generalize c i % 7 = k at h ⊢
  match k, h with
  | 0, h => exact absurd rfl h
  | 1, _ => simp only [mdX, bOf_app]
  | 2, _ => simp only [mdX, bOf_app]
  | 3, _ => simp only [mdX, bOf_app]
  | 4, _ => simp only [mdX, bOf_app]
  | 5, _ => simp only [mdX, bOf_app]
  | _ + 6, _ => simp only [mdX, bOf_app]
set_option maxRecDepth 100000 in
set_option maxHeartbeats 8000000 in
theorem made_any (v : Value) (zs : List Int) : ∀ (deep : Nat), deep ≤ 3 → ∀ (i : Nat), i + 2 * deep ≤ 900 → ∀ (w : World), RawIs w v zs →
    Calls Tryz.prog 31 #[v, .int .i64 i, .int .i64 deep] w fun e w' => e = .returned (.string (bOf (mdT (cv zs) deep i))) ∧ Keeps [] w w' := by
  intro deep
  induction deep with
  | zero =>
    intro _ i hi w hr
    have h1 := kat_any v zs i (by omega) w hr
    have hb := cv_lt zs i
    rw [mdT_zero _ _ _ (Or.inl rfl)]
    generalize cv zs i = C at h1 hb ⊢
    have hS := ksingle_any (C / 7) (by omega) w
    have hb' : (C : Int) < 1099511627776 := by omega
    have hb0 : (0 : Int) ≤ (C : Int) := by omega
    go_enter Tryz.func31, Tryz.ntmps31
    go_wp2_with fail
    refine h1.mono ?_
    rintro e w1 ⟨rfl, rfl⟩
    clear h1 hr
    go_wp2_with fail
    refine hS.mono ?_
    rintro e w2 ⟨rfl, hk⟩
    clear hS
    go_wp2_with fail
    go_ret
    exact ⟨rfl, hk⟩
  | succ deep ih =>
    intro hdp i hi w hr
    obtain ⟨D, hDe⟩ : ∃ D : Int, ((deep + 1 : Nat) : Int) = D := ⟨_, rfl⟩
    rw [hDe]
    have hD1 : D - 1 = (deep : Int) := by omega
    have hD3 : D ≤ 3 := by omega
    have hD0 : 1 ≤ D := by omega
    have hDz : ¬ D = 0 := by omega
    have hDd : (D == 0) = false := by simp [hDz]
    clear hDe
    have hd0 : (0 : Int) ≤ (deep : Int) := by omega
    have hi0 : (0 : Int) ≤ (i : Int) := by omega
    have h1 := kat_any v zs i (by omega) w hr
    have hb := cv_lt zs i
    have hx := ih (by omega) (i + 1) (by omega)
    have hy := ih (by omega) (i + 2) (by omega)
    have hlx := mdT_len (cv zs) deep (i + 1)
    have hly := mdT_len (cv zs) deep (i + 2)
    have hp3 : 2 ^ deep ≤ 8 := Nat.pow_le_pow_right (by decide) (by omega : deep ≤ 3)
    have hdn : (deep : Int) ≤ 2 := by omega
    have hin : (i : Int) ≤ 900 := by omega
    by_cases h0 : cv zs i % 7 = 0
    · rw [mdT_zero _ _ _ (Or.inr h0)]
      generalize cv zs i = C at h1 hb h0 ⊢
      have hS := ksingle_any (C / 7) (by omega) w
      have hb' : (C : Int) < 1099511627776 := by omega
      have hb0 : (0 : Int) ≤ (C : Int) := by omega
      have h0' : (C : Int) % 7 = 0 := by omega
      clear ih hx hy hlx hly h0
      go_enter Tryz.func31, Tryz.ntmps31
      go_wp2_with fail
      refine h1.mono ?_
      rintro e w1 ⟨rfl, rfl⟩
      clear h1 hr
      go_wp2_with fail
      refine hS.mono ?_
      rintro e w2 ⟨rfl, hk⟩
      clear hS
      go_wp2_with fail
      go_ret
      exact ⟨rfl, hk⟩
    · rw [mdT_succ _ _ _ h0]
      generalize cv zs i = C at h1 hb h0 ⊢
      rw [← bOf_size] at hlx hly
      generalize bOf (mdT (cv zs) deep (i + 1)) = x at hx hlx ⊢
      generalize bOf (mdT (cv zs) deep (i + 2)) = y at hy hly ⊢
      have hb' : (C : Int) < 1099511627776 := by omega
      have hb0 : (0 : Int) ≤ (C : Int) := by omega
      have hx1 : (x.size : Int) ≤ 200 := by omega
      have hy1 : (y.size : Int) ≤ 200 := by omega
      have HX : Hid (∀ w, RawIs w v zs → Calls Tryz.prog 31 #[v, .int .i64 ((i + 1 : Nat) : Int), .int .i64 (deep : Int)] w fun e w' => e = .returned (.string x) ∧ Keeps [] w w') := hx
      have HY : Hid (∀ w, RawIs w v zs → Calls Tryz.prog 31 #[v, .int .i64 ((i + 2 : Nat) : Int), .int .i64 (deep : Int)] w fun e w' => e = .returned (.string y) ∧ Keeps [] w w') := hy
      have hd7 : C % 7 = 1 ∨ C % 7 = 2 ∨ C % 7 = 3 ∨ C % 7 = 4 ∨ C % 7 = 5 ∨ C % 7 = 6 := by omega
      clear ih hlx hly hx hy h0
      rcases hd7 with h7 | h7 | h7 | h7 | h7 | h7
      · rw [h7]
        have h7' : (C : Int) % 7 = 1 := by omega
        clear h7
        go_enter Tryz.func31, Tryz.ntmps31
        go_wp2_with fail
        refine h1.mono ?_
        rintro e w1 ⟨rfl, rfl⟩
        clear h1
        go_wp2_with fail
        refine (HX.out w1 hr).mono ?_
        rintro e w2 ⟨rfl, hk2⟩
        have hr2 := hr.keep hk2
        clear hr HX
        go_wp2_with fail
        refine (HY.out w2 hr2).mono ?_
        rintro e w3 ⟨rfl, hk3⟩
        have hk := hk2.trans hk3
        clear hr2 HY hk2 hk3
        go_wp2_with fail
        go_ret
        exact ⟨rfl, hk⟩
      · rw [h7]
        have h7' : (C : Int) % 7 = 2 := by omega
        clear h7
        go_enter Tryz.func31, Tryz.ntmps31
        go_wp2_with fail
        refine h1.mono ?_
        rintro e w1 ⟨rfl, rfl⟩
        clear h1
        go_wp2_with fail
        refine (HX.out w1 hr).mono ?_
        rintro e w2 ⟨rfl, hk2⟩
        have hr2 := hr.keep hk2
        clear hr HX
        go_wp2_with fail
        refine (HY.out w2 hr2).mono ?_
        rintro e w3 ⟨rfl, hk3⟩
        have hk := hk2.trans hk3
        clear hr2 HY hk2 hk3
        go_wp2_with fail
        go_ret
        exact ⟨rfl, hk⟩
      · rw [h7]
        have h7' : (C : Int) % 7 = 3 := by omega
        clear h7
        go_enter Tryz.func31, Tryz.ntmps31
        go_wp2_with fail
        refine h1.mono ?_
        rintro e w1 ⟨rfl, rfl⟩
        clear h1
        go_wp2_with fail
        refine (HX.out w1 hr).mono ?_
        rintro e w2 ⟨rfl, hk2⟩
        have hr2 := hr.keep hk2
        clear hr HX
        go_wp2_with fail
        refine (HY.out w2 hr2).mono ?_
        rintro e w3 ⟨rfl, hk3⟩
        have hk := hk2.trans hk3
        clear hr2 HY hk2 hk3
        go_wp2_with fail
        go_ret
        exact ⟨rfl, hk⟩
      · rw [h7]
        have h7' : (C : Int) % 7 = 4 := by omega
        clear h7
        go_enter Tryz.func31, Tryz.ntmps31
        go_wp2_with fail
        refine h1.mono ?_
        rintro e w1 ⟨rfl, rfl⟩
        clear h1
        go_wp2_with fail
        refine (HX.out w1 hr).mono ?_
        rintro e w2 ⟨rfl, hk2⟩
        have hr2 := hr.keep hk2
        clear hr HX
        go_wp2_with fail
        refine (HY.out w2 hr2).mono ?_
        rintro e w3 ⟨rfl, hk3⟩
        have hk := hk2.trans hk3
        clear hr2 HY hk2 hk3
        go_wp2_with fail
        go_ret
        exact ⟨rfl, hk⟩
      · rw [h7]
        have h7' : (C : Int) % 7 = 5 := by omega
        have hq : C / 7 % 3 = 0 ∨ C / 7 % 3 = 1 ∨ C / 7 % 3 = 2 := by omega
        unfold mdX
        rcases hq with hq | hq | hq
        · rw [hq]
          have hq' : (C : Int) / 7 % 3 = 0 := by omega
          clear hq
          clear h7
          go_enter Tryz.func31, Tryz.ntmps31
          go_wp2_with fail
          refine h1.mono ?_
          rintro e w1 ⟨rfl, rfl⟩
          clear h1
          go_wp2_with fail
          refine (HX.out w1 hr).mono ?_
          rintro e w2 ⟨rfl, hk2⟩
          have hr2 := hr.keep hk2
          clear hr HX
          go_wp2_with fail
          refine (HY.out w2 hr2).mono ?_
          rintro e w3 ⟨rfl, hk3⟩
          have hk := hk2.trans hk3
          clear hr2 HY hk2 hk3
          go_wp2_with fail
          go_ret
          exact ⟨rfl, hk.alloc _⟩
        · rw [hq]
          have hq' : (C : Int) / 7 % 3 = 1 := by omega
          clear hq
          clear h7
          go_enter Tryz.func31, Tryz.ntmps31
          go_wp2_with fail
          refine h1.mono ?_
          rintro e w1 ⟨rfl, rfl⟩
          clear h1
          go_wp2_with fail
          refine (HX.out w1 hr).mono ?_
          rintro e w2 ⟨rfl, hk2⟩
          have hr2 := hr.keep hk2
          clear hr HX
          go_wp2_with fail
          refine (HY.out w2 hr2).mono ?_
          rintro e w3 ⟨rfl, hk3⟩
          have hk := hk2.trans hk3
          clear hr2 HY hk2 hk3
          go_wp2_with fail
          go_ret
          exact ⟨rfl, hk.alloc _⟩
        · rw [hq]
          have hq' : (C : Int) / 7 % 3 = 2 := by omega
          clear hq
          clear h7
          go_enter Tryz.func31, Tryz.ntmps31
          go_wp2_with fail
          refine h1.mono ?_
          rintro e w1 ⟨rfl, rfl⟩
          clear h1
          go_wp2_with fail
          refine (HX.out w1 hr).mono ?_
          rintro e w2 ⟨rfl, hk2⟩
          have hr2 := hr.keep hk2
          clear hr HX
          go_wp2_with fail
          refine (HY.out w2 hr2).mono ?_
          rintro e w3 ⟨rfl, hk3⟩
          have hk := hk2.trans hk3
          clear hr2 HY hk2 hk3
          go_wp2_with fail
          go_ret
          exact ⟨rfl, hk.alloc _⟩
      · rw [h7]
        have h7' : (C : Int) % 7 = 6 := by omega
        clear h7
        have hq : C / 7 % 3 = 0 ∨ C / 7 % 3 = 1 ∨ C / 7 % 3 = 2 := by omega
        have hp : C / 21 % 3 = 0 ∨ C / 21 % 3 = 1 ∨ C / 21 % 3 = 2 := by omega
        have HC : Hid (C < 1099511627776) := hb
        unfold mdX
        go_enter Tryz.func31, Tryz.ntmps31
        go_wp2_with fail
        refine h1.mono ?_
        rintro e w1 ⟨rfl, rfl⟩
        clear h1
        go_wp2_with fail
        refine (HX.out w1 hr).mono ?_
        rintro e w2 ⟨rfl, hk2⟩
        have hr2 := hr.keep hk2
        clear hr HX
        go_wp2_with fail
        refine (HY.out w2 hr2).mono ?_
        rintro e w3 ⟨rfl, hk3⟩
        have hk := hk2.trans hk3
        clear hr2 HY hk2 hk3
        go_upto_region 17 with (fail)
        rcases hq with hq | hq | hq <;> rcases hp with hp | hp | hp
        · have HQ : Hid (C / 7 % 3 = 0 ∧ C / 21 % 3 = 0) := ⟨hq, hp⟩
          have hq' : (C : Int) / 7 % 3 = 0 := by omega
          have hp' : (C : Int) / 21 % 3 = 0 := by omega
          clear hq hp
          go_region
          all_goals
            go_wp2_with fail
            go_ret
            exact ⟨by rw [HQ.out.1, HQ.out.2]; rfl, ((hk.alloc _).alloc _).drewN 1⟩
        · have HQ : Hid (C / 7 % 3 = 0 ∧ C / 21 % 3 = 1) := ⟨hq, hp⟩
          have hq' : (C : Int) / 7 % 3 = 0 := by omega
          have hp' : (C : Int) / 21 % 3 = 1 := by omega
          clear hq hp
          go_region
          all_goals
            go_wp2_with fail
            go_ret
            exact ⟨by rw [HQ.out.1, HQ.out.2]; rfl, ((hk.alloc _).alloc _).drewN 1⟩
        · have HQ : Hid (C / 7 % 3 = 0 ∧ C / 21 % 3 = 2) := ⟨hq, hp⟩
          have hq' : (C : Int) / 7 % 3 = 0 := by omega
          have hp' : (C : Int) / 21 % 3 = 2 := by omega
          clear hq hp
          go_region
          all_goals
            go_wp2_with fail
            go_ret
            exact ⟨by rw [HQ.out.1, HQ.out.2]; rfl, ((hk.alloc _).alloc _).drewN 1⟩
        · have HQ : Hid (C / 7 % 3 = 1 ∧ C / 21 % 3 = 0) := ⟨hq, hp⟩
          have hq' : (C : Int) / 7 % 3 = 1 := by omega
          have hp' : (C : Int) / 21 % 3 = 0 := by omega
          clear hq hp
          go_region
          all_goals
            go_wp2_with fail
            go_ret
            exact ⟨by rw [HQ.out.1, HQ.out.2]; rfl, ((hk.alloc _).alloc _).drewN 1⟩
        · have HQ : Hid (C / 7 % 3 = 1 ∧ C / 21 % 3 = 1) := ⟨hq, hp⟩
          have hq' : (C : Int) / 7 % 3 = 1 := by omega
          have hp' : (C : Int) / 21 % 3 = 1 := by omega
          clear hq hp
          go_region
          all_goals
            go_wp2_with fail
            go_ret
            exact ⟨by rw [HQ.out.1, HQ.out.2]; rfl, ((hk.alloc _).alloc _).drewN 1⟩
        · have HQ : Hid (C / 7 % 3 = 1 ∧ C / 21 % 3 = 2) := ⟨hq, hp⟩
          have hq' : (C : Int) / 7 % 3 = 1 := by omega
          have hp' : (C : Int) / 21 % 3 = 2 := by omega
          clear hq hp
          go_region
          all_goals
            go_wp2_with fail
            go_ret
            exact ⟨by rw [HQ.out.1, HQ.out.2]; rfl, ((hk.alloc _).alloc _).drewN 1⟩
        · have HQ : Hid (C / 7 % 3 = 2 ∧ C / 21 % 3 = 0) := ⟨hq, hp⟩
          have hq' : (C : Int) / 7 % 3 = 2 := by omega
          have hp' : (C : Int) / 21 % 3 = 0 := by omega
          clear hq hp
          go_region
          all_goals
            go_wp2_with fail
            go_ret
            exact ⟨by rw [HQ.out.1, HQ.out.2]; rfl, ((hk.alloc _).alloc _).drewN 1⟩
        · have HQ : Hid (C / 7 % 3 = 2 ∧ C / 21 % 3 = 1) := ⟨hq, hp⟩
          have hq' : (C : Int) / 7 % 3 = 2 := by omega
          have hp' : (C : Int) / 21 % 3 = 1 := by omega
          clear hq hp
          go_region
          all_goals
            go_wp2_with fail
            go_ret
            exact ⟨by rw [HQ.out.1, HQ.out.2]; rfl, ((hk.alloc _).alloc _).drewN 1⟩
        · have HQ : Hid (C / 7 % 3 = 2 ∧ C / 21 % 3 = 2) := ⟨hq, hp⟩
          have hq' : (C : Int) / 7 % 3 = 2 := by omega
          have hp' : (C : Int) / 21 % 3 = 2 := by omega
          clear hq hp
          go_region
          all_goals
            go_wp2_with fail
            go_ret
            exact ⟨by rw [HQ.out.1, HQ.out.2]; rfl, ((hk.alloc _).alloc _).drewN 1⟩
end Go.Proofs.YtnfojonmohijpaaGreatDoor
namespace Go.Proofs.YtnfojonmohijpaaGreatDoor
open Go.RowKit
def ltr (k : Nat) : UInt8 := match k % 4 with | 0 => 97 | 1 => 98 | 2 => 99 | _ => 46
def txT (s : ByteArray) (most : Nat) : ByteArray := bOf ((s.data.toList.take most).map fun b => ltr b.toNat)
theorem txT_size (s : ByteArray) (most : Nat) : (txT s most).size ≤ most := by
  unfold txT; rw [bOf_size]; simp; omega
theorem take_step {l : List UInt8} {i : Nat} {b : UInt8} (h : l[i]? = some b) : bOf ((l.take (i + 1)).map fun b => ltr b.toNat) = bOf ((l.take i).map fun b => ltr b.toNat) ++ bOf [ltr b.toNat] := by
  rw [List.take_add_one, h, List.map_append, bOf_app]; rfl
set_option maxRecDepth 100000 in
set_option maxHeartbeats 4000000 in
theorem ktext_any (s : ByteArray) (most : Nat) (hm : most ≤ 100) (w : World) : Calls Tryz.prog 32 #[.string s, .int .i64 most] w fun e w' => e = .returned (.string (txT s most)) ∧ Keeps [] w w' := by
  have hmm : (most : Int) ≤ 100 := by omega
  go_enter Tryz.func32, Tryz.ntmps32
  go_upto_region 3 with (fail)
  go_loopw [5, 6] (fun o q wr => ∃ i : Nat, q = .int .i64 i ∧ o = .string (bOf ((s.data.toList.take i).map fun b => ltr b.toNat)) ∧ i ≤ most ∧ i ≤ s.size ∧ Keeps [] w wr) (fun _ q _ => most - (intOf q).toNat)
  case atStart => exact ⟨0, rfl, rfl, Nat.zero_le _, Nat.zero_le _, Keeps.refl _ _⟩
  case round =>
    obtain ⟨i, rfl, rfl, hi, hs, hk⟩ := hrel
    by_cases hlt : i < s.size ∧ i < most
    · obtain ⟨hls, hlm⟩ := hlt
      have hb : s.data.toList[i]? = some (s[i]'hls) := by
        rw [Array.getElem?_toList]
        exact Array.getElem?_eq_getElem hls
      have hI := take_step hb
      have hn256 := (s[i]'hls).toNat_lt
      obtain ⟨n, hn⟩ : ∃ n, (s[i]'hls).toNat = n := ⟨_, rfl⟩
      rw [hn] at hI hn256
      have hz : (bOf ((s.data.toList.take i).map fun b => ltr b.toNat)).size ≤ 100 := by rw [bOf_size]; simp; omega
      generalize bOf ((s.data.toList.take i).map fun b => ltr b.toNat) = o at hI hz ⊢
      have hz' : (o.size : Int) ≤ 100 := by omega
      have hi0 : (0 : Int) ≤ (i : Int) := by omega
      have hi1 : (i : Int) < (s.size : Int) := by omega
      have hi2 : (i : Int) < (most : Int) := by omega
      have hi3 : (i : Int) ≤ 100 := by omega
      have hn0 : (0 : Int) ≤ (n : Int) := by omega
      have hn1 : (n : Int) ≤ 255 := by omega
      have hd1 : decide ((i : Int) < (s.size : Int)) = true := by simp; omega
      have HB : Hid (i < s.size ∧ i < most) := ⟨hls, hlm⟩
      have h4 : n % 4 = 0 ∨ n % 4 = 1 ∨ n % 4 = 2 ∨ n % 4 = 3 := by omega
      clear hb hlm hi hs
      rcases h4 with h4 | h4 | h4 | h4
      · have h4' : (n : Int) % 4 = 0 := by omega
        have hl : ltr n = 97 := by unfold ltr; rw [h4]; rfl
        rw [hl] at hI
        have HI := hI.symm
        have HI2 : Hid (o ++ bOf [97] = bOf ((s.data.toList.take (i + 1)).map fun b => ltr b.toNat)) := HI
        clear h4 hl HI hI
        go_wp2_with fail
        exact ⟨⟨i + 1, by go_num, (congrArg (fun z => Value.string (o ++ z)) (by decide +kernel)).trans (congrArg Value.string HI2.out), HB.out.2, HB.out.1, hk⟩, by have := HB.out; simp [intOf]; omega⟩
      · have h4' : (n : Int) % 4 = 1 := by omega
        have hl : ltr n = 98 := by unfold ltr; rw [h4]; rfl
        rw [hl] at hI
        have HI := hI.symm
        have HI2 : Hid (o ++ bOf [98] = bOf ((s.data.toList.take (i + 1)).map fun b => ltr b.toNat)) := HI
        clear h4 hl HI hI
        go_wp2_with fail
        exact ⟨⟨i + 1, by go_num, (congrArg (fun z => Value.string (o ++ z)) (by decide +kernel)).trans (congrArg Value.string HI2.out), HB.out.2, HB.out.1, hk⟩, by have := HB.out; simp [intOf]; omega⟩
      · have h4' : (n : Int) % 4 = 2 := by omega
        have hl : ltr n = 99 := by unfold ltr; rw [h4]; rfl
        rw [hl] at hI
        have HI := hI.symm
        have HI2 : Hid (o ++ bOf [99] = bOf ((s.data.toList.take (i + 1)).map fun b => ltr b.toNat)) := HI
        clear h4 hl HI hI
        go_wp2_with fail
        exact ⟨⟨i + 1, by go_num, (congrArg (fun z => Value.string (o ++ z)) (by decide +kernel)).trans (congrArg Value.string HI2.out), HB.out.2, HB.out.1, hk⟩, by have := HB.out; simp [intOf]; omega⟩
      · have h4' : (n : Int) % 4 = 3 := by omega
        have hl : ltr n = 46 := by unfold ltr; rw [h4]; rfl
        rw [hl] at hI
        have HI := hI.symm
        have HI2 : Hid (o ++ bOf [46] = bOf ((s.data.toList.take (i + 1)).map fun b => ltr b.toNat)) := HI
        clear h4 hl HI hI
        go_wp2_with fail
        exact ⟨⟨i + 1, by go_num, (congrArg (fun z => Value.string (o ++ z)) (by decide +kernel)).trans (congrArg Value.string HI2.out), HB.out.2, HB.out.1, hk⟩, by have := HB.out; simp [intOf]; omega⟩
    · have HO : bOf ((s.data.toList.take i).map fun b => ltr b.toNat) = txT s most := by
        unfold txT
        rcases Nat.lt_or_ge i s.size with h | h
        · rw [show i = most by omega]
        · have hl : s.data.toList.length = s.size := Array.length_toList
          rw [List.take_of_length_le (by omega), List.take_of_length_le (by omega)]
      rw [HO]
      clear HO
      by_cases h1 : i < s.size
      · have h2 : ¬ (i : Int) < (most : Int) := by omega
        have h1' : (i : Int) < (s.size : Int) := by omega
        clear hlt
        go_wp2_with fail
        go_ret
        exact ⟨rfl, hk⟩
      · have h1' : ¬ (i : Int) < (s.size : Int) := by omega
        clear hlt
        go_wp2_with fail
        go_ret
        exact ⟨rfl, hk⟩
end Go.Proofs.YtnfojonmohijpaaGreatDoor
namespace Go.Proofs.YtnfojonmohijpaaGreatDoor
theorem ans_of {p : List UInt8} {x : Nat → Pat} {n a b : Nat} (h : Mw p x n a b) (ha : a ≤ 6) (hn : n ≤ 9) (hp : p.head? ≠ some 94) (hl : p.length ≤ 60) {s : ByteArray} (hs : s.size ≤ 100) (hb : b * (s.size + 1) ≤ 20000)
    {t : List UInt8} {bb : Bool} {nn : Int} (hM : MatchA (bOf p) s t bb nn) :
    nn = 0 ∧ ((bb = true ∧ Mt s (x 0) 0 s.size ∧ ∃ ev, TR s (.node (x 0)) 0 s.size t ev) ∨ (bb = false ∧ t = [] ∧ ¬ Mt s (x 0) 0 s.size)) := by
  have hw := h.ws.whole ha hn hp (bOf p) (by simp [bOf])
  rcases hM with ⟨h1, _⟩ | ⟨_, q, hq, h2⟩
  · rw [bOf_size] at h1; omega
  · cases hq.det hw
    rcases h2 with ⟨h3, _⟩ | ⟨_, ⟨h3, rfl, rfl, rfl⟩ | ⟨h3, u, ev, hu, h4⟩⟩
    · omega
    · exact ⟨rfl, Or.inr ⟨rfl, rfl, h3⟩⟩
    · have hlen := hu.len h3
      have hA : (x 0).A * (s.size + 1) ≤ b * (s.size + 1) := Nat.mul_le_mul_right _ (h.len 0)
      simp only [Job.bnd, Nat.sub_zero] at hlen
      rcases h4 with ⟨_, rfl, rfl, rfl⟩ | ⟨h5, _⟩
      · exact ⟨rfl, Or.inl ⟨rfl, h3, ev, hu⟩⟩
      · omega
structure Seg (s s' : ByteArray) (d : Nat) : Prop where
  len : d + s'.size ≤ s.size
  get : ∀ k, k < s'.size → at' s' k = at' s (d + k)
theorem It.shift {R R' : Nat → Nat → Prop} {d L : Nat} (le : ∀ i j, R i j → i ≤ j) (le' : ∀ i j, R' i j → i ≤ j) (h : ∀ i j, j ≤ L → (R' i j ↔ R (d + i) (d + j))) : ∀ n i j, j ≤ L → (It R' n i j ↔ It R n (d + i) (d + j))
  | 0, i, j, _ => by
    constructor
    · intro e; show d + i = d + j; have : i = j := e; omega
    · intro e; show i = j; have : d + i = d + j := e; omega
  | n + 1, i, j, hj => by
    constructor
    · rintro ⟨m, a, b⟩
      have hm := It.mono le' b
      exact ⟨d + m, (h i m (by omega)).1 a, (It.shift le le' h n m j hj).1 b⟩
    · rintro ⟨m, a, b⟩
      have hm := It.mono le b
      have hi := le _ _ a
      obtain ⟨m', rfl⟩ : ∃ m', m = d + m' := ⟨m - d, by omega⟩
      exact ⟨m', (h i m' (by omega)).2 a, (It.shift le le' h n m' j hj).2 b⟩
theorem Seg.mt {s s' : ByteArray} {d : Nat} (h : Seg s s' d) : ∀ (x : Pat) (i j : Nat), j ≤ s'.size → (Mt s' x i j ↔ Mt s x (d + i) (d + j))
  | .set f, i, j, hj => by
    have hl := h.len
    constructor
    · rintro ⟨a, b, rfl⟩
      exact ⟨by omega, by rw [← h.get i a]; exact b, rfl⟩
    · rintro ⟨a, b, c⟩
      have hi : i < s'.size := by omega
      exact ⟨hi, by rw [h.get i hi]; exact b, by omega⟩
  | .grp _ x, i, j, hj => h.mt x i j hj
  | .rep mn mx x, i, j, hj => by
    have := It.shift (R := Mt s x) (R' := Mt s' x) (d := d) (L := s'.size) (fun _ _ a => a.le) (fun _ _ a => a.le) (fun i j hj => h.mt x i j hj)
    constructor
    · rintro ⟨n, a, b, c⟩; exact ⟨n, a, b, (this n i j hj).1 c⟩
    · rintro ⟨n, a, b, c⟩; exact ⟨n, a, b, (this n i j hj).2 c⟩
  | .pnil, i, j, hj => by
    constructor
    · intro e; show d + i = d + j; have : i = j := e; omega
    · intro e; show i = j; have : d + i = d + j := e; omega
  | .pcons x r, i, j, hj => by
    constructor
    · rintro ⟨m, a, b⟩
      have hm := b.le
      exact ⟨d + m, (h.mt x i m (by omega)).1 a, (h.mt r m j hj).1 b⟩
    · rintro ⟨m, a, b⟩
      have hm := b.le
      have hi := a.le
      obtain ⟨m', rfl⟩ : ∃ m', m = d + m' := ⟨m - d, by omega⟩
      exact ⟨m', (h.mt x i m' (by omega)).2 a, (h.mt r m' j hj).2 b⟩
  | .wone x, i, j, hj => h.mt x i j hj
  | .wcons x r, i, j, hj => or_congr (h.mt x i j hj) (h.mt r i j hj)
theorem Cut.ext {P Q : Nat → Prop} {i j c : Nat} (h : ∀ m, m ≤ j → (P m ↔ Q m)) (k : Cut P i j c) : Cut Q i j c :=
  ⟨k.1, k.2.1, fun e => (h c k.2.1).1 (k.2.2.1 e), fun m a b e => k.2.2.2 m a b ((h m b).2 e)⟩
end Go.Proofs.YtnfojonmohijpaaGreatDoor
namespace Go.Proofs.YtnfojonmohijpaaGreatDoor
end Go.Proofs.YtnfojonmohijpaaGreatDoor
namespace Go.Proofs.YtnfojonmohijpaaGreatDoor
theorem bool_of {a : Bool} {P : Prop} {Q R : Prop} (h : (a = true ∧ P ∧ Q) ∨ (a = false ∧ R ∧ ¬ P)) : a = true ↔ P := by
  rcases h with ⟨rfl, hp, _⟩ | ⟨rfl, _, hp⟩
  · exact ⟨fun _ => hp, fun _ => rfl⟩
  · exact ⟨(nomatch ·), fun h => absurd h hp⟩
theorem MatchA.len {p s : ByteArray} {t : List UInt8} {b : Bool} {n : Int} (h : MatchA p s t b n) : t.length ≤ 20000 := by
  rcases h with ⟨_, rfl, _⟩ | ⟨_, q, _, h⟩
  · simp
  · cases q with
    | bad j => obtain ⟨rfl, _⟩ := h; simp
    | ok W j =>
      rcases h with ⟨_, rfl, _⟩ | ⟨_, ⟨_, rfl, _⟩ | ⟨_, u, ev, _, ⟨h, rfl, _⟩ | ⟨_, rfl, _⟩⟩⟩
      · simp
      · simp
      · exact h
      · simp
theorem MatchA.size {p s : ByteArray} {t : List UInt8} {b : Bool} {n : Int} (h : MatchA p s t b n) : ((nmB t).size : Int) ≤ 20000 := by
  have := h.len
  have e : (nmB t).size = t.length := bOf_size t
  omega
end Go.Proofs.YtnfojonmohijpaaGreatDoor
namespace Go.Proofs.YtnfojonmohijpaaGreatDoor
open Go.RowKit
theorem at_ext (t : ByteArray) (a b k : Nat) (h : k < (t.extract a b).size) : at' (t.extract a b) k = at' t (a + k) := by
  have hs : (t.extract a b).size = min b t.size - a := ByteArray.size_extract
  rw [at'_lt h, at'_lt (by omega : a + k < t.size), ByteArray.getElem_extract]
end Go.Proofs.YtnfojonmohijpaaGreatDoor
namespace Go.Proofs.YtnfojonmohijpaaGreatDoor
def Made3 (p : List UInt8) : Prop := ∃ f n a, Md p f n a 1855 ∧ n ≤ 7 ∧ a ≤ 3
theorem made3_md (c : Nat → Nat) (i : Nat) : Made3 (mdT c 3 i) := by
  obtain ⟨f, n, a, h, hn, ha⟩ := md_all c 3 i
  exact ⟨f, n, a, h, by have : n + 1 ≤ 8 := hn; omega, ha⟩
theorem made3_sg (k : Nat) : Made3 (sgT k) := ⟨_, 0, 0, (Md.single k).more (by decide), by decide, by decide⟩
structure FdL (p : List UInt8) (t : ByteArray) (k : Nat) (ans : Option (List Int)) (M : Nat → Nat → Prop) : Prop where
  mt : ∀ i j s1, i ≤ j → j ≤ t.size → Seg t s1 i → s1.size = j - i → ∀ u b e, MatchA (bOf p) s1 u b e → e = 0 ∧ (b = true ↔ M i j)
  no : ans = none → ∀ i j, k ≤ i → i ≤ j → j ≤ t.size → ¬ M i j
  yes : ∀ l, ans = some l → ∃ (i j : Nat) (r : List Int), l = (i : Int) :: (j : Int) :: r ∧ r.length ≤ 20 ∧ k ≤ i ∧ i ≤ j ∧ j ≤ t.size ∧ M i j ∧ (∀ i' j', k ≤ i' → i' < i → i' ≤ j' → j' ≤ t.size → ¬ M i' j') ∧ ∀ j', j < j' → j' ≤ t.size → ¬ M i j'
theorem seg_mid (t : ByteArray) {i j : Nat} (hi : i ≤ j) (hj : j ≤ t.size) : Seg t (t.extract i j) i ∧ (t.extract i j).size = j - i := by
  have hs : (t.extract i j).size = min j t.size - i := ByteArray.size_extract
  exact ⟨⟨by omega, fun k hk => at_ext t i j k hk⟩, by omega⟩
theorem okAt_free {s : ByteArray} {x : Pat} {g i j : Nat} : OkAt s ⟨false, false, x, g⟩ i j ↔ Mt s x i j := ⟨fun h => h.1, fun h => ⟨h, fun e => Bool.noConfusion e, fun e => Bool.noConfusion e⟩⟩
theorem found_math {p : List UInt8} (hp : Made3 p) (lp : p.length ≤ 58) {t : ByteArray} (ht : t.size ≤ 9) {k : Nat} (hk : k ≤ t.size) {ans : Option (List Int)} {n : Int} (h : SearchA (bOf p) t k ans n) : n = 0 ∧ ∃ M, FdL p t k ans M := by
  obtain ⟨f, g, da, P, hg, hda⟩ := hp
  have hw := P.one.ws.whole (by omega) (by omega) P.hd (bOf p) (by simp [bOf])
  have hs : ∀ i j s1, i ≤ j → j ≤ t.size → Seg t s1 i → s1.size = j - i → ∀ u b e, MatchA (bOf p) s1 u b e → e = 0 ∧ (b = true ↔ Mt t (.wone (pre (f 0) .pnil)) i j) := by
    intro i j s1 hi hj hsg hz u b e hM
    have hb : (1855 + 7) * (s1.size + 1) ≤ 20000 := Nat.le_trans (Nat.mul_le_mul_left _ (by omega : s1.size + 1 ≤ 10)) (by decide)
    obtain ⟨z, r⟩ := ans_of P.one (by omega) (by omega) P.hd (by omega) (by omega : s1.size ≤ 100) hb hM
    refine ⟨z, (bool_of r).trans ?_⟩
    have := hsg.mt (.wone (pre (f 0) .pnil)) 0 s1.size (Nat.le_refl _)
    rw [Nat.add_zero, show i + s1.size = j by omega] at this
    exact this
  rcases h with ⟨h1, _⟩ | ⟨_, q, hq, h2⟩
  · rw [bOf_size] at h1; omega
  · cases hq.det hw
    rcases h2 with ⟨h3, _⟩ | ⟨_, ⟨h3, _⟩ | ⟨_, _, h3, rfl⟩⟩
    · omega
    · omega
    · refine ⟨rfl, fun i j => Mt t (.wone (pre (f 0) .pnil)) i j, hs, ?_, ?_⟩
      · intro hn i j h4 h5 h6 h7
        rw [Int.toNat_natCast] at h3
        rcases h3 with ⟨_, h3⟩ | ⟨i', j', _, _, _, _, h3⟩
        · exact h3 i j h4 h5 h6 (okAt_free.2 h7)
        · rw [hn] at h3; cases h3
      · intro l hl
        rw [Int.toNat_natCast] at h3
        rcases h3 with ⟨h3, _⟩ | ⟨i, j, _, ev, hF, _, h3⟩
        · rw [hl] at h3; cases h3
        · rw [hl] at h3
          obtain ⟨a1, a2, a3, a4, a5, a6⟩ := hF
          refine ⟨i, j, _, Option.some.inj h3, ?_, a1, a2, a3, okAt_free.1 a4, fun i' j' b1 b2 b3 b4 b5 => a5 i' j' b1 b2 b3 b4 (okAt_free.2 b5), fun j' b1 b2 b3 => a6 j' b1 b2 (okAt_free.2 b3)⟩
          show (evs _ ev).length ≤ 20
          rw [evs_len, List.length_replicate]
          simp only
          omega
end Go.Proofs.YtnfojonmohijpaaGreatDoor
namespace Go.Proofs.YtnfojonmohijpaaGreatDoor
open Go.RowKit
theorem row_open {w : World} {lo : Nat} {v : Value} {l : List Int} (h : IW w lo v (some l)) (hl : 0 < l.length) : ∃ g cap, v = .slice (some ⟨g, 0, none⟩) l.length cap ∧ ∀ i x, l[i]? = some x → w.cell? ⟨g, i, none⟩ = some (.int .i64 x) := by
  have hrow : w.ownsRow lo 3 1 v l.length (spW l) := h
  obtain ⟨g, cap, rfl, _, _⟩ := World.ownsRow.form hrow hl
  refine ⟨g, cap, rfl, fun i x hx => ?_⟩
  have hi := (List.getElem?_eq_some_iff.1 hx).1
  rw [World.ownsRow.cellAt hrow i (by omega)]
  simp [spW, hx]
theorem row_two {w : World} {lo : Nat} {v : Value} {a b : Int} {l : List Int} (h : IW w lo v (some (a :: b :: l))) : ∃ g cap, v = .slice (some ⟨g, 0, none⟩) (l.length + 2) cap ∧ w.cell? ⟨g, 0, none⟩ = some (.int .i64 a) ∧ w.cell? ⟨g, 1, none⟩ = some (.int .i64 b) := by
  obtain ⟨g, cap, rfl, hc⟩ := row_open h (by simp)
  exact ⟨g, cap, rfl, hc 0 a rfl, hc 1 b rfl⟩
end Go.Proofs.YtnfojonmohijpaaGreatDoor
namespace Go.Proofs.YtnfojonmohijpaaGreatDoor
open Go.RowKit
set_option maxRecDepth 100000 in
set_option maxHeartbeats 40000000 in
theorem found_any_1 (v1 : Value) (z1 : List Int) (s : ByteArray) (c : Int) (hc : inI c) (w : World) (hr1 : RawIs w v1 z1) (hgn : GN w) (harm : (mdT (cv z1) 3 0).length ≤ 58) :
    Calls Tryz.prog 13 #[v1, .string s, .int .i64 c] w fun e w' => e = .returned (.bool true) ∧ Keeps [] w w' := by
  have HA : Hid (∀ w, GN w → Calls Tryz.prog 30 #[] w fun e w' => e = .returned (.bool true) ∧ Keeps [] w w') := awake_any
  go_enter Tryz.func13, Tryz.ntmps13
  go_wp2_with fail
  refine (HA.out w hgn).mono ?_
  rintro e w1 ⟨rfl, hk1⟩
  have hg1 := hgn.keep hk1 (by simp)
  have hr11 := hr1.keep hk1
  clear hr1 hgn HA
  go_wp2_with fail
  refine (made_any v1 z1 3 (by decide) 0 (by decide) w1 hr11).mono ?_
  rintro e w2 ⟨rfl, hk2⟩
  have hk := hk1.trans hk2
  have hg := hg1.keep hk2 (by simp)
  have hMp := made3_md (cv z1) 0
  have hLp := mdT_len (cv z1) 3 0
  generalize mdT (cv z1) 3 0 = p at hMp hLp harm ⊢
  clear hk1 hk2 hr11 hg1
  have hzp : (bOf p).size = p.length := bOf_size p
  have hp53 : p.length ≤ 109 := by omega
  clear hLp
  · have i1 : ((bOf p).size : Int) ≤ 58 := by omega
    have i3 : decide ((58 : Int) < ((bOf p).size : Int)) = false := by simp; omega
    go_wp2_with fail
    clear hp53 i3
    have hl5 := harm
    clear harm
    have hg3 := hg
    have hk03 := hk
    clear hg hk
    have q32 : ∀ (w : World) (a : Option Addr) (n c n' c' : Nat), (binOp .eql 32 (.slice a n c) (.slice none n' c')).run Tryz.prog w = .ok (.bool a.isNone) w := fun w a n c n' c' => Lib.run_eql_slice_nil w _ _ a n c n' c' Tryz.underlying32
    refine (ktext_any s 9 (by decide) w2).mono ?_
    rintro e w4 ⟨rfl, hk4⟩
    have hkB := hk03.trans hk4
    have hg4 := hg3.keep hk4 (by simp)
    have hts := txT_size s 9
    generalize txT s 9 = t at hts ⊢
    have hts' : (t.size : Int) ≤ 9 := by omega
    have HT : Hid (t.size ≤ 9) := hts
    clear hk4 hk03 hg3
    have KP := kpick_any c (t.size + 1) hc (by omega) (by omega) w4
    have HK : Hid (pk c (t.size + 1) ≤ t.size) := by show pk c (t.size + 1) ≤ t.size; have : pk c (t.size + 1) < t.size + 1 := Nat.mod_lt _ (by omega); omega
    rw [show ((t.size + 1 : Nat) : Int) = (t.size : Int) + 1 by omega] at KP
    generalize pk c (t.size + 1) = k at KP HK
    clear hts
    go_wp2_with fail
    refine KP.mono ?_
    rintro e w5 ⟨rfl, rfl⟩
    have hkt : (k : Int) ≤ (t.size : Int) := by have := HK.out; omega
    have hk0 : (0 : Int) ≤ (k : Int) := by omega
    clear KP
    go_wp2_with fail
    refine (ysearch_any (bOf p) t k w5 hg4).mono ?_
    rintro e w6 ⟨v, ans, n, rfl, hS, hI, hk5⟩
    obtain ⟨rfl, M, hF⟩ := found_math hMp hl5 HT.out HK.out hS
    have HF : Hid (FdL p t k ans M) := hF
    have hkC := hkB.trans hk5
    have hg5 := hg4.keep hk5 (by simp)
    clear hS hF hkB hg4 hk5
    cases ans with
    | none =>
      obtain rfl : v = .slice none 0 0 := hI
      go_wp2_with fail
      go_quiet (fail)
      go_upto_region 13 with (fail)
      go_loopw [13] (fun q wr => ∃ i : Nat, q = .int .i64 i ∧ k ≤ i ∧ i ≤ t.size + 1 ∧ Keeps [] w6 wr) (fun q _ => t.size + 1 - (intOf q).toNat)
      case atStart => exact ⟨k, rfl, Nat.le_refl _, Nat.le_succ_of_le HK.out, (Keeps.refl [] w6).drewN _⟩
      case round =>
        obtain ⟨i, rfl, hki, hi, hkL⟩ := hrel
        by_cases hlt : i ≤ t.size
        · have hi0 : (0 : Int) ≤ (i : Int) := by omega
          have hi1 : (i : Int) ≤ (t.size : Int) := by omega
          have HI : Hid (k ≤ i ∧ i ≤ t.size) := ⟨hki, hlt⟩
          clear hki hi hlt
          go_upto_region 16 with (fail)
          go_loopw [14] (fun q wr => ∃ j : Nat, q = .int .i64 ((j : Int) - 1) ∧ i ≤ j ∧ j ≤ t.size + 1 ∧ Keeps [] w6 wr) (fun q _ => (intOf q + 1).toNat)
          case atStart => exact ⟨t.size + 1, congrArg (Value.int .i64) (by omega), Nat.le_succ_of_le HI.out.2, Nat.le_refl _, hkL⟩
          case round =>
            obtain ⟨j, rfl, hij, hj, hkM⟩ := hrel
            rcases Nat.lt_or_ge i j with hlt | hge
            · obtain ⟨m, rfl⟩ : ∃ m, j = m + 1 := ⟨j - 1, by omega⟩
              rw [show ((m + 1 : Nat) : Int) - 1 = (m : Int) by omega]
              have hm0 : (0 : Int) ≤ (m : Int) := by omega
              have hm1 : (i : Int) ≤ (m : Int) := by omega
              have hm2 : (m : Int) ≤ (t.size : Int) := by omega
              have HM : Hid (i ≤ m ∧ m ≤ t.size) := ⟨by omega, by omega⟩
              have hgM := hg5.keep hkM (by simp)
              clear hij hj hlt
              go_wp2_with fail
              refine (ymatch_any _ (t.extract i m) _ hgM).mono ?_
              rintro e wa ⟨u, b, n1, rfl, ha, hka⟩
              have hkN := hkM.trans hka
              obtain ⟨rfl, hb⟩ := HF.out.mt i m _ HM.out.1 HM.out.2 (seg_mid t HM.out.1 HM.out.2).1 (seg_mid t HM.out.1 HM.out.2).2 _ _ _ ha
              have HB : Hid (b = true ↔ M i m) := hb
              clear ha hka hb hgM
              cases b with
              | true =>
                exact absurd (HB.out.1 rfl) (HF.out.no rfl i m HI.out.1 HM.out.1 HM.out.2)
              | false =>
                go_wp2_with fail
                exact ⟨⟨m, rfl, HM.out.1, Nat.le_succ_of_le HM.out.2, hkN⟩, by simp [intOf]⟩
            · obtain rfl : j = i := by omega
              have hjj : ¬ (j : Int) ≤ (j : Int) - 1 := by omega
              clear hij hj hge
              go_wp2_with fail
              exact ⟨⟨j + 1, by go_num, Nat.le_succ_of_le HI.out.1, Nat.succ_le_succ HI.out.2, hkM⟩, by have := HI.out; simp [intOf]; omega⟩
        · have hi1 : ¬ (i : Int) ≤ (t.size : Int) := by omega
          clear hki hi hlt
          have hkE := hkC.trans hkL
          go_wp2_with fail
          go_ret
          exact ⟨rfl, hkE⟩
    | some l =>
      obtain ⟨i0, j0, r, rfl, hrl, f1, f2, f3, f4, f5, f6⟩ := HF.out.yes l rfl
      obtain ⟨g, cap, rfl, c0, c1⟩ := row_two hI
      have F5 : Hid (∀ i' j', k ≤ i' → i' < i0 → i' ≤ j' → j' ≤ t.size → ¬ M i' j') := f5
      have F6 : Hid (∀ j', j0 < j' → j' ≤ t.size → ¬ M i0 j') := f6
      have F4 : Hid (M i0 j0) := f4
      have F3 : Hid (k ≤ i0 ∧ i0 ≤ j0 ∧ j0 ≤ t.size) := ⟨f1, f2, f3⟩
      obtain ⟨N, hN⟩ : ∃ N, N = r.length + 2 := ⟨_, rfl⟩
      rw [← hN]
      have g1 : decide ((N : Int) < 2) = false := by simp; omega
      have g2 : (0 : Int) < (N : Int) := by omega
      have g3 : (1 : Int) < (N : Int) := by omega
      have n4 : decide (i0 < k) = false := by simp; omega
      have n5 : decide (j0 < i0) = false := by simp; omega
      have n6 : decide (t.size < j0) = false := by simp; omega
      have gA : 0 < N := by omega
      have gB : 1 < N := by omega
      have g4 : decide ((i0 : Int) < (k : Int)) = false := by simp; omega
      have g5 : decide ((j0 : Int) < (i0 : Int)) = false := by simp; omega
      have g6 : decide ((t.size : Int) < (j0 : Int)) = false := by simp; omega
      clear hI hrl f1 f2 f3 f4 f5 f6 hN
      go_wp2_with fail
      go_quiet (fail)
      clear g1 g4 g5 g6 n4 n5 n6
      go_upto_region 13 with (fail)
      go_loopw [13] (fun q wr => ∃ i : Nat, q = .int .i64 i ∧ k ≤ i ∧ i ≤ t.size + 1 ∧ (∀ i' j', k ≤ i' → i' < i → i' ≤ j' → j' ≤ t.size → ¬ M i' j') ∧ Keeps [] w6 wr) (fun q _ => t.size + 1 - (intOf q).toNat)
      case atStart => exact ⟨k, rfl, Nat.le_refl _, Nat.le_succ_of_le HK.out, fun i' j' h1 h2 => absurd h2 (by omega), (Keeps.refl [] w6).drewN _⟩
      case round =>
        obtain ⟨i, rfl, hki, hi, hno, hkL⟩ := hrel
        by_cases hlt : i ≤ t.size
        · have hi0 : (0 : Int) ≤ (i : Int) := by omega
          have hi1 : (i : Int) ≤ (t.size : Int) := by omega
          have HI : Hid (k ≤ i ∧ i ≤ t.size) := ⟨hki, hlt⟩
          have HNO : Hid (∀ i' j', k ≤ i' → i' < i → i' ≤ j' → j' ≤ t.size → ¬ M i' j') := hno
          clear hki hi hlt hno
          go_upto_region 16 with (fail)
          go_loopw [14] (fun q wr => ∃ j : Nat, q = .int .i64 ((j : Int) - 1) ∧ i ≤ j ∧ j ≤ t.size + 1 ∧ (∀ j', j ≤ j' → j' ≤ t.size → ¬ M i j') ∧ Keeps [] w6 wr) (fun q _ => (intOf q + 1).toNat)
          case atStart => exact ⟨t.size + 1, congrArg (Value.int .i64) (by omega), Nat.le_succ_of_le HI.out.2, Nat.le_refl _, fun j' h1 h2 => absurd h1 (by omega), hkL⟩
          case round =>
            obtain ⟨j, rfl, hij, hj, hnj, hkM⟩ := hrel
            have HNJ : Hid (∀ j', j ≤ j' → j' ≤ t.size → ¬ M i j') := hnj
            clear hnj
            rcases Nat.lt_or_ge i j with hlt | hge
            · obtain ⟨m, rfl⟩ : ∃ m, j = m + 1 := ⟨j - 1, by omega⟩
              rw [show ((m + 1 : Nat) : Int) - 1 = (m : Int) by omega]
              have hm0 : (0 : Int) ≤ (m : Int) := by omega
              have hm1 : (i : Int) ≤ (m : Int) := by omega
              have hm2 : (m : Int) ≤ (t.size : Int) := by omega
              have HM : Hid (i ≤ m ∧ m ≤ t.size) := ⟨by omega, by omega⟩
              have hgM := hg5.keep hkM (by simp)
              clear hij hj hlt
              go_wp2_with fail
              refine (ymatch_any _ (t.extract i m) _ hgM).mono ?_
              rintro e wa ⟨u, b, n1, rfl, ha, hka⟩
              have hkN := hkM.trans hka
              obtain ⟨rfl, hb⟩ := HF.out.mt i m _ HM.out.1 HM.out.2 (seg_mid t HM.out.1 HM.out.2).1 (seg_mid t HM.out.1 HM.out.2).2 _ _ _ ha
              have HB : Hid (b = true ↔ M i m) := hb
              clear ha hka hb hgM
              cases b with
              | true =>
                have hm := HB.out.1 rfl
                obtain ⟨q1, q2, q3⟩ := F3.out
                obtain ⟨q4, q5⟩ := HI.out
                obtain ⟨q6, q7⟩ := HM.out
                have e1 : i0 = i := by
                  rcases Nat.lt_trichotomy i0 i with h | h | h
                  · exact absurd F4.out (HNO.out i0 j0 q1 h q2 q3)
                  · exact h
                  · exact absurd hm (F5.out i m q4 h q6 q7)
                have e2 : j0 = m := by
                  rcases Nat.lt_trichotomy j0 m with h | h | h
                  · exact absurd hm (e1 ▸ F6.out m h q7)
                  · exact h
                  · exact absurd (e1 ▸ F4.out) (HNJ.out j0 (by omega) q3)
                have d0 := keep_cell hkN c0
                have d1 := keep_cell hkN c1
                rw [e1] at d0
                rw [e2] at d1
                have hkE := hkC.trans hkN
                clear hm q1 q2 q3 q4 q5 q6 q7 e1 e2 c0 c1
                go_wp2_with fail
                go_ret
                exact ⟨rfl, hkE⟩
              | false =>
                go_wp2_with fail
                exact ⟨⟨m, rfl, HM.out.1, Nat.le_succ_of_le HM.out.2, fun j' h1 h2 h3 => by
                  rcases Nat.lt_or_ge m j' with h | h
                  · exact HNJ.out j' h h2 h3
                  · obtain rfl : j' = m := by omega
                    exact Bool.noConfusion (HB.out.2 h3), hkN⟩, by simp [intOf]⟩
            · obtain rfl : j = i := by omega
              have hjj : ¬ (j : Int) ≤ (j : Int) - 1 := by omega
              clear hij hj hge
              go_wp2_with fail
              exact ⟨⟨j + 1, by go_num, Nat.le_succ_of_le HI.out.1, Nat.succ_le_succ HI.out.2, fun i' j' h1 h2 h3 h4 => by
                rcases Nat.lt_or_ge i' j with h | h
                · exact HNO.out i' j' h1 h h3 h4
                · obtain rfl : i' = j := by omega
                  exact HNJ.out j' h3 h4, hkM⟩, by have := HI.out; simp [intOf]; omega⟩
        · have hi1 : ¬ (i : Int) ≤ (t.size : Int) := by omega
          obtain ⟨q1, q2, q3⟩ := F3.out
          exact absurd F4.out (hno i0 j0 q1 (by omega) q2 q3)
end Go.Proofs.YtnfojonmohijpaaGreatDoor
