/-
  DERIVED. The contract of yarrowkeep's made: the pattern's text is the one that the raw numbers speak of.
-/
import Derived.Test.YtnfojonmohijpaaGreatDoorJYC
import Derived.Test.YtnfojonmohijpaaGreatDoorJOF
import Derived.Test.YtnfojonmohijpaaGreatDoorJOI0
import Derived.Test.YtnfojonmohijpaaGreatDoorJOK
import Derived.BigQuiet
import Derived.Lib.SliceRun
import Derived.Deep.QuietTactic
set_option linter.unusedSimpArgs false
set_option linter.unusedVariables false
namespace Go.Proofs.YtnfojonmohijpaaGreatDoor
open Go.RowKit
theorem bOf_app (a b : List UInt8) : bOf (a ++ b) = bOf a ++ bOf b := by
  apply ByteArray.ext
  simp [bOf]
theorem sgT_len (k : Nat) : (sgT k).length ≤ 11 := by
  match k with
  | 0 => decide
  | 1 => decide
  | 2 => decide
  | 3 => decide
  | 4 => decide
  | 5 => decide
  | 6 => decide
  | 7 => decide
  | _ + 8 => exact (by decide : ([92, 46] : List UInt8).length ≤ 11)
theorem rpT_len (k : Nat) : (rpT k).length ≤ 1 := by
  match k with
  | 0 => decide
  | 1 => decide
  | _ + 2 => exact (by decide : ([43] : List UInt8).length ≤ 1)
theorem lwT_len (k : Nat) : (lwT k).length ≤ 1 := by
  match k with
  | 0 => decide
  | 1 => decide
  | _ + 2 => exact (by decide : ([50] : List UInt8).length ≤ 1)
theorem hiT_len (k : Nat) : (hiT k).length ≤ 1 := by
  match k with
  | 0 => decide
  | 1 => decide
  | _ + 2 => exact (by decide : ([] : List UInt8).length ≤ 1)
theorem mdT_len (c : Nat → Nat) : ∀ deep i, (mdT c deep i).length + 3 ≤ 14 * 2 ^ deep
  | 0, i => by have := sgT_len (c i / 7 % 9); simp only [mdT]; omega
  | deep + 1, i => by
    have h1 := mdT_len c deep (i + 1)
    have h2 := mdT_len c deep (i + 2)
    have h3 := sgT_len (c i / 7 % 9)
    have h4 := rpT_len (c i / 7 % 3)
    have h5 := lwT_len (c i / 7 % 3)
    have h6 := hiT_len (c i / 21 % 3)
    have hp : 2 ^ (deep + 1) = 2 * 2 ^ deep := by rw [Nat.pow_succ]; omega
    have hp1 : 1 ≤ 2 ^ deep := Nat.one_le_pow _ _ (by omega)
    unfold mdT
    split <;> (try simp only [List.length_append, List.length_cons, List.length_nil]) <;> omega
theorem bOf_size (l : List UInt8) : (bOf l).size = l.length := by simp [bOf, ByteArray.size]
theorem mdT_zero (c : Nat → Nat) (deep i : Nat) (h : deep = 0 ∨ c i % 7 = 0) : mdT c deep i = sgT (c i / 7 % 9) := by
  cases deep with
  | zero => rfl
  | succ d =>
    rcases h with h | h
    · cases h
    · unfold mdT; rw [h]; rfl
theorem cv_lt (zs : List Int) (i : Nat) : cv zs i < 1099511627776 := by
  unfold cv
  cases zs[i]? with
  | none => decide
  | some z => exact Nat.mod_lt _ (by decide)
def mdX (k c : Nat) (x y : ByteArray) : ByteArray :=
  match k with
  | 1 => bOf [40] ++ x ++ bOf [41]
  | 2 => x ++ y
  | 3 => bOf [40] ++ x ++ bOf [124] ++ y ++ bOf [41]
  | 4 => bOf [40] ++ x ++ bOf [41, 42]
  | 5 => bOf [40] ++ x ++ bOf [124, 41] ++ bOf (rpT (c / 7 % 3))
  | _ => bOf [40] ++ x ++ bOf [41, 123] ++ bOf (lwT (c / 7 % 3)) ++ bOf [44] ++ bOf (hiT (c / 21 % 3)) ++ bOf [125]
theorem mdT_succ (c : Nat → Nat) (deep i : Nat) (h : c i % 7 ≠ 0) : bOf (mdT c (deep + 1) i) = mdX (c i % 7) (c i) (bOf (mdT c deep (i + 1))) (bOf (mdT c deep (i + 2))) := by
  rw [mdT]
  generalize c i % 7 = k at h ⊢
  match k, h with
  | 0, h => exact absurd rfl h
  | 1, _ => simp only [mdX, bOf_app]
  | 2, _ => simp only [mdX, bOf_app]
  | 3, _ => simp only [mdX, bOf_app]
  | 4, _ => simp only [mdX, bOf_app]
  | 5, _ => simp only [mdX, bOf_app]
  | _ + 6, _ => simp only [mdX, bOf_app]
set_option maxRecDepth 100000 in
set_option maxHeartbeats 8000000 in
theorem made_any (v : Value) (zs : List Int) : ∀ (deep : Nat), deep ≤ 3 → ∀ (i : Nat), i + 2 * deep ≤ 900 → ∀ (w : World), RawIs w v zs →
    Calls Tryz.prog 31 #[v, .int .i64 i, .int .i64 deep] w fun e w' => e = .returned (.string (bOf (mdT (cv zs) deep i))) ∧ Keeps [] w w' := by
  intro deep
  induction deep with
  | zero =>
    intro _ i hi w hr
    have h1 := kat_any v zs i (by omega) w hr
    have hb := cv_lt zs i
    rw [mdT_zero _ _ _ (Or.inl rfl)]
    generalize cv zs i = C at h1 hb ⊢
    have hS := ksingle_any (C / 7) (by omega) w
    have hb' : (C : Int) < 1099511627776 := by omega
    have hb0 : (0 : Int) ≤ (C : Int) := by omega
    go_enter Tryz.func31, Tryz.ntmps31
    go_wp2_with fail
    refine h1.mono ?_
    rintro e w1 ⟨rfl, rfl⟩
    clear h1 hr
    go_wp2_with fail
    refine hS.mono ?_
    rintro e w2 ⟨rfl, hk⟩
    clear hS
    go_wp2_with fail
    go_ret
    exact ⟨rfl, hk⟩
  | succ deep ih =>
    intro hdp i hi w hr
    obtain ⟨D, hDe⟩ : ∃ D : Int, ((deep + 1 : Nat) : Int) = D := ⟨_, rfl⟩
    rw [hDe]
    have hD1 : D - 1 = (deep : Int) := by omega
    have hD3 : D ≤ 3 := by omega
    have hD0 : 1 ≤ D := by omega
    have hDz : ¬ D = 0 := by omega
    have hDd : (D == 0) = false := by simp [hDz]
    clear hDe
    have hd0 : (0 : Int) ≤ (deep : Int) := by omega
    have hi0 : (0 : Int) ≤ (i : Int) := by omega
    have h1 := kat_any v zs i (by omega) w hr
    have hb := cv_lt zs i
    have hx := ih (by omega) (i + 1) (by omega)
    have hy := ih (by omega) (i + 2) (by omega)
    have hlx := mdT_len (cv zs) deep (i + 1)
    have hly := mdT_len (cv zs) deep (i + 2)
    have hp3 : 2 ^ deep ≤ 8 := Nat.pow_le_pow_right (by decide) (by omega : deep ≤ 3)
    have hdn : (deep : Int) ≤ 2 := by omega
    have hin : (i : Int) ≤ 900 := by omega
    by_cases h0 : cv zs i % 7 = 0
    · rw [mdT_zero _ _ _ (Or.inr h0)]
      generalize cv zs i = C at h1 hb h0 ⊢
      have hS := ksingle_any (C / 7) (by omega) w
      have hb' : (C : Int) < 1099511627776 := by omega
      have hb0 : (0 : Int) ≤ (C : Int) := by omega
      have h0' : (C : Int) % 7 = 0 := by omega
      clear ih hx hy hlx hly h0
      go_enter Tryz.func31, Tryz.ntmps31
      go_wp2_with fail
      refine h1.mono ?_
      rintro e w1 ⟨rfl, rfl⟩
      clear h1 hr
      go_wp2_with fail
      refine hS.mono ?_
      rintro e w2 ⟨rfl, hk⟩
      clear hS
      go_wp2_with fail
      go_ret
      exact ⟨rfl, hk⟩
    · rw [mdT_succ _ _ _ h0]
      generalize cv zs i = C at h1 hb h0 ⊢
      rw [← bOf_size] at hlx hly
      generalize bOf (mdT (cv zs) deep (i + 1)) = x at hx hlx ⊢
      generalize bOf (mdT (cv zs) deep (i + 2)) = y at hy hly ⊢
      have hb' : (C : Int) < 1099511627776 := by omega
      have hb0 : (0 : Int) ≤ (C : Int) := by omega
      have hx1 : (x.size : Int) ≤ 200 := by omega
      have hy1 : (y.size : Int) ≤ 200 := by omega
      have HX : Hid (∀ w, RawIs w v zs → Calls Tryz.prog 31 #[v, .int .i64 ((i + 1 : Nat) : Int), .int .i64 (deep : Int)] w fun e w' => e = .returned (.string x) ∧ Keeps [] w w') := hx
      have HY : Hid (∀ w, RawIs w v zs → Calls Tryz.prog 31 #[v, .int .i64 ((i + 2 : Nat) : Int), .int .i64 (deep : Int)] w fun e w' => e = .returned (.string y) ∧ Keeps [] w w') := hy
      have hd7 : C % 7 = 1 ∨ C % 7 = 2 ∨ C % 7 = 3 ∨ C % 7 = 4 ∨ C % 7 = 5 ∨ C % 7 = 6 := by omega
      clear ih hlx hly hx hy h0
      rcases hd7 with h7 | h7 | h7 | h7 | h7 | h7
      · rw [h7]
        have h7' : (C : Int) % 7 = 1 := by omega
        clear h7
        go_enter Tryz.func31, Tryz.ntmps31
        go_wp2_with fail
        refine h1.mono ?_
        rintro e w1 ⟨rfl, rfl⟩
        clear h1
        go_wp2_with fail
        refine (HX.out w1 hr).mono ?_
        rintro e w2 ⟨rfl, hk2⟩
        have hr2 := hr.keep hk2
        clear hr HX
        go_wp2_with fail
        refine (HY.out w2 hr2).mono ?_
        rintro e w3 ⟨rfl, hk3⟩
        have hk := hk2.trans hk3
        clear hr2 HY hk2 hk3
        go_wp2_with fail
        go_ret
        exact ⟨rfl, hk⟩
      · rw [h7]
        have h7' : (C : Int) % 7 = 2 := by omega
        clear h7
        go_enter Tryz.func31, Tryz.ntmps31
        go_wp2_with fail
        refine h1.mono ?_
        rintro e w1 ⟨rfl, rfl⟩
        clear h1
        go_wp2_with fail
        refine (HX.out w1 hr).mono ?_
        rintro e w2 ⟨rfl, hk2⟩
        have hr2 := hr.keep hk2
        clear hr HX
        go_wp2_with fail
        refine (HY.out w2 hr2).mono ?_
        rintro e w3 ⟨rfl, hk3⟩
        have hk := hk2.trans hk3
        clear hr2 HY hk2 hk3
        go_wp2_with fail
        go_ret
        exact ⟨rfl, hk⟩
      · rw [h7]
        have h7' : (C : Int) % 7 = 3 := by omega
        clear h7
        go_enter Tryz.func31, Tryz.ntmps31
        go_wp2_with fail
        refine h1.mono ?_
        rintro e w1 ⟨rfl, rfl⟩
        clear h1
        go_wp2_with fail
        refine (HX.out w1 hr).mono ?_
        rintro e w2 ⟨rfl, hk2⟩
        have hr2 := hr.keep hk2
        clear hr HX
        go_wp2_with fail
        refine (HY.out w2 hr2).mono ?_
        rintro e w3 ⟨rfl, hk3⟩
        have hk := hk2.trans hk3
        clear hr2 HY hk2 hk3
        go_wp2_with fail
        go_ret
        exact ⟨rfl, hk⟩
      · rw [h7]
        have h7' : (C : Int) % 7 = 4 := by omega
        clear h7
        go_enter Tryz.func31, Tryz.ntmps31
        go_wp2_with fail
        refine h1.mono ?_
        rintro e w1 ⟨rfl, rfl⟩
        clear h1
        go_wp2_with fail
        refine (HX.out w1 hr).mono ?_
        rintro e w2 ⟨rfl, hk2⟩
        have hr2 := hr.keep hk2
        clear hr HX
        go_wp2_with fail
        refine (HY.out w2 hr2).mono ?_
        rintro e w3 ⟨rfl, hk3⟩
        have hk := hk2.trans hk3
        clear hr2 HY hk2 hk3
        go_wp2_with fail
        go_ret
        exact ⟨rfl, hk⟩
      · rw [h7]
        have h7' : (C : Int) % 7 = 5 := by omega
        have hq : C / 7 % 3 = 0 ∨ C / 7 % 3 = 1 ∨ C / 7 % 3 = 2 := by omega
        unfold mdX
        rcases hq with hq | hq | hq
        · rw [hq]
          have hq' : (C : Int) / 7 % 3 = 0 := by omega
          clear hq
          clear h7
          go_enter Tryz.func31, Tryz.ntmps31
          go_wp2_with fail
          refine h1.mono ?_
          rintro e w1 ⟨rfl, rfl⟩
          clear h1
          go_wp2_with fail
          refine (HX.out w1 hr).mono ?_
          rintro e w2 ⟨rfl, hk2⟩
          have hr2 := hr.keep hk2
          clear hr HX
          go_wp2_with fail
          refine (HY.out w2 hr2).mono ?_
          rintro e w3 ⟨rfl, hk3⟩
          have hk := hk2.trans hk3
          clear hr2 HY hk2 hk3
          go_wp2_with fail
          go_ret
          exact ⟨rfl, hk.alloc _⟩
        · rw [hq]
          have hq' : (C : Int) / 7 % 3 = 1 := by omega
          clear hq
          clear h7
          go_enter Tryz.func31, Tryz.ntmps31
          go_wp2_with fail
          refine h1.mono ?_
          rintro e w1 ⟨rfl, rfl⟩
          clear h1
          go_wp2_with fail
          refine (HX.out w1 hr).mono ?_
          rintro e w2 ⟨rfl, hk2⟩
          have hr2 := hr.keep hk2
          clear hr HX
          go_wp2_with fail
          refine (HY.out w2 hr2).mono ?_
          rintro e w3 ⟨rfl, hk3⟩
          have hk := hk2.trans hk3
          clear hr2 HY hk2 hk3
          go_wp2_with fail
          go_ret
          exact ⟨rfl, hk.alloc _⟩
        · rw [hq]
          have hq' : (C : Int) / 7 % 3 = 2 := by omega
          clear hq
          clear h7
          go_enter Tryz.func31, Tryz.ntmps31
          go_wp2_with fail
          refine h1.mono ?_
          rintro e w1 ⟨rfl, rfl⟩
          clear h1
          go_wp2_with fail
          refine (HX.out w1 hr).mono ?_
          rintro e w2 ⟨rfl, hk2⟩
          have hr2 := hr.keep hk2
          clear hr HX
          go_wp2_with fail
          refine (HY.out w2 hr2).mono ?_
          rintro e w3 ⟨rfl, hk3⟩
          have hk := hk2.trans hk3
          clear hr2 HY hk2 hk3
          go_wp2_with fail
          go_ret
          exact ⟨rfl, hk.alloc _⟩
      · rw [h7]
        have h7' : (C : Int) % 7 = 6 := by omega
        clear h7
        have hq : C / 7 % 3 = 0 ∨ C / 7 % 3 = 1 ∨ C / 7 % 3 = 2 := by omega
        have hp : C / 21 % 3 = 0 ∨ C / 21 % 3 = 1 ∨ C / 21 % 3 = 2 := by omega
        have HC : Hid (C < 1099511627776) := hb
        unfold mdX
        go_enter Tryz.func31, Tryz.ntmps31
        go_wp2_with fail
        refine h1.mono ?_
        rintro e w1 ⟨rfl, rfl⟩
        clear h1
        go_wp2_with fail
        refine (HX.out w1 hr).mono ?_
        rintro e w2 ⟨rfl, hk2⟩
        have hr2 := hr.keep hk2
        clear hr HX
        go_wp2_with fail
        refine (HY.out w2 hr2).mono ?_
        rintro e w3 ⟨rfl, hk3⟩
        have hk := hk2.trans hk3
        clear hr2 HY hk2 hk3
        go_upto_region 17 with (fail)
        rcases hq with hq | hq | hq <;> rcases hp with hp | hp | hp
        · have HQ : Hid (C / 7 % 3 = 0 ∧ C / 21 % 3 = 0) := ⟨hq, hp⟩
          have hq' : (C : Int) / 7 % 3 = 0 := by omega
          have hp' : (C : Int) / 21 % 3 = 0 := by omega
          clear hq hp
          go_region
          all_goals
            go_wp2_with fail
            go_ret
            exact ⟨by rw [HQ.out.1, HQ.out.2]; rfl, ((hk.alloc _).alloc _).drewN 1⟩
        · have HQ : Hid (C / 7 % 3 = 0 ∧ C / 21 % 3 = 1) := ⟨hq, hp⟩
          have hq' : (C : Int) / 7 % 3 = 0 := by omega
          have hp' : (C : Int) / 21 % 3 = 1 := by omega
          clear hq hp
          go_region
          all_goals
            go_wp2_with fail
            go_ret
            exact ⟨by rw [HQ.out.1, HQ.out.2]; rfl, ((hk.alloc _).alloc _).drewN 1⟩
        · have HQ : Hid (C / 7 % 3 = 0 ∧ C / 21 % 3 = 2) := ⟨hq, hp⟩
          have hq' : (C : Int) / 7 % 3 = 0 := by omega
          have hp' : (C : Int) / 21 % 3 = 2 := by omega
          clear hq hp
          go_region
          all_goals
            go_wp2_with fail
            go_ret
            exact ⟨by rw [HQ.out.1, HQ.out.2]; rfl, ((hk.alloc _).alloc _).drewN 1⟩
        · have HQ : Hid (C / 7 % 3 = 1 ∧ C / 21 % 3 = 0) := ⟨hq, hp⟩
          have hq' : (C : Int) / 7 % 3 = 1 := by omega
          have hp' : (C : Int) / 21 % 3 = 0 := by omega
          clear hq hp
          go_region
          all_goals
            go_wp2_with fail
            go_ret
            exact ⟨by rw [HQ.out.1, HQ.out.2]; rfl, ((hk.alloc _).alloc _).drewN 1⟩
        · have HQ : Hid (C / 7 % 3 = 1 ∧ C / 21 % 3 = 1) := ⟨hq, hp⟩
          have hq' : (C : Int) / 7 % 3 = 1 := by omega
          have hp' : (C : Int) / 21 % 3 = 1 := by omega
          clear hq hp
          go_region
          all_goals
            go_wp2_with fail
            go_ret
            exact ⟨by rw [HQ.out.1, HQ.out.2]; rfl, ((hk.alloc _).alloc _).drewN 1⟩
        · have HQ : Hid (C / 7 % 3 = 1 ∧ C / 21 % 3 = 2) := ⟨hq, hp⟩
          have hq' : (C : Int) / 7 % 3 = 1 := by omega
          have hp' : (C : Int) / 21 % 3 = 2 := by omega
          clear hq hp
          go_region
          all_goals
            go_wp2_with fail
            go_ret
            exact ⟨by rw [HQ.out.1, HQ.out.2]; rfl, ((hk.alloc _).alloc _).drewN 1⟩
        · have HQ : Hid (C / 7 % 3 = 2 ∧ C / 21 % 3 = 0) := ⟨hq, hp⟩
          have hq' : (C : Int) / 7 % 3 = 2 := by omega
          have hp' : (C : Int) / 21 % 3 = 0 := by omega
          clear hq hp
          go_region
          all_goals
            go_wp2_with fail
            go_ret
            exact ⟨by rw [HQ.out.1, HQ.out.2]; rfl, ((hk.alloc _).alloc _).drewN 1⟩
        · have HQ : Hid (C / 7 % 3 = 2 ∧ C / 21 % 3 = 1) := ⟨hq, hp⟩
          have hq' : (C : Int) / 7 % 3 = 2 := by omega
          have hp' : (C : Int) / 21 % 3 = 1 := by omega
          clear hq hp
          go_region
          all_goals
            go_wp2_with fail
            go_ret
            exact ⟨by rw [HQ.out.1, HQ.out.2]; rfl, ((hk.alloc _).alloc _).drewN 1⟩
        · have HQ : Hid (C / 7 % 3 = 2 ∧ C / 21 % 3 = 2) := ⟨hq, hp⟩
          have hq' : (C : Int) / 7 % 3 = 2 := by omega
          have hp' : (C : Int) / 21 % 3 = 2 := by omega
          clear hq hp
          go_region
          all_goals
            go_wp2_with fail
            go_ret
            exact ⟨by rw [HQ.out.1, HQ.out.2]; rfl, ((hk.alloc _).alloc _).drewN 1⟩
end Go.Proofs.YtnfojonmohijpaaGreatDoor
namespace Go.Proofs.YtnfojonmohijpaaGreatDoor
open Go.RowKit
def ltr (k : Nat) : UInt8 := match k % 4 with | 0 => 97 | 1 => 98 | 2 => 99 | _ => 46
def txT (s : ByteArray) (most : Nat) : ByteArray := bOf ((s.data.toList.take most).map fun b => ltr b.toNat)
theorem txT_size (s : ByteArray) (most : Nat) : (txT s most).size ≤ most := by
  unfold txT; rw [bOf_size]; simp; omega
theorem take_step {l : List UInt8} {i : Nat} {b : UInt8} (h : l[i]? = some b) : bOf ((l.take (i + 1)).map fun b => ltr b.toNat) = bOf ((l.take i).map fun b => ltr b.toNat) ++ bOf [ltr b.toNat] := by
  rw [List.take_add_one, h, List.map_append, bOf_app]; rfl
set_option maxRecDepth 100000 in
set_option maxHeartbeats 4000000 in
theorem ktext_any (s : ByteArray) (most : Nat) (hm : most ≤ 100) (w : World) : Calls Tryz.prog 32 #[.string s, .int .i64 most] w fun e w' => e = .returned (.string (txT s most)) ∧ Keeps [] w w' := by
  have hmm : (most : Int) ≤ 100 := by omega
  go_enter Tryz.func32, Tryz.ntmps32
  go_upto_region 3 with (fail)
  go_loopw [5, 6] (fun o q wr => ∃ i : Nat, q = .int .i64 i ∧ o = .string (bOf ((s.data.toList.take i).map fun b => ltr b.toNat)) ∧ i ≤ most ∧ i ≤ s.size ∧ Keeps [] w wr) (fun _ q _ => most - (intOf q).toNat)
  case atStart => exact ⟨0, rfl, rfl, Nat.zero_le _, Nat.zero_le _, Keeps.refl _ _⟩
  case round =>
    obtain ⟨i, rfl, rfl, hi, hs, hk⟩ := hrel
    by_cases hlt : i < s.size ∧ i < most
    · obtain ⟨hls, hlm⟩ := hlt
      have hb : s.data.toList[i]? = some (s[i]'hls) := by
        rw [Array.getElem?_toList]
        exact Array.getElem?_eq_getElem hls
      have hI := take_step hb
      have hn256 := (s[i]'hls).toNat_lt
      obtain ⟨n, hn⟩ : ∃ n, (s[i]'hls).toNat = n := ⟨_, rfl⟩
      rw [hn] at hI hn256
      have hz : (bOf ((s.data.toList.take i).map fun b => ltr b.toNat)).size ≤ 100 := by rw [bOf_size]; simp; omega
      generalize bOf ((s.data.toList.take i).map fun b => ltr b.toNat) = o at hI hz ⊢
      have hz' : (o.size : Int) ≤ 100 := by omega
      have hi0 : (0 : Int) ≤ (i : Int) := by omega
      have hi1 : (i : Int) < (s.size : Int) := by omega
      have hi2 : (i : Int) < (most : Int) := by omega
      have hi3 : (i : Int) ≤ 100 := by omega
      have hn0 : (0 : Int) ≤ (n : Int) := by omega
      have hn1 : (n : Int) ≤ 255 := by omega
      have hd1 : decide ((i : Int) < (s.size : Int)) = true := by simp; omega
      have HB : Hid (i < s.size ∧ i < most) := ⟨hls, hlm⟩
      have h4 : n % 4 = 0 ∨ n % 4 = 1 ∨ n % 4 = 2 ∨ n % 4 = 3 := by omega
      clear hb hlm hi hs
      rcases h4 with h4 | h4 | h4 | h4
      · have h4' : (n : Int) % 4 = 0 := by omega
        have hl : ltr n = 97 := by unfold ltr; rw [h4]; rfl
        rw [hl] at hI
        have HI := hI.symm
        have HI2 : Hid (o ++ bOf [97] = bOf ((s.data.toList.take (i + 1)).map fun b => ltr b.toNat)) := HI
        clear h4 hl HI hI
        go_wp2_with fail
        exact ⟨⟨i + 1, by go_num, (congrArg (fun z => Value.string (o ++ z)) (by decide +kernel)).trans (congrArg Value.string HI2.out), HB.out.2, HB.out.1, hk⟩, by have := HB.out; simp [intOf]; omega⟩
      · have h4' : (n : Int) % 4 = 1 := by omega
        have hl : ltr n = 98 := by unfold ltr; rw [h4]; rfl
        rw [hl] at hI
        have HI := hI.symm
        have HI2 : Hid (o ++ bOf [98] = bOf ((s.data.toList.take (i + 1)).map fun b => ltr b.toNat)) := HI
        clear h4 hl HI hI
        go_wp2_with fail
        exact ⟨⟨i + 1, by go_num, (congrArg (fun z => Value.string (o ++ z)) (by decide +kernel)).trans (congrArg Value.string HI2.out), HB.out.2, HB.out.1, hk⟩, by have := HB.out; simp [intOf]; omega⟩
      · have h4' : (n : Int) % 4 = 2 := by omega
        have hl : ltr n = 99 := by unfold ltr; rw [h4]; rfl
        rw [hl] at hI
        have HI := hI.symm
        have HI2 : Hid (o ++ bOf [99] = bOf ((s.data.toList.take (i + 1)).map fun b => ltr b.toNat)) := HI
        clear h4 hl HI hI
        go_wp2_with fail
        exact ⟨⟨i + 1, by go_num, (congrArg (fun z => Value.string (o ++ z)) (by decide +kernel)).trans (congrArg Value.string HI2.out), HB.out.2, HB.out.1, hk⟩, by have := HB.out; simp [intOf]; omega⟩
      · have h4' : (n : Int) % 4 = 3 := by omega
        have hl : ltr n = 46 := by unfold ltr; rw [h4]; rfl
        rw [hl] at hI
        have HI := hI.symm
        have HI2 : Hid (o ++ bOf [46] = bOf ((s.data.toList.take (i + 1)).map fun b => ltr b.toNat)) := HI
        clear h4 hl HI hI
        go_wp2_with fail
        exact ⟨⟨i + 1, by go_num, (congrArg (fun z => Value.string (o ++ z)) (by decide +kernel)).trans (congrArg Value.string HI2.out), HB.out.2, HB.out.1, hk⟩, by have := HB.out; simp [intOf]; omega⟩
    · have HO : bOf ((s.data.toList.take i).map fun b => ltr b.toNat) = txT s most := by
        unfold txT
        rcases Nat.lt_or_ge i s.size with h | h
        · rw [show i = most by omega]
        · have hl : s.data.toList.length = s.size := Array.length_toList
          rw [List.take_of_length_le (by omega), List.take_of_length_le (by omega)]
      rw [HO]
      clear HO
      by_cases h1 : i < s.size
      · have h2 : ¬ (i : Int) < (most : Int) := by omega
        have h1' : (i : Int) < (s.size : Int) := by omega
        clear hlt
        go_wp2_with fail
        go_ret
        exact ⟨rfl, hk⟩
      · have h1' : ¬ (i : Int) < (s.size : Int) := by omega
        clear hlt
        go_wp2_with fail
        go_ret
        exact ⟨rfl, hk⟩
end Go.Proofs.YtnfojonmohijpaaGreatDoor
namespace Go.Proofs.YtnfojonmohijpaaGreatDoor
theorem ans_of {p : List UInt8} {x : Nat → Pat} {n a b : Nat} (h : Mw p x n a b) (ha : a ≤ 6) (hn : n ≤ 9) (hp : p.head? ≠ some 94) (hl : p.length ≤ 60) {s : ByteArray} (hs : s.size ≤ 100) (hb : b * (s.size + 1) ≤ 20000)
    {t : List UInt8} {bb : Bool} {nn : Int} (hM : MatchA (bOf p) s t bb nn) :
    nn = 0 ∧ ((bb = true ∧ Mt s (x 0) 0 s.size ∧ ∃ ev, TR s (.node (x 0)) 0 s.size t ev) ∨ (bb = false ∧ t = [] ∧ ¬ Mt s (x 0) 0 s.size)) := by
  have hw := h.ws.whole ha hn hp (bOf p) (by simp [bOf])
  rcases hM with ⟨h1, _⟩ | ⟨_, q, hq, h2⟩
  · rw [bOf_size] at h1; omega
  · cases hq.det hw
    rcases h2 with ⟨h3, _⟩ | ⟨_, ⟨h3, rfl, rfl, rfl⟩ | ⟨h3, u, ev, hu, h4⟩⟩
    · omega
    · exact ⟨rfl, Or.inr ⟨rfl, rfl, h3⟩⟩
    · have hlen := hu.len h3
      have hA : (x 0).A * (s.size + 1) ≤ b * (s.size + 1) := Nat.mul_le_mul_right _ (h.len 0)
      simp only [Job.bnd, Nat.sub_zero] at hlen
      rcases h4 with ⟨_, rfl, rfl, rfl⟩ | ⟨h5, _⟩
      · exact ⟨rfl, Or.inl ⟨rfl, h3, ev, hu⟩⟩
      · omega
theorem Cut.ext {P Q : Nat → Prop} {i j c : Nat} (h : ∀ m, m ≤ j → (P m ↔ Q m)) (k : Cut P i j c) : Cut Q i j c :=
  ⟨k.1, k.2.1, fun e => (h c k.2.1).1 (k.2.2.1 e), fun m a b e => k.2.2.2 m a b ((h m b).2 e)⟩
end Go.Proofs.YtnfojonmohijpaaGreatDoor
namespace Go.Proofs.YtnfojonmohijpaaGreatDoor
def GP (f : Nat → List Pat) (g : Nat) : Pat := .grp (g + 1) (.wone (pre (f (g + 1)) .pnil))
def gpT (p : List UInt8) : List UInt8 := [40] ++ p ++ [41]
theorem tr_lone {s : ByteArray} {x : Pat} {i j : Nat} {t : List UInt8} {ev : List (Nat × Nat × Nat)} (h : TR s (.node (.wone (.pcons x .pnil))) i j t ev) : TR s (.node x) i j t ev := by
  cases h with
  | wone _ _ _ _ _ h =>
    cases h with
    | lone _ _ _ _ _ h => exact h
theorem jm_p {p : List UInt8} {f : Nat → List Pat} {n a b : Nat} (h : Md p f n a b) : Mw (gpT p) (fun g => .wone (.pcons (GP f g) .pnil)) (n + 1) (a + 1) (b + 23) := h.one.grp0.one
end Go.Proofs.YtnfojonmohijpaaGreatDoor
namespace Go.Proofs.YtnfojonmohijpaaGreatDoor
def Made2 (p : List UInt8) : Prop := ∃ f n a, Md p f n a 447 ∧ n ≤ 3 ∧ a ≤ 2
theorem made2_md (c : Nat → Nat) (i : Nat) : Made2 (mdT c 2 i) := by
  obtain ⟨f, n, a, h, hn, ha⟩ := md_all c 2 i
  exact ⟨f, n, a, h, by have : n + 1 ≤ 4 := hn; omega, ha⟩
theorem made2_sg (k : Nat) : Made2 (sgT k) := ⟨_, 0, 0, (Md.single k).more (by decide), by decide, by decide⟩
theorem gpT_len (p : List UInt8) : (gpT p).length = p.length + 2 := by simp [gpT]
theorem bool_of {a : Bool} {P : Prop} {Q R : Prop} (h : (a = true ∧ P ∧ Q) ∨ (a = false ∧ R ∧ ¬ P)) : a = true ↔ P := by
  rcases h with ⟨rfl, hp, _⟩ | ⟨rfl, _, hp⟩
  · exact ⟨fun _ => hp, fun _ => rfl⟩
  · exact ⟨(nomatch ·), fun h => absurd h hp⟩
theorem MatchA.len {p s : ByteArray} {t : List UInt8} {b : Bool} {n : Int} (h : MatchA p s t b n) : t.length ≤ 20000 := by
  rcases h with ⟨_, rfl, _⟩ | ⟨_, q, _, h⟩
  · simp
  · cases q with
    | bad j => obtain ⟨rfl, _⟩ := h; simp
    | ok W j =>
      rcases h with ⟨_, rfl, _⟩ | ⟨_, ⟨_, rfl, _⟩ | ⟨_, u, ev, _, ⟨h, rfl, _⟩ | ⟨_, rfl, _⟩⟩⟩
      · simp
      · simp
      · exact h
      · simp
theorem MatchA.size {p s : ByteArray} {t : List UInt8} {b : Bool} {n : Int} (h : MatchA p s t b n) : ((nmB t).size : Int) ≤ 20000 := by
  have := h.len
  have e : (nmB t).size = t.length := bOf_size t
  omega
end Go.Proofs.YtnfojonmohijpaaGreatDoor
namespace Go.Proofs.YtnfojonmohijpaaGreatDoor
open Go.RowKit
theorem gpB (p : List UInt8) : (⟨#[40]⟩ : ByteArray) ++ bOf p ++ ⟨#[41]⟩ = bOf (gpT p) := by rw [gpT, bOf_app, bOf_app]; rfl
end Go.Proofs.YtnfojonmohijpaaGreatDoor
namespace Go.Proofs.YtnfojonmohijpaaGreatDoor
theorem okAt_free {s : ByteArray} {x : Pat} {g i j : Nat} : OkAt s ⟨false, false, x, g⟩ i j ↔ Mt s x i j := ⟨fun h => h.1, fun h => ⟨h, fun e => Bool.noConfusion e, fun e => Bool.noConfusion e⟩⟩
end Go.Proofs.YtnfojonmohijpaaGreatDoor
namespace Go.Proofs.YtnfojonmohijpaaGreatDoor
def mkT (bg en : Bool) (p : List UInt8) : List UInt8 := (if bg then [94] else []) ++ p ++ (if en then [36] else [])
theorem lies_all {s : ByteArray} {p : List UInt8} (hs : s.data.toList = p) : Lies s 0 p ∧ at' s p.length = -1 := by
  have hsz : s.size = p.length := by rw [← hs, Array.length_toList]; rfl
  refine ⟨?_, at'_ge (by omega)⟩
  intro k c hc
  have hk : k < s.size := by rw [hsz]; exact (List.getElem?_eq_some_iff.1 hc).1
  rw [Nat.zero_add, at'_lt hk]
  have : s.data.toList[k]? = some c := by rw [hs]; exact hc
  have h2 : s[k] = c := by
    have h3 : s.data[k]? = some c := by simpa using this
    exact (Array.getElem?_eq_some_iff.1 h3).2
  rw [h2]
theorem wy_end {p : List UInt8} {f : Nat → List Pat} {n a : Nat} (h : Wy p f n a) {s : ByteArray} {i : Nat} (hl : Lies s i p) (ha : a ≤ 6) (hn : n ≤ 9) (he : at' s (i + p.length) = 36 ∨ at' s (i + p.length) = -1) : G s .ways 0 0 i (.ok (.wone (pre (f 0) .pnil), n) (i + p.length)) := by
  have h1 := h.rd s i 0 0 (.ok (.pnil, 0 + n) (i + p.length)) hl (by omega) (by omega) (by unfold noRep; omega) (G.nil 0 (0 + n) _ (by unfold stopC; omega))
  have := G.one 0 0 i (0 + n) _ _ h1 (by omega)
  rwa [Nat.zero_add] at this
theorem mk_whole {p : List UInt8} {f : Nat → List Pat} {n a : Nat} (h : Wy p f n a) (ha : a ≤ 6) (hn : n ≤ 9) (hp : p.head? ≠ some 94) (bg en : Bool) : ∃ j, PatR (bOf (mkT bg en p)) (.ok ⟨bg, en, .wone (pre (f 0) .pnil), n⟩ j) := by
  obtain ⟨c, r, hcr, _⟩ := h.hd
  have hc94 : (c.toNat : Int) ≠ 94 := by
    intro e
    apply hp
    rw [hcr]
    simp only [List.head?_cons, Option.some.injEq]
    apply UInt8.toNat_inj.1
    have : (94 : UInt8).toNat = 94 := rfl
    omega
  obtain ⟨hL, hE⟩ := lies_all (s := bOf (mkT bg en p)) (p := mkT bg en p) (by simp [bOf])
  generalize bOf (mkT bg en p) = s at hL hE ⊢
  unfold mkT at hL hE
  obtain ⟨h12, h3⟩ := Lies.app.1 hL
  obtain ⟨h1, h2⟩ := Lies.app.1 h12
  cases bg with
  | false =>
    simp only [Bool.false_eq_true, if_false, List.nil_append, List.length_nil, Nat.add_zero, Nat.zero_add] at h2 h3 hE
    have h0 : at' s 0 ≠ 94 := by rw [hcr] at h2; rw [(Lies.cons.1 h2).1]; exact hc94
    have hw : wi s = 0 := by unfold wi; rw [if_neg h0]
    cases en with
    | false =>
      simp only [Bool.false_eq_true, if_false, List.append_nil] at hE
      have h4 := wy_end h h2 ha hn (Or.inr (by rw [Nat.zero_add]; exact hE))
      rw [Nat.zero_add] at h4
      refine ⟨p.length, _, by rw [hw]; exact h4, ?_⟩
      rw [PatE_ok, hE]
      simp [h0, hE]
    | true =>
      simp only [if_true, List.length_append, List.length_cons, List.length_nil] at h3 hE
      have h36 : at' s p.length = 36 := (Lies.cons.1 h3).1
      have h4 := wy_end h h2 ha hn (Or.inl (by rw [Nat.zero_add]; exact h36))
      rw [Nat.zero_add] at h4
      refine ⟨p.length + 1, _, by rw [hw]; exact h4, ?_⟩
      rw [PatE_ok, h36]
      have hE' : at' s (p.length + 1) = -1 := hE
      simp [h0, hE']
  | true =>
    simp only [if_true, List.length_append, List.length_cons, List.length_nil, Nat.zero_add] at h1 h2 h3 hE
    have h0 : at' s 0 = 94 := (Lies.cons.1 h1).1
    have hw : wi s = 1 := by unfold wi; rw [if_pos h0]
    cases en with
    | false =>
      simp only [Bool.false_eq_true, if_false, List.length_nil, Nat.add_zero] at hE
      have h4 := wy_end h h2 ha hn (Or.inr hE)
      refine ⟨1 + p.length, _, by rw [hw]; exact h4, ?_⟩
      rw [PatE_ok, hE]
      simp [h0, hE]
    | true =>
      simp only [if_true, List.length_cons, List.length_nil] at h3 hE
      have h36 : at' s (1 + p.length) = 36 := (Lies.cons.1 h3).1
      have h4 := wy_end h h2 ha hn (Or.inl h36)
      refine ⟨1 + p.length + 1, _, by rw [hw]; exact h4, ?_⟩
      rw [PatE_ok, h36]
      have hE' : at' s (1 + p.length + 1) = -1 := hE
      simp [h0, hE']
theorem TR.has {s : ByteArray} {J : Job} {i j : Nat} {t : List UInt8} {ev : List (Nat × Nat × Nat)} (h : TR s J i j t ev) : ∀ e, e ∈ ev → J.has e.1 := by
  induction h with
  | byte => intro e he; cases he
  | grp k x i j t ev _ ih =>
    intro e he
    rcases List.mem_cons.1 he with rfl | he
    · exact Or.inl rfl
    · exact Or.inr (ih e he)
  | nil => intro e he; cases he
  | lone x i j t ev _ ih => exact fun e he => Or.inl (ih e he)
  | row x y r i j t ev _ ih => exact ih
  | kend => intro e he; cases he
  | kgo x r i j c t u ev fv _ _ _ ih1 ih2 => exact fun e he => (List.mem_append.1 he).elim (fun h => Or.inl (ih1 e h)) (fun h => Or.inr (ih2 e h))
  | rep mn mx x i j t ev _ ih => exact ih
  | tend => intro e he; cases he
  | tgo mn mx x i j c t u ev fv _ _ _ _ ih1 ih2 => exact fun e he => (List.mem_append.1 he).elim (ih1 e) (ih2 e)
  | wone x i j t ev _ ih => exact ih
  | wcons x r i j t ev _ ih => exact ih
  | hit p x r i j t ev _ _ ih => exact fun e he => Or.inl (ih e he)
  | miss p x r i j t ev _ _ ih => exact fun e he => Or.inr (ih e he)
  | last p x i j t ev _ ih => exact ih
theorem lastE_none {k : Nat} : ∀ {ev : List (Nat × Nat × Nat)}, (∀ e, e ∈ ev → e.1 ≠ k) → lastE ev k = none
  | [], _ => rfl
  | e :: ev, h => by
    rw [lastE, lastE_none (fun e he => h e (by simp [he])), if_neg (h e (by simp))]
    rfl
theorem evs_grp {s : ByteArray} {x : Pat} {i j m : Nat} {t : List UInt8} {ev : List (Nat × Nat × Nat)} (h : TR s (.node (.wone (.pcons (.grp 1 x) .pnil))) i j t ev) (hn : (Pat.grp 1 x).nest) (hp : ∀ m, (Pat.grp 1 x).has m → 0 < m) (hm : 2 ≤ m) :
    ∃ r, evs (List.replicate m (-1)) ev = (i : Int) :: (j : Int) :: r ∧ r.length + 2 = m := by
  have h1 := tr_lone h
  have hall : ∀ e, e ∈ ev → 1 ≤ e.1 := fun e he => hp _ (h1.has e he)
  have hl1 : lastE ev 1 = some (i, j) := by
    cases h1 with
    | grp _ _ _ _ t' ev' h2 =>
      have hno : ∀ e, e ∈ ev' → e.1 ≠ 1 := fun e he hk => hn.2.1 (by have := h2.has e he; rw [hk] at this; exact this)
      rw [lastE, lastE_none hno, if_pos rfl]
      rfl
  have hlen := evs_len ev (List.replicate m (-1))
  have g0 := evs_get ev (List.replicate m (-1)) 0 hall
  have g1 := evs_get ev (List.replicate m (-1)) 1 hall
  simp only [Nat.zero_div, Nat.zero_add, hl1, List.length_replicate] at g0
  rw [if_pos (by omega)] at g0
  rw [show 1 / 2 + 1 = 1 by decide] at g1
  simp only [hl1, List.length_replicate] at g1
  rw [if_pos (by omega)] at g1
  rw [List.length_replicate] at hlen
  generalize evs (List.replicate m (-1)) ev = E at g0 g1 hlen
  match E, g0, g1, hlen with
  | [], g0, _, _ => simp at g0
  | [_], _, g1, _ => simp at g1
  | a :: b :: r, g0, g1, hlen =>
    simp at g0 g1
    subst g0 g1
    exact ⟨r, rfl, by simpa using hlen⟩
inductive MkL (L : Nat) : Option (List Int) → Option (List Int) → Option (List Int) → Prop
  | none : MkL L none none none
  | free (i j : Nat) (r : List Int) : r.length ≤ 20 → 0 < i → i ≤ j → j < L → MkL L none none (some ((i : Int) :: (j : Int) :: r))
  | last (i j i' : Nat) (r r' : List Int) : r.length ≤ 20 → r'.length ≤ 20 → 0 < i → i ≤ j → j ≤ L → i' ≤ L → MkL L none (some ((i' : Int) :: (L : Int) :: r')) (some ((i : Int) :: (j : Int) :: r))
  | first (j : Nat) (r r' : List Int) : r.length ≤ 20 → r'.length ≤ 20 → j < L → MkL L (some ((0 : Int) :: (j : Int) :: r')) none (some ((0 : Int) :: (j : Int) :: r))
  | both (j i' : Nat) (r r' r'' : List Int) : r.length ≤ 20 → r'.length ≤ 20 → r''.length ≤ 20 → j ≤ L → i' ≤ L → MkL L (some ((0 : Int) :: (j : Int) :: r')) (some ((i' : Int) :: (L : Int) :: r'')) (some ((0 : Int) :: (j : Int) :: r))
theorem marked_math {p : List UInt8} (hp : Made2 p) (lp : p.length ≤ 50) {t : ByteArray} (ht : t.size ≤ 10) {u : List UInt8} {is : Bool} {e e1 e2 e3 e4 : Int} {al am an af : Option (List Int)} (h0 : MatchA (bOf (gpT p)) t u is e)
    (h1 : SearchA (bOf (mkT true true (gpT p))) t 0 al e1) (h2 : SearchA (bOf (mkT true false (gpT p))) t 0 am e2) (h3 : SearchA (bOf (mkT false true (gpT p))) t 0 an e3) (h4 : SearchA (bOf (mkT false false (gpT p))) t 0 af e4) :
    e = 0 ∧ e1 = 0 ∧ e2 = 0 ∧ e3 = 0 ∧ e4 = 0 ∧ ((is = false ∧ al = none) ∨ (is = true ∧ ∃ r, r.length ≤ 20 ∧ al = some ((0 : Int) :: (t.size : Int) :: (0 : Int) :: (t.size : Int) :: r))) ∧ MkL t.size am an af := by
  obtain ⟨f, g, da, P, hg, hda⟩ := hp
  have W := P.one.grp0
  have hgp : (gpT p).head? ≠ some 94 := by simp [gpT]
  have hb : (447 + 23) * (t.size + 1) ≤ 20000 := Nat.le_trans (Nat.mul_le_mul_left _ (by omega : t.size + 1 ≤ 11)) (by decide)
  obtain ⟨z, r0⟩ := ans_of (jm_p P) (by omega) (by omega) hgp (by rw [gpT_len]; omega) (by omega : t.size ≤ 100) hb h0
  have b0 := bool_of r0
  have fnd : ∀ bg en ans n, SearchA (bOf (mkT bg en (gpT p))) t 0 ans n → n = 0 ∧ FindA t ⟨bg, en, .wone (.pcons (GP f 0) .pnil), g + 1⟩ 0 ans := by
    intro bg en ans n h
    have hl : (bOf (mkT bg en (gpT p))).size ≤ 60 := by
      rw [bOf_size]; unfold mkT
      rw [List.length_append, List.length_append, gpT_len]
      cases bg <;> cases en <;> simp <;> omega
    obtain ⟨j, hw⟩ := mk_whole W.wy (by omega) (by omega) hgp bg en
    rcases h with ⟨hh, _⟩ | ⟨_, q, hq, hh⟩
    · omega
    · cases hq.det hw
      rcases hh with ⟨hh, _⟩ | ⟨_, ⟨hh, _⟩ | ⟨_, _, hh, rfl⟩⟩
      · omega
      · omega
      · exact ⟨rfl, hh⟩
  obtain ⟨z1, f1⟩ := fnd _ _ _ _ h1
  obtain ⟨z2, f2⟩ := fnd _ _ _ _ h2
  obtain ⟨z3, f3⟩ := fnd _ _ _ _ h3
  obtain ⟨z4, f4⟩ := fnd _ _ _ _ h4
  have hlen : ∀ ev, (evs (List.replicate (2 * (g + 1)) (-1)) ev).length ≤ 20 := fun ev => by rw [evs_len, List.length_replicate]; omega
  have hb0 : is = true ↔ Mt t (.wone (.pcons (GP f 0) .pnil)) 0 t.size := b0
  have hnest : (GP f 0).nest ∧ ∀ m, (GP f 0).has m → 0 < m := by
    obtain ⟨_, h5, h6⟩ := (wy_end W.wy (lies_all (s := bOf (gpT p)) (p := gpT p) (by simp [bOf])).1 (by omega) (by omega) (Or.inr (by rw [Nat.zero_add]; exact (lies_all (s := bOf (gpT p)) (p := gpT p) (by simp [bOf])).2))).nest _ _ _ rfl
    exact ⟨h5.1, fun m hm => (h6 m (Or.inl hm)).1⟩
  refine ⟨z, z1, z2, z3, z4, ?_, ?_⟩
  · rcases f1 with ⟨rfl, hno⟩ | ⟨i, j, tt, ev, hF, hT, rfl⟩
    · refine Or.inl ⟨?_, rfl⟩
      cases his : is with
      | false => rfl
      | true => exact absurd ⟨hb0.1 his, fun _ => rfl, fun _ => rfl⟩ (hno 0 t.size (Nat.le_refl _) (Nat.zero_le _) (Nat.le_refl _))
    · obtain ⟨_, _, _, ⟨hM, hi, hj⟩, _, _⟩ := hF
      obtain rfl := hi rfl
      obtain rfl := hj rfl
      obtain ⟨r, hr, hrl⟩ := evs_grp (m := 2 * (g + 1)) hT hnest.1 hnest.2 (by omega)
      exact Or.inr ⟨hb0.2 hM, r, by omega, congrArg some (congrArg (fun z => (((0 : Nat) : Int) :: (t.size : Int) :: z)) hr)⟩
  · rcases f4 with ⟨rfl, hno⟩ | ⟨i, j, t4, ev4, hF, _, rfl⟩
    · have hno' : ∀ i j, i ≤ j → j ≤ t.size → ¬ Mt t (.wone (.pcons (GP f 0) .pnil)) i j := fun i j h5 h6 h7 => hno i j (Nat.zero_le _) h5 h6 (okAt_free.2 h7)
      obtain rfl : am = none := by
        rcases f2 with ⟨h, _⟩ | ⟨i, j, _, _, hF, _⟩
        · exact h
        · exact absurd hF.2.2.2.1.1 (hno' i j hF.2.1 hF.2.2.1)
      obtain rfl : an = none := by
        rcases f3 with ⟨h, _⟩ | ⟨i, j, _, _, hF, _⟩
        · exact h
        · exact absurd hF.2.2.2.1.1 (hno' i j hF.2.1 hF.2.2.1)
      exact .none
    · obtain ⟨_, a2, a3, a4, a5, a6⟩ := hF
      have hM := okAt_free.1 a4
      have hnl : ∀ j', j < j' → j' ≤ t.size → ¬ Mt t (.wone (.pcons (GP f 0) .pnil)) i j' := fun j' h5 h6 h7 => a6 j' h5 h6 (okAt_free.2 h7)
      rcases Nat.eq_zero_or_pos i with rfl | hi
      · obtain ⟨r', hr', hl'⟩ : ∃ r', am = some ((0 : Int) :: (j : Int) :: r') ∧ r'.length ≤ 20 := by
          rcases f2 with ⟨_, hno⟩ | ⟨i, j', _, ev, hF, _, h⟩
          · exact absurd ⟨hM, fun _ => rfl, fun e => Bool.noConfusion e⟩ (hno 0 j (Nat.le_refl _) a2 a3)
          · obtain ⟨_, c2, c3, ⟨c4, c5, _⟩, _, c6⟩ := hF
            obtain rfl := c5 rfl
            obtain rfl : j' = j := by
              rcases Nat.lt_trichotomy j' j with hlt | he | hgt
              · exact absurd ⟨hM, fun _ => rfl, fun e => Bool.noConfusion e⟩ (c6 j hlt a3)
              · exact he
              · exact absurd c4 (hnl j' hgt c3)
            exact ⟨_, h, hlen ev⟩
        subst hr'
        rcases f3 with ⟨rfl, hno⟩ | ⟨i', j', _, ev, hF, _, rfl⟩
        · have hjl : j < t.size := by
            rcases Nat.lt_or_ge j t.size with h | h
            · exact h
            · exact absurd ⟨hM, fun e => Bool.noConfusion e, fun _ => by omega⟩ (hno 0 j (Nat.le_refl _) a2 a3)
          exact .first j _ r' (hlen ev4) hl' hjl
        · obtain ⟨_, c2, c3, ⟨_, _, c5⟩, _, _⟩ := hF
          obtain rfl := c5 rfl
          exact .both j i' _ r' _ (hlen ev4) hl' (hlen ev) a3 c2
      · obtain rfl : am = none := by
          rcases f2 with ⟨h, _⟩ | ⟨i', j', _, _, hF, _⟩
          · exact h
          · obtain ⟨_, c2, c3, ⟨c4, c5, _⟩, _, _⟩ := hF
            obtain rfl := c5 rfl
            exact absurd (okAt_free.2 c4) (a5 0 j' (Nat.le_refl _) hi c2 c3)
        rcases f3 with ⟨rfl, hno⟩ | ⟨i', j', _, ev, hF, _, rfl⟩
        · have hjl : j < t.size := by
            rcases Nat.lt_or_ge j t.size with h | h
            · exact h
            · exact absurd ⟨hM, fun e => Bool.noConfusion e, fun _ => by omega⟩ (hno i j (Nat.zero_le _) a2 a3)
          exact .free i j _ (hlen ev4) hi a2 hjl
        · obtain ⟨_, c2, c3, ⟨_, _, c5⟩, _, _⟩ := hF
          obtain rfl := c5 rfl
          exact .last i j i' _ _ (hlen ev4) (hlen ev) hi a2 a3 c2
end Go.Proofs.YtnfojonmohijpaaGreatDoor
namespace Go.Proofs.YtnfojonmohijpaaGreatDoor
open Go.RowKit
theorem row_open {w : World} {lo : Nat} {v : Value} {l : List Int} (h : IW w lo v (some l)) (hl : 0 < l.length) : ∃ g cap, v = .slice (some ⟨g, 0, none⟩) l.length cap ∧ ∀ i x, l[i]? = some x → w.cell? ⟨g, i, none⟩ = some (.int .i64 x) := by
  have hrow : w.ownsRow lo 3 1 v l.length (spW l) := h
  obtain ⟨g, cap, rfl, _, _⟩ := World.ownsRow.form hrow hl
  refine ⟨g, cap, rfl, fun i x hx => ?_⟩
  have hi := (List.getElem?_eq_some_iff.1 hx).1
  rw [World.ownsRow.cellAt hrow i (by omega)]
  simp [spW, hx]
theorem row_two {w : World} {lo : Nat} {v : Value} {a b : Int} {l : List Int} (h : IW w lo v (some (a :: b :: l))) : ∃ g cap, v = .slice (some ⟨g, 0, none⟩) (l.length + 2) cap ∧ w.cell? ⟨g, 0, none⟩ = some (.int .i64 a) ∧ w.cell? ⟨g, 1, none⟩ = some (.int .i64 b) := by
  obtain ⟨g, cap, rfl, hc⟩ := row_open h (by simp)
  exact ⟨g, cap, rfl, hc 0 a rfl, hc 1 b rfl⟩
theorem row_four {w : World} {lo : Nat} {v : Value} {a b c d : Int} {l : List Int} (h : IW w lo v (some (a :: b :: c :: d :: l))) : ∃ g cap, v = .slice (some ⟨g, 0, none⟩) (l.length + 4) cap ∧ w.cell? ⟨g, 0, none⟩ = some (.int .i64 a) ∧ w.cell? ⟨g, 1, none⟩ = some (.int .i64 b) ∧ w.cell? ⟨g, 2, none⟩ = some (.int .i64 c) ∧ w.cell? ⟨g, 3, none⟩ = some (.int .i64 d) := by
  obtain ⟨g, cap, rfl, hc⟩ := row_open h (by simp)
  exact ⟨g, cap, rfl, hc 0 a rfl, hc 1 b rfl, hc 2 c rfl, hc 3 d rfl⟩
end Go.Proofs.YtnfojonmohijpaaGreatDoor
namespace Go.Proofs.YtnfojonmohijpaaGreatDoor
open Go.RowKit
theorem mk11B (q : List UInt8) : (⟨#[94]⟩ : ByteArray) ++ bOf q ++ ⟨#[36]⟩ = bOf (mkT true true q) := by
  have : mkT true true q = [94] ++ q ++ [36] := rfl
  rw [this, bOf_app, bOf_app]; rfl
theorem mk10B (q : List UInt8) : (⟨#[94]⟩ : ByteArray) ++ bOf q = bOf (mkT true false q) := by
  have : mkT true false q = [94] ++ q ++ [] := rfl
  rw [this, List.append_nil, bOf_app]; rfl
theorem mk01B (q : List UInt8) : bOf q ++ (⟨#[36]⟩ : ByteArray) = bOf (mkT false true q) := by
  have : mkT false true q = [] ++ q ++ [36] := rfl
  rw [this, List.nil_append, bOf_app]; rfl
theorem mk00B (q : List UInt8) : bOf q = bOf (mkT false false q) := by
  have : mkT false false q = [] ++ q ++ [] := rfl
  rw [this, List.nil_append, List.append_nil]
end Go.Proofs.YtnfojonmohijpaaGreatDoor
