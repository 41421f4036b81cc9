/-
  DERIVED. The contract of yarrowkeep's made: the pattern's text is the one that the raw numbers speak of.
-/
import Derived.Test.YtnfojonmohijpaaGreatDoorJYC
set_option linter.unusedSimpArgs false
set_option linter.unusedVariables false
namespace Go.Proofs.YtnfojonmohijpaaGreatDoor
open Go.RowKit
theorem bOf_app (a b : List UInt8) : bOf (a ++ b) = bOf a ++ bOf b := by
  apply ByteArray.ext
  simp [bOf]
theorem sgT_len (k : Nat) : (sgT k).length ≤ 11 := by
  match k with
  | 0 => decide
  | 1 => decide
  | 2 => decide
  | 3 => decide
  | 4 => decide
  | 5 => decide
  | 6 => decide
  | 7 => decide
  | _ + 8 => exact (by decide : ([92, 46] : List UInt8).length ≤ 11)
theorem rpT_len (k : Nat) : (rpT k).length ≤ 1 := by
  match k with
  | 0 => decide
  | 1 => decide
  | _ + 2 => exact (by decide : ([43] : List UInt8).length ≤ 1)
theorem lwT_len (k : Nat) : (lwT k).length ≤ 1 := by
  match k with
  | 0 => decide
  | 1 => decide
  | _ + 2 => exact (by decide : ([50] : List UInt8).length ≤ 1)
theorem hiT_len (k : Nat) : (hiT k).length ≤ 1 := by
  match k with
  | 0 => decide
  | 1 => decide
  | _ + 2 => exact (by decide : ([] : List UInt8).length ≤ 1)
theorem mdT_len (c : Nat → Nat) : ∀ deep i, (mdT c deep i).length + 3 ≤ 14 * 2 ^ deep
  | 0, i => by have := sgT_len (c i / 7 % 9); simp only [mdT]; omega
  | deep + 1, i => by
    have h1 := mdT_len c deep (i + 1)
    have h2 := mdT_len c deep (i + 2)
    have h3 := sgT_len (c i / 7 % 9)
    have h4 := rpT_len (c i / 7 % 3)
    have h5 := lwT_len (c i / 7 % 3)
    have h6 := hiT_len (c i / 21 % 3)
    have hp : 2 ^ (deep + 1) = 2 * 2 ^ deep := by rw [Nat.pow_succ]; omega
    have hp1 : 1 ≤ 2 ^ deep := Nat.one_le_pow _ _ (by omega)
    unfold mdT
    split <;> (try simp only [List.length_append, List.length_cons, List.length_nil]) <;> omega
theorem bOf_size (l : List UInt8) : (bOf l).size = l.length := by simp [bOf, ByteArray.size]
theorem mdT_zero (c : Nat → Nat) (deep i : Nat) (h : deep = 0 ∨ c i % 7 = 0) : mdT c deep i = sgT (c i / 7 % 9) := by
  cases deep with
  | zero => rfl
  | succ d =>
    rcases h with h | h
    · cases h
    · unfold mdT; rw [h]; rfl
theorem cv_lt (zs : List Int) (i : Nat) : cv zs i < 1099511627776 := by
  unfold cv
  cases zs[i]? with
  | none => decide
  | some z => exact Nat.mod_lt _ (by decide)
def mdX (k c : Nat) (x y : ByteArray) : ByteArray :=
  match k with
  | 1 => bOf [40] ++ x ++ bOf [41]
  | 2 => x ++ y
  | 3 => bOf [40] ++ x ++ bOf [124] ++ y ++ bOf [41]
  | 4 => bOf [40] ++ x ++ bOf [41, 42]
  | 5 => bOf [40] ++ x ++ bOf [124, 41] ++ bOf (rpT (c / 7 % 3))
  | _ => bOf [40] ++ x ++ bOf [41, 123] ++ bOf (lwT (c / 7 % 3)) ++ bOf [44] ++ bOf (hiT (c / 21 % 3)) ++ bOf [125]
theorem mdT_succ (c : Nat → Nat) (deep i : Nat) (h : c i % 7 ≠ 0) : bOf (mdT c (deep + 1) i) = mdX (c i % 7) (c i) (bOf (mdT c deep (i + 1))) (bOf (mdT c deep (i + 2))) := by
  rw [mdT]
  generalize c i % 7 = k at h ⊢
  match k, h with
  | 0, h => exact absurd rfl h
  | 1, _ => simp only [mdX, bOf_app]
  | 2, _ => simp only [mdX, bOf_app]
  | 3, _ => simp only [mdX, bOf_app]
  | 4, _ => simp only [mdX, bOf_app]
  | 5, _ => simp only [mdX, bOf_app]
  | _ + 6, _ => simp only [mdX, bOf_app]
set_option maxRecDepth 100000 in
set_option maxHeartbeats 8000000 in
theorem made_any (v : Value) (zs : List Int) : ∀ (deep : Nat), deep ≤ 3 → ∀ (i : Nat), i + 2 * deep ≤ 900 → ∀ (w : World), RawIs w v zs →
    Calls Tryz.prog 31 #[v, .int .i64 i, .int .i64 deep] w fun e w' => e = .returned (.string (bOf (mdT (cv zs) deep i))) ∧ Keeps [] w w' := by
  intro deep
  induction deep with
  | zero =>
    intro _ i hi w hr
    have h1 := kat_any v zs i (by omega) w hr
    have hb := cv_lt zs i
    rw [mdT_zero _ _ _ (Or.inl rfl)]
    generalize cv zs i = C at h1 hb ⊢
    have hS := ksingle_any (C / 7) (by omega) w
    have hb' : (C : Int) < 1099511627776 := by omega
    have hb0 : (0 : Int) ≤ (C : Int) := by omega
    go_enter Tryz.func31, Tryz.ntmps31
    go_wp2_with fail
    refine h1.mono ?_
    rintro e w1 ⟨rfl, rfl⟩
    clear h1 hr
    go_wp2_with fail
    refine hS.mono ?_
    rintro e w2 ⟨rfl, hk⟩
    clear hS
    go_wp2_with fail
    go_ret
    exact ⟨rfl, hk⟩
  | succ deep ih =>
    intro hdp i hi w hr
    obtain ⟨D, hDe⟩ : ∃ D : Int, ((deep + 1 : Nat) : Int) = D := ⟨_, rfl⟩
    rw [hDe]
    have hD1 : D - 1 = (deep : Int) := by omega
    have hD3 : D ≤ 3 := by omega
    have hD0 : 1 ≤ D := by omega
    have hDz : ¬ D = 0 := by omega
    have hDd : (D == 0) = false := by simp [hDz]
    clear hDe
    have hd0 : (0 : Int) ≤ (deep : Int) := by omega
    have hi0 : (0 : Int) ≤ (i : Int) := by omega
    have h1 := kat_any v zs i (by omega) w hr
    have hb := cv_lt zs i
    have hx := ih (by omega) (i + 1) (by omega)
    have hy := ih (by omega) (i + 2) (by omega)
    have hlx := mdT_len (cv zs) deep (i + 1)
    have hly := mdT_len (cv zs) deep (i + 2)
    have hp3 : 2 ^ deep ≤ 8 := Nat.pow_le_pow_right (by decide) (by omega : deep ≤ 3)
    have hdn : (deep : Int) ≤ 2 := by omega
    have hin : (i : Int) ≤ 900 := by omega
    by_cases h0 : cv zs i % 7 = 0
    · rw [mdT_zero _ _ _ (Or.inr h0)]
      generalize cv zs i = C at h1 hb h0 ⊢
      have hS := ksingle_any (C / 7) (by omega) w
      have hb' : (C : Int) < 1099511627776 := by omega
      have hb0 : (0 : Int) ≤ (C : Int) := by omega
      have h0' : (C : Int) % 7 = 0 := by omega
      clear ih hx hy hlx hly h0
      go_enter Tryz.func31, Tryz.ntmps31
      go_wp2_with fail
      refine h1.mono ?_
      rintro e w1 ⟨rfl, rfl⟩
      clear h1 hr
      go_wp2_with fail
      refine hS.mono ?_
      rintro e w2 ⟨rfl, hk⟩
      clear hS
      go_wp2_with fail
      go_ret
      exact ⟨rfl, hk⟩
    · rw [mdT_succ _ _ _ h0]
      generalize cv zs i = C at h1 hb h0 ⊢
      rw [← bOf_size] at hlx hly
      generalize bOf (mdT (cv zs) deep (i + 1)) = x at hx hlx ⊢
      generalize bOf (mdT (cv zs) deep (i + 2)) = y at hy hly ⊢
      have hb' : (C : Int) < 1099511627776 := by omega
      have hb0 : (0 : Int) ≤ (C : Int) := by omega
      have hx1 : (x.size : Int) ≤ 200 := by omega
      have hy1 : (y.size : Int) ≤ 200 := by omega
      have HX : Hid (∀ w, RawIs w v zs → Calls Tryz.prog 31 #[v, .int .i64 ((i + 1 : Nat) : Int), .int .i64 (deep : Int)] w fun e w' => e = .returned (.string x) ∧ Keeps [] w w') := hx
      have HY : Hid (∀ w, RawIs w v zs → Calls Tryz.prog 31 #[v, .int .i64 ((i + 2 : Nat) : Int), .int .i64 (deep : Int)] w fun e w' => e = .returned (.string y) ∧ Keeps [] w w') := hy
      have hd7 : C % 7 = 1 ∨ C % 7 = 2 ∨ C % 7 = 3 ∨ C % 7 = 4 ∨ C % 7 = 5 ∨ C % 7 = 6 := by omega
      clear ih hlx hly hx hy h0
      rcases hd7 with h7 | h7 | h7 | h7 | h7 | h7
      · rw [h7]
        have h7' : (C : Int) % 7 = 1 := by omega
        clear h7
        go_enter Tryz.func31, Tryz.ntmps31
        go_wp2_with fail
        refine h1.mono ?_
        rintro e w1 ⟨rfl, rfl⟩
        clear h1
        go_wp2_with fail
        refine (HX.out w1 hr).mono ?_
        rintro e w2 ⟨rfl, hk2⟩
        have hr2 := hr.keep hk2
        clear hr HX
        go_wp2_with fail
        refine (HY.out w2 hr2).mono ?_
        rintro e w3 ⟨rfl, hk3⟩
        have hk := hk2.trans hk3
        clear hr2 HY hk2 hk3
        go_wp2_with fail
        go_ret
        exact ⟨rfl, hk⟩
      · rw [h7]
        have h7' : (C : Int) % 7 = 2 := by omega
        clear h7
        go_enter Tryz.func31, Tryz.ntmps31
        go_wp2_with fail
        refine h1.mono ?_
        rintro e w1 ⟨rfl, rfl⟩
        clear h1
        go_wp2_with fail
        refine (HX.out w1 hr).mono ?_
        rintro e w2 ⟨rfl, hk2⟩
        have hr2 := hr.keep hk2
        clear hr HX
        go_wp2_with fail
        refine (HY.out w2 hr2).mono ?_
        rintro e w3 ⟨rfl, hk3⟩
        have hk := hk2.trans hk3
        clear hr2 HY hk2 hk3
        go_wp2_with fail
        go_ret
        exact ⟨rfl, hk⟩
      · rw [h7]
        have h7' : (C : Int) % 7 = 3 := by omega
        clear h7
        go_enter Tryz.func31, Tryz.ntmps31
        go_wp2_with fail
        refine h1.mono ?_
        rintro e w1 ⟨rfl, rfl⟩
        clear h1
        go_wp2_with fail
        refine (HX.out w1 hr).mono ?_
        rintro e w2 ⟨rfl, hk2⟩
        have hr2 := hr.keep hk2
        clear hr HX
        go_wp2_with fail
        refine (HY.out w2 hr2).mono ?_
        rintro e w3 ⟨rfl, hk3⟩
        have hk := hk2.trans hk3
        clear hr2 HY hk2 hk3
        go_wp2_with fail
        go_ret
        exact ⟨rfl, hk⟩
      · rw [h7]
        have h7' : (C : Int) % 7 = 4 := by omega
        clear h7
        go_enter Tryz.func31, Tryz.ntmps31
        go_wp2_with fail
        refine h1.mono ?_
        rintro e w1 ⟨rfl, rfl⟩
        clear h1
        go_wp2_with fail
        refine (HX.out w1 hr).mono ?_
        rintro e w2 ⟨rfl, hk2⟩
        have hr2 := hr.keep hk2
        clear hr HX
        go_wp2_with fail
        refine (HY.out w2 hr2).mono ?_
        rintro e w3 ⟨rfl, hk3⟩
        have hk := hk2.trans hk3
        clear hr2 HY hk2 hk3
        go_wp2_with fail
        go_ret
        exact ⟨rfl, hk⟩
      · rw [h7]
        have h7' : (C : Int) % 7 = 5 := by omega
        have hq : C / 7 % 3 = 0 ∨ C / 7 % 3 = 1 ∨ C / 7 % 3 = 2 := by omega
        unfold mdX
        rcases hq with hq | hq | hq
        · rw [hq]
          have hq' : (C : Int) / 7 % 3 = 0 := by omega
          clear hq
          clear h7
          go_enter Tryz.func31, Tryz.ntmps31
          go_wp2_with fail
          refine h1.mono ?_
          rintro e w1 ⟨rfl, rfl⟩
          clear h1
          go_wp2_with fail
          refine (HX.out w1 hr).mono ?_
          rintro e w2 ⟨rfl, hk2⟩
          have hr2 := hr.keep hk2
          clear hr HX
          go_wp2_with fail
          refine (HY.out w2 hr2).mono ?_
          rintro e w3 ⟨rfl, hk3⟩
          have hk := hk2.trans hk3
          clear hr2 HY hk2 hk3
          go_wp2_with fail
          go_ret
          exact ⟨rfl, hk.alloc _⟩
        · rw [hq]
          have hq' : (C : Int) / 7 % 3 = 1 := by omega
          clear hq
          clear h7
          go_enter Tryz.func31, Tryz.ntmps31
          go_wp2_with fail
          refine h1.mono ?_
          rintro e w1 ⟨rfl, rfl⟩
          clear h1
          go_wp2_with fail
          refine (HX.out w1 hr).mono ?_
          rintro e w2 ⟨rfl, hk2⟩
          have hr2 := hr.keep hk2
          clear hr HX
          go_wp2_with fail
          refine (HY.out w2 hr2).mono ?_
          rintro e w3 ⟨rfl, hk3⟩
          have hk := hk2.trans hk3
          clear hr2 HY hk2 hk3
          go_wp2_with fail
          go_ret
          exact ⟨rfl, hk.alloc _⟩
        · rw [hq]
          have hq' : (C : Int) / 7 % 3 = 2 := by omega
          clear hq
          clear h7
          go_enter Tryz.func31, Tryz.ntmps31
          go_wp2_with fail
          refine h1.mono ?_
          rintro e w1 ⟨rfl, rfl⟩
          clear h1
          go_wp2_with fail
          refine (HX.out w1 hr).mono ?_
          rintro e w2 ⟨rfl, hk2⟩
          have hr2 := hr.keep hk2
          clear hr HX
          go_wp2_with fail
          refine (HY.out w2 hr2).mono ?_
          rintro e w3 ⟨rfl, hk3⟩
          have hk := hk2.trans hk3
          clear hr2 HY hk2 hk3
          go_wp2_with fail
          go_ret
          exact ⟨rfl, hk.alloc _⟩
      · rw [h7]
        have h7' : (C : Int) % 7 = 6 := by omega
        clear h7
        have hq : C / 7 % 3 = 0 ∨ C / 7 % 3 = 1 ∨ C / 7 % 3 = 2 := by omega
        have hp : C / 21 % 3 = 0 ∨ C / 21 % 3 = 1 ∨ C / 21 % 3 = 2 := by omega
        have HC : Hid (C < 1099511627776) := hb
        unfold mdX
        go_enter Tryz.func31, Tryz.ntmps31
        go_wp2_with fail
        refine h1.mono ?_
        rintro e w1 ⟨rfl, rfl⟩
        clear h1
        go_wp2_with fail
        refine (HX.out w1 hr).mono ?_
        rintro e w2 ⟨rfl, hk2⟩
        have hr2 := hr.keep hk2
        clear hr HX
        go_wp2_with fail
        refine (HY.out w2 hr2).mono ?_
        rintro e w3 ⟨rfl, hk3⟩
        have hk := hk2.trans hk3
        clear hr2 HY hk2 hk3
        go_upto_region 17 with (fail)
        rcases hq with hq | hq | hq <;> rcases hp with hp | hp | hp
        · have HQ : Hid (C / 7 % 3 = 0 ∧ C / 21 % 3 = 0) := ⟨hq, hp⟩
          have hq' : (C : Int) / 7 % 3 = 0 := by omega
          have hp' : (C : Int) / 21 % 3 = 0 := by omega
          clear hq hp
          go_region
          all_goals
            go_wp2_with fail
            go_ret
            exact ⟨by rw [HQ.out.1, HQ.out.2]; rfl, ((hk.alloc _).alloc _).drewN 1⟩
        · have HQ : Hid (C / 7 % 3 = 0 ∧ C / 21 % 3 = 1) := ⟨hq, hp⟩
          have hq' : (C : Int) / 7 % 3 = 0 := by omega
          have hp' : (C : Int) / 21 % 3 = 1 := by omega
          clear hq hp
          go_region
          all_goals
            go_wp2_with fail
            go_ret
            exact ⟨by rw [HQ.out.1, HQ.out.2]; rfl, ((hk.alloc _).alloc _).drewN 1⟩
        · have HQ : Hid (C / 7 % 3 = 0 ∧ C / 21 % 3 = 2) := ⟨hq, hp⟩
          have hq' : (C : Int) / 7 % 3 = 0 := by omega
          have hp' : (C : Int) / 21 % 3 = 2 := by omega
          clear hq hp
          go_region
          all_goals
            go_wp2_with fail
            go_ret
            exact ⟨by rw [HQ.out.1, HQ.out.2]; rfl, ((hk.alloc _).alloc _).drewN 1⟩
        · have HQ : Hid (C / 7 % 3 = 1 ∧ C / 21 % 3 = 0) := ⟨hq, hp⟩
          have hq' : (C : Int) / 7 % 3 = 1 := by omega
          have hp' : (C : Int) / 21 % 3 = 0 := by omega
          clear hq hp
          go_region
          all_goals
            go_wp2_with fail
            go_ret
            exact ⟨by rw [HQ.out.1, HQ.out.2]; rfl, ((hk.alloc _).alloc _).drewN 1⟩
        · have HQ : Hid (C / 7 % 3 = 1 ∧ C / 21 % 3 = 1) := ⟨hq, hp⟩
          have hq' : (C : Int) / 7 % 3 = 1 := by omega
          have hp' : (C : Int) / 21 % 3 = 1 := by omega
          clear hq hp
          go_region
          all_goals
            go_wp2_with fail
            go_ret
            exact ⟨by rw [HQ.out.1, HQ.out.2]; rfl, ((hk.alloc _).alloc _).drewN 1⟩
        · have HQ : Hid (C / 7 % 3 = 1 ∧ C / 21 % 3 = 2) := ⟨hq, hp⟩
          have hq' : (C : Int) / 7 % 3 = 1 := by omega
          have hp' : (C : Int) / 21 % 3 = 2 := by omega
          clear hq hp
          go_region
          all_goals
            go_wp2_with fail
            go_ret
            exact ⟨by rw [HQ.out.1, HQ.out.2]; rfl, ((hk.alloc _).alloc _).drewN 1⟩
        · have HQ : Hid (C / 7 % 3 = 2 ∧ C / 21 % 3 = 0) := ⟨hq, hp⟩
          have hq' : (C : Int) / 7 % 3 = 2 := by omega
          have hp' : (C : Int) / 21 % 3 = 0 := by omega
          clear hq hp
          go_region
          all_goals
            go_wp2_with fail
            go_ret
            exact ⟨by rw [HQ.out.1, HQ.out.2]; rfl, ((hk.alloc _).alloc _).drewN 1⟩
        · have HQ : Hid (C / 7 % 3 = 2 ∧ C / 21 % 3 = 1) := ⟨hq, hp⟩
          have hq' : (C : Int) / 7 % 3 = 2 := by omega
          have hp' : (C : Int) / 21 % 3 = 1 := by omega
          clear hq hp
          go_region
          all_goals
            go_wp2_with fail
            go_ret
            exact ⟨by rw [HQ.out.1, HQ.out.2]; rfl, ((hk.alloc _).alloc _).drewN 1⟩
        · have HQ : Hid (C / 7 % 3 = 2 ∧ C / 21 % 3 = 2) := ⟨hq, hp⟩
          have hq' : (C : Int) / 7 % 3 = 2 := by omega
          have hp' : (C : Int) / 21 % 3 = 2 := by omega
          clear hq hp
          go_region
          all_goals
            go_wp2_with fail
            go_ret
            exact ⟨by rw [HQ.out.1, HQ.out.2]; rfl, ((hk.alloc _).alloc _).drewN 1⟩
end Go.Proofs.YtnfojonmohijpaaGreatDoor
namespace Go.Proofs.YtnfojonmohijpaaGreatDoor
open Go.RowKit
def ltr (k : Nat) : UInt8 := match k % 4 with | 0 => 97 | 1 => 98 | 2 => 99 | _ => 46
def txT (s : ByteArray) (most : Nat) : ByteArray := bOf ((s.data.toList.take most).map fun b => ltr b.toNat)
theorem txT_size (s : ByteArray) (most : Nat) : (txT s most).size ≤ most := by
  unfold txT; rw [bOf_size]; simp; omega
theorem take_step {l : List UInt8} {i : Nat} {b : UInt8} (h : l[i]? = some b) : bOf ((l.take (i + 1)).map fun b => ltr b.toNat) = bOf ((l.take i).map fun b => ltr b.toNat) ++ bOf [ltr b.toNat] := by
  rw [List.take_add_one, h, List.map_append, bOf_app]; rfl
set_option maxRecDepth 100000 in
set_option maxHeartbeats 4000000 in
theorem ktext_any (s : ByteArray) (most : Nat) (hm : most ≤ 100) (w : World) : Calls Tryz.prog 32 #[.string s, .int .i64 most] w fun e w' => e = .returned (.string (txT s most)) ∧ Keeps [] w w' := by
  have hmm : (most : Int) ≤ 100 := by omega
  go_enter Tryz.func32, Tryz.ntmps32
  go_upto_region 3 with (fail)
  go_loopw [5, 6] (fun o q wr => ∃ i : Nat, q = .int .i64 i ∧ o = .string (bOf ((s.data.toList.take i).map fun b => ltr b.toNat)) ∧ i ≤ most ∧ i ≤ s.size ∧ Keeps [] w wr) (fun _ q _ => most - (intOf q).toNat)
  case atStart => exact ⟨0, rfl, rfl, Nat.zero_le _, Nat.zero_le _, Keeps.refl _ _⟩
  case round =>
    obtain ⟨i, rfl, rfl, hi, hs, hk⟩ := hrel
    by_cases hlt : i < s.size ∧ i < most
    · obtain ⟨hls, hlm⟩ := hlt
      have hb : s.data.toList[i]? = some (s[i]'hls) := by
        rw [Array.getElem?_toList]
        exact Array.getElem?_eq_getElem hls
      have hI := take_step hb
      have hn256 := (s[i]'hls).toNat_lt
      obtain ⟨n, hn⟩ : ∃ n, (s[i]'hls).toNat = n := ⟨_, rfl⟩
      rw [hn] at hI hn256
      have hz : (bOf ((s.data.toList.take i).map fun b => ltr b.toNat)).size ≤ 100 := by rw [bOf_size]; simp; omega
      generalize bOf ((s.data.toList.take i).map fun b => ltr b.toNat) = o at hI hz ⊢
      have hz' : (o.size : Int) ≤ 100 := by omega
      have hi0 : (0 : Int) ≤ (i : Int) := by omega
      have hi1 : (i : Int) < (s.size : Int) := by omega
      have hi2 : (i : Int) < (most : Int) := by omega
      have hi3 : (i : Int) ≤ 100 := by omega
      have hn0 : (0 : Int) ≤ (n : Int) := by omega
      have hn1 : (n : Int) ≤ 255 := by omega
      have hd1 : decide ((i : Int) < (s.size : Int)) = true := by simp; omega
      have HB : Hid (i < s.size ∧ i < most) := ⟨hls, hlm⟩
      have h4 : n % 4 = 0 ∨ n % 4 = 1 ∨ n % 4 = 2 ∨ n % 4 = 3 := by omega
      clear hb hlm hi hs
      rcases h4 with h4 | h4 | h4 | h4
      · have h4' : (n : Int) % 4 = 0 := by omega
        have hl : ltr n = 97 := by unfold ltr; rw [h4]; rfl
        rw [hl] at hI
        have HI := hI.symm
        have HI2 : Hid (o ++ bOf [97] = bOf ((s.data.toList.take (i + 1)).map fun b => ltr b.toNat)) := HI
        clear h4 hl HI hI
        go_wp2_with fail
        exact ⟨⟨i + 1, by go_num, (congrArg (fun z => Value.string (o ++ z)) (by decide +kernel)).trans (congrArg Value.string HI2.out), HB.out.2, HB.out.1, hk⟩, by have := HB.out; simp [intOf]; omega⟩
      · have h4' : (n : Int) % 4 = 1 := by omega
        have hl : ltr n = 98 := by unfold ltr; rw [h4]; rfl
        rw [hl] at hI
        have HI := hI.symm
        have HI2 : Hid (o ++ bOf [98] = bOf ((s.data.toList.take (i + 1)).map fun b => ltr b.toNat)) := HI
        clear h4 hl HI hI
        go_wp2_with fail
        exact ⟨⟨i + 1, by go_num, (congrArg (fun z => Value.string (o ++ z)) (by decide +kernel)).trans (congrArg Value.string HI2.out), HB.out.2, HB.out.1, hk⟩, by have := HB.out; simp [intOf]; omega⟩
      · have h4' : (n : Int) % 4 = 2 := by omega
        have hl : ltr n = 99 := by unfold ltr; rw [h4]; rfl
        rw [hl] at hI
        have HI := hI.symm
        have HI2 : Hid (o ++ bOf [99] = bOf ((s.data.toList.take (i + 1)).map fun b => ltr b.toNat)) := HI
        clear h4 hl HI hI
        go_wp2_with fail
        exact ⟨⟨i + 1, by go_num, (congrArg (fun z => Value.string (o ++ z)) (by decide +kernel)).trans (congrArg Value.string HI2.out), HB.out.2, HB.out.1, hk⟩, by have := HB.out; simp [intOf]; omega⟩
      · have h4' : (n : Int) % 4 = 3 := by omega
        have hl : ltr n = 46 := by unfold ltr; rw [h4]; rfl
        rw [hl] at hI
        have HI := hI.symm
        have HI2 : Hid (o ++ bOf [46] = bOf ((s.data.toList.take (i + 1)).map fun b => ltr b.toNat)) := HI
        clear h4 hl HI hI
        go_wp2_with fail
        exact ⟨⟨i + 1, by go_num, (congrArg (fun z => Value.string (o ++ z)) (by decide +kernel)).trans (congrArg Value.string HI2.out), HB.out.2, HB.out.1, hk⟩, by have := HB.out; simp [intOf]; omega⟩
    · have HO : bOf ((s.data.toList.take i).map fun b => ltr b.toNat) = txT s most := by
        unfold txT
        rcases Nat.lt_or_ge i s.size with h | h
        · rw [show i = most by omega]
        · have hl : s.data.toList.length = s.size := Array.length_toList
          rw [List.take_of_length_le (by omega), List.take_of_length_le (by omega)]
      rw [HO]
      clear HO
      by_cases h1 : i < s.size
      · have h2 : ¬ (i : Int) < (most : Int) := by omega
        have h1' : (i : Int) < (s.size : Int) := by omega
        clear hlt
        go_wp2_with fail
        go_ret
        exact ⟨rfl, hk⟩
      · have h1' : ¬ (i : Int) < (s.size : Int) := by omega
        clear hlt
        go_wp2_with fail
        go_ret
        exact ⟨rfl, hk⟩
end Go.Proofs.YtnfojonmohijpaaGreatDoor
namespace Go.Proofs.YtnfojonmohijpaaGreatDoor
theorem ans_of {p : List UInt8} {x : Nat → Pat} {n a b : Nat} (h : Mw p x n a b) (ha : a ≤ 6) (hn : n ≤ 9) (hp : p.head? ≠ some 94) (hl : p.length ≤ 60) {s : ByteArray} (hs : s.size ≤ 100) (hb : b * (s.size + 1) ≤ 20000)
    {t : List UInt8} {bb : Bool} {nn : Int} (hM : MatchA (bOf p) s t bb nn) :
    nn = 0 ∧ ((bb = true ∧ Mt s (x 0) 0 s.size ∧ ∃ ev, TR s (.node (x 0)) 0 s.size t ev) ∨ (bb = false ∧ t = [] ∧ ¬ Mt s (x 0) 0 s.size)) := by
  have hw := h.ws.whole ha hn hp (bOf p) (by simp [bOf])
  rcases hM with ⟨h1, _⟩ | ⟨_, q, hq, h2⟩
  · rw [bOf_size] at h1; omega
  · cases hq.det hw
    rcases h2 with ⟨h3, _⟩ | ⟨_, ⟨h3, rfl, rfl, rfl⟩ | ⟨h3, u, ev, hu, h4⟩⟩
    · omega
    · exact ⟨rfl, Or.inr ⟨rfl, rfl, h3⟩⟩
    · have hlen := hu.len h3
      have hA : (x 0).A * (s.size + 1) ≤ b * (s.size + 1) := Nat.mul_le_mul_right _ (h.len 0)
      simp only [Job.bnd, Nat.sub_zero] at hlen
      rcases h4 with ⟨_, rfl, rfl, rfl⟩ | ⟨h5, _⟩
      · exact ⟨rfl, Or.inl ⟨rfl, h3, ev, hu⟩⟩
      · omega
structure Seg (s s' : ByteArray) (d : Nat) : Prop where
  len : d + s'.size ≤ s.size
  get : ∀ k, k < s'.size → at' s' k = at' s (d + k)
theorem It.shift {R R' : Nat → Nat → Prop} {d L : Nat} (le : ∀ i j, R i j → i ≤ j) (le' : ∀ i j, R' i j → i ≤ j) (h : ∀ i j, j ≤ L → (R' i j ↔ R (d + i) (d + j))) : ∀ n i j, j ≤ L → (It R' n i j ↔ It R n (d + i) (d + j))
  | 0, i, j, _ => by
    constructor
    · intro e; show d + i = d + j; have : i = j := e; omega
    · intro e; show i = j; have : d + i = d + j := e; omega
  | n + 1, i, j, hj => by
    constructor
    · rintro ⟨m, a, b⟩
      have hm := It.mono le' b
      exact ⟨d + m, (h i m (by omega)).1 a, (It.shift le le' h n m j hj).1 b⟩
    · rintro ⟨m, a, b⟩
      have hm := It.mono le b
      have hi := le _ _ a
      obtain ⟨m', rfl⟩ : ∃ m', m = d + m' := ⟨m - d, by omega⟩
      exact ⟨m', (h i m' (by omega)).2 a, (It.shift le le' h n m' j hj).2 b⟩
theorem Seg.mt {s s' : ByteArray} {d : Nat} (h : Seg s s' d) : ∀ (x : Pat) (i j : Nat), j ≤ s'.size → (Mt s' x i j ↔ Mt s x (d + i) (d + j))
  | .set f, i, j, hj => by
    have hl := h.len
    constructor
    · rintro ⟨a, b, rfl⟩
      exact ⟨by omega, by rw [← h.get i a]; exact b, rfl⟩
    · rintro ⟨a, b, c⟩
      have hi : i < s'.size := by omega
      exact ⟨hi, by rw [h.get i hi]; exact b, by omega⟩
  | .grp _ x, i, j, hj => h.mt x i j hj
  | .rep mn mx x, i, j, hj => by
    have := It.shift (R := Mt s x) (R' := Mt s' x) (d := d) (L := s'.size) (fun _ _ a => a.le) (fun _ _ a => a.le) (fun i j hj => h.mt x i j hj)
    constructor
    · rintro ⟨n, a, b, c⟩; exact ⟨n, a, b, (this n i j hj).1 c⟩
    · rintro ⟨n, a, b, c⟩; exact ⟨n, a, b, (this n i j hj).2 c⟩
  | .pnil, i, j, hj => by
    constructor
    · intro e; show d + i = d + j; have : i = j := e; omega
    · intro e; show i = j; have : d + i = d + j := e; omega
  | .pcons x r, i, j, hj => by
    constructor
    · rintro ⟨m, a, b⟩
      have hm := b.le
      exact ⟨d + m, (h.mt x i m (by omega)).1 a, (h.mt r m j hj).1 b⟩
    · rintro ⟨m, a, b⟩
      have hm := b.le
      have hi := a.le
      obtain ⟨m', rfl⟩ : ∃ m', m = d + m' := ⟨m - d, by omega⟩
      exact ⟨m', (h.mt x i m' (by omega)).2 a, (h.mt r m' j hj).2 b⟩
  | .wone x, i, j, hj => h.mt x i j hj
  | .wcons x r, i, j, hj => or_congr (h.mt x i j hj) (h.mt r i j hj)
theorem Seg.mt0 {s s' : ByteArray} (h : Seg s s' 0) (x : Pat) (i j : Nat) (hj : j ≤ s'.size) : Mt s' x i j ↔ Mt s x i j := by
  have := h.mt x i j hj
  rwa [Nat.zero_add, Nat.zero_add] at this
theorem Seg.tm0 {s s' : ByteArray} (h : Seg s s' 0) (x : Pat) {mn : Nat} {mx : Int} (i j : Nat) (hj : j ≤ s'.size) : Tm (Mt s' x) mn mx i j ↔ Tm (Mt s x) mn mx i j := h.mt0 (.rep mn mx x) i j hj
theorem Cut.ext {P Q : Nat → Prop} {i j c : Nat} (h : ∀ m, m ≤ j → (P m ↔ Q m)) (k : Cut P i j c) : Cut Q i j c :=
  ⟨k.1, k.2.1, fun e => (h c k.2.1).1 (k.2.2.1 e), fun m a b e => k.2.2.2 m a b ((h m b).2 e)⟩
theorem Seg.tr {s s' : ByteArray} (h : Seg s s' 0) {J : Job} {i j : Nat} {t : List UInt8} {ev : List (Nat × Nat × Nat)} (k : TR s' J i j t ev) : j ≤ s'.size → J.ok s' i j → TR s J i j t ev := by
  induction k with
  | byte f i j =>
    intro hj ho
    have ho' : i < s'.size := ho.1
    have := h.get i ho'
    rw [Nat.zero_add] at this
    rw [this]; exact .byte f i j
  | grp k x i j t ev _ ih => intro hj ho; exact .grp _ _ _ _ _ _ (ih hj ho)
  | nil i j => intro _ _; exact .nil i j
  | lone x i j t ev _ ih =>
    intro hj ho
    obtain ⟨m, a, b⟩ := ho
    have e : m = j := b
    subst e
    exact .lone _ _ _ _ _ (ih hj a)
  | row x y r i j t ev _ ih => intro hj ho; exact .row _ _ _ _ _ _ _ (ih hj ho)
  | kend i j => intro _ _; exact .kend i j
  | kgo x r i j c t u ev fv hc _ _ ih1 ih2 =>
    intro hj ho
    obtain ⟨m, a, b⟩ := ho
    have hP := hc.hit ⟨m, a.le, b.le, a, b⟩
    have hcj := hc.2.1
    exact .kgo x r i j c t u ev fv (hc.ext fun m hm => and_congr (h.mt0 x i m (by omega)) (h.mt0 r m j hj)) (ih1 (by omega) hP.1) (ih2 hj hP.2)
  | rep mn mx x i j t ev _ ih => intro hj ho; exact .rep _ _ _ _ _ _ _ (ih hj ho)
  | tend mn mx x i j e => intro _ _; exact .tend _ _ _ _ _ e
  | tgo mn mx x i j c t u ev fv e hc _ _ ih1 ih2 =>
    intro hj ho
    obtain ⟨hP, _⟩ := Tm.cut (fun _ _ h => Mt.le h) ho e hc
    have hcj := hc.2.1
    exact .tgo mn mx x i j c t u ev fv e (hc.ext fun m hm => and_congr (h.mt0 x i m (by omega)) (h.tm0 x m j hj)) (ih1 (by omega) hP.1) (ih2 hj hP.2)
  | wone x i j t ev _ ih => intro hj ho; exact .wone _ _ _ _ _ (ih hj ho)
  | wcons x r i j t ev _ ih => intro hj ho; exact .wcons _ _ _ _ _ _ (ih hj ho)
  | hit p x r i j t ev m _ ih => intro hj ho; exact .hit _ _ _ _ _ _ _ ((h.mt0 x i j hj).1 m) (ih hj m)
  | miss p x r i j t ev m _ ih =>
    intro hj ho
    refine .miss _ _ _ _ _ _ _ (fun a => m ((h.mt0 x i j hj).2 a)) (ih hj (ho.elim (fun a => absurd a m) id))
  | last p x i j t ev _ ih => intro hj ho; exact .last _ _ _ _ _ _ (ih hj ho)
end Go.Proofs.YtnfojonmohijpaaGreatDoor
namespace Go.Proofs.YtnfojonmohijpaaGreatDoor
def GP (f : Nat → List Pat) (g : Nat) : Pat := .grp (g + 1) (.wone (pre (f (g + 1)) .pnil))
def gpT (p : List UInt8) : List UInt8 := [40] ++ p ++ [41]
theorem gp_sim {p : List UInt8} {f : Nat → List Pat} {n a b : Nat} (h : Md p f n a b) (s : ByteArray) (g i j : Nat) : Mt s (GP f g) i j ↔ Mt s (pre (f 0) .pnil) i j :=
  (simL.pre (y := .pnil) (z := .pnil) trivial (h.sim (g + 1) 0)).mt i j
theorem lone_mt (s : ByteArray) (x : Pat) (i j : Nat) : Mt s (.pcons x .pnil) i j ↔ Mt s x i j := by
  constructor
  · rintro ⟨m, a, b⟩
    have e : m = j := b
    exact e ▸ a
  · exact fun h => ⟨j, h, rfl⟩
theorem tr_lone {s : ByteArray} {x : Pat} {i j : Nat} {t : List UInt8} {ev : List (Nat × Nat × Nat)} (h : TR s (.node (.wone (.pcons x .pnil))) i j t ev) : TR s (.node x) i j t ev := by
  cases h with
  | wone _ _ _ _ _ h =>
    cases h with
    | lone _ _ _ _ _ h => exact h
theorem j_in {s : ByteArray} {f : Nat → List Pat} {z : Nat} {t u : List UInt8} {ev fv : List (Nat × Nat × Nat)} (e : f 1 = f 0) (h : TR s (.node (.wone (.pcons (GP f 0) .pnil))) 0 z t ev) (k : TR s (.node (.wone (pre (f 0) .pnil))) 0 z u fv) :
    t = [40, 103, 49, 32] ++ u ++ [41] := by
  have h1 := tr_lone h
  unfold GP at h1
  cases h1 with
  | grp _ _ _ _ t' ev' h2 =>
    rw [Nat.zero_add, e] at h2
    obtain ⟨rfl, _⟩ := h2.det _ _ k
    rfl
theorem j_either {s : ByteArray} {x r : Pat} {z : Nat} {t u : List UInt8} {ev fv : List (Nat × Nat × Nat)} (h : TR s (.node (.wcons (.pcons x .pnil) r)) 0 z t ev) (m : Mt s (.pcons x .pnil) 0 z) (k : TR s (.node (.wone (.pcons x .pnil))) 0 z u fv) :
    t = [40, 97, 48, 32] ++ u ++ [41] := by
  cases h with
  | wcons _ _ _ _ _ _ h =>
    cases h with
    | hit _ _ _ _ _ t' _ _ h2 =>
      cases k with
      | wone _ _ _ _ _ k =>
        obtain ⟨rfl, _⟩ := h2.det _ _ k
        rfl
    | miss _ _ _ _ _ _ _ h2 _ => exact absurd m h2
theorem j_both {s : ByteArray} {x y : Pat} {z m : Nat} {t u : List UInt8} {ev fv : List (Nat × Nat × Nat)} (h : TR s (.node (.wone (.pcons x (.pcons y .pnil)))) 0 z t ev) (hm : m ≤ z) (h1 : Mt s x 0 m) (h2 : Mt s (.pcons y .pnil) m z)
    (hn : ∀ k, m < k → k ≤ z → ¬ (Mt s x 0 k ∧ Mt s (.pcons y .pnil) k z)) (k : TR s (.node (.wone (.pcons x .pnil))) 0 m u fv) : ∃ r, t = [40, 115, 32] ++ u ++ [32] ++ r ∧ r ≠ [] := by
  cases h with
  | wone _ _ _ _ _ h =>
    cases h with
    | row _ _ _ _ _ t1 _ h =>
      cases h with
      | kgo _ _ _ _ c t2 u2 ev2 fv2 hc ha hb =>
        have hcut : Cut (fun m => Mt s x 0 m ∧ Mt s (.pcons y .pnil) m z) 0 z m := ⟨Nat.zero_le _, hm, fun _ => ⟨h1, h2⟩, hn⟩
        obtain rfl := hc.one hcut
        obtain ⟨rfl, _⟩ := ha.det _ _ (tr_lone k)
        cases hb with
        | kgo _ _ _ _ c' t3 u3 ev3 fv3 hc' ha' hb' =>
          exact ⟨t3 ++ u3 ++ [41], by simp, by simp⟩
theorem jm_p {p : List UInt8} {f : Nat → List Pat} {n a b : Nat} (h : Md p f n a b) : Mw (gpT p) (fun g => .wone (.pcons (GP f g) .pnil)) (n + 1) (a + 1) (b + 23) := h.one.grp0.one
theorem jm_either {p q : List UInt8} {f f' : Nat → List Pat} {n n' a a' b b' : Nat} (h : Md p f n a b) (k : Md q f' n' a' b') :
    Mw (gpT p ++ [124] ++ gpT q) (fun g => .wcons (.pcons (GP f g) .pnil) (.wone (.pcons (GP f' (g + (n + 1))) .pnil))) (n + 1 + (n' + 1)) (max (a + 1) (a' + 1)) (b + 16 + (b' + 23) + 7) := h.one.grp0.alt k.one.grp0.one
theorem jm_both {p q : List UInt8} {f f' : Nat → List Pat} {n n' a a' b b' : Nat} (h : Md p f n a b) (k : Md q f' n' a' b') :
    Mw (gpT p ++ gpT q) (fun g => .wone (.pcons (GP f g) (.pcons (GP f' (g + (n + 1))) .pnil))) (n + 1 + (n' + 1)) (max (a + 1) (a' + 1)) (b + 16 + (b' + 16) + 7) := (h.one.grp0.join k.one.grp0).one
end Go.Proofs.YtnfojonmohijpaaGreatDoor
namespace Go.Proofs.YtnfojonmohijpaaGreatDoor
def Made2 (p : List UInt8) : Prop := ∃ f n a, Md p f n a 447 ∧ n ≤ 3 ∧ a ≤ 2
theorem made2_md (c : Nat → Nat) (i : Nat) : Made2 (mdT c 2 i) := by
  obtain ⟨f, n, a, h, hn, ha⟩ := md_all c 2 i
  exact ⟨f, n, a, h, by have : n + 1 ≤ 4 := hn; omega, ha⟩
theorem made2_sg (k : Nat) : Made2 (sgT k) := ⟨_, 0, 0, (Md.single k).more (by decide), by decide, by decide⟩
theorem gpT_len (p : List UInt8) : (gpT p).length = p.length + 2 := by simp [gpT]
theorem gpT_head (p r : List UInt8) : (gpT p ++ r).head? ≠ some 94 := by simp [gpT]
structure JL (p q : List UInt8) (s : ByteArray) (tk : List UInt8) (k : Bool) (M1 M2 : Nat → Prop) : Prop where
  fst : ∀ m s1, Seg s s1 0 → s1.size = m → ∀ t b n, MatchA (bOf (gpT p)) s1 t b n → n = 0 ∧ (b = true ↔ M1 m)
  snd : ∀ m s2, m ≤ s.size → Seg s s2 m → s2.size = s.size - m → ∀ t b n, MatchA (bOf (gpT q)) s2 t b n → n = 0 ∧ (b = true ↔ M2 m)
  no : k = false → ∀ m, m ≤ s.size → ¬ (M1 m ∧ M2 m)
  yes : k = true → ∃ m, m ≤ s.size ∧ M1 m ∧ M2 m
  top : ∀ m s1, Seg s s1 0 → s1.size = m → m ≤ s.size → M1 m → M2 m → (∀ j, m < j → j ≤ s.size → ¬ (M1 j ∧ M2 j)) → ∀ t b n, MatchA (bOf (gpT p)) s1 t b n → ∃ r, tk = [40, 115, 32] ++ t ++ [32] ++ r ∧ r ≠ []
theorem bool_of {a : Bool} {P : Prop} {Q R : Prop} (h : (a = true ∧ P ∧ Q) ∨ (a = false ∧ R ∧ ¬ P)) : a = true ↔ P := by
  rcases h with ⟨rfl, hp, _⟩ | ⟨rfl, _, hp⟩
  · exact ⟨fun _ => hp, fun _ => rfl⟩
  · exact ⟨(nomatch ·), fun h => absurd h hp⟩
theorem MatchA.len {p s : ByteArray} {t : List UInt8} {b : Bool} {n : Int} (h : MatchA p s t b n) : t.length ≤ 20000 := by
  rcases h with ⟨_, rfl, _⟩ | ⟨_, q, _, h⟩
  · simp
  · cases q with
    | bad j => obtain ⟨rfl, _⟩ := h; simp
    | ok W j =>
      rcases h with ⟨_, rfl, _⟩ | ⟨_, ⟨_, rfl, _⟩ | ⟨_, u, ev, _, ⟨h, rfl, _⟩ | ⟨_, rfl, _⟩⟩⟩
      · simp
      · simp
      · exact h
      · simp
theorem MatchA.size {p s : ByteArray} {t : List UInt8} {b : Bool} {n : Int} (h : MatchA p s t b n) : ((nmB t).size : Int) ≤ 20000 := by
  have := h.len
  have e : (nmB t).size = t.length := bOf_size t
  omega
theorem joined_math {p q : List UInt8} (hp : Made2 p) (hq : Made2 q) (lp : p.length ≤ 25) (lq : q.length ≤ 25) {s : ByteArray} (hs : s.size ≤ 10) {tp tb te ti tk : List UInt8} {a b c d k : Bool} {e1 e2 e3 e4 e5 : Int}
    (h1 : MatchA (bOf p) s tp a e1) (h2 : MatchA (bOf (gpT q)) s tb b e2) (h3 : MatchA (bOf (gpT p ++ [124] ++ gpT q)) s te c e3) (h4 : MatchA (bOf (gpT p)) s ti d e4) (h5 : MatchA (bOf (gpT p ++ gpT q)) s tk k e5) :
    e1 = 0 ∧ e2 = 0 ∧ e3 = 0 ∧ e4 = 0 ∧ e5 = 0 ∧ c = (a || b) ∧ d = a ∧ (a = true → 40 ∉ p → ti = [40, 103, 49, 32] ++ tp ++ [41]) ∧ (a = true → te = [40, 97, 48, 32] ++ ti ++ [41]) ∧ ∃ M1 M2, JL p q s tk k M1 M2 := by
  obtain ⟨f, n, da, P, hn, hda⟩ := hp
  obtain ⟨f', n', da', Q, hn', hda'⟩ := hq
  have hb : ∀ z, z ≤ 950 → ∀ s' : ByteArray, s'.size ≤ 10 → z * (s'.size + 1) ≤ 20000 := fun z hz s' hs' => Nat.le_trans (Nat.mul_le_mul hz (by omega : s'.size + 1 ≤ 11)) (by decide)
  have hgp : (gpT p).head? ≠ some 94 := by simp [gpT]
  have hgq : (gpT q).head? ≠ some 94 := by simp [gpT]
  have aP : ∀ s' : ByteArray, s'.size ≤ 10 → ∀ {t bb nn}, MatchA (bOf (gpT p)) s' t bb nn → _ := fun s' hs' {t bb nn} hM => ans_of (jm_p P) (by omega) (by omega) hgp (by rw [gpT_len]; omega) (by omega : s'.size ≤ 100) (hb _ (by decide) s' hs') hM
  have aQ : ∀ s' : ByteArray, s'.size ≤ 10 → ∀ {t bb nn}, MatchA (bOf (gpT q)) s' t bb nn → _ := fun s' hs' {t bb nn} hM => ans_of (jm_p Q) (by omega) (by omega) hgq (by rw [gpT_len]; omega) (by omega : s'.size ≤ 100) (hb _ (by decide) s' hs') hM
  obtain ⟨z1, r1⟩ := ans_of P.one (by omega) (by omega) P.hd (by omega) (by omega) (hb _ (by decide) s hs) h1
  obtain ⟨z2, r2⟩ := aQ s hs h2
  obtain ⟨z3, r3⟩ := ans_of (jm_either P Q) (by omega) (by omega) (by rw [List.append_assoc]; exact gpT_head _ _) (by simp only [List.length_append, gpT_len, List.length_cons, List.length_nil]; omega) (by omega) (hb _ (by decide) s hs) h3
  obtain ⟨z4, r4⟩ := aP s hs h4
  obtain ⟨z5, r5⟩ := ans_of (jm_both P Q) (by omega) (by omega) (gpT_head _ _) (by simp only [List.length_append, gpT_len]; omega) (by omega) (hb _ (by decide) s hs) h5
  have m4 : ∀ (s' : ByteArray) i j, Mt s' (.wone (.pcons (GP f 0) .pnil)) i j ↔ Mt s' (pre (f 0) .pnil) i j := fun s' i j => (lone_mt s' _ i j).trans (gp_sim P s' 0 i j)
  have m2 : ∀ (s' : ByteArray) g i j, Mt s' (.wone (.pcons (GP f' g) .pnil)) i j ↔ Mt s' (pre (f' 0) .pnil) i j := fun s' g i j => (lone_mt s' _ i j).trans (gp_sim Q s' g i j)
  have b1 : a = true ↔ Mt s (pre (f 0) .pnil) 0 s.size := bool_of r1
  have b2 : b = true ↔ Mt s (pre (f' 0) .pnil) 0 s.size := (bool_of r2).trans (m2 s 0 _ _)
  have b3 : c = true ↔ Mt s (pre (f 0) .pnil) 0 s.size ∨ Mt s (pre (f' 0) .pnil) 0 s.size := (bool_of r3).trans (or_congr (m4 s _ _) (m2 s _ _ _))
  have b4 : d = true ↔ Mt s (pre (f 0) .pnil) 0 s.size := (bool_of r4).trans (m4 s _ _)
  have hca : c = (a || b) := by
    rw [Bool.eq_iff_iff, Bool.or_eq_true, b3, b1, b2]
  have hda4 : d = a := by rw [Bool.eq_iff_iff, b4, b1]
  refine ⟨z1, z2, z3, z4, z5, hca, hda4, fun ha hbare => ?_, fun ha => ?_, fun m => Mt s (pre (f 0) .pnil) 0 m, fun m => Mt s (pre (f' 0) .pnil) m s.size, ?_⟩
  · rcases r1 with ⟨_, _, ev1, t1⟩ | ⟨rfl, _⟩
    · rcases r4 with ⟨_, _, ev4, t4⟩ | ⟨rfl, _⟩
      · exact j_in (P.bare hbare 1 0) t4 t1
      · subst hda4; cases ha
    · cases ha
  · rcases r4 with ⟨_, mt4, ev4, t4⟩ | ⟨rfl, _⟩
    · rcases r3 with ⟨_, _, ev3, t3⟩ | ⟨rfl, _⟩
      · exact j_either t3 mt4 t4
      · rw [ha] at hca; cases hca
    · subst hda4; cases ha
  · have hbk : k = true ↔ ∃ m, m ≤ s.size ∧ Mt s (pre (f 0) .pnil) 0 m ∧ Mt s (pre (f' 0) .pnil) m s.size := by
      refine (bool_of r5).trans ⟨?_, ?_⟩
      · rintro ⟨m, x1, x2⟩
        exact ⟨m, x2.le, (gp_sim P s 0 0 m).1 x1, (m2 s _ _ _).1 x2⟩
      · rintro ⟨m, _, x1, x2⟩
        exact ⟨m, (gp_sim P s 0 0 m).2 x1, (m2 s _ _ _).2 x2⟩
    constructor
    · intro m s1 hg hz t b n hM
      have hl := hg.len
      obtain ⟨zz, rr⟩ := aP s1 (by omega) hM
      refine ⟨zz, ?_⟩
      refine (bool_of rr).trans ((m4 s1 _ _).trans ?_)
      rw [hz]
      exact hg.mt0 _ 0 m (by omega)
    · intro m s2 hm hg hz t b n hM
      have hl := hg.len
      obtain ⟨zz, rr⟩ := aQ s2 (by omega) hM
      refine ⟨zz, ?_⟩
      refine (bool_of rr).trans ((m2 s2 0 _ _).trans ?_)
      have := hg.mt (pre (f' 0) .pnil) 0 s2.size (Nat.le_refl _)
      rw [Nat.add_zero, show m + s2.size = s.size by omega] at this
      exact this
    · intro hk m hm hmm
      have := hbk.2 ⟨m, hm, hmm⟩
      rw [hk] at this; cases this
    · exact fun hk => hbk.1 hk
    · intro m s1 hg hz hm x1 x2 hmax t b n hM
      have hl := hg.len
      obtain ⟨zz, rr⟩ := aP s1 (by omega) hM
      have hk : k = true := hbk.2 ⟨m, hm, x1, x2⟩
      rcases r5 with ⟨_, _, ev5, t5⟩ | ⟨hk', _⟩
      · rcases rr with ⟨_, mtt, ev, tt⟩ | ⟨_, _, hno⟩
        · rw [hz] at tt mtt
          have tt' := hg.tr tt (by omega) mtt
          exact j_both t5 hm ((gp_sim P s 0 0 m).2 x1) ((m2 s _ _ _).2 x2) (fun j hj1 hj2 hj => hmax j hj1 hj2 ⟨(gp_sim P s 0 0 j).1 hj.1, (m2 s _ _ _).1 hj.2⟩) tt'
        · exfalso
          apply hno
          rw [hz]
          exact (m4 s1 _ _).2 ((hg.mt0 _ 0 m (by omega)).2 x1)
      · rw [hk] at hk'; cases hk'
end Go.Proofs.YtnfojonmohijpaaGreatDoor
namespace Go.Proofs.YtnfojonmohijpaaGreatDoor
open Go.RowKit
theorem gpB (p : List UInt8) : (⟨#[40]⟩ : ByteArray) ++ bOf p ++ ⟨#[41]⟩ = bOf (gpT p) := by rw [gpT, bOf_app, bOf_app]; rfl
theorem altB (p q : List UInt8) : (⟨#[40]⟩ : ByteArray) ++ bOf p ++ ⟨#[41, 124, 40]⟩ ++ bOf q ++ ⟨#[41]⟩ = bOf (gpT p ++ [124] ++ gpT q) := by
  have : gpT p ++ [124] ++ gpT q = [40] ++ p ++ [41, 124, 40] ++ q ++ [41] := by simp [gpT]
  rw [this, bOf_app, bOf_app, bOf_app, bOf_app]; rfl
theorem bothB (p q : List UInt8) : (⟨#[40]⟩ : ByteArray) ++ bOf p ++ ⟨#[41, 40]⟩ ++ bOf q ++ ⟨#[41]⟩ = bOf (gpT p ++ gpT q) := by
  have : gpT p ++ gpT q = [40] ++ p ++ [41, 40] ++ q ++ [41] := by simp [gpT]
  rw [this, bOf_app, bOf_app, bOf_app, bOf_app]; rfl
theorem ext_pre (a r : List UInt8) : (bOf (a ++ r)).extract 0 a.length = bOf a := by
  apply ByteArray.ext
  simp [bOf, ByteArray.data_extract]
theorem both_head {tk x r : List UInt8} (h : tk = [40, 115, 32] ++ x ++ [32] ++ r) (hr : r ≠ []) {H : ByteArray} (hH : (⟨#[40, 115, 32]⟩ : ByteArray) ++ nmB x ++ ⟨#[32]⟩ = H) : H.size < (nmB tk).size ∧ (nmB tk).extract 0 H.size = H := by
  have e : H = bOf ([40, 115, 32] ++ x ++ [32]) := by rw [← hH, bOf_app, bOf_app]; rfl
  have es : H.size = ([40, 115, 32] ++ x ++ [32]).length := by rw [e, bOf_size]
  have et : nmB tk = bOf ([40, 115, 32] ++ x ++ [32] ++ r) := by rw [h]; rfl
  have hl : 0 < r.length := List.length_pos_iff.2 hr
  rw [et]
  refine ⟨?_, ?_⟩
  · have h9 : ([40, 115, 32] ++ x ++ [32] ++ r).length = ([40, 115, 32] ++ x ++ [32]).length + r.length := List.length_append
    rw [es, bOf_size, h9]; omega
  · rw [es, ext_pre, e]
theorem at_ext (t : ByteArray) (a b k : Nat) (h : k < (t.extract a b).size) : at' (t.extract a b) k = at' t (a + k) := by
  have hs : (t.extract a b).size = min b t.size - a := ByteArray.size_extract
  rw [at'_lt h, at'_lt (by omega : a + k < t.size), ByteArray.getElem_extract]
theorem seg_pre (t : ByteArray) {m : Nat} (hm : m ≤ t.size) : Seg t (t.extract 0 m) 0 ∧ (t.extract 0 m).size = m := by
  have hs : (t.extract 0 m).size = min m t.size - 0 := ByteArray.size_extract
  exact ⟨⟨by omega, fun k hk => at_ext t 0 m k hk⟩, by omega⟩
theorem seg_suf (t : ByteArray) {m : Nat} (hm : m ≤ t.size) : Seg t (t.extract m t.size) m ∧ (t.extract m t.size).size = t.size - m := by
  have hs : (t.extract m t.size).size = min t.size t.size - m := ByteArray.size_extract
  exact ⟨⟨by omega, fun k hk => at_ext t m t.size k hk⟩, by omega⟩
end Go.Proofs.YtnfojonmohijpaaGreatDoor
