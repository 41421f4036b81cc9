/-
  DERIVED. The contract of yarrowkeep's made: the pattern's text is the one that the raw numbers speak of.
-/
import Derived.Test.YtnfojonmohijpaaGreatDoorJYC
set_option linter.unusedSimpArgs false
set_option linter.unusedVariables false
namespace Go.Proofs.YtnfojonmohijpaaGreatDoor
open Go.RowKit
theorem bOf_app (a b : List UInt8) : bOf (a ++ b) = bOf a ++ bOf b := by
  apply ByteArray.ext
  simp [bOf]
theorem sgT_len (k : Nat) : (sgT k).length ≤ 11 := by
  match k with
  | 0 => decide
  | 1 => decide
  | 2 => decide
  | 3 => decide
  | 4 => decide
  | 5 => decide
  | 6 => decide
  | 7 => decide
  | _ + 8 => exact (by decide : ([92, 46] : List UInt8).length ≤ 11)
theorem rpT_len (k : Nat) : (rpT k).length ≤ 1 := by
  match k with
  | 0 => decide
  | 1 => decide
  | _ + 2 => exact (by decide : ([43] : List UInt8).length ≤ 1)
theorem lwT_len (k : Nat) : (lwT k).length ≤ 1 := by
  match k with
  | 0 => decide
  | 1 => decide
  | _ + 2 => exact (by decide : ([50] : List UInt8).length ≤ 1)
theorem hiT_len (k : Nat) : (hiT k).length ≤ 1 := by
  match k with
  | 0 => decide
  | 1 => decide
  | _ + 2 => exact (by decide : ([] : List UInt8).length ≤ 1)
theorem mdT_len (c : Nat → Nat) : ∀ deep i, (mdT c deep i).length + 3 ≤ 14 * 2 ^ deep
  | 0, i => by have := sgT_len (c i / 7 % 9); simp only [mdT]; omega
  | deep + 1, i => by
    have h1 := mdT_len c deep (i + 1)
    have h2 := mdT_len c deep (i + 2)
    have h3 := sgT_len (c i / 7 % 9)
    have h4 := rpT_len (c i / 7 % 3)
    have h5 := lwT_len (c i / 7 % 3)
    have h6 := hiT_len (c i / 21 % 3)
    have hp : 2 ^ (deep + 1) = 2 * 2 ^ deep := by rw [Nat.pow_succ]; omega
    have hp1 : 1 ≤ 2 ^ deep := Nat.one_le_pow _ _ (by omega)
    unfold mdT
    split <;> (try simp only [List.length_append, List.length_cons, List.length_nil]) <;> omega
theorem bOf_size (l : List UInt8) : (bOf l).size = l.length := by simp [bOf, ByteArray.size]
theorem mdT_zero (c : Nat → Nat) (deep i : Nat) (h : deep = 0 ∨ c i % 7 = 0) : mdT c deep i = sgT (c i / 7 % 9) := by
  cases deep with
  | zero => rfl
  | succ d =>
    rcases h with h | h
    · cases h
    · unfold mdT; rw [h]; rfl
theorem cv_lt (zs : List Int) (i : Nat) : cv zs i < 1099511627776 := by
  unfold cv
  cases zs[i]? with
  | none => decide
  | some z => exact Nat.mod_lt _ (by decide)
def mdX (k c : Nat) (x y : ByteArray) : ByteArray :=
  match k with
  | 1 => bOf [40] ++ x ++ bOf [41]
  | 2 => x ++ y
  | 3 => bOf [40] ++ x ++ bOf [124] ++ y ++ bOf [41]
  | 4 => bOf [40] ++ x ++ bOf [41, 42]
  | 5 => bOf [40] ++ x ++ bOf [124, 41] ++ bOf (rpT (c / 7 % 3))
  | _ => bOf [40] ++ x ++ bOf [41, 123] ++ bOf (lwT (c / 7 % 3)) ++ bOf [44] ++ bOf (hiT (c / 21 % 3)) ++ bOf [125]
theorem mdT_succ (c : Nat → Nat) (deep i : Nat) (h : c i % 7 ≠ 0) : bOf (mdT c (deep + 1) i) = mdX (c i % 7) (c i) (bOf (mdT c deep (i + 1))) (bOf (mdT c deep (i + 2))) := by
  rw [mdT]
  generalize c i % 7 = k at h ⊢
  match k, h with
  | 0, h => exact absurd rfl h
  | 1, _ => simp only [mdX, bOf_app]
  | 2, _ => simp only [mdX, bOf_app]
  | 3, _ => simp only [mdX, bOf_app]
  | 4, _ => simp only [mdX, bOf_app]
  | 5, _ => simp only [mdX, bOf_app]
  | _ + 6, _ => simp only [mdX, bOf_app]
set_option maxRecDepth 100000 in
set_option maxHeartbeats 8000000 in
theorem made_any (v : Value) (zs : List Int) : ∀ (deep : Nat), deep ≤ 3 → ∀ (i : Nat), i + 2 * deep ≤ 900 → ∀ (w : World), RawIs w v zs →
    Calls Tryz.prog 31 #[v, .int .i64 i, .int .i64 deep] w fun e w' => e = .returned (.string (bOf (mdT (cv zs) deep i))) ∧ Keeps [] w w' := by
  intro deep
  induction deep with
  | zero =>
    intro _ i hi w hr
    have h1 := kat_any v zs i (by omega) w hr
    have hb := cv_lt zs i
    rw [mdT_zero _ _ _ (Or.inl rfl)]
    generalize cv zs i = C at h1 hb ⊢
    have hS := ksingle_any (C / 7) (by omega) w
    have hb' : (C : Int) < 1099511627776 := by omega
    have hb0 : (0 : Int) ≤ (C : Int) := by omega
    go_enter Tryz.func31, Tryz.ntmps31
    go_wp2_with fail
    refine h1.mono ?_
    rintro e w1 ⟨rfl, rfl⟩
    clear h1 hr
    go_wp2_with fail
    refine hS.mono ?_
    rintro e w2 ⟨rfl, hk⟩
    clear hS
    go_wp2_with fail
    go_ret
    exact ⟨rfl, hk⟩
  | succ deep ih =>
    intro hdp i hi w hr
    obtain ⟨D, hDe⟩ : ∃ D : Int, ((deep + 1 : Nat) : Int) = D := ⟨_, rfl⟩
    rw [hDe]
    have hD1 : D - 1 = (deep : Int) := by omega
    have hD3 : D ≤ 3 := by omega
    have hD0 : 1 ≤ D := by omega
    have hDz : ¬ D = 0 := by omega
    have hDd : (D == 0) = false := by simp [hDz]
    clear hDe
    have hd0 : (0 : Int) ≤ (deep : Int) := by omega
    have hi0 : (0 : Int) ≤ (i : Int) := by omega
    have h1 := kat_any v zs i (by omega) w hr
    have hb := cv_lt zs i
    have hx := ih (by omega) (i + 1) (by omega)
    have hy := ih (by omega) (i + 2) (by omega)
    have hlx := mdT_len (cv zs) deep (i + 1)
    have hly := mdT_len (cv zs) deep (i + 2)
    have hp3 : 2 ^ deep ≤ 8 := Nat.pow_le_pow_right (by decide) (by omega : deep ≤ 3)
    have hdn : (deep : Int) ≤ 2 := by omega
    have hin : (i : Int) ≤ 900 := by omega
    by_cases h0 : cv zs i % 7 = 0
    · rw [mdT_zero _ _ _ (Or.inr h0)]
      generalize cv zs i = C at h1 hb h0 ⊢
      have hS := ksingle_any (C / 7) (by omega) w
      have hb' : (C : Int) < 1099511627776 := by omega
      have hb0 : (0 : Int) ≤ (C : Int) := by omega
      have h0' : (C : Int) % 7 = 0 := by omega
      clear ih hx hy hlx hly h0
      go_enter Tryz.func31, Tryz.ntmps31
      go_wp2_with fail
      refine h1.mono ?_
      rintro e w1 ⟨rfl, rfl⟩
      clear h1 hr
      go_wp2_with fail
      refine hS.mono ?_
      rintro e w2 ⟨rfl, hk⟩
      clear hS
      go_wp2_with fail
      go_ret
      exact ⟨rfl, hk⟩
    · rw [mdT_succ _ _ _ h0]
      generalize cv zs i = C at h1 hb h0 ⊢
      rw [← bOf_size] at hlx hly
      generalize bOf (mdT (cv zs) deep (i + 1)) = x at hx hlx ⊢
      generalize bOf (mdT (cv zs) deep (i + 2)) = y at hy hly ⊢
      have hb' : (C : Int) < 1099511627776 := by omega
      have hb0 : (0 : Int) ≤ (C : Int) := by omega
      have hx1 : (x.size : Int) ≤ 200 := by omega
      have hy1 : (y.size : Int) ≤ 200 := by omega
      have HX : Hid (∀ w, RawIs w v zs → Calls Tryz.prog 31 #[v, .int .i64 ((i + 1 : Nat) : Int), .int .i64 (deep : Int)] w fun e w' => e = .returned (.string x) ∧ Keeps [] w w') := hx
      have HY : Hid (∀ w, RawIs w v zs → Calls Tryz.prog 31 #[v, .int .i64 ((i + 2 : Nat) : Int), .int .i64 (deep : Int)] w fun e w' => e = .returned (.string y) ∧ Keeps [] w w') := hy
      have hd7 : C % 7 = 1 ∨ C % 7 = 2 ∨ C % 7 = 3 ∨ C % 7 = 4 ∨ C % 7 = 5 ∨ C % 7 = 6 := by omega
      clear ih hlx hly hx hy h0
      rcases hd7 with h7 | h7 | h7 | h7 | h7 | h7
      · rw [h7]
        have h7' : (C : Int) % 7 = 1 := by omega
        clear h7
        go_enter Tryz.func31, Tryz.ntmps31
        go_wp2_with fail
        refine h1.mono ?_
        rintro e w1 ⟨rfl, rfl⟩
        clear h1
        go_wp2_with fail
        refine (HX.out w1 hr).mono ?_
        rintro e w2 ⟨rfl, hk2⟩
        have hr2 := hr.keep hk2
        clear hr HX
        go_wp2_with fail
        refine (HY.out w2 hr2).mono ?_
        rintro e w3 ⟨rfl, hk3⟩
        have hk := hk2.trans hk3
        clear hr2 HY hk2 hk3
        go_wp2_with fail
        go_ret
        exact ⟨rfl, hk⟩
      · rw [h7]
        have h7' : (C : Int) % 7 = 2 := by omega
        clear h7
        go_enter Tryz.func31, Tryz.ntmps31
        go_wp2_with fail
        refine h1.mono ?_
        rintro e w1 ⟨rfl, rfl⟩
        clear h1
        go_wp2_with fail
        refine (HX.out w1 hr).mono ?_
        rintro e w2 ⟨rfl, hk2⟩
        have hr2 := hr.keep hk2
        clear hr HX
        go_wp2_with fail
        refine (HY.out w2 hr2).mono ?_
        rintro e w3 ⟨rfl, hk3⟩
        have hk := hk2.trans hk3
        clear hr2 HY hk2 hk3
        go_wp2_with fail
        go_ret
        exact ⟨rfl, hk⟩
      · rw [h7]
        have h7' : (C : Int) % 7 = 3 := by omega
        clear h7
        go_enter Tryz.func31, Tryz.ntmps31
        go_wp2_with fail
        refine h1.mono ?_
        rintro e w1 ⟨rfl, rfl⟩
        clear h1
        go_wp2_with fail
        refine (HX.out w1 hr).mono ?_
        rintro e w2 ⟨rfl, hk2⟩
        have hr2 := hr.keep hk2
        clear hr HX
        go_wp2_with fail
        refine (HY.out w2 hr2).mono ?_
        rintro e w3 ⟨rfl, hk3⟩
        have hk := hk2.trans hk3
        clear hr2 HY hk2 hk3
        go_wp2_with fail
        go_ret
        exact ⟨rfl, hk⟩
      · rw [h7]
        have h7' : (C : Int) % 7 = 4 := by omega
        clear h7
        go_enter Tryz.func31, Tryz.ntmps31
        go_wp2_with fail
        refine h1.mono ?_
        rintro e w1 ⟨rfl, rfl⟩
        clear h1
        go_wp2_with fail
        refine (HX.out w1 hr).mono ?_
        rintro e w2 ⟨rfl, hk2⟩
        have hr2 := hr.keep hk2
        clear hr HX
        go_wp2_with fail
        refine (HY.out w2 hr2).mono ?_
        rintro e w3 ⟨rfl, hk3⟩
        have hk := hk2.trans hk3
        clear hr2 HY hk2 hk3
        go_wp2_with fail
        go_ret
        exact ⟨rfl, hk⟩
      · rw [h7]
        have h7' : (C : Int) % 7 = 5 := by omega
        have hq : C / 7 % 3 = 0 ∨ C / 7 % 3 = 1 ∨ C / 7 % 3 = 2 := by omega
        unfold mdX
        rcases hq with hq | hq | hq
        · rw [hq]
          have hq' : (C : Int) / 7 % 3 = 0 := by omega
          clear hq
          clear h7
          go_enter Tryz.func31, Tryz.ntmps31
          go_wp2_with fail
          refine h1.mono ?_
          rintro e w1 ⟨rfl, rfl⟩
          clear h1
          go_wp2_with fail
          refine (HX.out w1 hr).mono ?_
          rintro e w2 ⟨rfl, hk2⟩
          have hr2 := hr.keep hk2
          clear hr HX
          go_wp2_with fail
          refine (HY.out w2 hr2).mono ?_
          rintro e w3 ⟨rfl, hk3⟩
          have hk := hk2.trans hk3
          clear hr2 HY hk2 hk3
          go_wp2_with fail
          go_ret
          exact ⟨rfl, hk.alloc _⟩
        · rw [hq]
          have hq' : (C : Int) / 7 % 3 = 1 := by omega
          clear hq
          clear h7
          go_enter Tryz.func31, Tryz.ntmps31
          go_wp2_with fail
          refine h1.mono ?_
          rintro e w1 ⟨rfl, rfl⟩
          clear h1
          go_wp2_with fail
          refine (HX.out w1 hr).mono ?_
          rintro e w2 ⟨rfl, hk2⟩
          have hr2 := hr.keep hk2
          clear hr HX
          go_wp2_with fail
          refine (HY.out w2 hr2).mono ?_
          rintro e w3 ⟨rfl, hk3⟩
          have hk := hk2.trans hk3
          clear hr2 HY hk2 hk3
          go_wp2_with fail
          go_ret
          exact ⟨rfl, hk.alloc _⟩
        · rw [hq]
          have hq' : (C : Int) / 7 % 3 = 2 := by omega
          clear hq
          clear h7
          go_enter Tryz.func31, Tryz.ntmps31
          go_wp2_with fail
          refine h1.mono ?_
          rintro e w1 ⟨rfl, rfl⟩
          clear h1
          go_wp2_with fail
          refine (HX.out w1 hr).mono ?_
          rintro e w2 ⟨rfl, hk2⟩
          have hr2 := hr.keep hk2
          clear hr HX
          go_wp2_with fail
          refine (HY.out w2 hr2).mono ?_
          rintro e w3 ⟨rfl, hk3⟩
          have hk := hk2.trans hk3
          clear hr2 HY hk2 hk3
          go_wp2_with fail
          go_ret
          exact ⟨rfl, hk.alloc _⟩
      · rw [h7]
        have h7' : (C : Int) % 7 = 6 := by omega
        clear h7
        have hq : C / 7 % 3 = 0 ∨ C / 7 % 3 = 1 ∨ C / 7 % 3 = 2 := by omega
        have hp : C / 21 % 3 = 0 ∨ C / 21 % 3 = 1 ∨ C / 21 % 3 = 2 := by omega
        have HC : Hid (C < 1099511627776) := hb
        unfold mdX
        go_enter Tryz.func31, Tryz.ntmps31
        go_wp2_with fail
        refine h1.mono ?_
        rintro e w1 ⟨rfl, rfl⟩
        clear h1
        go_wp2_with fail
        refine (HX.out w1 hr).mono ?_
        rintro e w2 ⟨rfl, hk2⟩
        have hr2 := hr.keep hk2
        clear hr HX
        go_wp2_with fail
        refine (HY.out w2 hr2).mono ?_
        rintro e w3 ⟨rfl, hk3⟩
        have hk := hk2.trans hk3
        clear hr2 HY hk2 hk3
        go_upto_region 17 with (fail)
        rcases hq with hq | hq | hq <;> rcases hp with hp | hp | hp
        · have HQ : Hid (C / 7 % 3 = 0 ∧ C / 21 % 3 = 0) := ⟨hq, hp⟩
          have hq' : (C : Int) / 7 % 3 = 0 := by omega
          have hp' : (C : Int) / 21 % 3 = 0 := by omega
          clear hq hp
          go_region
          all_goals
            go_wp2_with fail
            go_ret
            exact ⟨by rw [HQ.out.1, HQ.out.2]; rfl, ((hk.alloc _).alloc _).drewN 1⟩
        · have HQ : Hid (C / 7 % 3 = 0 ∧ C / 21 % 3 = 1) := ⟨hq, hp⟩
          have hq' : (C : Int) / 7 % 3 = 0 := by omega
          have hp' : (C : Int) / 21 % 3 = 1 := by omega
          clear hq hp
          go_region
          all_goals
            go_wp2_with fail
            go_ret
            exact ⟨by rw [HQ.out.1, HQ.out.2]; rfl, ((hk.alloc _).alloc _).drewN 1⟩
        · have HQ : Hid (C / 7 % 3 = 0 ∧ C / 21 % 3 = 2) := ⟨hq, hp⟩
          have hq' : (C : Int) / 7 % 3 = 0 := by omega
          have hp' : (C : Int) / 21 % 3 = 2 := by omega
          clear hq hp
          go_region
          all_goals
            go_wp2_with fail
            go_ret
            exact ⟨by rw [HQ.out.1, HQ.out.2]; rfl, ((hk.alloc _).alloc _).drewN 1⟩
        · have HQ : Hid (C / 7 % 3 = 1 ∧ C / 21 % 3 = 0) := ⟨hq, hp⟩
          have hq' : (C : Int) / 7 % 3 = 1 := by omega
          have hp' : (C : Int) / 21 % 3 = 0 := by omega
          clear hq hp
          go_region
          all_goals
            go_wp2_with fail
            go_ret
            exact ⟨by rw [HQ.out.1, HQ.out.2]; rfl, ((hk.alloc _).alloc _).drewN 1⟩
        · have HQ : Hid (C / 7 % 3 = 1 ∧ C / 21 % 3 = 1) := ⟨hq, hp⟩
          have hq' : (C : Int) / 7 % 3 = 1 := by omega
          have hp' : (C : Int) / 21 % 3 = 1 := by omega
          clear hq hp
          go_region
          all_goals
            go_wp2_with fail
            go_ret
            exact ⟨by rw [HQ.out.1, HQ.out.2]; rfl, ((hk.alloc _).alloc _).drewN 1⟩
        · have HQ : Hid (C / 7 % 3 = 1 ∧ C / 21 % 3 = 2) := ⟨hq, hp⟩
          have hq' : (C : Int) / 7 % 3 = 1 := by omega
          have hp' : (C : Int) / 21 % 3 = 2 := by omega
          clear hq hp
          go_region
          all_goals
            go_wp2_with fail
            go_ret
            exact ⟨by rw [HQ.out.1, HQ.out.2]; rfl, ((hk.alloc _).alloc _).drewN 1⟩
        · have HQ : Hid (C / 7 % 3 = 2 ∧ C / 21 % 3 = 0) := ⟨hq, hp⟩
          have hq' : (C : Int) / 7 % 3 = 2 := by omega
          have hp' : (C : Int) / 21 % 3 = 0 := by omega
          clear hq hp
          go_region
          all_goals
            go_wp2_with fail
            go_ret
            exact ⟨by rw [HQ.out.1, HQ.out.2]; rfl, ((hk.alloc _).alloc _).drewN 1⟩
        · have HQ : Hid (C / 7 % 3 = 2 ∧ C / 21 % 3 = 1) := ⟨hq, hp⟩
          have hq' : (C : Int) / 7 % 3 = 2 := by omega
          have hp' : (C : Int) / 21 % 3 = 1 := by omega
          clear hq hp
          go_region
          all_goals
            go_wp2_with fail
            go_ret
            exact ⟨by rw [HQ.out.1, HQ.out.2]; rfl, ((hk.alloc _).alloc _).drewN 1⟩
        · have HQ : Hid (C / 7 % 3 = 2 ∧ C / 21 % 3 = 2) := ⟨hq, hp⟩
          have hq' : (C : Int) / 7 % 3 = 2 := by omega
          have hp' : (C : Int) / 21 % 3 = 2 := by omega
          clear hq hp
          go_region
          all_goals
            go_wp2_with fail
            go_ret
            exact ⟨by rw [HQ.out.1, HQ.out.2]; rfl, ((hk.alloc _).alloc _).drewN 1⟩
end Go.Proofs.YtnfojonmohijpaaGreatDoor
namespace Go.Proofs.YtnfojonmohijpaaGreatDoor
open Go.RowKit
def ltr (k : Nat) : UInt8 := match k % 4 with | 0 => 97 | 1 => 98 | 2 => 99 | _ => 46
def txT (s : ByteArray) (most : Nat) : ByteArray := bOf ((s.data.toList.take most).map fun b => ltr b.toNat)
theorem txT_size (s : ByteArray) (most : Nat) : (txT s most).size ≤ most := by
  unfold txT; rw [bOf_size]; simp; omega
theorem take_step {l : List UInt8} {i : Nat} {b : UInt8} (h : l[i]? = some b) : bOf ((l.take (i + 1)).map fun b => ltr b.toNat) = bOf ((l.take i).map fun b => ltr b.toNat) ++ bOf [ltr b.toNat] := by
  rw [List.take_add_one, h, List.map_append, bOf_app]; rfl
set_option maxRecDepth 100000 in
set_option maxHeartbeats 4000000 in
theorem ktext_any (s : ByteArray) (most : Nat) (hm : most ≤ 100) (w : World) : Calls Tryz.prog 32 #[.string s, .int .i64 most] w fun e w' => e = .returned (.string (txT s most)) ∧ Keeps [] w w' := by
  have hmm : (most : Int) ≤ 100 := by omega
  go_enter Tryz.func32, Tryz.ntmps32
  go_upto_region 3 with (fail)
  go_loopw [5, 6] (fun o q wr => ∃ i : Nat, q = .int .i64 i ∧ o = .string (bOf ((s.data.toList.take i).map fun b => ltr b.toNat)) ∧ i ≤ most ∧ i ≤ s.size ∧ Keeps [] w wr) (fun _ q _ => most - (intOf q).toNat)
  case atStart => exact ⟨0, rfl, rfl, Nat.zero_le _, Nat.zero_le _, Keeps.refl _ _⟩
  case round =>
    obtain ⟨i, rfl, rfl, hi, hs, hk⟩ := hrel
    by_cases hlt : i < s.size ∧ i < most
    · obtain ⟨hls, hlm⟩ := hlt
      have hb : s.data.toList[i]? = some (s[i]'hls) := by
        rw [Array.getElem?_toList]
        exact Array.getElem?_eq_getElem hls
      have hI := take_step hb
      have hn256 := (s[i]'hls).toNat_lt
      obtain ⟨n, hn⟩ : ∃ n, (s[i]'hls).toNat = n := ⟨_, rfl⟩
      rw [hn] at hI hn256
      have hz : (bOf ((s.data.toList.take i).map fun b => ltr b.toNat)).size ≤ 100 := by rw [bOf_size]; simp; omega
      generalize bOf ((s.data.toList.take i).map fun b => ltr b.toNat) = o at hI hz ⊢
      have hz' : (o.size : Int) ≤ 100 := by omega
      have hi0 : (0 : Int) ≤ (i : Int) := by omega
      have hi1 : (i : Int) < (s.size : Int) := by omega
      have hi2 : (i : Int) < (most : Int) := by omega
      have hi3 : (i : Int) ≤ 100 := by omega
      have hn0 : (0 : Int) ≤ (n : Int) := by omega
      have hn1 : (n : Int) ≤ 255 := by omega
      have hd1 : decide ((i : Int) < (s.size : Int)) = true := by simp; omega
      have HB : Hid (i < s.size ∧ i < most) := ⟨hls, hlm⟩
      have h4 : n % 4 = 0 ∨ n % 4 = 1 ∨ n % 4 = 2 ∨ n % 4 = 3 := by omega
      clear hb hlm hi hs
      rcases h4 with h4 | h4 | h4 | h4
      · have h4' : (n : Int) % 4 = 0 := by omega
        have hl : ltr n = 97 := by unfold ltr; rw [h4]; rfl
        rw [hl] at hI
        have HI := hI.symm
        have HI2 : Hid (o ++ bOf [97] = bOf ((s.data.toList.take (i + 1)).map fun b => ltr b.toNat)) := HI
        clear h4 hl HI hI
        go_wp2_with fail
        exact ⟨⟨i + 1, by go_num, (congrArg (fun z => Value.string (o ++ z)) (by decide +kernel)).trans (congrArg Value.string HI2.out), HB.out.2, HB.out.1, hk⟩, by have := HB.out; simp [intOf]; omega⟩
      · have h4' : (n : Int) % 4 = 1 := by omega
        have hl : ltr n = 98 := by unfold ltr; rw [h4]; rfl
        rw [hl] at hI
        have HI := hI.symm
        have HI2 : Hid (o ++ bOf [98] = bOf ((s.data.toList.take (i + 1)).map fun b => ltr b.toNat)) := HI
        clear h4 hl HI hI
        go_wp2_with fail
        exact ⟨⟨i + 1, by go_num, (congrArg (fun z => Value.string (o ++ z)) (by decide +kernel)).trans (congrArg Value.string HI2.out), HB.out.2, HB.out.1, hk⟩, by have := HB.out; simp [intOf]; omega⟩
      · have h4' : (n : Int) % 4 = 2 := by omega
        have hl : ltr n = 99 := by unfold ltr; rw [h4]; rfl
        rw [hl] at hI
        have HI := hI.symm
        have HI2 : Hid (o ++ bOf [99] = bOf ((s.data.toList.take (i + 1)).map fun b => ltr b.toNat)) := HI
        clear h4 hl HI hI
        go_wp2_with fail
        exact ⟨⟨i + 1, by go_num, (congrArg (fun z => Value.string (o ++ z)) (by decide +kernel)).trans (congrArg Value.string HI2.out), HB.out.2, HB.out.1, hk⟩, by have := HB.out; simp [intOf]; omega⟩
      · have h4' : (n : Int) % 4 = 3 := by omega
        have hl : ltr n = 46 := by unfold ltr; rw [h4]; rfl
        rw [hl] at hI
        have HI := hI.symm
        have HI2 : Hid (o ++ bOf [46] = bOf ((s.data.toList.take (i + 1)).map fun b => ltr b.toNat)) := HI
        clear h4 hl HI hI
        go_wp2_with fail
        exact ⟨⟨i + 1, by go_num, (congrArg (fun z => Value.string (o ++ z)) (by decide +kernel)).trans (congrArg Value.string HI2.out), HB.out.2, HB.out.1, hk⟩, by have := HB.out; simp [intOf]; omega⟩
    · have HO : bOf ((s.data.toList.take i).map fun b => ltr b.toNat) = txT s most := by
        unfold txT
        rcases Nat.lt_or_ge i s.size with h | h
        · rw [show i = most by omega]
        · have hl : s.data.toList.length = s.size := Array.length_toList
          rw [List.take_of_length_le (by omega), List.take_of_length_le (by omega)]
      rw [HO]
      clear HO
      by_cases h1 : i < s.size
      · have h2 : ¬ (i : Int) < (most : Int) := by omega
        have h1' : (i : Int) < (s.size : Int) := by omega
        clear hlt
        go_wp2_with fail
        go_ret
        exact ⟨rfl, hk⟩
      · have h1' : ¬ (i : Int) < (s.size : Int) := by omega
        clear hlt
        go_wp2_with fail
        go_ret
        exact ⟨rfl, hk⟩
end Go.Proofs.YtnfojonmohijpaaGreatDoor
namespace Go.Proofs.YtnfojonmohijpaaGreatDoor
theorem ans_of {p : List UInt8} {x : Nat → Pat} {n a b : Nat} (h : Mw p x n a b) (ha : a ≤ 6) (hn : n ≤ 9) (hp : p.head? ≠ some 94) (hl : p.length ≤ 60) {s : ByteArray} (hs : s.size ≤ 100) (hb : b * (s.size + 1) ≤ 20000)
    {t : List UInt8} {bb : Bool} {nn : Int} (hM : MatchA (bOf p) s t bb nn) :
    nn = 0 ∧ ((bb = true ∧ Mt s (x 0) 0 s.size ∧ ∃ ev, TR s (.node (x 0)) 0 s.size t ev) ∨ (bb = false ∧ t = [] ∧ ¬ Mt s (x 0) 0 s.size)) := by
  have hw := h.ws.whole ha hn hp (bOf p) (by simp [bOf])
  rcases hM with ⟨h1, _⟩ | ⟨_, q, hq, h2⟩
  · rw [bOf_size] at h1; omega
  · cases hq.det hw
    rcases h2 with ⟨h3, _⟩ | ⟨_, ⟨h3, rfl, rfl, rfl⟩ | ⟨h3, u, ev, hu, h4⟩⟩
    · omega
    · exact ⟨rfl, Or.inr ⟨rfl, rfl, h3⟩⟩
    · have hlen := hu.len h3
      have hA : (x 0).A * (s.size + 1) ≤ b * (s.size + 1) := Nat.mul_le_mul_right _ (h.len 0)
      simp only [Job.bnd, Nat.sub_zero] at hlen
      rcases h4 with ⟨_, rfl, rfl, rfl⟩ | ⟨h5, _⟩
      · exact ⟨rfl, Or.inl ⟨rfl, h3, ev, hu⟩⟩
      · omega
structure Seg (s s' : ByteArray) (d : Nat) : Prop where
  len : d + s'.size ≤ s.size
  get : ∀ k, k < s'.size → at' s' k = at' s (d + k)
theorem It.shift {R R' : Nat → Nat → Prop} {d L : Nat} (le : ∀ i j, R i j → i ≤ j) (le' : ∀ i j, R' i j → i ≤ j) (h : ∀ i j, j ≤ L → (R' i j ↔ R (d + i) (d + j))) : ∀ n i j, j ≤ L → (It R' n i j ↔ It R n (d + i) (d + j))
  | 0, i, j, _ => by
    constructor
    · intro e; show d + i = d + j; have : i = j := e; omega
    · intro e; show i = j; have : d + i = d + j := e; omega
  | n + 1, i, j, hj => by
    constructor
    · rintro ⟨m, a, b⟩
      have hm := It.mono le' b
      exact ⟨d + m, (h i m (by omega)).1 a, (It.shift le le' h n m j hj).1 b⟩
    · rintro ⟨m, a, b⟩
      have hm := It.mono le b
      have hi := le _ _ a
      obtain ⟨m', rfl⟩ : ∃ m', m = d + m' := ⟨m - d, by omega⟩
      exact ⟨m', (h i m' (by omega)).2 a, (It.shift le le' h n m' j hj).2 b⟩
theorem Seg.mt {s s' : ByteArray} {d : Nat} (h : Seg s s' d) : ∀ (x : Pat) (i j : Nat), j ≤ s'.size → (Mt s' x i j ↔ Mt s x (d + i) (d + j))
  | .set f, i, j, hj => by
    have hl := h.len
    constructor
    · rintro ⟨a, b, rfl⟩
      exact ⟨by omega, by rw [← h.get i a]; exact b, rfl⟩
    · rintro ⟨a, b, c⟩
      have hi : i < s'.size := by omega
      exact ⟨hi, by rw [h.get i hi]; exact b, by omega⟩
  | .grp _ x, i, j, hj => h.mt x i j hj
  | .rep mn mx x, i, j, hj => by
    have := It.shift (R := Mt s x) (R' := Mt s' x) (d := d) (L := s'.size) (fun _ _ a => a.le) (fun _ _ a => a.le) (fun i j hj => h.mt x i j hj)
    constructor
    · rintro ⟨n, a, b, c⟩; exact ⟨n, a, b, (this n i j hj).1 c⟩
    · rintro ⟨n, a, b, c⟩; exact ⟨n, a, b, (this n i j hj).2 c⟩
  | .pnil, i, j, hj => by
    constructor
    · intro e; show d + i = d + j; have : i = j := e; omega
    · intro e; show i = j; have : d + i = d + j := e; omega
  | .pcons x r, i, j, hj => by
    constructor
    · rintro ⟨m, a, b⟩
      have hm := b.le
      exact ⟨d + m, (h.mt x i m (by omega)).1 a, (h.mt r m j hj).1 b⟩
    · rintro ⟨m, a, b⟩
      have hm := b.le
      have hi := a.le
      obtain ⟨m', rfl⟩ : ∃ m', m = d + m' := ⟨m - d, by omega⟩
      exact ⟨m', (h.mt x i m' (by omega)).2 a, (h.mt r m' j hj).2 b⟩
  | .wone x, i, j, hj => h.mt x i j hj
  | .wcons x r, i, j, hj => or_congr (h.mt x i j hj) (h.mt r i j hj)
theorem Seg.mt0 {s s' : ByteArray} (h : Seg s s' 0) (x : Pat) (i j : Nat) (hj : j ≤ s'.size) : Mt s' x i j ↔ Mt s x i j := by
  have := h.mt x i j hj
  rwa [Nat.zero_add, Nat.zero_add] at this
theorem Cut.ext {P Q : Nat → Prop} {i j c : Nat} (h : ∀ m, m ≤ j → (P m ↔ Q m)) (k : Cut P i j c) : Cut Q i j c :=
  ⟨k.1, k.2.1, fun e => (h c k.2.1).1 (k.2.2.1 e), fun m a b e => k.2.2.2 m a b ((h m b).2 e)⟩
end Go.Proofs.YtnfojonmohijpaaGreatDoor
namespace Go.Proofs.YtnfojonmohijpaaGreatDoor
def GP (f : Nat → List Pat) (g : Nat) : Pat := .grp (g + 1) (.wone (pre (f (g + 1)) .pnil))
def gpT (p : List UInt8) : List UInt8 := [40] ++ p ++ [41]
theorem gp_sim {p : List UInt8} {f : Nat → List Pat} {n a b : Nat} (h : Md p f n a b) (s : ByteArray) (g i j : Nat) : Mt s (GP f g) i j ↔ Mt s (pre (f 0) .pnil) i j :=
  (simL.pre (y := .pnil) (z := .pnil) trivial (h.sim (g + 1) 0)).mt i j
theorem lone_mt (s : ByteArray) (x : Pat) (i j : Nat) : Mt s (.pcons x .pnil) i j ↔ Mt s x i j := by
  constructor
  · rintro ⟨m, a, b⟩
    have e : m = j := b
    exact e ▸ a
  · exact fun h => ⟨j, h, rfl⟩
theorem tr_lone {s : ByteArray} {x : Pat} {i j : Nat} {t : List UInt8} {ev : List (Nat × Nat × Nat)} (h : TR s (.node (.wone (.pcons x .pnil))) i j t ev) : TR s (.node x) i j t ev := by
  cases h with
  | wone _ _ _ _ _ h =>
    cases h with
    | lone _ _ _ _ _ h => exact h
theorem jm_p {p : List UInt8} {f : Nat → List Pat} {n a b : Nat} (h : Md p f n a b) : Mw (gpT p) (fun g => .wone (.pcons (GP f g) .pnil)) (n + 1) (a + 1) (b + 23) := h.one.grp0.one
end Go.Proofs.YtnfojonmohijpaaGreatDoor
namespace Go.Proofs.YtnfojonmohijpaaGreatDoor
def Made2 (p : List UInt8) : Prop := ∃ f n a, Md p f n a 447 ∧ n ≤ 3 ∧ a ≤ 2
theorem made2_md (c : Nat → Nat) (i : Nat) : Made2 (mdT c 2 i) := by
  obtain ⟨f, n, a, h, hn, ha⟩ := md_all c 2 i
  exact ⟨f, n, a, h, by have : n + 1 ≤ 4 := hn; omega, ha⟩
theorem made2_sg (k : Nat) : Made2 (sgT k) := ⟨_, 0, 0, (Md.single k).more (by decide), by decide, by decide⟩
theorem gpT_len (p : List UInt8) : (gpT p).length = p.length + 2 := by simp [gpT]
theorem gpT_head (p r : List UInt8) : (gpT p ++ r).head? ≠ some 94 := by simp [gpT]
theorem bool_of {a : Bool} {P : Prop} {Q R : Prop} (h : (a = true ∧ P ∧ Q) ∨ (a = false ∧ R ∧ ¬ P)) : a = true ↔ P := by
  rcases h with ⟨rfl, hp, _⟩ | ⟨rfl, _, hp⟩
  · exact ⟨fun _ => hp, fun _ => rfl⟩
  · exact ⟨(nomatch ·), fun h => absurd h hp⟩
theorem MatchA.len {p s : ByteArray} {t : List UInt8} {b : Bool} {n : Int} (h : MatchA p s t b n) : t.length ≤ 20000 := by
  rcases h with ⟨_, rfl, _⟩ | ⟨_, q, _, h⟩
  · simp
  · cases q with
    | bad j => obtain ⟨rfl, _⟩ := h; simp
    | ok W j =>
      rcases h with ⟨_, rfl, _⟩ | ⟨_, ⟨_, rfl, _⟩ | ⟨_, u, ev, _, ⟨h, rfl, _⟩ | ⟨_, rfl, _⟩⟩⟩
      · simp
      · simp
      · exact h
      · simp
theorem MatchA.size {p s : ByteArray} {t : List UInt8} {b : Bool} {n : Int} (h : MatchA p s t b n) : ((nmB t).size : Int) ≤ 20000 := by
  have := h.len
  have e : (nmB t).size = t.length := bOf_size t
  omega
end Go.Proofs.YtnfojonmohijpaaGreatDoor
namespace Go.Proofs.YtnfojonmohijpaaGreatDoor
theorem ans_len {p : List UInt8} {x : Nat → Pat} {n a b : Nat} (h : Mw p x n a b) (ha : a ≤ 6) (hn : n ≤ 9) (hp : p.head? ≠ some 94) (hl : p.length ≤ 60) {s : ByteArray} (hs : s.size ≤ 100)
    (hb : ∀ t ev, Mt s (x 0) 0 s.size → TR s (.node (x 0)) 0 s.size t ev → t.length ≤ 20000) {t : List UInt8} {bb : Bool} {nn : Int} (hM : MatchA (bOf p) s t bb nn) :
    nn = 0 ∧ (bb = true ↔ Mt s (x 0) 0 s.size) := by
  have hw := h.ws.whole ha hn hp (bOf p) (by simp [bOf])
  rcases hM with ⟨h1, _⟩ | ⟨_, q, hq, h2⟩
  · rw [bOf_size] at h1; omega
  · cases hq.det hw
    rcases h2 with ⟨h3, _⟩ | ⟨_, ⟨h3, rfl, rfl, rfl⟩ | ⟨h3, u, ev, hu, h4⟩⟩
    · omega
    · exact ⟨rfl, ⟨(nomatch ·), fun h => absurd h h3⟩⟩
    · have hlen := hb u ev h3 hu
      rcases h4 with ⟨_, rfl, rfl, rfl⟩ | ⟨h5, _⟩
      · exact ⟨rfl, ⟨fun _ => h3, fun _ => rfl⟩⟩
      · omega
theorem rep_ans {p r : List UInt8} {f : Nat → List Pat} {n da : Nat} (P : Md p f n da 447) (hn : n ≤ 3) (hda : da ≤ 2) (lp : p.length ≤ 40) {mn : Nat} {mx : Int} (hr : Rx r (some (mn, mx))) (hm : mn ≤ 5) (lr : r.length ≤ 5)
    (s : ByteArray) (hs : s.size ≤ 8) {t : List UInt8} {bb : Bool} {nn : Int} (hM : MatchA (bOf (gpT p ++ r)) s t bb nn) : nn = 0 ∧ (bb = true ↔ Tm (Mt s (pre (f 0) .pnil)) mn mx 0 s.size) := by
  have hw := (Mw.grp (m := mn) P.one hr (fun mm e => by cases e; exact Nat.le_refl _)).one
  have hb : ∀ t ev, Mt s (.wone (.pcons (.rep mn mx (GP f 0)) .pnil)) 0 s.size → TR s (.node (.wone (.pcons (.rep mn mx (GP f 0)) .pnil))) 0 s.size t ev → t.length ≤ 20000 := by
    intro t ev hmt ht
    have h1 := tr_lone ht
    have h2 := (lone_mt s _ 0 s.size).1 hmt
    cases h1 with
    | rep _ _ _ _ _ t' _ h3 =>
      have h4 := h3.len h2
      have hA := P.one.len 1
      simp only [Job.bnd, Nat.sub_zero] at h4
      have h5 : ((GP f 0).A + 1) * (mn + 2 * s.size) ≤ 460 * 21 := Nat.mul_le_mul (by unfold GP; simp only [Pat.A, Nat.zero_add] at hA ⊢; omega) (by omega)
      simp only [List.length_append, List.length_cons, List.length_nil]
      omega
  have hl : (gpT p ++ r).length ≤ 60 := by rw [List.length_append, gpT_len]; omega
  have := ans_len hw (by omega) (by omega) (gpT_head p r) hl (by omega : s.size ≤ 100) hb hM
  exact ⟨this.1, this.2.trans ((lone_mt s _ 0 s.size).trans (Tm.congr (gp_sim P s 0)))⟩
def jsT (m : Nat) : List UInt8 := [123, UInt8.ofNat (48 + m), 125]
def upT (m : Nat) : List UInt8 := [123, 48, 44, UInt8.ofNat (48 + m), 125]
structure RL (p : List UInt8) (s : ByteArray) (n : Nat) (just : Bool) (M1 M2 : Nat → Prop) : Prop where
  fst : ∀ m s1, Seg s s1 0 → s1.size = m → ∀ t b e, MatchA (bOf (gpT p)) s1 t b e → e = 0 ∧ (b = true ↔ M1 m)
  snd : ∀ m s2, m ≤ s.size → Seg s s2 m → s2.size = s.size - m → ∀ t b e, MatchA (bOf (gpT p ++ jsT n)) s2 t b e → e = 0 ∧ (b = true ↔ M2 m)
  all : just = true ↔ ∃ m, m ≤ s.size ∧ M1 m ∧ M2 m
theorem it_one {R : Nat → Nat → Prop} {i j : Nat} : It R 1 i j ↔ R i j := by
  constructor
  · rintro ⟨m, a, b⟩
    have e : m = j := b
    exact e ▸ a
  · exact fun h => ⟨j, h, rfl⟩
theorem tm_just {R : Nat → Nat → Prop} {n i j : Nat} : Tm R n n i j ↔ It R n i j := by
  constructor
  · rintro ⟨k, a, b, h⟩
    obtain rfl : k = n := by rcases b with b | b <;> omega
    exact h
  · exact fun h => ⟨n, Nat.le_refl _, Or.inr (Int.le_refl _), h⟩
theorem tm_upto {R : Nat → Nat → Prop} {n i j : Nat} : Tm R 0 ((n + 1 : Nat) : Int) i j ↔ (Tm R 0 n i j ∨ It R (n + 1) i j) := by
  constructor
  · rintro ⟨k, _, b, h⟩
    rcases Nat.lt_or_ge n k with hk | hk
    · obtain rfl : k = n + 1 := by rcases b with b | b <;> omega
      exact Or.inr h
    · exact Or.inl ⟨k, Nat.zero_le _, Or.inr (by omega), h⟩
  · rintro (⟨k, _, b, h⟩ | h)
    · exact ⟨k, Nat.zero_le _, Or.inr (by rcases b with b | b <;> omega), h⟩
    · exact ⟨n + 1, Nat.zero_le _, Or.inr (Int.le_refl _), h⟩
theorem repeated_math {p : List UInt8} (hp : Made2 p) (lp : p.length ≤ 40) {s : ByteArray} (hs : s.size ≤ 8) {n : Nat} (hn : n ≤ 4) {t1 t2 t3 t4 t5 t6 t7 t8 : List UInt8} {none one is star plus just upto less : Bool} {e1 e2 e3 e4 e5 e6 e7 e8 : Int}
    (h1 : MatchA (bOf (gpT p ++ jsT 0)) s t1 none e1) (h2 : MatchA (bOf (gpT p ++ jsT 1)) s t2 one e2) (h3 : MatchA (bOf (gpT p)) s t3 is e3) (h4 : MatchA (bOf (gpT p ++ [42])) s t4 star e4) (h5 : MatchA (bOf (gpT p ++ [43])) s t5 plus e5)
    (h6 : MatchA (bOf (gpT p ++ jsT (n + 1))) s t6 just e6) (h7 : MatchA (bOf (gpT p ++ upT (n + 1))) s t7 upto e7) (h8 : MatchA (bOf (gpT p ++ upT n)) s t8 less e8) :
    e1 = 0 ∧ e2 = 0 ∧ e3 = 0 ∧ e4 = 0 ∧ e5 = 0 ∧ e6 = 0 ∧ e7 = 0 ∧ e8 = 0 ∧ (none = true ↔ s.size = 0) ∧ one = is ∧ (star = true ↔ plus = true ∨ s.size = 0) ∧ upto = (less || just) ∧ (upto = true → star = true) ∧ ∃ M1 M2, RL p s n just M1 M2 := by
  obtain ⟨f, g, da, P, hg, hda⟩ := hp
  have hgp : (gpT p).head? ≠ some 94 := by simp [gpT]
  have aP : ∀ s' : ByteArray, s'.size ≤ 8 → ∀ {t bb nn}, MatchA (bOf (gpT p)) s' t bb nn → nn = 0 ∧ (bb = true ↔ Mt s' (pre (f 0) .pnil) 0 s'.size) := fun s' hs' {t bb nn} hM => by
    have hb : (447 + 23) * (s'.size + 1) ≤ 20000 := Nat.le_trans (Nat.mul_le_mul_left _ (by omega : s'.size + 1 ≤ 9)) (by decide)
    obtain ⟨z, r⟩ := ans_of (jm_p P) (by omega) (by omega) hgp (by rw [gpT_len]; omega) (by omega : s'.size ≤ 100) hb hM
    exact ⟨z, (bool_of r).trans ((lone_mt s' _ _ _).trans (gp_sim P s' 0 _ _))⟩
  have jr : ∀ m, m ≤ 5 → Rx (jsT m) (some (m, (m : Int))) := fun m hm => Rx.just hm
  have ur : ∀ m, m ≤ 5 → Rx (upT m) (some (0, (m : Int))) := fun m hm => Rx.upto (m := 0) (Nat.zero_le _) hm
  obtain ⟨z1, b1⟩ := rep_ans P hg hda lp (jr 0 (by decide)) (by decide) (by decide) s hs h1
  obtain ⟨z2, b2⟩ := rep_ans P hg hda lp (jr 1 (by decide)) (by decide) (by decide) s hs h2
  obtain ⟨z3, b3⟩ := aP s hs h3
  obtain ⟨z4, b4⟩ := rep_ans P hg hda lp Rx.star (by decide) (by decide) s hs h4
  obtain ⟨z5, b5⟩ := rep_ans P hg hda lp Rx.plus (by decide) (by decide) s hs h5
  obtain ⟨z6, b6⟩ := rep_ans P hg hda lp (jr (n + 1) (by omega)) (by omega) (by simp [jsT]) s hs h6
  obtain ⟨z7, b7⟩ := rep_ans P hg hda lp (ur (n + 1) (by omega)) (by omega) (by simp [upT]) s hs h7
  obtain ⟨z8, b8⟩ := rep_ans P hg hda lp (ur n (by omega)) (by omega) (by simp [upT]) s hs h8
  have b1' := b1.trans tm_just
  have b2' := b2.trans (tm_just.trans it_one)
  have b6' := b6.trans tm_just
  have b7' := b7.trans tm_upto
  refine ⟨z1, z2, z3, z4, z5, z6, z7, z8, ?_, ?_, ?_, ?_, ?_, fun m => Mt s (pre (f 0) .pnil) 0 m, fun m => It (Mt s (pre (f 0) .pnil)) n m s.size, ?_, ?_, ?_⟩
  · exact b1'.trans ⟨fun h => Eq.symm h, fun h => Eq.symm h⟩
  · rw [Bool.eq_iff_iff, b2', b3]
  · rw [b4, b5]
    constructor
    · rintro ⟨k, _, _, h⟩
      cases k with
      | zero => exact Or.inr (Eq.symm h)
      | succ k => exact Or.inl ⟨k + 1, by omega, Or.inl (by decide), h⟩
    · rintro (⟨k, _, b, h⟩ | h)
      · exact ⟨k, Nat.zero_le _, b, h⟩
      · exact ⟨0, Nat.le_refl _, Or.inl (by decide), h.symm⟩
  · rw [Bool.eq_iff_iff, Bool.or_eq_true, b7', b8, b6']
  · intro h
    obtain ⟨k, _, _, h⟩ := b7.1 h
    exact b4.2 ⟨k, Nat.zero_le _, Or.inl (by decide), h⟩
  · intro m s1 hg hz t b e hM
    have hl := hg.len
    obtain ⟨zz, rr⟩ := aP s1 (by omega) hM
    refine ⟨zz, rr.trans ?_⟩
    rw [hz]
    exact hg.mt0 _ 0 m (by omega)
  · intro m s2 hm hg' hz t b e hM
    have hl := hg'.len
    obtain ⟨zz, rr⟩ := rep_ans P hg hda lp (jr n (by omega)) (by omega) (by simp [jsT]) s2 (by omega) hM
    refine ⟨zz, rr.trans (tm_just.trans ?_)⟩
    have := It.shift (R := Mt s (pre (f 0) .pnil)) (R' := Mt s2 (pre (f 0) .pnil)) (d := m) (L := s2.size) (fun _ _ a => a.le) (fun _ _ a => a.le) (fun i j hj => hg'.mt _ i j hj) n 0 s2.size (Nat.le_refl _)
    rw [Nat.add_zero, show m + s2.size = s.size by omega] at this
    exact this
  · rw [b6']
    constructor
    · rintro ⟨m, a, b⟩
      exact ⟨m, It.mono (fun _ _ h => Mt.le h) b, a, b⟩
    · rintro ⟨m, _, a, b⟩
      exact ⟨m, a, b⟩
end Go.Proofs.YtnfojonmohijpaaGreatDoor
namespace Go.Proofs.YtnfojonmohijpaaGreatDoor
open Go.RowKit
theorem gpB (p : List UInt8) : (⟨#[40]⟩ : ByteArray) ++ bOf p ++ ⟨#[41]⟩ = bOf (gpT p) := by rw [gpT, bOf_app, bOf_app]; rfl
theorem at_ext (t : ByteArray) (a b k : Nat) (h : k < (t.extract a b).size) : at' (t.extract a b) k = at' t (a + k) := by
  have hs : (t.extract a b).size = min b t.size - a := ByteArray.size_extract
  rw [at'_lt h, at'_lt (by omega : a + k < t.size), ByteArray.getElem_extract]
theorem seg_pre (t : ByteArray) {m : Nat} (hm : m ≤ t.size) : Seg t (t.extract 0 m) 0 ∧ (t.extract 0 m).size = m := by
  have hs : (t.extract 0 m).size = min m t.size - 0 := ByteArray.size_extract
  exact ⟨⟨by omega, fun k hk => at_ext t 0 m k hk⟩, by omega⟩
theorem seg_suf (t : ByteArray) {m : Nat} (hm : m ≤ t.size) : Seg t (t.extract m t.size) m ∧ (t.extract m t.size).size = t.size - m := by
  have hs : (t.extract m t.size).size = min t.size t.size - m := ByteArray.size_extract
  exact ⟨⟨by omega, fun k hk => at_ext t m t.size k hk⟩, by omega⟩
end Go.Proofs.YtnfojonmohijpaaGreatDoor
namespace Go.Proofs.YtnfojonmohijpaaGreatDoor
open Go.RowKit
def dgB (m : Nat) : ByteArray := bOf [UInt8.ofNat (48 + m)]
theorem dgB_size (m : Nat) : (dgB m).size = 1 := rfl
theorem jsB (q : List UInt8) (m : Nat) : bOf q ++ ⟨#[123]⟩ ++ dgB m ++ ⟨#[125]⟩ = bOf (q ++ jsT m) := by
  have : q ++ jsT m = q ++ [123] ++ [UInt8.ofNat (48 + m)] ++ [125] := by simp [jsT]
  rw [this, bOf_app, bOf_app, bOf_app]; rfl
theorem uptB (q : List UInt8) (m : Nat) : bOf q ++ ⟨#[123, 48, 44]⟩ ++ dgB m ++ ⟨#[125]⟩ = bOf (q ++ upT m) := by
  have : q ++ upT m = q ++ [123, 48, 44] ++ [UInt8.ofNat (48 + m)] ++ [125] := by simp [upT]
  rw [this, bOf_app, bOf_app, bOf_app]; rfl
theorem dg_conv (m : Nat) (hm : m ≤ 5) (z : Int) (hz : z = ((48 + m : Nat) : Int)) (w : World) : (convert 64 9 (.slice (some ⟨w.heap.size, 0, none⟩) 1 1)).run Tryz.prog (w.alloc (.cells #[.int .u8 z] 5)) = .ok (.string (dgB m)) (w.alloc (.cells #[.int .u8 z] 5)) := by
  have h := conv_one w (UInt8.ofNat (48 + m))
  have e : ((UInt8.ofNat (48 + m)).toNat : Int) = z := by
    have : (UInt8.ofNat (48 + m)).toNat = 48 + m := by simp; omega
    rw [this, hz]
  rw [e] at h
  exact h
theorem js0B (q : List UInt8) : bOf q ++ ⟨#[123, 48, 125]⟩ = bOf (q ++ jsT 0) := by rw [bOf_app]; rfl
theorem js1B (q : List UInt8) : bOf q ++ ⟨#[123, 49, 125]⟩ = bOf (q ++ jsT 1) := by rw [bOf_app]; rfl
theorem starB (q : List UInt8) : bOf q ++ ⟨#[42]⟩ = bOf (q ++ [42]) := by rw [bOf_app]; rfl
theorem plusB (q : List UInt8) : bOf q ++ ⟨#[43]⟩ = bOf (q ++ [43]) := by rw [bOf_app]; rfl
end Go.Proofs.YtnfojonmohijpaaGreatDoor
