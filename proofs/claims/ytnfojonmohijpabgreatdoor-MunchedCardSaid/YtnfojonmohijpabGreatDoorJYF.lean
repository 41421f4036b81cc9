/-
  DERIVED. The contract of yarrowkeep's made: the pattern's text is the one that the raw numbers speak of.
-/
import Derived.Test.YtnfojonmohijpabGreatDoorJOM
import Derived.Test.YtnfojonmohijpabGreatDoorJOF
import Derived.Test.YtnfojonmohijpabGreatDoorJSpec
import Derived.ProofKit
set_option linter.unusedSimpArgs false
set_option linter.unusedVariables false
namespace Go.Proofs.YtnfojonmohijpabGreatDoor
open Go.RowKit
theorem bOf_app (a b : List UInt8) : bOf (a ++ b) = bOf a ++ bOf b := by
 apply ByteArray.ext
 simp [bOf]
theorem sgT_len (k : Nat) : (sgT k).length ≤ 11 := by
 match k with
 | 0 => decide
 | 1 => decide
 | 2 => decide
 | 3 => decide
 | 4 => decide
 | 5 => decide
 | 6 => decide
 | 7 => decide
 | _ + 8 => exact (by decide : ([92, 46] : List UInt8).length ≤ 11)
theorem rpT_len (k : Nat) : (rpT k).length ≤ 1 := by
 match k with
 | 0 => decide
 | 1 => decide
 | _ + 2 => exact (by decide : ([43] : List UInt8).length ≤ 1)
theorem lwT_len (k : Nat) : (lwT k).length ≤ 1 := by
 match k with
 | 0 => decide
 | 1 => decide
 | _ + 2 => exact (by decide : ([50] : List UInt8).length ≤ 1)
theorem hiT_len (k : Nat) : (hiT k).length ≤ 1 := by
 match k with
 | 0 => decide
 | 1 => decide
 | _ + 2 => exact (by decide : ([] : List UInt8).length ≤ 1)
theorem mdT_len (c : Nat → Nat) : ∀ deep i, (mdT c deep i).length + 3 ≤ 14 * 2 ^ deep
 | 0, i => by have := sgT_len (c i / 7 % 9); simp only [mdT]; omega
 | deep + 1, i => by
  have h1 := mdT_len c deep (i + 1)
  have h2 := mdT_len c deep (i + 2)
  have h3 := sgT_len (c i / 7 % 9)
  have h4 := rpT_len (c i / 7 % 3)
  have h5 := lwT_len (c i / 7 % 3)
  have h6 := hiT_len (c i / 21 % 3)
  have hp : 2 ^ (deep + 1) = 2 * 2 ^ deep := by rw [Nat.pow_succ]; omega
  have hp1 : 1 ≤ 2 ^ deep := Nat.one_le_pow _ _ (by omega)
  unfold mdT
  split <;> (try simp only [List.length_append, List.length_cons, List.length_nil]) <;> omega
theorem bOf_size (l : List UInt8) : (bOf l).size = l.length := by simp [bOf, ByteArray.size]
theorem mdT_zero (c : Nat → Nat) (deep i : Nat) (h : deep = 0 ∨ c i % 7 = 0) : mdT c deep i = sgT (c i / 7 % 9) := by
 cases deep with
 | zero => rfl
 | succ d =>
  rcases h with h | h
  ·cases h
  ·unfold mdT; rw [h]; rfl
theorem cv_lt (zs : List Int) (i : Nat) : cv zs i < 1099511627776 := by
 unfold cv
 cases zs[i]? with
 | none => decide
 | some z => exact Nat.mod_lt _ (by decide)
def mdX (k c : Nat) (x y : ByteArray) : ByteArray :=
 match k with
 | 1 => bOf [40] ++ x ++ bOf [41]
 | 2 => x ++ y
 | 3 => bOf [40] ++ x ++ bOf [124] ++ y ++ bOf [41]
 | 4 => bOf [40] ++ x ++ bOf [41, 42]
 | 5 => bOf [40] ++ x ++ bOf [124, 41] ++ bOf (rpT (c / 7 % 3))
 | _ => bOf [40] ++ x ++ bOf [41, 123] ++ bOf (lwT (c / 7 % 3)) ++ bOf [44] ++ bOf (hiT (c / 21 % 3)) ++ bOf [125]
theorem mdT_succ (c : Nat → Nat) (deep i : Nat) (h : c i % 7 ≠ 0) : bOf (mdT c (deep + 1) i) = mdX (c i % 7) (c i) (bOf (mdT c deep (i + 1))) (bOf (mdT c deep (i + 2))) := by
 rw [mdT]
 generalize c i % 7 = k at h ⊢
 match k, h with
 | 0, h => exact absurd rfl h
 | 1, _ => simp only [mdX, bOf_app]
 | 2, _ => simp only [mdX, bOf_app]
 | 3, _ => simp only [mdX, bOf_app]
 | 4, _ => simp only [mdX, bOf_app]
 | 5, _ => simp only [mdX, bOf_app]
 | _ + 6, _ => simp only [mdX, bOf_app]
set_option maxRecDepth 100000 in
set_option maxHeartbeats 8000000 in
theorem made_any (v : Value) (zs : List Int) : ∀ (deep : Nat), deep ≤ 3 → ∀ (i : Nat), i + 2 * deep ≤ 900 → ∀ (w : World), RawIs w v zs →
    Calls Tryz.prog 8 #[v, .int .i64 i, .int .i64 deep] w fun e w' => e = .returned (.string (bOf (mdT (cv zs) deep i))) ∧ Keeps [] w w' := by
 intro deep
 induction deep with
 | zero =>
  intro _ i hi w hr
  have h1 := kat_any v zs i (by omega) w hr
  have hb := cv_lt zs i
  rw [mdT_zero _ _ _ (Or.inl rfl)]
  generalize cv zs i = C at h1 hb ⊢
  have hS := ksingle_any (C / 7) (by omega) w
  have hb' : (C : Int) < 1099511627776 := by omega
  have hb0 : (0 : Int) ≤ (C : Int) := by omega
  go_enter Tryz.func8, Tryz.ntmps8
  go_wp2_with fail
  refine h1.mono ?_
  rintro e w1 ⟨rfl, rfl⟩
  clear h1 hr
  go_wp2_with fail
  refine hS.mono ?_
  rintro e w2 ⟨rfl, hk⟩
  clear hS
  go_wp2_with fail
  go_ret
  exact ⟨rfl, hk⟩
 | succ deep ih =>
  intro hdp i hi w hr
  obtain ⟨D, hDe⟩ : ∃ D : Int, ((deep + 1 : Nat) : Int) = D := ⟨_, rfl⟩
  rw [hDe]
  have hD1 : D - 1 = (deep : Int) := by omega
  have hD3 : D ≤ 3 := by omega
  have hD0 : 1 ≤ D := by omega
  have hDz : ¬ D = 0 := by omega
  have hDd : (D == 0) = false := by simp [hDz]
  clear hDe
  have hd0 : (0 : Int) ≤ (deep : Int) := by omega
  have hi0 : (0 : Int) ≤ (i : Int) := by omega
  have h1 := kat_any v zs i (by omega) w hr
  have hb := cv_lt zs i
  have hx := ih (by omega) (i + 1) (by omega)
  have hy := ih (by omega) (i + 2) (by omega)
  have hlx := mdT_len (cv zs) deep (i + 1)
  have hly := mdT_len (cv zs) deep (i + 2)
  have hp3 : 2 ^ deep ≤ 8 := Nat.pow_le_pow_right (by decide) (by omega : deep ≤ 3)
  have hdn : (deep : Int) ≤ 2 := by omega
  have hin : (i : Int) ≤ 900 := by omega
  by_cases h0 : cv zs i % 7 = 0
  ·rw [mdT_zero _ _ _ (Or.inr h0)]
   generalize cv zs i = C at h1 hb h0 ⊢
   have hS := ksingle_any (C / 7) (by omega) w
   have hb' : (C : Int) < 1099511627776 := by omega
   have hb0 : (0 : Int) ≤ (C : Int) := by omega
   have h0' : (C : Int) % 7 = 0 := by omega
   clear ih hx hy hlx hly h0
   go_enter Tryz.func8, Tryz.ntmps8
   go_wp2_with fail
   refine h1.mono ?_
   rintro e w1 ⟨rfl, rfl⟩
   clear h1 hr
   go_wp2_with fail
   refine hS.mono ?_
   rintro e w2 ⟨rfl, hk⟩
   clear hS
   go_wp2_with fail
   go_ret
   exact ⟨rfl, hk⟩
  ·rw [mdT_succ _ _ _ h0]
   generalize cv zs i = C at h1 hb h0 ⊢
   rw [← bOf_size] at hlx hly
   generalize bOf (mdT (cv zs) deep (i + 1)) = x at hx hlx ⊢
   generalize bOf (mdT (cv zs) deep (i + 2)) = y at hy hly ⊢
   have hb' : (C : Int) < 1099511627776 := by omega
   have hb0 : (0 : Int) ≤ (C : Int) := by omega
   have hx1 : (x.size : Int) ≤ 200 := by omega
   have hy1 : (y.size : Int) ≤ 200 := by omega
   have HX : Hid (∀ w, RawIs w v zs → Calls Tryz.prog 8 #[v, .int .i64 ((i + 1 : Nat) : Int), .int .i64 (deep : Int)] w fun e w' => e = .returned (.string x) ∧ Keeps [] w w') := hx
   have HY : Hid (∀ w, RawIs w v zs → Calls Tryz.prog 8 #[v, .int .i64 ((i + 2 : Nat) : Int), .int .i64 (deep : Int)] w fun e w' => e = .returned (.string y) ∧ Keeps [] w w') := hy
   have hd7 : C % 7 = 1 ∨ C % 7 = 2 ∨ C % 7 = 3 ∨ C % 7 = 4 ∨ C % 7 = 5 ∨ C % 7 = 6 := by omega
   clear ih hlx hly hx hy h0
   rcases hd7 with h7 | h7 | h7 | h7 | h7 | h7
   ·rw [h7]
    have h7' : (C : Int) % 7 = 1 := by omega
    clear h7
    go_enter Tryz.func8, Tryz.ntmps8
    go_wp2_with fail
    refine h1.mono ?_
    rintro e w1 ⟨rfl, rfl⟩
    clear h1
    go_wp2_with fail
    refine (HX.out w1 hr).mono ?_
    rintro e w2 ⟨rfl, hk2⟩
    have hr2 := hr.keep hk2
    clear hr HX
    go_wp2_with fail
    refine (HY.out w2 hr2).mono ?_
    rintro e w3 ⟨rfl, hk3⟩
    have hk := hk2.trans hk3
    clear hr2 HY hk2 hk3
    go_wp2_with fail
    go_ret
    exact ⟨rfl, hk⟩
   ·rw [h7]
    have h7' : (C : Int) % 7 = 2 := by omega
    clear h7
    go_enter Tryz.func8, Tryz.ntmps8
    go_wp2_with fail
    refine h1.mono ?_
    rintro e w1 ⟨rfl, rfl⟩
    clear h1
    go_wp2_with fail
    refine (HX.out w1 hr).mono ?_
    rintro e w2 ⟨rfl, hk2⟩
    have hr2 := hr.keep hk2
    clear hr HX
    go_wp2_with fail
    refine (HY.out w2 hr2).mono ?_
    rintro e w3 ⟨rfl, hk3⟩
    have hk := hk2.trans hk3
    clear hr2 HY hk2 hk3
    go_wp2_with fail
    go_ret
    exact ⟨rfl, hk⟩
   ·rw [h7]
    have h7' : (C : Int) % 7 = 3 := by omega
    clear h7
    go_enter Tryz.func8, Tryz.ntmps8
    go_wp2_with fail
    refine h1.mono ?_
    rintro e w1 ⟨rfl, rfl⟩
    clear h1
    go_wp2_with fail
    refine (HX.out w1 hr).mono ?_
    rintro e w2 ⟨rfl, hk2⟩
    have hr2 := hr.keep hk2
    clear hr HX
    go_wp2_with fail
    refine (HY.out w2 hr2).mono ?_
    rintro e w3 ⟨rfl, hk3⟩
    have hk := hk2.trans hk3
    clear hr2 HY hk2 hk3
    go_wp2_with fail
    go_ret
    exact ⟨rfl, hk⟩
   ·rw [h7]
    have h7' : (C : Int) % 7 = 4 := by omega
    clear h7
    go_enter Tryz.func8, Tryz.ntmps8
    go_wp2_with fail
    refine h1.mono ?_
    rintro e w1 ⟨rfl, rfl⟩
    clear h1
    go_wp2_with fail
    refine (HX.out w1 hr).mono ?_
    rintro e w2 ⟨rfl, hk2⟩
    have hr2 := hr.keep hk2
    clear hr HX
    go_wp2_with fail
    refine (HY.out w2 hr2).mono ?_
    rintro e w3 ⟨rfl, hk3⟩
    have hk := hk2.trans hk3
    clear hr2 HY hk2 hk3
    go_wp2_with fail
    go_ret
    exact ⟨rfl, hk⟩
   ·rw [h7]
    have h7' : (C : Int) % 7 = 5 := by omega
    have hq : C / 7 % 3 = 0 ∨ C / 7 % 3 = 1 ∨ C / 7 % 3 = 2 := by omega
    unfold mdX
    rcases hq with hq | hq | hq
    ·rw [hq]
     have hq' : (C : Int) / 7 % 3 = 0 := by omega
     clear hq
     clear h7
     go_enter Tryz.func8, Tryz.ntmps8
     go_wp2_with fail
     refine h1.mono ?_
     rintro e w1 ⟨rfl, rfl⟩
     clear h1
     go_wp2_with fail
     refine (HX.out w1 hr).mono ?_
     rintro e w2 ⟨rfl, hk2⟩
     have hr2 := hr.keep hk2
     clear hr HX
     go_wp2_with fail
     refine (HY.out w2 hr2).mono ?_
     rintro e w3 ⟨rfl, hk3⟩
     have hk := hk2.trans hk3
     clear hr2 HY hk2 hk3
     go_wp2_with fail
     go_ret
     exact ⟨rfl, hk.alloc _⟩
    ·rw [hq]
     have hq' : (C : Int) / 7 % 3 = 1 := by omega
     clear hq
     clear h7
     go_enter Tryz.func8, Tryz.ntmps8
     go_wp2_with fail
     refine h1.mono ?_
     rintro e w1 ⟨rfl, rfl⟩
     clear h1
     go_wp2_with fail
     refine (HX.out w1 hr).mono ?_
     rintro e w2 ⟨rfl, hk2⟩
     have hr2 := hr.keep hk2
     clear hr HX
     go_wp2_with fail
     refine (HY.out w2 hr2).mono ?_
     rintro e w3 ⟨rfl, hk3⟩
     have hk := hk2.trans hk3
     clear hr2 HY hk2 hk3
     go_wp2_with fail
     go_ret
     exact ⟨rfl, hk.alloc _⟩
    ·rw [hq]
     have hq' : (C : Int) / 7 % 3 = 2 := by omega
     clear hq
     clear h7
     go_enter Tryz.func8, Tryz.ntmps8
     go_wp2_with fail
     refine h1.mono ?_
     rintro e w1 ⟨rfl, rfl⟩
     clear h1
     go_wp2_with fail
     refine (HX.out w1 hr).mono ?_
     rintro e w2 ⟨rfl, hk2⟩
     have hr2 := hr.keep hk2
     clear hr HX
     go_wp2_with fail
     refine (HY.out w2 hr2).mono ?_
     rintro e w3 ⟨rfl, hk3⟩
     have hk := hk2.trans hk3
     clear hr2 HY hk2 hk3
     go_wp2_with fail
     go_ret
     exact ⟨rfl, hk.alloc _⟩
   ·rw [h7]
    have h7' : (C : Int) % 7 = 6 := by omega
    clear h7
    have hq : C / 7 % 3 = 0 ∨ C / 7 % 3 = 1 ∨ C / 7 % 3 = 2 := by omega
    have hp : C / 21 % 3 = 0 ∨ C / 21 % 3 = 1 ∨ C / 21 % 3 = 2 := by omega
    have HC : Hid (C < 1099511627776) := hb
    unfold mdX
    go_enter Tryz.func8, Tryz.ntmps8
    go_wp2_with fail
    refine h1.mono ?_
    rintro e w1 ⟨rfl, rfl⟩
    clear h1
    go_wp2_with fail
    refine (HX.out w1 hr).mono ?_
    rintro e w2 ⟨rfl, hk2⟩
    have hr2 := hr.keep hk2
    clear hr HX
    go_wp2_with fail
    refine (HY.out w2 hr2).mono ?_
    rintro e w3 ⟨rfl, hk3⟩
    have hk := hk2.trans hk3
    clear hr2 HY hk2 hk3
    go_upto_region 17 with (fail)
    rcases hq with hq | hq | hq <;> rcases hp with hp | hp | hp
    ·have HQ : Hid (C / 7 % 3 = 0 ∧ C / 21 % 3 = 0) := ⟨hq, hp⟩
     have hq' : (C : Int) / 7 % 3 = 0 := by omega
     have hp' : (C : Int) / 21 % 3 = 0 := by omega
     clear hq hp
     go_region
     all_goals
      go_wp2_with fail
      go_ret
      exact ⟨by rw [HQ.out.1, HQ.out.2]; rfl, ((hk.alloc _).alloc _).drewN 1⟩
    ·have HQ : Hid (C / 7 % 3 = 0 ∧ C / 21 % 3 = 1) := ⟨hq, hp⟩
     have hq' : (C : Int) / 7 % 3 = 0 := by omega
     have hp' : (C : Int) / 21 % 3 = 1 := by omega
     clear hq hp
     go_region
     all_goals
      go_wp2_with fail
      go_ret
      exact ⟨by rw [HQ.out.1, HQ.out.2]; rfl, ((hk.alloc _).alloc _).drewN 1⟩
    ·have HQ : Hid (C / 7 % 3 = 0 ∧ C / 21 % 3 = 2) := ⟨hq, hp⟩
     have hq' : (C : Int) / 7 % 3 = 0 := by omega
     have hp' : (C : Int) / 21 % 3 = 2 := by omega
     clear hq hp
     go_region
     all_goals
      go_wp2_with fail
      go_ret
      exact ⟨by rw [HQ.out.1, HQ.out.2]; rfl, ((hk.alloc _).alloc _).drewN 1⟩
    ·have HQ : Hid (C / 7 % 3 = 1 ∧ C / 21 % 3 = 0) := ⟨hq, hp⟩
     have hq' : (C : Int) / 7 % 3 = 1 := by omega
     have hp' : (C : Int) / 21 % 3 = 0 := by omega
     clear hq hp
     go_region
     all_goals
      go_wp2_with fail
      go_ret
      exact ⟨by rw [HQ.out.1, HQ.out.2]; rfl, ((hk.alloc _).alloc _).drewN 1⟩
    ·have HQ : Hid (C / 7 % 3 = 1 ∧ C / 21 % 3 = 1) := ⟨hq, hp⟩
     have hq' : (C : Int) / 7 % 3 = 1 := by omega
     have hp' : (C : Int) / 21 % 3 = 1 := by omega
     clear hq hp
     go_region
     all_goals
      go_wp2_with fail
      go_ret
      exact ⟨by rw [HQ.out.1, HQ.out.2]; rfl, ((hk.alloc _).alloc _).drewN 1⟩
    ·have HQ : Hid (C / 7 % 3 = 1 ∧ C / 21 % 3 = 2) := ⟨hq, hp⟩
     have hq' : (C : Int) / 7 % 3 = 1 := by omega
     have hp' : (C : Int) / 21 % 3 = 2 := by omega
     clear hq hp
     go_region
     all_goals
      go_wp2_with fail
      go_ret
      exact ⟨by rw [HQ.out.1, HQ.out.2]; rfl, ((hk.alloc _).alloc _).drewN 1⟩
    ·have HQ : Hid (C / 7 % 3 = 2 ∧ C / 21 % 3 = 0) := ⟨hq, hp⟩
     have hq' : (C : Int) / 7 % 3 = 2 := by omega
     have hp' : (C : Int) / 21 % 3 = 0 := by omega
     clear hq hp
     go_region
     all_goals
      go_wp2_with fail
      go_ret
      exact ⟨by rw [HQ.out.1, HQ.out.2]; rfl, ((hk.alloc _).alloc _).drewN 1⟩
    ·have HQ : Hid (C / 7 % 3 = 2 ∧ C / 21 % 3 = 1) := ⟨hq, hp⟩
     have hq' : (C : Int) / 7 % 3 = 2 := by omega
     have hp' : (C : Int) / 21 % 3 = 1 := by omega
     clear hq hp
     go_region
     all_goals
      go_wp2_with fail
      go_ret
      exact ⟨by rw [HQ.out.1, HQ.out.2]; rfl, ((hk.alloc _).alloc _).drewN 1⟩
    ·have HQ : Hid (C / 7 % 3 = 2 ∧ C / 21 % 3 = 2) := ⟨hq, hp⟩
     have hq' : (C : Int) / 7 % 3 = 2 := by omega
     have hp' : (C : Int) / 21 % 3 = 2 := by omega
     clear hq hp
     go_region
     all_goals
      go_wp2_with fail
      go_ret
      exact ⟨by rw [HQ.out.1, HQ.out.2]; rfl, ((hk.alloc _).alloc _).drewN 1⟩
end Go.Proofs.YtnfojonmohijpabGreatDoor
namespace Go.Proofs.YtnfojonmohijpabGreatDoor
open Go.RowKit
def ltr (k : Nat) : UInt8 := match k % 4 with | 0 => 97 | 1 => 98 | 2 => 99 | _ => 46
def txT (s : ByteArray) (most : Nat) : ByteArray := bOf ((s.data.toList.take most).map fun b => ltr b.toNat)
theorem txT_size (s : ByteArray) (most : Nat) : (txT s most).size ≤ most := by
 unfold txT; rw [bOf_size]; simp; omega
theorem take_step {l : List UInt8} {i : Nat} {b : UInt8} (h : l[i]? = some b) : bOf ((l.take (i + 1)).map fun b => ltr b.toNat) = bOf ((l.take i).map fun b => ltr b.toNat) ++ bOf [ltr b.toNat] := by
 rw [List.take_add_one, h, List.map_append, bOf_app]; rfl
set_option maxRecDepth 100000 in
set_option maxHeartbeats 4000000 in
theorem ktext_any (s : ByteArray) (most : Nat) (hm : most ≤ 100) (w : World) : Calls Tryz.prog 7 #[.string s, .int .i64 most] w fun e w' => e = .returned (.string (txT s most)) ∧ Keeps [] w w' := by
 have hmm : (most : Int) ≤ 100 := by omega
 go_enter Tryz.func7, Tryz.ntmps7
 go_upto_region 3 with (fail)
 go_loopw [5, 6] (fun o q wr => ∃ i : Nat, q = .int .i64 i ∧ o = .string (bOf ((s.data.toList.take i).map fun b => ltr b.toNat)) ∧ i ≤ most ∧ i ≤ s.size ∧ Keeps [] w wr) (fun _ q _ => most - (intOf q).toNat)
 case atStart => exact ⟨0, rfl, rfl, Nat.zero_le _, Nat.zero_le _, Keeps.refl _ _⟩
 case round =>
  obtain ⟨i, rfl, rfl, hi, hs, hk⟩ := hrel
  by_cases hlt : i < s.size ∧ i < most
  ·obtain ⟨hls, hlm⟩ := hlt
   have hb : s.data.toList[i]? = some (s[i]'hls) := by
    rw [Array.getElem?_toList]
    exact Array.getElem?_eq_getElem hls
   have hI := take_step hb
   have hn256 := (s[i]'hls).toNat_lt
   obtain ⟨n, hn⟩ : ∃ n, (s[i]'hls).toNat = n := ⟨_, rfl⟩
   rw [hn] at hI hn256
   have hz : (bOf ((s.data.toList.take i).map fun b => ltr b.toNat)).size ≤ 100 := by rw [bOf_size]; simp; omega
   generalize bOf ((s.data.toList.take i).map fun b => ltr b.toNat) = o at hI hz ⊢
   have hz' : (o.size : Int) ≤ 100 := by omega
   have hi0 : (0 : Int) ≤ (i : Int) := by omega
   have hi1 : (i : Int) < (s.size : Int) := by omega
   have hi2 : (i : Int) < (most : Int) := by omega
   have hi3 : (i : Int) ≤ 100 := by omega
   have hn0 : (0 : Int) ≤ (n : Int) := by omega
   have hn1 : (n : Int) ≤ 255 := by omega
   have hd1 : decide ((i : Int) < (s.size : Int)) = true := by simp; omega
   have HB : Hid (i < s.size ∧ i < most) := ⟨hls, hlm⟩
   have h4 : n % 4 = 0 ∨ n % 4 = 1 ∨ n % 4 = 2 ∨ n % 4 = 3 := by omega
   clear hb hlm hi hs
   rcases h4 with h4 | h4 | h4 | h4
   ·have h4' : (n : Int) % 4 = 0 := by omega
    have hl : ltr n = 97 := by unfold ltr; rw [h4]; rfl
    rw [hl] at hI
    have HI := hI.symm
    have HI2 : Hid (o ++ bOf [97] = bOf ((s.data.toList.take (i + 1)).map fun b => ltr b.toNat)) := HI
    clear h4 hl HI hI
    go_wp2_with fail
    exact ⟨⟨i + 1, by go_num, (congrArg (fun z => Value.string (o ++ z)) (by decide +kernel)).trans (congrArg Value.string HI2.out), HB.out.2, HB.out.1, hk⟩, by have := HB.out; simp [intOf]; omega⟩
   ·have h4' : (n : Int) % 4 = 1 := by omega
    have hl : ltr n = 98 := by unfold ltr; rw [h4]; rfl
    rw [hl] at hI
    have HI := hI.symm
    have HI2 : Hid (o ++ bOf [98] = bOf ((s.data.toList.take (i + 1)).map fun b => ltr b.toNat)) := HI
    clear h4 hl HI hI
    go_wp2_with fail
    exact ⟨⟨i + 1, by go_num, (congrArg (fun z => Value.string (o ++ z)) (by decide +kernel)).trans (congrArg Value.string HI2.out), HB.out.2, HB.out.1, hk⟩, by have := HB.out; simp [intOf]; omega⟩
   ·have h4' : (n : Int) % 4 = 2 := by omega
    have hl : ltr n = 99 := by unfold ltr; rw [h4]; rfl
    rw [hl] at hI
    have HI := hI.symm
    have HI2 : Hid (o ++ bOf [99] = bOf ((s.data.toList.take (i + 1)).map fun b => ltr b.toNat)) := HI
    clear h4 hl HI hI
    go_wp2_with fail
    exact ⟨⟨i + 1, by go_num, (congrArg (fun z => Value.string (o ++ z)) (by decide +kernel)).trans (congrArg Value.string HI2.out), HB.out.2, HB.out.1, hk⟩, by have := HB.out; simp [intOf]; omega⟩
   ·have h4' : (n : Int) % 4 = 3 := by omega
    have hl : ltr n = 46 := by unfold ltr; rw [h4]; rfl
    rw [hl] at hI
    have HI := hI.symm
    have HI2 : Hid (o ++ bOf [46] = bOf ((s.data.toList.take (i + 1)).map fun b => ltr b.toNat)) := HI
    clear h4 hl HI hI
    go_wp2_with fail
    exact ⟨⟨i + 1, by go_num, (congrArg (fun z => Value.string (o ++ z)) (by decide +kernel)).trans (congrArg Value.string HI2.out), HB.out.2, HB.out.1, hk⟩, by have := HB.out; simp [intOf]; omega⟩
  ·have HO : bOf ((s.data.toList.take i).map fun b => ltr b.toNat) = txT s most := by
      unfold txT
      rcases Nat.lt_or_ge i s.size with h | h
      ·rw [show i = most by omega]
      ·have hl : s.data.toList.length = s.size := Array.length_toList
       rw [List.take_of_length_le (by omega), List.take_of_length_le (by omega)]
   rw [HO]
   clear HO
   by_cases h1 : i < s.size
   ·have h2 : ¬ (i : Int) < (most : Int) := by omega
    have h1' : (i : Int) < (s.size : Int) := by omega
    clear hlt
    go_wp2_with fail
    go_ret
    exact ⟨rfl, hk⟩
   ·have h1' : ¬ (i : Int) < (s.size : Int) := by omega
    clear hlt
    go_wp2_with fail
    go_ret
    exact ⟨rfl, hk⟩
end Go.Proofs.YtnfojonmohijpabGreatDoor
namespace Go.Proofs.YtnfojonmohijpabGreatDoor
theorem ans_of {p : List UInt8} {x : Nat → Pat} {n a b : Nat} (h : Mw p x n a b) (ha : a ≤ 6) (hn : n ≤ 9) (hp : p.head? ≠ some 94) (hl : p.length ≤ 60) {s : ByteArray} (hs : s.size ≤ 100) (hb : b * (s.size + 1) ≤ 20000)
    {t : List UInt8} {bb : Bool} {nn : Int} (hM : MatchA (bOf p) s t bb nn) :
    nn = 0 ∧ ((bb = true ∧ Mt s (x 0) 0 s.size ∧ ∃ ev, TR s (.node (x 0)) 0 s.size t ev) ∨ (bb = false ∧ t = [] ∧ ¬ Mt s (x 0) 0 s.size)) := by
 have hw := h.ws.whole ha hn hp (bOf p) (by simp [bOf])
 rcases hM with ⟨h1, _⟩ | ⟨_, q, hq, h2⟩
 ·rw [bOf_size] at h1; omega
 ·cases hq.det hw
  rcases h2 with ⟨h3, _⟩ | ⟨_, ⟨h3, rfl, rfl, rfl⟩ | ⟨h3, u, ev, hu, h4⟩⟩
  ·omega
  ·exact ⟨rfl, Or.inr ⟨rfl, rfl, h3⟩⟩
  ·have hlen := hu.len h3
   have hA : (x 0).A * (s.size + 1) ≤ b * (s.size + 1) := Nat.mul_le_mul_right _ (h.len 0)
   simp only [Job.bnd, Nat.sub_zero] at hlen
   rcases h4 with ⟨_, rfl, rfl, rfl⟩ | ⟨h5, _⟩
   ·exact ⟨rfl, Or.inl ⟨rfl, h3, ev, hu⟩⟩
   ·omega
structure Seg (s s' : ByteArray) (d : Nat) : Prop where
 len : d + s'.size ≤ s.size
 get : ∀ k, k < s'.size → at' s' k = at' s (d + k)
theorem It.shift {R R' : Nat → Nat → Prop} {d L : Nat} (le : ∀ i j, R i j → i ≤ j) (le' : ∀ i j, R' i j → i ≤ j) (h : ∀ i j, j ≤ L → (R' i j ↔ R (d + i) (d + j))) : ∀ n i j, j ≤ L → (It R' n i j ↔ It R n (d + i) (d + j))
 | 0, i, j, _ => by
  constructor
  ·intro e; show d + i = d + j; have : i = j := e; omega
  ·intro e; show i = j; have : d + i = d + j := e; omega
 | n + 1, i, j, hj => by
  constructor
  ·rintro ⟨m, a, b⟩
   have hm := It.mono le' b
   exact ⟨d + m, (h i m (by omega)).1 a, (It.shift le le' h n m j hj).1 b⟩
  ·rintro ⟨m, a, b⟩
   have hm := It.mono le b
   have hi := le _ _ a
   obtain ⟨m', rfl⟩ : ∃ m', m = d + m' := ⟨m - d, by omega⟩
   exact ⟨m', (h i m' (by omega)).2 a, (It.shift le le' h n m' j hj).2 b⟩
theorem Seg.mt {s s' : ByteArray} {d : Nat} (h : Seg s s' d) : ∀ (x : Pat) (i j : Nat), j ≤ s'.size → (Mt s' x i j ↔ Mt s x (d + i) (d + j))
 | .set f, i, j, hj => by
  have hl := h.len
  constructor
  ·rintro ⟨a, b, rfl⟩
   exact ⟨by omega, by rw [← h.get i a]; exact b, rfl⟩
  ·rintro ⟨a, b, c⟩
   have hi : i < s'.size := by omega
   exact ⟨hi, by rw [h.get i hi]; exact b, by omega⟩
 | .grp _ x, i, j, hj => h.mt x i j hj
 | .rep mn mx x, i, j, hj => by
  have := It.shift (R := Mt s x) (R' := Mt s' x) (d := d) (L := s'.size) (fun _ _ a => a.le) (fun _ _ a => a.le) (fun i j hj => h.mt x i j hj)
  constructor
  ·rintro ⟨n, a, b, c⟩; exact ⟨n, a, b, (this n i j hj).1 c⟩
  ·rintro ⟨n, a, b, c⟩; exact ⟨n, a, b, (this n i j hj).2 c⟩
 | .pnil, i, j, hj => by
  constructor
  ·intro e; show d + i = d + j; have : i = j := e; omega
  ·intro e; show i = j; have : d + i = d + j := e; omega
 | .pcons x r, i, j, hj => by
  constructor
  ·rintro ⟨m, a, b⟩
   have hm := b.le
   exact ⟨d + m, (h.mt x i m (by omega)).1 a, (h.mt r m j hj).1 b⟩
  ·rintro ⟨m, a, b⟩
   have hm := b.le
   have hi := a.le
   obtain ⟨m', rfl⟩ : ∃ m', m = d + m' := ⟨m - d, by omega⟩
   exact ⟨m', (h.mt x i m' (by omega)).2 a, (h.mt r m' j hj).2 b⟩
 | .wone x, i, j, hj => h.mt x i j hj
 | .wcons x r, i, j, hj => or_congr (h.mt x i j hj) (h.mt r i j hj)
end Go.Proofs.YtnfojonmohijpabGreatDoor
namespace Go.Proofs.YtnfojonmohijpabGreatDoor
def Made2 (p : List UInt8) : Prop := ∃ f n a, Md p f n a 447 ∧ n ≤ 3 ∧ a ≤ 2
theorem made2_md (c : Nat → Nat) (i : Nat) : Made2 (mdT c 2 i) := by
 obtain ⟨f, n, a, h, hn, ha⟩ := md_all c 2 i
 exact ⟨f, n, a, h, by have : n + 1 ≤ 4 := hn; omega, ha⟩
theorem bool_of {a : Bool} {P : Prop} {Q R : Prop} (h : (a = true ∧ P ∧ Q) ∨ (a = false ∧ R ∧ ¬ P)) : a = true ↔ P := by
 rcases h with ⟨rfl, hp, _⟩ | ⟨rfl, _, hp⟩
 ·exact ⟨fun _ => hp, fun _ => rfl⟩
 ·exact ⟨(nomatch ·), fun h => absurd h hp⟩
end Go.Proofs.YtnfojonmohijpabGreatDoor
namespace Go.Proofs.YtnfojonmohijpabGreatDoor
open Go.RowKit
theorem at_ext (t : ByteArray) (a b k : Nat) (h : k < (t.extract a b).size) : at' (t.extract a b) k = at' t (a + k) := by
 have hs : (t.extract a b).size = min b t.size - a := ByteArray.size_extract
 rw [at'_lt h, at'_lt (by omega : a + k < t.size), ByteArray.getElem_extract]
end Go.Proofs.YtnfojonmohijpabGreatDoor
namespace Go.Proofs.YtnfojonmohijpabGreatDoor
theorem seg_mid (t : ByteArray) {i j : Nat} (hi : i ≤ j) (hj : j ≤ t.size) : Seg t (t.extract i j) i ∧ (t.extract i j).size = j - i := by
 have hs : (t.extract i j).size = min j t.size - i := ByteArray.size_extract
 exact ⟨⟨by omega, fun k hk => at_ext t i j k hk⟩, by omega⟩
end Go.Proofs.YtnfojonmohijpabGreatDoor
namespace Go.Proofs.YtnfojonmohijpabGreatDoor
def nmO : ByteArray := ⟨#[111, 110, 101]⟩
def nmT : ByteArray := ⟨#[116, 119, 111]⟩
theorem nmO_ok : NameOk nmO := by
 refine ⟨by decide, by decide, fun i hi => ?_⟩
 have h3 : i < 3 := hi
 match i, h3 with
 | 0, _ => decide
 | 1, _ => decide
 | 2, _ => decide
theorem nmT_ok : NameOk nmT := by
 refine ⟨by decide, by decide, fun i hi => ?_⟩
 have h3 : i < 3 := hi
 match i, h3 with
 | 0, _ => decide
 | 1, _ => decide
 | 2, _ => decide
theorem nmO_ne : nmO ≠ nmT := fun h => by
 have : nmO.data = nmT.data := by rw [h]
 revert this
 decide
def twoR (p q : ByteArray) (sk : Bool) : List Rul := [⟨nmO, p, false⟩, ⟨nmT, q, sk⟩]
def MtOk (p : List UInt8) (t : ByteArray) (x : Pat) : Prop := ∀ i j, i ≤ j → j ≤ t.size → ∀ u b e, MatchA (bOf p) (t.extract i j) u b e → e = 0 ∧ (b = true ↔ Mt t x i j)
theorem Tks.ends {s : ByteArray} {xs : List Pat} {sk : Nat → Bool} {i e : Nat} {l : List Tok} (h : Tks s xs sk i l e) : i ≤ s.size → i ≤ e ∧ e ≤ s.size := by
 induction h with
 | fin i _ => intro h; exact ⟨Nat.le_refl _, h⟩
 | skip i r j l e hb _ _ ih => intro _; have := ih hb.2.1; have := hb.1; omega
 | tok i r j l e hb _ _ ih => intro _; have := ih hb.2.1; have := hb.1; omega
theorem lnC_flat {s : ByteArray} (h : ∀ i, at' s i ≠ 10) : ∀ i, lnC s i = (1, i + 1)
 | 0 => rfl
 | i + 1 => by unfold lnC; rw [if_neg (h i), lnC_flat h i]
theorem munched_math {p q : List UInt8} (hp : Made2 p) (hq : Made2 q) (lp : p.length ≤ 60) (lq : q.length ≤ 60) {t : ByteArray} (ht : t.size ≤ 9) {sk : Bool} {L : List Tok} {e : Nat} {n : Int} (h : TokA (twoR (bOf p) (bOf q) sk) t L e n) :
    n = 0 ∧ ∃ x y, Tks t [x, y] (skO (twoR (bOf p) (bOf q) sk)) 0 L e ∧ MtOk p t x ∧ MtOk q t y := by
 have hmt : ∀ (p : List UInt8) (hp : Made2 p) (lp : p.length ≤ 60), ∃ x g, PatR (bOf p) (.ok ⟨false, false, x, g⟩ p.length) ∧ MtOk p t x := by
  intro p hp lp
  obtain ⟨f, g, da, P, hg, hda⟩ := hp
  have hw := P.one.ws.whole (by omega) (by omega) P.hd (bOf p) (by simp [bOf])
  refine ⟨_, _, hw, fun i j hi hj u b e hM => ?_⟩
  obtain ⟨hsg, hz⟩ := seg_mid t hi hj
  have hb : (447 + 7) * ((t.extract i j).size + 1) ≤ 20000 := Nat.le_trans (Nat.mul_le_mul_left _ (by omega : (t.extract i j).size + 1 ≤ 10)) (by decide)
  obtain ⟨z, r⟩ := ans_of P.one (by omega) (by omega) P.hd lp (by omega : (t.extract i j).size ≤ 100) hb hM
  refine ⟨z, (bool_of r).trans ?_⟩
  have := hsg.mt (.wone (pre (f 0) .pnil)) 0 (t.extract i j).size (Nat.le_refl _)
  rw [Nat.add_zero, show i + (t.extract i j).size = j by omega] at this
  exact this
 obtain ⟨x, g, hx, mx⟩ := hmt p hp lp
 obtain ⟨y, g', hy, my⟩ := hmt q hq lq
 have hR : RulesA (twoR (bOf p) (bOf q) sk) [⟨false, false, x, g⟩, ⟨false, false, y, g'⟩] 0 := by
  refine Or.inr ⟨by simp [twoR], by simp [twoR], Or.inr ⟨rfl, rfl, fun k W hW => ?_⟩⟩
  match k, hW with
  | 0, hW =>
   cases hW
   exact ⟨_, rfl, nmO_ok, fun k q hk => by omega, by rw [bOf_size]; exact lp, _, hx⟩
  | 1, hW =>
   cases hW
   refine ⟨_, rfl, nmT_ok, fun k q hk hq => ?_, by rw [bOf_size]; exact lq, _, hy⟩
   have : k = 0 := by omega
   subst this
   cases hq
   exact nmO_ne
  | k + 2, hW => simp at hW
 obtain ⟨Ws, m, hr, h⟩ := h
 obtain ⟨rfl, rfl⟩ := hr.det hR
 rcases h with ⟨h, _⟩ | ⟨_, ⟨h, _⟩ | ⟨_, rfl, h⟩⟩
 ·exact absurd rfl h
 ·omega
 ·exact ⟨rfl, x, y, h, mx, my⟩
theorem Tks.step {s : ByteArray} {xs : List Pat} {sk : Nat → Bool} {i e : Nat} {l : List Tok} (h : Tks s xs sk i l e) : (i = e ∧ l = [] ∧ NoneT s xs i) ∨ ∃ r j, BestT s xs i r j ∧ ((sk r = true ∧ Tks s xs sk j l e) ∨ (sk r = false ∧ ∃ l', l = ⟨r, i, j, (lnC s i).1, (lnC s i).2⟩ :: l' ∧ Tks s xs sk j l' e)) := by
 cases h with
 | fin _ h => exact Or.inl ⟨rfl, rfl, h⟩
 | skip _ r j _ _ hb hs h => exact Or.inr ⟨r, j, hb, Or.inl ⟨hs, h⟩⟩
 | tok _ r j l' _ hb hs h => exact Or.inr ⟨r, j, hb, Or.inr ⟨hs, l', rfl, h⟩⟩
theorem BestT.lt2 {s : ByteArray} {x y : Pat} {i r j : Nat} (h : BestT s [x, y] i r j) : r < 2 := by
 obtain ⟨z, hz, _⟩ := h.2.2.1
 exact (List.getElem?_eq_some_iff.1 hz).1
set_option maxRecDepth 100000 in
theorem txT_no10 (s : ByteArray) (n : Nat) : ∀ i, at' (txT s n) i ≠ 10 := by
 intro i
 by_cases h : i < (txT s n).size
 ·rw [at'_lt h]
  have h2 : (txT s n).data[i]? = some (txT s n)[i] := Array.getElem?_eq_getElem h
  have h3 : (txT s n).data.toList[i]? = some (txT s n)[i] := by rw [Array.getElem?_toList]; exact h2
  unfold txT bOf at h3
  simp only [List.getElem?_map] at h3
  cases hb : (s.data.toList.take n)[i]? with
  | none => rw [hb] at h3; cases h3
  | some b =>
   rw [hb] at h3
   simp only [Option.map_some, Option.some.injEq] at h3
   unfold txT bOf
   rw [← h3]
   have key : ∀ m : Fin 256, (ltr m.val).toNat ≠ 10 := by decide
   have := key ⟨b.toNat, b.toNat_lt⟩
   intro e
   exact this (by exact_mod_cast e)
 ·rw [at'_ge (by omega)]; decide
end Go.Proofs.YtnfojonmohijpabGreatDoor
namespace Go.Proofs.YtnfojonmohijpabGreatDoor
open Go.ChangeShapes Go.WideShapes Go.ChangeAt Go.WideMaps Go.WideElems Go.RowKit
set_option maxRecDepth 100000 in
theorem raw_open {H : Type} {enc : TypeId × Value → H} {W : World} {base : Nat} {v : Value} {d : DataW H} {p : List MemPlace} (hv : Value.okWide Tryz.prog W .any base 22 v)
    (h : DataW.Trod enc Tryz.prog W 0 (fun _ => true) true 22 v d p) : ∃ zs, RawIs W v zs := by
 obtain ⟨a0, len0, cap0, rfl⟩ := okWide_slice Tryz.underlying22 hv
 obtain ⟨fuel, hf⟩ := h
 rcases open_ints Tryz.underlying22 Tryz.underlying3 (by kernel_rfl) hf with ⟨hcs, _⟩ | ⟨x, l, c, zs, hcs, _, hl, hm, hz, _, hcell, hwz⟩
 ·simp [Value.cells] at hcs
  obtain ⟨rfl, rfl, rfl⟩ := hcs
  exact ⟨[], ⟨none, 0, rfl, fun i z h => by simp at h⟩, by simp, fun i z h => by simp at h⟩
 ·simp [Value.cells] at hcs
  obtain ⟨rfl, rfl, rfl⟩ := hcs
  simp only [if_true] at hz
  have hll : (zs.take len0).length = len0 := by simp; omega
  have hget : ∀ (i : Nat) (z : Int), (zs.take len0)[i]? = some z → zs[i]? = some z ∧ i < zs.length := by
   intro i z hi
   have h1 := (List.getElem?_eq_some_iff.1 hi).1
   rw [hll] at h1
   rw [List.getElem?_take_of_lt h1] at hi
   exact ⟨hi, (List.getElem?_eq_some_iff.1 hi).1⟩
  refine ⟨zs.take len0, ⟨some x, cap0, by rw [hll], fun i z hi => ?_⟩, ?_, fun i z hi => ?_⟩
  ·obtain ⟨h1, h2⟩ := hget i z hi
   have h3 := hcell i h2
   rw [List.getD_eq_getElem?_getD, h1] at h3
   have h4 := World.block_lt_of_cell? _ _ h3
   have h5 : (x.add i).block = x.block := by unfold Addr.add; first | rfl | (split <;> rfl)
   exact ⟨x, rfl, by rw [← h5]; exact h4, h3⟩
  ·rw [hll]; unfold maxLen at hm; omega
  ·obtain ⟨h1, _⟩ := hget i z hi
   have h3 := hwz z (List.mem_of_getElem? h1)
   simp [Lit.wf] at h3
   have h6 : IntKind.i64.min = -9223372036854775808 := by decide
   exact ⟨by omega, h3.2⟩
end Go.Proofs.YtnfojonmohijpabGreatDoor
