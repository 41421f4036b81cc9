/-
  DERIVED. Contracts of yarrowkeep's pick, at and single. Conditions: numbers are within int's range.
-/
import Derived.Test.YtnfojonmohijpabGreatDoorJOL
import Derived.Test.YtnfojonmohijpabGreatDoorJBE
import Derived.Test.YtnfojonmohijpabGreatDoorJSpec
import Derived.Test.YtnfojonmohijpabGreatDoorJOF
import Derived.Test.YtnfojonmohijpabGreatDoorJKB
import Derived.Test.YtnfojonmohijpabGreatDoorJNK
import Derived.Test.YtnfojonmohijpabGreatDoorJRA
import Derived.ProofKit
import Derived.Deep.Slices
import Derived.Deep.Strs
set_option linter.unusedSimpArgs false
set_option linter.unusedVariables false
namespace Go.Proofs.YtnfojonmohijpabGreatDoor
open Go.RowKit
def pk (c : Int) (n : Nat) : Nat := (if c < 0 then (-(c + 1)).toNat else c.toNat) % n
def inI (c : Int) : Prop := -9223372036854775808 ≤ c ∧ c ≤ 9223372036854775807
set_option maxRecDepth 100000 in
set_option maxHeartbeats 1000000 in
theorem kpick_any (c : Int) (n : Nat) (hc : inI c) (hn : 0 < n) (hn2 : n ≤ 1099511627776) (w : World) : Calls Tryz.prog 14 #[.int .i64 c, .int .i64 n] w fun e w' => e = .returned (.int .i64 (pk c n)) ∧ w' = w := by
 obtain ⟨h1, h2⟩ := hc
 have hn' : (0 : Int) < (n : Int) := by omega
 have hnz : ¬ (n : Int) = 0 := by omega
 by_cases hneg : c < 0
 ·obtain ⟨m, hm⟩ : ∃ m : Nat, -(c + 1) = (m : Int) := ⟨(-(c + 1)).toNat, by omega⟩
  have hw1 : IntKind.i64.wrap (c + 1) = c + 1 := by rw [IntKind.wrap_i64]; omega
  have hw2 : IntKind.i64.wrap (-(c + 1)) = (m : Int) := by rw [IntKind.wrap_i64, hm]; omega
  have HP : Hid (((m : Int) % (n : Int)) = (pk c n : Int)) := by
   show (m : Int) % (n : Int) = (pk c n : Int)
   unfold pk
   rw [if_pos hneg, hm, Int.toNat_natCast]
   exact (Int.natCast_emod m n).symm
  have hm0 : (0 : Int) ≤ (m : Int) := by omega
  have hmm : (m : Int) ≤ 9223372036854775807 := by omega
  have hr0 : (0 : Int) ≤ (m : Int) % (n : Int) := Int.emod_nonneg _ hnz
  have hr1 : (m : Int) % (n : Int) < (n : Int) := Int.emod_lt_of_pos _ hn'
  go_enter Tryz.func14, Tryz.ntmps14
  go_wp2_with fail
  go_ret
  exact ⟨ret_int HP, rfl⟩
 ·obtain ⟨m, rfl⟩ : ∃ m : Nat, c = (m : Int) := ⟨c.toNat, by omega⟩
  have HP : Hid (((m : Int) % (n : Int)) = (pk (m : Int) n : Int)) := by
   show (m : Int) % (n : Int) = (pk (m : Int) n : Int)
   unfold pk
   rw [if_neg hneg, Int.toNat_natCast]
   exact (Int.natCast_emod m n).symm
  have hr0 : (0 : Int) ≤ (m : Int) % (n : Int) := Int.emod_nonneg _ hnz
  have hr1 : (m : Int) % (n : Int) < (n : Int) := Int.emod_lt_of_pos _ hn'
  have hm0 : (0 : Int) ≤ (m : Int) := by omega
  go_enter Tryz.func14, Tryz.ntmps14
  go_wp2_with fail
  go_ret
  exact ⟨ret_int HP, rfl⟩
structure RawIs (w : World) (v : Value) (zs : List Int) : Prop where
 rd : ∃ a cap, v = .slice a zs.length cap ∧ ∀ (i : Nat) z, zs[i]? = some z → ∃ x : Addr, a = some x ∧ x.block < w.heap.size ∧ w.cell? (x.add i) = some (.int .i64 z)
 len : zs.length ≤ 9223372036854775807
 wf : ∀ (i : Nat) z, zs[i]? = some z → inI z
def cv (zs : List Int) (i : Nat) : Nat := (zs[i]?.map fun z => pk z 1099511627776).getD 0
set_option maxRecDepth 100000 in
set_option maxHeartbeats 1000000 in
theorem kat_any (v : Value) (zs : List Int) (i : Nat) (hi : i ≤ 1000) (w : World) (hr : RawIs w v zs) : Calls Tryz.prog 16 #[v, .int .i64 i] w fun e w' => e = .returned (.int .i64 (cv zs i)) ∧ w' = w := by
 obtain ⟨a, cap, rfl, hc⟩ := hr.rd
 have hl := hr.len
 have hl' : (zs.length : Int) ≤ 9223372036854775807 := by omega
 have hi0 : (0 : Int) ≤ (i : Int) := by omega
 have hi1 : (i : Int) ≤ 1000 := by omega
 by_cases hlt : i < zs.length
 ·obtain ⟨z, hz⟩ : ∃ z, zs[i]? = some z := ⟨_, List.getElem?_eq_getElem hlt⟩
  obtain ⟨x, rfl, hx, hcell⟩ := hc i z hz
  have hp := kpick_any z 1099511627776 (hr.wf i z hz) (by decide) (by decide) w
  have HC : Hid (pk z 1099511627776 = cv zs i) := by
   show pk z 1099511627776 = cv zs i
   unfold cv; rw [hz]; rfl
  have hlt' : (i : Int) < (zs.length : Int) := by omega
  clear hc hz hlt
  go_enter Tryz.func16, Tryz.ntmps16
  go_wp2_with fail
  refine hp.mono ?_
  rintro e w1 ⟨rfl, rfl⟩
  rw [HC.out]
  go_wp2_with fail
  go_ret
  exact ⟨rfl, rfl⟩
 ·have hge : (zs.length : Int) ≤ (i : Int) := by omega
  have HC : Hid (0 = cv zs i) := by
   show 0 = cv zs i
   unfold cv; rw [List.getElem?_eq_none (by omega)]; rfl
  clear hc hlt
  go_enter Tryz.func16, Tryz.ntmps16
  go_wp2_with fail
  go_ret
  exact ⟨ret_int (congrArg Int.ofNat HC.out), rfl⟩
theorem RawIs.keep {w w' : World} {v : Value} {zs : List Int} (h : RawIs w v zs) (hk : Keeps [] w w') : RawIs w' v zs := by
 obtain ⟨a, cap, rfl, hc⟩ := h.rd
 refine ⟨⟨a, cap, rfl, fun i z hz => ?_⟩, h.len, h.wf⟩
 obtain ⟨x, rfl, hx, hcell⟩ := hc i z hz
 exact ⟨x, rfl, Nat.lt_of_lt_of_le hx hk.size, (World.cell?_of_block (hk.block (x.add i).block (World.block_lt_of_cell? _ _ hcell) (by simp))).trans hcell⟩
def bOf (l : List UInt8) : ByteArray := ⟨l.toArray⟩
set_option maxRecDepth 100000 in
set_option maxHeartbeats 4000000 in
theorem ksingle_any (c : Nat) (hc : c ≤ 1099511627776) (w : World) : Calls Tryz.prog 11 #[.int .i64 c] w fun e w' => e = .returned (.string (bOf (sgT (c % 9)))) ∧ Keeps [] w w' := by
 have hcc : (c : Int) ≤ 1099511627776 := by omega
 have hc0 : (0 : Int) ≤ (c : Int) := by omega
 obtain ⟨k, hk⟩ : ∃ k, c % 9 = k := ⟨_, rfl⟩
 have hm : (c : Int) % 9 = (k : Int) := by omega
 rw [hk]
 have hk9 : k < 9 := by omega
 rcases (by omega : k = 0 ∨ k = 1 ∨ k = 2 ∨ k = 3 ∨ k = 4 ∨ k = 5 ∨ k = 6 ∨ k = 7 ∨ k = 8) with rfl | rfl | rfl | rfl | rfl | rfl | rfl | rfl | rfl
 all_goals
  clear hk hk9
  go_enter Tryz.func11, Tryz.ntmps11
  go_wp2_with fail
  go_ret
  exact ⟨rfl, (Keeps.refl [] w).alloc _⟩
end Go.Proofs.YtnfojonmohijpabGreatDoor
namespace Go.Proofs.YtnfojonmohijpabGreatDoor
open Go.RowKit
theorem bOf_app (a b : List UInt8) : bOf (a ++ b) = bOf a ++ bOf b := by
 apply ByteArray.ext
 simp [bOf]
theorem sgT_len (k : Nat) : (sgT k).length ≤ 11 := by
 match k with
 | 0 => decide
 | 1 => decide
 | 2 => decide
 | 3 => decide
 | 4 => decide
 | 5 => decide
 | 6 => decide
 | 7 => decide
 | _ + 8 => exact (by decide : ([92, 46] : List UInt8).length ≤ 11)
theorem rpT_len (k : Nat) : (rpT k).length ≤ 1 := by
 match k with
 | 0 => decide
 | 1 => decide
 | _ + 2 => exact (by decide : ([43] : List UInt8).length ≤ 1)
theorem lwT_len (k : Nat) : (lwT k).length ≤ 1 := by
 match k with
 | 0 => decide
 | 1 => decide
 | _ + 2 => exact (by decide : ([50] : List UInt8).length ≤ 1)
theorem hiT_len (k : Nat) : (hiT k).length ≤ 1 := by
 match k with
 | 0 => decide
 | 1 => decide
 | _ + 2 => exact (by decide : ([] : List UInt8).length ≤ 1)
theorem mdT_len (c : Nat → Nat) : ∀ deep i, (mdT c deep i).length + 3 ≤ 14 * 2 ^ deep
 | 0, i => by have := sgT_len (c i / 7 % 9); simp only [mdT]; omega
 | deep + 1, i => by
  have h1 := mdT_len c deep (i + 1)
  have h2 := mdT_len c deep (i + 2)
  have h3 := sgT_len (c i / 7 % 9)
  have h4 := rpT_len (c i / 7 % 3)
  have h5 := lwT_len (c i / 7 % 3)
  have h6 := hiT_len (c i / 21 % 3)
  have hp : 2 ^ (deep + 1) = 2 * 2 ^ deep := by rw [Nat.pow_succ]; omega
  have hp1 : 1 ≤ 2 ^ deep := Nat.one_le_pow _ _ (by omega)
  unfold mdT
  split <;> (try simp only [List.length_append, List.length_cons, List.length_nil]) <;> omega
theorem bOf_size (l : List UInt8) : (bOf l).size = l.length := by simp [bOf, ByteArray.size]
theorem mdT_zero (c : Nat → Nat) (deep i : Nat) (h : deep = 0 ∨ c i % 7 = 0) : mdT c deep i = sgT (c i / 7 % 9) := by
 cases deep with
 | zero => rfl
 | succ d =>
  rcases h with h | h
  ·cases h
  ·unfold mdT; rw [h]; rfl
theorem cv_lt (zs : List Int) (i : Nat) : cv zs i < 1099511627776 := by
 unfold cv
 cases zs[i]? with
 | none => decide
 | some z => exact Nat.mod_lt _ (by decide)
def mdX (k c : Nat) (x y : ByteArray) : ByteArray :=
 match k with
 | 1 => bOf [40] ++ x ++ bOf [41]
 | 2 => x ++ y
 | 3 => bOf [40] ++ x ++ bOf [124] ++ y ++ bOf [41]
 | 4 => bOf [40] ++ x ++ bOf [41, 42]
 | 5 => bOf [40] ++ x ++ bOf [124, 41] ++ bOf (rpT (c / 7 % 3))
 | _ => bOf [40] ++ x ++ bOf [41, 123] ++ bOf (lwT (c / 7 % 3)) ++ bOf [44] ++ bOf (hiT (c / 21 % 3)) ++ bOf [125]
theorem mdT_succ (c : Nat → Nat) (deep i : Nat) (h : c i % 7 ≠ 0) : bOf (mdT c (deep + 1) i) = mdX (c i % 7) (c i) (bOf (mdT c deep (i + 1))) (bOf (mdT c deep (i + 2))) := by
 rw [mdT]
 generalize c i % 7 = k at h ⊢
 match k, h with
 | 0, h => exact absurd rfl h
 | 1, _ => simp only [mdX, bOf_app]
 | 2, _ => simp only [mdX, bOf_app]
 | 3, _ => simp only [mdX, bOf_app]
 | 4, _ => simp only [mdX, bOf_app]
 | 5, _ => simp only [mdX, bOf_app]
 | _ + 6, _ => simp only [mdX, bOf_app]
set_option maxRecDepth 100000 in
set_option maxHeartbeats 8000000 in
theorem made_any (v : Value) (zs : List Int) : ∀ (deep : Nat), deep ≤ 3 → ∀ (i : Nat), i + 2 * deep ≤ 900 → ∀ (w : World), RawIs w v zs →
    Calls Tryz.prog 8 #[v, .int .i64 i, .int .i64 deep] w fun e w' => e = .returned (.string (bOf (mdT (cv zs) deep i))) ∧ Keeps [] w w' := by
 intro deep
 induction deep with
 | zero =>
  intro _ i hi w hr
  have h1 := kat_any v zs i (by omega) w hr
  have hb := cv_lt zs i
  rw [mdT_zero _ _ _ (Or.inl rfl)]
  generalize cv zs i = C at h1 hb ⊢
  have hS := ksingle_any (C / 7) (by omega) w
  have hb' : (C : Int) < 1099511627776 := by omega
  have hb0 : (0 : Int) ≤ (C : Int) := by omega
  go_enter Tryz.func8, Tryz.ntmps8
  go_wp2_with fail
  refine h1.mono ?_
  rintro e w1 ⟨rfl, rfl⟩
  clear h1 hr
  go_wp2_with fail
  refine hS.mono ?_
  rintro e w2 ⟨rfl, hk⟩
  clear hS
  go_wp2_with fail
  go_ret
  exact ⟨rfl, hk⟩
 | succ deep ih =>
  intro hdp i hi w hr
  obtain ⟨D, hDe⟩ : ∃ D : Int, ((deep + 1 : Nat) : Int) = D := ⟨_, rfl⟩
  rw [hDe]
  have hD1 : D - 1 = (deep : Int) := by omega
  have hD3 : D ≤ 3 := by omega
  have hD0 : 1 ≤ D := by omega
  have hDz : ¬ D = 0 := by omega
  have hDd : (D == 0) = false := by simp [hDz]
  clear hDe
  have hd0 : (0 : Int) ≤ (deep : Int) := by omega
  have hi0 : (0 : Int) ≤ (i : Int) := by omega
  have h1 := kat_any v zs i (by omega) w hr
  have hb := cv_lt zs i
  have hx := ih (by omega) (i + 1) (by omega)
  have hy := ih (by omega) (i + 2) (by omega)
  have hlx := mdT_len (cv zs) deep (i + 1)
  have hly := mdT_len (cv zs) deep (i + 2)
  have hp3 : 2 ^ deep ≤ 8 := Nat.pow_le_pow_right (by decide) (by omega : deep ≤ 3)
  have hdn : (deep : Int) ≤ 2 := by omega
  have hin : (i : Int) ≤ 900 := by omega
  by_cases h0 : cv zs i % 7 = 0
  ·rw [mdT_zero _ _ _ (Or.inr h0)]
   generalize cv zs i = C at h1 hb h0 ⊢
   have hS := ksingle_any (C / 7) (by omega) w
   have hb' : (C : Int) < 1099511627776 := by omega
   have hb0 : (0 : Int) ≤ (C : Int) := by omega
   have h0' : (C : Int) % 7 = 0 := by omega
   clear ih hx hy hlx hly h0
   go_enter Tryz.func8, Tryz.ntmps8
   go_wp2_with fail
   refine h1.mono ?_
   rintro e w1 ⟨rfl, rfl⟩
   clear h1 hr
   go_wp2_with fail
   refine hS.mono ?_
   rintro e w2 ⟨rfl, hk⟩
   clear hS
   go_wp2_with fail
   go_ret
   exact ⟨rfl, hk⟩
  ·rw [mdT_succ _ _ _ h0]
   generalize cv zs i = C at h1 hb h0 ⊢
   rw [← bOf_size] at hlx hly
   generalize bOf (mdT (cv zs) deep (i + 1)) = x at hx hlx ⊢
   generalize bOf (mdT (cv zs) deep (i + 2)) = y at hy hly ⊢
   have hb' : (C : Int) < 1099511627776 := by omega
   have hb0 : (0 : Int) ≤ (C : Int) := by omega
   have hx1 : (x.size : Int) ≤ 200 := by omega
   have hy1 : (y.size : Int) ≤ 200 := by omega
   have HX : Hid (∀ w, RawIs w v zs → Calls Tryz.prog 8 #[v, .int .i64 ((i + 1 : Nat) : Int), .int .i64 (deep : Int)] w fun e w' => e = .returned (.string x) ∧ Keeps [] w w') := hx
   have HY : Hid (∀ w, RawIs w v zs → Calls Tryz.prog 8 #[v, .int .i64 ((i + 2 : Nat) : Int), .int .i64 (deep : Int)] w fun e w' => e = .returned (.string y) ∧ Keeps [] w w') := hy
   have hd7 : C % 7 = 1 ∨ C % 7 = 2 ∨ C % 7 = 3 ∨ C % 7 = 4 ∨ C % 7 = 5 ∨ C % 7 = 6 := by omega
   clear ih hlx hly hx hy h0
   rcases hd7 with h7 | h7 | h7 | h7 | h7 | h7
   ·rw [h7]
    have h7' : (C : Int) % 7 = 1 := by omega
    clear h7
    go_enter Tryz.func8, Tryz.ntmps8
    go_wp2_with fail
    refine h1.mono ?_
    rintro e w1 ⟨rfl, rfl⟩
    clear h1
    go_wp2_with fail
    refine (HX.out w1 hr).mono ?_
    rintro e w2 ⟨rfl, hk2⟩
    have hr2 := hr.keep hk2
    clear hr HX
    go_wp2_with fail
    refine (HY.out w2 hr2).mono ?_
    rintro e w3 ⟨rfl, hk3⟩
    have hk := hk2.trans hk3
    clear hr2 HY hk2 hk3
    go_wp2_with fail
    go_ret
    exact ⟨rfl, hk⟩
   ·rw [h7]
    have h7' : (C : Int) % 7 = 2 := by omega
    clear h7
    go_enter Tryz.func8, Tryz.ntmps8
    go_wp2_with fail
    refine h1.mono ?_
    rintro e w1 ⟨rfl, rfl⟩
    clear h1
    go_wp2_with fail
    refine (HX.out w1 hr).mono ?_
    rintro e w2 ⟨rfl, hk2⟩
    have hr2 := hr.keep hk2
    clear hr HX
    go_wp2_with fail
    refine (HY.out w2 hr2).mono ?_
    rintro e w3 ⟨rfl, hk3⟩
    have hk := hk2.trans hk3
    clear hr2 HY hk2 hk3
    go_wp2_with fail
    go_ret
    exact ⟨rfl, hk⟩
   ·rw [h7]
    have h7' : (C : Int) % 7 = 3 := by omega
    clear h7
    go_enter Tryz.func8, Tryz.ntmps8
    go_wp2_with fail
    refine h1.mono ?_
    rintro e w1 ⟨rfl, rfl⟩
    clear h1
    go_wp2_with fail
    refine (HX.out w1 hr).mono ?_
    rintro e w2 ⟨rfl, hk2⟩
    have hr2 := hr.keep hk2
    clear hr HX
    go_wp2_with fail
    refine (HY.out w2 hr2).mono ?_
    rintro e w3 ⟨rfl, hk3⟩
    have hk := hk2.trans hk3
    clear hr2 HY hk2 hk3
    go_wp2_with fail
    go_ret
    exact ⟨rfl, hk⟩
   ·rw [h7]
    have h7' : (C : Int) % 7 = 4 := by omega
    clear h7
    go_enter Tryz.func8, Tryz.ntmps8
    go_wp2_with fail
    refine h1.mono ?_
    rintro e w1 ⟨rfl, rfl⟩
    clear h1
    go_wp2_with fail
    refine (HX.out w1 hr).mono ?_
    rintro e w2 ⟨rfl, hk2⟩
    have hr2 := hr.keep hk2
    clear hr HX
    go_wp2_with fail
    refine (HY.out w2 hr2).mono ?_
    rintro e w3 ⟨rfl, hk3⟩
    have hk := hk2.trans hk3
    clear hr2 HY hk2 hk3
    go_wp2_with fail
    go_ret
    exact ⟨rfl, hk⟩
   ·rw [h7]
    have h7' : (C : Int) % 7 = 5 := by omega
    have hq : C / 7 % 3 = 0 ∨ C / 7 % 3 = 1 ∨ C / 7 % 3 = 2 := by omega
    unfold mdX
    rcases hq with hq | hq | hq
    ·rw [hq]
     have hq' : (C : Int) / 7 % 3 = 0 := by omega
     clear hq
     clear h7
     go_enter Tryz.func8, Tryz.ntmps8
     go_wp2_with fail
     refine h1.mono ?_
     rintro e w1 ⟨rfl, rfl⟩
     clear h1
     go_wp2_with fail
     refine (HX.out w1 hr).mono ?_
     rintro e w2 ⟨rfl, hk2⟩
     have hr2 := hr.keep hk2
     clear hr HX
     go_wp2_with fail
     refine (HY.out w2 hr2).mono ?_
     rintro e w3 ⟨rfl, hk3⟩
     have hk := hk2.trans hk3
     clear hr2 HY hk2 hk3
     go_wp2_with fail
     go_ret
     exact ⟨rfl, hk.alloc _⟩
    ·rw [hq]
     have hq' : (C : Int) / 7 % 3 = 1 := by omega
     clear hq
     clear h7
     go_enter Tryz.func8, Tryz.ntmps8
     go_wp2_with fail
     refine h1.mono ?_
     rintro e w1 ⟨rfl, rfl⟩
     clear h1
     go_wp2_with fail
     refine (HX.out w1 hr).mono ?_
     rintro e w2 ⟨rfl, hk2⟩
     have hr2 := hr.keep hk2
     clear hr HX
     go_wp2_with fail
     refine (HY.out w2 hr2).mono ?_
     rintro e w3 ⟨rfl, hk3⟩
     have hk := hk2.trans hk3
     clear hr2 HY hk2 hk3
     go_wp2_with fail
     go_ret
     exact ⟨rfl, hk.alloc _⟩
    ·rw [hq]
     have hq' : (C : Int) / 7 % 3 = 2 := by omega
     clear hq
     clear h7
     go_enter Tryz.func8, Tryz.ntmps8
     go_wp2_with fail
     refine h1.mono ?_
     rintro e w1 ⟨rfl, rfl⟩
     clear h1
     go_wp2_with fail
     refine (HX.out w1 hr).mono ?_
     rintro e w2 ⟨rfl, hk2⟩
     have hr2 := hr.keep hk2
     clear hr HX
     go_wp2_with fail
     refine (HY.out w2 hr2).mono ?_
     rintro e w3 ⟨rfl, hk3⟩
     have hk := hk2.trans hk3
     clear hr2 HY hk2 hk3
     go_wp2_with fail
     go_ret
     exact ⟨rfl, hk.alloc _⟩
   ·rw [h7]
    have h7' : (C : Int) % 7 = 6 := by omega
    clear h7
    have hq : C / 7 % 3 = 0 ∨ C / 7 % 3 = 1 ∨ C / 7 % 3 = 2 := by omega
    have hp : C / 21 % 3 = 0 ∨ C / 21 % 3 = 1 ∨ C / 21 % 3 = 2 := by omega
    have HC : Hid (C < 1099511627776) := hb
    unfold mdX
    go_enter Tryz.func8, Tryz.ntmps8
    go_wp2_with fail
    refine h1.mono ?_
    rintro e w1 ⟨rfl, rfl⟩
    clear h1
    go_wp2_with fail
    refine (HX.out w1 hr).mono ?_
    rintro e w2 ⟨rfl, hk2⟩
    have hr2 := hr.keep hk2
    clear hr HX
    go_wp2_with fail
    refine (HY.out w2 hr2).mono ?_
    rintro e w3 ⟨rfl, hk3⟩
    have hk := hk2.trans hk3
    clear hr2 HY hk2 hk3
    go_upto_region 17 with (fail)
    rcases hq with hq | hq | hq <;> rcases hp with hp | hp | hp
    ·have HQ : Hid (C / 7 % 3 = 0 ∧ C / 21 % 3 = 0) := ⟨hq, hp⟩
     have hq' : (C : Int) / 7 % 3 = 0 := by omega
     have hp' : (C : Int) / 21 % 3 = 0 := by omega
     clear hq hp
     go_region
     all_goals
      go_wp2_with fail
      go_ret
      exact ⟨by rw [HQ.out.1, HQ.out.2]; rfl, ((hk.alloc _).alloc _).drewN 1⟩
    ·have HQ : Hid (C / 7 % 3 = 0 ∧ C / 21 % 3 = 1) := ⟨hq, hp⟩
     have hq' : (C : Int) / 7 % 3 = 0 := by omega
     have hp' : (C : Int) / 21 % 3 = 1 := by omega
     clear hq hp
     go_region
     all_goals
      go_wp2_with fail
      go_ret
      exact ⟨by rw [HQ.out.1, HQ.out.2]; rfl, ((hk.alloc _).alloc _).drewN 1⟩
    ·have HQ : Hid (C / 7 % 3 = 0 ∧ C / 21 % 3 = 2) := ⟨hq, hp⟩
     have hq' : (C : Int) / 7 % 3 = 0 := by omega
     have hp' : (C : Int) / 21 % 3 = 2 := by omega
     clear hq hp
     go_region
     all_goals
      go_wp2_with fail
      go_ret
      exact ⟨by rw [HQ.out.1, HQ.out.2]; rfl, ((hk.alloc _).alloc _).drewN 1⟩
    ·have HQ : Hid (C / 7 % 3 = 1 ∧ C / 21 % 3 = 0) := ⟨hq, hp⟩
     have hq' : (C : Int) / 7 % 3 = 1 := by omega
     have hp' : (C : Int) / 21 % 3 = 0 := by omega
     clear hq hp
     go_region
     all_goals
      go_wp2_with fail
      go_ret
      exact ⟨by rw [HQ.out.1, HQ.out.2]; rfl, ((hk.alloc _).alloc _).drewN 1⟩
    ·have HQ : Hid (C / 7 % 3 = 1 ∧ C / 21 % 3 = 1) := ⟨hq, hp⟩
     have hq' : (C : Int) / 7 % 3 = 1 := by omega
     have hp' : (C : Int) / 21 % 3 = 1 := by omega
     clear hq hp
     go_region
     all_goals
      go_wp2_with fail
      go_ret
      exact ⟨by rw [HQ.out.1, HQ.out.2]; rfl, ((hk.alloc _).alloc _).drewN 1⟩
    ·have HQ : Hid (C / 7 % 3 = 1 ∧ C / 21 % 3 = 2) := ⟨hq, hp⟩
     have hq' : (C : Int) / 7 % 3 = 1 := by omega
     have hp' : (C : Int) / 21 % 3 = 2 := by omega
     clear hq hp
     go_region
     all_goals
      go_wp2_with fail
      go_ret
      exact ⟨by rw [HQ.out.1, HQ.out.2]; rfl, ((hk.alloc _).alloc _).drewN 1⟩
    ·have HQ : Hid (C / 7 % 3 = 2 ∧ C / 21 % 3 = 0) := ⟨hq, hp⟩
     have hq' : (C : Int) / 7 % 3 = 2 := by omega
     have hp' : (C : Int) / 21 % 3 = 0 := by omega
     clear hq hp
     go_region
     all_goals
      go_wp2_with fail
      go_ret
      exact ⟨by rw [HQ.out.1, HQ.out.2]; rfl, ((hk.alloc _).alloc _).drewN 1⟩
    ·have HQ : Hid (C / 7 % 3 = 2 ∧ C / 21 % 3 = 1) := ⟨hq, hp⟩
     have hq' : (C : Int) / 7 % 3 = 2 := by omega
     have hp' : (C : Int) / 21 % 3 = 1 := by omega
     clear hq hp
     go_region
     all_goals
      go_wp2_with fail
      go_ret
      exact ⟨by rw [HQ.out.1, HQ.out.2]; rfl, ((hk.alloc _).alloc _).drewN 1⟩
    ·have HQ : Hid (C / 7 % 3 = 2 ∧ C / 21 % 3 = 2) := ⟨hq, hp⟩
     have hq' : (C : Int) / 7 % 3 = 2 := by omega
     have hp' : (C : Int) / 21 % 3 = 2 := by omega
     clear hq hp
     go_region
     all_goals
      go_wp2_with fail
      go_ret
      exact ⟨by rw [HQ.out.1, HQ.out.2]; rfl, ((hk.alloc _).alloc _).drewN 1⟩
end Go.Proofs.YtnfojonmohijpabGreatDoor
namespace Go.Proofs.YtnfojonmohijpabGreatDoor
open Go.RowKit
def ltr (k : Nat) : UInt8 := match k % 4 with | 0 => 97 | 1 => 98 | 2 => 99 | _ => 46
def txT (s : ByteArray) (most : Nat) : ByteArray := bOf ((s.data.toList.take most).map fun b => ltr b.toNat)
theorem txT_size (s : ByteArray) (most : Nat) : (txT s most).size ≤ most := by
 unfold txT; rw [bOf_size]; simp; omega
theorem take_step {l : List UInt8} {i : Nat} {b : UInt8} (h : l[i]? = some b) : bOf ((l.take (i + 1)).map fun b => ltr b.toNat) = bOf ((l.take i).map fun b => ltr b.toNat) ++ bOf [ltr b.toNat] := by
 rw [List.take_add_one, h, List.map_append, bOf_app]; rfl
set_option maxRecDepth 100000 in
set_option maxHeartbeats 4000000 in
theorem ktext_any (s : ByteArray) (most : Nat) (hm : most ≤ 100) (w : World) : Calls Tryz.prog 7 #[.string s, .int .i64 most] w fun e w' => e = .returned (.string (txT s most)) ∧ Keeps [] w w' := by
 have hmm : (most : Int) ≤ 100 := by omega
 go_enter Tryz.func7, Tryz.ntmps7
 go_upto_region 3 with (fail)
 go_loopw [5, 6] (fun o q wr => ∃ i : Nat, q = .int .i64 i ∧ o = .string (bOf ((s.data.toList.take i).map fun b => ltr b.toNat)) ∧ i ≤ most ∧ i ≤ s.size ∧ Keeps [] w wr) (fun _ q _ => most - (intOf q).toNat)
 case atStart => exact ⟨0, rfl, rfl, Nat.zero_le _, Nat.zero_le _, Keeps.refl _ _⟩
 case round =>
  obtain ⟨i, rfl, rfl, hi, hs, hk⟩ := hrel
  by_cases hlt : i < s.size ∧ i < most
  ·obtain ⟨hls, hlm⟩ := hlt
   have hb : s.data.toList[i]? = some (s[i]'hls) := by
    rw [Array.getElem?_toList]
    exact Array.getElem?_eq_getElem hls
   have hI := take_step hb
   have hn256 := (s[i]'hls).toNat_lt
   obtain ⟨n, hn⟩ : ∃ n, (s[i]'hls).toNat = n := ⟨_, rfl⟩
   rw [hn] at hI hn256
   have hz : (bOf ((s.data.toList.take i).map fun b => ltr b.toNat)).size ≤ 100 := by rw [bOf_size]; simp; omega
   generalize bOf ((s.data.toList.take i).map fun b => ltr b.toNat) = o at hI hz ⊢
   have hz' : (o.size : Int) ≤ 100 := by omega
   have hi0 : (0 : Int) ≤ (i : Int) := by omega
   have hi1 : (i : Int) < (s.size : Int) := by omega
   have hi2 : (i : Int) < (most : Int) := by omega
   have hi3 : (i : Int) ≤ 100 := by omega
   have hn0 : (0 : Int) ≤ (n : Int) := by omega
   have hn1 : (n : Int) ≤ 255 := by omega
   have hd1 : decide ((i : Int) < (s.size : Int)) = true := by simp; omega
   have HB : Hid (i < s.size ∧ i < most) := ⟨hls, hlm⟩
   have h4 : n % 4 = 0 ∨ n % 4 = 1 ∨ n % 4 = 2 ∨ n % 4 = 3 := by omega
   clear hb hlm hi hs
   rcases h4 with h4 | h4 | h4 | h4
   ·have h4' : (n : Int) % 4 = 0 := by omega
    have hl : ltr n = 97 := by unfold ltr; rw [h4]; rfl
    rw [hl] at hI
    have HI := hI.symm
    have HI2 : Hid (o ++ bOf [97] = bOf ((s.data.toList.take (i + 1)).map fun b => ltr b.toNat)) := HI
    clear h4 hl HI hI
    go_wp2_with fail
    exact ⟨⟨i + 1, by go_num, (congrArg (fun z => Value.string (o ++ z)) (by decide +kernel)).trans (congrArg Value.string HI2.out), HB.out.2, HB.out.1, hk⟩, by have := HB.out; simp [intOf]; omega⟩
   ·have h4' : (n : Int) % 4 = 1 := by omega
    have hl : ltr n = 98 := by unfold ltr; rw [h4]; rfl
    rw [hl] at hI
    have HI := hI.symm
    have HI2 : Hid (o ++ bOf [98] = bOf ((s.data.toList.take (i + 1)).map fun b => ltr b.toNat)) := HI
    clear h4 hl HI hI
    go_wp2_with fail
    exact ⟨⟨i + 1, by go_num, (congrArg (fun z => Value.string (o ++ z)) (by decide +kernel)).trans (congrArg Value.string HI2.out), HB.out.2, HB.out.1, hk⟩, by have := HB.out; simp [intOf]; omega⟩
   ·have h4' : (n : Int) % 4 = 2 := by omega
    have hl : ltr n = 99 := by unfold ltr; rw [h4]; rfl
    rw [hl] at hI
    have HI := hI.symm
    have HI2 : Hid (o ++ bOf [99] = bOf ((s.data.toList.take (i + 1)).map fun b => ltr b.toNat)) := HI
    clear h4 hl HI hI
    go_wp2_with fail
    exact ⟨⟨i + 1, by go_num, (congrArg (fun z => Value.string (o ++ z)) (by decide +kernel)).trans (congrArg Value.string HI2.out), HB.out.2, HB.out.1, hk⟩, by have := HB.out; simp [intOf]; omega⟩
   ·have h4' : (n : Int) % 4 = 3 := by omega
    have hl : ltr n = 46 := by unfold ltr; rw [h4]; rfl
    rw [hl] at hI
    have HI := hI.symm
    have HI2 : Hid (o ++ bOf [46] = bOf ((s.data.toList.take (i + 1)).map fun b => ltr b.toNat)) := HI
    clear h4 hl HI hI
    go_wp2_with fail
    exact ⟨⟨i + 1, by go_num, (congrArg (fun z => Value.string (o ++ z)) (by decide +kernel)).trans (congrArg Value.string HI2.out), HB.out.2, HB.out.1, hk⟩, by have := HB.out; simp [intOf]; omega⟩
  ·have HO : bOf ((s.data.toList.take i).map fun b => ltr b.toNat) = txT s most := by
      unfold txT
      rcases Nat.lt_or_ge i s.size with h | h
      ·rw [show i = most by omega]
      ·have hl : s.data.toList.length = s.size := Array.length_toList
       rw [List.take_of_length_le (by omega), List.take_of_length_le (by omega)]
   rw [HO]
   clear HO
   by_cases h1 : i < s.size
   ·have h2 : ¬ (i : Int) < (most : Int) := by omega
    have h1' : (i : Int) < (s.size : Int) := by omega
    clear hlt
    go_wp2_with fail
    go_ret
    exact ⟨rfl, hk⟩
   ·have h1' : ¬ (i : Int) < (s.size : Int) := by omega
    clear hlt
    go_wp2_with fail
    go_ret
    exact ⟨rfl, hk⟩
end Go.Proofs.YtnfojonmohijpabGreatDoor
namespace Go.Proofs.YtnfojonmohijpabGreatDoor
def Made2 (p : List UInt8) : Prop := ∃ f n a, Md p f n a 447 ∧ n ≤ 3 ∧ a ≤ 2
theorem made2_md (c : Nat → Nat) (i : Nat) : Made2 (mdT c 2 i) := by
 obtain ⟨f, n, a, h, hn, ha⟩ := md_all c 2 i
 exact ⟨f, n, a, h, by have : n + 1 ≤ 4 := hn; omega, ha⟩
end Go.Proofs.YtnfojonmohijpabGreatDoor
namespace Go.Proofs.YtnfojonmohijpabGreatDoor
structure Dl where
 t : ByteArray
 fs : Option (List (List Int))
def Dl.ok (W : Whole) (d : Dl) : Prop := match d.fs with
 | none => FindA d.t W 0 none
 | some fs => (∃ sp, FindA d.t W 0 (some sp)) ∧ SinA d.t W 0 fs
def Dl.line (d : Dl) : List UInt8 := d.t.data.toList ++ [10]
def Dl.yes (d : Dl) : List UInt8 := if d.fs.isSome = true then d.line else []
def Dl.no (d : Dl) : List UInt8 := if d.fs.isSome = true then [] else d.line
def onT (t : ByteArray) (fs : List (List Int)) : List UInt8 := fs.flatMap fun sp => cutL t (sp.getD 0 (-1)) (sp.getD 1 (-1)) ++ [10]
def Dl.only (d : Dl) : List UInt8 := match d.fs with
 | none => []
 | some fs => onT d.t fs
def Dl.non (_ : Dl) : List UInt8 := []
def cntD (v : Bool) (D : List Dl) : Nat := D.countP fun d => d.fs.isSome != v
theorem Dl.ok.ans {W : Whole} {d : Dl} (h : d.ok W) : ∃ ans, FindA d.t W 0 ans ∧ ans.isSome = d.fs.isSome := by
 unfold Dl.ok at h
 cases hf : d.fs with
 | none => rw [hf] at h; exact ⟨none, h, rfl⟩
 | some fs => rw [hf] at h; obtain ⟨⟨sp, hs⟩, _⟩ := h; exact ⟨some sp, hs, rfl⟩
theorem run_dl {k : Cmd} {W : Whole} {ps : List Part} (hx : k.x = false) (f : Dl → List UInt8)
    (hf1 : ∀ d : Dl, d.ok W → d.fs.isSome = k.v → f d = [])
    (hf2 : ∀ d : Dl, d.ok W → ¬ d.fs.isSome = k.v → (k.c = true → f d = []) ∧ (k.c = false → ∀ i, ∃ ts, TextsA k d.t W ps ts ∧ f d = tellT k (i + 1) ts)) :
    ∀ (D : List Dl), (∀ d ∈ D, d.ok W) → ∀ i, RunA k W ps i (D.map (·.t)) (D.flatMap f) (cntD k.v D)
 | [], _, i => .nil i
 | d :: D, hok, i => by
  have ih := run_dl hx f hf1 hf2 D (fun d' h => hok d' (List.mem_cons_of_mem _ h)) (i + 1)
  have hd := hok d (List.mem_cons_self ..)
  obtain ⟨ans, ha, hs⟩ := hd.ans
  have hsel : SelA d.t W k.x ans := by unfold SelA; rw [if_neg (by rw [hx]; decide)]; exact ha
  by_cases hv : d.fs.isSome = k.v
  ·have e1 := hf1 d hd hv
   have e2 : cntD k.v (d :: D) = cntD k.v D := by
    unfold cntD
    rw [List.countP_cons_of_neg (by simp [hv])]
   rw [List.map_cons, List.flatMap_cons, e1, e2, List.nil_append]
   exact .skip i d.t _ _ _ ans hsel (hs.trans hv) ih
  ·obtain ⟨e1, e3⟩ := hf2 d hd hv
   have e2 : cntD k.v (d :: D) = cntD k.v D + 1 := by
    unfold cntD
    rw [List.countP_cons_of_pos (by simpa using hv)]
   rw [List.map_cons, List.flatMap_cons, e2]
   exact .take i d.t _ _ _ _ ans hsel (by rw [hs]; exact hv) e1 (fun hc => e3 hc i) ih
theorem TextsA.det {k : Cmd} {s : ByteArray} {W : Whole} {ps : List Part} {a b : List ByteArray} (hx : k.x = false) (h : TextsA k s W ps a) (h' : TextsA k s W ps b) : a = b := by
 unfold TextsA at h h'
 rw [hx] at h h'
 split at h
 ·rename_i ho
  rw [if_pos ho] at h'
  rw [h, h']
 ·rename_i ho
  rw [if_neg ho] at h'
  split at h
  ·rename_i hv
   rw [if_pos hv] at h'
   rw [h, h']
  ·rename_i hv
   rw [if_neg hv] at h'
   simp only [Bool.false_eq_true, if_false] at h h'
   obtain ⟨fs, h1, rfl⟩ := h
   obtain ⟨fs', h2, rfl⟩ := h'
   rw [h1.det h2]
theorem SelA.det {s : ByteArray} {W : Whole} {a b : Option (List Int)} (h : SelA s W false a) (h' : SelA s W false b) : a = b := by
 unfold SelA at h h'
 rw [if_neg (by decide)] at h h'
 exact h.det h'
theorem RunA.det {k : Cmd} {W : Whole} {ps : List Part} (hx : k.x = false) {i : Nat} {ls : List ByteArray} {o : List UInt8} {m : Nat} (h : RunA k W ps i ls o m) : ∀ {o' : List UInt8} {m' : Nat}, RunA k W ps i ls o' m' → o = o' ∧ m = m' := by
 induction h with
 | nil i => intro o' m' h'; cases h'; exact ⟨rfl, rfl⟩
 | skip i s ls o m ans hs hv _ ih =>
  intro o' m' h'
  cases h' with
  | skip _ _ _ _ _ _ _ _ h2 => exact ih h2
  | take _ _ _ _ _ _ ans' hs' hv' =>
   rw [hx] at hs hs'
   rw [hs.det hs'] at hv
   exact absurd hv hv'
 | take i s ls o p m ans hs hv hc1 hc2 _ ih =>
  intro o' m' h'
  cases h' with
  | skip _ _ _ _ _ ans' hs' hv' =>
   rw [hx] at hs hs'
   rw [hs.det hs'] at hv
   exact absurd hv' hv
  | take _ _ _ o2 p2 m2 ans' hs' hv' hd1 hd2 h2 =>
   obtain ⟨rfl, rfl⟩ := ih h2
   refine ⟨?_, rfl⟩
   cases hk : k.c with
   | true => rw [hc1 hk, hd1 hk]
   | false =>
    obtain ⟨ts, h3, rfl⟩ := hc2 hk
    obtain ⟨ts', h4, rfl⟩ := hd2 hk
    rw [h3.det hx h4]
theorem ExtA.is {l : List ByteArray} {s : ByteArray} {e : Ending} {k : Cmd} {W : Whole} {ps : List Part} {o : List UInt8} {m : Nat} (h : ExtA l s e) (hc : CmdA l (some (k, W, ps))) (hx : k.x = false) (hs : s.size ≤ 2000) (hl : ∀ a ∈ lnF s, a.size ≤ 100) (hr : RunA k W ps 0 (lnF s) o m) : e = RunE k o m := by
 cases h with
 | args h => cases h.det hc
 | long k' W' ps' h h2 =>
  rcases h2 with h2 | ⟨a, ha, h2⟩
  ·omega
  ·have := hl a ha; omega
 | run k' W' ps' o' m' h _ _ h2 =>
  cases h.det hc
  obtain ⟨rfl, rfl⟩ := hr.det hx h2
  rfl
theorem linesF_line : ∀ (l r : List UInt8), (∀ b ∈ l, b ≠ 10) → linesF (l ++ 10 :: r) = l :: linesF r
 | [], r, _ => by simp [linesF]
 | b :: l, r, h => by
  have ih := linesF_line l r (fun b' hb => h b' (List.mem_cons_of_mem _ hb))
  have hb := h b (List.mem_cons_self ..)
  rw [List.cons_append, linesF, if_neg hb, ih]
theorem lnF_dl : ∀ (D : List Dl), (∀ d ∈ D, ∀ b ∈ d.t.data.toList, b ≠ 10) → linesF (D.flatMap Dl.line) = D.map (·.t.data.toList)
 | [], _ => rfl
 | d :: D, h => by
  have ih := lnF_dl D (fun d' hd => h d' (List.mem_cons_of_mem _ hd))
  rw [List.flatMap_cons, Dl.line, List.append_assoc, List.singleton_append, linesF_line _ _ (h d (List.mem_cons_self ..)), ih, List.map_cons]
theorem lnF_in (D : List Dl) (h : ∀ d ∈ D, ∀ b ∈ d.t.data.toList, b ≠ 10) : lnF (nmB (D.flatMap Dl.line)) = D.map (·.t) := by
 unfold lnF
 have e : (nmB (D.flatMap Dl.line)).data.toList = D.flatMap Dl.line := by simp [nmB]
 rw [e, lnF_dl D h, List.map_map]
 apply List.map_congr_left
 intro d _
 simp [nmB]
theorem dl_len : ∀ (D : List Dl), (∀ d ∈ D, d.t.size ≤ 9) → (D.flatMap Dl.line).length ≤ 10 * D.length
 | [], _ => by simp
 | d :: D, h => by
  have ih := dl_len D (fun d' hd => h d' (List.mem_cons_of_mem _ hd))
  have hd := h d (List.mem_cons_self ..)
  have e : d.t.data.toList.length = d.t.size := rfl
  simp only [List.flatMap_cons, List.length_append, List.length_cons, Dl.line, List.length_nil]
  omega
theorem tpl0 (g : Nat) : TplA kI.tp g 0 (some [.grp 0]) := by
 have h1 : TplA kI.tp g 2 (some []) := .fin 2 (by decide)
 have h48 : at' kI.tp (0 + 1) = 48 := by decide
 have e : partF kI.tp g 0 = some (.grp 0, 2) := by
  unfold partF
  rw [if_pos (by decide), if_neg (by decide), if_neg (by decide), if_pos ⟨by decide, by decide, by rw [h48]; omega⟩, h48]
  rfl
 exact .go 0 2 _ _ (by decide) e h1
theorem opt_one (p : ByteArray) (hp : ¬ isOpt p) (k : Cmd) : OptA [p] k (some (k, p)) := .left [p] k (fun a r e => by cases e; exact hp)
def vS : ByteArray := ⟨#[45, 118]⟩
def oS : ByteArray := ⟨#[45, 111]⟩
def cS : ByteArray := ⟨#[45, 99]⟩
def cvS : ByteArray := ⟨#[45, 99, 118]⟩
def kV : Cmd := { kI with v := true }
def kO : Cmd := { kI with o := true }
def kC : Cmd := { kI with c := true }
def kCV : Cmd := { kI with c := true, v := true }
theorem opt_v (p : ByteArray) (hp : ¬ isOpt p) : OptA [vS, p] kI (some (kV, p)) := .let' vS [p] kI kV _ (by decide) (by decide) (by decide) rfl (opt_one p hp _)
theorem opt_o (p : ByteArray) : OptA [oS, ddS, p] kI (some (kO, p)) := .let' oS [ddS, p] kI kO _ (by decide) (by decide) (by decide) rfl (.dd [p] kO)
theorem opt_c (p : ByteArray) (hp : ¬ isOpt p) : OptA [cS, p] kI (some (kC, p)) := .let' cS [p] kI kC _ (by decide) (by decide) (by decide) rfl (opt_one p hp _)
theorem opt_cv (p : ByteArray) (hp : ¬ isOpt p) : OptA [cvS, p] kI (some (kCV, p)) := .let' cvS [p] kI kCV _ (by decide) (by decide) (by decide) rfl (opt_one p hp _)
structure SelI (p : ByteArray) (W : Whole) (D : List Dl) : Prop where
 pat : ∃ j, PatR p (.ok W j)
 sz : p.size ≤ 60
 no : ¬ isOpt p
 ok : ∀ d ∈ D, d.ok W
 nl : ∀ d ∈ D, ∀ b ∈ d.t.data.toList, b ≠ 10
 ts : ∀ d ∈ D, d.t.size ≤ 9
 len : D.length ≤ 9
theorem SelI.is {p : ByteArray} {W : Whole} {D : List Dl} (h : SelI p W D) {l : List ByteArray} {k : Cmd} {e : Ending} (ho : OptA l kI (some (k, p))) (htp : k.tp = kI.tp) (hx : k.x = false) (f : Dl → List UInt8)
    (hf1 : ∀ d : Dl, d.ok W → d.fs.isSome = k.v → f d = [])
    (hf2 : ∀ d : Dl, d.ok W → ¬ d.fs.isSome = k.v → (k.c = true → f d = []) ∧ (k.c = false → ∀ i, ∃ ts, TextsA k d.t W [.grp 0] ts ∧ f d = tellT k (i + 1) ts))
    (hE : ExtA l (nmB (D.flatMap Dl.line)) e) : e = RunE k (D.flatMap f) (cntD k.v D) := by
 obtain ⟨j, hq⟩ := h.pat
 have hl := lnF_in D h.nl
 refine hE.is (.ok k p W j [.grp 0] ho h.sz hq (by rw [htp]; decide) (by rw [htp]; exact tpl0 _)) hx ?_ ?_ ?_
 ·have := dl_len D h.ts
  have := h.len
  rw [nmB_size]
  omega
 ·rw [hl]
  intro a ha
  obtain ⟨d, hd, rfl⟩ := List.mem_map.1 ha
  have := h.ts d hd
  omega
 ·rw [hl]
  exact run_dl hx f hf1 hf2 D h.ok 0
theorem tell_one {k : Cmd} (hn : k.n = false) (i : Nat) (t : ByteArray) : tellT k i [t] = t.data.toList ++ [10] := by
 unfold tellT teT
 simp [hn]
theorem tell_all {k : Cmd} (hn : k.n = false) (i : Nat) (t : ByteArray) (g : Nat) (fs : List (List Int)) (W : Whole) (h : ∀ sp ∈ fs, 0 ≤ sp.getD 0 (-1)) : tellT k i (fs.map fun sp => nmB (fillP [.grp 0] t sp)) = onT t fs := by
 unfold tellT onT
 rw [List.flatMap_map]
 induction fs with
 | nil => rfl
 | cons sp fs ih =>
  rw [List.flatMap_cons, List.flatMap_cons, ih (fun sp' hs => h sp' (List.mem_cons_of_mem _ hs))]
  have h0 := h sp (List.mem_cons_self ..)
  congr 1
  unfold teT fillP Part.fill
  simp only [hn, Bool.false_eq_true, if_false, List.nil_append, List.flatMap_cons, List.flatMap_nil, List.append_nil, nmB]
  rw [if_pos h0]
theorem SinA.pos {s : ByteArray} {W : Whole} {fr : Nat} {fs : List (List Int)} (h : SinA s W fr fs) : ∀ sp ∈ fs, 0 ≤ sp.getD 0 (-1) := by
 induction h with
 | fin => simp
 | none => simp
 | hit fr i j r fs _ _ _ _ ih =>
  intro sp hs
  rcases List.mem_cons.1 hs with rfl | hs
  ·simp
  ·exact ih sp hs
 | empty _ _ _ _ _ _ _ _ _ ih => exact ih
theorem SelI.plain {p : ByteArray} {W : Whole} {D : List Dl} (h : SelI p W D) {e : Ending} (hE : ExtA [p] (nmB (D.flatMap Dl.line)) e) : e = RunE kI (D.flatMap Dl.yes) (cntD false D) := by
 refine h.is (opt_one p h.no kI) rfl rfl Dl.yes (fun d _ hv => ?_) (fun d _ hv => ⟨fun hc => (by cases hc), fun _ i => ⟨[d.t], rfl, ?_⟩⟩) hE
 ·unfold Dl.yes; rw [if_neg (by rw [hv]; decide)]
 ·unfold Dl.yes
  rw [if_pos (by cases hs : d.fs.isSome with | true => rfl | false => exact absurd hs hv), tell_one rfl]
  rfl
theorem SelI.others {p : ByteArray} {W : Whole} {D : List Dl} (h : SelI p W D) {e : Ending} (hE : ExtA [vS, p] (nmB (D.flatMap Dl.line)) e) : e = RunE kV (D.flatMap Dl.no) (cntD true D) := by
 refine h.is (opt_v p h.no) rfl rfl Dl.no (fun d _ hv => ?_) (fun d _ hv => ⟨fun hc => (by cases hc), fun _ i => ⟨[d.t], rfl, ?_⟩⟩) hE
 ·have hv' : d.fs.isSome = true := hv
  unfold Dl.no; rw [if_pos hv']
 ·have hv' : ¬ d.fs.isSome = true := hv
  unfold Dl.no
  rw [if_neg hv', tell_one rfl]
  rfl
theorem SelI.onl {p : ByteArray} {W : Whole} {D : List Dl} (h : SelI p W D) {e : Ending} (hE : ExtA [oS, ddS, p] (nmB (D.flatMap Dl.line)) e) : e = RunE kO (D.flatMap Dl.only) (cntD false D) := by
 refine h.is (opt_o p) rfl rfl Dl.only (fun d _ hv => ?_) (fun d hd hv => ⟨fun hc => (by cases hc), fun _ i => ?_⟩) hE
 ·unfold Dl.only
  cases hf : d.fs with
  | none => rfl
  | some fs => rw [hf] at hv; cases hv
 ·unfold Dl.only
  cases hf : d.fs with
  | none => rw [hf] at hv; exact absurd rfl hv
  | some fs =>
   unfold Dl.ok at hd
   rw [hf] at hd
   refine ⟨fs.map fun sp => nmB (fillP [.grp 0] d.t sp), ⟨fs, hd.2, rfl⟩, ?_⟩
   rw [tell_all rfl _ _ 0 fs W hd.2.pos]
theorem flat_non : ∀ (D : List Dl), D.flatMap Dl.non = []
 | [] => rfl
 | d :: D => by rw [List.flatMap_cons, flat_non D]; rfl
theorem SelI.count {p : ByteArray} {W : Whole} {D : List Dl} (h : SelI p W D) {e : Ending} (hE : ExtA [cS, p] (nmB (D.flatMap Dl.line)) e) : e = RunE kC [] (cntD false D) := by
 rw [← flat_non D]
 exact h.is (opt_c p h.no) rfl rfl Dl.non (fun d _ hv => rfl) (fun d hd hv => ⟨fun _ => rfl, fun hc => (by cases hc)⟩) hE
theorem SelI.countV {p : ByteArray} {W : Whole} {D : List Dl} (h : SelI p W D) {e : Ending} (hE : ExtA [cvS, p] (nmB (D.flatMap Dl.line)) e) : e = RunE kCV [] (cntD true D) := by
 rw [← flat_non D]
 exact h.is (opt_cv p h.no) rfl rfl Dl.non (fun d _ hv => rfl) (fun d hd hv => ⟨fun _ => rfl, fun hc => (by cases hc)⟩) hE
theorem sgT_hd (k : Nat) : (sgT k).head? ≠ some 45 ∧ sgT k ≠ [] := by
 match k with
 | 0 => decide
 | 1 => decide
 | 2 => decide
 | 3 => decide
 | 4 => decide
 | 5 => decide
 | 6 => decide
 | 7 => decide
 | k + 8 => exact ⟨by simp [sgT], by simp [sgT]⟩
theorem hd_app {l r : List UInt8} (h : l.head? ≠ some 45 ∧ l ≠ []) : (l ++ r).head? ≠ some 45 ∧ l ++ r ≠ [] := by
 cases l with
 | nil => exact absurd rfl h.2
 | cons a l => exact ⟨h.1, by simp⟩
theorem mdT_hd (c : Nat → Nat) : ∀ deep i, (mdT c deep i).head? ≠ some 45 ∧ mdT c deep i ≠ []
 | 0, i => sgT_hd _
 | deep + 1, i => by
  have h1 := mdT_hd c deep (i + 1)
  have h40 : ([40] : List UInt8).head? ≠ some 45 ∧ ([40] : List UInt8) ≠ [] := by decide
  unfold mdT
  split
  ·exact sgT_hd _
  ·exact hd_app (hd_app h40)
  ·exact hd_app h1
  ·exact hd_app (hd_app (hd_app (hd_app h40)))
  ·exact hd_app (hd_app h40)
  ·exact hd_app (hd_app (hd_app h40))
  ·exact hd_app (hd_app (hd_app (hd_app (hd_app (hd_app h40)))))
theorem not_opt {l : List UInt8} (h : l.head? ≠ some 45 ∧ l ≠ []) : ¬ isOpt (bOf l) := by
 rintro ⟨h1, h2⟩
 cases l with
 | nil => exact h.2 rfl
 | cons a l =>
  have : at' (bOf (a :: l)) 0 = (a.toNat : Int) := by
   rw [at'_lt (by omega)]
   rfl
  rw [this] at h2
  refine h.1 ?_
  have : a = 45 := UInt8.toNat_inj.1 (by have : a.toNat = 45 := by omega
                                         rw [this]; rfl)
  rw [this]; rfl
end Go.Proofs.YtnfojonmohijpabGreatDoor
namespace Go.Proofs.YtnfojonmohijpabGreatDoor
theorem SearchA.find {p s : ByteArray} {fr : Nat} {ans : Option (List Int)} {n : Int} {W : Whole} {k : Nat} (h : SearchA p s fr ans n) (hp : p.size ≤ 60) (hs : s.size ≤ 100) (hf : fr ≤ s.size) (hq : PatR p (.ok W k)) : FindA s W fr ans ∧ n = 0 := by
 rcases h with ⟨h, _⟩ | ⟨_, q, hq', h⟩
 ·omega
 ·cases hq'.det hq
  rcases h with ⟨h, _⟩ | ⟨_, ⟨h, _⟩ | ⟨_, _, h, rfl⟩⟩
  ·omega
  ·omega
  ·exact ⟨h, rfl⟩
end Go.Proofs.YtnfojonmohijpabGreatDoor
namespace Go.Proofs.YtnfojonmohijpabGreatDoor
open Go.ChangeShapes Go.WideShapes Go.ChangeAt Go.WideMaps Go.WideElems Go.RowKit
structure StrIs (w : World) (v : Value) (l : List ByteArray) : Prop where
 len : l.length ≤ 9223372036854775807
 rd : (l = [] ∧ ∃ a c, v = .slice a 0 c) ∨ ∃ g o c, v = .slice (some ⟨g, o, none⟩) l.length c ∧ ∀ (k : Nat) (a : ByteArray), l[k]? = some a → w.cell? ⟨g, o + k, none⟩ = some (.string a)
theorem StrIs.keep {w w' : World} {v : Value} {l : List ByteArray} (h : StrIs w v l) (hk : Keeps [] w w') : StrIs w' v l := by
 refine ⟨h.len, ?_⟩
 rcases h.rd with h | ⟨g, o, c, h1, h2⟩
 ·exact Or.inl h
 ·exact Or.inr ⟨g, o, c, h1, fun k a ha => (World.cell?_of_block (hk.block g (World.block_lt_of_cell? _ _ (h2 k a ha)) (by simp))).trans (h2 k a ha)⟩
theorem StrIs.sl {w : World} {v : Value} {l : List ByteArray} (h : StrIs w v l) : ∃ a c, v = .slice a l.length c := by
 rcases h.rd with ⟨rfl, a, c, h⟩ | ⟨g, o, c, h, _⟩
 ·exact ⟨a, c, h⟩
 ·exact ⟨_, c, h⟩
theorem StrIs.at {w : World} {va : Option Addr} {n c : Nat} {l : List ByteArray} (h : StrIs w (.slice va n c) l) {k : Nat} {a : ByteArray} (hk : l[k]? = some a) : ∃ g o, va = some ⟨g, o, none⟩ ∧ w.cell? ⟨g, o + k, none⟩ = some (.string a) := by
 rcases h.rd with ⟨rfl, _⟩ | ⟨g, o, c, h1, h2⟩
 ·simp at hk
 ·cases h1
  exact ⟨g, o, rfl, h2 k a hk⟩
theorem add_str (x : Addr) (i q : Nat) (h : x.spot = none) : (x.add (i * 1)).add q = ⟨x.block, x.off + i * 1 + q, none⟩ := by
 obtain ⟨b, o, s⟩ := x
 cases h
 rw [Addr.add_lit, Addr.add_lit]
set_option maxRecDepth 100000 in
theorem str_open {H : Type} {enc : TypeId × Value → H} {W : World} {base : Nat} {v : Value} {d : DataW H} {p : List MemPlace} (hv : Value.okWide Tryz.prog W .any base 26 v)
    (h : DataW.Trod enc Tryz.prog W 0 (fun _ => true) true 26 v d p) : ∃ l, StrIs W v l := by
 obtain ⟨a0, len0, cap0, rfl⟩ := okWide_slice Tryz.underlying26 hv
 obtain ⟨fuel, hf⟩ := h
 rcases Go.Deep.open_slice Tryz.underlying26 hf with ⟨hcs, _⟩ | ⟨x, len, cap, m, n, D, Pl, hcs, _, hl, hm, hmm, _, hx⟩
 ·simp [Value.cells] at hcs
  obtain ⟨rfl, rfl, rfl⟩ := hcs
  exact ⟨[], ⟨by simp, Or.inl ⟨rfl, none, 0, rfl⟩⟩⟩
 ·simp [Value.cells] at hcs
  obtain ⟨rfl, rfl, rfl⟩ := hcs
  simp only [if_true] at hmm
  subst hmm
  unfold maxLen at hm
  by_cases h0 : len0 = 0
  ·subst h0
   exact ⟨[], ⟨by simp, Or.inl ⟨rfl, _, _, rfl⟩⟩⟩
  have hc1 : Tryz.prog.cellsOf 9 = 1 := by kernel_rfl
  have key : ∀ i, i < len0 → ∃ r : ByteArray, W.cell? ((x.add (i * 1)).add 0) = some (.string r) := by
   intro i hi
   obtain ⟨cs', h1, h2⟩ := hx i (by omega)
   rw [hc1] at h1
   obtain ⟨_, hlen, hcell⟩ := World.cells?_some h1
   obtain ⟨s0, e0, _⟩ := DataW.trod_string Tryz.underlying9 h2
   refine ⟨s0, ?_⟩
   rw [hcell 0 (by decide), e0]
   rfl
  haveI : Inhabited ByteArray := ⟨⟨#[]⟩⟩
  obtain ⟨R, hR⟩ := Go.Deep.choose_lt key
  have hspot : x.spot = none := by
   have h1 := hR 0 (by omega)
   cases hs : x.spot with
   | none => rfl
   | some z =>
    exfalso
    rw [Nat.zero_mul] at h1
    simp only [Addr.add, if_true] at h1
    unfold World.cell? at h1
    rw [hs] at h1
    split at h1
    ·simp at h1
    ·cases h1
  have hxe : x = ⟨x.block, x.off, none⟩ := by
   obtain ⟨b, o, s⟩ := x
   cases hspot
   rfl
  have hll : ((List.range len0).map R).length = len0 := by simp
  refine ⟨(List.range len0).map R, by rw [hll]; omega, Or.inr ⟨x.block, x.off, m, by rw [hll, ← hxe], fun k r hk => ?_⟩⟩
  have hkl : k < len0 := by
   have := (List.getElem?_eq_some_iff.1 hk).1
   rw [hll] at this
   exact this
  have hr : R k = r := by
   rw [List.getElem?_map, List.getElem?_range hkl] at hk
   simpa using hk
  have h1 := hR k hkl
  rw [add_str x k 0 hspot, hr] at h1
  simpa using h1
end Go.Proofs.YtnfojonmohijpabGreatDoor
