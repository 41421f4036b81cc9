/-
  DERIVED. Contracts of yarrowkeep's pick, at and single. Conditions: numbers are within int's range.
-/
import Derived.Test.YtnfojonmohijpaaGreatDoorJOM
import Derived.Test.YtnfojonmohijpaaGreatDoorJFC
import Derived.Test.YtnfojonmohijpaaGreatDoorJUQ
import Derived.Test.YtnfojonmohijpaaGreatDoorJOH
import Derived.Test.YtnfojonmohijpaaGreatDoorJPY
set_option linter.unusedSimpArgs false
set_option linter.unusedVariables false
namespace Go.Proofs.YtnfojonmohijpaaGreatDoor
open Go.RowKit
def pk (c : Int) (n : Nat) : Nat := (if c < 0 then (-(c + 1)).toNat else c.toNat) % n
def inI (c : Int) : Prop := -9223372036854775808 ≤ c ∧ c ≤ 9223372036854775807
set_option maxRecDepth 100000 in
set_option maxHeartbeats 1000000 in
theorem kpick_any (c : Int) (n : Nat) (hc : inI c) (hn : 0 < n) (hn2 : n ≤ 1099511627776) (w : World) : Calls Tryz.prog 34 #[.int .i64 c, .int .i64 n] w fun e w' => e = .returned (.int .i64 (pk c n)) ∧ w' = w := by
 obtain ⟨h1, h2⟩ := hc
 have hn' : (0 : Int) < (n : Int) := by omega
 have hnz : ¬ (n : Int) = 0 := by omega
 by_cases hneg : c < 0
 ·obtain ⟨m, hm⟩ : ∃ m : Nat, -(c + 1) = (m : Int) := ⟨(-(c + 1)).toNat, by omega⟩
  have hw1 : IntKind.i64.wrap (c + 1) = c + 1 := by rw [IntKind.wrap_i64]; omega
  have hw2 : IntKind.i64.wrap (-(c + 1)) = (m : Int) := by rw [IntKind.wrap_i64, hm]; omega
  have HP : Hid (((m : Int) % (n : Int)) = (pk c n : Int)) := by
   show (m : Int) % (n : Int) = (pk c n : Int)
   unfold pk
   rw [if_pos hneg, hm, Int.toNat_natCast]
   exact (Int.natCast_emod m n).symm
  have hm0 : (0 : Int) ≤ (m : Int) := by omega
  have hmm : (m : Int) ≤ 9223372036854775807 := by omega
  have hr0 : (0 : Int) ≤ (m : Int) % (n : Int) := Int.emod_nonneg _ hnz
  have hr1 : (m : Int) % (n : Int) < (n : Int) := Int.emod_lt_of_pos _ hn'
  go_enter Tryz.func34, Tryz.ntmps34
  go_wp2_with fail
  go_ret
  exact ⟨ret_int HP, rfl⟩
 ·obtain ⟨m, rfl⟩ : ∃ m : Nat, c = (m : Int) := ⟨c.toNat, by omega⟩
  have HP : Hid (((m : Int) % (n : Int)) = (pk (m : Int) n : Int)) := by
   show (m : Int) % (n : Int) = (pk (m : Int) n : Int)
   unfold pk
   rw [if_neg hneg, Int.toNat_natCast]
   exact (Int.natCast_emod m n).symm
  have hr0 : (0 : Int) ≤ (m : Int) % (n : Int) := Int.emod_nonneg _ hnz
  have hr1 : (m : Int) % (n : Int) < (n : Int) := Int.emod_lt_of_pos _ hn'
  have hm0 : (0 : Int) ≤ (m : Int) := by omega
  go_enter Tryz.func34, Tryz.ntmps34
  go_wp2_with fail
  go_ret
  exact ⟨ret_int HP, rfl⟩
structure RawIs (w : World) (v : Value) (zs : List Int) : Prop where
 rd : ∃ a cap, v = .slice a zs.length cap ∧ ∀ (i : Nat) z, zs[i]? = some z → ∃ x : Addr, a = some x ∧ x.block < w.heap.size ∧ w.cell? (x.add i) = some (.int .i64 z)
 len : zs.length ≤ 9223372036854775807
 wf : ∀ (i : Nat) z, zs[i]? = some z → inI z
def cv (zs : List Int) (i : Nat) : Nat := (zs[i]?.map fun z => pk z 1099511627776).getD 0
set_option maxRecDepth 100000 in
set_option maxHeartbeats 1000000 in
theorem kat_any (v : Value) (zs : List Int) (i : Nat) (hi : i ≤ 1000) (w : World) (hr : RawIs w v zs) : Calls Tryz.prog 64 #[v, .int .i64 i] w fun e w' => e = .returned (.int .i64 (cv zs i)) ∧ w' = w := by
 obtain ⟨a, cap, rfl, hc⟩ := hr.rd
 have hl := hr.len
 have hl' : (zs.length : Int) ≤ 9223372036854775807 := by omega
 have hi0 : (0 : Int) ≤ (i : Int) := by omega
 have hi1 : (i : Int) ≤ 1000 := by omega
 by_cases hlt : i < zs.length
 ·obtain ⟨z, hz⟩ : ∃ z, zs[i]? = some z := ⟨_, List.getElem?_eq_getElem hlt⟩
  obtain ⟨x, rfl, hx, hcell⟩ := hc i z hz
  have hp := kpick_any z 1099511627776 (hr.wf i z hz) (by decide) (by decide) w
  have HC : Hid (pk z 1099511627776 = cv zs i) := by
   show pk z 1099511627776 = cv zs i
   unfold cv; rw [hz]; rfl
  have hlt' : (i : Int) < (zs.length : Int) := by omega
  clear hc hz hlt
  go_enter Tryz.func64, Tryz.ntmps64
  go_wp2_with fail
  refine hp.mono ?_
  rintro e w1 ⟨rfl, rfl⟩
  rw [HC.out]
  go_wp2_with fail
  go_ret
  exact ⟨rfl, rfl⟩
 ·have hge : (zs.length : Int) ≤ (i : Int) := by omega
  have HC : Hid (0 = cv zs i) := by
   show 0 = cv zs i
   unfold cv; rw [List.getElem?_eq_none (by omega)]; rfl
  clear hc hlt
  go_enter Tryz.func64, Tryz.ntmps64
  go_wp2_with fail
  go_ret
  exact ⟨ret_int (congrArg Int.ofNat HC.out), rfl⟩
theorem RawIs.keep {w w' : World} {v : Value} {zs : List Int} (h : RawIs w v zs) (hk : Keeps [] w w') : RawIs w' v zs := by
 obtain ⟨a, cap, rfl, hc⟩ := h.rd
 refine ⟨⟨a, cap, rfl, fun i z hz => ?_⟩, h.len, h.wf⟩
 obtain ⟨x, rfl, hx, hcell⟩ := hc i z hz
 exact ⟨x, rfl, Nat.lt_of_lt_of_le hx hk.size, (World.cell?_of_block (hk.block (x.add i).block (World.block_lt_of_cell? _ _ hcell) (by simp))).trans hcell⟩
def bOf (l : List UInt8) : ByteArray := ⟨l.toArray⟩
set_option maxRecDepth 100000 in
set_option maxHeartbeats 4000000 in
theorem ksingle_any (c : Nat) (hc : c ≤ 1099511627776) (w : World) : Calls Tryz.prog 33 #[.int .i64 c] w fun e w' => e = .returned (.string (bOf (sgT (c % 9)))) ∧ Keeps [] w w' := by
 have hcc : (c : Int) ≤ 1099511627776 := by omega
 have hc0 : (0 : Int) ≤ (c : Int) := by omega
 obtain ⟨k, hk⟩ : ∃ k, c % 9 = k := ⟨_, rfl⟩
 have hm : (c : Int) % 9 = (k : Int) := by omega
 rw [hk]
 have hk9 : k < 9 := by omega
 rcases (by omega : k = 0 ∨ k = 1 ∨ k = 2 ∨ k = 3 ∨ k = 4 ∨ k = 5 ∨ k = 6 ∨ k = 7 ∨ k = 8) with rfl | rfl | rfl | rfl | rfl | rfl | rfl | rfl | rfl
 all_goals
  clear hk hk9
  go_enter Tryz.func33, Tryz.ntmps33
  go_wp2_with fail
  go_ret
  exact ⟨rfl, (Keeps.refl [] w).alloc _⟩
end Go.Proofs.YtnfojonmohijpaaGreatDoor
namespace Go.Proofs.YtnfojonmohijpaaGreatDoor
open Go.RowKit
theorem bOf_app (a b : List UInt8) : bOf (a ++ b) = bOf a ++ bOf b := by
 apply ByteArray.ext
 simp [bOf]
theorem sgT_len (k : Nat) : (sgT k).length ≤ 11 := by
 match k with
 | 0 => decide
 | 1 => decide
 | 2 => decide
 | 3 => decide
 | 4 => decide
 | 5 => decide
 | 6 => decide
 | 7 => decide
 | _ + 8 => exact (by decide : ([92, 46] : List UInt8).length ≤ 11)
theorem rpT_len (k : Nat) : (rpT k).length ≤ 1 := by
 match k with
 | 0 => decide
 | 1 => decide
 | _ + 2 => exact (by decide : ([43] : List UInt8).length ≤ 1)
theorem lwT_len (k : Nat) : (lwT k).length ≤ 1 := by
 match k with
 | 0 => decide
 | 1 => decide
 | _ + 2 => exact (by decide : ([50] : List UInt8).length ≤ 1)
theorem hiT_len (k : Nat) : (hiT k).length ≤ 1 := by
 match k with
 | 0 => decide
 | 1 => decide
 | _ + 2 => exact (by decide : ([] : List UInt8).length ≤ 1)
theorem mdT_len (c : Nat → Nat) : ∀ deep i, (mdT c deep i).length + 3 ≤ 14 * 2 ^ deep
 | 0, i => by have := sgT_len (c i / 7 % 9); simp only [mdT]; omega
 | deep + 1, i => by
  have h1 := mdT_len c deep (i + 1)
  have h2 := mdT_len c deep (i + 2)
  have h3 := sgT_len (c i / 7 % 9)
  have h4 := rpT_len (c i / 7 % 3)
  have h5 := lwT_len (c i / 7 % 3)
  have h6 := hiT_len (c i / 21 % 3)
  have hp : 2 ^ (deep + 1) = 2 * 2 ^ deep := by rw [Nat.pow_succ]; omega
  have hp1 : 1 ≤ 2 ^ deep := Nat.one_le_pow _ _ (by omega)
  unfold mdT
  split <;> (try simp only [List.length_append, List.length_cons, List.length_nil]) <;> omega
theorem bOf_size (l : List UInt8) : (bOf l).size = l.length := by simp [bOf, ByteArray.size]
theorem mdT_zero (c : Nat → Nat) (deep i : Nat) (h : deep = 0 ∨ c i % 7 = 0) : mdT c deep i = sgT (c i / 7 % 9) := by
 cases deep with
 | zero => rfl
 | succ d =>
  rcases h with h | h
  ·cases h
  ·unfold mdT; rw [h]; rfl
theorem cv_lt (zs : List Int) (i : Nat) : cv zs i < 1099511627776 := by
 unfold cv
 cases zs[i]? with
 | none => decide
 | some z => exact Nat.mod_lt _ (by decide)
def mdX (k c : Nat) (x y : ByteArray) : ByteArray :=
 match k with
 | 1 => bOf [40] ++ x ++ bOf [41]
 | 2 => x ++ y
 | 3 => bOf [40] ++ x ++ bOf [124] ++ y ++ bOf [41]
 | 4 => bOf [40] ++ x ++ bOf [41, 42]
 | 5 => bOf [40] ++ x ++ bOf [124, 41] ++ bOf (rpT (c / 7 % 3))
 | _ => bOf [40] ++ x ++ bOf [41, 123] ++ bOf (lwT (c / 7 % 3)) ++ bOf [44] ++ bOf (hiT (c / 21 % 3)) ++ bOf [125]
theorem mdT_succ (c : Nat → Nat) (deep i : Nat) (h : c i % 7 ≠ 0) : bOf (mdT c (deep + 1) i) = mdX (c i % 7) (c i) (bOf (mdT c deep (i + 1))) (bOf (mdT c deep (i + 2))) := by
 rw [mdT]
 generalize c i % 7 = k at h ⊢
 match k, h with
 | 0, h => exact absurd rfl h
 | 1, _ => simp only [mdX, bOf_app]
 | 2, _ => simp only [mdX, bOf_app]
 | 3, _ => simp only [mdX, bOf_app]
 | 4, _ => simp only [mdX, bOf_app]
 | 5, _ => simp only [mdX, bOf_app]
 | _ + 6, _ => simp only [mdX, bOf_app]
set_option maxRecDepth 100000 in
set_option maxHeartbeats 8000000 in
theorem made_any (v : Value) (zs : List Int) : ∀ (deep : Nat), deep ≤ 3 → ∀ (i : Nat), i + 2 * deep ≤ 900 → ∀ (w : World), RawIs w v zs →
    Calls Tryz.prog 31 #[v, .int .i64 i, .int .i64 deep] w fun e w' => e = .returned (.string (bOf (mdT (cv zs) deep i))) ∧ Keeps [] w w' := by
 intro deep
 induction deep with
 | zero =>
  intro _ i hi w hr
  have h1 := kat_any v zs i (by omega) w hr
  have hb := cv_lt zs i
  rw [mdT_zero _ _ _ (Or.inl rfl)]
  generalize cv zs i = C at h1 hb ⊢
  have hS := ksingle_any (C / 7) (by omega) w
  have hb' : (C : Int) < 1099511627776 := by omega
  have hb0 : (0 : Int) ≤ (C : Int) := by omega
  go_enter Tryz.func31, Tryz.ntmps31
  go_wp2_with fail
  refine h1.mono ?_
  rintro e w1 ⟨rfl, rfl⟩
  clear h1 hr
  go_wp2_with fail
  refine hS.mono ?_
  rintro e w2 ⟨rfl, hk⟩
  clear hS
  go_wp2_with fail
  go_ret
  exact ⟨rfl, hk⟩
 | succ deep ih =>
  intro hdp i hi w hr
  obtain ⟨D, hDe⟩ : ∃ D : Int, ((deep + 1 : Nat) : Int) = D := ⟨_, rfl⟩
  rw [hDe]
  have hD1 : D - 1 = (deep : Int) := by omega
  have hD3 : D ≤ 3 := by omega
  have hD0 : 1 ≤ D := by omega
  have hDz : ¬ D = 0 := by omega
  have hDd : (D == 0) = false := by simp [hDz]
  clear hDe
  have hd0 : (0 : Int) ≤ (deep : Int) := by omega
  have hi0 : (0 : Int) ≤ (i : Int) := by omega
  have h1 := kat_any v zs i (by omega) w hr
  have hb := cv_lt zs i
  have hx := ih (by omega) (i + 1) (by omega)
  have hy := ih (by omega) (i + 2) (by omega)
  have hlx := mdT_len (cv zs) deep (i + 1)
  have hly := mdT_len (cv zs) deep (i + 2)
  have hp3 : 2 ^ deep ≤ 8 := Nat.pow_le_pow_right (by decide) (by omega : deep ≤ 3)
  have hdn : (deep : Int) ≤ 2 := by omega
  have hin : (i : Int) ≤ 900 := by omega
  by_cases h0 : cv zs i % 7 = 0
  ·rw [mdT_zero _ _ _ (Or.inr h0)]
   generalize cv zs i = C at h1 hb h0 ⊢
   have hS := ksingle_any (C / 7) (by omega) w
   have hb' : (C : Int) < 1099511627776 := by omega
   have hb0 : (0 : Int) ≤ (C : Int) := by omega
   have h0' : (C : Int) % 7 = 0 := by omega
   clear ih hx hy hlx hly h0
   go_enter Tryz.func31, Tryz.ntmps31
   go_wp2_with fail
   refine h1.mono ?_
   rintro e w1 ⟨rfl, rfl⟩
   clear h1 hr
   go_wp2_with fail
   refine hS.mono ?_
   rintro e w2 ⟨rfl, hk⟩
   clear hS
   go_wp2_with fail
   go_ret
   exact ⟨rfl, hk⟩
  ·rw [mdT_succ _ _ _ h0]
   generalize cv zs i = C at h1 hb h0 ⊢
   rw [← bOf_size] at hlx hly
   generalize bOf (mdT (cv zs) deep (i + 1)) = x at hx hlx ⊢
   generalize bOf (mdT (cv zs) deep (i + 2)) = y at hy hly ⊢
   have hb' : (C : Int) < 1099511627776 := by omega
   have hb0 : (0 : Int) ≤ (C : Int) := by omega
   have hx1 : (x.size : Int) ≤ 200 := by omega
   have hy1 : (y.size : Int) ≤ 200 := by omega
   have HX : Hid (∀ w, RawIs w v zs → Calls Tryz.prog 31 #[v, .int .i64 ((i + 1 : Nat) : Int), .int .i64 (deep : Int)] w fun e w' => e = .returned (.string x) ∧ Keeps [] w w') := hx
   have HY : Hid (∀ w, RawIs w v zs → Calls Tryz.prog 31 #[v, .int .i64 ((i + 2 : Nat) : Int), .int .i64 (deep : Int)] w fun e w' => e = .returned (.string y) ∧ Keeps [] w w') := hy
   have hd7 : C % 7 = 1 ∨ C % 7 = 2 ∨ C % 7 = 3 ∨ C % 7 = 4 ∨ C % 7 = 5 ∨ C % 7 = 6 := by omega
   clear ih hlx hly hx hy h0
   rcases hd7 with h7 | h7 | h7 | h7 | h7 | h7
   ·rw [h7]
    have h7' : (C : Int) % 7 = 1 := by omega
    clear h7
    go_enter Tryz.func31, Tryz.ntmps31
    go_wp2_with fail
    refine h1.mono ?_
    rintro e w1 ⟨rfl, rfl⟩
    clear h1
    go_wp2_with fail
    refine (HX.out w1 hr).mono ?_
    rintro e w2 ⟨rfl, hk2⟩
    have hr2 := hr.keep hk2
    clear hr HX
    go_wp2_with fail
    refine (HY.out w2 hr2).mono ?_
    rintro e w3 ⟨rfl, hk3⟩
    have hk := hk2.trans hk3
    clear hr2 HY hk2 hk3
    go_wp2_with fail
    go_ret
    exact ⟨rfl, hk⟩
   ·rw [h7]
    have h7' : (C : Int) % 7 = 2 := by omega
    clear h7
    go_enter Tryz.func31, Tryz.ntmps31
    go_wp2_with fail
    refine h1.mono ?_
    rintro e w1 ⟨rfl, rfl⟩
    clear h1
    go_wp2_with fail
    refine (HX.out w1 hr).mono ?_
    rintro e w2 ⟨rfl, hk2⟩
    have hr2 := hr.keep hk2
    clear hr HX
    go_wp2_with fail
    refine (HY.out w2 hr2).mono ?_
    rintro e w3 ⟨rfl, hk3⟩
    have hk := hk2.trans hk3
    clear hr2 HY hk2 hk3
    go_wp2_with fail
    go_ret
    exact ⟨rfl, hk⟩
   ·rw [h7]
    have h7' : (C : Int) % 7 = 3 := by omega
    clear h7
    go_enter Tryz.func31, Tryz.ntmps31
    go_wp2_with fail
    refine h1.mono ?_
    rintro e w1 ⟨rfl, rfl⟩
    clear h1
    go_wp2_with fail
    refine (HX.out w1 hr).mono ?_
    rintro e w2 ⟨rfl, hk2⟩
    have hr2 := hr.keep hk2
    clear hr HX
    go_wp2_with fail
    refine (HY.out w2 hr2).mono ?_
    rintro e w3 ⟨rfl, hk3⟩
    have hk := hk2.trans hk3
    clear hr2 HY hk2 hk3
    go_wp2_with fail
    go_ret
    exact ⟨rfl, hk⟩
   ·rw [h7]
    have h7' : (C : Int) % 7 = 4 := by omega
    clear h7
    go_enter Tryz.func31, Tryz.ntmps31
    go_wp2_with fail
    refine h1.mono ?_
    rintro e w1 ⟨rfl, rfl⟩
    clear h1
    go_wp2_with fail
    refine (HX.out w1 hr).mono ?_
    rintro e w2 ⟨rfl, hk2⟩
    have hr2 := hr.keep hk2
    clear hr HX
    go_wp2_with fail
    refine (HY.out w2 hr2).mono ?_
    rintro e w3 ⟨rfl, hk3⟩
    have hk := hk2.trans hk3
    clear hr2 HY hk2 hk3
    go_wp2_with fail
    go_ret
    exact ⟨rfl, hk⟩
   ·rw [h7]
    have h7' : (C : Int) % 7 = 5 := by omega
    have hq : C / 7 % 3 = 0 ∨ C / 7 % 3 = 1 ∨ C / 7 % 3 = 2 := by omega
    unfold mdX
    rcases hq with hq | hq | hq
    ·rw [hq]
     have hq' : (C : Int) / 7 % 3 = 0 := by omega
     clear hq
     clear h7
     go_enter Tryz.func31, Tryz.ntmps31
     go_wp2_with fail
     refine h1.mono ?_
     rintro e w1 ⟨rfl, rfl⟩
     clear h1
     go_wp2_with fail
     refine (HX.out w1 hr).mono ?_
     rintro e w2 ⟨rfl, hk2⟩
     have hr2 := hr.keep hk2
     clear hr HX
     go_wp2_with fail
     refine (HY.out w2 hr2).mono ?_
     rintro e w3 ⟨rfl, hk3⟩
     have hk := hk2.trans hk3
     clear hr2 HY hk2 hk3
     go_wp2_with fail
     go_ret
     exact ⟨rfl, hk.alloc _⟩
    ·rw [hq]
     have hq' : (C : Int) / 7 % 3 = 1 := by omega
     clear hq
     clear h7
     go_enter Tryz.func31, Tryz.ntmps31
     go_wp2_with fail
     refine h1.mono ?_
     rintro e w1 ⟨rfl, rfl⟩
     clear h1
     go_wp2_with fail
     refine (HX.out w1 hr).mono ?_
     rintro e w2 ⟨rfl, hk2⟩
     have hr2 := hr.keep hk2
     clear hr HX
     go_wp2_with fail
     refine (HY.out w2 hr2).mono ?_
     rintro e w3 ⟨rfl, hk3⟩
     have hk := hk2.trans hk3
     clear hr2 HY hk2 hk3
     go_wp2_with fail
     go_ret
     exact ⟨rfl, hk.alloc _⟩
    ·rw [hq]
     have hq' : (C : Int) / 7 % 3 = 2 := by omega
     clear hq
     clear h7
     go_enter Tryz.func31, Tryz.ntmps31
     go_wp2_with fail
     refine h1.mono ?_
     rintro e w1 ⟨rfl, rfl⟩
     clear h1
     go_wp2_with fail
     refine (HX.out w1 hr).mono ?_
     rintro e w2 ⟨rfl, hk2⟩
     have hr2 := hr.keep hk2
     clear hr HX
     go_wp2_with fail
     refine (HY.out w2 hr2).mono ?_
     rintro e w3 ⟨rfl, hk3⟩
     have hk := hk2.trans hk3
     clear hr2 HY hk2 hk3
     go_wp2_with fail
     go_ret
     exact ⟨rfl, hk.alloc _⟩
   ·rw [h7]
    have h7' : (C : Int) % 7 = 6 := by omega
    clear h7
    have hq : C / 7 % 3 = 0 ∨ C / 7 % 3 = 1 ∨ C / 7 % 3 = 2 := by omega
    have hp : C / 21 % 3 = 0 ∨ C / 21 % 3 = 1 ∨ C / 21 % 3 = 2 := by omega
    have HC : Hid (C < 1099511627776) := hb
    unfold mdX
    go_enter Tryz.func31, Tryz.ntmps31
    go_wp2_with fail
    refine h1.mono ?_
    rintro e w1 ⟨rfl, rfl⟩
    clear h1
    go_wp2_with fail
    refine (HX.out w1 hr).mono ?_
    rintro e w2 ⟨rfl, hk2⟩
    have hr2 := hr.keep hk2
    clear hr HX
    go_wp2_with fail
    refine (HY.out w2 hr2).mono ?_
    rintro e w3 ⟨rfl, hk3⟩
    have hk := hk2.trans hk3
    clear hr2 HY hk2 hk3
    go_upto_region 17 with (fail)
    rcases hq with hq | hq | hq <;> rcases hp with hp | hp | hp
    ·have HQ : Hid (C / 7 % 3 = 0 ∧ C / 21 % 3 = 0) := ⟨hq, hp⟩
     have hq' : (C : Int) / 7 % 3 = 0 := by omega
     have hp' : (C : Int) / 21 % 3 = 0 := by omega
     clear hq hp
     go_region
     all_goals
      go_wp2_with fail
      go_ret
      exact ⟨by rw [HQ.out.1, HQ.out.2]; rfl, ((hk.alloc _).alloc _).drewN 1⟩
    ·have HQ : Hid (C / 7 % 3 = 0 ∧ C / 21 % 3 = 1) := ⟨hq, hp⟩
     have hq' : (C : Int) / 7 % 3 = 0 := by omega
     have hp' : (C : Int) / 21 % 3 = 1 := by omega
     clear hq hp
     go_region
     all_goals
      go_wp2_with fail
      go_ret
      exact ⟨by rw [HQ.out.1, HQ.out.2]; rfl, ((hk.alloc _).alloc _).drewN 1⟩
    ·have HQ : Hid (C / 7 % 3 = 0 ∧ C / 21 % 3 = 2) := ⟨hq, hp⟩
     have hq' : (C : Int) / 7 % 3 = 0 := by omega
     have hp' : (C : Int) / 21 % 3 = 2 := by omega
     clear hq hp
     go_region
     all_goals
      go_wp2_with fail
      go_ret
      exact ⟨by rw [HQ.out.1, HQ.out.2]; rfl, ((hk.alloc _).alloc _).drewN 1⟩
    ·have HQ : Hid (C / 7 % 3 = 1 ∧ C / 21 % 3 = 0) := ⟨hq, hp⟩
     have hq' : (C : Int) / 7 % 3 = 1 := by omega
     have hp' : (C : Int) / 21 % 3 = 0 := by omega
     clear hq hp
     go_region
     all_goals
      go_wp2_with fail
      go_ret
      exact ⟨by rw [HQ.out.1, HQ.out.2]; rfl, ((hk.alloc _).alloc _).drewN 1⟩
    ·have HQ : Hid (C / 7 % 3 = 1 ∧ C / 21 % 3 = 1) := ⟨hq, hp⟩
     have hq' : (C : Int) / 7 % 3 = 1 := by omega
     have hp' : (C : Int) / 21 % 3 = 1 := by omega
     clear hq hp
     go_region
     all_goals
      go_wp2_with fail
      go_ret
      exact ⟨by rw [HQ.out.1, HQ.out.2]; rfl, ((hk.alloc _).alloc _).drewN 1⟩
    ·have HQ : Hid (C / 7 % 3 = 1 ∧ C / 21 % 3 = 2) := ⟨hq, hp⟩
     have hq' : (C : Int) / 7 % 3 = 1 := by omega
     have hp' : (C : Int) / 21 % 3 = 2 := by omega
     clear hq hp
     go_region
     all_goals
      go_wp2_with fail
      go_ret
      exact ⟨by rw [HQ.out.1, HQ.out.2]; rfl, ((hk.alloc _).alloc _).drewN 1⟩
    ·have HQ : Hid (C / 7 % 3 = 2 ∧ C / 21 % 3 = 0) := ⟨hq, hp⟩
     have hq' : (C : Int) / 7 % 3 = 2 := by omega
     have hp' : (C : Int) / 21 % 3 = 0 := by omega
     clear hq hp
     go_region
     all_goals
      go_wp2_with fail
      go_ret
      exact ⟨by rw [HQ.out.1, HQ.out.2]; rfl, ((hk.alloc _).alloc _).drewN 1⟩
    ·have HQ : Hid (C / 7 % 3 = 2 ∧ C / 21 % 3 = 1) := ⟨hq, hp⟩
     have hq' : (C : Int) / 7 % 3 = 2 := by omega
     have hp' : (C : Int) / 21 % 3 = 1 := by omega
     clear hq hp
     go_region
     all_goals
      go_wp2_with fail
      go_ret
      exact ⟨by rw [HQ.out.1, HQ.out.2]; rfl, ((hk.alloc _).alloc _).drewN 1⟩
    ·have HQ : Hid (C / 7 % 3 = 2 ∧ C / 21 % 3 = 2) := ⟨hq, hp⟩
     have hq' : (C : Int) / 7 % 3 = 2 := by omega
     have hp' : (C : Int) / 21 % 3 = 2 := by omega
     clear hq hp
     go_region
     all_goals
      go_wp2_with fail
      go_ret
      exact ⟨by rw [HQ.out.1, HQ.out.2]; rfl, ((hk.alloc _).alloc _).drewN 1⟩
end Go.Proofs.YtnfojonmohijpaaGreatDoor
namespace Go.Proofs.YtnfojonmohijpaaGreatDoor
open Go.RowKit
def ltr (k : Nat) : UInt8 := match k % 4 with | 0 => 97 | 1 => 98 | 2 => 99 | _ => 46
def txT (s : ByteArray) (most : Nat) : ByteArray := bOf ((s.data.toList.take most).map fun b => ltr b.toNat)
theorem txT_size (s : ByteArray) (most : Nat) : (txT s most).size ≤ most := by
 unfold txT; rw [bOf_size]; simp; omega
theorem take_step {l : List UInt8} {i : Nat} {b : UInt8} (h : l[i]? = some b) : bOf ((l.take (i + 1)).map fun b => ltr b.toNat) = bOf ((l.take i).map fun b => ltr b.toNat) ++ bOf [ltr b.toNat] := by
 rw [List.take_add_one, h, List.map_append, bOf_app]; rfl
set_option maxRecDepth 100000 in
set_option maxHeartbeats 4000000 in
theorem ktext_any (s : ByteArray) (most : Nat) (hm : most ≤ 100) (w : World) : Calls Tryz.prog 32 #[.string s, .int .i64 most] w fun e w' => e = .returned (.string (txT s most)) ∧ Keeps [] w w' := by
 have hmm : (most : Int) ≤ 100 := by omega
 go_enter Tryz.func32, Tryz.ntmps32
 go_upto_region 3 with (fail)
 go_loopw [5, 6] (fun o q wr => ∃ i : Nat, q = .int .i64 i ∧ o = .string (bOf ((s.data.toList.take i).map fun b => ltr b.toNat)) ∧ i ≤ most ∧ i ≤ s.size ∧ Keeps [] w wr) (fun _ q _ => most - (intOf q).toNat)
 case atStart => exact ⟨0, rfl, rfl, Nat.zero_le _, Nat.zero_le _, Keeps.refl _ _⟩
 case round =>
  obtain ⟨i, rfl, rfl, hi, hs, hk⟩ := hrel
  by_cases hlt : i < s.size ∧ i < most
  ·obtain ⟨hls, hlm⟩ := hlt
   have hb : s.data.toList[i]? = some (s[i]'hls) := by
    rw [Array.getElem?_toList]
    exact Array.getElem?_eq_getElem hls
   have hI := take_step hb
   have hn256 := (s[i]'hls).toNat_lt
   obtain ⟨n, hn⟩ : ∃ n, (s[i]'hls).toNat = n := ⟨_, rfl⟩
   rw [hn] at hI hn256
   have hz : (bOf ((s.data.toList.take i).map fun b => ltr b.toNat)).size ≤ 100 := by rw [bOf_size]; simp; omega
   generalize bOf ((s.data.toList.take i).map fun b => ltr b.toNat) = o at hI hz ⊢
   have hz' : (o.size : Int) ≤ 100 := by omega
   have hi0 : (0 : Int) ≤ (i : Int) := by omega
   have hi1 : (i : Int) < (s.size : Int) := by omega
   have hi2 : (i : Int) < (most : Int) := by omega
   have hi3 : (i : Int) ≤ 100 := by omega
   have hn0 : (0 : Int) ≤ (n : Int) := by omega
   have hn1 : (n : Int) ≤ 255 := by omega
   have hd1 : decide ((i : Int) < (s.size : Int)) = true := by simp; omega
   have HB : Hid (i < s.size ∧ i < most) := ⟨hls, hlm⟩
   have h4 : n % 4 = 0 ∨ n % 4 = 1 ∨ n % 4 = 2 ∨ n % 4 = 3 := by omega
   clear hb hlm hi hs
   rcases h4 with h4 | h4 | h4 | h4
   ·have h4' : (n : Int) % 4 = 0 := by omega
    have hl : ltr n = 97 := by unfold ltr; rw [h4]; rfl
    rw [hl] at hI
    have HI := hI.symm
    have HI2 : Hid (o ++ bOf [97] = bOf ((s.data.toList.take (i + 1)).map fun b => ltr b.toNat)) := HI
    clear h4 hl HI hI
    go_wp2_with fail
    exact ⟨⟨i + 1, by go_num, (congrArg (fun z => Value.string (o ++ z)) (by decide +kernel)).trans (congrArg Value.string HI2.out), HB.out.2, HB.out.1, hk⟩, by have := HB.out; simp [intOf]; omega⟩
   ·have h4' : (n : Int) % 4 = 1 := by omega
    have hl : ltr n = 98 := by unfold ltr; rw [h4]; rfl
    rw [hl] at hI
    have HI := hI.symm
    have HI2 : Hid (o ++ bOf [98] = bOf ((s.data.toList.take (i + 1)).map fun b => ltr b.toNat)) := HI
    clear h4 hl HI hI
    go_wp2_with fail
    exact ⟨⟨i + 1, by go_num, (congrArg (fun z => Value.string (o ++ z)) (by decide +kernel)).trans (congrArg Value.string HI2.out), HB.out.2, HB.out.1, hk⟩, by have := HB.out; simp [intOf]; omega⟩
   ·have h4' : (n : Int) % 4 = 2 := by omega
    have hl : ltr n = 99 := by unfold ltr; rw [h4]; rfl
    rw [hl] at hI
    have HI := hI.symm
    have HI2 : Hid (o ++ bOf [99] = bOf ((s.data.toList.take (i + 1)).map fun b => ltr b.toNat)) := HI
    clear h4 hl HI hI
    go_wp2_with fail
    exact ⟨⟨i + 1, by go_num, (congrArg (fun z => Value.string (o ++ z)) (by decide +kernel)).trans (congrArg Value.string HI2.out), HB.out.2, HB.out.1, hk⟩, by have := HB.out; simp [intOf]; omega⟩
   ·have h4' : (n : Int) % 4 = 3 := by omega
    have hl : ltr n = 46 := by unfold ltr; rw [h4]; rfl
    rw [hl] at hI
    have HI := hI.symm
    have HI2 : Hid (o ++ bOf [46] = bOf ((s.data.toList.take (i + 1)).map fun b => ltr b.toNat)) := HI
    clear h4 hl HI hI
    go_wp2_with fail
    exact ⟨⟨i + 1, by go_num, (congrArg (fun z => Value.string (o ++ z)) (by decide +kernel)).trans (congrArg Value.string HI2.out), HB.out.2, HB.out.1, hk⟩, by have := HB.out; simp [intOf]; omega⟩
  ·have HO : bOf ((s.data.toList.take i).map fun b => ltr b.toNat) = txT s most := by
      unfold txT
      rcases Nat.lt_or_ge i s.size with h | h
      ·rw [show i = most by omega]
      ·have hl : s.data.toList.length = s.size := Array.length_toList
       rw [List.take_of_length_le (by omega), List.take_of_length_le (by omega)]
   rw [HO]
   clear HO
   by_cases h1 : i < s.size
   ·have h2 : ¬ (i : Int) < (most : Int) := by omega
    have h1' : (i : Int) < (s.size : Int) := by omega
    clear hlt
    go_wp2_with fail
    go_ret
    exact ⟨rfl, hk⟩
   ·have h1' : ¬ (i : Int) < (s.size : Int) := by omega
    clear hlt
    go_wp2_with fail
    go_ret
    exact ⟨rfl, hk⟩
end Go.Proofs.YtnfojonmohijpaaGreatDoor
namespace Go.Proofs.YtnfojonmohijpaaGreatDoor
theorem fit_match {p p' : List UInt8} {f f' : Nat → List Pat} {n a A B D : Nat} (h : Fm p p' f f' n a A B D) (ha : a ≤ 6) (hn : n ≤ 9) (hl : p.length ≤ 60) (hA : A * 12 + B + 9 ≤ 20000) {t : ByteArray} (ht : t.size ≤ 12) {u : List UInt8} {is : Bool} {e : Int} (hM : MatchA (bOf p) t u is e) :
    PatR (bOf p) (.ok ⟨false, false, .wone (pre (f 0) .pnil), n⟩ p.length) ∧ e = 0 ∧
    ((is = true ∧ Mt t (.wone (pre (f 0) .pnil)) 0 t.size ∧ u.length ≤ 20000 ∧ (∃ T, TT t (.node (.wone (pre (f 0) .pnil))) 0 t.size T ∧ T.text = u ∧ TO true T ∧ T.dp ≤ D + 2) ∧ ∃ ev, TR t (.node (.wone (pre (f 0) .pnil))) 0 t.size u ev) ∨ (is = false ∧ u = [] ∧ ¬ Mt t (.wone (pre (f 0) .pnil)) 0 t.size)) := by
 have hw := h.one.ws.whole ha hn h.hd (bOf p) (by simp [bOf])
 refine ⟨hw, ?_⟩
 have hgood := PatR.good (by rw [bOf_size]; exact hl) hw
 have hal := h.one.al 0
 have hbe := h.one.be 0
 have htd := h.one.td 0
 have hwd := h.one.wd 0
 rcases hM with ⟨h1, _⟩ | ⟨_, q, hq, h2⟩
 ·rw [bOf_size] at h1; omega
 ·cases hq.det hw
  rcases h2 with ⟨h3, _⟩ | ⟨_, ⟨h3, rfl, rfl, rfl⟩ | ⟨h3, u', ev, hu, h4⟩⟩
  ·omega
  ·exact ⟨rfl, Or.inr ⟨rfl, rfl, h3⟩⟩
  ·obtain ⟨T, hT, rfl⟩ := hu.toTT hgood.1
   have hlen := hT.long h3
   have hdp := hT.deep
   have hto := hT.right ⟨hwd, hgood.1⟩
   simp only [Job.long, Job.deep, Nat.sub_zero] at hlen hdp
   generalize Pat.wone (pre (f 0) .pnil) = x at *
   have hmul : x.al * t.size ≤ A * 12 := Nat.mul_le_mul hal ht
   rcases h4 with ⟨h5, rfl, rfl, rfl⟩ | ⟨h5, _⟩
   ·exact ⟨rfl, Or.inl ⟨rfl, h3, h5, ⟨T, hT, rfl, hto, by omega⟩, ev, hu⟩⟩
   ·omega
structure FitL (p p' : List UInt8) (t : ByteArray) (u : List UInt8) (is : Bool) (e : Int) : Prop where
 ok : e = 0
 flat : is = true → ∀ o j n, FlatA (nmB u) o j n → nmB o = t ∧ n = 0
 fits : is = true → ∀ b n, FitsA (bOf p) (nmB u) b n → b = true ∧ n = 0
 plain : ∀ q j n, PlainA (bOf p) q j n → q = p' ∧ n = 0
 again : p'.length ≤ 60 → ∀ q j n, PlainA (nmB p') q j n → q = p' ∧ n = 0
 other : p'.length ≤ 60 → ∀ v so n, MatchA (nmB p') t v so n → v = u ∧ so = is ∧ n = 0
theorem whole_txt (x : Pat) (n : Nat) : wholeT ⟨false, false, x, n⟩ = patT x := by simp [wholeT]
theorem fitted_math {p p' : List UInt8} {f f' : Nat → List Pat} {n a A B D : Nat} (h : Fm p p' f f' n a A B D) (ha : a ≤ 6) (hn : n ≤ 9) (hl : p.length ≤ 60) (hA : A * 12 + B + 9 ≤ 20000) (hD : D ≤ 58) {t : ByteArray} (ht : t.size ≤ 12) {u : List UInt8} {is : Bool} {e : Int} (hM : MatchA (bOf p) t u is e) : FitL p p' t u is e := by
 obtain ⟨hw, rfl, hc⟩ := fit_match h ha hn hl hA ht hM
 have hw' := h.one.ws'.whole ha hn h.hd' (nmB p') (nmB_toList p')
 have htx := h.one.tx 0
 have htx' := h.one.tx' 0
 have hev := h.one.ev 0
 refine ⟨rfl, fun his o j m hF => ?_, fun his b m hF => ?_, fun q j m hP => ?_, fun hl' q j m hP => ?_, fun hl' v so m hM' => ?_⟩
 ·rcases hc with ⟨_, h3, hu, ⟨T, hT, rfl, hto, hdp⟩, _⟩ | ⟨hf, _⟩
  ·have hR := hto.whole (by omega)
   rcases hF with ⟨h1, _⟩ | ⟨_, q, hq, h2⟩
   ·rw [nmB_size] at h1; omega
   ·cases hq.det hR
    obtain ⟨rfl, _, rfl⟩ := h2
    refine ⟨?_, rfl⟩
    rw [hT.flat h3 (Nat.le_refl _)]
    have hsl : t.data.toList.length = t.size := Array.length_toList
    unfold sgB nmB
    rw [List.drop_zero, List.take_of_length_le (by omega)]
  ·rw [hf] at his; cases his
 ·rcases hc with ⟨_, h3, hu, ⟨T, hT, rfl, hto, hdp⟩, _⟩ | ⟨hf, _⟩
  ·have hR := hto.whole (by omega)
   rcases hF with ⟨h1, _⟩ | ⟨_, q, hq, h2⟩
   ·rw [bOf_size] at h1; omega
   ·cases hq.det hw
    rcases h2 with ⟨h4, _⟩ | ⟨_, q', hq', h2⟩
    ·rw [nmB_size] at h4; omega
    ·cases hq'.det hR
     exact ⟨h2.1.2 (hT.fit h3), h2.2⟩
  ·rw [hf] at his; cases his
 ·rcases hP with ⟨h1, _⟩ | ⟨_, q', hq, h2⟩
  ·rw [bOf_size] at h1; omega
  ·cases hq.det hw
   exact ⟨by rw [h2.1, whole_txt]; exact htx, h2.2.2⟩
 ·rcases hP with ⟨h1, _⟩ | ⟨_, q', hq, h2⟩
  ·rw [nmB_size] at h1; omega
  ·cases hq.det hw'
   exact ⟨by rw [h2.1, whole_txt]; exact htx', h2.2.2⟩
 ·have hmt := hev.mt (s := t) 0 t.size
  rcases hM' with ⟨h1, _⟩ | ⟨_, q, hq, h2⟩
  ·rw [nmB_size] at h1; omega
  ·cases hq.det hw'
   rcases h2 with ⟨h3, _⟩ | ⟨_, ⟨h3, rfl, rfl, rfl⟩ | ⟨h3, u', ev, hu', h4⟩⟩
   ·omega
   ·rcases hc with ⟨_, h5, _⟩ | ⟨rfl, rfl, _⟩
    ·exact absurd (hmt.1 h5) h3
    ·exact ⟨rfl, rfl, rfl⟩
   ·rcases hc with ⟨rfl, h5, hu, _, ev', hR⟩ | ⟨_, _, h5⟩
    ·obtain ⟨rfl, _⟩ := (hR.eqv (.node (.wone (pre (f' 0) .pnil))) hev).det u' ev hu'
     rcases h4 with ⟨_, rfl, rfl, rfl⟩ | ⟨h6, _⟩
     ·exact ⟨rfl, rfl, rfl⟩
     ·omega
    ·exact absurd (hmt.2 h3) h5
theorem made3_fit (c : Nat → Nat) (i : Nat) : ∃ p', ∀ {t : ByteArray} {u : List UInt8} {is : Bool} {e : Int}, (mdT c 3 i).length ≤ 60 → t.size ≤ 12 → MatchA (bOf (mdT c 3 i)) t u is e → FitL (mdT c 3 i) p' t u is e := by
 obtain ⟨p', f, f', n, a, h, hn, ha⟩ := fm_all c 3 i
 exact ⟨p', fun hl ht hM => fitted_math h (by omega) (by omega) hl (by decide) (by decide) ht hM⟩
theorem sg_fit (k : Nat) : ∃ p', ∀ {t : ByteArray} {u : List UInt8} {is : Bool} {e : Int}, (sgT k).length ≤ 60 → t.size ≤ 12 → MatchA (bOf (sgT k)) t u is e → FitL (sgT k) p' t u is e :=
 ⟨sgP k, fun hl ht hM => fitted_math (Fm.single k) (by decide) (by decide) hl (by decide) (by decide) ht hM⟩
end Go.Proofs.YtnfojonmohijpaaGreatDoor
namespace Go.Proofs.YtnfojonmohijpaaGreatDoor
open Go.RowKit
set_option maxRecDepth 100000 in
set_option maxHeartbeats 4000000 in
theorem yfits_any (p s : ByteArray) (w : World) (hgn : GN w) :
    Calls Tryz.prog 20 #[.string p, .string s] w fun e w' => ∃ b n, e = .returned (.tuple #[.bool b, .int .i64 n]) ∧ FitsA p s b n ∧ Keeps [] w w' := by
 go_enter Tryz.func20, Tryz.ntmps20
 go_wp2_with fail
 refine (readPattern_prog p w hgn).mono ?_
 rintro e w1 ⟨hk1, hc1⟩
 have hz0 : P4 (w1.alloc (.cells #[.bool false, .bool false, .slice none 0 0, .int .i64 0] 70)) w1.heap.size (.bool false) (.bool false) (.slice none 0 0) (.int .i64 0) := heap_alloc_new w1 _
 have hk2 : Keeps [] w1 (w1.alloc (.cells #[.bool false, .bool false, .slice none 0 0, .int .i64 0] 70)) := (Keeps.refl [] w1).alloc _
 have hC : (∃ x y : Int, y ≠ 0 ∧ e = .returned (.tuple #[.agg #[.bool false, .bool false, .slice none 0 0, .int .i64 0], .int .i64 x, .int .i64 y]) ∧ FitsA p s false y) ∨
     ∃ W j v, p.size ≤ 60 ∧ PatR p (.ok W j) ∧ e = .returned (.tuple #[.agg #[.bool W.bg, .bool W.en, v, .int .i64 W.g], .int .i64 0, .int .i64 0]) ∧ v.oneCell' = true ∧ Rep w1 (fun g => w.heap.size ≤ g) .ways W.x [v] := by
  rcases hc1 with ⟨hl, he⟩ | ⟨hs, q, hq, h⟩
  ·exact Or.inl ⟨0, 1, by decide, he, Or.inl ⟨hl, rfl, rfl⟩⟩
  ·cases q with
   | bad j => exact Or.inl ⟨j, 2, by decide, h, Or.inr ⟨hs, _, hq, rfl, rfl⟩⟩
   | ok W j =>
    obtain ⟨v, he, hv, hr⟩ := h
    exact Or.inr ⟨W, j, v, hs, hq, he, hv, hr⟩
 clear hc1
 rcases hC with ⟨x, y, hy, rfl, hF⟩ | ⟨Wh, jp, v, hps, hPR, rfl, hv1, hrep⟩
 ·have hne : (y == 0) = false := by simpa using hy
  have hnn : (y != 0) = true := by simpa using hy
  have HF : Hid (FitsA p s false y) := hF
  have hkS := (hk1.trans hk2).setRow (g := w1.heap.size) (Or.inr hk1.size) #[.bool false, .bool false, .slice none 0 0, .int .i64 0]
  clear hF hy
  go_wp2_with (first | (refine wpList_store_row rfl 70 _ _ rfl w1.heap.size #[.bool false, .bool false, .slice none 0 0, .int .i64 0] rfl rfl _ _ hz0 infoPat rfl (four_one rfl) ?_))
  go_ret2
  exact ⟨false, y, rfl, HF.out, hkS⟩
 ·have hkS : Keeps [] w1 ((w1.alloc (.cells #[.bool false, .bool false, .slice none 0 0, .int .i64 0] 70)).setRow w1.heap.size #[.bool Wh.bg, .bool Wh.en, v, .int .i64 Wh.g]) := hk2.setRow (Or.inr (Nat.le_refl _)) _
  have h1 : P4 ((w1.alloc (.cells #[.bool false, .bool false, .slice none 0 0, .int .i64 0] 70)).setRow w1.heap.size #[.bool Wh.bg, .bool Wh.en, v, .int .i64 Wh.g]) w1.heap.size (.bool Wh.bg) (.bool Wh.en) v (.int .i64 Wh.g) := setRow_heap _ _ _ _ _ _ hz0
  have hrep1 := hrep.keep hkS (by simp)
  have hkA := hk1.trans hkS
  have HPR : Hid (p.size ≤ 60 ∧ PatR p (.ok Wh jp)) := ⟨hps, hPR⟩
  clear hps hPR hrep
  go_upto_region 2 with (first | (refine wpList_store_row rfl 70 _ _ rfl w1.heap.size #[.bool Wh.bg, .bool Wh.en, v, .int .i64 Wh.g] rfl rfl _ _ hz0 infoPat rfl (four_one hv1) ?_))
  generalize (w1.alloc (.cells #[.bool false, .bool false, .slice none 0 0, .int .i64 0] 70)).setRow w1.heap.size #[.bool Wh.bg, .bool Wh.en, v, .int .i64 Wh.g] = w2 at *
  obtain ⟨g1, hg1⟩ : ∃ g, w1.heap.size = g := ⟨_, rfl⟩
  rw [hg1] at h1 ⊢
  go_wp2_with fail
  refine (readTree_prog s w2).mono ?_
  rintro e w3 ⟨hk3, hc3⟩
  have hz3 : P3 (w3.alloc (.cells #[.int .u8 0, .int .i64 0, .slice none 0 0] 88)) w3.heap.size (.int .u8 0) (.int .i64 0) (.slice none 0 0) := heap_alloc_new w3 _
  have hk4 : Keeps [] w3 (w3.alloc (.cells #[.int .u8 0, .int .i64 0, .slice none 0 0] 88)) := (Keeps.refl [] w3).alloc _
  have hkB := hkA.trans hk3
  have hC : (∃ (a b c : Value) (x y : Int), e = .returned (.tuple #[.agg #[a, b, c], .int .i64 x, .int .i64 y]) ∧ a.oneCell' = true ∧ b.oneCell' = true ∧ c.oneCell' = true ∧ y ≠ 0 ∧ FitsA p s false y) ∨
      ∃ (t : Tr) (a b c : Value) (j : Nat), e = .returned (.tuple #[.agg #[a, b, c], .int .i64 0, .int .i64 0]) ∧ a.oneCell' = true ∧ b.oneCell' = true ∧ c.oneCell' = true ∧ (∀ b, (b = true ↔ Ft Wh.x t) → FitsA p s b 0) ∧ TV w3 (fun g => w2.heap.size ≤ g) true t [a, b, c] := by
   obtain ⟨hps, hPR⟩ := HPR.out
   rcases hc3 with ⟨hl, he⟩ | ⟨hs, q, hq, h⟩
   ·exact Or.inl ⟨_, _, _, _, _, he, rfl, rfl, rfl, by decide, Or.inr ⟨hps, _, hPR, Or.inl ⟨hl, rfl, rfl⟩⟩⟩
   ·cases q with
    | bad j => exact Or.inl ⟨_, _, _, _, _, h, rfl, rfl, rfl, by decide, Or.inr ⟨hps, _, hPR, Or.inr ⟨hs, _, hq, rfl, rfl⟩⟩⟩
    | ok t j =>
     obtain ⟨a, b, c, he, ha, hb, hc, htv⟩ := h
     exact Or.inr ⟨t, a, b, c, j, he, ha, hb, hc, fun b hb => Or.inr ⟨hps, _, hPR, Or.inr ⟨hs, _, hq, hb, rfl⟩⟩, htv⟩
  clear hc3 HPR
  have h1r := h1.keep hk3 (by simp)
  have hrep3 := hrep1.keep hk3 (by simp)
  rcases hC with ⟨a, b, c, x, y, rfl, ha, hb, hc, hy, hF⟩ | ⟨t, a, b, c, j, rfl, ha, hb, hc, hF, htv⟩
  ·have hne : (y == 0) = false := by simpa using hy
   have hnn : (y != 0) = true := by simpa using hy
   have HF : Hid (FitsA p s false y) := hF
   have hkT := (hkB.trans hk4).setRow (g := w3.heap.size) (Or.inr hkB.size) #[a, b, c]
   clear hF hy
   go_wp2_with (first | (refine wpList_store_row rfl 88 _ _ rfl w3.heap.size #[a, b, c] rfl rfl _ _ hz3 (info3 _ _ _) rfl (all3 ha hb hc) ?_))
   go_ret2
   exact ⟨false, y, rfl, HF.out, hkT⟩
  ·obtain ⟨k, nn, va, vn, vc, hf⟩ := htv.form
   simp only [List.cons.injEq, and_true] at hf
   obtain ⟨rfl, rfl, rfl⟩ := hf
   have HF : Hid (∀ b, (b = true ↔ Ft Wh.x t) → FitsA p s b 0) := hF
   have hkT : Keeps [] w3 ((w3.alloc (.cells #[.int .u8 0, .int .i64 0, .slice none 0 0] 88)).setRow w3.heap.size #[.int .u8 k, .int .i64 nn, .slice va vn vc]) := hk4.setRow (Or.inr (Nat.le_refl _)) _
   have h4 : P3 ((w3.alloc (.cells #[.int .u8 0, .int .i64 0, .slice none 0 0] 88)).setRow w3.heap.size #[.int .u8 k, .int .i64 nn, .slice va vn vc]) w3.heap.size (.int .u8 k) (.int .i64 nn) (.slice va vn vc) := setRow_heap _ _ _ _ _ _ hz3
   have htv4 := htv.keep hkT (by simp)
   have hrep4 := hrep3.keep hkT (by simp)
   have h14 := h1r.keep hkT (by simp)
   have hkC := hkB.trans hkT
   clear hF htv hrep3
   go_upto_region 5 with (first | (refine wpList_store_row rfl 88 _ _ rfl w3.heap.size #[.int .u8 k, .int .i64 nn, .slice va vn vc] rfl rfl _ _ hz3 (info3 _ _ _) rfl (all3 rfl rfl rfl) ?_))
   generalize (w3.alloc (.cells #[.int .u8 0, .int .i64 0, .slice none 0 0] 88)).setRow w3.heap.size #[.int .u8 k, .int .i64 nn, .slice va vn vc] = w4 at *
   obtain ⟨g4, hg4⟩ : ∃ g, w3.heap.size = g := ⟨_, rfl⟩
   rw [hg4] at h4 ⊢
   go_wp2_with (first
     | (refine wpList_load_row rfl 70 _ rfl g1 rfl _ _ _ _ h14 Tryz.underlying70 rfl infoPat ?_)
     | (refine wpList_load_row rfl 88 _ rfl g4 rfl _ _ _ _ h4 Tryz.underlying88 rfl (info3 _ _ _) ?_))
   refine (mfits_any Wh.x _ _ _ _ _ _ _ t w4 _ _ ⟨rfl, rfl, hv1, rfl⟩ hrep4 htv4).mono ?_
   rintro e w5 ⟨b, rfl, hbi, hk5⟩
   go_wp2_with fail
   go_ret2
   exact ⟨b, 0, rfl, HF.out b hbi, hkC.trans hk5⟩
end Go.Proofs.YtnfojonmohijpaaGreatDoor
namespace Go.Proofs.YtnfojonmohijpaaGreatDoor
open Go.RowKit
theorem ofNat_toNat' (c : Nat) (hc : c < 256) : ((UInt8.ofNat c).toNat : Int) = (c : Int) := by
 simp; omega
set_option maxRecDepth 100000 in
set_option maxHeartbeats 1000000 in
theorem plainByte_text (c : Nat) (hc : c < 256) (w : World) :
    Calls Tryz.prog 208 #[.int .u8 (c : Int)] w fun e w' => e = .returned (.string (nmB (oneT c))) ∧ Keeps [] w w' := by
 cases ha : alnB (c : Int) with
 | true =>
  have HO : Hid (oneT c = [UInt8.ofNat c]) := by show oneT c = _; unfold oneT; rw [ha]; rfl
  have IA := isAlnum_any (c : Int)
  rw [ha] at IA
  have cv := conv_one w (UInt8.ofNat c)
  rw [ofNat_toNat' c hc] at cv
  clear ha
  go_enter Tryz.func208, Tryz.ntmps208
  go_wp2_with (first | (go_at_call 253; refine (IA _).mono ?_; rintro e w1 ⟨rfl, rfl⟩))
  go_ret
  refine ⟨?_, (Keeps.refl [] _).alloc _⟩
  rw [HO.out]; rfl
 | false =>
  have HO : Hid (oneT c = [92, 120] ++ [hexs.getD (c / 16) 0, hexs.getD (c % 16) 0]) := by show oneT c = _; unfold oneT; rw [ha]; rfl
  have IA := isAlnum_any (c : Int)
  rw [ha] at IA
  have hsz : (nmB [hexs.getD (c / 16) 0, hexs.getD (c % 16) 0]).size = 2 := rfl
  have hsz2 : ¬ 9223372036854775807 < (ByteArray.mk #[92, 120]).size + (nmB [hexs.getD (c / 16) 0, hexs.getD (c % 16) 0]).size := by rw [hsz]; decide
  have hap : (ByteArray.mk #[92, 120]) ++ nmB [hexs.getD (c / 16) 0, hexs.getD (c % 16) 0] = nmB ([92, 120] ++ [hexs.getD (c / 16) 0, hexs.getD (c % 16) 0]) := nmB_append [92, 120] _
  clear ha
  go_enter Tryz.func208, Tryz.ntmps208
  go_wp2_with (first | (go_at_call 253; refine (IA _).mono ?_; rintro e w1 ⟨rfl, rfl⟩) | (go_at_call 178; refine (hexPair_text c hc _).mono ?_; rintro e w1 ⟨rfl, hk1⟩))
  go_ret
  refine ⟨?_, hk1⟩
  rw [HO.out]
  first | rfl | (show Ending.returned (.string _) = _; rw [← hap]; rfl)
set_option maxRecDepth 100000 in
set_option maxHeartbeats 1000000 in
theorem plainStretch_text (a b : Nat) (ha : a < 256) (hb : b < 256) (w : World) :
    Calls Tryz.prog 209 #[.agg #[.int .u8 (a : Int), .int .u8 (b : Int)]] w fun e w' => e = .returned (.string (nmB (strT a b))) ∧ Keeps [] w w' := by
 by_cases hab : a = b
 ·have HO : Hid (strT a b = oneT a) := by show strT a b = _; unfold strT; rw [if_pos hab]
  have he : ((a : Int) == (b : Int)) = true := by simpa using (by omega : (a : Int) = (b : Int))
  have k0 : Keeps [] w (w.alloc (.cells #[.int .u8 (a : Int), .int .u8 (b : Int)] 307)) := (Keeps.refl [] w).alloc _
  clear hab
  go_enter Tryz.func209, Tryz.ntmps209
  go_wp2_with (first | (go_at_call 208; refine (plainByte_text a ha _).mono ?_; rintro e w1 ⟨rfl, hk1⟩))
  go_ret
  exact ⟨by rw [HO.out]; rfl, k0.trans hk1⟩
 ·have HO : Hid (strT a b = oneT a ++ [45] ++ oneT b) := by show strT a b = _; unfold strT; rw [if_neg hab]
  have he : ((a : Int) == (b : Int)) = false := by simpa using (by omega : ¬ (a : Int) = (b : Int))
  have k0 : Keeps [] w (w.alloc (.cells #[.int .u8 (a : Int), .int .u8 (b : Int)] 307)) := (Keeps.refl [] w).alloc _
  have la := oneT_len a
  have lb := oneT_len b
  have z1 : ¬ 9223372036854775807 < (nmB (oneT a)).size + (ByteArray.mk #[45]).size := by rw [nmB_size]; show ¬ 9223372036854775807 < _ + 1; omega
  have z2 : ¬ 9223372036854775807 < (nmB (oneT a ++ [45])).size + (nmB (oneT b)).size := by rw [nmB_size, nmB_size]; simp; omega
  have p1 : nmB (oneT a) ++ (ByteArray.mk #[45]) = nmB (oneT a ++ [45]) := nmB_append _ [45]
  have p2 : nmB (oneT a ++ [45]) ++ nmB (oneT b) = nmB (oneT a ++ [45] ++ oneT b) := nmB_append _ _
  have ca : (w.alloc (.cells #[.int .u8 (a : Int), .int .u8 (b : Int)] 307)).cell? ⟨w.heap.size, 0, none⟩ = some (.int .u8 (a : Int)) := by simp
  have cb : (w.alloc (.cells #[.int .u8 (a : Int), .int .u8 (b : Int)] 307)).cell? ⟨w.heap.size, 1, none⟩ = some (.int .u8 (b : Int)) := by simp
  clear hab la lb
  go_enter Tryz.func209, Tryz.ntmps209
  go_wp2_with fail
  generalize w.alloc (.cells #[.int .u8 (a : Int), .int .u8 (b : Int)] 307) = W at *
  have kD : Keeps [] W W.drew := (Keeps.refl [] W).drewN 1
  have caD := keep_cell kD ca
  have cbD := keep_cell kD cb
  have kE := k0.trans kD
  clear ca cb k0
  go_region_with (first
    | (go_at_call_of 208 (Value.int IntKind.u8 (a : Int)); refine (plainByte_text a ha _).mono ?_; rintro e w1 ⟨rfl, hk1⟩; have cb1 := keep_cell hk1 cbD)
    | (go_at_call_of 208 (Value.int IntKind.u8 (b : Int)); refine (plainByte_text b hb _).mono ?_; rintro e w2 ⟨rfl, hk2⟩))
  all_goals
   go_wp2_with fail
   go_ret
   refine ⟨?_, (kE.trans hk1).trans hk2⟩
   rw [HO.out]
   first
    | (show Ending.returned (.string (nmB (oneT a ++ [45]) ++ nmB (oneT b))) = _; rw [nmB_append])
    | (show Ending.returned (.string (nmB (oneT a ++ 45 :: oneT b))) = _; simp)
end Go.Proofs.YtnfojonmohijpaaGreatDoor
