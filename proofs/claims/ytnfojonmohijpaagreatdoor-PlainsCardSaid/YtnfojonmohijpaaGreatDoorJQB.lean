/-
  DERIVED. The contract of the program's plainRepeat. Conditions: the numbers are those that a repeat may have, the variable uint64pow10 begins with 1.
-/
import Derived.Test.YtnfojonmohijpaaGreatDoorJQA
import Derived.Deep.CutRange
set_option linter.unusedSimpArgs false
set_option linter.unusedVariables false
namespace Go.Proofs.YtnfojonmohijpaaGreatDoor
open Go.RowKit

theorem GP.keep {w w' : World} (h : GP w) (hk : Keeps [] w w') : GP w' := keep_cell hk h
theorem itoa_any (n : Int) (hn : n = -1 ∨ ∃ k : Nat, n = k ∧ k ≤ 5) (w : World) (hg : GP w) :
    Calls Tryz.prog 105 #[.int .i64 n] w fun e w' => ∃ t, e = .returned (.string t) ∧ (∀ k : Nat, n = k → t = nmB (digT k)) ∧ Keeps [] w w' := by
  rcases hn with rfl | ⟨k, rfl, hk⟩
  · refine (itoa_neg w hg).mono ?_
    rintro e w' ⟨⟨t, rfl⟩, hk⟩
    exact ⟨t, rfl, by intro k h; omega, hk⟩
  · refine (itoa_small k hk w).mono ?_
    rintro e w' ⟨rfl, hk⟩
    exact ⟨_, rfl, by intro k' h; have : k = k' := by omega
                      rw [this], hk⟩

/-- A repeat or none, as it is written. -/
def repO : Option (Nat × Int) → List UInt8
  | none => []
  | some (m, n) => repT m n

theorem digT_sz (m : Nat) : (nmB (digT m)).size = 1 := rfl
theorem one_app (x : UInt8) (l : List UInt8) : (ByteArray.mk #[x]) ++ nmB l = nmB ([x] ++ l) := nmB_append [x] l
theorem app_one (x : UInt8) (l : List UInt8) : nmB l ++ (ByteArray.mk #[x]) = nmB (l ++ [x]) := nmB_append l [x]
theorem app_two (x y : UInt8) (l : List UInt8) : nmB l ++ (ByteArray.mk #[x, y]) = nmB (l ++ [x, y]) := nmB_append l [x, y]
theorem small_sz {a b : Nat} (ha : a ≤ 10) (hb : b ≤ 10) : ¬ 9223372036854775807 < a + b := by omega

set_option maxRecDepth 100000 in
set_option maxHeartbeats 4000000 in
theorem plainRepeat_gen (on : Bool) (m : Nat) (n : Int) (hm : m ≤ 5) (hn : n = -1 ∨ ∃ k : Nat, n = k ∧ k ≤ 5) (hoff : on = false → m = 0 ∧ n = 0) (w : World) (hg : GP w) :
    Calls Tryz.prog 121 #[.agg #[.bool on, .int .i64 (m : Int), .int .i64 n]] w fun e w' => e = .returned (.string (nmB (if on then repT m n else []))) ∧ Keeps [] w w' := by
  have k0 : Keeps [] w (w.alloc (.cells #[.bool on, .int .i64 (m : Int), .int .i64 n] 210)) := (Keeps.refl [] w).alloc _
  have c0 : (w.alloc (.cells #[.bool on, .int .i64 (m : Int), .int .i64 n] 210)).cell? ⟨w.heap.size, 0, none⟩ = some (.bool on) := by simp
  have c1 : (w.alloc (.cells #[.bool on, .int .i64 (m : Int), .int .i64 n] 210)).cell? ⟨w.heap.size, 1, none⟩ = some (.int .i64 (m : Int)) := by simp
  have c2 : (w.alloc (.cells #[.bool on, .int .i64 (m : Int), .int .i64 n] 210)).cell? ⟨w.heap.size, 2, none⟩ = some (.int .i64 n) := by simp
  have HT : Hid (∃ X, (if on then repT m n else []) = X) := ⟨_, rfl⟩
  obtain ⟨X, hX⟩ := HT.out
  rw [hX]
  have HX : Hid ((if on then repT m n else []) = X) := hX
  have HM : Hid (m ≤ 5) := hm
  clear hX HT
  go_enter Tryz.func121, Tryz.ntmps121
  go_wp2_with fail
  generalize w.alloc (.cells #[.bool on, .int .i64 (m : Int), .int .i64 n] 210) = W at *
  have kD : Keeps [] W W.drew := (Keeps.refl [] W).drewN 1
  have d1 := keep_cell kD c1
  have d2 := keep_cell kD c2
  have gD := (hg.keep k0).keep kD
  go_cut [3, 4] from 5 to 10 (fun u v wx => u = .string (nmB (digT m)) ∧ (∃ t, v = .string t ∧ ∀ k : Nat, n = k → t = nmB (digT k)) ∧ Keeps [] W wx)
  case first =>
    go_region_with (first
      | (go_at_call 105; refine (itoa_small m hm _).mono ?_; rintro e w1 ⟨rfl, hk1⟩; have gE := gD.keep hk1; have e2 := keep_cell hk1 d2; clear gD d2 hm)
      | (go_at_call 105; refine (itoa_any n hn _ gE).mono ?_; rintro e w2 ⟨t2, rfl, ht2, hk2⟩))
    all_goals
      go_wp2_with fail
      go_meet
      case rel => exact ⟨rfl, ⟨_, rfl, ht2⟩, (kD.trans hk1).trans hk2⟩
  case rest =>
    obtain ⟨rfl, ⟨t, rfl, ht⟩, hkx⟩ := hcut
    have HTT : Hid (∀ k : Nat, n = k → t = nmB (digT k)) := ht
    have c0 := keep_cell hkx c0
    have c1 := keep_cell hkx c1
    have c2 := keep_cell hkx c2
    have hkF := k0.trans hkx
    clear ht d1 d2 gD kD k0 hkx hg
    cases on with
    | false =>
      obtain ⟨h1, h2⟩ := hoff rfl
      subst h1 h2
      have hx := HX.out
      simp only [Bool.false_eq_true, if_false] at hx
      subst hx
      clear HTT HX
      go_wp2_with fail
      go_ret
      exact ⟨rfl, hkF⟩
    | true =>
      have hx := HX.out
      simp only [if_true] at hx
      clear HX hoff
      have hHX : Hid (repT m n = X) := hx
      clear hx
      rcases hn with rfl | ⟨k, rfl, hk⟩
      · by_cases h0 : m = 0
        · subst h0
          have hx := hHX.out
          subst hx
          clear HTT hHX
          go_wp2_with fail
          go_ret
          exact ⟨rfl, hkF⟩
        · by_cases h1 : m = 1
          · subst h1
            have hx := hHX.out
            subst hx
            clear HTT hHX
            go_wp2_with fail
            go_ret
            exact ⟨rfl, hkF⟩
          · have a0 : ¬ (m : Int) = 0 := by omega
            have a1 : ¬ (m : Int) = 1 := by omega
            have hx : [123] ++ digT m ++ [44, 125] = X := by
              rw [← hHX.out]
              simp [repT, h0, h1]
            have p1 := one_app 123 (digT m)
            have p2 := app_two 44 125 ([123] ++ digT m)
            have z1 : ¬ 9223372036854775807 < (ByteArray.mk #[123]).size + (nmB (digT m)).size := small_sz (by decide) (by rw [digT_sz]; decide)
            have z2 : ¬ 9223372036854775807 < (nmB ([123] ++ digT m)).size + (ByteArray.mk #[44, 125]).size := small_sz (by rw [nmB_size]; simp [digT]) (by decide)
            subst hx
            clear HTT hHX h0 h1
            go_wp2_with fail
            go_ret
            exact ⟨rfl, hkF⟩
      · have hkt := HTT.out k rfl
        subst hkt
        by_cases hq : m = 0 ∧ k = 1
        · obtain ⟨rfl, rfl⟩ := hq
          have hx := hHX.out
          subst hx
          clear HTT hHX
          go_wp2_with fail
          go_ret
          exact ⟨rfl, hkF⟩
        · have b1 : ¬ (k : Int) = -1 := by omega
          by_cases hmk : m = k
          · subst hmk
            have b2 : ¬ ((m : Int) = 0 ∧ (m : Int) = 1) := by omega
            have hx : [123] ++ digT m ++ [125] = X := by
              rw [← hHX.out]
              have : ¬ (m : Int) < 0 := by omega
              simp [repT, this]
              intro h1 h2
              omega
            have p1 := one_app 123 (digT m)
            have p2 := app_one 125 ([123] ++ digT m)
            have z1 : ¬ 9223372036854775807 < (ByteArray.mk #[123]).size + (nmB (digT m)).size := small_sz (by decide) (by rw [digT_sz]; decide)
            have z2 : ¬ 9223372036854775807 < (nmB ([123] ++ digT m)).size + (ByteArray.mk #[125]).size := small_sz (by rw [nmB_size]; simp [digT]) (by decide)
            subst hx
            clear HTT hHX hq
            by_cases hm0 : m = 0
            · subst hm0
              go_wp2_with fail
              go_ret
              exact ⟨rfl, hkF⟩
            · have hm0' : ¬ (m : Int) = 0 := by omega
              go_wp2_with fail
              go_ret
              exact ⟨rfl, hkF⟩
          · have b3 : ¬ (k : Int) = (m : Int) := by omega
            have hx : [123] ++ digT m ++ [44] ++ digT k ++ [125] = X := by
              rw [← hHX.out]
              have : ¬ (k : Int) < 0 := by omega
              have h4 : ¬ ((k : Int) = 1 ∧ m = 0) := by omega
              simp only [repT, this, false_and, if_false, h4, b3]
              simp
            have p1 := one_app 123 (digT m)
            have p2 := app_one 44 ([123] ++ digT m)
            have p3 := nmB_append ([123] ++ digT m ++ [44]) (digT k)
            have p4 := app_one 125 ([123] ++ digT m ++ [44] ++ digT k)
            have z1 : ¬ 9223372036854775807 < (ByteArray.mk #[123]).size + (nmB (digT m)).size := small_sz (by decide) (by rw [digT_sz]; decide)
            have z2 : ¬ 9223372036854775807 < (nmB ([123] ++ digT m)).size + (ByteArray.mk #[44]).size := small_sz (by rw [nmB_size]; simp [digT]) (by decide)
            have z3 : ¬ 9223372036854775807 < (nmB ([123] ++ digT m ++ [44])).size + (nmB (digT k)).size := small_sz (by rw [nmB_size]; simp [digT]) (by rw [digT_sz]; decide)
            have z4 : ¬ 9223372036854775807 < (nmB ([123] ++ digT m ++ [44] ++ digT k)).size + (ByteArray.mk #[125]).size := small_sz (by rw [nmB_size]; simp [digT]) (by decide)
            subst hx
            clear HTT hHX
            by_cases hm0 : m = 0
            · subst hm0
              have hk1 : ¬ (k : Int) = 1 := by omega
              clear hq
              go_wp2_with fail
              go_ret
              exact ⟨rfl, hkF⟩
            · have hm0' : ¬ (m : Int) = 0 := by omega
              clear hq
              go_wp2_with fail
              go_ret
              exact ⟨rfl, hkF⟩

theorem plainRepeat_text (o : Option (Nat × Int)) (ho : okRep o) (w : World) (hg : GP w) :
    Calls Tryz.prog 121 #[.agg (repC o).toArray] w fun e w' => e = .returned (.string (nmB (repO o))) ∧ Keeps [] w w' := by
  cases o with
  | none => exact plainRepeat_gen false 0 0 (by omega) (Or.inr ⟨0, rfl, by omega⟩) (fun _ => ⟨rfl, rfl⟩) w hg
  | some p =>
    obtain ⟨m, n⟩ := p
    exact plainRepeat_gen true m n ho.1 ho.2 (fun h => by cases h) w hg
end Go.Proofs.YtnfojonmohijpaaGreatDoor
