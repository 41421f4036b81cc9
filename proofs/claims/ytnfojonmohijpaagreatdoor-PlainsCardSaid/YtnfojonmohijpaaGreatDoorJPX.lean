/-
  DERIVED. The contract of the program's Parse. Conditions: the text is at most 60 bytes long, the variable classNames holds the seven names.
-/
import Derived.Test.YtnfojonmohijpaaGreatDoorJPW
set_option linter.unusedSimpArgs false
set_option linter.unusedVariables false
namespace Go.Proofs.YtnfojonmohijpaaGreatDoor
open Go.RowKit

set_option maxHeartbeats 400000 in
theorem new_any (s : ByteArray) (w : World) :
    Calls Tryz.prog 115 #[.string s] w fun e w' => e = .returned (.agg #[.string s, .int .i64 0]) ∧ Keeps [] w w' := by
  go_enter Tryz.func115, Tryz.ntmps115
  go_wp2_with fail
  refine bodyPost_ret (results_cell_row rfl _ _ w.heap.size _ _ _ _ rfl (heap_alloc_new w _) Tryz.underlying198 rfl (by kernel_rfl)) rfl ?_
  exact ⟨rfl, (Keeps.refl [] w).alloc _⟩

/-- What Parse leaves. -/
def PaPost (s : ByteArray) (w : World) (e : Ending) (w' : World) : Prop :=
  ∃ q, PatR s q ∧ Keeps [] w w' ∧ match q with
    | .ok W _ => ∃ v, e = .returned (.agg #[.bool W.bg, .bool W.en, v, .int .i64 W.g]) ∧ v.oneCell' = true ∧ Rep w' (fun g => w.heap.size ≤ g) .ways W.x [v]
    | .bad j => e = fault j

/-- The block of a pattern. -/
def P4 (w : World) (r : Nat) (a b c d : Value) : Prop := w.heap[r]? = some (.cells #[a, b, c, d] 70 (0, 0))
theorem P4.lt {w : World} {r : Nat} {a b c d : Value} (h : P4 w r a b c d) : r < w.heap.size := (Array.getElem?_eq_some_iff.1 h).1
theorem P4.keep {w w' : World} {r : Nat} {a b c d : Value} {S : List Nat} (h : P4 w r a b c d) (hk : Keeps S w w') (hb : r ∉ S) : P4 w' r a b c d := (hk.block r h.lt hb).trans h
theorem P4.main {w : World} {r : Nat} {a b c d : Value} (h : P4 w r a b c d) : w.cell? ⟨r, 0, none⟩ = some a ∧ w.cell? ⟨r, 1, none⟩ = some b ∧ w.cell? ⟨r, 2, none⟩ = some c ∧ w.cell? ⟨r, 3, none⟩ = some d ∧
    w.frozen? ⟨r, 0, none⟩ = false ∧ w.frozen? ⟨r, 1, none⟩ = false ∧ w.frozen? ⟨r, 2, none⟩ = false ∧ w.frozen? ⟨r, 3, none⟩ = false := by
  unfold P4 at h
  simp [World.cell?, World.frozen?, h]
theorem P4.set0 {w : World} {r : Nat} {a b c d : Value} (h : P4 w r a b c d) (v : Value) : P4 (w.setCell ⟨r, 0, none⟩ v) r v b c d := by
  unfold P4 at *
  simp [World.setCell, Array.getElem?_modify, h]
theorem P4.set1 {w : World} {r : Nat} {a b c d : Value} (h : P4 w r a b c d) (v : Value) : P4 (w.setCell ⟨r, 1, none⟩ v) r a v c d := by
  unfold P4 at *
  simp [World.setCell, Array.getElem?_modify, h]
theorem P4.set2 {w : World} {r : Nat} {a b c d : Value} (h : P4 w r a b c d) (v : Value) : P4 (w.setCell ⟨r, 2, none⟩ v) r a b v d := by
  unfold P4 at *
  simp [World.setCell, Array.getElem?_modify, h]
theorem P4.set3 {w : World} {r : Nat} {a b c d : Value} (h : P4 w r a b c d) (v : Value) : P4 (w.setCell ⟨r, 3, none⟩ v) r a b c v := by
  unfold P4 at *
  simp [World.setCell, Array.getElem?_modify, h]
theorem infoPat {a b c d : Value} : (Tryz.prog.info? 70).map (·.size) = some (#[a, b, c, d] : Array Value).size := by kernel_rfl
theorem four_one {x y : Bool} {v : Value} {n : Int} (hv : v.oneCell' = true) : (#[.bool x, .bool y, v, .int .i64 n] : Array Value).all (·.oneCell') = true := by
  have h1 : ∀ b, (Value.bool b).oneCell' = true := fun _ => rfl
  have h2 : (Value.int .i64 n).oneCell' = true := rfl
  simp [h1, h2, hv]

set_option maxRecDepth 100000 in
set_option maxHeartbeats 1000000 in
theorem parse_prog (s : ByteArray) (w : World) (hgn : GN w) (hs : s.size ≤ 60) :
    Calls Tryz.prog 67 #[.string s] w (PaPost s w) := by
  go_enter Tryz.func67, Tryz.ntmps67
  go_wp2_with fail
  have hr0 : P4 (w.alloc (.cells #[.bool false, .bool false, .slice none 0 0, .int .i64 0] 70)) w.heap.size (.bool false) (.bool false) (.slice none 0 0) (.int .i64 0) := heap_alloc_new w _
  have hk0 : Keeps [] w (w.alloc (.cells #[.bool false, .bool false, .slice none 0 0, .int .i64 0] 70)) := (Keeps.refl [] w).alloc _
  have hg0 := hgn.keep hk0 (by simp)
  have hgl := hgn.lt
  refine (new_any s _).mono ?_
  rintro e w1 ⟨rfl, hk1⟩
  generalize w.alloc (.cells #[.bool false, .bool false, .slice none 0 0, .int .i64 0] 70) = W0 at *
  have hr1 := hr0.keep hk1 (by simp)
  have hg1 := hg0.keep hk1 (by simp)
  have hkA := hk0.trans hk1
  have hl1 := hr1.lt
  clear hr0 hg0 hk0 hk1 hgn
  go_wp2_with fail
  have hq1 : QB ((w1.alloc (.cells #[.string s, .int .i64 0, .int .i64 0, .int .i64 0] 201)).alloc (.cells #[.bool false, .bool false, .slice none 0 0, .int .i64 0] 70)) w1.heap.size ⟨s, 0, 0, 0⟩ := heap_alloc2_old w1 _ _
  have hp1 : P4 ((w1.alloc (.cells #[.string s, .int .i64 0, .int .i64 0, .int .i64 0] 201)).alloc (.cells #[.bool false, .bool false, .slice none 0 0, .int .i64 0] 70)) (w1.heap.size + 1) (.bool false) (.bool false) (.slice none 0 0) (.int .i64 0) := heap_alloc2_new w1 _ _
  have hk2 : Keeps [] w1 ((w1.alloc (.cells #[.string s, .int .i64 0, .int .i64 0, .int .i64 0] 201)).alloc (.cells #[.bool false, .bool false, .slice none 0 0, .int .i64 0] 70)) := ((Keeps.refl [] w1).alloc _).alloc _
  generalize (w1.alloc (.cells #[.string s, .int .i64 0, .int .i64 0, .int .i64 0] 201)).alloc (.cells #[.bool false, .bool false, .slice none 0 0, .int .i64 0] 70) = w2 at *
  have hr2 := hr1.keep hk2 (by simp)
  have hg2 := hg1.keep hk2 (by simp)
  have hkB := hkA.trans hk2
  have hszA := hkA.size
  obtain ⟨b, hb⟩ : ∃ b, w1.heap.size = b := ⟨_, rfl⟩
  obtain ⟨g, hg⟩ : ∃ g, w.heap.size = g := ⟨_, rfl⟩
  rw [hb, hg] at hszA
  rw [hb] at hq1 hp1 hl1 ⊢
  rw [hg] at hr2 hgl hl1 ⊢
  clear hr1 hg1 hkA hk2 hb
  refine (skip_any b ⟨s, 0, 0, 0⟩ 94 (by omega) _ hq1 (Nat.zero_le _) hs).mono ?_
  rintro e w3 ⟨rfl, hq3, hk3⟩
  have htk : QS.took ⟨s, 0, 0, 0⟩ 94 = ⟨s, wi s, 0, 0⟩ := by
    unfold QS.took wi
    have : QS.cur ⟨s, 0, 0, 0⟩ = at' s 0 := rfl
    rw [this]
    by_cases h : at' s 0 = 94
    · rw [if_pos h, if_pos h]
    · rw [if_neg h, if_neg h]
  rw [htk] at hq3
  have hwi : wi s ≤ s.size := by
    unfold wi
    by_cases h : at' s 0 = 94
    · rw [if_pos h]; exact at'_nn (by omega)
    · rw [if_neg h]; omega
  have hp3 := hp1.keep hk3 (by simp)
  have hr3 := hr2.keep hk3 (by simp; omega)
  have hg3 := hg2.keep hk3 (by simp; omega)
  have hkC : Keeps [] w w3 := hkB.fresh hk3 (by intro x hx; simp at hx; omega)
  obtain ⟨m0, m1, m2, m3, n0, n1, n2, n3⟩ := hp3.main
  have hp4 := hp3.set0 (.bool (decide (at' s 0 = 94)))
  have hk4 : Keeps [b + 1] w3 (w3.setCell ⟨b + 1, 0, none⟩ (.bool (decide (at' s 0 = 94)))) := (Keeps.refl [b + 1] w3).setCell (by simp) _
  have hcu : decide (QS.cur ⟨s, 0, 0, 0⟩ = 94) = decide (at' s 0 = 94) := rfl
  rw [hcu]
  clear hp1 hr2 hg2 hkB hq1 hk3 htk hcu
  generalize hbg : decide (at' s 0 = 94) = bg at *
  go_wp2_with fail
  have hq4 := hq3.keep hk4 (by simp)
  have hr4 := hr3.keep hk4 (by simp; omega)
  have hg4 := hg3.keep hk4 (by simp; omega)
  have hkD : Keeps [] w _ := hkC.fresh hk4 (by intro x hx; simp at hx; omega)
  clear hp3 hr3 hg3 hkC hq3 hk4 m0 m1 m2 m3 n0 n1 n2 n3
  generalize w3.setCell ⟨b + 1, 0, none⟩ (.bool bg) = w4 at *
  have hszD : g ≤ w4.heap.size := by have := hkD.size; omega
  refine (ways_prog 61 b ⟨s, wi s, 0, 0⟩ w4 hq4 hg4 (by omega) hs hwi (by simp) (by simp) (by simp; omega)).mono ?_
  rintro e w5 ⟨q, hG, hk5, hc5⟩
  have hp5 := hp4.keep hk5 (by simp)
  have hr5 := hr4.keep hk5 (by simp; omega)
  have hg5 := hg4.keep hk5 (by simp; omega)
  have hkE : Keeps [] w w5 := hkD.fresh hk5 (by intro x hx; simp at hx; omega)
  have hp4' := hp4
  clear hp4 hr4 hg4 hq4
  cases q with
  | bad j =>
    have HP : Hid (PatR s (.bad j)) := ⟨_, hG, rfl⟩
    rcases hc5 with rfl | ⟨v, g1, rfl, hvs, hq5, hodd, _⟩
    · simp only [fault]
      exact ⟨rfl, _, HP.out, hkE, rfl⟩
    · obtain ⟨va, vn, vc, rfl⟩ := hvs
      have hj0 : 0 ≤ at' s j := by unfold oddC at hodd; simp at hodd; omega
      have hjlt : j < s.size := at'_nn hj0
      have h36 : ¬ at' s j = 36 := by unfold oddC at hodd; simp at hodd; omega
      obtain ⟨m0, m1, m2, m3, n0, n1, n2, n3⟩ := hp5.main
      have hp6 := hp5.set2 (.slice va vn vc)
      have hk6 : Keeps [b + 1] w5 (w5.setCell ⟨b + 1, 2, none⟩ (.slice va vn vc)) := (Keeps.refl [b + 1] w5).setCell (by simp) _
      have hq6 := hq5.keep hk6 (by simp)
      have hkF : Keeps [] w (w5.setCell ⟨b + 1, 2, none⟩ (.slice va vn vc)) := hkE.fresh hk6 (by intro x hx; simp at hx; omega)
      clear hk5 hk6 hp5 hkE hq5 hodd hG
      go_wp2_with fail
      generalize w5.setCell ⟨b + 1, 2, none⟩ (.slice va vn vc) = w6 at *
      refine (skip_any b ⟨s, j, 0, g1⟩ 36 (by omega) _ hq6 (Nat.le_of_lt hjlt) hs).mono ?_
      rintro e w7 ⟨rfl, hq7, hk7⟩
      obtain ⟨e1, e2⟩ := took_no (p := ⟨s, j, 0, g1⟩) h36
      rw [e1]
      rw [e2] at hq7
      have hp7 := hp6.keep hk7 (by simp)
      have hkG : Keeps [] w w7 := hkF.fresh hk7 (by intro x hx; simp at hx; omega)
      clear m0 m1 m2 m3 n0 n1 n2 n3
      obtain ⟨m0, m1, m2, m3, n0, n1, n2, n3⟩ := hp7.main
      have hk8 : Keeps [b + 1] w7 (w7.setCell ⟨b + 1, 1, none⟩ (.bool false)) := (Keeps.refl [b + 1] w7).setCell (by simp) _
      have hq8 := hq7.keep hk8 (by simp)
      have hkH : Keeps [] w (w7.setCell ⟨b + 1, 1, none⟩ (.bool false)) := hkG.fresh hk8 (by intro x hx; simp at hx; omega)
      clear e1 e2 hk7 hk8 hq7 hp7 hkG hkF
      go_wp2_with fail
      refine (end_bad b ⟨s, j, 0, g1⟩ _ hq8 hjlt hs).mono ?_
      rintro e w9 ⟨rfl, hk9⟩
      simp only [fault]
      exact ⟨rfl, _, HP.out, hkH.trans hk9, rfl⟩
  | ok y j =>
    obtain ⟨x, g1⟩ := y
    obtain ⟨v, rfl, hrep, hq5⟩ := hc5
    obtain ⟨va, vn, vc, rfl⟩ : IsSl v := by
      cases hrep with
      | ways _ _ _ _ _ ho _ => exact ownsRow_sl ho
    have hokb := hG.okb x g1 j rfl
    have hjle : j ≤ s.size := hokb.2.1 hwi
    obtain ⟨m0, m1, m2, m3, n0, n1, n2, n3⟩ := hp5.main
    have hp6 := hp5.set2 (.slice va vn vc)
    have hk6 : Keeps [b + 1] w5 (w5.setCell ⟨b + 1, 2, none⟩ (.slice va vn vc)) := (Keeps.refl [b + 1] w5).setCell (by simp) _
    have hq6 := hq5.keep hk6 (by simp)
    have hr6 := hr5.keep hk6 (by simp; omega)
    have hkF : Keeps [] w (w5.setCell ⟨b + 1, 2, none⟩ (.slice va vn vc)) := hkE.fresh hk6 (by intro x hx; simp at hx; omega)
    have hszb : b + 1 < w4.heap.size := hp4'.lt
    have hrep6 := hrep.keep hk6 (by intro y hy; simp; omega)
    have HG : Hid (G s .ways 0 0 (wi s) (.ok (x, g1) j)) := hG
    clear hk5 hk6 hp5 hkE hq5 hG hr5 hrep hokb
    go_wp2_with fail
    generalize w5.setCell ⟨b + 1, 2, none⟩ (.slice va vn vc) = w6 at *
    refine (skip_any b ⟨s, j, 0, g1⟩ 36 (by omega) _ hq6 hjle hs).mono ?_
    rintro e w7 ⟨rfl, hq7, hk7⟩
    obtain ⟨k, hk, hkle, htk⟩ : ∃ k, (if at' s j = 36 then j + 1 else j) = k ∧ k ≤ s.size ∧ QS.took ⟨s, j, 0, g1⟩ 36 = ⟨s, k, 0, g1⟩ := by
      by_cases h : at' s j = 36
      · rw [if_pos h]
        exact ⟨_, rfl, at'_nn (by omega), (took_yes (p := ⟨s, j, 0, g1⟩) h).2⟩
      · rw [if_neg h]
        exact ⟨_, rfl, hjle, (took_no (p := ⟨s, j, 0, g1⟩) h).2⟩
    have hen : decide (QS.cur ⟨s, j, 0, g1⟩ = 36) = decide (at' s j = 36) := rfl
    rw [hen]
    rw [htk] at hq7
    have HP : Hid (PatR s (if 0 ≤ at' s k then .bad k else .ok ⟨bg, decide (at' s j = 36), x, g1⟩ k)) := by
      refine ⟨_, HG.out, ?_⟩
      rw [PatE_ok, hk, hbg]
    generalize decide (at' s j = 36) = en at *
    have hp7 := hp6.keep hk7 (by simp)
    have hr7 := hr6.keep hk7 (by simp; omega)
    have hrep7 := hrep6.keep hk7 (by intro y hy; simp; omega)
    have hkG : Keeps [] w w7 := hkF.fresh hk7 (by intro x hx; simp at hx; omega)
    clear m0 m1 m2 m3 n0 n1 n2 n3
    obtain ⟨m0, m1, m2, m3, n0, n1, n2, n3⟩ := hp7.main
    have hk8 : Keeps [b + 1] w7 (w7.setCell ⟨b + 1, 1, none⟩ (.bool en)) := (Keeps.refl [b + 1] w7).setCell (by simp) _
    have hp8 := hp7.set1 (.bool en)
    have hq8 := hq7.keep hk8 (by simp)
    have hr8 := hr7.keep hk8 (by simp; omega)
    have hrep8 := hrep7.keep hk8 (by intro y hy; simp; omega)
    have hkH : Keeps [] w (w7.setCell ⟨b + 1, 1, none⟩ (.bool en)) := hkG.fresh hk8 (by intro x hx; simp at hx; omega)
    clear hk7 hk8 hq7 hp7 hkG hkF hr6 hr7 hp6 hrep6 hrep7 hk htk hen hq6 HG
    go_wp2_with fail
    generalize w7.setCell ⟨b + 1, 1, none⟩ (.bool en) = w8 at *
    by_cases hkb : k < s.size
    · refine (end_bad b ⟨s, k, 0, g1⟩ _ hq8 hkb hs).mono ?_
      rintro e w9 ⟨rfl, hk9⟩
      simp only [fault]
      have h := HP.out
      have h0 : 0 ≤ at' s k := by rw [at'_lt hkb]; omega
      rw [if_pos h0] at h
      exact ⟨rfl, _, h, hkH.trans hk9, rfl⟩
    · have hke : k = s.size := by omega
      have h := HP.out
      have h0 : ¬ 0 ≤ at' s k := by rw [at'_ge (by omega)]; omega
      rw [if_neg h0] at h
      have HQ' : Hid (PatR s (.ok ⟨bg, en, x, g1⟩ k)) := h
      clear h h0 HP
      refine (end_ok b ⟨s, k, 0, g1⟩ _ hq8 hke).mono ?_
      rintro e w9 ⟨rfl, hq9, hk9⟩
      have hp9 := hp8.keep hk9 (by simp)
      have hr9 := hr8.keep hk9 (by simp)
      have hrep9 := hrep8.keep hk9 (by simp)
      have hkI := hkH.trans hk9
      clear m0 m1 m2 m3 n0 n1 n2 n3
      obtain ⟨m0, m1, m2, m3, n0, n1, n2, n3⟩ := hp9.main
      obtain ⟨_, _, d2, d3, _, f2, f3⟩ := hq9.main
      have hpA := hp9.set3 (.int .i64 (g1 : Int))
      have hkA : Keeps [b + 1] w9 (w9.setCell ⟨b + 1, 3, none⟩ (.int .i64 (g1 : Int))) := (Keeps.refl [b + 1] w9).setCell (by simp) _
      have hrA := hr9.keep hkA (by simp; omega)
      have hrepA := hrep9.keep hkA (by intro y hy; simp; omega)
      have hkJ : Keeps [] w (w9.setCell ⟨b + 1, 3, none⟩ (.int .i64 (g1 : Int))) := hkI.fresh hkA (by intro x hx; simp at hx; omega)
      clear hk9 hp9 hr9 hrep9 hkI hkH hrep8 hr8 hp8 hq8
      go_wp2_with (first | (refine wpList_load_row rfl 70 _ rfl (b + 1) rfl _ _ _ _ hpA Tryz.underlying70 rfl infoPat ?_) | (refine wpList_store_row rfl 70 _ _ rfl g _ rfl rfl _ _ hrA infoPat rfl (four_one rfl) ?_))
      refine bodyPost_ret (results_cell_row rfl _ _ g _ _ _ _ rfl (setRow_heap _ _ _ _ _ _ hrA) Tryz.underlying70 rfl infoPat) rfl ?_
      have hkR := (Keeps.refl [g] (w9.setCell ⟨b + 1, 3, none⟩ (.int .i64 (g1 : Int)))).setRow (g := g) (by simp) #[.bool bg, .bool en, .slice va vn vc, .int .i64 (g1 : Int)]
      exact ⟨_, HQ'.out, hkJ.setRow (Or.inr (by omega)) _, _, rfl, rfl, (hrepA.keep hkR (by intro y hy; simp; omega)).mono (by intro y hy _; omega)⟩
end Go.Proofs.YtnfojonmohijpaaGreatDoor
