/-
  DERIVED. The contract of the program's Match. Condition: the variable classNames holds what it is laid with.
-/
import Derived.Test.YtnfojonmohijpaaGreatDoorJUN
import Derived.Test.YtnfojonmohijpaaGreatDoorJOH
import Derived.Test.YtnfojonmohijpaaGreatDoorJOF
import Derived.Test.YtnfojonmohijpaaGreatDoorJUG
import Derived.Test.YtnfojonmohijpaaGreatDoorJTF0
import Derived.Test.YtnfojonmohijpaaGreatDoorJMA
import Derived.Test.YtnfojonmohijpaaGreatDoorJUJ
set_option linter.unusedSimpArgs false
set_option linter.unusedVariables false
namespace Go.Proofs.YtnfojonmohijpaaGreatDoor
open Go.RowKit
theorem infoMat7 (a b c d e f g : Value) : (Tryz.prog.info? 80).map (·.size) = some [a, b, c, d, e, f, g].length := by kernel_rfl
set_option maxRecDepth 100000 in
set_option maxHeartbeats 2000000 in
theorem ymatch_any (p s : ByteArray) (w : World) (hgn : GN w) :
    Calls Tryz.prog 17 #[.string p, .string s] w fun e w' => ∃ t b n, e = .returned (.tuple #[.string (nmB t), .bool b, .int .i64 n]) ∧ MatchA p s t b n ∧ Keeps [] w w' := by
 go_enter Tryz.func17, Tryz.ntmps17
 go_wp2_with fail
 refine (readPattern_prog p w hgn).mono ?_
 rintro e w1 ⟨hk1, hc1⟩
 have hz0 : P4 (w1.alloc (.cells #[.bool false, .bool false, .slice none 0 0, .int .i64 0] 70)) w1.heap.size (.bool false) (.bool false) (.slice none 0 0) (.int .i64 0) := heap_alloc_new w1 _
 have hk2 : Keeps [] w1 (w1.alloc (.cells #[.bool false, .bool false, .slice none 0 0, .int .i64 0] 70)) := (Keeps.refl [] w1).alloc _
 have hC : (∃ x y : Int, y ≠ 0 ∧ e = .returned (.tuple #[.agg #[.bool false, .bool false, .slice none 0 0, .int .i64 0], .int .i64 x, .int .i64 y]) ∧ MatchA p s [] false y) ∨
     ∃ W j v, p.size ≤ 60 ∧ PatR p (.ok W j) ∧ e = .returned (.tuple #[.agg #[.bool W.bg, .bool W.en, v, .int .i64 W.g], .int .i64 0, .int .i64 0]) ∧ v.oneCell' = true ∧ Rep w1 (fun g => w.heap.size ≤ g) .ways W.x [v] := by
  rcases hc1 with ⟨hl, he⟩ | ⟨hs, q, hq, h⟩
  ·exact Or.inl ⟨0, 1, by decide, he, Or.inl ⟨hl, rfl, rfl, rfl⟩⟩
  ·cases q with
   | bad j => exact Or.inl ⟨j, 2, by decide, h, Or.inr ⟨hs, .bad j, hq, rfl, rfl, rfl⟩⟩
   | ok W j =>
    obtain ⟨v, he, hv, hrep⟩ := h
    exact Or.inr ⟨W, j, v, hs, hq, he, hv, hrep⟩
 clear hc1
 rcases hC with ⟨x, y, hy0, rfl, hp⟩ | ⟨W, j, v, hs, hq, rfl, hv, hrep⟩
 ·have o4 := four_one (x := false) (y := false) (n := 0) (v := .slice none 0 0) rfl
  have hk3 : Keeps [] w1 ((w1.alloc (.cells #[.bool false, .bool false, .slice none 0 0, .int .i64 0] 70)).setRow w1.heap.size #[.bool false, .bool false, .slice none 0 0, .int .i64 0]) := hk2.setRow (Or.inr (Nat.le_refl _)) _
  have hkA := hk1.trans hk3
  have HP : Hid (MatchA p s [] false y) := hp
  clear hk2 hk3 hp hk1
  go_wp2_with (first | (refine wpList_store_row rfl 70 _ _ rfl w1.heap.size _ rfl rfl _ _ hz0 infoPat rfl o4 ?_; generalize (w1.alloc (.cells #[.bool false, .bool false, .slice none 0 0, .int .i64 0] 70)).setRow w1.heap.size #[.bool false, .bool false, .slice none 0 0, .int .i64 0] = W3 at *))
  go_ret3
  exact ⟨[], false, y, rfl, HP.out, hkA⟩
 have hsz := whole_sz hs hq
 obtain ⟨hfair, hthin, _⟩ := hq.good hs
 have o4 := four_one (x := W.bg) (y := W.en) (n := (W.g : Int)) hv
 have hk3 : Keeps [] w1 ((w1.alloc (.cells #[.bool false, .bool false, .slice none 0 0, .int .i64 0] 70)).setRow w1.heap.size #[.bool W.bg, .bool W.en, v, .int .i64 (W.g : Int)]) := hk2.setRow (Or.inr (Nat.le_refl _)) _
 have hrow : ((w1.alloc (.cells #[.bool false, .bool false, .slice none 0 0, .int .i64 0] 70)).setRow w1.heap.size #[.bool W.bg, .bool W.en, v, .int .i64 (W.g : Int)]).heap[w1.heap.size]? = some (.cells #[.bool W.bg, .bool W.en, v, .int .i64 (W.g : Int)] 70 (0, 0)) := setRow_heap _ _ _ _ _ _ hz0
 have hc3 : ∀ t u, [Value.bool W.bg, .bool W.en, v, .int .i64 (W.g : Int)][t]? = some u → ((w1.alloc (.cells #[.bool false, .bool false, .slice none 0 0, .int .i64 0] 70)).setRow w1.heap.size #[.bool W.bg, .bool W.en, v, .int .i64 (W.g : Int)]).cell? ⟨w1.heap.size, 0 + t, none⟩ = some u := by
  intro t u hu
  rw [Lib.cell_of_heap hrow, Nat.zero_add]
  simpa using hu
 have hr3 := hrep.keep hk3 (by simp)
 have hkA := hk1.trans hk3
 have hi4 := infoPat4 (.bool W.bg) (.bool W.en) v (.int .i64 (W.g : Int))
 have HQ : Hid (PatR p (.ok W j)) := hq
 have HPS : Hid (p.size ≤ 60) := hs
 clear hrep hq hgn hs hk1 hk2 hrow
 by_cases hT : s.size ≤ 100
 rotate_left
 ·have hT' : (100 : Int) < (s.size : Int) := by omega
  have HA : Hid (MatchA p s [] false 1) := Or.inr ⟨HPS.out, .ok W j, HQ.out, Or.inl ⟨by omega, rfl, rfl, rfl⟩⟩
  clear hT hr3 hc3
  go_wp2_with (first | (refine wpList_store_row rfl 70 _ _ rfl w1.heap.size _ rfl rfl _ _ hz0 infoPat rfl o4 ?_; generalize (w1.alloc (.cells #[.bool false, .bool false, .slice none 0 0, .int .i64 0] 70)).setRow w1.heap.size #[.bool W.bg, .bool W.en, v, .int .i64 (W.g : Int)] = W3 at *))
  go_ret3
  exact ⟨[], false, 1, rfl, HA.out, hkA⟩
 have HT : Hid (s.size ≤ 100) := hT
 have hT' : ¬ (100 : Int) < (s.size : Int) := by omega
 clear hT
 go_wp2_with (first | (refine wpList_store_row rfl 70 _ _ rfl w1.heap.size _ rfl rfl _ _ hz0 infoPat rfl o4 ?_; generalize (w1.alloc (.cells #[.bool false, .bool false, .slice none 0 0, .int .i64 0] 70)).setRow w1.heap.size #[.bool W.bg, .bool W.en, v, .int .i64 (W.g : Int)] = W3 at *) | (refine wpList_load_at rfl 70 _ rfl w1.heap.size 0 rfl [.bool W.bg, .bool W.en, v, .int .i64 (W.g : Int)] _ hc3 Tryz.underlying70 rfl hi4 ?_))
 refine (matNew_any s (s.size + 1) rfl HT.out W v _ W3 hr3 hsz hfair).mono ?_
 rintro e w4 ⟨a, c, rfl, hm, hk4⟩
 have hkB := hkA.trans hk4
 have hal := hm.form.1
 have o7 : (#[.bool W.bg, .bool W.en, v, .int .i64 (W.g : Int), .string s, a, c] : Array Value).all (·.oneCell') = true := all7 rfl rfl hv rfl rfl (hal a (by simp)) (hal c (by simp))
 have hz4 : (w4.alloc (.cells #[.bool false, .bool false, .slice none 0 0, .int .i64 0, .string ⟨#[]⟩, .slice none 0 0, .slice none 0 0] 80)).heap[w4.heap.size]? = some (.cells #[.bool false, .bool false, .slice none 0 0, .int .i64 0, .string ⟨#[]⟩, .slice none 0 0, .slice none 0 0] 80 (0, 0)) := heap_alloc_new w4 _
 have hk5 : Keeps [] w4 ((w4.alloc (.cells #[.bool false, .bool false, .slice none 0 0, .int .i64 0, .string ⟨#[]⟩, .slice none 0 0, .slice none 0 0] 80)).setRow w4.heap.size #[.bool W.bg, .bool W.en, v, .int .i64 (W.g : Int), .string s, a, c]) := ((Keeps.refl [] w4).alloc _).setRow (Or.inr (Nat.le_refl _)) _
 have hrow4 : ((w4.alloc (.cells #[.bool false, .bool false, .slice none 0 0, .int .i64 0, .string ⟨#[]⟩, .slice none 0 0, .slice none 0 0] 80)).setRow w4.heap.size #[.bool W.bg, .bool W.en, v, .int .i64 (W.g : Int), .string s, a, c]).heap[w4.heap.size]? = some (.cells #[.bool W.bg, .bool W.en, v, .int .i64 (W.g : Int), .string s, a, c] 80 (0, 0)) := setRow_heap _ _ _ _ _ _ hz4
 have hm5 := hm.keep hk5 (by simp)
 have hkC := hkB.trans hk5
 have hi7 := infoMat7 (.bool W.bg) (.bool W.en) v (.int .i64 (W.g : Int)) (.string s) a c
 have hin7 := info7 (.bool W.bg) (.bool W.en) v (.int .i64 (W.g : Int)) (.string s) a c
 have hg4 : w4.heap.size < ((w4.alloc (.cells #[.bool false, .bool false, .slice none 0 0, .int .i64 0, .string ⟨#[]⟩, .slice none 0 0, .slice none 0 0] 80)).setRow w4.heap.size #[.bool W.bg, .bool W.en, v, .int .i64 (W.g : Int), .string s, a, c]).heap.size := (Array.getElem?_eq_some_iff.1 hrow4).1
 have cM : ∀ X : World, X.heap[w4.heap.size]? = some (.cells #[.bool W.bg, .bool W.en, v, .int .i64 (W.g : Int), .string s, a, c] 80 (0, 0)) → ∀ t u, ([.bool W.bg, .bool W.en, v, .int .i64 (W.g : Int), .string s, a, c] : List Value)[t]? = some u → X.cell? ⟨w4.heap.size, 0 + t, none⟩ = some u := by
  intro X hX t u hu
  rw [Lib.cell_of_heap hX, Nat.zero_add]
  simpa using hu
 have hc5 := cM _ hrow4
 clear hr3 hc3 hk3 hz0 hm hk4 hkA hkB hk5 hi4 o4
 simp only [mat]
 go_wp2_with (first | (refine wpList_store_row rfl 80 _ _ rfl w4.heap.size _ rfl rfl _ _ hz4 hin7 rfl o7 ?_; generalize ((w4.alloc (.cells #[.bool false, .bool false, .slice none 0 0, .int .i64 0, .string ⟨#[]⟩, .slice none 0 0, .slice none 0 0] 80)).setRow w4.heap.size #[.bool W.bg, .bool W.en, v, .int .i64 (W.g : Int), .string s, a, c]) = W5 at *) | (refine wpList_load_at rfl 80 _ rfl w4.heap.size 0 rfl [.bool W.bg, .bool W.en, v, .int .i64 (W.g : Int), .string s, a, c] _ hc5 Tryz.underlying80 rfl hi7 ?_))
 refine (show Calls Tryz.prog 40 #[.agg #[.bool W.bg, .bool W.en, v, .int .i64 (W.g : Int), .string s, a, c], .int .i64 0, .int .i64 s.size] W5 _ from canM_any s (s.size + 1) rfl HT.out W v a c _ W5 hm5 0 s.size (Nat.zero_le _) (Nat.le_refl _)).mono ?_
 rintro e w6 ⟨b, rfl, hb, hk6⟩
 have hkD := hkC.trans hk6
 have hm6 := hm5.keep hk6 (by simp)
 have hc6 := cM _ ((hk6.block _ hg4 (by simp)).trans hrow4)
 clear hm5 hkC hc5 hk6 hrow4 hg4 cM hz4
 by_cases hbt : b = true
 rotate_left
 ·obtain rfl : b = false := by simpa using hbt
  have HA : Hid (MatchA p s [] false 0) := Or.inr ⟨HPS.out, .ok W j, HQ.out, Or.inr ⟨HT.out, Or.inl ⟨fun h => hbt (hb.2 h), rfl, rfl, rfl⟩⟩⟩
  clear hb hbt hm6 hc6
  go_wp2_with fail
  go_ret3
  exact ⟨[], false, 0, rfl, HA.out, hkD⟩
 have hmt := hb.1 hbt
 have HM : Hid (Mt s W.x 0 s.size) := hmt
 subst hbt
 clear hb
 go_wp2_with (first | (refine wpList_load_at rfl 80 _ rfl w4.heap.size 0 rfl [.bool W.bg, .bool W.en, v, .int .i64 (W.g : Int), .string s, a, c] _ hc6 Tryz.underlying80 rfl hi7 ?_))
 refine (show Calls Tryz.prog 42 #[.agg #[.bool W.bg, .bool W.en, v, .int .i64 (W.g : Int), .string s, a, c], .int .i64 0, .int .i64 s.size] w6 _ from treeM_any s (s.size + 1) rfl HT.out W v a c hv _ w6 hm6 hsz 0 s.size (Nat.zero_le _) (Nat.le_refl _) hmt).mono ?_
 rintro e w7 ⟨t, cs, rfl, htv, htt, hk7⟩
 have hkE := hkD.trans hk7
 have hth := htt.thin hthin
 have HR : Hid (TR s (.node W.x) 0 s.size t.text (t.evs 0)) := (htt.toTR hmt).1
 clear hm6 hc6 hkD hk7 htt hmt
 go_wp2_with fail
 refine (tell_any t hth _ cs w7 htv).mono ?_
 rintro e w8 ⟨hte, hk8⟩
 have hkF := hkE.trans hk8
 clear hkE hk8 htv hth
 rcases hte with ⟨hl, rfl⟩ | ⟨hl, rfl⟩
 ·have HA : Hid (MatchA p s t.text true 0) := Or.inr ⟨HPS.out, .ok W j, HQ.out, Or.inr ⟨HT.out, Or.inr ⟨HM.out, _, _, HR.out, Or.inl ⟨hl, rfl, rfl, rfl⟩⟩⟩⟩
  clear hl
  go_wp2_with fail
  go_ret3
  exact ⟨_, true, 0, rfl, HA.out, hkF⟩
 ·have HA : Hid (MatchA p s [] false 1) := Or.inr ⟨HPS.out, .ok W j, HQ.out, Or.inr ⟨HT.out, Or.inr ⟨HM.out, _, _, HR.out, Or.inr ⟨hl, rfl, rfl, rfl⟩⟩⟩⟩
  clear hl
  go_wp2_with fail
  go_ret3
  exact ⟨_, false, 1, rfl, HA.out, hkF⟩
end Go.Proofs.YtnfojonmohijpaaGreatDoor
namespace Go.Proofs.YtnfojonmohijpaaGreatDoor
def st (c : Int) : Pat := .set (stretch c c)
theorem st_yes {s : ByteArray} {c : Int} {i : Nat} (h : i < s.size ∧ stretch c c (at' s i).toNat = true) : Mt s (st c) i (i + 1) := ⟨h.1, h.2, rfl⟩
theorem st_no {s : ByteArray} {c : Int} {i j : Nat} (h : stretch c c (at' s i).toNat = false) : ¬ Mt s (st c) i j := fun hm => by have := hm.2.1; rw [h] at this; cases this
theorem TR.cast {s : ByteArray} {J : Job} {i j : Nat} {t u : List UInt8} {ev : List (Nat × Nat × Nat)} (h : TR s J i j t ev) (e : t = u) : TR s J i j u ev := e ▸ h
end Go.Proofs.YtnfojonmohijpaaGreatDoor
namespace Go.Proofs.YtnfojonmohijpaaGreatDoor
open Go.RowKit
theorem Sg.lit {c : UInt8} (h1 : (c.toNat : Int) ≠ 40 ∧ (c.toNat : Int) ≠ 91 ∧ (c.toNat : Int) ≠ 46 ∧ (c.toNat : Int) ≠ 92) (h2 : ¬ notC (c.toNat : Int)) : Sg [c] (.set (stretch (c.toNat : Int) (c.toNat : Int))) := by
 refine ⟨⟨c, [], rfl, ?_, ?_⟩, ?_⟩
 ·unfold notC at h2; unfold noRep; omega
 ·unfold notC at h2; unfold stopC; omega
 ·intro s i d g hl
  have h := (Lies.cons.1 hl).1
  have a := G.lit (s := s) d g i (by omega) (by rw [h]; exact h1.1) (by rw [h]; exact h1.2.1) (by rw [h]; exact h1.2.2.1) (by rw [h]; exact h1.2.2.2) (by rw [h]; exact h2)
  rw [h] at a
  exact a
theorem sg97 : Sg [97] (st 97) := Sg.lit (c := 97) (by decide) (by unfold notC; decide)
def wP : ByteArray := ⟨#[97, 42]⟩
def wT : ByteArray := ⟨#[97, 97]⟩
def wX : Pat := .wone (.pcons (.rep 0 (-1) (st 97)) .pnil)
theorem w_read : PatR wP (.ok ⟨false, false, wX, 0⟩ 2) := (Ws.one (Wy.single sg97 Rx.star)).whole (by decide) (by decide) (by decide) wP rfl
theorem w_at : stretch 97 97 (at' wT 0).toNat = true ∧ stretch 97 97 (at' wT 1).toNat = true ∧ wT.size = 2 := by decide
theorem w_match : MatchA wP wT [40, 114, 32, 98, 54, 49, 32, 98, 54, 49, 41] true 0 := by
 obtain ⟨b0, b1, hs⟩ := w_at
 have m0 : Mt wT (st 97) 0 1 := st_yes ⟨by rw [hs]; decide, b0⟩
 have m1 : Mt wT (st 97) 1 2 := st_yes ⟨by rw [hs]; decide, b1⟩
 have t1 : TR wT (.times (0 - 1) (less (-1)) (st 97)) 1 2 _ _ := .tgo _ _ (st 97) 1 2 2 _ _ _ _ (Or.inl (by decide)) ⟨by decide, by decide, fun _ => ⟨m1, 0, by decide, Or.inl (by decide), rfl⟩, fun m h1 h2 _ => by omega⟩ (.byte _ 1 2) (.tend _ _ _ 2 2 (by decide))
 have t0 : TR wT (.times 0 (-1) (st 97)) 0 2 _ _ := .tgo 0 (-1) (st 97) 0 2 1 _ _ _ _ (Or.inl (by decide)) ⟨by decide, by decide, fun _ => ⟨m0, 1, by decide, Or.inl (by decide), 2, m1, rfl⟩, fun m h1 h2 hm => by have := hm.1.2.2; omega⟩ (.byte _ 0 1) t1
 have z : TR wT (.node wX) 0 2 _ _ := .wone _ 0 2 _ _ (.lone _ 0 2 _ _ (.rep 0 (-1) _ 0 2 _ _ t0))
 have hm : Mt wT wX 0 2 := ⟨2, ⟨2, by decide, Or.inl (by decide), 1, m0, 2, m1, rfl⟩, rfl⟩
 refine Or.inr ⟨by decide, _, w_read, Or.inr ⟨by decide, Or.inr ⟨by rw [hs]; exact hm, _, _, by rw [hs]; exact z.cast (u := [40, 114, 32, 98, 54, 49, 32, 98, 54, 49, 41]) (by decide +kernel), Or.inl ⟨by decide, rfl, rfl, rfl⟩⟩⟩⟩
def vP : ByteArray := ⟨#[97]⟩
def vT : ByteArray := ⟨#[98, 97]⟩
def vX : Pat := .wone (.pcons (st 97) .pnil)
theorem v_read : PatR vP (.ok ⟨false, false, vX, 0⟩ 1) := (Ws.one (Wy.single sg97 Rx.none)).whole (by decide) (by decide) (by decide) vP rfl
theorem v_at : stretch 97 97 (at' vT 0).toNat = false ∧ stretch 97 97 (at' vT 1).toNat = true ∧ vT.size = 2 := by decide
theorem v_found {ans : Option (List Int)} {n : Int} (h : SearchA vP vT 0 ans n) : ans = some [1, 2] ∧ n = 0 := by
 obtain ⟨b0, b1, hs⟩ := v_at
 have hps : vP.size ≤ 60 := by decide
 have m1 : Mt vT vX 1 2 := ⟨2, st_yes ⟨by rw [hs]; decide, b1⟩, rfl⟩
 have hF : FirstAt vT ⟨false, false, vX, 0⟩ 0 1 2 := by
  refine ⟨by decide, by decide, by rw [hs]; decide, ⟨m1, fun h => (Bool.noConfusion h), fun h => (Bool.noConfusion h)⟩, ?_, fun j' h1 h2 => by omega⟩
  intro i' j' _ h2 _ _ hok
  have e : i' = 0 := by omega
  subst e
  obtain ⟨m, hm, _⟩ := hok.1
  exact st_no b0 hm
 rcases h with ⟨h, _⟩ | ⟨_, q, hq, h⟩
 ·omega
 ·cases hq.det v_read
  rcases h with ⟨h, _⟩ | ⟨_, ⟨h, _⟩ | ⟨_, _, h, rfl⟩⟩
  ·omega
  ·omega
  ·rcases h with ⟨_, h⟩ | ⟨i, j, t, ev, hf, _, h⟩
   ·exact absurd hF.2.2.2.1 (h 1 2 (by decide) (by decide) (by rw [hs]; decide))
   ·obtain ⟨rfl, rfl⟩ := hF.one hf
    refine ⟨?_, rfl⟩
    rw [h]
    have e : evs (List.replicate (2 * 0) (-1)) ev = [] := List.length_eq_zero_iff.1 (by rw [evs_len]; rfl)
    exact congrArg some (by rw [e]; rfl)
set_option maxRecDepth 100000 in
set_option maxHeartbeats 2000000 in
theorem awake_any (w : World) (hgn : GN w) : Calls Tryz.prog 30 #[] w fun e w' => e = .returned (.bool true) ∧ Keeps [] w w' := by
 go_enter Tryz.func30, Tryz.ntmps30
 go_wp2_with fail
 refine (ymatch_any wP wT w hgn).mono ?_
 rintro e w1 ⟨t, b, n, rfl, h1, hk1⟩
 obtain ⟨rfl, rfl, rfl⟩ := h1.det w_match
 have hgn1 := hgn.keep hk1 (by simp)
 have hx : nmB [40, 114, 32, 98, 54, 49, 32, 98, 54, 49, 41] = ⟨#[40, 114, 32, 98, 54, 49, 32, 98, 54, 49, 41]⟩ := rfl
 rw [hx]
 clear h1 hgn
 go_wp2_with fail
 refine (ysearch_any vP vT 0 w1 hgn1).mono ?_
 rintro e w2 ⟨r, ans, n2, rfl, h2, hI, hk2⟩
 obtain ⟨rfl, rfl⟩ := v_found h2
 have hrow : w2.ownsRow w1.heap.size 3 1 r 2 (spW [1, 2]) := hI
 obtain ⟨g, cap, rfl, _, _⟩ := World.ownsRow.form hrow (by decide)
 have c0 : w2.cell? ⟨g, 0, none⟩ = some (.int .i64 1) := (World.ownsRow.cellAt hrow 0 (by decide)).trans rfl
 have c1 : w2.cell? ⟨g, 1, none⟩ = some (.int .i64 2) := (World.ownsRow.cellAt hrow 1 (by decide)).trans rfl
 have hk := hk1.trans hk2
 clear h2 hI hrow hk1 hk2 hgn1
 go_wp2_with fail
 go_ret
 exact ⟨rfl, hk⟩
end Go.Proofs.YtnfojonmohijpaaGreatDoor
namespace Go.Proofs.YtnfojonmohijpaaGreatDoor
theorem bytes2 {s : ByteArray} {i : Nat} {a b : UInt8} (h : Lies s i [a, b]) : at' s i = (a.toNat : Int) ∧ at' s (i + 1) = (b.toNat : Int) := by
 obtain ⟨h0, h⟩ := Lies.cons.1 h
 obtain ⟨h1, _⟩ := Lies.cons.1 h
 exact ⟨h0, h1⟩
theorem bytes4 {s : ByteArray} {i : Nat} {a b c d : UInt8} (h : Lies s i [a, b, c, d]) : at' s i = (a.toNat : Int) ∧ at' s (i + 1) = (b.toNat : Int) ∧ at' s (i + 2) = (c.toNat : Int) ∧ at' s (i + 3) = (d.toNat : Int) := by
 obtain ⟨h0, h⟩ := Lies.cons.1 h
 obtain ⟨h1, h⟩ := Lies.cons.1 h
 obtain ⟨h2, h⟩ := Lies.cons.1 h
 obtain ⟨h3, _⟩ := Lies.cons.1 h
 exact ⟨h0, h1, h2, h3⟩
theorem sgDot : Sg [46] (.set fun _ => true) := by
 refine ⟨⟨46, [], rfl, by unfold noRep; decide, by unfold stopC; decide⟩, fun s i d g hl => ?_⟩
 exact G.dot d g i (Lies.cons.1 hl).1
theorem sgEsc : Sg [92, 46] (.set (stretch 46 46)) := by
 refine ⟨⟨92, [46], rfl, by unfold noRep; decide, by unfold stopC; decide⟩, fun s i d g hl => ?_⟩
 obtain ⟨h0, h1⟩ := bytes2 hl
 have h1' : at' s (i + 1) = 46 := h1
 have e : escS s 0 (i + 1) = .ok 46 (i + 2) := by unfold escS; rw [h1']; simp [alnB, digB]
 have := G.esc (s := s) d g i h0
 rw [e] at this
 exact this
theorem sgHex : Sg [92, 120, 54, 49] (.set (stretch 97 97)) := by
 refine ⟨⟨92, [120, 54, 49], rfl, by unfold noRep; decide, by unfold stopC; decide⟩, fun s i d g hl => ?_⟩
 obtain ⟨h0, h1, h2, h3⟩ := bytes4 hl
 have h1' : at' s (i + 1) = 120 := h1
 have h2' : at' s (i + 1 + 1) = 54 := h2
 have h3' : at' s (i + 1 + 1 + 1) = 49 := h3
 have e : escS s 0 (i + 1) = .ok 97 (i + 4) := by
  rw [escS_x h1']
  unfold hexPS
  have e1 : hexS s 0 false 0 (i + 1 + 1) = .ok 6 (i + 1 + 1 + 1) := by unfold hexS; rw [h2', if_neg (by decide), show hexd 54 = 6 by decide]
  rw [e1]
  simp only [R.bind]
  have e2 : hexS s (16 * 6) true 0 (i + 1 + 1 + 1) = .ok 1 (i + 1 + 1 + 1 + 1) := by unfold hexS; rw [h3', if_neg (by decide), show hexd 49 = 1 by decide]
  rw [e2]
  rfl
 have := G.esc (s := s) d g i h0
 rw [e] at this
 exact this
theorem rng1 {s : ByteArray} {i : Nat} {c : Int} (h : at' s i = c) (hc : 0 ≤ c ∧ c ≠ 91 ∧ c ≠ 92 ∧ c ≠ 93 ∧ c ≠ 45 ∧ c ≠ 94) (hn : at' s (i + 1) ≠ 45) : rangeS s i = .ok (stretch c c) (i + 1) := by
 have e : innS s 0 i = .ok c (i + 1) := by
  unfold innS
  rw [h, if_neg hc.2.2.1, if_neg (by omega)]
 unfold rangeS
 rw [h, if_neg hc.2.1, e]
 simp only [R.bind]
 rw [if_neg hn]
theorem sgSet : Sg [91, 97, 98, 93] (.set fun n => stretch 97 97 n || stretch 98 98 n) := by
 refine ⟨⟨91, [97, 98, 93], rfl, by unfold noRep; decide, by unfold stopC; decide⟩, fun s i d g hl => ?_⟩
 obtain ⟨h0, h1, h2, h3⟩ := bytes4 hl
 have h1' : at' s (i + 1) = 97 := h1
 have h2' : at' s (i + 1 + 1) = 98 := h2
 have h3' : at' s (i + 1 + 1 + 1) = 93 := h3
 have r1 := rng1 h1' (by decide) (by rw [h2']; decide)
 have r2 := rng1 h2' (by decide) (by rw [h3']; decide)
 exact G.set d g i (.ok _ (i + 4)) h0 (Or.inr ⟨by rw [h1']; decide, SetU.go _ (i + 1) (i + 1 + 1) _ r1 (SetL.more _ _ _ _ _ (by rw [h2']; decide) r2 (SetL.done _ _ h3'))⟩)
theorem sgNot : Sg [91, 94, 97, 93] (.set fun n => !stretch 97 97 n) := by
 refine ⟨⟨91, [94, 97, 93], rfl, by unfold noRep; decide, by unfold stopC; decide⟩, fun s i d g hl => ?_⟩
 obtain ⟨h0, h1, h2, h3⟩ := bytes4 hl
 have h1' : at' s (i + 1) = 94 := h1
 have h2' : at' s (i + 1 + 1) = 97 := h2
 have h3' : at' s (i + 1 + 1 + 1) = 93 := h3
 have r1 := rng1 h2' (by decide) (by rw [h3']; decide)
 exact G.set d g i (.ok _ (i + 4)) h0 (Or.inl ⟨h1', _, SetU.go _ (i + 1 + 1) (i + 1 + 1 + 1) _ r1 (SetL.done _ _ h3'), rfl⟩)
theorem sgCls : Sg [91, 91, 58, 108, 111, 119, 101, 114, 58, 93, 93] (.set fun n => clsB 1 n) := by
 refine ⟨⟨91, [91, 58, 108, 111, 119, 101, 114, 58, 93, 93], rfl, by unfold noRep; decide, by unfold stopC; decide⟩, fun s i d g hl => ?_⟩
 obtain ⟨h0, hl⟩ := Lies.cons.1 hl
 obtain ⟨h1, hl⟩ := Lies.cons.1 hl
 obtain ⟨h2, hl⟩ := Lies.cons.1 hl
 obtain ⟨h3, hl⟩ := Lies.cons.1 hl
 obtain ⟨h4, hl⟩ := Lies.cons.1 hl
 obtain ⟨h5, hl⟩ := Lies.cons.1 hl
 obtain ⟨h6, hl⟩ := Lies.cons.1 hl
 obtain ⟨h7, hl⟩ := Lies.cons.1 hl
 obtain ⟨h8, hl⟩ := Lies.cons.1 hl
 obtain ⟨h9, hl⟩ := Lies.cons.1 hl
 obtain ⟨h10, _⟩ := Lies.cons.1 hl
 have g3 := lies_get h3
 have g4 := lies_get h4
 have g5 := lies_get h5
 have g6 := lies_get h6
 have g7 := lies_get h7
 have c5 : clsS s 1 [108, 111, 119, 101, 114] (i + 1 + 1 + 1 + 1 + 1 + 1 + 1 + 1) = .ok 1 (i + 1 + 1 + 1 + 1 + 1 + 1 + 1 + 1) := by
  rw [clsS, show names.findIdx? (· = [108, 111, 119, 101, 114]) = some 1 by decide]
 have step : ∀ (f : Nat) (w : List UInt8) (c : UInt8) (j : Nat), at' s j = (c.toNat : Int) → names.findIdx? (· = w) = none → goesOn w (c.toNat : Int) = true → clsS s (f + 1) w j = clsS s f (w ++ [c]) (j + 1) := by
  intro f w c j h hn hg
  rw [clsS, hn, h, lies_get h]
  simp only [hg, if_true]
 have c0 : clsS s 6 [] (i + 1 + 1 + 1) = .ok 1 (i + 1 + 1 + 1 + 1 + 1 + 1 + 1 + 1) := by
  rw [step 5 [] 108 _ h3 (by decide) (by decide), step 4 _ 111 _ h4 (by decide) (by decide), step 3 _ 119 _ h5 (by decide) (by decide), step 2 _ 101 _ h6 (by decide) (by decide), step 1 _ 114 _ h7 (by decide) (by decide)]
  exact c5
 have h1' : at' s (i + 1) = 91 := h1
 have h2' : at' s (i + 1 + 1) = 58 := h2
 have h8' : at' s (i + 1 + 1 + 1 + 1 + 1 + 1 + 1 + 1) = 58 := h8
 have h9' : at' s (i + 1 + 1 + 1 + 1 + 1 + 1 + 1 + 1 + 1) = 93 := h9
 have h10' : at' s (i + 1 + 1 + 1 + 1 + 1 + 1 + 1 + 1 + 1 + 1) = 93 := h10
 have ec : classS s (i + 1) = .ok 1 (i + 1 + 1 + 1 + 1 + 1 + 1 + 1 + 1 + 1 + 1) := by
  unfold classS needS
  rw [h2']
  simp only [if_true, R.bind]
  rw [c0]
  simp only [R.bind]
  rw [h8']
  simp only [if_true, R.bind]
  rw [h9']
  simp only [if_true, R.bind]
 have er : rangeS s (i + 1) = .ok (fun n => clsB 1 n) (i + 1 + 1 + 1 + 1 + 1 + 1 + 1 + 1 + 1 + 1) := by
  unfold rangeS
  rw [if_pos h1', ec]
  rfl
 exact G.set d g i (.ok _ (i + 11)) h0 (Or.inr ⟨by rw [h1']; decide, SetU.go _ (i + 1) _ _ er (SetL.done _ _ h10')⟩)
def sgT : Nat → List UInt8
 | 0 => [97]
 | 1 => [98]
 | 2 => [99]
 | 3 => [46]
 | 4 => [91, 97, 98, 93]
 | 5 => [91, 94, 97, 93]
 | 6 => [92, 120, 54, 49]
 | 7 => [91, 91, 58, 108, 111, 119, 101, 114, 58, 93, 93]
 | _ => [92, 46]
def sgF : Nat → Nat → Bool
 | 0 => stretch 97 97
 | 1 => stretch 98 98
 | 2 => stretch 99 99
 | 3 => fun _ => true
 | 4 => fun n => stretch 97 97 n || stretch 98 98 n
 | 5 => fun n => !stretch 97 97 n
 | 6 => stretch 97 97
 | 7 => fun n => clsB 1 n
 | _ => stretch 46 46
theorem sg_all : ∀ k, Sg (sgT k) (.set (sgF k))
 | 0 => sg97
 | 1 => Sg.lit (c := 98) (by decide) (by unfold notC; decide)
 | 2 => Sg.lit (c := 99) (by decide) (by unfold notC; decide)
 | 3 => sgDot
 | 4 => sgSet
 | 5 => sgNot
 | 6 => sgHex
 | 7 => sgCls
 | _ + 8 => sgEsc
end Go.Proofs.YtnfojonmohijpaaGreatDoor
namespace Go.Proofs.YtnfojonmohijpaaGreatDoor
def Pat.A : Pat → Nat
 | .set _ => 3
 | .grp _ x => x.A + 5
 | .rep mn _ x => (mn + 2) * (x.A + 1) + 3
 | .pnil => 1
 | .pcons x r => x.A + r.A + 4
 | .wone x => x.A + 6
 | .wcons x r => x.A + r.A + 6
theorem decT_len (p : Nat) : (decT p).length ≤ 2 := by unfold decT digT; split <;> simp
end Go.Proofs.YtnfojonmohijpaaGreatDoor
namespace Go.Proofs.YtnfojonmohijpaaGreatDoor
def Pat.sim : Pat → Pat → Prop
 | .set f, .set h => f = h
 | .grp _ x, .grp _ y => x.sim y
 | .rep a b x, .rep c d y => a = c ∧ b = d ∧ x.sim y
 | .pnil, .pnil => True
 | .pcons x r, .pcons y t => x.sim y ∧ r.sim t
 | .wone x, .wone y => x.sim y
 | .wcons x r, .wcons y t => x.sim y ∧ r.sim t
 | _, _ => False
theorem It.congr {R T : Nat → Nat → Prop} (h : ∀ i j, R i j ↔ T i j) : ∀ n i j, It R n i j ↔ It T n i j
 | 0, _, _ => Iff.rfl
 | n + 1, i, j => by
  constructor
  ·rintro ⟨m, a, b⟩; exact ⟨m, (h i m).1 a, (It.congr h n m j).1 b⟩
  ·rintro ⟨m, a, b⟩; exact ⟨m, (h i m).2 a, (It.congr h n m j).2 b⟩
theorem Tm.congr {R T : Nat → Nat → Prop} (h : ∀ i j, R i j ↔ T i j) {mn : Nat} {mx : Int} {i j : Nat} : Tm R mn mx i j ↔ Tm T mn mx i j := by
 constructor
 ·rintro ⟨n, a, b, d⟩; exact ⟨n, a, b, (It.congr h n i j).1 d⟩
 ·rintro ⟨n, a, b, d⟩; exact ⟨n, a, b, (It.congr h n i j).2 d⟩
def simL : List Pat → List Pat → Prop
 | [], [] => True
 | x :: l, y :: m => x.sim y ∧ simL l m
 | _, _ => False
def sumA : List Pat → Nat
 | [] => 0
 | x :: l => x.A + 4 + sumA l
structure Md (p : List UInt8) (f : Nat → List Pat) (n a b : Nat) : Prop where
 wy : Wy p f n a
 sim : ∀ g h, simL (f g) (f h)
 bare : 40 ∉ p → ∀ g h, f g = f h
 sum : ∀ g, sumA (f g) ≤ b
 hd : p.head? ≠ some 94
theorem Md.single (k : Nat) : Md (sgT k) (fun _ => [.set (sgF k)]) 0 0 7 := by
 have hw := Wy.single (sg_all k) Rx.none
 rw [List.append_nil] at hw
 refine ⟨hw, fun _ _ => ⟨rfl, trivial⟩, fun _ _ _ => rfl, fun _ => by simp [sumA, Pat.A], ?_⟩
 match k with
 | 0 => decide
 | 1 => decide
 | 2 => decide
 | 3 => decide
 | 4 => decide
 | 5 => decide
 | 6 => decide
 | 7 => decide
 | _ + 8 => exact (by decide : ([92, 46] : List UInt8).head? ≠ some 94)
def rpT : Nat → List UInt8
 | 0 => []
 | 1 => [63]
 | _ => [43]
def rpO : Nat → Option (Nat × Int)
 | 0 => none
 | 1 => some (0, 1)
 | _ => some (1, -1)
theorem rp_all : ∀ k, Rx (rpT k) (rpO k)
 | 0 => Rx.none
 | 1 => Rx.opt
 | _ + 2 => Rx.plus
def lwT : Nat → List UInt8
 | 0 => [48]
 | 1 => [49]
 | _ => [50]
def hiT : Nat → List UInt8
 | 0 => [50]
 | 1 => [51]
 | _ => []
def bdT (k l : Nat) : List UInt8 := [123] ++ lwT k ++ [44] ++ hiT l ++ [125]
def mdT (c : Nat → Nat) : Nat → Nat → List UInt8
 | 0, i => sgT (c i / 7 % 9)
 | deep + 1, i =>
  match c i % 7 with
  | 0 => sgT (c i / 7 % 9)
  | 1 => [40] ++ mdT c deep (i + 1) ++ [41]
  | 2 => mdT c deep (i + 1) ++ mdT c deep (i + 2)
  | 3 => [40] ++ mdT c deep (i + 1) ++ [124] ++ mdT c deep (i + 2) ++ [41]
  | 4 => [40] ++ mdT c deep (i + 1) ++ [41, 42]
  | 5 => [40] ++ mdT c deep (i + 1) ++ [124, 41] ++ rpT (c i / 7 % 3)
  | _ => [40] ++ mdT c deep (i + 1) ++ [41, 123] ++ lwT (c i / 7 % 3) ++ [44] ++ hiT (c i / 21 % 3) ++ [125]
end Go.Proofs.YtnfojonmohijpaaGreatDoor
namespace Go.Proofs.YtnfojonmohijpaaGreatDoor
def Pat.be : Pat → Nat
 | .set _ => 0
 | .grp _ x => x.be + 5
 | .rep mn _ x => (x.be + 1) * mn + 3
 | .pnil => 3
 | .pcons x r => x.be + 1 + r.be
 | .wone x => x.be + 6
 | .wcons x r => max (x.be + 6) r.be
def Pat.al : Pat → Nat
 | .set _ => 3
 | .grp _ x => x.al
 | .rep _ _ x => x.al + x.be + 1
 | .pnil => 0
 | .pcons x r => max x.al r.al
 | .wone x => x.al
 | .wcons x r => max x.al r.al
def Pat.td : Pat → Nat
 | .set _ => 0
 | .grp _ x => x.td + 1
 | .rep _ _ x => x.td + 1
 | .pnil => 1
 | .pcons x r => max (x.td + 1) r.td
 | .wone x => x.td + 1
 | .wcons x r => max (x.td + 1) r.td
def Pat.wide : Pat → Prop
 | .set _ => True
 | .grp _ x => x.wide
 | .rep _ _ x => x.wide
 | .pnil => True
 | .pcons x r => x.wide ∧ r.wide
 | .wone x => x.wide
 | .wcons x r => (wl r).length ≤ 59 ∧ x.wide ∧ r.wide
def Job.wide : Job → Prop
 | .node x => x.wide ∧ x.fair 9
 | .kids r => r.wide ∧ r.fair 9
 | .times _ _ x => x.wide ∧ x.fair 9
 | .alts p r => p + (wl r).length ≤ 60 ∧ r.wide ∧ r.fair 9
def Job.one : Job → Bool
 | .node _ => true
 | .alts _ _ => true
 | _ => false
theorem TT.right {s : ByteArray} {J : Job} {i j : Nat} {t : Tr} (h : TT s J i j t) : J.wide → TO J.one t := by
 induction h with
 | byte f i j => intro _; exact .tbyte _ (by have := (at'_bd s i).2; omega)
 | grp k x i j t hk _ ih => intro h; exact .tgrp k t h.2.1 hk (ih ⟨h.1, h.2.2.2⟩)
 | nil => intro _; exact .tnil
 | lone x i j t _ ih => intro h; exact ih ⟨h.1.1, h.2.1⟩
 | row x y r i j l hl ih =>
  intro h
  refine .tser l (ih h) ?_
  cases hl with
  | kgo _ _ _ _ _ _ _ _ _ h2 =>
   cases h2 with
   | kgo => simp [tl]
 | kend => intro _; exact .lnil
 | kgo x r i j c t u _ _ _ ih1 ih2 => intro h; exact .lcons t u (ih1 ⟨h.1.1, h.2.1⟩) (ih2 ⟨h.1.2, h.2.2⟩)
 | rep mn mx x i j l _ ih => intro h; exact .trep l (ih ⟨h.1, h.2.2⟩)
 | tend => intro _; exact .lnil
 | tgo mn mx x i j c t u _ _ _ _ ih1 ih2 => intro h; exact .lcons t u (ih1 h) (ih2 h)
 | wone x i j t _ ih => intro h; exact ih ⟨h.1, h.2⟩
 | wcons x r i j t _ ih => intro h; exact ih ⟨by have := h.1.1; simp only [wl, List.length_cons]; omega, h⟩
 | hit p x r i j t _ _ ih => intro h; exact .talt p t (by have := h.1; simp only [wl, List.length_cons] at this; omega) (ih ⟨h.2.1.2.1, h.2.2.1⟩)
 | miss p x r i j t _ _ ih => intro h; exact ih ⟨by have := h.1; simp only [wl, List.length_cons] at this; omega, h.2.1.2.2, h.2.2.2⟩
 | last p x i j t _ ih => intro h; exact .talt p t (by have := h.1; simp only [wl, List.length_cons, List.length_nil] at this; omega) (ih ⟨h.2.1, h.2.2⟩)
def Job.deep : Job → Nat → Prop
 | .node x, n => n ≤ x.td
 | .kids r, n => n + 1 ≤ r.td
 | .times _ _ x, n => n ≤ x.td
 | .alts _ r, n => n ≤ r.td
theorem TT.deep {s : ByteArray} {J : Job} {i j : Nat} {t : Tr} (h : TT s J i j t) : J.deep t.dp := by
 induction h with
 | tend => exact Nat.zero_le _
 | _ => simp only [Job.deep, Pat.td, Tr.dp] at *; omega
def Job.long : Job → Nat → Nat → Prop
 | .node x, n, l => l ≤ x.al * n + x.be
 | .kids r, n, l => l + 3 ≤ r.al * n + r.be
 | .times mn _ x, n, l => l ≤ x.al * n + (x.be + 1) * (mn + n)
 | .alts _ r, n, l => l ≤ r.al * n + r.be
theorem mul_max (a b n : Nat) : a * n ≤ max a b * n ∧ b * n ≤ max a b * n := ⟨Nat.mul_le_mul_right _ (by omega), Nat.mul_le_mul_right _ (by omega)⟩
theorem TT.long {s : ByteArray} {J : Job} {i j : Nat} {t : Tr} (h : TT s J i j t) : J.ok s i j → J.long (j - i) t.text.length := by
 have hle : ∀ {x : Pat} (i j : Nat), Mt s x i j → i ≤ j := fun _ _ h => h.le
 have hnl : ∀ {x : Pat} (i m : Nat), Mt s x i i → Mt s x m m := fun _ _ h => h.null
 induction h with
 | byte f i j =>
  intro h
  have : j - i = 1 := by have := h.2.2; omega
  simp only [Job.long, this, Pat.al, Pat.be, Tr.text, hexT, List.length_append, List.length_cons, List.length_nil]
  omega
 | grp k x i j t hk _ ih =>
  intro h
  have := ih h
  have hd := decT_len k
  have e : (decT k).length = 1 := by rw [decT_dig hk]; rfl
  simp only [Job.long, Pat.al, Pat.be, Tr.text, List.length_append, List.length_cons, List.length_nil] at this ⊢
  omega
 | nil i j => intro _; simp only [Job.long, Pat.al, Pat.be, Tr.text, List.length_cons, List.length_nil]; omega
 | lone x i j t _ ih =>
  rintro ⟨m, a, b⟩
  have b' : m = j := b
  subst b'
  have := ih a
  have hm := (mul_max x.al Pat.pnil.al (m - i)).1
  simp only [Job.long] at this ⊢
  simp only [Pat.al, Pat.be] at hm ⊢
  omega
 | row x y r i j l _ ih =>
  intro h
  have := ih h
  simp only [Job.long, Tr.text, List.length_append, List.length_cons, List.length_nil] at this ⊢
  omega
 | kend i j => intro _; simp only [Job.long, Pat.al, Pat.be, Tr.text, List.length_nil]; omega
 | kgo x r i j c t u hc _ _ ih1 ih2 =>
  rintro ⟨m, a, b⟩
  have hP := hc.hit ⟨m, a.le, b.le, a, b⟩
  have h1 := ih1 hP.1
  have h2 := ih2 hP.2
  have hic := hc.1
  have hcj := hc.2.1
  obtain ⟨p, hp⟩ : ∃ p, p = c - i := ⟨_, rfl⟩
  obtain ⟨q, hq⟩ : ∃ q, q = j - c := ⟨_, rfl⟩
  have hpq : j - i = p + q := by omega
  have m1 := (mul_max x.al r.al p).1
  have m2 := (mul_max x.al r.al q).2
  rw [hpq]
  simp only [Job.long] at h1 h2 ⊢
  rw [← hp] at h1
  rw [← hq] at h2
  simp only [Pat.al, Pat.be, Tr.text, List.length_append, List.length_cons, List.length_nil, Nat.mul_add] at h1 h2 ⊢
  omega
 | rep mn mx x i j l _ ih =>
  intro h
  have := ih h
  simp only [Job.long, Pat.al, Pat.be, Tr.text, List.length_append, List.length_cons, List.length_nil, Nat.add_mul, Nat.mul_add] at this ⊢
  omega
 | tend mn mx x i j hn => intro _; simp [Job.long, Tr.text]
 | tgo mn mx x i j c t u hg hc _ _ ih1 ih2 =>
  intro h
  obtain ⟨hP, _⟩ := Tm.cut hle h hg hc
  have h1 := ih1 hP.1
  have h2 := ih2 hP.2
  have hic := hc.1
  have hcj := hc.2.1
  have hfr : i < j → i < c := fun hij => (Tm.cutFront hle hnl h hij hc).1
  obtain ⟨p, hp⟩ : ∃ p, p = c - i := ⟨_, rfl⟩
  obtain ⟨q, hq⟩ : ∃ q, q = j - c := ⟨_, rfl⟩
  have hpq : j - i = p + q := by omega
  have hn : mn - 1 + q + 1 ≤ mn + (p + q) := by omega
  rw [hpq]
  simp only [Job.long] at h1 h2 ⊢
  rw [← hp] at h1
  rw [← hq] at h2
  have hk : (x.be + 1) * (mn - 1 + q) + (x.be + 1) ≤ (x.be + 1) * (mn + (p + q)) := by
   have := Nat.mul_le_mul_left (x.be + 1) hn
   rw [Nat.mul_add (x.be + 1) (mn - 1 + q) 1] at this
   omega
  rw [Nat.mul_add x.al p q]
  simp only [Tr.text, List.length_append, List.length_cons, List.length_nil]
  omega
 | wone x i j t _ ih =>
  intro h
  have := ih h
  simp only [Job.long, Pat.al, Pat.be] at this ⊢
  omega
 | wcons x r i j t _ ih => intro h; exact ih h
 | hit p x r i j t hm _ ih =>
  intro h
  have := ih hm
  have hd := decT_len p
  have m1 := (mul_max x.al r.al (j - i)).1
  simp only [Job.long, Pat.al, Pat.be, Tr.text, List.length_append, List.length_cons, List.length_nil] at this ⊢
  omega
 | miss p x r i j t hn _ ih =>
  intro h
  have h' := Or.resolve_left h hn
  have := ih h'
  have m1 := (mul_max x.al r.al (j - i)).2
  simp only [Job.long, Pat.al, Pat.be] at this ⊢
  omega
 | last p x i j t _ ih =>
  intro h
  have := ih h
  have hd := decT_len p
  simp only [Job.long, Pat.al, Pat.be, Tr.text, List.length_append, List.length_cons, List.length_nil] at this ⊢
  omega
def sgB (s : ByteArray) (i j : Nat) : List UInt8 := (s.data.toList.take j).drop i
theorem sgB_nil (s : ByteArray) (i : Nat) : sgB s i i = [] := by
 unfold sgB
 apply List.drop_eq_nil_of_le
 simp
 omega
theorem sgB_app (s : ByteArray) {i c j : Nat} (h1 : i ≤ c) (h2 : c ≤ j) (h3 : j ≤ s.size) : sgB s i c ++ sgB s c j = sgB s i j := by
 have hsl : s.data.toList.length = s.size := Array.length_toList
 unfold sgB
 have e : s.data.toList.take j = s.data.toList.take c ++ (s.data.toList.take j).drop c := by
  have := (List.take_append_drop c (s.data.toList.take j)).symm
  rw [List.take_take, Nat.min_eq_left h2] at this
  exact this
 have e2 : (s.data.toList.take j).drop i = (s.data.toList.take c ++ (s.data.toList.take j).drop c).drop i := by rw [← e]
 rw [e2, List.drop_append_of_le_length (by rw [List.length_take]; omega)]
theorem sgB_one (s : ByteArray) {i : Nat} (h : i < s.size) : sgB s i (i + 1) = [UInt8.ofNat (at' s i).toNat] := by
 have hsl : s.data.toList.length = s.size := Array.length_toList
 unfold sgB
 rw [List.take_add_one, List.drop_append_of_le_length (by rw [List.length_take]; omega), List.drop_eq_nil_of_le (by rw [List.length_take]; omega)]
 have h4 : s.data.toList[i]? = some s[i] := by rw [Array.getElem?_toList]; exact Array.getElem?_eq_getElem h
 rw [h4, at'_lt h]
 simp
theorem TT.flat {s : ByteArray} {J : Job} {i j : Nat} {t : Tr} (h : TT s J i j t) : J.ok s i j → j ≤ s.size → t.flat = sgB s i j := by
 have hle : ∀ {x : Pat} (i j : Nat), Mt s x i j → i ≤ j := fun _ _ h => h.le
 induction h with
 | byte f i j => intro h _; obtain ⟨h1, _, rfl⟩ := h; rw [sgB_one s h1]; rfl
 | grp k x i j t hk _ ih => exact ih
 | nil i j => intro h _; have : i = j := h; subst this; rw [sgB_nil]; rfl
 | lone x i j t _ ih =>
  rintro ⟨m, a, b⟩ hj
  have b' : m = j := b
  subst b'
  exact ih a hj
 | row x y r i j l _ ih => exact ih
 | kend i j => intro h _; have : i = j := h; subst this; rw [sgB_nil]; rfl
 | kgo x r i j c t u hc _ _ ih1 ih2 =>
  rintro ⟨m, a, b⟩ hj
  have hP := hc.hit ⟨m, a.le, b.le, a, b⟩
  have hcj := hc.2.1
  show t.flat ++ u.flat = _
  rw [ih1 hP.1 (by omega), ih2 hP.2 hj, sgB_app s hc.1 hcj hj]
 | rep mn mx x i j l _ ih => exact ih
 | tend mn mx x i j hn =>
  intro h _
  have := Tm.le hle h
  have : i = j := by omega
  subst this
  rw [sgB_nil]; rfl
 | tgo mn mx x i j c t u hg hc _ _ ih1 ih2 =>
  intro h hj
  obtain ⟨hP, _⟩ := Tm.cut hle h hg hc
  have hcj := hc.2.1
  show t.flat ++ u.flat = _
  rw [ih1 hP.1 (by omega), ih2 hP.2 hj, sgB_app s hc.1 hcj hj]
 | wone x i j t _ ih => exact ih
 | wcons x r i j t _ ih => exact ih
 | hit p x r i j t hm _ ih => intro _ hj; exact ih hm hj
 | miss p x r i j t hn _ ih => intro h hj; exact ih (Or.resolve_left h hn) hj
 | last p x i j t _ ih => exact ih
def Job.fit : Job → Tr → Prop
 | .node x, t => Ft x t
 | .kids r, l => (tl l).length = (pl r).length ∧ ∀ (i : Nat) (z : Pat) (u : Tr), (pl r)[i]? = some z → (tl l)[i]? = some u → Ft z u
 | .times mn mx x, l => mn ≤ (tl l).length ∧ (mx < 0 ∨ ((tl l).length : Int) ≤ mx) ∧ ∀ u, u ∈ tl l → Ft x u
 | .alts p r, t => ∃ k y u, t = .talt (p + k) u ∧ (wl r)[k]? = some y ∧ Ft y u
theorem TT.fit {s : ByteArray} {J : Job} {i j : Nat} {t : Tr} (h : TT s J i j t) : J.ok s i j → J.fit t := by
 have hle : ∀ {x : Pat} (i j : Nat), Mt s x i j → i ≤ j := fun _ _ h => h.le
 induction h with
 | byte f i j => intro h; exact .set f _ h.2.1
 | grp k x i j t hk _ ih => intro h; exact .grp k x t (ih h)
 | nil i j => intro _; exact .nil
 | lone x i j t _ ih =>
  rintro ⟨m, a, b⟩
  have b' : m = j := b
  subst b'
  exact .lone x t (ih a)
 | row x y r i j l _ ih => intro h; obtain ⟨a, b⟩ := ih h; exact .ser x y r l a b
 | kend i j => intro _; exact ⟨rfl, fun i z u h => by simp [pl] at h⟩
 | kgo x r i j c t u hc _ _ ih1 ih2 =>
  rintro ⟨m, a, b⟩
  have hP := hc.hit ⟨m, a.le, b.le, a, b⟩
  have h1 := ih1 hP.1
  obtain ⟨h2, h3⟩ := ih2 hP.2
  refine ⟨by simp only [tl, pl, List.length_cons, h2], fun i z v hz hv => ?_⟩
  cases i with
  | zero =>
   simp only [pl, tl, List.getElem?_cons_zero, Option.some.injEq] at hz hv
   subst hz; subst hv
   exact h1
  | succ i =>
   simp only [pl, tl, List.getElem?_cons_succ] at hz hv
   exact h3 i z v hz hv
 | rep mn mx x i j l _ ih => intro h; obtain ⟨a, b, c⟩ := ih h; exact .rep mn mx x l a b c
 | tend mn mx x i j hn =>
  intro h
  obtain ⟨n, a, b, _⟩ := h
  refine ⟨by simp only [tl, List.length_nil]; omega, ?_, fun u hu => by simp [tl] at hu⟩
  simp only [tl, List.length_nil]
  omega
 | tgo mn mx x i j c t u hg hc _ _ ih1 ih2 =>
  intro h
  obtain ⟨hP, _⟩ := Tm.cut hle h hg hc
  have h1 := ih1 hP.1
  obtain ⟨h2, h3, h4⟩ := ih2 hP.2
  have h0 : mx ≠ 0 := by
   rintro rfl
   obtain ⟨n, a, b, k⟩ := h
   have : n = 0 := by omega
   subst this
   have : i = j := k
   omega
  refine ⟨by simp only [tl, List.length_cons]; omega, ?_, fun v hv => ?_⟩
  ·simp only [tl, List.length_cons]
   unfold less at h3
   split at h3 <;> omega
  ·simp only [tl, List.mem_cons] at hv
   rcases hv with rfl | hv
   ·exact h1
   ·exact h4 v hv
 | wone x i j t _ ih => intro h; exact .one x t (ih h)
 | wcons x r i j t _ ih =>
  intro h
  obtain ⟨k, y, u, rfl, h1, h2⟩ := ih h
  rw [Nat.zero_add]
  exact .alt x r k y u h1 h2
 | hit p x r i j t hm _ ih => intro _; exact ⟨0, x, t, rfl, rfl, ih hm⟩
 | miss p x r i j t hn _ ih =>
  intro h
  obtain ⟨k, y, u, rfl, h1, h2⟩ := ih (Or.resolve_left h hn)
  exact ⟨k + 1, y, u, by rw [show p + 1 + k = p + (k + 1) by omega], h1, h2⟩
 | last p x i j t _ ih => intro h; exact ⟨0, x, t, rfl, rfl, ih h⟩
def Job.fr : Job → Prop
 | .node x => x.fair 9
 | .kids r => r.fair 9
 | .times _ _ x => x.fair 9
 | .alts _ r => r.fair 9
theorem TR.toTT {s : ByteArray} {J : Job} {i j : Nat} {u : List UInt8} {ev : List (Nat × Nat × Nat)} (h : TR s J i j u ev) : J.fr → ∃ t, TT s J i j t ∧ t.text = u := by
 induction h with
 | byte f i j => intro _; exact ⟨_, .byte f i j, rfl⟩
 | grp k x i j t ev _ ih =>
  intro h
  obtain ⟨t', h1, rfl⟩ := ih h.2.2
  exact ⟨_, .grp k x i j t' h.2.1 h1, by simp only [Tr.text, decT_dig h.2.1]⟩
 | nil i j => intro _; exact ⟨_, .nil i j, rfl⟩
 | lone x i j t ev _ ih => intro h; obtain ⟨t', h1, h2⟩ := ih h.1; exact ⟨_, .lone x i j t' h1, h2⟩
 | row x y r i j t ev _ ih => intro h; obtain ⟨t', h1, rfl⟩ := ih h; exact ⟨_, .row x y r i j t' h1, rfl⟩
 | kend i j => intro _; exact ⟨_, .kend i j, rfl⟩
 | kgo x r i j c t u ev fv hc _ _ ih1 ih2 =>
  intro h
  obtain ⟨t', h1, rfl⟩ := ih1 h.1
  obtain ⟨u', h2, rfl⟩ := ih2 h.2
  exact ⟨_, .kgo x r i j c t' u' hc h1 h2, rfl⟩
 | rep mn mx x i j t ev _ ih => intro h; obtain ⟨t', h1, rfl⟩ := ih h.2; exact ⟨_, .rep mn mx x i j t' h1, rfl⟩
 | tend mn mx x i j hn => intro _; exact ⟨_, .tend mn mx x i j hn, rfl⟩
 | tgo mn mx x i j c t u ev fv hg hc _ _ ih1 ih2 =>
  intro h
  obtain ⟨t', h1, rfl⟩ := ih1 h
  obtain ⟨u', h2, rfl⟩ := ih2 h
  exact ⟨_, .tgo mn mx x i j c t' u' hg hc h1 h2, rfl⟩
 | wone x i j t ev _ ih => intro h; obtain ⟨t', h1, h2⟩ := ih h; exact ⟨_, .wone x i j t' h1, h2⟩
 | wcons x r i j t ev _ ih => intro h; obtain ⟨t', h1, h2⟩ := ih h; exact ⟨_, .wcons x r i j t' h1, h2⟩
 | hit p x r i j t ev hm _ ih => intro h; obtain ⟨t', h1, rfl⟩ := ih h.1; exact ⟨_, .hit p x r i j t' hm h1, rfl⟩
 | miss p x r i j t ev hn _ ih => intro h; obtain ⟨t', h1, h2⟩ := ih h.2; exact ⟨_, .miss p x r i j t' hn h1, h2⟩
 | last p x i j t ev _ ih => intro h; obtain ⟨t', h1, rfl⟩ := ih h; exact ⟨_, .last p x i j t' h1, rfl⟩
end Go.Proofs.YtnfojonmohijpaaGreatDoor
