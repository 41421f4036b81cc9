/-
  DERIVED. The contract of the program's Match. Condition: the variable classNames holds what it is laid with.
-/
import Derived.Test.YtnfojonmohijpabGreatDoorJOI0
import Derived.Test.YtnfojonmohijpabGreatDoorJOH
import Derived.Test.YtnfojonmohijpabGreatDoorJOF
import Derived.Test.YtnfojonmohijpabGreatDoorJSpec
import Derived.Test.YtnfojonmohijpabGreatDoorJMA
import Derived.Test.YtnfojonmohijpabGreatDoorJQC
import Derived.Test.YtnfojonmohijpabGreatDoorJSG
set_option linter.unusedSimpArgs false
set_option linter.unusedVariables false
namespace Go.Proofs.YtnfojonmohijpabGreatDoor
open Go.RowKit
theorem infoMat7 (a b c d e f g : Value) : (Tryz.prog.info? 67).map (·.size) = some [a, b, c, d, e, f, g].length := by kernel_rfl
set_option maxRecDepth 100000 in
set_option maxHeartbeats 2000000 in
theorem ymatch_any (p s : ByteArray) (w : World) (hgn : GN w) :
    Calls Tryz.prog 10 #[.string p, .string s] w fun e w' => ∃ t b n, e = .returned (.tuple #[.string (nmB t), .bool b, .int .i64 n]) ∧ MatchA p s t b n ∧ Keeps [] w w' := by
 go_enter Tryz.func10, Tryz.ntmps10
 go_wp2_with fail
 refine (readPattern_prog p w hgn).mono ?_
 rintro e w1 ⟨hk1, hc1⟩
 have hz0 : P4 (w1.alloc (.cells #[.bool false, .bool false, .slice none 0 0, .int .i64 0] 58)) w1.heap.size (.bool false) (.bool false) (.slice none 0 0) (.int .i64 0) := heap_alloc_new w1 _
 have hk2 : Keeps [] w1 (w1.alloc (.cells #[.bool false, .bool false, .slice none 0 0, .int .i64 0] 58)) := (Keeps.refl [] w1).alloc _
 have hC : (∃ x y : Int, y ≠ 0 ∧ e = .returned (.tuple #[.agg #[.bool false, .bool false, .slice none 0 0, .int .i64 0], .int .i64 x, .int .i64 y]) ∧ MatchA p s [] false y) ∨
     ∃ W j v, p.size ≤ 60 ∧ PatR p (.ok W j) ∧ e = .returned (.tuple #[.agg #[.bool W.bg, .bool W.en, v, .int .i64 W.g], .int .i64 0, .int .i64 0]) ∧ v.oneCell' = true ∧ Rep w1 (fun g => w.heap.size ≤ g) .ways W.x [v] := by
  rcases hc1 with ⟨hl, he⟩ | ⟨hs, q, hq, h⟩
  ·exact Or.inl ⟨0, 1, by decide, he, Or.inl ⟨hl, rfl, rfl, rfl⟩⟩
  ·cases q with
   | bad j => exact Or.inl ⟨j, 2, by decide, h, Or.inr ⟨hs, .bad j, hq, rfl, rfl, rfl⟩⟩
   | ok W j =>
    obtain ⟨v, he, hv, hrep⟩ := h
    exact Or.inr ⟨W, j, v, hs, hq, he, hv, hrep⟩
 clear hc1
 rcases hC with ⟨x, y, hy0, rfl, hp⟩ | ⟨W, j, v, hs, hq, rfl, hv, hrep⟩
 ·have o4 := four_one (x := false) (y := false) (n := 0) (v := .slice none 0 0) rfl
  have hk3 : Keeps [] w1 ((w1.alloc (.cells #[.bool false, .bool false, .slice none 0 0, .int .i64 0] 58)).setRow w1.heap.size #[.bool false, .bool false, .slice none 0 0, .int .i64 0]) := hk2.setRow (Or.inr (Nat.le_refl _)) _
  have hkA := hk1.trans hk3
  have HP : Hid (MatchA p s [] false y) := hp
  clear hk2 hk3 hp hk1
  go_wp2_with (first | (refine wpList_store_row rfl 58 _ _ rfl w1.heap.size _ rfl rfl _ _ hz0 infoPat rfl o4 ?_; generalize (w1.alloc (.cells #[.bool false, .bool false, .slice none 0 0, .int .i64 0] 58)).setRow w1.heap.size #[.bool false, .bool false, .slice none 0 0, .int .i64 0] = W3 at *))
  go_ret3
  exact ⟨[], false, y, rfl, HP.out, hkA⟩
 have hsz := whole_sz hs hq
 obtain ⟨hfair, hthin, _⟩ := hq.good hs
 have o4 := four_one (x := W.bg) (y := W.en) (n := (W.g : Int)) hv
 have hk3 : Keeps [] w1 ((w1.alloc (.cells #[.bool false, .bool false, .slice none 0 0, .int .i64 0] 58)).setRow w1.heap.size #[.bool W.bg, .bool W.en, v, .int .i64 (W.g : Int)]) := hk2.setRow (Or.inr (Nat.le_refl _)) _
 have hrow : ((w1.alloc (.cells #[.bool false, .bool false, .slice none 0 0, .int .i64 0] 58)).setRow w1.heap.size #[.bool W.bg, .bool W.en, v, .int .i64 (W.g : Int)]).heap[w1.heap.size]? = some (.cells #[.bool W.bg, .bool W.en, v, .int .i64 (W.g : Int)] 58 (0, 0)) := setRow_heap _ _ _ _ _ _ hz0
 have hc3 : ∀ t u, [Value.bool W.bg, .bool W.en, v, .int .i64 (W.g : Int)][t]? = some u → ((w1.alloc (.cells #[.bool false, .bool false, .slice none 0 0, .int .i64 0] 58)).setRow w1.heap.size #[.bool W.bg, .bool W.en, v, .int .i64 (W.g : Int)]).cell? ⟨w1.heap.size, 0 + t, none⟩ = some u := by
  intro t u hu
  rw [Lib.cell_of_heap hrow, Nat.zero_add]
  simpa using hu
 have hr3 := hrep.keep hk3 (by simp)
 have hkA := hk1.trans hk3
 have hi4 := infoPat4 (.bool W.bg) (.bool W.en) v (.int .i64 (W.g : Int))
 have HQ : Hid (PatR p (.ok W j)) := hq
 have HPS : Hid (p.size ≤ 60) := hs
 clear hrep hq hgn hs hk1 hk2 hrow
 by_cases hT : s.size ≤ 100
 rotate_left
 ·have hT' : (100 : Int) < (s.size : Int) := by omega
  have HA : Hid (MatchA p s [] false 1) := Or.inr ⟨HPS.out, .ok W j, HQ.out, Or.inl ⟨by omega, rfl, rfl, rfl⟩⟩
  clear hT hr3 hc3
  go_wp2_with (first | (refine wpList_store_row rfl 58 _ _ rfl w1.heap.size _ rfl rfl _ _ hz0 infoPat rfl o4 ?_; generalize (w1.alloc (.cells #[.bool false, .bool false, .slice none 0 0, .int .i64 0] 58)).setRow w1.heap.size #[.bool W.bg, .bool W.en, v, .int .i64 (W.g : Int)] = W3 at *))
  go_ret3
  exact ⟨[], false, 1, rfl, HA.out, hkA⟩
 have HT : Hid (s.size ≤ 100) := hT
 have hT' : ¬ (100 : Int) < (s.size : Int) := by omega
 clear hT
 go_wp2_with (first | (refine wpList_store_row rfl 58 _ _ rfl w1.heap.size _ rfl rfl _ _ hz0 infoPat rfl o4 ?_; generalize (w1.alloc (.cells #[.bool false, .bool false, .slice none 0 0, .int .i64 0] 58)).setRow w1.heap.size #[.bool W.bg, .bool W.en, v, .int .i64 (W.g : Int)] = W3 at *) | (refine wpList_load_at rfl 58 _ rfl w1.heap.size 0 rfl [.bool W.bg, .bool W.en, v, .int .i64 (W.g : Int)] _ hc3 Tryz.underlying58 rfl hi4 ?_))
 refine (matNew_any s (s.size + 1) rfl HT.out W v _ W3 hr3 hsz hfair).mono ?_
 rintro e w4 ⟨a, c, rfl, hm, hk4⟩
 have hkB := hkA.trans hk4
 have hal := hm.form.1
 have o7 : (#[.bool W.bg, .bool W.en, v, .int .i64 (W.g : Int), .string s, a, c] : Array Value).all (·.oneCell') = true := all7 rfl rfl hv rfl rfl (hal a (by simp)) (hal c (by simp))
 have hz4 : (w4.alloc (.cells #[.bool false, .bool false, .slice none 0 0, .int .i64 0, .string ⟨#[]⟩, .slice none 0 0, .slice none 0 0] 67)).heap[w4.heap.size]? = some (.cells #[.bool false, .bool false, .slice none 0 0, .int .i64 0, .string ⟨#[]⟩, .slice none 0 0, .slice none 0 0] 67 (0, 0)) := heap_alloc_new w4 _
 have hk5 : Keeps [] w4 ((w4.alloc (.cells #[.bool false, .bool false, .slice none 0 0, .int .i64 0, .string ⟨#[]⟩, .slice none 0 0, .slice none 0 0] 67)).setRow w4.heap.size #[.bool W.bg, .bool W.en, v, .int .i64 (W.g : Int), .string s, a, c]) := ((Keeps.refl [] w4).alloc _).setRow (Or.inr (Nat.le_refl _)) _
 have hrow4 : ((w4.alloc (.cells #[.bool false, .bool false, .slice none 0 0, .int .i64 0, .string ⟨#[]⟩, .slice none 0 0, .slice none 0 0] 67)).setRow w4.heap.size #[.bool W.bg, .bool W.en, v, .int .i64 (W.g : Int), .string s, a, c]).heap[w4.heap.size]? = some (.cells #[.bool W.bg, .bool W.en, v, .int .i64 (W.g : Int), .string s, a, c] 67 (0, 0)) := setRow_heap _ _ _ _ _ _ hz4
 have hm5 := hm.keep hk5 (by simp)
 have hkC := hkB.trans hk5
 have hi7 := infoMat7 (.bool W.bg) (.bool W.en) v (.int .i64 (W.g : Int)) (.string s) a c
 have hin7 := info7 (.bool W.bg) (.bool W.en) v (.int .i64 (W.g : Int)) (.string s) a c
 have hg4 : w4.heap.size < ((w4.alloc (.cells #[.bool false, .bool false, .slice none 0 0, .int .i64 0, .string ⟨#[]⟩, .slice none 0 0, .slice none 0 0] 67)).setRow w4.heap.size #[.bool W.bg, .bool W.en, v, .int .i64 (W.g : Int), .string s, a, c]).heap.size := (Array.getElem?_eq_some_iff.1 hrow4).1
 have cM : ∀ X : World, X.heap[w4.heap.size]? = some (.cells #[.bool W.bg, .bool W.en, v, .int .i64 (W.g : Int), .string s, a, c] 67 (0, 0)) → ∀ t u, ([.bool W.bg, .bool W.en, v, .int .i64 (W.g : Int), .string s, a, c] : List Value)[t]? = some u → X.cell? ⟨w4.heap.size, 0 + t, none⟩ = some u := by
  intro X hX t u hu
  rw [Lib.cell_of_heap hX, Nat.zero_add]
  simpa using hu
 have hc5 := cM _ hrow4
 clear hr3 hc3 hk3 hz0 hm hk4 hkA hkB hk5 hi4 o4
 simp only [mat]
 go_wp2_with (first | (refine wpList_store_row rfl 67 _ _ rfl w4.heap.size _ rfl rfl _ _ hz4 hin7 rfl o7 ?_; generalize ((w4.alloc (.cells #[.bool false, .bool false, .slice none 0 0, .int .i64 0, .string ⟨#[]⟩, .slice none 0 0, .slice none 0 0] 67)).setRow w4.heap.size #[.bool W.bg, .bool W.en, v, .int .i64 (W.g : Int), .string s, a, c]) = W5 at *) | (refine wpList_load_at rfl 67 _ rfl w4.heap.size 0 rfl [.bool W.bg, .bool W.en, v, .int .i64 (W.g : Int), .string s, a, c] _ hc5 Tryz.underlying67 rfl hi7 ?_))
 refine (show Calls Tryz.prog 21 #[.agg #[.bool W.bg, .bool W.en, v, .int .i64 (W.g : Int), .string s, a, c], .int .i64 0, .int .i64 s.size] W5 _ from canM_any s (s.size + 1) rfl HT.out W v a c _ W5 hm5 0 s.size (Nat.zero_le _) (Nat.le_refl _)).mono ?_
 rintro e w6 ⟨b, rfl, hb, hk6⟩
 have hkD := hkC.trans hk6
 have hm6 := hm5.keep hk6 (by simp)
 have hc6 := cM _ ((hk6.block _ hg4 (by simp)).trans hrow4)
 clear hm5 hkC hc5 hk6 hrow4 hg4 cM hz4
 by_cases hbt : b = true
 rotate_left
 ·obtain rfl : b = false := by simpa using hbt
  have HA : Hid (MatchA p s [] false 0) := Or.inr ⟨HPS.out, .ok W j, HQ.out, Or.inr ⟨HT.out, Or.inl ⟨fun h => hbt (hb.2 h), rfl, rfl, rfl⟩⟩⟩
  clear hb hbt hm6 hc6
  go_wp2_with fail
  go_ret3
  exact ⟨[], false, 0, rfl, HA.out, hkD⟩
 have hmt := hb.1 hbt
 have HM : Hid (Mt s W.x 0 s.size) := hmt
 subst hbt
 clear hb
 go_wp2_with (first | (refine wpList_load_at rfl 67 _ rfl w4.heap.size 0 rfl [.bool W.bg, .bool W.en, v, .int .i64 (W.g : Int), .string s, a, c] _ hc6 Tryz.underlying67 rfl hi7 ?_))
 refine (show Calls Tryz.prog 23 #[.agg #[.bool W.bg, .bool W.en, v, .int .i64 (W.g : Int), .string s, a, c], .int .i64 0, .int .i64 s.size] w6 _ from treeM_any s (s.size + 1) rfl HT.out W v a c hv _ w6 hm6 hsz 0 s.size (Nat.zero_le _) (Nat.le_refl _) hmt).mono ?_
 rintro e w7 ⟨t, cs, rfl, htv, htt, hk7⟩
 have hkE := hkD.trans hk7
 have hth := htt.thin hthin
 have HR : Hid (TR s (.node W.x) 0 s.size t.text (t.evs 0)) := (htt.toTR hmt).1
 clear hm6 hc6 hkD hk7 htt hmt
 go_wp2_with fail
 refine (tell_any t hth _ cs w7 htv).mono ?_
 rintro e w8 ⟨hte, hk8⟩
 have hkF := hkE.trans hk8
 clear hkE hk8 htv hth
 rcases hte with ⟨hl, rfl⟩ | ⟨hl, rfl⟩
 ·have HA : Hid (MatchA p s t.text true 0) := Or.inr ⟨HPS.out, .ok W j, HQ.out, Or.inr ⟨HT.out, Or.inr ⟨HM.out, _, _, HR.out, Or.inl ⟨hl, rfl, rfl, rfl⟩⟩⟩⟩
  clear hl
  go_wp2_with fail
  go_ret3
  exact ⟨_, true, 0, rfl, HA.out, hkF⟩
 ·have HA : Hid (MatchA p s [] false 1) := Or.inr ⟨HPS.out, .ok W j, HQ.out, Or.inr ⟨HT.out, Or.inr ⟨HM.out, _, _, HR.out, Or.inr ⟨hl, rfl, rfl, rfl⟩⟩⟩⟩
  clear hl
  go_wp2_with fail
  go_ret3
  exact ⟨_, false, 1, rfl, HA.out, hkF⟩
end Go.Proofs.YtnfojonmohijpabGreatDoor
namespace Go.Proofs.YtnfojonmohijpabGreatDoor
theorem lit_piece {s : ByteArray} {d g i : Nat} {c : Int} (h : at' s i = c) (h0 : 0 ≤ c) (h1 : c ≠ 40 ∧ c ≠ 91 ∧ c ≠ 46 ∧ c ≠ 92) (h2 : ¬ notC c) (hn : at' s (i + 1) ≠ 42 ∧ at' s (i + 1) ≠ 43 ∧ at' s (i + 1) ≠ 63 ∧ at' s (i + 1) ≠ 123) :
    G s .piece d g i (.ok (.set (stretch c c), g) (i + 1)) := by
 have a := G.lit (s := s) d g i (by rw [h]; exact h0) (by rw [h]; exact h1.1) (by rw [h]; exact h1.2.1) (by rw [h]; exact h1.2.2.1) (by rw [h]; exact h1.2.2.2) (by rw [h]; exact h2)
 rw [h] at a
 exact G.rep d g i g (i + 1) _ (.ok none (i + 1)) a (Or.inl ⟨hn.1, hn.2.1, hn.2.2.1, hn.2.2.2, rfl⟩)
theorem lit_star {s : ByteArray} {d g i : Nat} {c : Int} (h : at' s i = c) (h0 : 0 ≤ c) (h1 : c ≠ 40 ∧ c ≠ 91 ∧ c ≠ 46 ∧ c ≠ 92) (h2 : ¬ notC c) (hn : at' s (i + 1) = 42) :
    G s .piece d g i (.ok (.rep 0 (-1) (.set (stretch c c)), g) (i + 2)) := by
 have a := G.lit (s := s) d g i (by rw [h]; exact h0) (by rw [h]; exact h1.1) (by rw [h]; exact h1.2.1) (by rw [h]; exact h1.2.2.1) (by rw [h]; exact h1.2.2.2) (by rw [h]; exact h2)
 rw [h] at a
 exact G.rep d g i g (i + 1) _ (.ok (some (0, -1)) (i + 1 + 1)) a (Or.inr (Or.inl ⟨hn, rfl⟩))
theorem way_cons {s : ByteArray} {d g i g1 j g2 k : Nat} {x r : Pat} (h : ¬ stopC (at' s i)) (h1 : G s .piece d g i (.ok (x, g1) j)) (h2 : G s .way d g1 j (.ok (r, g2) k)) : G s .way d g i (.ok (.pcons x r, g2) k) := G.cons d g i g1 j x (.ok (r, g2) k) h h1 h2
theorem ways_cons {s : ByteArray} {d g i g1 j g2 k : Nat} {x r : Pat} (h1 : G s .way d g i (.ok (x, g1) j)) (h : at' s j = 124) (h2 : G s .ways d g1 (j + 1) (.ok (r, g2) k)) : G s .ways d g i (.ok (.wcons x r, g2) k) := G.more d g i g1 j x (.ok (r, g2) k) h1 h h2
theorem grp_piece {s : ByteArray} {d g i g1 j : Nat} {x : Pat} (h : at' s i = 40) (hd : ¬ (d = 6 ∨ g = 9)) (h1 : G s .ways (d + 1) (g + 1) (i + 1) (.ok (x, g1) j)) (hc : at' s j = 41) (hn : at' s (j + 1) ≠ 42 ∧ at' s (j + 1) ≠ 43 ∧ at' s (j + 1) ≠ 63 ∧ at' s (j + 1) ≠ 123) :
    G s .piece d g i (.ok (.grp (g + 1) x, g1) (j + 1)) := G.rep d g i g1 (j + 1) _ (.ok none (j + 1)) (G.grp d g i g1 j x h hd h1 hc) (Or.inl ⟨hn.1, hn.2.1, hn.2.2.1, hn.2.2.2, rfl⟩)
def mS : ByteArray := ⟨#[40, 97, 124, 97, 98, 41, 40, 99, 124, 98, 99, 100, 41, 40, 100, 42, 41]⟩
def mT : ByteArray := ⟨#[97, 98, 99, 100]⟩
def st (c : Int) : Pat := .set (stretch c c)
def m1 : Pat := .wcons (.pcons (st 97) .pnil) (.wone (.pcons (st 97) (.pcons (st 98) .pnil)))
def m2 : Pat := .wcons (.pcons (st 99) .pnil) (.wone (.pcons (st 98) (.pcons (st 99) (.pcons (st 100) .pnil))))
def m3 : Pat := .wone (.pcons (.rep 0 (-1) (st 100)) .pnil)
def mX : Pat := .wone (.pcons (.grp 1 m1) (.pcons (.grp 2 m2) (.pcons (.grp 3 m3) .pnil)))
theorem m_at : at' mS 0 = 40 ∧ at' mS 1 = 97 ∧ at' mS 2 = 124 ∧ at' mS 3 = 97 ∧ at' mS 4 = 98 ∧ at' mS 5 = 41 ∧ at' mS 6 = 40 ∧ at' mS 7 = 99 ∧ at' mS 8 = 124 ∧ at' mS 9 = 98 ∧ at' mS 10 = 99 ∧ at' mS 11 = 100 ∧ at' mS 12 = 41 ∧ at' mS 13 = 40 ∧ at' mS 14 = 100 ∧ at' mS 15 = 42 ∧ at' mS 16 = 41 ∧ at' mS 17 = -1 := by decide
theorem m_g1 : G mS .ways 1 1 1 (.ok (m1, 1) 5) := by
 obtain ⟨h0, h1, h2, h3, h4, h5, h6, h7, h8, h9, h10, h11, h12, h13, h14, h15, h16, h17⟩ := m_at
 have a : G mS .way 1 1 1 (.ok (.pcons (st 97) .pnil, 1) 2) := way_cons (by rw [h1]; unfold stopC; decide) (lit_piece h1 (by decide) (by decide) (by unfold notC; decide) (by rw [h2]; decide)) (G.nil 1 1 2 (by rw [h2]; unfold stopC; decide))
 have b : G mS .way 1 1 4 (.ok (.pcons (st 98) .pnil, 1) 5) := way_cons (by rw [h4]; unfold stopC; decide) (lit_piece h4 (by decide) (by decide) (by unfold notC; decide) (by rw [h5]; decide)) (G.nil 1 1 5 (by rw [h5]; unfold stopC; decide))
 have c : G mS .way 1 1 3 (.ok (.pcons (st 97) (.pcons (st 98) .pnil), 1) 5) := way_cons (by rw [h3]; unfold stopC; decide) (lit_piece h3 (by decide) (by decide) (by unfold notC; decide) (by rw [h4]; decide)) b
 exact ways_cons a h2 (G.one 1 1 3 1 5 _ c (by rw [h5]; decide))
theorem m_g2 : G mS .ways 1 2 7 (.ok (m2, 2) 12) := by
 obtain ⟨h0, h1, h2, h3, h4, h5, h6, h7, h8, h9, h10, h11, h12, h13, h14, h15, h16, h17⟩ := m_at
 have a : G mS .way 1 2 7 (.ok (.pcons (st 99) .pnil, 2) 8) := way_cons (by rw [h7]; unfold stopC; decide) (lit_piece h7 (by decide) (by decide) (by unfold notC; decide) (by rw [h8]; decide)) (G.nil 1 2 8 (by rw [h8]; unfold stopC; decide))
 have b : G mS .way 1 2 11 (.ok (.pcons (st 100) .pnil, 2) 12) := way_cons (by rw [h11]; unfold stopC; decide) (lit_piece h11 (by decide) (by decide) (by unfold notC; decide) (by rw [h12]; decide)) (G.nil 1 2 12 (by rw [h12]; unfold stopC; decide))
 have c : G mS .way 1 2 10 (.ok (.pcons (st 99) (.pcons (st 100) .pnil), 2) 12) := way_cons (by rw [h10]; unfold stopC; decide) (lit_piece h10 (by decide) (by decide) (by unfold notC; decide) (by rw [h11]; decide)) b
 have d : G mS .way 1 2 9 (.ok (.pcons (st 98) (.pcons (st 99) (.pcons (st 100) .pnil)), 2) 12) := way_cons (by rw [h9]; unfold stopC; decide) (lit_piece h9 (by decide) (by decide) (by unfold notC; decide) (by rw [h10]; decide)) c
 exact ways_cons a h8 (G.one 1 2 9 2 12 _ d (by rw [h12]; decide))
theorem m_g3 : G mS .ways 1 3 14 (.ok (m3, 3) 16) := by
 obtain ⟨h0, h1, h2, h3, h4, h5, h6, h7, h8, h9, h10, h11, h12, h13, h14, h15, h16, h17⟩ := m_at
 have a : G mS .way 1 3 14 (.ok (.pcons (.rep 0 (-1) (st 100)) .pnil, 3) 16) := way_cons (by rw [h14]; unfold stopC; decide) (lit_star h14 (by decide) (by decide) (by unfold notC; decide) h15) (G.nil 1 3 16 (by rw [h16]; unfold stopC; decide))
 exact G.one 1 3 14 3 16 _ a (by rw [h16]; decide)
theorem m_read : PatR mS (.ok ⟨false, false, mX, 3⟩ 17) := by
 obtain ⟨h0, h1, h2, h3, h4, h5, h6, h7, h8, h9, h10, h11, h12, h13, h14, h15, h16, h17⟩ := m_at
 have p1 : G mS .piece 0 0 0 (.ok (.grp 1 m1, 1) 6) := grp_piece h0 (by decide) m_g1 h5 (by rw [h6]; decide)
 have p2 : G mS .piece 0 1 6 (.ok (.grp 2 m2, 2) 13) := grp_piece h6 (by decide) m_g2 h12 (by rw [h13]; decide)
 have p3 : G mS .piece 0 2 13 (.ok (.grp 3 m3, 3) 17) := grp_piece h13 (by decide) m_g3 h16 (by rw [h17]; decide)
 have w3 : G mS .way 0 2 13 (.ok (.pcons (.grp 3 m3) .pnil, 3) 17) := way_cons (by rw [h13]; unfold stopC; decide) p3 (G.nil 0 3 17 (by rw [h17]; unfold stopC; decide))
 have w2 : G mS .way 0 1 6 (.ok (.pcons (.grp 2 m2) (.pcons (.grp 3 m3) .pnil), 3) 17) := way_cons (by rw [h6]; unfold stopC; decide) p2 w3
 have w1 : G mS .way 0 0 0 (.ok (.pcons (.grp 1 m1) (.pcons (.grp 2 m2) (.pcons (.grp 3 m3) .pnil)), 3) 17) := way_cons (by rw [h0]; unfold stopC; decide) p1 w2
 have hw : wi mS = 0 := by simp [wi, h0]
 refine ⟨.ok (mX, 3) 17, ?_, ?_⟩
 ·rw [hw]
  exact G.one 0 0 0 3 17 _ w1 (by rw [h17]; decide)
 ·simp [PatE_ok, h17, h0]
theorem st_yes {s : ByteArray} {c : Int} {i : Nat} (h : i < s.size ∧ stretch c c (at' s i).toNat = true) : Mt s (st c) i (i + 1) := ⟨h.1, h.2, rfl⟩
theorem st_no {s : ByteArray} {c : Int} {i j : Nat} (h : stretch c c (at' s i).toNat = false) : ¬ Mt s (st c) i j := fun hm => by have := hm.2.1; rw [h] at this; cases this
theorem TR.cast {s : ByteArray} {J : Job} {i j : Nat} {t u : List UInt8} {ev : List (Nat × Nat × Nat)} (h : TR s J i j t ev) (e : t = u) : TR s J i j u ev := e ▸ h
theorem t_at : stretch 97 97 (at' mT 0).toNat = true ∧ stretch 98 98 (at' mT 1).toNat = true ∧ stretch 99 99 (at' mT 2).toNat = true ∧ stretch 100 100 (at' mT 3).toNat = true ∧ stretch 98 98 (at' mT 2).toNat = false ∧ mT.size = 4 := by decide
theorem g1_end {j : Nat} : Mt mT m1 0 j ↔ j = 1 ∨ j = 2 := by
 obtain ⟨b0, b1, b2, b3, n2, hs⟩ := t_at
 constructor
 ·rintro (⟨m, ⟨_, _, rfl⟩, h⟩ | ⟨m, ⟨_, _, rfl⟩, m', ⟨_, _, rfl⟩, h⟩)
  ·exact Or.inl h.symm
  ·exact Or.inr h.symm
 ·rintro (rfl | rfl)
  ·exact Or.inl ⟨1, st_yes (by rw [hs]; exact ⟨by decide, b0⟩), rfl⟩
  ·exact Or.inr ⟨1, st_yes (by rw [hs]; exact ⟨by decide, b0⟩), 2, st_yes (by rw [hs]; exact ⟨by decide, b1⟩), rfl⟩
theorem g2_end {j : Nat} : Mt mT m2 2 j ↔ j = 3 := by
 obtain ⟨b0, b1, b2, b3, n2, hs⟩ := t_at
 constructor
 ·rintro (⟨m, ⟨_, _, rfl⟩, h⟩ | ⟨m, h, _⟩)
  ·exact h.symm
  ·exact absurd h (st_no n2)
 ·rintro rfl
  exact Or.inl ⟨3, st_yes (by rw [hs]; exact ⟨by decide, b2⟩), rfl⟩
theorem g3_yes : Mt mT m3 3 4 := by
 obtain ⟨b0, b1, b2, b3, n2, hs⟩ := t_at
 exact ⟨4, ⟨1, by decide, Or.inl (by decide), 4, st_yes (by rw [hs]; exact ⟨by decide, b3⟩), rfl⟩, rfl⟩
theorem m_rest2 : Mt mT (.pcons (.grp 3 m3) .pnil) 3 4 := ⟨4, g3_yes, rfl⟩
theorem m_rest1 : Mt mT (.pcons (.grp 2 m2) (.pcons (.grp 3 m3) .pnil)) 2 4 := ⟨3, g2_end.2 rfl, m_rest2⟩
theorem m_mt : Mt mT mX 0 mT.size := ⟨2, g1_end.2 (Or.inr rfl), m_rest1⟩
def mTree : List UInt8 := [40, 115, 32, 40, 103, 49, 32, 40, 97, 49, 32, 40, 115, 32, 98, 54, 49, 32, 98, 54, 50, 41, 41, 41, 32, 40, 103, 50, 32, 40, 97, 48, 32, 98, 54, 51, 41, 41, 32, 40, 103, 51, 32, 40, 114, 32, 98, 54, 52, 41, 41, 41]
theorem m_tree : ∃ ev, TR mT (.node mX) 0 mT.size mTree ev := by
 obtain ⟨b0, b1, b2, b3, n2, hs⟩ := t_at
 have k1 : TR mT (.kids (.pcons (st 97) (.pcons (st 98) .pnil))) 0 2 _ _ := .kgo (st 97) _ 0 2 1 _ _ _ _ ⟨by decide, by decide, fun _ => ⟨st_yes (by rw [hs]; exact ⟨by decide, b0⟩), 2, st_yes (by rw [hs]; exact ⟨by decide, b1⟩), rfl⟩, fun m h1 _ hm => by have := hm.1.2.2; omega⟩ (.byte _ 0 1)
  (.kgo (st 98) .pnil 1 2 2 _ _ _ _ ⟨by decide, by decide, fun _ => ⟨st_yes (by rw [hs]; exact ⟨by decide, b1⟩), rfl⟩, fun m h1 h2 _ => by omega⟩ (.byte _ 1 2) (.kend 2 2))
 have r1 : TR mT (.node (.grp 1 m1)) 0 2 _ _ := .grp 1 m1 0 2 _ _ (.wcons _ _ 0 2 _ _ (.miss 0 _ _ 0 2 _ _ (fun hm => by obtain ⟨m, h1, h2⟩ := hm; have e1 := h1.2.2; have e2 : m = 2 := h2; omega) (.last 1 _ 0 2 _ _ (.row _ _ _ 0 2 _ _ k1))))
 have r2 : TR mT (.node (.grp 2 m2)) 2 3 _ _ := .grp 2 m2 2 3 _ _ (.wcons _ _ 2 3 _ _ (.hit 0 _ _ 2 3 _ _ ⟨3, st_yes (by rw [hs]; exact ⟨by decide, b2⟩), rfl⟩ (.lone _ 2 3 _ _ (.byte _ 2 3))))
 have r3 : TR mT (.node (.grp 3 m3)) 3 4 _ _ := .grp 3 m3 3 4 _ _ (.wone _ 3 4 _ _ (.lone _ 3 4 _ _ (.rep 0 (-1) _ 3 4 _ _ (.tgo 0 (-1) (st 100) 3 4 4 _ _ _ _ (Or.inl (by decide)) ⟨by decide, by decide, fun _ => ⟨st_yes (by rw [hs]; exact ⟨by decide, b3⟩), 0, by decide, Or.inl (by decide), rfl⟩, fun m h1 h2 _ => by omega⟩ (.byte _ 3 4) (.tend _ _ _ 4 4 (by decide))))))
 have q3 : TR mT (.kids (.pcons (.grp 3 m3) .pnil)) 3 4 _ _ := .kgo (.grp 3 m3) .pnil 3 4 4 _ _ _ _ ⟨by decide, by decide, fun _ => ⟨g3_yes, rfl⟩, fun m h1 h2 _ => by omega⟩ r3 (.kend 4 4)
 have q2 : TR mT (.kids (.pcons (.grp 2 m2) (.pcons (.grp 3 m3) .pnil))) 2 4 _ _ := .kgo (.grp 2 m2) _ 2 4 3 _ _ _ _ ⟨by decide, by decide, fun _ => ⟨g2_end.2 rfl, m_rest2⟩, fun m h1 _ hm => by have := g2_end.1 hm.1; omega⟩ r2 q3
 have q1 : TR mT (.kids (.pcons (.grp 1 m1) (.pcons (.grp 2 m2) (.pcons (.grp 3 m3) .pnil)))) 0 4 _ _ := .kgo (.grp 1 m1) _ 0 4 2 _ _ _ _ ⟨by decide, by decide, fun _ => ⟨g1_end.2 (Or.inr rfl), m_rest1⟩, fun m h1 _ hm => by have := g1_end.1 hm.1; omega⟩ r1 q2
 have z : TR mT (.node mX) 0 4 _ _ := .wone _ 0 4 _ _ (.row _ _ _ 0 4 _ _ q1)
 rw [hs]
 exact ⟨_, z.cast (by decide +kernel)⟩
theorem m_match : MatchA mS mT mTree true 0 := by
 obtain ⟨ev, h⟩ := m_tree
 exact Or.inr ⟨by decide, _, m_read, Or.inr ⟨by decide, Or.inr ⟨m_mt, mTree, ev, h, Or.inl ⟨by decide, rfl, rfl, rfl⟩⟩⟩⟩
end Go.Proofs.YtnfojonmohijpabGreatDoor
namespace Go.Proofs.YtnfojonmohijpabGreatDoor
open Go.RowKit
theorem Sg.lit {c : UInt8} (h1 : (c.toNat : Int) ≠ 40 ∧ (c.toNat : Int) ≠ 91 ∧ (c.toNat : Int) ≠ 46 ∧ (c.toNat : Int) ≠ 92) (h2 : ¬ notC (c.toNat : Int)) : Sg [c] (.set (stretch (c.toNat : Int) (c.toNat : Int))) := by
 refine ⟨⟨c, [], rfl, ?_, ?_⟩, ?_⟩
 ·unfold notC at h2; unfold noRep; omega
 ·unfold notC at h2; unfold stopC; omega
 ·intro s i d g hl
  have h := (Lies.cons.1 hl).1
  have a := G.lit (s := s) d g i (by omega) (by rw [h]; exact h1.1) (by rw [h]; exact h1.2.1) (by rw [h]; exact h1.2.2.1) (by rw [h]; exact h1.2.2.2) (by rw [h]; exact h2)
  rw [h] at a
  exact a
theorem sg97 : Sg [97] (st 97) := Sg.lit (c := 97) (by decide) (by unfold notC; decide)
end Go.Proofs.YtnfojonmohijpabGreatDoor
namespace Go.Proofs.YtnfojonmohijpabGreatDoor
theorem bytes2 {s : ByteArray} {i : Nat} {a b : UInt8} (h : Lies s i [a, b]) : at' s i = (a.toNat : Int) ∧ at' s (i + 1) = (b.toNat : Int) := by
 obtain ⟨h0, h⟩ := Lies.cons.1 h
 obtain ⟨h1, _⟩ := Lies.cons.1 h
 exact ⟨h0, h1⟩
theorem sgEsc : Sg [92, 46] (.set (stretch 46 46)) := by
 refine ⟨⟨92, [46], rfl, by unfold noRep; decide, by unfold stopC; decide⟩, fun s i d g hl => ?_⟩
 obtain ⟨h0, h1⟩ := bytes2 hl
 have h1' : at' s (i + 1) = 46 := h1
 have e : escS s 0 (i + 1) = .ok 46 (i + 2) := by unfold escS; rw [h1']; simp [alnB, digB]
 have := G.esc (s := s) d g i h0
 rw [e] at this
 exact this
theorem rng1 {s : ByteArray} {i : Nat} {c : Int} (h : at' s i = c) (hc : 0 ≤ c ∧ c ≠ 91 ∧ c ≠ 92 ∧ c ≠ 93 ∧ c ≠ 45 ∧ c ≠ 94) (hn : at' s (i + 1) ≠ 45) : rangeS s i = .ok (stretch c c) (i + 1) := by
 have e : innS s 0 i = .ok c (i + 1) := by
  unfold innS
  rw [h, if_neg hc.2.2.1, if_neg (by omega)]
 unfold rangeS
 rw [h, if_neg hc.2.1, e]
 simp only [R.bind]
 rw [if_neg hn]
theorem sgCls : Sg [91, 91, 58, 108, 111, 119, 101, 114, 58, 93, 93] (.set fun n => clsB 1 n) := by
 refine ⟨⟨91, [91, 58, 108, 111, 119, 101, 114, 58, 93, 93], rfl, by unfold noRep; decide, by unfold stopC; decide⟩, fun s i d g hl => ?_⟩
 obtain ⟨h0, hl⟩ := Lies.cons.1 hl
 obtain ⟨h1, hl⟩ := Lies.cons.1 hl
 obtain ⟨h2, hl⟩ := Lies.cons.1 hl
 obtain ⟨h3, hl⟩ := Lies.cons.1 hl
 obtain ⟨h4, hl⟩ := Lies.cons.1 hl
 obtain ⟨h5, hl⟩ := Lies.cons.1 hl
 obtain ⟨h6, hl⟩ := Lies.cons.1 hl
 obtain ⟨h7, hl⟩ := Lies.cons.1 hl
 obtain ⟨h8, hl⟩ := Lies.cons.1 hl
 obtain ⟨h9, hl⟩ := Lies.cons.1 hl
 obtain ⟨h10, _⟩ := Lies.cons.1 hl
 have g3 := lies_get h3
 have g4 := lies_get h4
 have g5 := lies_get h5
 have g6 := lies_get h6
 have g7 := lies_get h7
 have c5 : clsS s 1 [108, 111, 119, 101, 114] (i + 1 + 1 + 1 + 1 + 1 + 1 + 1 + 1) = .ok 1 (i + 1 + 1 + 1 + 1 + 1 + 1 + 1 + 1) := by
  rw [clsS, show names.findIdx? (· = [108, 111, 119, 101, 114]) = some 1 by decide]
 have step : ∀ (f : Nat) (w : List UInt8) (c : UInt8) (j : Nat), at' s j = (c.toNat : Int) → names.findIdx? (· = w) = none → goesOn w (c.toNat : Int) = true → clsS s (f + 1) w j = clsS s f (w ++ [c]) (j + 1) := by
  intro f w c j h hn hg
  rw [clsS, hn, h, lies_get h]
  simp only [hg, if_true]
 have c0 : clsS s 6 [] (i + 1 + 1 + 1) = .ok 1 (i + 1 + 1 + 1 + 1 + 1 + 1 + 1 + 1) := by
  rw [step 5 [] 108 _ h3 (by decide) (by decide), step 4 _ 111 _ h4 (by decide) (by decide), step 3 _ 119 _ h5 (by decide) (by decide), step 2 _ 101 _ h6 (by decide) (by decide), step 1 _ 114 _ h7 (by decide) (by decide)]
  exact c5
 have h1' : at' s (i + 1) = 91 := h1
 have h2' : at' s (i + 1 + 1) = 58 := h2
 have h8' : at' s (i + 1 + 1 + 1 + 1 + 1 + 1 + 1 + 1) = 58 := h8
 have h9' : at' s (i + 1 + 1 + 1 + 1 + 1 + 1 + 1 + 1 + 1) = 93 := h9
 have h10' : at' s (i + 1 + 1 + 1 + 1 + 1 + 1 + 1 + 1 + 1 + 1) = 93 := h10
 have ec : classS s (i + 1) = .ok 1 (i + 1 + 1 + 1 + 1 + 1 + 1 + 1 + 1 + 1 + 1) := by
  unfold classS needS
  rw [h2']
  simp only [if_true, R.bind]
  rw [c0]
  simp only [R.bind]
  rw [h8']
  simp only [if_true, R.bind]
  rw [h9']
  simp only [if_true, R.bind]
 have er : rangeS s (i + 1) = .ok (fun n => clsB 1 n) (i + 1 + 1 + 1 + 1 + 1 + 1 + 1 + 1 + 1 + 1) := by
  unfold rangeS
  rw [if_pos h1', ec]
  rfl
 exact G.set d g i (.ok _ (i + 11)) h0 (Or.inr ⟨by rw [h1']; decide, SetU.go _ (i + 1) _ _ er (SetL.done _ _ h10')⟩)
end Go.Proofs.YtnfojonmohijpabGreatDoor
namespace Go.Proofs.YtnfojonmohijpabGreatDoor
open Go.RowKit
def PlainA (s : ByteArray) (t : List UInt8) (place errno : Int) : Prop :=
 (60 < s.size ∧ t = [] ∧ place = 0 ∧ errno = 1) ∨
 (s.size ≤ 60 ∧ ∃ q, PatR s q ∧ match q with
   | .bad j => t = [] ∧ place = (j : Int) ∧ errno = 2
   | .ok W _ => t = wholeT W ∧ place = 0 ∧ errno = 0)
end Go.Proofs.YtnfojonmohijpabGreatDoor
namespace Go.Proofs.YtnfojonmohijpabGreatDoor
theorem sg98 : Sg [98] (st 98) := Sg.lit (c := 98) (by decide) (by unfold notC; decide)
theorem sg120 : Sg [120] (st 120) := Sg.lit (c := 120) (by decide) (by unfold notC; decide)
def eT : ByteArray := ⟨#[]⟩
def kI1 : Pat := .wone (.pcons (.rep 0 (-1) (st 97)) .pnil)
def kA1 : ByteArray := ⟨#[40, 97, 42, 41, 42]⟩
def kA2 : ByteArray := ⟨#[40, 97, 42, 41, 43]⟩
def kA3 : ByteArray := ⟨#[97, 124]⟩
def kX1 : Pat := .wone (.pcons (.rep 0 (-1) (.grp 1 kI1)) .pnil)
def kX2 : Pat := .wone (.pcons (.rep 1 (-1) (.grp 1 kI1)) .pnil)
def kX3 : Pat := .wcons (.pcons (st 97) .pnil) (.wone .pnil)
theorem kr1 : PatR kA1 (.ok ⟨false, false, kX1, 1⟩ 5) := (Ws.one (Wy.grp (Ws.one (Wy.single sg97 Rx.star)) Rx.star)).whole (by decide) (by decide) (by decide) kA1 rfl
theorem kr2 : PatR kA2 (.ok ⟨false, false, kX2, 1⟩ 5) := (Ws.one (Wy.grp (Ws.one (Wy.single sg97 Rx.star)) Rx.plus)).whole (by decide) (by decide) (by decide) kA2 rfl
theorem kr3 : PatR kA3 (.ok ⟨false, false, kX3, 0⟩ 2) := (Ws.cons (Wy.single sg97 Rx.none) Ws.nil).whole (by decide) (by decide) (by decide) kA3 rfl
theorem km0 : Mt eT kI1 0 0 := ⟨0, ⟨0, Nat.le_refl _, Or.inl (by decide), rfl⟩, rfl⟩
theorem kt0 : TR eT (.node kI1) 0 0 [40, 114, 41] [] := .wone _ 0 0 _ _ (.lone _ 0 0 _ _ (.rep 0 (-1) _ 0 0 _ _ (.tend _ _ _ 0 0 (by decide))))
theorem ka1 : MatchA kA1 eT [40, 114, 41] true 0 := by
 have hm : Mt eT kX1 0 0 := ⟨0, ⟨0, Nat.le_refl _, Or.inl (by decide), rfl⟩, rfl⟩
 have ht : TR eT (.node kX1) 0 0 [40, 114, 41] [] := .wone _ 0 0 _ _ (.lone _ 0 0 _ _ (.rep 0 (-1) _ 0 0 _ _ (.tend _ _ _ 0 0 (by decide))))
 exact Or.inr ⟨by decide, _, kr1, Or.inr ⟨by decide, Or.inr ⟨hm, _, _, ht, Or.inl ⟨by decide, rfl, rfl, rfl⟩⟩⟩⟩
theorem ka2 : MatchA kA2 eT [40, 114, 32, 40, 103, 49, 32, 40, 114, 41, 41, 41] true 0 := by
 have hm : Mt eT kX2 0 0 := ⟨0, ⟨1, Nat.le_refl _, Or.inl (by decide), 0, km0, rfl⟩, rfl⟩
 have ht : TR eT (.node kX2) 0 0 _ _ := .wone _ 0 0 _ _ (.lone _ 0 0 _ _ (.rep 1 (-1) _ 0 0 _ _ (.tgo 1 (-1) _ 0 0 0 _ _ _ _ (Or.inr (by decide)) ⟨Nat.le_refl _, Nat.le_refl _, fun h => by omega, fun m h1 h2 => by omega⟩ (.grp 1 _ 0 0 _ _ kt0) (.tend _ _ _ 0 0 (by decide)))))
 exact Or.inr ⟨by decide, _, kr2, Or.inr ⟨by decide, Or.inr ⟨hm, _, _, ht.cast (u := [40, 114, 32, 40, 103, 49, 32, 40, 114, 41, 41, 41]) (by decide +kernel), Or.inl ⟨by decide, rfl, rfl, rfl⟩⟩⟩⟩
theorem ka3 : MatchA kA3 eT [40, 97, 49, 32, 101, 41] true 0 := by
 have hm : Mt eT kX3 0 0 := Or.inr rfl
 have ht : TR eT (.node kX3) 0 0 _ _ := .wcons _ _ 0 0 _ _ (.miss 0 _ _ 0 0 _ _ (fun h => by obtain ⟨m, h1, _⟩ := h; exact absurd h1.1 (by decide)) (.last 1 .pnil 0 0 _ _ (.nil 0 0)))
 exact Or.inr ⟨by decide, _, kr3, Or.inr ⟨by decide, Or.inr ⟨hm, _, _, ht.cast (u := [40, 97, 49, 32, 101, 41]) (by decide +kernel), Or.inl ⟨by decide, rfl, rfl, rfl⟩⟩⟩⟩
theorem sgBda : Sg [91, 98, 45, 100, 97, 93] (.set fun n => stretch 98 100 n || stretch 97 97 n) := by
 refine ⟨⟨91, [98, 45, 100, 97, 93], rfl, by unfold noRep; decide, by unfold stopC; decide⟩, fun s i d g hl => ?_⟩
 obtain ⟨h0, hl⟩ := Lies.cons.1 hl
 obtain ⟨h1, hl⟩ := Lies.cons.1 hl
 obtain ⟨h2, hl⟩ := Lies.cons.1 hl
 obtain ⟨h3, hl⟩ := Lies.cons.1 hl
 obtain ⟨h4, hl⟩ := Lies.cons.1 hl
 obtain ⟨h5, _⟩ := Lies.cons.1 hl
 have h1' : at' s (i + 1) = 98 := h1
 have h2' : at' s (i + 1 + 1) = 45 := h2
 have h3' : at' s (i + 1 + 1 + 1) = 100 := h3
 have h4' : at' s (i + 1 + 1 + 1 + 1) = 97 := h4
 have h5' : at' s (i + 1 + 1 + 1 + 1 + 1) = 93 := h5
 have r1 : rangeS s (i + 1) = .ok (stretch 98 100) (i + 1 + 1 + 1 + 1) := by simp [rangeS, innS, R.bind, h1', h2', h3']
 have r2 := rng1 h4' (by decide) (by rw [h5']; decide)
 exact G.set d g i (.ok _ (i + 6)) h0 (Or.inr ⟨by rw [h1']; decide, SetU.go _ (i + 1) _ _ r1 (SetL.more _ _ _ _ _ (by rw [h4']; decide) r2 (SetL.done _ _ h5'))⟩)
theorem rx001 : Rx [123, 48, 48, 44, 49, 125] (some (0, 1)) := by
 intro s j hl _
 obtain ⟨h0, hl⟩ := Lies.cons.1 hl
 obtain ⟨h1, hl⟩ := Lies.cons.1 hl
 obtain ⟨h2, hl⟩ := Lies.cons.1 hl
 obtain ⟨h3, hl⟩ := Lies.cons.1 hl
 obtain ⟨h4, hl⟩ := Lies.cons.1 hl
 obtain ⟨h5, _⟩ := Lies.cons.1 hl
 have h1' : at' s (j + 1) = 48 := h1
 have h2' : at' s (j + 1 + 1) = 48 := h2
 have h3' : at' s (j + 1 + 1 + 1) = 44 := h3
 have h4' : at' s (j + 1 + 1 + 1 + 1) = 49 := h4
 have h5' : at' s (j + 1 + 1 + 1 + 1 + 1) = 125 := h5
 have n1 : NumL s 0 0 false (j + 1) (.ok 0 (j + 1 + 1 + 1)) := NumL.dig 0 0 false _ _ (by rw [h1']; decide) (by rw [h1']; decide) (by decide) (Or.inl rfl) (NumL.dig 0 0 true _ _ (by rw [h2']; decide) (by rw [h2']; decide) (by decide) (Or.inl rfl) (NumL.done 0 _ (by rw [h3']; decide) (Nat.le_refl _)))
 have n2 : NumL s 0 0 false (j + 1 + 1 + 1 + 1) (.ok 1 (j + 1 + 1 + 1 + 1 + 1)) := NumL.dig 0 1 false _ _ (by rw [h4']; decide) (by rw [h4']; decide) (by decide) (Or.inr (Nat.zero_le _)) (NumL.done 1 _ (by rw [h5']; decide) (Nat.zero_le _))
 exact Or.inr (Or.inr (Or.inr (Or.inr ⟨h0, _, n1, Or.inr (Or.inl ⟨h3', by rw [h4']; decide, _, n2, by rw [Rep3, if_pos h5']; rfl⟩)⟩)))
def kB1 : ByteArray := ⟨#[91, 98, 45, 100, 97, 93, 120, 124, 92, 46, 123, 48, 48, 44, 49, 125]⟩
def kB2 : ByteArray := ⟨#[97, 41]⟩
def kB3 : ByteArray := ⟨#[97, 123, 50, 44, 49, 125]⟩
def kB4 : ByteArray := ⟨#[40, 97]⟩
def kY1 : Pat := .wcons (.pcons (.set fun n => stretch 98 100 n || stretch 97 97 n) (.pcons (st 120) .pnil)) (.wone (.pcons (.rep 0 1 (.set (stretch 46 46))) .pnil))
theorem kb1 : PatR kB1 (.ok ⟨false, false, kY1, 0⟩ 16) := (Ws.cons ((Wy.single sgBda Rx.none).app (Wy.single sg120 Rx.none)) (Ws.one (Wy.single sgEsc rx001))).whole (by decide) (by decide) (by decide) kB1 rfl
set_option maxRecDepth 100000 in
theorem kb1_text : wholeT ⟨false, false, kY1, 0⟩ = [91, 97, 45, 100, 93, 120, 124, 92, 120, 50, 101, 63] := by decide +kernel
theorem kp1 : PlainA kB1 [91, 97, 45, 100, 93, 120, 124, 92, 120, 50, 101, 63] 0 0 := Or.inr ⟨by decide, _, kb1, kb1_text.symm, rfl, rfl⟩
theorem kp2 : PlainA kB2 [] 1 2 := by
 obtain ⟨h0, h1⟩ : at' kB2 0 = 97 ∧ at' kB2 1 = 41 := by decide
 have hw : wi kB2 = 0 := by decide
 have hg : G kB2 .ways 0 0 0 (.ok (.wone (.pcons (st 97) .pnil), 0) 1) := (Ws.one (Wy.single sg97 Rx.none)) kB2 0 0 0 (Lies.cons.2 ⟨h0, Lies.nil⟩) (by decide) (by decide) (Or.inl h1)
 refine Or.inr ⟨by decide, .bad 1, ⟨.ok _ 1, by rw [hw]; exact hg, ?_⟩, rfl, rfl, rfl⟩
 simp [PatE_ok, h1]
theorem kp3 : PlainA kB3 [] 4 2 := by
 obtain ⟨h0, h1, h2, h3, h4, h5⟩ : at' kB3 0 = 97 ∧ at' kB3 1 = 123 ∧ at' kB3 2 = 50 ∧ at' kB3 3 = 44 ∧ at' kB3 4 = 49 ∧ at' kB3 5 = 125 := by decide
 have hw : wi kB3 = 0 := by decide
 have n1 : NumL kB3 0 0 false 2 (.ok 2 3) := NumL.dig 0 2 false _ _ (by rw [h2]; decide) (by rw [h2]; decide) (by decide) (Or.inr (Nat.zero_le _)) (NumL.done 2 _ (by rw [h3]; decide) (Nat.zero_le _))
 have n2 : NumL kB3 2 0 false 4 (.bad 4) := NumL.big 0 1 false _ (by rw [h4]; decide) (by rw [h4]; decide) (by decide)
 have hr : RepR kB3 1 (.bad 4) := Or.inr (Or.inr (Or.inr (Or.inr ⟨h1, _, n1, Or.inr (Or.inl ⟨h3, by rw [h4]; decide, _, n2, rfl⟩)⟩)))
 have hs : G kB3 .single 0 0 0 (.ok (st 97, 0) 1) := sg97.2 kB3 0 0 0 (Lies.cons.2 ⟨h0, Lies.nil⟩)
 have hp : G kB3 .piece 0 0 0 (.bad 4) := G.rep 0 0 0 0 1 _ (.bad 4) hs hr
 have hg : G kB3 .ways 0 0 0 (.bad 4) := .wbad 0 0 0 4 (.pbad 0 0 0 4 (by rw [h0]; unfold stopC; decide) hp)
 exact Or.inr ⟨by decide, .bad 4, ⟨.bad 4, by rw [hw]; exact hg, rfl⟩, rfl, rfl, rfl⟩
theorem kp4 : PlainA kB4 [] 2 2 := by
 obtain ⟨h0, h1, h2⟩ : at' kB4 0 = 40 ∧ at' kB4 1 = 97 ∧ at' kB4 2 = -1 := by decide
 have hw : wi kB4 = 0 := by decide
 have hi : G kB4 .ways 1 1 1 (.ok (.wone (.pcons (st 97) .pnil), 1) 2) := (Ws.one (Wy.single sg97 Rx.none)) kB4 1 1 1 (Lies.cons.2 ⟨h1, Lies.nil⟩) (by decide) (by decide) (Or.inr h2)
 have hs : G kB4 .single 0 0 0 (.bad 2) := .gopen 0 0 0 1 2 _ h0 (by decide) hi (by rw [h2]; decide)
 have hg : G kB4 .ways 0 0 0 (.bad 2) := .wbad 0 0 0 2 (.pbad 0 0 0 2 (by rw [h0]; unfold stopC; decide) (.sbad 0 0 0 2 hs))
 exact Or.inr ⟨by decide, .bad 2, ⟨.bad 2, by rw [hw]; exact hg, rfl⟩, rfl, rfl, rfl⟩
theorem FindA.hits {s : ByteArray} {W : Whole} {fr i j : Nat} {ans : Option (List Int)} (h : FindA s W fr ans) (hF : FirstAt s W fr i j) (hg : W.g = 0) : ans = some [(i : Int), (j : Int)] := by
 rcases h with ⟨_, h⟩ | ⟨i', j', t, ev, hf, _, h⟩
 ·exact absurd hF.2.2.2.1 (h i j hF.1 hF.2.1 hF.2.2.1)
 ·obtain ⟨rfl, rfl⟩ := hF.one hf
  rw [h]
  have e : evs (List.replicate (2 * W.g) (-1)) ev = [] := List.length_eq_zero_iff.1 (by rw [evs_len, hg]; rfl)
  exact congrArg some (by rw [e]; rfl)
theorem FindA.misses {s : ByteArray} {W : Whole} {fr : Nat} {ans : Option (List Int)} (h : FindA s W fr ans) (hF : ∀ i j, fr ≤ i → i ≤ j → j ≤ s.size → ¬ OkAt s W i j) : ans = none := by
 rcases h with ⟨h, _⟩ | ⟨i, j, t, ev, hf, _, _⟩
 ·exact h
 ·exact absurd hf.2.2.2.1 (hF i j hf.1 hf.2.1 hf.2.2.1)
theorem SearchA.find {p s : ByteArray} {fr : Nat} {ans : Option (List Int)} {n : Int} {W : Whole} {k : Nat} (h : SearchA p s fr ans n) (hp : p.size ≤ 60) (hs : s.size ≤ 100) (hf : fr ≤ s.size) (hq : PatR p (.ok W k)) : FindA s W fr ans ∧ n = 0 := by
 rcases h with ⟨h, _⟩ | ⟨_, q, hq', h⟩
 ·omega
 ·cases hq'.det hq
  rcases h with ⟨h, _⟩ | ⟨_, ⟨h, _⟩ | ⟨_, _, h, rfl⟩⟩
  ·omega
  ·omega
  ·exact ⟨h, rfl⟩
theorem itD {s : ByteArray} {f : Nat → Bool} : ∀ {n i j : Nat}, It (Mt s (.set f)) n i j ↔ j = i + n ∧ ∀ k, i ≤ k → k < j → k < s.size ∧ f (at' s k).toNat = true
 | 0, i, j => ⟨fun h => ⟨by have : i = j := h; omega, fun k h1 h2 => by have : i = j := h; omega⟩, fun h => by show i = j; omega⟩
 | n + 1, i, j => by
  constructor
  ·rintro ⟨m, ⟨h1, h2, rfl⟩, h3⟩
   obtain ⟨rfl, h4⟩ := itD.1 h3
   refine ⟨by omega, fun k h5 h6 => ?_⟩
   by_cases e : k = i
   ·subst e; exact ⟨h1, h2⟩
   ·exact h4 k (by omega) h6
  ·rintro ⟨rfl, h⟩
   exact ⟨i + 1, ⟨(h i (Nat.le_refl _) (by omega)).1, (h i (Nat.le_refl _) (by omega)).2, rfl⟩, itD.2 ⟨by omega, fun k h1 h2 => h k (by omega) h2⟩⟩
theorem manyD {s : ByteArray} {f : Nat → Bool} {a i j : Nat} : Mt s (.wone (.pcons (.rep a (-1) (.set f)) .pnil)) i j ↔ i + a ≤ j ∧ ∀ k, i ≤ k → k < j → k < s.size ∧ f (at' s k).toNat = true := by
 constructor
 ·rintro ⟨m, ⟨n, hn, _, h⟩, rfl⟩
  obtain ⟨rfl, h⟩ := itD.1 h
  exact ⟨by omega, h⟩
 ·rintro ⟨h1, h2⟩
  exact ⟨j, ⟨j - i, by omega, Or.inl (by decide), itD.2 ⟨by omega, h2⟩⟩, rfl⟩
def kT2 : ByteArray := ⟨#[97, 98, 98]⟩
theorem kt_at : (stretch 98 98 (at' kT2 0).toNat = false ∧ stretch 98 98 (at' kT2 1).toNat = true ∧ stretch 98 98 (at' kT2 2).toNat = true) ∧ kT2.size = 3 := by decide
theorem kt_12 : ∀ k, 1 ≤ k → k < 3 → k < kT2.size ∧ stretch 98 98 (at' kT2 k).toNat = true := by
 obtain ⟨⟨a0, a1, a2⟩, hs⟩ := kt_at
 intro k h1 h2
 rcases (by omega : k = 1 ∨ k = 2) with rfl | rfl
 ·exact ⟨by rw [hs]; decide, a1⟩
 ·exact ⟨by rw [hs]; decide, a2⟩
def kC1 : ByteArray := ⟨#[98, 42]⟩
def kC2 : ByteArray := ⟨#[98, 43, 36]⟩
def kC3 : ByteArray := ⟨#[94, 98]⟩
theorem kc1 : PatR kC1 (.ok ⟨false, false, .wone (.pcons (.rep 0 (-1) (st 98)) .pnil), 0⟩ 2) := (Ws.one (Wy.single sg98 Rx.star)).whole (by decide) (by decide) (by decide) kC1 rfl
theorem ks1 {ans : Option (List Int)} {n : Int} (h : SearchA kC1 kT2 0 ans n) : ans = some [0, 0] ∧ n = 0 := by
 obtain ⟨⟨a0, a1, a2⟩, hs⟩ := kt_at
 obtain ⟨hf, rfl⟩ := SearchA.find (fr := 0) h (by decide) (by rw [hs]; decide) (by omega) kc1
 refine ⟨hf.hits (i := 0) (j := 0) ⟨Nat.le_refl _, Nat.le_refl _, Nat.zero_le _, ⟨manyD.2 ⟨Nat.le_refl _, fun k h1 h2 => by omega⟩, fun h => (Bool.noConfusion h), fun h => (Bool.noConfusion h)⟩, fun i' j' _ h => by omega, fun j' h1 h2 hok => ?_⟩ rfl, rfl⟩
 have := ((manyD.1 hok.1).2 0 (Nat.le_refl _) h1).2
 rw [a0] at this
 cases this
theorem ks2 {ans : Option (List Int)} {n : Int} (h : SearchA kC1 kT2 1 ans n) : ans = some [1, 3] ∧ n = 0 := by
 obtain ⟨⟨a0, a1, a2⟩, hs⟩ := kt_at
 obtain ⟨hf, rfl⟩ := SearchA.find (fr := 1) h (by decide) (by rw [hs]; decide) (by rw [hs]; decide) kc1
 exact ⟨hf.hits (i := 1) (j := 3) ⟨Nat.le_refl _, by decide, by rw [hs]; decide, ⟨manyD.2 ⟨by decide, kt_12⟩, fun h => (Bool.noConfusion h), fun h => (Bool.noConfusion h)⟩, fun i' j' _ h => by omega, fun j' h1 h2 hok => by rw [hs] at h2; omega⟩ rfl, rfl⟩
theorem kc2 : PatR kC2 (.ok ⟨false, true, .wone (.pcons (.rep 1 (-1) (st 98)) .pnil), 0⟩ 3) := by
 obtain ⟨h0, h1, h2, h3⟩ : at' kC2 0 = 98 ∧ at' kC2 1 = 43 ∧ at' kC2 2 = 36 ∧ at' kC2 3 = -1 := by decide
 have hw : wi kC2 = 0 := by decide
 have h := (Wy.single sg98 Rx.plus).rd kC2 0 0 0 (.ok (.pnil, 0) 2) (Lies.cons.2 ⟨h0, Lies.cons.2 ⟨h1, Lies.nil⟩⟩) (by decide) (by decide) (by show noRep (at' kC2 2); rw [h2]; unfold noRep; decide) (G.nil 0 0 2 (by rw [h2]; unfold stopC; decide))
 refine ⟨.ok (.wone (.pcons (.rep 1 (-1) (st 98)) .pnil), 0) 2, by rw [hw]; exact G.one 0 0 0 0 2 _ h (by rw [h2]; decide), ?_⟩
 simp [PatE_ok, h0, h2, h3]
theorem ks3 {ans : Option (List Int)} {n : Int} (h : SearchA kC2 kT2 0 ans n) : ans = some [1, 3] ∧ n = 0 := by
 obtain ⟨⟨a0, a1, a2⟩, hs⟩ := kt_at
 obtain ⟨hf, rfl⟩ := SearchA.find (fr := 0) h (by decide) (by rw [hs]; decide) (by omega) kc2
 refine ⟨hf.hits (i := 1) (j := 3) ⟨by decide, by decide, by rw [hs]; decide, ⟨manyD.2 ⟨by decide, kt_12⟩, fun h => (Bool.noConfusion h), fun _ => by rw [hs]⟩, fun i' j' _ h2 h3 h4 hok => ?_, fun j' h1 h2 hok => by rw [hs] at h2; omega⟩ rfl, rfl⟩
 obtain rfl : i' = 0 := by omega
 have h5 := manyD.1 hok.1
 have := (h5.2 0 (Nat.le_refl _) (by omega)).2
 rw [a0] at this
 cases this
theorem kc3 : PatR kC3 (.ok ⟨true, false, .wone (.pcons (st 98) .pnil), 0⟩ 2) := by
 obtain ⟨h0, h1, h2⟩ : at' kC3 0 = 94 ∧ at' kC3 1 = 98 ∧ at' kC3 2 = -1 := by decide
 have hw : wi kC3 = 1 := by decide
 have h : G kC3 .ways 0 0 1 (.ok (.wone (.pcons (st 98) .pnil), 0) 2) := (Ws.one (Wy.single sg98 Rx.none)) kC3 1 0 0 (Lies.cons.2 ⟨h1, Lies.nil⟩) (by decide) (by decide) (Or.inr h2)
 refine ⟨.ok _ 2, by rw [hw]; exact h, ?_⟩
 simp [PatE_ok, h0, h2]
theorem ks4 {ans : Option (List Int)} {n : Int} (h : SearchA kC3 kT2 0 ans n) : ans = none ∧ n = 0 := by
 obtain ⟨⟨a0, a1, a2⟩, hs⟩ := kt_at
 obtain ⟨hf, rfl⟩ := SearchA.find (fr := 0) h (by decide) (by rw [hs]; decide) (by omega) kc3
 refine ⟨hf.misses fun i j _ _ _ hok => ?_, rfl⟩
 obtain rfl : i = 0 := hok.2.1 rfl
 obtain ⟨m, hm, _⟩ := hok.1
 exact st_no a0 hm
end Go.Proofs.YtnfojonmohijpabGreatDoor
namespace Go.Proofs.YtnfojonmohijpabGreatDoor
inductive Part where
 | byte (u : UInt8)
 | grp (g : Nat)
def partF (s : ByteArray) (gs i : Nat) : Option (Part × Nat) :=
 if at' s i = 92 then
  if at' s (i + 1) = 110 then some (.byte 10, i + 2)
  else if at' s (i + 1) = 92 then some (.byte 92, i + 2)
  else if 48 ≤ at' s (i + 1) ∧ at' s (i + 1) ≤ 57 ∧ at' s (i + 1) - 48 ≤ (gs : Int) then some (.grp (at' s (i + 1) - 48).toNat, i + 2)
  else none
 else some (.byte (UInt8.ofNat (at' s i).toNat), i + 1)
inductive TplA (s : ByteArray) (gs : Nat) : Nat → Option (List Part) → Prop
 | fin (i : Nat) : s.size ≤ i → TplA s gs i (some [])
 | bad (i : Nat) : i < s.size → partF s gs i = none → TplA s gs i none
 | go (i k : Nat) (p : Part) (q : Option (List Part)) : i < s.size → partF s gs i = some (p, k) → TplA s gs k q → TplA s gs i (q.map (p :: ·))
theorem TplA.det {s : ByteArray} {gs i : Nat} {q : Option (List Part)} (h : TplA s gs i q) : ∀ {q' : Option (List Part)}, TplA s gs i q' → q = q' := by
 induction h with
 | fin i h =>
  intro q' k
  cases k with
  | fin => rfl
  | bad _ k => omega
  | go _ _ _ _ k => omega
 | bad i h1 h2 =>
  intro q' k
  cases k with
  | fin _ k => omega
  | bad => rfl
  | go _ _ _ _ _ k => rw [h2] at k; cases k
 | go i k p q h1 h2 _ ih =>
  intro q' k
  cases k with
  | fin _ k => omega
  | bad _ _ k => rw [h2] at k; cases k
  | go _ k' p' q' _ h3 h4 =>
   rw [h2] at h3
   cases h3
   rw [ih h4]
theorem partF_le {s : ByteArray} {gs i k : Nat} {p : Part} (h : partF s gs i = some (p, k)) (hi : i < s.size) : i < k ∧ k ≤ s.size ∧ ∀ g, p = .grp g → g ≤ gs ∧ g ≤ 9 := by
 unfold partF at h
 split at h
 ·split at h
  ·rename_i h2
   cases h
   have := at'_nn (s := s) (i := i + 1) (by omega)
   exact ⟨by omega, by omega, fun g e => by cases e⟩
  ·split at h
   ·cases h
    have := at'_nn (s := s) (i := i + 1) (by omega)
    exact ⟨by omega, by omega, fun g e => by cases e⟩
   ·split at h
    ·cases h
     have := at'_nn (s := s) (i := i + 1) (by omega)
     exact ⟨by omega, by omega, fun g e => by cases e; omega⟩
    ·cases h
 ·cases h
  exact ⟨by omega, by omega, fun g e => by cases e⟩
def cutL (line : ByteArray) (b e : Int) : List UInt8 := (line.extract b.toNat e.toNat).data.toList
def Part.fill (line : ByteArray) (sp : List Int) : Part → List UInt8
 | .byte u => [u]
 | .grp g => if 0 ≤ sp.getD (2 * g) (-1) then cutL line (sp.getD (2 * g) (-1)) (sp.getD (2 * g + 1) (-1)) else []
def fillP (ps : List Part) (line : ByteArray) (sp : List Int) : List UInt8 := ps.flatMap (·.fill line sp)
end Go.Proofs.YtnfojonmohijpabGreatDoor
