/-
  DERIVED. The contract of the reference's 'Read': a pattern is read, or told to be too long, or where it is none. No conditions.
-/
import Derived.Test.YtnfojonmohijpaaGreatDoorJRR
import Derived.Test.YtnfojonmohijpaaGreatDoorJSpec
import Derived.OwnWalk
import Derived.Test.YtnfojonmohijpaaGreatDoorJNA
import Derived.Deep.MidRow
set_option linter.unusedSimpArgs false
set_option linter.unusedVariables false
namespace Go.Proofs.YtnfojonmohijpaaGreatDoor
open Go.RowKit
theorem PB.rbe {w : World} {b : Nat} {p : PS} (h : PB w b p) :
    w.cell? ⟨b, 2, none⟩ = some (.int .i64 p.root) ∧ w.cell? ⟨b, 3, none⟩ = some (.bool p.bg) ∧ w.cell? ⟨b, 4, none⟩ = some (.bool p.en) ∧ w.frozen? ⟨b, 2, none⟩ = false ∧ w.frozen? ⟨b, 3, none⟩ = false ∧ w.frozen? ⟨b, 4, none⟩ = false := by
 unfold PB at h
 simp [World.cell?, World.frozen?, h, PS.cells]
theorem PB.setRoot {w : World} {b : Nat} {p : PS} (h : PB w b p) (x : Nat) : PB (w.setCell ⟨b, 2, none⟩ (.int .i64 x)) b { p with root := x } := by
 unfold PB at *
 simp [World.setCell, Array.getElem?_modify, h, PS.cells]
theorem PB.setBg {w : World} {b : Nat} {p : PS} (h : PB w b p) (x : Bool) : PB (w.setCell ⟨b, 3, none⟩ (.bool x)) b { p with bg := x } := by
 unfold PB at *
 simp [World.setCell, Array.getElem?_modify, h, PS.cells]
theorem PB.setEn {w : World} {b : Nat} {p : PS} (h : PB w b p) (x : Bool) : PB (w.setCell ⟨b, 4, none⟩ (.bool x)) b { p with en := x } := by
 unfold PB at *
 simp [World.setCell, Array.getElem?_modify, h, PS.cells]
theorem keeps_new {S : List Nat} {w w1 w2 : World} (h : Keeps [] w w1) (hk : Keeps S w1 w2) (hS : ∀ x, x ∈ S → w.heap.size ≤ x) : Keeps [] w w2 :=
 ⟨hk.os.trans h.os, hk.tape.trans h.tape, hk.output.trans h.output, Nat.le_trans h.size hk.size, fun k hkl hn => (hk.block k (Nat.lt_of_lt_of_le hkl h.size) (fun hx => by have := hS k hx; omega)).trans (h.block k hkl hn)⟩
def ReadPost (s : ByteArray) (A : List Nat) (w : World) (e : Ending) (w' : World) : Prop :=
 ∃ (b : Nat) (p : PS) (nds : List Nd) (q : R Whole) (en : Int), e = .returned (.tuple #[.pointer (some ⟨b, 0, none⟩), .int .i64 en]) ∧ w.heap.size ≤ b ∧ PatR s q ∧ PB w' b p ∧ NInv w' b A p.nodes nds ∧ Keeps [] w w' ∧ nds.length ≤ 1000 ∧ p.s = s ∧
  match q with
  | .bad j => en = 2 ∧ p.bad = (j : Int)
  | .ok W _ => en = 0 ∧ p.bg = W.bg ∧ p.en = W.en ∧ p.gr = W.g ∧ repK nds .ways W.x p.root
set_option maxHeartbeats 400000 in
theorem read_long (s : ByteArray) (w : World) (h : 60 < s.size) :
    Calls Tryz.prog 46 #[.string s] w fun e w' => e = .returned (.tuple #[.pointer none, .int .i64 1]) ∧ w' = w := by
 have h' : (60 : Int) < (s.size : Int) := by omega
 go_enter Tryz.func46, Tryz.ntmps46
 go_wp2_with fail
 go_ret2
 exact ⟨rfl, rfl⟩
def p0 (s : ByteArray) : PS := { s := s, nodes := .slice none 0 0, root := 0, bg := false, en := false, gr := 0, bad := -1, ix := 0, deep := 0 }
set_option maxRecDepth 100000 in
set_option maxHeartbeats 1000000 in
theorem read_anyA (s : ByteArray) (A : List Nat) (w : World) (hs : s.size ≤ 60) (HAA : Hid (∀ x, x ∈ A → x < w.heap.size)) : Calls Tryz.prog 46 #[.string s] w (ReadPost s A w) := by
 have h' : ¬ (60 : Int) < (s.size : Int) := by omega
 go_enter Tryz.func46, Tryz.ntmps46
 go_wp2_with fail
 have hp0 : PB (w.alloc (.cells (p0 s).cells 102)) w.heap.size (p0 s) := heap_alloc_new w _
 have hk0 : Keeps [] w (w.alloc (.cells (p0 s).cells 102)) := (Keeps.refl [] w).alloc _
 have hH := hk0
 clear hH
 obtain ⟨b, hbq⟩ : ∃ b, b = w.heap.size := ⟨_, rfl⟩
 rw [← hbq] at hp0 ⊢
 have HBQ : Hid (b = w.heap.size) := hbq
 clear hbq
 have hcur : (p0 s).cur = at' s 0 := by rfl
 have htk : (p0 s).took 94 = { p0 s with ix := wi s } := by
  unfold PS.took wi
  rw [hcur]
  by_cases h : at' s 0 = 94
  ·rw [if_pos h, if_pos h]; rfl
  ·rw [if_neg h, if_neg h]; rfl
 have hwi : wi s ≤ s.size := by
  unfold wi
  by_cases h : at' s 0 = 94
  ·rw [if_pos h]; exact at'_nn (by omega)
  ·rw [if_neg h]; exact Nat.zero_le _
 refine (take_any b (p0 s) 94 _ hp0 (by omega) hs).mono ?_
 rintro e w1 ⟨rfl, hp1, hk1⟩
 rw [htk] at hp1
 rw [hcur]
 have hkA : Keeps [] w w1 := keeps_new hk0 hk1 (by intro x hx; simp at hx; rw [hx, HBQ.out]; exact Nat.le_refl _)
 clear hk1 hk0 hp0 htk hcur
 generalize hbgv : decide (at' s 0 = 94) = bgv
 obtain ⟨_, x3, _, _, y3, _⟩ := hp1.rbe
 have hp2 := hp1.setBg bgv
 have hkB : Keeps [] w (w1.setCell ⟨b, 3, none⟩ (.bool bgv)) := hkA.setCell (Or.inr (by show w.heap.size ≤ b; rw [HBQ.out]; exact Nat.le_refl _)) _
 go_wp2_with fail
 clear x3 y3 hp1 hkA
 generalize (w1.setCell ⟨b, 3, none⟩ (.bool bgv)) = w2 at *
 have hN0 : NInv w2 b A (.slice none 0 0) [] := ⟨[], rfl, World.ownsRow_nil _ _ _ _, by simp [Value.ownBlock], by simp [Value.ownBlock], by simp⟩
 have WC := ways_any b A _ w2 [] ⟨hp2, hN0, fun x hx => Nat.lt_of_lt_of_le (HAA.out x hx) hkB.size, by show (-1 : Int) < 0; omega, hs, hwi, by show ([] : List Nd).length + 4 * (s.size - wi s) + 2 ≤ 1000; simp; omega, by show 0 ≤ 9; omega, by show 0 ≤ 6; omega⟩
 refine WC.mono ?_
 rintro e w3 ⟨q, k, p3, ext, rfl, hG, hA, hp3, hinv3, hbd, hrep, hgrow⟩
 have hkC : Keeps [] w w3 := keeps_new hkB hgrow.1 ?_
 rotate_left
 ·intro x hx
  have hx' : x ∈ [b] := hx
  simp at hx'
  rw [hx', HBQ.out]; exact Nat.le_refl _
 have hbS : ∀ x, x ∈ [b] → w.heap.size ≤ x := by
  intro x hx
  simp at hx
  rw [hx, HBQ.out]; exact Nat.le_refl _
 have hlen : ext.length ≤ 1000 := by
  have := endOf_le hG hwi
  simp only [bndL, bndR] at hbd
  have h2 : endOf s q ≤ s.size := this
  have h3 : ext.length + 0 ≤ 4 * (endOf s q - wi s) + 2 := hbd
  omega
 have HG : Hid (G s .ways 0 0 (wi s) q) := hG
 obtain ⟨a1, a2, a3, a4, a5, a6⟩ := hA
 have A1 : Hid (p3.s = s) := a1
 have hs3 : p3.s.size ≤ 60 := by rw [a1]; exact hs
 obtain ⟨x2, _, _, y2, _, _⟩ := hp3.rbe
 have hp4 := hp3.setRoot k
 have hkE : Keeps [] w (w3.setCell ⟨b, 2, none⟩ (.int .i64 (k : Int))) := hkC.setCell (Or.inr (by show w.heap.size ≤ b; rw [HBQ.out]; exact Nat.le_refl _)) _
 have hinv4 := hinv3.keep ((Keeps.refl [b] w3).setB 2 (.int .i64 (k : Int))) sub_b
 have hm1 : (-1 : Int) < 0 := by omega
 clear hG hp3 hinv3 hgrow hkC hkB WC hN0 hp2
 cases q with
 | bad j =>
  have hnb : ¬ (j : Int) < 0 := by omega
  have hcur : PS.cur { p3 with root := k } = -1 := cur_bad' (by show 0 ≤ p3.bad; rw [a6]; omega)
  have htk : PS.took { p3 with root := k } 36 = { p3 with root := k } := by unfold PS.took; rw [if_neg (by omega)]
  have hd : decide (PS.cur { p3 with root := k } = 36) = false := by rw [hcur]; decide
  have hm : moreB { p3 with root := k, en := false } = false := by rw [moreB_eq, show PS.cur { p3 with root := k, en := false } = -1 from hcur]; decide
  have hb6 : Hid (PS.bad { p3 with root := k, en := false } = (j : Int)) := a6
  clear hcur a6 a1 a2 a3 a4 a5
  go_wp2_with (first | (go_at_call 81; refine (take_any b { p3 with root := k } 36 _ hp4 (by omega) hs3).mono ?_; rintro e w5 ⟨rfl, hp5, hk5⟩; rw [htk] at hp5; obtain ⟨_, _, x4, _, _, y4⟩ := hp5.rbe))
  have hp6 := hp5.setEn false
  have hkF : Keeps [] w (w5.setCell ⟨b, 4, none⟩ (.bool false)) := (keeps_new hkE hk5 hbS).setCell (Or.inr (by show w.heap.size ≤ b; rw [HBQ.out]; exact Nat.le_refl _)) _
  have hinv6 := (hinv4.keep hk5 sub_b).keep ((Keeps.refl [b] w5).setB 4 (.bool false)) sub_b
  clear hp5 hk5 htk hd x4 y4
  generalize (w5.setCell ⟨b, 4, none⟩ (.bool false)) = w6 at *
  refine (more_w b { p3 with root := k, en := false } _ hp6).mono ?_
  rintro e w7 ⟨rfl, hp7, hk7⟩
  obtain ⟨c0, h6, h7, f6, f7⟩ := hp7.main
  rw [show PS.bad { p3 with root := k, en := false } = (j : Int) from hb6.out] at h6
  go_wp2_with fail
  go_ret2
  exact ⟨b, _, ext, .bad j, 2, rfl, by rw [HBQ.out]; exact Nat.le_refl _, ⟨_, HG.out, rfl⟩, hp7, hinv6.keep hk7 sub_nil, hkF.trans hk7, hlen, A1.out, rfl, hb6.out⟩
 | ok xg j =>
  obtain ⟨x, g⟩ := xg
  obtain ⟨e1, e2, e3⟩ := a6
  have hcur : PS.cur { p3 with root := k } = at' s j := by rw [cur_good' (by show p3.bad < 0; rw [e3]; exact hm1)]; show at' p3.s p3.ix = _; rw [a1, e1]; rfl
  by_cases h36 : at' s j = 36
  ·have htk : PS.took { p3 with root := k } 36 = { p3 with root := k, ix := j + 1 } := by unfold PS.took; rw [if_pos (by rw [hcur]; exact h36)]; simp [e1]
   have hd : decide (PS.cur { p3 with root := k } = 36) = true := by rw [hcur]; simpa using h36
   have hcur6 : PS.cur { p3 with root := k, ix := j + 1, en := true } = at' s (j + 1) := by rw [cur_good' (by show p3.bad < 0; rw [e3]; exact hm1)]; show at' p3.s (j + 1) = _; rw [a1]; rfl
   have HE : Hid (PatE s (.ok (x, g) j) = if 0 ≤ at' s (j + 1) then .bad (j + 1) else .ok ⟨decide (at' s 0 = 94), true, x, g⟩ (j + 1)) := by
    show PatE s (.ok (x, g) j) = _
    rw [PatE_ok]
    rw [if_pos h36, decide_eq_true h36]
   have hbadn : PS.bad { p3 with root := k, ix := j + 1, en := true } < 0 := by show p3.bad < 0; rw [e3]; exact hm1
   have hbad1 : Hid (PS.bad { p3 with root := k, ix := j + 1, en := true } = -1) := e3
   have hixn : Hid (((PS.ix { p3 with root := k, ix := j + 1, en := true } : Nat) : Int) = ((j + 1) : Nat)) := by show ((PS.ix { p3 with root := k, ix := j + 1, en := true } : Nat) : Int) = ((j + 1) : Nat); rfl
   have hbg6 : Hid (PS.bg { p3 with root := k, ix := j + 1, en := true } = decide (at' s 0 = 94)) := by show p3.bg = _; rw [a3, hbgv]
   have hgr6 : Hid (PS.gr { p3 with root := k, ix := j + 1, en := true } = g) := e2
   clear hcur a1 a2 a3 a4 a5 e1 e2 e3
   go_wp2_with (first | (go_at_call 81; refine (take_any b { p3 with root := k } 36 _ hp4 (by omega) hs3).mono ?_; rintro e w5 ⟨rfl, hp5, hk5⟩; rw [htk] at hp5; obtain ⟨_, _, x4, _, _, y4⟩ := hp5.rbe))
   have hp6 := hp5.setEn true
   have hkF : Keeps [] w (w5.setCell ⟨b, 4, none⟩ (.bool true)) := (keeps_new hkE hk5 hbS).setCell (Or.inr (by show w.heap.size ≤ b; rw [HBQ.out]; exact Nat.le_refl _)) _
   have hinv6 := (hinv4.keep hk5 sub_b).keep ((Keeps.refl [b] w5).setB 4 (.bool true)) sub_b
   clear hp5 hk5 htk hd x4 y4
   generalize (w5.setCell ⟨b, 4, none⟩ (.bool true)) = w6 at *
   refine (more_w b { p3 with root := k, ix := j + 1, en := true } _ hp6).mono ?_
   rintro e w7 ⟨rfl, hp7, hk7⟩
   obtain ⟨c0, h6, h7, f6, f7⟩ := hp7.main
   by_cases hmo : 0 ≤ at' s (j + 1)
   ·have hm : moreB { p3 with root := k, ix := j + 1, en := true } = true := by rw [moreB_eq, hcur6]; simpa using hmo
    have HQ : Hid (PatE s (.ok (x, g) j) = .bad (j + 1)) := by show PatE s (.ok (x, g) j) = _; rw [HE.out, if_pos hmo]
    have hp8 := hp7.setBad (PS.ix { p3 with root := k, ix := j + 1, en := true } : Int)
    obtain ⟨d0, d6, d7, _, _⟩ := hp8.main
    have HIX : Hid (((PS.ix { p3 with root := k, ix := j + 1, en := true } : Nat) : Int) = ((j + 1) : Nat)) := by first | exact hixn.out | rfl
    clear hcur6 hmo hixn hbad1
    have hge : ¬ ((PS.ix { p3 with root := k, ix := j + 1, en := true } : Nat) : Int) < 0 := by omega
    go_wp2_with (first | (go_at_call 84; refine (fail_good b { p3 with root := k, ix := j + 1, en := true } _ hp7 hbadn).mono ?_; rintro e w8 ⟨rfl, rfl⟩))
    go_ret2
    exact ⟨b, _, ext, .bad (j + 1), 2, rfl, by rw [HBQ.out]; exact Nat.le_refl _, ⟨_, HG.out, HQ.out.symm⟩, hp8, (hinv6.keep hk7 sub_nil).keep ((Keeps.refl [b] w7).setB 6 _) sub_b, (hkF.trans hk7).setCell (Or.inr (by show w.heap.size ≤ b; rw [HBQ.out]; exact Nat.le_refl _)) _, hlen, A1.out, rfl, by first | exact HIX.out | rfl⟩
   ·have hm : moreB { p3 with root := k, ix := j + 1, en := true } = false := by rw [moreB_eq, hcur6]; simpa using hmo
    have HQ : Hid (PatE s (.ok (x, g) j) = .ok ⟨decide (at' s 0 = 94), true, x, g⟩ (j + 1)) := by show PatE s (.ok (x, g) j) = _; rw [HE.out, if_neg hmo]
    clear hcur6 hmo hixn
    go_wp2_with fail
    go_ret2
    exact ⟨b, _, ext, .ok ⟨decide (at' s 0 = 94), true, x, g⟩ (j + 1), 0, rfl, by rw [HBQ.out]; exact Nat.le_refl _, ⟨_, HG.out, HQ.out.symm⟩, hp7, hinv6.keep hk7 sub_nil, hkF.trans hk7, hlen, A1.out, rfl, hbg6.out, rfl, hgr6.out, by have := hrep x g j rfl; simpa using this⟩
  ·have htk : PS.took { p3 with root := k } 36 = { p3 with root := k } := by unfold PS.took; rw [if_neg (by rw [hcur]; exact h36)]
   have hd : decide (PS.cur { p3 with root := k } = 36) = false := by rw [hcur]; simpa using h36
   have hcur6 : PS.cur { p3 with root := k, en := false } = at' s j := by rw [cur_good' (by show p3.bad < 0; rw [e3]; exact hm1)]; show at' p3.s p3.ix = _; rw [a1, e1]; rfl
   have HE : Hid (PatE s (.ok (x, g) j) = if 0 ≤ at' s j then .bad j else .ok ⟨decide (at' s 0 = 94), false, x, g⟩ j) := by
    show PatE s (.ok (x, g) j) = _
    rw [PatE_ok]
    rw [if_neg h36, decide_eq_false h36]
   have hbadn : PS.bad { p3 with root := k, en := false } < 0 := by show p3.bad < 0; rw [e3]; exact hm1
   have hbad1 : Hid (PS.bad { p3 with root := k, en := false } = -1) := e3
   have hixn : Hid (((PS.ix { p3 with root := k, en := false } : Nat) : Int) = (j : Nat)) := by show ((PS.ix { p3 with root := k, en := false } : Nat) : Int) = (j : Nat); show (p3.ix : Int) = _; rw [e1]
   have hbg6 : Hid (PS.bg { p3 with root := k, en := false } = decide (at' s 0 = 94)) := by show p3.bg = _; rw [a3, hbgv]
   have hgr6 : Hid (PS.gr { p3 with root := k, en := false } = g) := e2
   clear hcur a1 a2 a3 a4 a5 e1 e2 e3
   go_wp2_with (first | (go_at_call 81; refine (take_any b { p3 with root := k } 36 _ hp4 (by omega) hs3).mono ?_; rintro e w5 ⟨rfl, hp5, hk5⟩; rw [htk] at hp5; obtain ⟨_, _, x4, _, _, y4⟩ := hp5.rbe))
   have hp6 := hp5.setEn false
   have hkF : Keeps [] w (w5.setCell ⟨b, 4, none⟩ (.bool false)) := (keeps_new hkE hk5 hbS).setCell (Or.inr (by show w.heap.size ≤ b; rw [HBQ.out]; exact Nat.le_refl _)) _
   have hinv6 := (hinv4.keep hk5 sub_b).keep ((Keeps.refl [b] w5).setB 4 (.bool false)) sub_b
   clear hp5 hk5 htk hd x4 y4
   generalize (w5.setCell ⟨b, 4, none⟩ (.bool false)) = w6 at *
   refine (more_w b { p3 with root := k, en := false } _ hp6).mono ?_
   rintro e w7 ⟨rfl, hp7, hk7⟩
   obtain ⟨c0, h6, h7, f6, f7⟩ := hp7.main
   by_cases hmo : 0 ≤ at' s j
   ·have hm : moreB { p3 with root := k, en := false } = true := by rw [moreB_eq, hcur6]; simpa using hmo
    have HQ : Hid (PatE s (.ok (x, g) j) = .bad j) := by show PatE s (.ok (x, g) j) = _; rw [HE.out, if_pos hmo]
    have hp8 := hp7.setBad (PS.ix { p3 with root := k, en := false } : Int)
    obtain ⟨d0, d6, d7, _, _⟩ := hp8.main
    have HIX : Hid (((PS.ix { p3 with root := k, en := false } : Nat) : Int) = (j : Nat)) := by first | exact hixn.out | rfl
    clear hcur6 hmo hixn hbad1
    have hge : ¬ ((PS.ix { p3 with root := k, en := false } : Nat) : Int) < 0 := by omega
    go_wp2_with (first | (go_at_call 84; refine (fail_good b { p3 with root := k, en := false } _ hp7 hbadn).mono ?_; rintro e w8 ⟨rfl, rfl⟩))
    go_ret2
    exact ⟨b, _, ext, .bad j, 2, rfl, by rw [HBQ.out]; exact Nat.le_refl _, ⟨_, HG.out, HQ.out.symm⟩, hp8, (hinv6.keep hk7 sub_nil).keep ((Keeps.refl [b] w7).setB 6 _) sub_b, (hkF.trans hk7).setCell (Or.inr (by show w.heap.size ≤ b; rw [HBQ.out]; exact Nat.le_refl _)) _, hlen, A1.out, rfl, by first | exact HIX.out | rfl⟩
   ·have hm : moreB { p3 with root := k, en := false } = false := by rw [moreB_eq, hcur6]; simpa using hmo
    have HQ : Hid (PatE s (.ok (x, g) j) = .ok ⟨decide (at' s 0 = 94), false, x, g⟩ j) := by show PatE s (.ok (x, g) j) = _; rw [HE.out, if_neg hmo]
    clear hcur6 hmo hixn
    go_wp2_with fail
    go_ret2
    exact ⟨b, _, ext, .ok ⟨decide (at' s 0 = 94), false, x, g⟩ j, 0, rfl, by rw [HBQ.out]; exact Nat.le_refl _, ⟨_, HG.out, HQ.out.symm⟩, hp7, hinv6.keep hk7 sub_nil, hkF.trans hk7, hlen, A1.out, rfl, hbg6.out, rfl, hgr6.out, by have := hrep x g j rfl; simpa using this⟩
theorem read_any (s : ByteArray) (w : World) (hs : s.size ≤ 60) : Calls Tryz.prog 46 #[.string s] w (ReadPost s [] w) := read_anyA s [] w hs (fun x hx => by cases hx)
end Go.Proofs.YtnfojonmohijpaaGreatDoor
namespace Go.Proofs.YtnfojonmohijpaaGreatDoor
open Go.RowKit
def bl (n : Nat) (f : Nat → Bool) : List Value := (List.range n).map fun j => .bool (f j)
theorem bl_at {n j : Nat} (f : Nat → Bool) (h : j < n) : (bl n f)[j]? = some (.bool (f j)) := by simp [bl, h]
theorem bl_set (n k : Nat) (f : Nat → Bool) (b : Bool) : (bl n f).set k (.bool b) = bl n (fun j => if j = k then b else f j) := by
 apply List.ext_getElem?
 intro j
 rw [List.getElem?_set]
 by_cases hj : j < n
 ·by_cases e : k = j
  ·subst e; simp [bl, hj]
  ·have e' : ¬ j = k := fun h => e h.symm
   simp [bl, hj, e, e']
 ·by_cases e : k = j
  ·subst e; simp [bl, hj]
  ·simp [bl, hj, e]
theorem bl_ext {n : Nat} {f g : Nat → Bool} (h : ∀ j, j < n → f j = g j) : bl n f = bl n g := by
 unfold bl
 apply List.map_congr_left
 intro j hj
 rw [h j (by simpa using hj)]
theorem bl_snoc (n : Nat) (f : Nat → Bool) : bl (n + 1) f = bl n f ++ [.bool (f n)] := by simp [bl, List.range_succ]
theorem bl_made (n : Nat) : (madeCells #[Value.bool false] n).toList = bl n (fun _ => false) := by
 apply List.ext_getElem?
 intro j
 by_cases hj : j < n
 ·rw [bl_at _ hj]
  simp [madeCells, hj, Nat.mod_one]
 ·simp [madeCells, bl, hj]
def RB (w : World) (v : Value) (n : Nat) (f : Nat → Bool) : Prop := w.ownsRow 0 4 1 v n (bl n f)
theorem RB.keep {w w' : World} {S : List Nat} {v : Value} {n : Nat} {f : Nat → Bool} (h : RB w v n f) (hk : Keeps S w w') (hs : ∀ g, v.ownBlock = some g → g ∉ S) : RB w' v n f := World.ownsRow.keep h hk hs
theorem RB.form {w : World} {v : Value} {n : Nat} {f : Nat → Bool} (h : RB w v n f) (hn : 0 < n) : ∃ g cap, v = .slice (some ⟨g, 0, none⟩) n cap ∧ g < w.heap.size := by
 obtain ⟨g, cap, hv, _, hg⟩ := World.ownsRow.form h hn
 exact ⟨g, cap, hv, hg⟩
theorem RB.ext {w : World} {v : Value} {n : Nat} {f g : Nat → Bool} (h : RB w v n f) (e : ∀ j, j < n → f j = g j) : RB w v n g := by
 unfold RB at *
 rw [← bl_ext e]
 exact h
theorem RB.at {w : World} {g cap n : Nat} {f : Nat → Bool} (h : RB w (.slice (some ⟨g, 0, none⟩) n cap) n f) {j : Nat} (hj : j < n) : w.cell? ⟨g, j, none⟩ = some (.bool (f j)) := by
 rw [World.ownsRow.cellAt h j (by omega), bl_at f hj]
theorem RB.frozen {w : World} {g cap n : Nat} {f : Nat → Bool} (h : RB w (.slice (some ⟨g, 0, none⟩) n cap) n f) (j : Nat) : w.frozen? ⟨g, j, none⟩ = false := World.ownsRow.frozenAt h j
theorem RB.put {w : World} {g cap n : Nat} {f : Nat → Bool} (h : RB w (.slice (some ⟨g, 0, none⟩) n cap) n f) (k : Nat) (b : Bool) : RB (w.setCell ⟨g, k, none⟩ (.bool b)) (.slice (some ⟨g, 0, none⟩) n cap) n (fun j => if j = k then b else f j) := by
 have := (World.ownsRow.stored h k (.bool b)).1
 rw [bl_set] at this
 exact this
theorem infoBool : (Tryz.prog.info? 4).map (fun i => (i.zero, i.size, i.bytes)) = some (some (.bool false), 1, 1) := by kernel_rfl
def XB (w : World) (b : Nat) (P : Value) (s : ByteArray) (E : Value) : Prop := ∃ fo, w.heap[b]? = some (.cells #[P, .string s, .bool fo, E] 154 (0, 0))
theorem XB.main {w : World} {b : Nat} {P : Value} {s : ByteArray} {E : Value} (h : XB w b P s E) : w.cell? ⟨b, 0, none⟩ = some P ∧ w.cell? ⟨b, 1, none⟩ = some (.string s) ∧ (∃ fo, w.cell? ⟨b, 2, none⟩ = some (.bool fo)) ∧ w.cell? ⟨b, 3, none⟩ = some E := by
 obtain ⟨fo, h⟩ := h
 exact ⟨by simp [World.cell?, h], by simp [World.cell?, h], ⟨fo, by simp [World.cell?, h]⟩, by simp [World.cell?, h]⟩
theorem XB.lt {w : World} {b : Nat} {P : Value} {s : ByteArray} {E : Value} (h : XB w b P s E) : b < w.heap.size := by
 obtain ⟨_, h⟩ := h
 exact (Array.getElem?_eq_some_iff.1 h).1
theorem XB.keep {w w' : World} {S : List Nat} {b : Nat} {P : Value} {s : ByteArray} {E : Value} (h : XB w b P s E) (hk : Keeps S w w') (hb : b ∉ S) : XB w' b P s E := by
 have hl := h.lt
 obtain ⟨fo, h⟩ := h
 exact ⟨fo, (hk.block b hl hb).trans h⟩
theorem Keeps.ofGrownNone {w w' : World} (h : w.grownBy w' none) : Keeps [] w w' := ⟨h.os, h.tape, h.output, h.size, fun j hj _ => h.block j hj (by simp)⟩
theorem keepsM {w w1 w2 : World} {S S' : List Nat} (h : Keeps S' w w1) (k : Keeps S w1 w2) (hs : ∀ x, x ∈ S → x ∈ S' ∨ w.heap.size ≤ x) : Keeps S' w w2 :=
 ⟨k.os.trans h.os, k.tape.trans h.tape, k.output.trans h.output, Nat.le_trans h.size k.size, fun j hj hn => (k.block j (Nat.lt_of_lt_of_le hj h.size) (fun hm => by
   rcases hs j hm with h1 | h1
   · exact hn h1
   · omega)).trans (h.block j hj hn)⟩
set_option maxRecDepth 100000 in
set_option maxHeartbeats 1000000 in
theorem only_any (b : Nat) (P E : Value) (s : ByteArray) (i : Nat) (hi : i ≤ s.size) (hs : s.size ≤ 100) (w : World) (h : XB w b P s E) :
    Calls Tryz.prog 137 #[.pointer (some ⟨b, 0, none⟩), .int .i64 i] w fun e w' => ∃ g, e = .returned (.slice (some ⟨g, 0, none⟩) (s.size + 1) (s.size + 1)) ∧ RB w' (.slice (some ⟨g, 0, none⟩) (s.size + 1) (s.size + 1)) (s.size + 1) (fun j => decide (j = i)) ∧ Keeps [] w w' ∧ w.heap.size ≤ g := by
 obtain ⟨i0, hi0, hz0, hz1, hz2⟩ := info_parts infoBool
 obtain ⟨x0, x1, x2, x3⟩ := h.main
 have hun := Tryz.underlying98
 have hadd : (s.size : Int) + 1 ≤ 9223372036854775807 := by omega
 go_enter Tryz.func137, Tryz.ntmps137
 go_wp2_with (first | (refine wpList_make_full w rfl _ _ 98 rfl 0 4 i0 (.bool false) 1 hun hi0 hz0 hz1 .i64 .i64 ((s.size : Int) + 1) ((s.size : Int) + 1) (s.size + 1) rfl rfl (by omega) (by omega) (by rw [hz2]; omega) (by unfold maxLen; omega) (Nat.zero_le _) ?_))
 intro w1 hown hgr
 rw [bl_made] at hown
 have hR : RB w1 (.slice (some ⟨w.heap.size, 0, none⟩) (s.size + 1) (s.size + 1)) (s.size + 1) (fun _ => false) := hown
 have hc := hR.at (j := i) (by omega)
 have hf := hR.frozen i
 have hi0' : (0 : Int) ≤ (i : Int) := by omega
 have hi1' : (i : Int) < ((s.size + 1 : Nat) : Int) := by omega
 have hend := hR.put i true
 have hk : Keeps [] w w1 := Keeps.ofGrownNone hgr
 have hk2 : Keeps [] w (w1.setCell ⟨w.heap.size, i, none⟩ (.bool true)) := keepsM hk ((Keeps.refl [w.heap.size] w1).setCell (p := ⟨w.heap.size, i, none⟩) (by simp) _) (by intro x hx; simp at hx; omega)
 clear hown hR hgr hk
 go_wp2_with fail
 go_ret
 exact ⟨_, rfl, hend.ext (fun j _ => by by_cases e : j = i <;> simp [e]), hk2, Nat.le_refl _⟩
end Go.Proofs.YtnfojonmohijpaaGreatDoor
namespace Go.Proofs.YtnfojonmohijpaaGreatDoor
open Go.RowKit
def NewMap (w : World) (N : Nat) (f : Nat → Nat → Bool) (e : Ending) (w' : World) : Prop :=
 ∃ g, e = .returned (.slice (some ⟨g, 0, none⟩) N N) ∧ MV w' (.slice (some ⟨g, 0, none⟩) N N) N f ∧ Keeps [] w w' ∧ w.heap.size ≤ g
theorem infoPlaces : (Tryz.prog.info? 141).map (fun i => (i.zero, i.size, i.bytes)) = some (some (.agg #[.int .u64 0, .int .u64 0]), 2, 16) := by kernel_rfl
theorem mc_made (N : Nat) : (madeCells #[Value.int .u64 0, Value.int .u64 0] (N * 2)).toList = mc N (fun _ _ => false) := by
 apply List.ext_getElem?
 intro q
 by_cases hq : q < 2 * N
 ·rw [mc_at _ hq, wk_none]
  have h2 : q < N * 2 := by omega
  have h3 : q % 2 = 0 ∨ q % 2 = 1 := by omega
  rcases h3 with h3 | h3 <;> simp [madeCells, h2, h3]
 ·have h1 : (mc N (fun _ _ => false))[q]? = none := by rw [List.getElem?_eq_none_iff, mc_len]; omega
  rw [h1]
  have h2 : ¬ q < N * 2 := by omega
  simp [madeCells, h2]
set_option maxRecDepth 100000 in
set_option maxHeartbeats 1000000 in
theorem none_any (n N : Nat) (HN : Hid (N = n + 1)) (hn : n ≤ 100) (w : World) : Calls Tryz.prog 124 #[.int .i64 n] w (NewMap w N fun _ _ => false) := by
 obtain ⟨i0, hi0, hz0, hz1, hz2⟩ := info_parts infoPlaces
 have hun := Tryz.underlying76
 have hadd : (n : Int) + 1 ≤ 9223372036854775807 := by omega
 go_enter Tryz.func124, Tryz.ntmps124
 go_wp2_with (first | (refine wpList_make_full w rfl _ _ 76 rfl 0 141 i0 (.agg #[.int .u64 0, .int .u64 0]) 2 hun hi0 hz0 hz1 .i64 .i64 ((n : Int) + 1) ((n : Int) + 1) N rfl rfl (by have := HN.out; omega) (by have := HN.out; omega) (by have := HN.out; rw [hz2]; omega) (by have := HN.out; unfold maxLen; omega) (Nat.zero_le _) ?_))
 intro w1 hown hgr
 rw [mc_made] at hown
 have hk : Keeps [] w w1 := Keeps.ofGrownNone hgr
 go_wp2_with fail
 go_ret
 exact ⟨_, rfl, hown, hk, Nat.le_refl _⟩
set_option maxRecDepth 100000 in
set_option maxHeartbeats 1000000 in
theorem empty_any (n N : Nat) (HN : Hid (N = n + 1)) (hn : n ≤ 100) (w : World) : Calls Tryz.prog 172 #[.int .i64 n] w (NewMap w N fun i j => decide (i = j)) := by
 go_enter Tryz.func172, Tryz.ntmps172
 go_wp2_with fail
 refine (none_any n N HN hn w).mono ?_
 rintro e w1 ⟨g, rfl, hM, hk, hg⟩
 have hNm : (N : Int) ≤ 101 := by have := HN.out; omega
 go_wp2_with fail
 go_loopw [4, 9] (fun _ q wr => ∃ k : Nat, k ≤ N ∧ q = .int .i64 k ∧ MV wr (.slice (some ⟨g, 0, none⟩) N N) N (fun i j => decide (i = j) && decide (i < k)) ∧ Keeps [] w wr) (fun _ q _ => N - (intOf q).toNat)
 case atStart => exact ⟨0, by omega, rfl, hM.ext (fun a b _ _ => by simp), hk⟩
 case round =>
  clear hM hk
  obtain ⟨k, hk, rfl, hM, hK⟩ := hrel
  by_cases hlt : k < N
  ·have hk0 : (0 : Int) ≤ (k : Int) := by omega
   have hk1 : (k : Int) < (N : Int) := by omega
   have HK : Hid (k < N) := hlt
   clear hk hlt
   go_wp2_with fail
   refine (padd_any g N N k k _ HK.out (by have := HK.out; omega) wr hM).mono ?_
   rintro e w2 ⟨rfl, hM2, hK2⟩
   have hK3 : Keeps [] w w2 := keepsM hK hK2 (by intro x hx; simp at hx; omega)
   clear hK2 hM
   go_wp2_with fail
   go_roundw
   case rel => exact ⟨k + 1, HK.out, by go_num, hM2.ext (fun a b _ _ => by
     by_cases e1 : a = k
     · subst e1
       have : decide (a = b) = decide (b = a) := by simp [eq_comm]
       simp [this]
     · have : (a < k + 1) ↔ (a < k) := by omega
       simp [e1, this]), hK3⟩
   case measure => have := HK.out; simp [intOf]; omega
  ·have he : k = N := by omega
   have hnk : ¬ (k : Int) < (N : Int) := by omega
   have hM2 := hM.ext (g := fun i j => decide (i = j)) (fun a b ha _ => by simp [he, ha])
   clear hM hk he hlt
   go_wp2_with fail
   go_ret
   exact ⟨g, rfl, hM2, hK, hg⟩
end Go.Proofs.YtnfojonmohijpaaGreatDoor
namespace Go.Proofs.YtnfojonmohijpaaGreatDoor
open Go.RowKit
theorem MV.put2 {w : World} {g cap n : Nat} {f : Nat → Nat → Bool} (h : MV w (.slice (some ⟨g, 0, none⟩) n cap) n f) {i : Nat} (hi : i < n) (F : Nat → Bool) :
    MV ((w.setCell ⟨g, i * 2, none⟩ (.int .u64 (wk F 0))).setCell ⟨g, i * 2 + 1, none⟩ (.int .u64 (wk F 1))) (.slice (some ⟨g, 0, none⟩) n cap) n (fun a b => if a = i then F b else f a b) := by
 have h1 : MV (w.setCell ⟨g, i * 2, none⟩ (.int .u64 (wk F 0))) (.slice (some ⟨g, 0, none⟩) n cap) n (fun a b => if a = i then (if b < 64 then F b else f a b) else f a b) := by
  refine MV.put (k := 0) h hi (by omega) _ ?_ ?_ ?_
  ·have : wk F 0 = wk (fun b => if i = i then (if b < 64 then F b else f i b) else f i b) 0 := wk_ext fun j hj => by rw [if_pos rfl, if_pos (by omega)]
   rw [this]
  ·intro a ha j; simp [ha]
  ·intro k' hk'
   refine wk_ext fun j hj => ?_
   simp [show ¬ 64 * k' + j < 64 by omega]
 have h2 : MV ((w.setCell ⟨g, i * 2, none⟩ (.int .u64 (wk F 0))).setCell ⟨g, i * 2 + 1, none⟩ (.int .u64 (wk F 1))) (.slice (some ⟨g, 0, none⟩) n cap) n (fun a b => if a = i then (if b < 128 then F b else f a b) else f a b) := by
  refine MV.put (k := 1) h1 hi (by omega) _ ?_ ?_ ?_
  ·have : wk F 1 = wk (fun b => if i = i then (if b < 128 then F b else f i b) else f i b) 1 := wk_ext fun j hj => by rw [if_pos rfl, if_pos (by omega)]
   rw [this]
  ·intro a ha j; simp [ha]
  ·intro k' hk'
   refine wk_ext fun j hj => ?_
   by_cases e : 64 * k' + j < 64
   ·simp [e, show 64 * k' + j < 128 by omega]
   ·simp [e, show ¬ 64 * k' + j < 128 by omega]
 exact h2.ext fun a b _ hb => by simp [hb]
theorem range2 {w : World} {b o : Nat} {x y : Value} (h0 : w.cell? ⟨b, o, none⟩ = some x) (h1 : w.cell? ⟨b, o + 1, none⟩ = some y) : w.rangeAt b o [x, y] := by
 intro j v hv
 match j, hv with
 | 0, hv => simp at hv; subst hv; exact h0
 | 1, hv => simp at hv; subst hv; exact h1
theorem there2 {w : World} {b o : Nat} (h0 : (w.cell? ⟨b, o, none⟩).isSome = true) (h1 : (w.cell? ⟨b, o + 1, none⟩).isSome = true) (z0 : w.frozen? ⟨b, o, none⟩ = false) (z1 : w.frozen? ⟨b, o + 1, none⟩ = false) : w.there b o 2 := by
 intro j hj
 match j, hj with
 | 0, _ => exact ⟨h0, z0⟩
 | 1, _ => exact ⟨h1, z1⟩
theorem one2 (a b : Int) : (#[Value.int .u64 a, .int .u64 b]).all (·.oneCell') = true := by simp [Value.oneCell']
theorem infoPl2 : (Tryz.prog.info? 141).map (·.size) = some 2 := by kernel_rfl
set_option maxRecDepth 100000 in
set_option maxHeartbeats 1000000 in
theorem or_any (N : Nat) (hN : N ≤ 101) (g1 c1 g2 c2 : Nat) (f1 f2 : Nat → Nat → Bool) (w : World) (h1 : MV w (.slice (some ⟨g1, 0, none⟩) N c1) N f1) (h2 : MV w (.slice (some ⟨g2, 0, none⟩) N c2) N f2) :
    Calls Tryz.prog 126 #[.slice (some ⟨g1, 0, none⟩) N c1, .slice (some ⟨g2, 0, none⟩) N c2] w (NewMap w N fun i j => f1 i j || f2 i j) := by
 obtain ⟨i0, hi0, hz0, hz1, hz2⟩ := info_parts infoPlaces
 have hun := Tryz.underlying76
 go_enter Tryz.func126, Tryz.ntmps126
 go_wp2_with (first | (refine wpList_make_full w rfl _ _ 76 rfl 0 141 i0 (.agg #[.int .u64 0, .int .u64 0]) 2 hun hi0 hz0 hz1 .i64 .i64 (N : Int) (N : Int) N rfl rfl rfl rfl (by rw [hz2]; omega) (by unfold maxLen; omega) (Nat.zero_le _) ?_))
 intro w1 hown hgr
 rw [mc_made] at hown
 have hk1 : Keeps [] w w1 := Keeps.ofGrownNone hgr
 have hg1l : g1 < w.heap.size := (World.ownsRow.lt h1 g1 rfl).2
 have hg2l : g2 < w.heap.size := (World.ownsRow.lt h2 g2 rfl).2
 obtain ⟨g, hg⟩ : ∃ g, g = w.heap.size := ⟨_, rfl⟩
 have hM0 : MV w1 (.slice (some ⟨g, 0, none⟩) N N) N (fun _ _ => false) := by rw [hg]; exact hown
 rw [← hg]
 have hgw : w.heap.size ≤ g := by omega
 clear hg
 have hNm : (N : Int) ≤ 101 := by omega
 clear hown hgr
 go_wp2_with fail
 go_loopw [6, 12] (fun _ q wr => ∃ k : Nat, k ≤ N ∧ q = .int .i64 k ∧ MV wr (.slice (some ⟨g, 0, none⟩) N N) N (fun i j => decide (i < k) && (f1 i j || f2 i j)) ∧ Keeps [] w wr) (fun _ q _ => N - (intOf q).toNat)
 case atStart => exact ⟨0, by omega, rfl, hM0.ext (fun a b _ _ => by simp), hk1⟩
 case round =>
  clear hM0 hk1
  obtain ⟨k, hk, rfl, hM, hK⟩ := hrel
  by_cases hlt : k < N
  ·have hk0 : (0 : Int) ≤ (k : Int) := by omega
   have hk1 : (k : Int) < (N : Int) := by omega
   have HK : Hid (k < N) := hlt
   have hr1 := h1.keep hK (by simp)
   have hr2 := h2.keep hK (by simp)
   obtain ⟨a0, a1⟩ := hr1.at hlt
   obtain ⟨b0, b1⟩ := hM.at hlt
   have z0 := hM.frozen (k * 2)
   have z1 := hM.frozen (k * 2 + 1)
   have hM2 := hM.put2 hlt (f1 k)
   have hkp : Keeps [g] wr ((wr.setCell ⟨g, k * 2, none⟩ (.int .u64 (wk (f1 k) 0))).setCell ⟨g, k * 2 + 1, none⟩ (.int .u64 (wk (f1 k) 1))) := ((Keeps.refl [g] wr).setCell (p := ⟨g, k * 2, none⟩) (by simp) _).setCell (p := ⟨g, k * 2 + 1, none⟩) (by simp) _
   have hr3 := hr2.keep hkp (by intro x hx; simp only [Value.ownBlock, Option.some.injEq] at hx; simp; omega)
   have hK2 : Keeps [] w ((wr.setCell ⟨g, k * 2, none⟩ (.int .u64 (wk (f1 k) 0))).setCell ⟨g, k * 2 + 1, none⟩ (.int .u64 (wk (f1 k) 1))) := keepsM hK hkp (by intro x hx; simp at hx; omega)
   obtain ⟨c0, c1'⟩ := hr3.at hlt
   have hrl : wr.rangeAt g1 (k * 2) [.int .u64 (wk (f1 k) 0), .int .u64 (wk (f1 k) 1)] := range2 a0 a1
   have htr : wr.there g (k * 2) 2 := there2 (by rw [b0]; rfl) (by rw [b1]; rfl) z0 z1
   clear hk hlt hM hr1 hr2 hkp hK hr3 a0 a1 b0 b1 z0 z1
   go_wp2_with (first | (refine wpList_load_mid rfl 141 _ rfl g1 (k * 2) rfl _ _ hrl Tryz.underlying141 rfl infoPl2 ?_) | (refine wpList_store_mid rfl 141 _ _ rfl g (k * 2) #[.int .u64 (wk (f1 k) 0), .int .u64 (wk (f1 k) 1)] rfl rfl htr infoPl2 (one2 _ _) ?_))
   change Code.wp _ _ _ _ ((wr.setCell ⟨g, k * 2, none⟩ (.int .u64 (wk (f1 k) 0))).setCell ⟨g, k * 2 + 1, none⟩ (.int .u64 (wk (f1 k) 1)))
   generalize (wr.setCell ⟨g, k * 2, none⟩ (.int .u64 (wk (f1 k) 0))).setCell ⟨g, k * 2 + 1, none⟩ (.int .u64 (wk (f1 k) 1)) = W at *
   have hM2d : MV W.drew (.slice (some ⟨g, 0, none⟩) N N) N _ := World.ownsRow.drew hM2
   have hC := addAll_raw g N N k _ (f2 k) HK.out W.drew hM2d
   go_region_with (first | (go_at_call 176; refine hC.mono ?_; rintro e w2 ⟨rfl, hM3, hK3⟩))
   clear hC
   have hK4 : Keeps [] w w2 := keepsM hK2 (((Keeps.refl [g] W).drewN 1).trans hK3) (by intro x hx; simp at hx; omega)
   clear hK3 hK2 hM2 hM2d
   go_wp2_with fail
   go_roundw
   case rel => exact ⟨k + 1, HK.out, by go_num, hM3.ext (fun a b _ _ => by
     by_cases e1 : a = k
     · subst e1; simp
     · have : (a < k + 1) ↔ (a < k) := by omega
       simp [e1, this]), hK4⟩
   case measure => have := HK.out; simp [intOf]; omega
  ·have he : k = N := by omega
   have hnk : ¬ (k : Int) < (N : Int) := by omega
   have hM2 := hM.ext (g := fun i j => f1 i j || f2 i j) (fun a b ha _ => by simp [he, ha])
   clear hM hk he hlt
   go_wp2_with fail
   go_ret
   exact ⟨g, rfl, hM2, hK, hgw⟩
end Go.Proofs.YtnfojonmohijpaaGreatDoor
namespace Go.Proofs.YtnfojonmohijpaaGreatDoor
open Go.RowKit
def thenB (f1 f2 : Nat → Nat → Bool) (hi a b : Nat) : Bool := (List.range hi).any fun m => decide (a ≤ m) && (f1 a m && f2 m b)
theorem thenB_iff {f1 f2 : Nat → Nat → Bool} {hi a b : Nat} : thenB f1 f2 hi a b = true ↔ ∃ m, a ≤ m ∧ m < hi ∧ f1 a m = true ∧ f2 m b = true := by
 simp only [thenB, List.any_eq_true, List.mem_range, Bool.and_eq_true, decide_eq_true_eq]
 constructor
 ·rintro ⟨m, h, a, b, c⟩; exact ⟨m, a, h, b, c⟩
 ·rintro ⟨m, a, h, b, c⟩; exact ⟨m, h, a, b, c⟩
theorem thenB_succ (f1 f2 : Nat → Nat → Bool) (hi a b : Nat) : thenB f1 f2 (hi + 1) a b = (thenB f1 f2 hi a b || (decide (a ≤ hi) && (f1 a hi && f2 hi b))) := by
 simp [thenB, List.range_succ]
theorem thenB_low (f1 f2 : Nat → Nat → Bool) {hi a : Nat} (b : Nat) (h : hi ≤ a) : thenB f1 f2 hi a b = false := by
 cases e : thenB f1 f2 hi a b with
 | false => rfl
 | true =>
  obtain ⟨m, h1, h2, _⟩ := thenB_iff.1 e
  omega
def thenTo (f1 f2 : Nat → Nat → Bool) (N i m : Nat) (a b : Nat) : Bool := if a < i then thenB f1 f2 N a b else if a = i then thenB f1 f2 m a b else false
theorem MV.range {w : World} {g cap n : Nat} {f : Nat → Nat → Bool} (h : MV w (.slice (some ⟨g, 0, none⟩) n cap) n f) {i : Nat} (hi : i < n) : w.rangeAt g (i * 2) [.int .u64 (wk (f i) 0), .int .u64 (wk (f i) 1)] := range2 (h.at hi).1 (h.at hi).2
set_option maxRecDepth 100000 in
set_option maxHeartbeats 2000000 in
theorem then_any (N : Nat) (hN : N ≤ 101) (g1 c1 g2 c2 : Nat) (f1 f2 : Nat → Nat → Bool) (w : World) (h1 : MV w (.slice (some ⟨g1, 0, none⟩) N c1) N f1) (h2 : MV w (.slice (some ⟨g2, 0, none⟩) N c2) N f2) :
    Calls Tryz.prog 175 #[.slice (some ⟨g1, 0, none⟩) N c1, .slice (some ⟨g2, 0, none⟩) N c2] w (NewMap w N (thenB f1 f2 N)) := by
 obtain ⟨i0, hi0, hz0, hz1, hz2⟩ := info_parts infoPlaces
 have hun := Tryz.underlying76
 go_enter Tryz.func175, Tryz.ntmps175
 go_wp2_with (first | (refine wpList_make_full w rfl _ _ 76 rfl 0 141 i0 (.agg #[.int .u64 0, .int .u64 0]) 2 hun hi0 hz0 hz1 .i64 .i64 (N : Int) (N : Int) N rfl rfl rfl rfl (by rw [hz2]; omega) (by unfold maxLen; omega) (Nat.zero_le _) ?_))
 intro w1 hown hgr
 rw [mc_made] at hown
 have hk1 : Keeps [] w w1 := Keeps.ofGrownNone hgr
 have hg1l : g1 < w.heap.size := (World.ownsRow.lt h1 g1 rfl).2
 have hg2l : g2 < w.heap.size := (World.ownsRow.lt h2 g2 rfl).2
 obtain ⟨g, hg⟩ : ∃ g, g = w.heap.size := ⟨_, rfl⟩
 have hM0 : MV w1 (.slice (some ⟨g, 0, none⟩) N N) N (fun _ _ => false) := by rw [hg]; exact hown
 rw [← hg]
 have hgw : w.heap.size ≤ g := by omega
 have hNm : (N : Int) ≤ 101 := by omega
 have hu := Tryz.underlying141
 clear hown hgr hg
 go_wp2_with fail
 go_loopw [6, 7, 13] (fun _ _ q wr => ∃ k : Nat, k ≤ N ∧ q = .int .i64 k ∧ MV wr (.slice (some ⟨g, 0, none⟩) N N) N (thenTo f1 f2 N k 0) ∧ Keeps [] w wr) (fun _ _ q _ => N - (intOf q).toNat)
 case atStart => exact ⟨0, by omega, rfl, hM0.ext (fun a b _ _ => by unfold thenTo; rw [if_neg (by omega)]; split; rw [thenB_low _ _ _ (by omega)]; rfl), hk1⟩
 case round =>
  clear hM0 hk1
  obtain ⟨k, hk, rfl, hM, hK⟩ := hrel
  by_cases hlt : k < N
  ·have hk0 : (0 : Int) ≤ (k : Int) := by omega
   have hk1 : (k : Int) < (N : Int) := by omega
   have HK : Hid (k < N) := hlt
   clear hk hlt
   go_wp2_with fail
   go_loopw [7] (fun q wq => ∃ m : Nat, k ≤ m ∧ m ≤ N ∧ q = .int .i64 m ∧ MV wq (.slice (some ⟨g, 0, none⟩) N N) N (thenTo f1 f2 N k m) ∧ Keeps [] w wq) (fun q _ => N - (intOf q).toNat)
   case atStart => exact ⟨k, Nat.le_refl _, by have := HK.out; omega, rfl, hM.ext (fun a b _ _ => by
     unfold thenTo
     by_cases h : a < k
     · rw [if_pos h, if_pos h]
     · rw [if_neg h, if_neg h]
       by_cases h' : a = k
       · rw [if_pos h', if_pos h', thenB_low _ _ _ (by omega), thenB_low _ _ _ (by omega)]
       · rw [if_neg h', if_neg h']), hK⟩
   case round =>
    clear hM hK
    obtain ⟨m, hkm, hm, rfl, hM, hK⟩ := hrel
    by_cases hlm : m < N
    ·have hm0 : (0 : Int) ≤ (m : Int) := by omega
     have hm1 : (m : Int) < (N : Int) := by omega
     have HM : Hid (m < N) := hlm
     have HKM : Hid (k ≤ m) := hkm
     have hr1 := (h1.keep hK (by simp)).range HK.out
     clear hm hlm hkm
     go_wp2_with (first | (refine wpList_load_mid rfl 141 _ rfl g1 (k * 2) rfl _ _ hr1 hu rfl infoPl2 ?_))
     refine (phas_raw (f1 k) m (by have := HM.out; omega) wr).mono ?_
     rintro e w2 ⟨rfl, hK2⟩
     have hM2 := hM.keep hK2 (by simp)
     have hK3 := hK.trans hK2
     clear hM hK hK2 hr1
     cases hf : f1 k m
     ·go_wp2_with fail
      go_roundw
      case rel => exact ⟨m + 1, by have := HKM.out; omega, HM.out, by go_num, hM2.ext (fun a b _ _ => by
        unfold thenTo
        by_cases h : a < k
        · rw [if_pos h, if_pos h]
        · rw [if_neg h, if_neg h]
          by_cases h' : a = k
          · subst h'; rw [if_pos rfl, if_pos rfl, thenB_succ, hf]; simp
          · rw [if_neg h', if_neg h']), hK3⟩
      case measure => have := HM.out; simp [intOf]; omega
     ·have hM2d : MV w2.drew (.slice (some ⟨g, 0, none⟩) N N) N _ := World.ownsRow.drew hM2
      have hr2 := (h2.keep hK3 (by simp)).at HM.out
      obtain ⟨b0, b1⟩ := hr2
      have hC := addAll_raw g N N k _ (f2 m) HK.out w2.drew hM2d
      go_wp2_with fail
      go_region_with (first | (go_at_call 176; refine hC.mono ?_; rintro e w3 ⟨rfl, hM3, hK4⟩))
      have hK5 : Keeps [] w w3 := keepsM hK3 (((Keeps.refl [g] w2).drewN 1).trans hK4) (by intro x hx; simp at hx; omega)
      clear hC hM2 hM2d hK3 hK4 b0 b1
      go_wp2_with fail
      go_roundw
      case rel => exact ⟨m + 1, by have := HKM.out; omega, HM.out, by go_num, hM3.ext (fun a b _ _ => by
        unfold thenTo
        by_cases h : a < k
        · rw [if_pos h, if_pos h]; simp [show ¬ a = k by omega]
        · rw [if_neg h, if_neg h]
          by_cases h' : a = k
          · subst h'; rw [if_pos rfl, if_pos rfl, thenB_succ, hf]; simp [HKM.out]
          · rw [if_neg h', if_neg h']; simp [h']), hK5⟩
      case measure => have := HM.out; simp [intOf]; omega
    ·have he : m = N := by omega
     have hnm : ¬ (m : Int) < (N : Int) := by omega
     have hM2 := hM.ext (g := thenTo f1 f2 N (k + 1) 0) (fun a b ha _ => by
       subst he
       unfold thenTo
       by_cases h : a < k
       · rw [if_pos h, if_pos (by omega)]
       · rw [if_neg h]
         by_cases h' : a = k
         · rw [if_pos h', if_pos (by omega)]
         · rw [if_neg h', if_neg (by omega)]
           by_cases h2 : a = k + 1
           · rw [if_pos h2, thenB_low _ _ _ (by omega)]
           · rw [if_neg h2])
     clear hM hm hlm he hkm
     go_wp2_with fail
     exact ⟨⟨k + 1, HK.out, by go_num, hM2, hK⟩, by have := HK.out; simp [intOf]; omega⟩
  ·have he : k = N := by omega
   have hnk : ¬ (k : Int) < (N : Int) := by omega
   have hM2 := hM.ext (g := thenB f1 f2 N) (fun a b ha _ => by unfold thenTo; rw [if_pos (by omega)])
   clear hM hk he hlt
   go_wp2_with fail
   go_ret
   exact ⟨g, rfl, hM2, hK, hgw⟩
end Go.Proofs.YtnfojonmohijpaaGreatDoor
namespace Go.Proofs.YtnfojonmohijpaaGreatDoor
theorem less_ok {mx : Int} {n : Nat} (h : mx < 0 ∨ ((n + 1 : Nat) : Int) ≤ mx) : less mx < 0 ∨ (n : Int) ≤ less mx := by
 unfold less
 split <;> omega
theorem Tm.move {R : Nat → Nat → Prop} (hle : ∀ i j, R i j → i ≤ j) {mx : Int} {j : Nat} : ∀ {n i : Nat}, It R n i j → i < j → (mx < 0 ∨ (n : Int) ≤ mx) →
    ∃ m, i < m ∧ m ≤ j ∧ R i m ∧ Tm R 0 (less mx) m j
 | 0, i, h, hij, _ => by have : i = j := h; omega
 | n + 1, i, ⟨m, r, h⟩, hij, b => by
  by_cases e : i < m
  ·exact ⟨m, e, It.mono hle h, r, n, by omega, less_ok b, h⟩
  ·have : m = i := by have := hle i m r; omega
   subst this
   exact Tm.move hle h hij (by omega)
end Go.Proofs.YtnfojonmohijpaaGreatDoor
namespace Go.Proofs.YtnfojonmohijpaaGreatDoor
inductive Tr where
 | tnil
 | tbyte (b : Nat)
 | tgrp (k : Nat) (x : Tr)
 | talt (p : Nat) (x : Tr)
 | tser (l : Tr)
 | trep (l : Tr)
 | lnil
 | lcons (x r : Tr)
theorem It.rest {R : Nat → Nat → Prop} {i : Nat} (h : R i i) : ∀ n, It R n i i
 | 0 => rfl
 | n + 1 => ⟨i, h, It.rest h n⟩
def lessN (mx : Int) : Nat → Int
 | 0 => mx
 | d + 1 => less (lessN mx d)
theorem lessN_any (mx : Int) (h : mx < 0) : ∀ d, lessN mx d = mx
 | 0 => rfl
 | d + 1 => by simp only [lessN, lessN_any mx h d, less]; rw [if_neg (by omega)]
theorem lessN_some (m : Nat) : ∀ d, lessN (m : Int) d = ((m - d : Nat) : Int)
 | 0 => rfl
 | d + 1 => by
  simp only [lessN, lessN_some m d, less]
  split <;> omega
def Left (R : Nat → Nat → Prop) (mn : Nat) (mx : Int) (d : Nat) (i j : Nat) : Prop := Tm R (mn - d) (lessN mx d) i j
theorem Tm.none {R : Nat → Nat → Prop} {i j : Nat} : Tm R 0 0 i j ↔ i = j := by
 constructor
 ·rintro ⟨n, _, b, h⟩
  have : n = 0 := by omega
  subst this
  exact h
 ·intro h; exact ⟨0, by omega, by omega, h⟩
theorem Tm.must {R : Nat → Nat → Prop} {mn : Nat} {mx : Int} {i j : Nat} (hm : 0 < mn) : Tm R mn mx i j ↔ (mx ≠ 0 ∧ ∃ m, R i m ∧ Tm R (mn - 1) (less mx) m j) := by
 constructor
 ·rintro ⟨n, a, b, h⟩
  cases n with
  | zero => omega
  | succ n =>
   obtain ⟨m, r, h⟩ := h
   exact ⟨by omega, m, r, n, by omega, less_ok b, h⟩
 ·rintro ⟨h0, m, r, n, a, b, h⟩
  refine ⟨n + 1, by omega, ?_, m, r, h⟩
  unfold less at b
  split at b <;> omega
theorem Tm.may {R : Nat → Nat → Prop} {mx : Int} {i j : Nat} (hm : 0 < mx) : Tm R 0 mx i j ↔ (i = j ∨ ∃ m, R i m ∧ Tm R 0 (less mx) m j) := by
 constructor
 ·rintro ⟨n, a, b, h⟩
  cases n with
  | zero => exact Or.inl h
  | succ n =>
   obtain ⟨m, r, h⟩ := h
   exact Or.inr ⟨m, r, n, by omega, less_ok b, h⟩
 ·rintro (h | ⟨m, r, n, a, b, h⟩)
  ·exact ⟨0, by omega, by omega, h⟩
  ·refine ⟨n + 1, by omega, ?_, m, r, h⟩
   unfold less at b
   split at b <;> omega
theorem Left.step {R : Nat → Nat → Prop} {mn : Nat} {mx : Int} {d i j : Nat} (h : mx < 0 ∧ d < mn ∨ (d : Int) < mx) :
    Left R mn mx d i j ↔ ((mn ≤ d ∧ i = j) ∨ ∃ m, R i m ∧ Left R mn mx (d + 1) m j) := by
 have e1 : mn - (d + 1) = mn - d - 1 := by omega
 have e2 : lessN mx (d + 1) = less (lessN mx d) := rfl
 have hx : lessN mx d ≠ 0 ∧ (0 < mn - d ∨ 0 < lessN mx d) := by
  by_cases h0 : mx < 0
  ·rw [lessN_any mx h0]; omega
  ·obtain ⟨m, rfl⟩ : ∃ m : Nat, mx = m := ⟨mx.toNat, by omega⟩
   rw [lessN_some]; omega
 unfold Left
 rw [e1, e2]
 by_cases hm : 0 < mn - d
 ·rw [Tm.must hm]
  constructor
  ·rintro ⟨_, h⟩; exact Or.inr h
  ·rintro (⟨h, _⟩ | h)
   ·omega
   ·exact ⟨hx.1, h⟩
 ·have e0 : mn - d = 0 := by omega
  rw [e0, Tm.may (by omega)]
  constructor
  ·rintro (h | h)
   ·exact Or.inl ⟨by omega, h⟩
   ·exact Or.inr h
  ·rintro (⟨_, h⟩ | h)
   ·exact Or.inl h
   ·exact Or.inr h
end Go.Proofs.YtnfojonmohijpaaGreatDoor
namespace Go.Proofs.YtnfojonmohijpaaGreatDoor
open Go.RowKit
structure AO (R : Nat → Nat → Prop) (f : Nat → Nat → Bool) (N k : Nat) (h : Nat → Nat → Bool) : Prop where
 done : ∀ a b, k ≤ a → a < N → b < N → (h a b = true ↔ Tm R 0 (-1) a b)
 rest : ∀ a b, a < k → b < N → h a b = decide (a = b)
structure AI (R : Nat → Nat → Prop) (f : Nat → Nat → Bool) (N a0 m : Nat) (h : Nat → Nat → Bool) : Prop where
 done : ∀ a b, a0 < a → a < N → b < N → (h a b = true ↔ Tm R 0 (-1) a b)
 now : ∀ b, b < N → (h a0 b = true ↔ (a0 = b ∨ ∃ q, a0 < q ∧ q < m ∧ f a0 q = true ∧ Tm R 0 (-1) q b))
 rest : ∀ a b, a < a0 → b < N → h a b = decide (a = b)
theorem AO.into {R : Nat → Nat → Prop} {f h : Nat → Nat → Bool} {N a0 : Nat} (H : AO R f N (a0 + 1) h) : AI R f N a0 (a0 + 1) h :=
 ⟨fun a b x y z => H.done a b (by omega) y z, fun b hb => by
   rw [H.rest a0 b (by omega) hb, decide_eq_true_eq]
   constructor
   · exact Or.inl
   · rintro (e | ⟨q, x, y, _⟩)
     · exact e
     · omega, fun a b x y => H.rest a b (by omega) y⟩
theorem AI.skip {R : Nat → Nat → Prop} {f h : Nat → Nat → Bool} {N a0 m : Nat} (H : AI R f N a0 m h) (e : f a0 m = false) : AI R f N a0 (m + 1) h :=
 ⟨H.done, fun b hb => by
   rw [H.now b hb]
   constructor
   · rintro (x | ⟨q, x, y, z⟩)
     · exact Or.inl x
     · exact Or.inr ⟨q, x, by omega, z⟩
   · rintro (x | ⟨q, x, y, z, u⟩)
     · exact Or.inl x
     · refine Or.inr ⟨q, x, ?_, z, u⟩
       rcases Nat.lt_or_ge q m with h | h
       · exact h
       · have : q = m := by omega
         subst this
         rw [e] at z
         exact absurd z (by decide), H.rest⟩
theorem AI.more {R : Nat → Nat → Prop} {f h : Nat → Nat → Bool} {N a0 m : Nat} (H : AI R f N a0 m h) (hm : a0 < m) (hmN : m < N) (e : f a0 m = true) : AI R f N a0 (m + 1) (fun a b => h a b || (decide (a = a0) && h m b)) :=
 ⟨fun a b x y z => by
   rw [← H.done a b x y z]
   simp [show ¬ a = a0 by omega], fun b hb => by
   simp only [decide_true, Bool.true_and, Bool.or_eq_true]
   rw [H.now b hb, H.done m b hm hmN hb]
   constructor
   · rintro ((x | ⟨q, x, y, z⟩) | x)
     · exact Or.inl x
     · exact Or.inr ⟨q, x, by omega, z⟩
     · exact Or.inr ⟨m, hm, by omega, e, x⟩
   · rintro (x | ⟨q, x, y, z, u⟩)
     · exact Or.inl (Or.inl x)
     · rcases Nat.lt_or_ge q m with h | h
       · exact Or.inl (Or.inr ⟨q, x, h, z, u⟩)
       · have : q = m := by omega
         subst this
         exact Or.inr u, fun a b x y => by
   rw [← H.rest a b x y]
   simp [show ¬ a = a0 by omega]⟩
theorem Tm.star {R : Nat → Nat → Prop} (hle : ∀ i j, R i j → i ≤ j) {a b : Nat} : Tm R 0 (-1) a b ↔ (a = b ∨ ∃ q, a < q ∧ R a q ∧ Tm R 0 (-1) q b) := by
 constructor
 ·rintro ⟨n, h0, h1, h⟩
  by_cases e : a < b
  ·obtain ⟨m, p, _, r, t⟩ := Tm.move hle (mx := -1) h e (Or.inl (by omega))
   exact Or.inr ⟨m, p, r, t⟩
  ·have := It.mono hle h
   exact Or.inl (by omega)
 ·rintro (rfl | ⟨q, _, r, n, h0, h1, h⟩)
  ·exact ⟨0, by omega, Or.inl (by omega), rfl⟩
  ·exact ⟨n + 1, by omega, Or.inl (by omega), q, r, h⟩
theorem AI.out {R : Nat → Nat → Prop} {f h : Nat → Nat → Bool} {N a0 : Nat} (hR : ∀ i j, i < N → j < N → (f i j = true ↔ R i j)) (hle : ∀ i j, R i j → i ≤ j) (hin : ∀ i j, R i j → i < N → j < N) (h0 : a0 < N) (H : AI R f N a0 N h) : AO R f N a0 h :=
 ⟨fun a b x y z => by
   rcases Nat.lt_or_ge a0 a with e | e
   · exact H.done a b e y z
   · have : a = a0 := by omega
     subst this
     rw [H.now b z, Tm.star hle]
     constructor
     · rintro (h | ⟨q, h1, h2, h3, h4⟩)
       · exact Or.inl h
       · exact Or.inr ⟨q, h1, (hR _ _ h0 h2).1 h3, h4⟩
     · rintro (h | ⟨q, h1, h2, h3⟩)
       · exact Or.inl h
       · have hq := hin _ _ h2 h0
         exact Or.inr ⟨q, h1, hq, (hR _ _ h0 hq).2 h2, h3⟩, H.rest⟩
set_option maxRecDepth 100000 in
set_option maxHeartbeats 2000000 in
theorem anyTimes_any (N n : Nat) (HN : Hid (N = n + 1)) (hn : n ≤ 100) (g1 c1 : Nat) (R : Nat → Nat → Prop) (f : Nat → Nat → Bool) (hR : ∀ i j, i < N → j < N → (f i j = true ↔ R i j)) (hle : ∀ i j, R i j → i ≤ j) (hin : ∀ i j, R i j → i < N → j < N) (w : World) (h1 : MV w (.slice (some ⟨g1, 0, none⟩) N c1) N f) :
    Calls Tryz.prog 255 #[.slice (some ⟨g1, 0, none⟩) N c1] w fun e w' => ∃ h, NewMap w N h e w' ∧ ∀ a b, a < N → b < N → (h a b = true ↔ Tm R 0 (-1) a b) := by
 have hNm : (N : Int) ≤ 101 := by have := HN.out; omega
 have hN1 : (1 : Int) ≤ (N : Int) := by have := HN.out; omega
 have hsub : (N : Int) - 1 = (n : Int) := by have := HN.out; omega
 have hnn : (n : Int) ≤ 100 := by omega
 have hu := Tryz.underlying141
 have hg1l : g1 < w.heap.size := (World.ownsRow.lt h1 g1 rfl).2
 go_enter Tryz.func255, Tryz.ntmps255
 go_wp2_with fail
 refine (empty_any n N HN hn w).mono ?_
 rintro e w1 ⟨g, rfl, hM0, hk1, hgw⟩
 go_wp2_with fail
 go_loopw [4, 5] (fun q _ wr => ∃ (k : Nat) (h : Nat → Nat → Bool), k ≤ N ∧ q = .int .i64 ((k : Int) - 1) ∧ MV wr (.slice (some ⟨g, 0, none⟩) N N) N h ∧ Hid (AO R f N k h) ∧ Keeps [] w wr) (fun q _ _ => (intOf q + 1).toNat)
 case atStart => exact ⟨N, _, Nat.le_refl _, by rw [hsub], hM0, ⟨fun a b _ _ _ => by omega, fun a b _ _ => rfl⟩, hk1⟩
 case round =>
  clear hM0 hk1
  obtain ⟨k, h, hk, rfl, hM, HA, hK⟩ := hrel
  cases k with
  | zero =>
   have e : (((0 : Nat) : Int) - 1) = -1 := by omega
   rw [e]
   go_wp2_with fail
   go_ret
   exact ⟨h, ⟨g, rfl, hM, hK, hgw⟩, fun a b ha hb => HA.out.done a b (Nat.zero_le _) ha hb⟩
  | succ k =>
   have e : (((k + 1 : Nat) : Int) - 1) = (k : Int) := by omega
   rw [e]
   clear e
   have hk0 : (0 : Int) ≤ (k : Int) := by omega
   have hk1 : (k : Int) < (N : Int) := by omega
   have hk9 : (k : Int) ≤ 100 := by omega
   have HK : Hid (k < N) := hk
   clear hk
   go_wp2_with fail
   go_loopw [5] (fun q wq => ∃ (m : Nat) (h : Nat → Nat → Bool), k < m ∧ m ≤ N ∧ q = .int .i64 m ∧ MV wq (.slice (some ⟨g, 0, none⟩) N N) N h ∧ Hid (AI R f N k m h) ∧ Keeps [] w wq) (fun q _ => N - (intOf q).toNat)
   case atStart => exact ⟨k + 1, h, by omega, HK.out, by go_num, hM, HA.out.into, hK⟩
   case round =>
    clear hM hK HA
    obtain ⟨m, h, hkm, hm, rfl, hM, HA, hK⟩ := hrel
    by_cases hlm : m < N
    ·have hm0 : (0 : Int) ≤ (m : Int) := by omega
     have hm1 : (m : Int) < (N : Int) := by omega
     have HM : Hid (m < N) := hlm
     have HKM : Hid (k < m) := hkm
     have hr1 := (h1.keep hK (by simp)).range HK.out
     clear hm hlm hkm
     go_wp2_with (first | (refine wpList_load_mid rfl 141 _ rfl g1 (k * 2) rfl _ _ hr1 hu rfl infoPl2 ?_))
     refine (phas_raw (f k) m (by have := HM.out; omega) wr).mono ?_
     rintro e w2 ⟨rfl, hK2⟩
     have hM2 := hM.keep hK2 (by simp)
     have hK3 := hK.trans hK2
     clear hM hK hK2 hr1
     cases hfk : f k m
     ·go_wp2_with fail
      go_roundw
      case rel => exact ⟨m + 1, h, by have := HKM.out; omega, HM.out, by go_num, hM2, HA.out.skip hfk, hK3⟩
      case measure => have := HM.out; simp [intOf]; omega
     ·have hM2d : MV w2.drew (.slice (some ⟨g, 0, none⟩) N N) N _ := World.ownsRow.drew hM2
      obtain ⟨b0, b1⟩ := hM2.at HM.out
      have hC := addAll_raw g N N k _ (h m) HK.out w2.drew hM2d
      have HF : Hid (f k m = true) := hfk
      clear hfk
      go_wp2_with fail
      go_region_with (first | (go_at_call 176; refine hC.mono ?_; rintro e w3 ⟨rfl, hM3, hK4⟩))
      have hK5 : Keeps [] w w3 := keepsM hK3 (((Keeps.refl [g] w2).drewN 1).trans hK4) (by intro x hx; simp at hx; omega)
      clear hC hM2 hM2d hK3 hK4 b0 b1
      go_wp2_with fail
      go_roundw
      case rel => exact ⟨m + 1, _, by have := HKM.out; omega, HM.out, by go_num, hM3, HA.out.more HKM.out HM.out HF.out, hK5⟩
      case measure => have := HM.out; simp [intOf]; omega
    ·have he : m = N := by omega
     have hnm : ¬ (m : Int) < (N : Int) := by omega
     have HA2 : Hid (AO R f N k h) := AI.out hR hle hin HK.out (he ▸ HA.out)
     clear hm hlm he hkm HA
     go_wp2_with fail
     exact ⟨⟨k, h, by have := HK.out; omega, by go_num, hM, HA2, hK⟩, by have := HK.out; simp [intOf]⟩
end Go.Proofs.YtnfojonmohijpaaGreatDoor
