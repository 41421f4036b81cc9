/-
  DERIVED. The contract of the reference's 'Read': a pattern is read, or told to be too long, or where it is none. No conditions.
-/
import Derived.Test.YtnfojonmohijpaaGreatDoorJRS
import Derived.Test.YtnfojonmohijpaaGreatDoorJSpec
set_option linter.unusedSimpArgs false
set_option linter.unusedVariables false
namespace Go.Proofs.YtnfojonmohijpaaGreatDoor
open Go.RowKit

theorem PB.rbe {w : World} {b : Nat} {p : PS} (h : PB w b p) :
    w.cell? ⟨b, 2, none⟩ = some (.int .i64 p.root) ∧ w.cell? ⟨b, 3, none⟩ = some (.bool p.bg) ∧ w.cell? ⟨b, 4, none⟩ = some (.bool p.en) ∧ w.frozen? ⟨b, 2, none⟩ = false ∧ w.frozen? ⟨b, 3, none⟩ = false ∧ w.frozen? ⟨b, 4, none⟩ = false := by
  unfold PB at h
  simp [World.cell?, World.frozen?, h, PS.cells]
theorem PB.setRoot {w : World} {b : Nat} {p : PS} (h : PB w b p) (x : Nat) : PB (w.setCell ⟨b, 2, none⟩ (.int .i64 x)) b { p with root := x } := by
  unfold PB at *
  simp [World.setCell, Array.getElem?_modify, h, PS.cells]
theorem PB.setBg {w : World} {b : Nat} {p : PS} (h : PB w b p) (x : Bool) : PB (w.setCell ⟨b, 3, none⟩ (.bool x)) b { p with bg := x } := by
  unfold PB at *
  simp [World.setCell, Array.getElem?_modify, h, PS.cells]
theorem PB.setEn {w : World} {b : Nat} {p : PS} (h : PB w b p) (x : Bool) : PB (w.setCell ⟨b, 4, none⟩ (.bool x)) b { p with en := x } := by
  unfold PB at *
  simp [World.setCell, Array.getElem?_modify, h, PS.cells]

theorem keeps_new {S : List Nat} {w w1 w2 : World} (h : Keeps [] w w1) (hk : Keeps S w1 w2) (hS : ∀ x, x ∈ S → w.heap.size ≤ x) : Keeps [] w w2 :=
  ⟨hk.os.trans h.os, hk.tape.trans h.tape, hk.output.trans h.output, Nat.le_trans h.size hk.size, fun k hkl hn => (hk.block k (Nat.lt_of_lt_of_le hkl h.size) (fun hx => by have := hS k hx; omega)).trans (h.block k hkl hn)⟩

/-- What 'Read' leaves. -/
def ReadPost (s : ByteArray) (w : World) (e : Ending) (w' : World) : Prop :=
  ∃ (b : Nat) (p : PS) (nds : List Nd) (q : R Whole) (en : Int), e = .returned (.tuple #[.pointer (some ⟨b, 0, none⟩), .int .i64 en]) ∧ w.heap.size ≤ b ∧ PatR s q ∧ PB w' b p ∧ NInv w' b [] p.nodes nds ∧ Keeps [] w w' ∧ nds.length ≤ 1000 ∧ p.s = s ∧
    match q with
    | .bad j => en = 2 ∧ p.bad = (j : Int)
    | .ok W _ => en = 0 ∧ p.bg = W.bg ∧ p.en = W.en ∧ p.gr = W.g ∧ repK nds .ways W.x p.root

set_option maxHeartbeats 400000 in
theorem read_long (s : ByteArray) (w : World) (h : 60 < s.size) :
    Calls Tryz.prog 46 #[.string s] w fun e w' => e = .returned (.tuple #[.pointer none, .int .i64 1]) ∧ w' = w := by
  have h' : (60 : Int) < (s.size : Int) := by omega
  go_enter Tryz.func46, Tryz.ntmps46
  go_wp2_with fail
  go_ret2
  exact ⟨rfl, rfl⟩

def p0 (s : ByteArray) : PS := { s := s, nodes := .slice none 0 0, root := 0, bg := false, en := false, gr := 0, bad := -1, ix := 0, deep := 0 }

set_option maxRecDepth 100000 in
set_option maxHeartbeats 1000000 in
theorem read_any (s : ByteArray) (w : World) (hs : s.size ≤ 60) : Calls Tryz.prog 46 #[.string s] w (ReadPost s w) := by
  have h' : ¬ (60 : Int) < (s.size : Int) := by omega
  go_enter Tryz.func46, Tryz.ntmps46
  go_wp2_with fail
  have hp0 : PB (w.alloc (.cells (p0 s).cells 102)) w.heap.size (p0 s) := heap_alloc_new w _
  have hk0 : Keeps [] w (w.alloc (.cells (p0 s).cells 102)) := (Keeps.refl [] w).alloc _
  have hH := hk0
  clear hH
  obtain ⟨b, hbq⟩ : ∃ b, b = w.heap.size := ⟨_, rfl⟩
  rw [← hbq] at hp0 ⊢
  have HBQ : Hid (b = w.heap.size) := hbq
  clear hbq
  have hcur : (p0 s).cur = at' s 0 := by rfl
  have htk : (p0 s).took 94 = { p0 s with ix := wi s } := by
    unfold PS.took wi
    rw [hcur]
    by_cases h : at' s 0 = 94
    · rw [if_pos h, if_pos h]; rfl
    · rw [if_neg h, if_neg h]; rfl
  have hwi : wi s ≤ s.size := by
    unfold wi
    by_cases h : at' s 0 = 94
    · rw [if_pos h]; exact at'_nn (by omega)
    · rw [if_neg h]; exact Nat.zero_le _
  refine (take_any b (p0 s) 94 _ hp0 (by omega) hs).mono ?_
  rintro e w1 ⟨rfl, hp1, hk1⟩
  rw [htk] at hp1
  rw [hcur]
  have hkA : Keeps [] w w1 := keeps_new hk0 hk1 (by intro x hx; simp at hx; rw [hx, HBQ.out]; exact Nat.le_refl _)
  clear hk1 hk0 hp0 htk hcur
  generalize hbgv : decide (at' s 0 = 94) = bgv
  obtain ⟨_, x3, _, _, y3, _⟩ := hp1.rbe
  have hp2 := hp1.setBg bgv
  have hkB : Keeps [] w (w1.setCell ⟨b, 3, none⟩ (.bool bgv)) := hkA.setCell (Or.inr (by show w.heap.size ≤ b; rw [HBQ.out]; exact Nat.le_refl _)) _
  go_wp2_with fail
  clear x3 y3 hp1 hkA
  generalize (w1.setCell ⟨b, 3, none⟩ (.bool bgv)) = w2 at *
  have hN0 : NInv w2 b [] (.slice none 0 0) [] := ⟨[], rfl, World.ownsRow_nil _ _ _ _, by simp [Value.ownBlock], by simp [Value.ownBlock], by simp⟩
  have WC := ways_any b [] _ w2 [] ⟨hp2, hN0, by simp, by show (-1 : Int) < 0; omega, hs, hwi, by show ([] : List Nd).length + 4 * (s.size - wi s) + 2 ≤ 1000; simp; omega, by show 0 ≤ 9; omega, by show 0 ≤ 6; omega⟩
  refine WC.mono ?_
  rintro e w3 ⟨q, k, p3, ext, rfl, hG, hA, hp3, hinv3, hbd, hrep, hgrow⟩
  have hkC : Keeps [] w w3 := keeps_new hkB hgrow.1 ?_
  rotate_left
  · intro x hx
    have hx' : x ∈ [b] := hx
    simp at hx'
    rw [hx', HBQ.out]; exact Nat.le_refl _
  have hbS : ∀ x, x ∈ [b] → w.heap.size ≤ x := by
    intro x hx
    simp at hx
    rw [hx, HBQ.out]; exact Nat.le_refl _
  have hlen : ext.length ≤ 1000 := by
    have := endOf_le hG hwi
    simp only [bndL, bndR] at hbd
    have h2 : endOf s q ≤ s.size := this
    have h3 : ext.length + 0 ≤ 4 * (endOf s q - wi s) + 2 := hbd
    omega
  have HG : Hid (G s .ways 0 0 (wi s) q) := hG
  obtain ⟨a1, a2, a3, a4, a5, a6⟩ := hA
  have A1 : Hid (p3.s = s) := a1
  have hs3 : p3.s.size ≤ 60 := by rw [a1]; exact hs
  obtain ⟨x2, _, _, y2, _, _⟩ := hp3.rbe
  have hp4 := hp3.setRoot k
  have hkE : Keeps [] w (w3.setCell ⟨b, 2, none⟩ (.int .i64 (k : Int))) := hkC.setCell (Or.inr (by show w.heap.size ≤ b; rw [HBQ.out]; exact Nat.le_refl _)) _
  have hinv4 := hinv3.keep ((Keeps.refl [b] w3).setB 2 (.int .i64 (k : Int))) sub_b
  have hm1 : (-1 : Int) < 0 := by omega
  clear hG hp3 hinv3 hgrow hkC hkB WC hN0 hp2
  cases q with
  | bad j =>
    have hnb : ¬ (j : Int) < 0 := by omega
    have hcur : PS.cur { p3 with root := k } = -1 := cur_bad' (by show 0 ≤ p3.bad; rw [a6]; omega)
    have htk : PS.took { p3 with root := k } 36 = { p3 with root := k } := by unfold PS.took; rw [if_neg (by omega)]
    have hd : decide (PS.cur { p3 with root := k } = 36) = false := by rw [hcur]; decide
    have hm : moreB { p3 with root := k, en := false } = false := by rw [moreB_eq, show PS.cur { p3 with root := k, en := false } = -1 from hcur]; decide
    have hb6 : Hid (PS.bad { p3 with root := k, en := false } = (j : Int)) := a6
    clear hcur a6 a1 a2 a3 a4 a5
    go_wp2_with (first | (go_at_call 81; refine (take_any b { p3 with root := k } 36 _ hp4 (by omega) hs3).mono ?_; rintro e w5 ⟨rfl, hp5, hk5⟩; rw [htk] at hp5; obtain ⟨_, _, x4, _, _, y4⟩ := hp5.rbe))
    have hp6 := hp5.setEn false
    have hkF : Keeps [] w (w5.setCell ⟨b, 4, none⟩ (.bool false)) := (keeps_new hkE hk5 hbS).setCell (Or.inr (by show w.heap.size ≤ b; rw [HBQ.out]; exact Nat.le_refl _)) _
    have hinv6 := (hinv4.keep hk5 sub_b).keep ((Keeps.refl [b] w5).setB 4 (.bool false)) sub_b
    clear hp5 hk5 htk hd x4 y4
    generalize (w5.setCell ⟨b, 4, none⟩ (.bool false)) = w6 at *
    refine (more_w b { p3 with root := k, en := false } _ hp6).mono ?_
    rintro e w7 ⟨rfl, hp7, hk7⟩
    obtain ⟨c0, h6, h7, f6, f7⟩ := hp7.main
    rw [show PS.bad { p3 with root := k, en := false } = (j : Int) from hb6.out] at h6
    go_wp2_with fail
    go_ret2
    exact ⟨b, _, ext, .bad j, 2, rfl, by rw [HBQ.out]; exact Nat.le_refl _, ⟨_, HG.out, rfl⟩, hp7, hinv6.keep hk7 sub_nil, hkF.trans hk7, hlen, A1.out, rfl, hb6.out⟩
  | ok xg j =>
    obtain ⟨x, g⟩ := xg
    obtain ⟨e1, e2, e3⟩ := a6
    have hcur : PS.cur { p3 with root := k } = at' s j := by rw [cur_good' (by show p3.bad < 0; rw [e3]; exact hm1)]; show at' p3.s p3.ix = _; rw [a1, e1]; rfl
    by_cases h36 : at' s j = 36
    · have htk : PS.took { p3 with root := k } 36 = { p3 with root := k, ix := j + 1 } := by unfold PS.took; rw [if_pos (by rw [hcur]; exact h36)]; simp [e1]
      have hd : decide (PS.cur { p3 with root := k } = 36) = true := by rw [hcur]; simpa using h36
      have hcur6 : PS.cur { p3 with root := k, ix := j + 1, en := true } = at' s (j + 1) := by rw [cur_good' (by show p3.bad < 0; rw [e3]; exact hm1)]; show at' p3.s (j + 1) = _; rw [a1]; rfl
      have HE : Hid (PatE s (.ok (x, g) j) = if 0 ≤ at' s (j + 1) then .bad (j + 1) else .ok ⟨decide (at' s 0 = 94), true, x, g⟩ (j + 1)) := by
        show PatE s (.ok (x, g) j) = _
        rw [PatE_ok]
        rw [if_pos h36, decide_eq_true h36]
      have hbadn : PS.bad { p3 with root := k, ix := j + 1, en := true } < 0 := by show p3.bad < 0; rw [e3]; exact hm1
      have hbad1 : Hid (PS.bad { p3 with root := k, ix := j + 1, en := true } = -1) := e3
      have hixn : Hid (((PS.ix { p3 with root := k, ix := j + 1, en := true } : Nat) : Int) = ((j + 1) : Nat)) := by show ((PS.ix { p3 with root := k, ix := j + 1, en := true } : Nat) : Int) = ((j + 1) : Nat); rfl
      have hbg6 : Hid (PS.bg { p3 with root := k, ix := j + 1, en := true } = decide (at' s 0 = 94)) := by show p3.bg = _; rw [a3, hbgv]
      have hgr6 : Hid (PS.gr { p3 with root := k, ix := j + 1, en := true } = g) := e2
      clear hcur a1 a2 a3 a4 a5 e1 e2 e3
      go_wp2_with (first | (go_at_call 81; refine (take_any b { p3 with root := k } 36 _ hp4 (by omega) hs3).mono ?_; rintro e w5 ⟨rfl, hp5, hk5⟩; rw [htk] at hp5; obtain ⟨_, _, x4, _, _, y4⟩ := hp5.rbe))
      have hp6 := hp5.setEn true
      have hkF : Keeps [] w (w5.setCell ⟨b, 4, none⟩ (.bool true)) := (keeps_new hkE hk5 hbS).setCell (Or.inr (by show w.heap.size ≤ b; rw [HBQ.out]; exact Nat.le_refl _)) _
      have hinv6 := (hinv4.keep hk5 sub_b).keep ((Keeps.refl [b] w5).setB 4 (.bool true)) sub_b
      clear hp5 hk5 htk hd x4 y4
      generalize (w5.setCell ⟨b, 4, none⟩ (.bool true)) = w6 at *
      refine (more_w b { p3 with root := k, ix := j + 1, en := true } _ hp6).mono ?_
      rintro e w7 ⟨rfl, hp7, hk7⟩
      obtain ⟨c0, h6, h7, f6, f7⟩ := hp7.main
      by_cases hmo : 0 ≤ at' s (j + 1)
      · have hm : moreB { p3 with root := k, ix := j + 1, en := true } = true := by rw [moreB_eq, hcur6]; simpa using hmo
        have HQ : Hid (PatE s (.ok (x, g) j) = .bad (j + 1)) := by show PatE s (.ok (x, g) j) = _; rw [HE.out, if_pos hmo]
        have hp8 := hp7.setBad (PS.ix { p3 with root := k, ix := j + 1, en := true } : Int)
        obtain ⟨d0, d6, d7, _, _⟩ := hp8.main
        have HIX : Hid (((PS.ix { p3 with root := k, ix := j + 1, en := true } : Nat) : Int) = ((j + 1) : Nat)) := by first | exact hixn.out | rfl
        clear hcur6 hmo hixn hbad1
        have hge : ¬ ((PS.ix { p3 with root := k, ix := j + 1, en := true } : Nat) : Int) < 0 := by omega
        go_wp2_with (first | (go_at_call 84; refine (fail_good b { p3 with root := k, ix := j + 1, en := true } _ hp7 hbadn).mono ?_; rintro e w8 ⟨rfl, rfl⟩))
        go_ret2
        exact ⟨b, _, ext, .bad (j + 1), 2, rfl, by rw [HBQ.out]; exact Nat.le_refl _, ⟨_, HG.out, HQ.out.symm⟩, hp8, (hinv6.keep hk7 sub_nil).keep ((Keeps.refl [b] w7).setB 6 _) sub_b, (hkF.trans hk7).setCell (Or.inr (by show w.heap.size ≤ b; rw [HBQ.out]; exact Nat.le_refl _)) _, hlen, A1.out, rfl, by first | exact HIX.out | rfl⟩
      · have hm : moreB { p3 with root := k, ix := j + 1, en := true } = false := by rw [moreB_eq, hcur6]; simpa using hmo
        have HQ : Hid (PatE s (.ok (x, g) j) = .ok ⟨decide (at' s 0 = 94), true, x, g⟩ (j + 1)) := by show PatE s (.ok (x, g) j) = _; rw [HE.out, if_neg hmo]
        clear hcur6 hmo hixn
        go_wp2_with fail
        go_ret2
        exact ⟨b, _, ext, .ok ⟨decide (at' s 0 = 94), true, x, g⟩ (j + 1), 0, rfl, by rw [HBQ.out]; exact Nat.le_refl _, ⟨_, HG.out, HQ.out.symm⟩, hp7, hinv6.keep hk7 sub_nil, hkF.trans hk7, hlen, A1.out, rfl, hbg6.out, rfl, hgr6.out, by have := hrep x g j rfl; simpa using this⟩
    · have htk : PS.took { p3 with root := k } 36 = { p3 with root := k } := by unfold PS.took; rw [if_neg (by rw [hcur]; exact h36)]
      have hd : decide (PS.cur { p3 with root := k } = 36) = false := by rw [hcur]; simpa using h36
      have hcur6 : PS.cur { p3 with root := k, en := false } = at' s j := by rw [cur_good' (by show p3.bad < 0; rw [e3]; exact hm1)]; show at' p3.s p3.ix = _; rw [a1, e1]; rfl
      have HE : Hid (PatE s (.ok (x, g) j) = if 0 ≤ at' s j then .bad j else .ok ⟨decide (at' s 0 = 94), false, x, g⟩ j) := by
        show PatE s (.ok (x, g) j) = _
        rw [PatE_ok]
        rw [if_neg h36, decide_eq_false h36]
      have hbadn : PS.bad { p3 with root := k, en := false } < 0 := by show p3.bad < 0; rw [e3]; exact hm1
      have hbad1 : Hid (PS.bad { p3 with root := k, en := false } = -1) := e3
      have hixn : Hid (((PS.ix { p3 with root := k, en := false } : Nat) : Int) = (j : Nat)) := by show ((PS.ix { p3 with root := k, en := false } : Nat) : Int) = (j : Nat); show (p3.ix : Int) = _; rw [e1]
      have hbg6 : Hid (PS.bg { p3 with root := k, en := false } = decide (at' s 0 = 94)) := by show p3.bg = _; rw [a3, hbgv]
      have hgr6 : Hid (PS.gr { p3 with root := k, en := false } = g) := e2
      clear hcur a1 a2 a3 a4 a5 e1 e2 e3
      go_wp2_with (first | (go_at_call 81; refine (take_any b { p3 with root := k } 36 _ hp4 (by omega) hs3).mono ?_; rintro e w5 ⟨rfl, hp5, hk5⟩; rw [htk] at hp5; obtain ⟨_, _, x4, _, _, y4⟩ := hp5.rbe))
      have hp6 := hp5.setEn false
      have hkF : Keeps [] w (w5.setCell ⟨b, 4, none⟩ (.bool false)) := (keeps_new hkE hk5 hbS).setCell (Or.inr (by show w.heap.size ≤ b; rw [HBQ.out]; exact Nat.le_refl _)) _
      have hinv6 := (hinv4.keep hk5 sub_b).keep ((Keeps.refl [b] w5).setB 4 (.bool false)) sub_b
      clear hp5 hk5 htk hd x4 y4
      generalize (w5.setCell ⟨b, 4, none⟩ (.bool false)) = w6 at *
      refine (more_w b { p3 with root := k, en := false } _ hp6).mono ?_
      rintro e w7 ⟨rfl, hp7, hk7⟩
      obtain ⟨c0, h6, h7, f6, f7⟩ := hp7.main
      by_cases hmo : 0 ≤ at' s j
      · have hm : moreB { p3 with root := k, en := false } = true := by rw [moreB_eq, hcur6]; simpa using hmo
        have HQ : Hid (PatE s (.ok (x, g) j) = .bad j) := by show PatE s (.ok (x, g) j) = _; rw [HE.out, if_pos hmo]
        have hp8 := hp7.setBad (PS.ix { p3 with root := k, en := false } : Int)
        obtain ⟨d0, d6, d7, _, _⟩ := hp8.main
        have HIX : Hid (((PS.ix { p3 with root := k, en := false } : Nat) : Int) = (j : Nat)) := by first | exact hixn.out | rfl
        clear hcur6 hmo hixn hbad1
        have hge : ¬ ((PS.ix { p3 with root := k, en := false } : Nat) : Int) < 0 := by omega
        go_wp2_with (first | (go_at_call 84; refine (fail_good b { p3 with root := k, en := false } _ hp7 hbadn).mono ?_; rintro e w8 ⟨rfl, rfl⟩))
        go_ret2
        exact ⟨b, _, ext, .bad j, 2, rfl, by rw [HBQ.out]; exact Nat.le_refl _, ⟨_, HG.out, HQ.out.symm⟩, hp8, (hinv6.keep hk7 sub_nil).keep ((Keeps.refl [b] w7).setB 6 _) sub_b, (hkF.trans hk7).setCell (Or.inr (by show w.heap.size ≤ b; rw [HBQ.out]; exact Nat.le_refl _)) _, hlen, A1.out, rfl, by first | exact HIX.out | rfl⟩
      · have hm : moreB { p3 with root := k, en := false } = false := by rw [moreB_eq, hcur6]; simpa using hmo
        have HQ : Hid (PatE s (.ok (x, g) j) = .ok ⟨decide (at' s 0 = 94), false, x, g⟩ j) := by show PatE s (.ok (x, g) j) = _; rw [HE.out, if_neg hmo]
        clear hcur6 hmo hixn
        go_wp2_with fail
        go_ret2
        exact ⟨b, _, ext, .ok ⟨decide (at' s 0 = 94), false, x, g⟩ j, 0, rfl, by rw [HBQ.out]; exact Nat.le_refl _, ⟨_, HG.out, HQ.out.symm⟩, hp7, hinv6.keep hk7 sub_nil, hkF.trans hk7, hlen, A1.out, rfl, hbg6.out, rfl, hgr6.out, by have := hrep x g j rfl; simpa using this⟩
end Go.Proofs.YtnfojonmohijpaaGreatDoor
