/-
  DERIVED. Contracts of the program's read of a template, of the closure that it defers, and of readTemplate. No conditions.
-/
import Derived.Test.YtnfojonmohijpabGreatDoorJBA
import Derived.Test.YtnfojonmohijpabGreatDoorJBR
set_option linter.unusedSimpArgs false
set_option linter.unusedVariables false
namespace Go.Proofs.YtnfojonmohijpabGreatDoor
open Go.RowKit
set_option maxRecDepth 100000 in
set_option maxHeartbeats 400000 in
theorem xcatch_idle (x y z : Value) (w : World) :
    CallsD Tryz.prog 116 #[x, y, z] .returning w fun e u' w' => e = .returned (.tuple #[]) ∧ u' = .returning ∧ w' = w := by
 refine callsD_of_wpS Tryz.func116 rfl fun c₀ cs hu => ?_
 apply wpS_seq
 apply wpS_region
 simp [wpOpsS, go_sem, recoverD, hu, Tryz.ntmps116, Exit.thenS]
 refine wpS_of_wp ?_
 have et : (#[x, y, z] ++ (Array.replicate 12 undef).setIfInBounds 3 Value.nilIface) = #[x, y, z, undef, undef, undef, .nilIface, undef, undef, undef, undef, undef, undef, undef, undef] := rfl
 rw [et]
 go_wp2_with fail
 cases c₀
 simp_all [bodyPostS, results, Tryz.results116]
set_option maxRecDepth 100000 in
set_option maxHeartbeats 400000 in
theorem xcatch_fault (j : Nat) (e0 : Int) (ib jb eb : Addr) (a b : Value) (w : World) (h1 : w.cell? ib = some (.int .i64 e0)) (h2 : w.cell? jb = some a) (h3 : w.cell? eb = some b) (f2 : w.frozen? jb = false) (f3 : w.frozen? eb = false) (hne : jb ≠ eb) :
    CallsD Tryz.prog 116 #[.pointer (some ib), .pointer (some jb), .pointer (some eb)] (.panicking [{ v := .iface 136 (.agg #[.int .i64 (j : Int)]), recovered := false }]) w fun e u' w' =>
     e = .returned (.tuple #[]) ∧ u' = .panicking [{ v := .iface 136 (.agg #[.int .i64 (j : Int)]), recovered := true }] ∧ w' = ((w.alloc (.cells #[.int .i64 (j : Int)] 136)).setCell jb (.int .i64 (j : Int))).setCell eb (.int .i64 e0) := by
 refine callsD_of_wpS Tryz.func116 rfl fun c₀ cs hu => ?_
 apply wpS_seq
 apply wpS_region
 simp [wpOpsS, go_sem, recoverD, hu, Tryz.ntmps116, Exit.thenS]
 refine wpS_of_wp ?_
 have et : (#[.pointer (some ib), .pointer (some jb), .pointer (some eb)] ++ (Array.replicate 12 undef).setIfInBounds 3 (.iface 136 (.agg #[.int .i64 (j : Int)]))) = #[.pointer (some ib), .pointer (some jb), .pointer (some eb), undef, undef, undef, .iface 136 (.agg #[.int .i64 (j : Int)]), undef, undef, undef, undef, undef, undef, undef, undef] := rfl
 rw [et]
 have hta := fun w => assert_fault (j : Int) w
 have hka : Keeps [] w (w.alloc (.cells #[.int .i64 (j : Int)] 136)) := (Keeps.refl [] w).alloc _
 have l2 := World.block_lt_of_cell? w _ h2
 have l3 := World.block_lt_of_cell? w _ h3
 have g1 := keep_cell hka h1
 have g2 := keep_cell hka h2
 have g3 := keep_cell hka h3
 have k2 : (w.alloc (.cells #[.int .i64 (j : Int)] 136)).frozen? jb = false := (World.frozen?_alloc_old w _ jb (Nat.ne_of_lt l2)).trans f2
 have k3 : (w.alloc (.cells #[.int .i64 (j : Int)] 136)).frozen? eb = false := (World.frozen?_alloc_old w _ eb (Nat.ne_of_lt l3)).trans f3
 have n3 : ((w.alloc (.cells #[.int .i64 (j : Int)] 136)).setCell jb (.int .i64 (j : Int))).cell? eb = some b := (World.cell?_setCell_other _ _ _ _ hne).trans g3
 have m3 : ((w.alloc (.cells #[.int .i64 (j : Int)] 136)).setCell jb (.int .i64 (j : Int))).frozen? eb = false := by rw [World.frozen?_setCell]; exact k3
 clear et hka l2 l3 h1 h2 h3 f2 f3 hne
 go_wp2_with fail
 cases c₀
 simp_all [bodyPostS, results, Tryz.results116]
theorem xcf_parse (args : Array Value) (w : World) : (callFunc 79 args).run Tryz.prog w = .ok (.enter 79 args) w := by kernel_rfl
set_option maxRecDepth 100000 in
set_option maxHeartbeats 400000 in
theorem rt1_any (s : ByteArray) (gs gb : Nat) (hs : s.size ≤ 100) (w : World) (hg : w.cell? ⟨gb, 0, none⟩ = some (.int .i64 gs)) :
    Calls Tryz.prog 79 #[.string s, .pointer (some ⟨gb, 0, none⟩)] w (TpPost s gs w) := by
 have hC := parseTemplate_any s gs hs w
 go_enter Tryz.func79, Tryz.ntmps79
 go_wp2_with fail
 refine hC.mono ?_
 rintro e w1 ⟨hk, hc⟩
 rcases hc with ⟨v, ps, rfl, hT, hr, hf⟩ | ⟨j, rfl, hT⟩
 ·obtain ⟨xa, xn, xc, rfl⟩ := ownsRow_sl hr
  have HT : Hid (TplA s gs 0 (some ps)) := hT
  clear hC hT
  go_wp2_with fail
  go_ret
  exact ⟨hk, Or.inl ⟨_, ps, rfl, HT.out, hr, hf⟩⟩
 ·simp only [fault]
  exact ⟨rfl, hk, Or.inr ⟨j, rfl, hT⟩⟩
theorem xresults_read (tmps : Array Value) (w : World) (g : Nat) (v : Value) (x y : Int) (h8 : tmps.getD 8 undef = v) (h9 : tmps.getD 9 undef = .pointer (some ⟨g + 1, 0, none⟩)) (h10 : tmps.getD 10 undef = .pointer (some ⟨g + 1 + 1, 0, none⟩))
    (hx : w.cell? ⟨g + 1, 0, none⟩ = some (.int .i64 x)) (hy : w.cell? ⟨g + 1 + 1, 0, none⟩ = some (.int .i64 y)) :
    (results Tryz.f81 tmps).run Tryz.prog w = .ok (.tuple #[v, .int .i64 x, .int .i64 y]) w := by
 have h : Tryz.f81.results = #[.tmp 8, .cell 9 3, .cell 10 31] := rfl
 have e8 : tmps[8]?.getD undef = v := by simpa using h8
 have e9 : tmps[9]?.getD undef = .pointer (some ⟨g + 1, 0, none⟩) := by simpa using h9
 have e10 : tmps[10]?.getD undef = .pointer (some ⟨g + 1 + 1, 0, none⟩) := by simpa using h10
 have l2 := loadInt 3 (Or.inl rfl) _ x w hx
 have l3 := loadInt 31 (Or.inr rfl) _ y w hy
 simp [results, h, e8, e9, e10, asAddr, l2, l3]
theorem xread_boxes (e : Int) (w : World) : ∃ W, (((w.alloc (.cells #[.int .i64 4] 31)).alloc (.cells #[.int .i64 0] 3)).alloc (.cells #[.int .i64 e] 31)) = W ∧
    W.cell? ⟨w.heap.size, 0, none⟩ = some (.int .i64 4) ∧ W.cell? ⟨w.heap.size + 1, 0, none⟩ = some (.int .i64 0) ∧ W.cell? ⟨w.heap.size + 1 + 1, 0, none⟩ = some (.int .i64 e) ∧
    W.frozen? ⟨w.heap.size + 1, 0, none⟩ = false ∧ W.frozen? ⟨w.heap.size + 1 + 1, 0, none⟩ = false ∧ Keeps [] w W ∧ W.heap.size = w.heap.size + 3 := by
 have k1 : Keeps [] w (w.alloc (.cells #[.int .i64 4] 31)) := (Keeps.refl [] w).alloc _
 have c1 : (w.alloc (.cells #[.int .i64 4] 31)).cell? ⟨w.heap.size, 0, none⟩ = some (.int .i64 4) := by simp
 have z1 : (w.alloc (.cells #[.int .i64 4] 31)).heap.size = w.heap.size + 1 := by simp
 generalize w.alloc (.cells #[.int .i64 4] 31) = w2 at *
 have k3 : Keeps [] w2 (w2.alloc (.cells #[.int .i64 0] 3)) := (Keeps.refl [] w2).alloc _
 have c3 : (w2.alloc (.cells #[.int .i64 0] 3)).cell? ⟨w2.heap.size, 0, none⟩ = some (.int .i64 0) := by simp
 have f3 : (w2.alloc (.cells #[.int .i64 0] 3)).frozen? ⟨w2.heap.size, 0, none⟩ = false := by simp
 have z3 : (w2.alloc (.cells #[.int .i64 0] 3)).heap.size = w2.heap.size + 1 := by simp
 have c1 := keep_cell k3 c1
 generalize w2.alloc (.cells #[.int .i64 0] 3) = w3 at *
 have k4 : Keeps [] w3 (w3.alloc (.cells #[.int .i64 e] 31)) := (Keeps.refl [] w3).alloc _
 have c4 : (w3.alloc (.cells #[.int .i64 e] 31)).cell? ⟨w3.heap.size, 0, none⟩ = some (.int .i64 e) := by simp
 have f4 : (w3.alloc (.cells #[.int .i64 e] 31)).frozen? ⟨w3.heap.size, 0, none⟩ = false := by simp
 have z4 : (w3.alloc (.cells #[.int .i64 e] 31)).heap.size = w3.heap.size + 1 := by simp
 have c1 := keep_cell k4 c1
 have f3' : (w3.alloc (.cells #[.int .i64 e] 31)).frozen? ⟨w2.heap.size, 0, none⟩ = false := (World.frozen?_alloc_old w3 _ ⟨w2.heap.size, 0, none⟩ (by simp; omega)).trans f3
 have c3 := keep_cell k4 c3
 generalize w3.alloc (.cells #[.int .i64 e] 31) = w4 at *
 rw [z3, z1] at c4 f4
 rw [z1] at c3 f3'
 exact ⟨w4, rfl, c1, c3, c4, f3', f4, (k1.trans k3).trans k4, by omega⟩
def xRdPost (s : ByteArray) (gs : Nat) (w : World) (e : Ending) (w' : World) : Prop :=
 Keeps [] w w' ∧ ((∃ v ps, e = .returned (.tuple #[v, .int .i64 0, .int .i64 0]) ∧ s.size ≤ 100 ∧ TplA s gs 0 (some ps) ∧ TpR w' v ps ∧ (∀ g, v.ownBlock = some g → w.heap.size ≤ g)) ∨ (∃ x y : Int, e = .returned (.tuple #[.slice none 0 0, .int .i64 x, .int .i64 y]) ∧ y ≠ 0 ∧ (100 < s.size ∨ TplA s gs 0 none)))
set_option maxRecDepth 100000 in
set_option maxHeartbeats 1000000 in
theorem xread_any (s : ByteArray) (gs gb : Nat) (w : World) (hgb : w.cell? ⟨gb, 0, none⟩ = some (.int .i64 gs)) :
    Calls Tryz.prog 81 #[.string s, .int .i64 100, .func (.func 79) #[] #[.pointer (some ⟨gb, 0, none⟩)], .int .i64 4] w (xRdPost s gs w) := by
 have hmf : ∀ (fn : Fn) (first cap : Array Value) (w : World), (Instr.makeFunc fn first cap).run Tryz.prog w = .ok (.func fn first cap) w := fun _ _ _ _ => rfl
 by_cases hs : s.size ≤ 100
 rotate_left
 ·have hs' : (100 : Int) < (s.size : Int) := by omega
  obtain ⟨W, hW, b0, b2, b3, g2, g3, hk, hz⟩ := xread_boxes 1 w
  go_enter_defers Tryz.func81, Tryz.ntmps81
  go_wp2_with fail
  try rw [hW]
  exact ⟨_, xresults_read _ _ w.heap.size _ 0 1 rfl rfl rfl b2 b3, hk, Or.inr ⟨0, 1, rfl, by decide, Or.inl (by omega)⟩⟩
 have hs' : ¬ (100 : Int) < (s.size : Int) := by omega
 have cfp := xcf_parse
 obtain ⟨W, hW, b0, b2, b3, g2, g3, hk, hz⟩ := xread_boxes 0 w
 have hgW := keep_cell hk hgb
 go_enter_defers Tryz.func81, Tryz.ntmps81
 go_wp2_with fail
 try rw [hW]
 clear hW
 refine (rt1_any s gs gb hs W hgW).mono ?_
 rintro e w5 ⟨hk5, hc5⟩
 have hkA := hk.trans hk5
 have a0 := keep_cell hk5 b0
 have a2 := keep_cell hk5 b2
 have a3 := keep_cell hk5 b3
 have h2 : w5.frozen? ⟨w.heap.size + 1, 0, none⟩ = false := (World.frozen?_of_block (hk5.block _ (World.block_lt_of_cell? W _ b2) (by simp))).trans g2
 have h3 : w5.frozen? ⟨w.heap.size + 1 + 1, 0, none⟩ = false := (World.frozen?_of_block (hk5.block _ (World.block_lt_of_cell? W _ b3) (by simp))).trans g3
 clear b0 b2 b3 g2 g3
 obtain ⟨g, hg⟩ : ∃ g, w.heap.size = g := ⟨_, rfl⟩
 rw [hg] at a0 a2 a3 h2 h3 ⊢
 have z5 := hk5.size
 rcases hc5 with ⟨v, ps, rfl, hT, hr, hf⟩ | ⟨j, rfl, hT⟩
 ·obtain ⟨xa, xn, xc, rfl⟩ := ownsRow_sl hr
  have HT : Hid (TplA s gs 0 (some ps)) := hT
  have HR : Hid (TpR w5 (.slice xa xn xc) ps) := hr
  clear hT hr
  go_wp2_with fail
  refine leaves_cons (f := 116) (args := #[.pointer (some ⟨g, 0, none⟩), .pointer (some ⟨g + 1, 0, none⟩), .pointer (some ⟨g + 1 + 1, 0, none⟩)]) (by simp) (by simp [go_sem]) ?_
  refine (xcatch_idle _ _ _ _).mono ?_
  rintro e u' w7 ⟨rfl, rfl, rfl⟩
  have hkC : Keeps [g + 1, g + 1 + 1] w5 ((w5.setCell ⟨g + 1, 0, none⟩ (.int .i64 0)).setCell ⟨g + 1 + 1, 0, none⟩ (.int .i64 0)) := ((Keeps.refl _ w5).setCell (by simp) _).setCell (by simp) _
  have r1 : ((w5.setCell ⟨g + 1, 0, none⟩ (.int .i64 0)).setCell ⟨g + 1 + 1, 0, none⟩ (.int .i64 0)).cell? ⟨g + 1, 0, none⟩ = some (.int .i64 0) := by
   rw [World.cell?_setCell_other _ _ _ _ (by simp)]
   exact World.cell?_setCell_same _ _ _ a2
  have r2 : ((w5.setCell ⟨g + 1, 0, none⟩ (.int .i64 0)).setCell ⟨g + 1 + 1, 0, none⟩ (.int .i64 0)).cell? ⟨g + 1 + 1, 0, none⟩ = some (.int .i64 0) := by
   refine World.cell?_setCell_same _ _ _ (u := .int .i64 0) ?_
   rw [World.cell?_setCell_other _ _ _ _ (by simp)]
   exact a3
  exact ⟨_, xresults_read _ _ g _ 0 0 rfl rfl rfl r1 r2, hkA.fresh hkC (by intro x hx; simp at hx; omega), Or.inl ⟨_, ps, rfl, hs, HT.out, HR.out.keep hkC (by intro y hy; have := hf y hy; simp; omega), fun y hy => by have := hf y hy; omega⟩⟩
 ·simp only [fault]
  refine leaves_cons (f := 116) (args := #[.pointer (some ⟨g, 0, none⟩), .pointer (some ⟨g + 1, 0, none⟩), .pointer (some ⟨g + 1 + 1, 0, none⟩)]) (by simp) (by simp [go_sem]) ?_
  refine (xcatch_fault j 4 _ _ _ _ _ _ a0 a2 a3 h2 h3 (by simp)).mono ?_
  rintro e u' w6 ⟨rfl, rfl, rfl⟩
  have kf : Keeps [] w5 (w5.alloc (.cells #[.int .i64 (j : Int)] 136)) := (Keeps.refl [] w5).alloc _
  have y1 := keep_cell kf a2
  have y2 := keep_cell kf a3
  have hkB := hkA.trans kf
  generalize w5.alloc (.cells #[.int .i64 (j : Int)] 136) = w7 at *
  have hkC : Keeps [g + 1, g + 1 + 1] w7 ((w7.setCell ⟨g + 1, 0, none⟩ (.int .i64 (j : Int))).setCell ⟨g + 1 + 1, 0, none⟩ (.int .i64 4)) := ((Keeps.refl _ w7).setCell (by simp) _).setCell (by simp) _
  have r1 : ((w7.setCell ⟨g + 1, 0, none⟩ (.int .i64 (j : Int))).setCell ⟨g + 1 + 1, 0, none⟩ (.int .i64 4)).cell? ⟨g + 1, 0, none⟩ = some (.int .i64 (j : Int)) := by
   rw [World.cell?_setCell_other _ _ _ _ (by simp)]
   exact World.cell?_setCell_same _ _ _ y1
  have r2 : ((w7.setCell ⟨g + 1, 0, none⟩ (.int .i64 (j : Int))).setCell ⟨g + 1 + 1, 0, none⟩ (.int .i64 4)).cell? ⟨g + 1 + 1, 0, none⟩ = some (.int .i64 4) := by
   refine World.cell?_setCell_same _ _ _ (u := .int .i64 0) ?_
   rw [World.cell?_setCell_other _ _ _ _ (by simp)]
   exact y2
  exact ⟨_, xresults_read _ _ g _ j 4 rfl rfl rfl r1 r2, hkB.fresh hkC (by intro x hx; simp at hx; omega), Or.inr ⟨j, 4, rfl, by decide, Or.inr hT⟩⟩
def RtPost (s : ByteArray) (gs : Nat) (w : World) (e : Ending) (w' : World) : Prop :=
 Keeps [] w w' ∧ ((∃ v ps, e = .returned (.tuple #[v, .bool true]) ∧ s.size ≤ 100 ∧ TplA s gs 0 (some ps) ∧ TpR w' v ps ∧ (∀ g, v.ownBlock = some g → w.heap.size ≤ g)) ∨ (e = .returned (.tuple #[.slice none 0 0, .bool false]) ∧ (100 < s.size ∨ TplA s gs 0 none)))
set_option maxRecDepth 100000 in
set_option maxHeartbeats 1000000 in
theorem readTemplate_any (s : ByteArray) (gs : Nat) (w : World) : Calls Tryz.prog 42 #[.string s, .int .i64 gs] w (RtPost s gs w) := by
 have hmf : ∀ (fn : Fn) (first cap : Array Value) (w : World), (Instr.makeFunc fn first cap).run Tryz.prog w = .ok (.func fn first cap) w := fun _ _ _ _ => rfl
 have hk0 : Keeps [] w (w.alloc (.cells #[.int .i64 gs] 3)) := (Keeps.refl [] w).alloc _
 have hg0 : (w.alloc (.cells #[.int .i64 gs] 3)).cell? ⟨w.heap.size, 0, none⟩ = some (.int .i64 gs) := by simp
 go_enter Tryz.func42, Tryz.ntmps42
 go_upto_region 1 with (fail)
 generalize w.alloc (.cells #[.int .i64 gs] 3) = W at *
 have hC := xread_any s gs _ W hg0
 obtain ⟨gb, hgb⟩ : ∃ g, w.heap.size = g := ⟨_, rfl⟩
 rw [hgb] at hC ⊢
 have HGB : Hid (w.heap.size = gb) := hgb
 clear hg0 hgb
 go_wp2_with fail
 refine hC.mono ?_
 rintro e w1 ⟨hk1, hc⟩
 have hkA := hk0.trans hk1
 have hsz := hk0.size
 rcases hc with ⟨v, ps, rfl, hs, hT, hr, hf⟩ | ⟨x, y, rfl, hy, hT⟩
 ·obtain ⟨xa, xn, xc, rfl⟩ := ownsRow_sl hr
  have HT : Hid (TplA s gs 0 (some ps)) := hT
  clear hC hT
  go_wp2_with fail
  go_ret2
  exact ⟨hkA, Or.inl ⟨_, ps, rfl, hs, HT.out, hr, fun g hg => by have := hf g hg; omega⟩⟩
 ·have hy1 : (y == 0) = false := by simpa using hy
  have hy2 : ¬ y = 0 := hy
  have HT : Hid (100 < s.size ∨ TplA s gs 0 none) := hT
  clear hC hT hy
  go_wp2_with fail
  go_ret2
  exact ⟨hkA, Or.inr ⟨rfl, HT.out⟩⟩
end Go.Proofs.YtnfojonmohijpabGreatDoor
namespace Go.Proofs.YtnfojonmohijpabGreatDoor
open Go.RowKit
inductive CmdA (l : List ByteArray) : Option (Cmd × Whole × List Part) → Prop
 | args : OptA l kI none → CmdA l none
 | long (k : Cmd) (p : ByteArray) : OptA l kI (some (k, p)) → 60 < p.size → CmdA l none
 | bad (k : Cmd) (p : ByteArray) (j : Nat) : OptA l kI (some (k, p)) → p.size ≤ 60 → PatR p (.bad j) → CmdA l none
 | tpl (k : Cmd) (p : ByteArray) (W : Whole) (j : Nat) : OptA l kI (some (k, p)) → p.size ≤ 60 → PatR p (.ok W j) → (100 < k.tp.size ∨ TplA k.tp W.g 0 none) → CmdA l none
 | ok (k : Cmd) (p : ByteArray) (W : Whole) (j : Nat) (ps : List Part) : OptA l kI (some (k, p)) → p.size ≤ 60 → PatR p (.ok W j) → k.tp.size ≤ 100 → TplA k.tp W.g 0 (some ps) → CmdA l (some (k, W, ps))
theorem CmdA.det {l : List ByteArray} {a b : Option (Cmd × Whole × List Part)} (h : CmdA l a) (h' : CmdA l b) : a = b := by
 cases h with
 | args h =>
  cases h' with
  | args => rfl
  | long k p h' => cases h.det h'
  | bad k p j h' => rfl
  | tpl k p W j h' => rfl
  | ok k p W j ps h' => cases h.det h'
 | long k p h h1 =>
  cases h' with
  | args => rfl
  | long => rfl
  | bad => rfl
  | tpl => rfl
  | ok k' p' W j ps h' h2 => cases h.det h'; omega
 | bad k p j h h1 h3 =>
  cases h' with
  | args => rfl
  | long => rfl
  | bad => rfl
  | tpl => rfl
  | ok k' p' W j ps h' h2 h4 => cases h.det h'; cases h3.det h4
 | tpl k p W j h h1 h3 h5 =>
  cases h' with
  | args => rfl
  | long => rfl
  | bad => rfl
  | tpl => rfl
  | ok k' p' W j ps h' h2 h4 h6 h7 =>
   cases h.det h'
   cases h3.det h4
   rcases h5 with h5 | h5
   ·omega
   ·cases h5.det h7
 | ok k p W j ps h h1 h3 h5 h6 =>
  cases h' with
  | args h' => cases h.det h'
  | long k' p' h' h2 => cases h.det h'; omega
  | bad k' p' j' h' h2 h4 => cases h.det h'; cases h3.det h4
  | tpl k' p' W' j' h' h2 h4 h7 =>
   cases h.det h'
   cases h3.det h4
   rcases h7 with h7 | h7
   ·omega
   ·cases h6.det h7
  | ok k' p' W' j' ps' h' h2 h4 h7 h8 =>
   cases h.det h'
   cases h3.det h4
   cases h6.det h8
   rfl
def zc : Array Value := #[.bool false, .bool false, .bool false, .bool false, .bool false, .bool false, .bool false, .bool false, .slice none 0 0, .int .i64 0, .slice none 0 0]
def RcPost (l : List ByteArray) (w : World) (e : Ending) (w' : World) : Prop :=
 Keeps [] w w' ∧ ((CmdA l none ∧ e = .returned (.tuple #[.agg zc, .bool false])) ∨ ∃ k W ps v tv, CmdA l (some (k, W, ps)) ∧ e = .returned (.tuple #[.agg (cmdC k W v tv), .bool true]) ∧ IsSl v ∧ IsSl tv ∧ Rep w' (fun g => w.heap.size ≤ g) .ways W.x [v] ∧ TpR w' tv ps)
theorem results_rc (tmps : Array Value) (w : World) (g : Nat) (cs : Array Value) (hcs : cs.size = 11) (v5 : Value) (h4 : tmps.getD 2 undef = .pointer (some ⟨g, 0, none⟩)) (h5 : tmps.getD 3 undef = v5) (hp : w.heap[g]? = some (.cells cs 83 (0, 0))) :
    (results Tryz.f25 tmps).run Tryz.prog w = .ok (.tuple #[.agg cs, v5]) w := by
 have e1 := run_loadVar_row (P := Tryz.prog) w g 83 83 cs (0, 0) _ hp Tryz.underlying83 rfl (by rw [hcs]; kernel_rfl)
 have h : Tryz.f25.results = #[.cell 2 83, .tmp 3] := rfl
 have e4 : tmps[2]?.getD undef = .pointer (some ⟨g, 0, none⟩) := by simpa using h4
 have e5 : tmps[3]?.getD undef = v5 := by simpa using h5
 simp [results, h, e4, e5, asAddr, e1]
end Go.Proofs.YtnfojonmohijpabGreatDoor
namespace Go.Proofs.YtnfojonmohijpabGreatDoor
open Go.RowKit
theorem info11z : (Tryz.prog.info? 83).map (·.size) = some zc.size := by kernel_rfl
set_option maxRecDepth 100000 in
set_option maxHeartbeats 4000000 in
theorem readCommand_any (v : Value) (l : List ByteArray) (w : World) (hgn : GN w) (hl : ArgIs w v l) (hni : ∀ k p, OptA l kI (some (k, p)) → k.i = false) :
    Calls Tryz.prog 25 #[v] w (RcPost l w) := by
 have hk0 : Keeps [] w (w.alloc (.cells zc 83)) := (Keeps.refl [] w).alloc _
 have h0 : (w.alloc (.cells zc 83)).heap[w.heap.size]? = some (.cells zc 83 (0, 0)) := heap_alloc_new w _
 have hRA := readArgs_any v l (w.alloc (.cells zc 83)) (hl.keep hk0)
 obtain ⟨va, vc, hv⟩ := hl.sl
 subst hv
 have hzc : zc.all (·.oneCell') = true := all11 rfl rfl rfl rfl rfl rfl rfl rfl rfl rfl rfl
 go_enter Tryz.func25, Tryz.ntmps25
 go_upto_region 1 with (fail)
 change Code.wp _ _ _ _ (w.alloc (.cells zc 83))
 generalize w.alloc (.cells zc 83) = X at *
 obtain ⟨r, hr⟩ : ∃ g, g = w.heap.size := ⟨_, rfl⟩
 rw [← hr] at h0 ⊢
 have HR : Hid (r = w.heap.size) := hr
 clear hr
 go_wp2_with fail
 refine hRA.mono ?_
 rintro e w1 ⟨hk1, q, hq, rfl⟩
 have hkw1 := hk0.trans hk1
 have h1 := (hk1.block r (Array.getElem?_eq_some_iff.1 h0).1 (by simp)).trans h0
 clear hRA hk0 h0 hk1
 cases q with
 | none =>
  have HA : Hid (CmdA l none) := .args hq
  have hz : (w1.alloc (.cells #[.bool false, .bool false, .bool false, .bool false, .bool false, .bool false, .string ⟨#[]⟩, .string ⟨#[]⟩] 108)).heap[w1.heap.size]? = some (.cells #[.bool false, .bool false, .bool false, .bool false, .bool false, .bool false, .string ⟨#[]⟩, .string ⟨#[]⟩] 108 (0, 0)) := heap_alloc_new w1 _
  have hkA : Keeps [] w1 ((w1.alloc (.cells #[.bool false, .bool false, .bool false, .bool false, .bool false, .bool false, .string ⟨#[]⟩, .string ⟨#[]⟩] 108)).setRow w1.heap.size (k0.cells ⟨#[]⟩)) := ((Keeps.refl [] w1).alloc _).setRow (Or.inr (Nat.le_refl _)) _
  have h2 := (hkA.block r (Array.getElem?_eq_some_iff.1 h1).1 (by simp)).trans h1
  have hkw2 := hkw1.trans hkA
  have hall := cells_one k0 ⟨#[]⟩
  unfold raE
  clear hkA h1 hkw1 hq hni hgn hl
  go_wp2_with (first | (refine wpList_store_row rfl 108 _ _ rfl w1.heap.size (k0.cells ⟨#[]⟩) rfl rfl _ _ hz (infoArgs k0 ⟨#[]⟩) rfl hall ?_; generalize (w1.alloc (.cells #[.bool false, .bool false, .bool false, .bool false, .bool false, .bool false, .string ⟨#[]⟩, .string ⟨#[]⟩] 108)).setRow w1.heap.size (k0.cells ⟨#[]⟩) = W2 at *) | (refine wpList_store_row rfl 83 _ _ rfl r zc rfl rfl _ _ h2 info11z rfl hzc ?_))
  refine bodyPost_ret (results_rc _ _ r zc rfl _ rfl rfl (setRow_heap _ _ _ _ _ _ h2)) rfl ?_
  exact ⟨hkw2.setRow (Or.inr (by have := HR.out; omega)) _, Or.inl ⟨HA.out, rfl⟩⟩
 | some kp =>
  obtain ⟨k, p⟩ := kp
  have HQ : Hid (OptA l kI (some (k, p))) := hq
  have HKI : Hid (k.i = false) := hni k p hq
  have hz : (w1.alloc (.cells #[.bool false, .bool false, .bool false, .bool false, .bool false, .bool false, .string ⟨#[]⟩, .string ⟨#[]⟩] 108)).heap[w1.heap.size]? = some (.cells #[.bool false, .bool false, .bool false, .bool false, .bool false, .bool false, .string ⟨#[]⟩, .string ⟨#[]⟩] 108 (0, 0)) := heap_alloc_new w1 _
  have hkA : Keeps [] w1 ((w1.alloc (.cells #[.bool false, .bool false, .bool false, .bool false, .bool false, .bool false, .string ⟨#[]⟩, .string ⟨#[]⟩] 108)).setRow w1.heap.size (k.cells p)) := ((Keeps.refl [] w1).alloc _).setRow (Or.inr (Nat.le_refl _)) _
  have hab : AB ((w1.alloc (.cells #[.bool false, .bool false, .bool false, .bool false, .bool false, .bool false, .string ⟨#[]⟩, .string ⟨#[]⟩] 108)).setRow w1.heap.size (k.cells p)) w1.heap.size k p := setRow_heap _ _ _ _ _ _ hz
  have h2 := (hkA.block r (Array.getElem?_eq_some_iff.1 h1).1 (by simp)).trans h1
  have hkw2 := hkw1.trans hkA
  have hall := cells_one k p
  have HRS : Hid (w.heap.size ≤ w1.heap.size) := hkw1.size
  unfold raE
  clear hkA h1 hkw1 hq hni hl
  go_upto_region 2 with (first | (refine wpList_store_row rfl 108 _ _ rfl w1.heap.size (k.cells p) rfl rfl _ _ hz (infoArgs k p) rfl hall ?_))
  generalize (w1.alloc (.cells #[.bool false, .bool false, .bool false, .bool false, .bool false, .bool false, .string ⟨#[]⟩, .string ⟨#[]⟩] 108)).setRow w1.heap.size (k.cells p) = W2 at *
  obtain ⟨ga, hga⟩ : ∃ g, g = w1.heap.size := ⟨_, rfl⟩
  rw [← hga] at hab HRS ⊢
  clear hz hall hga
  obtain ⟨_, _, _, _, _, _, a6, a7⟩ := hab.main
  have hRP := readPattern_prog p W2 (hgn.keep hkw2 (by simp))
  go_wp2_with fail
  refine hRP.mono ?_
  rintro e w3 ⟨hk3, hc3⟩
  have h3 := (hk3.block r (Array.getElem?_eq_some_iff.1 h2).1 (by simp)).trans h2
  have hab3 := hab.keep hk3 (by simp)
  have hkw3 := hkw2.trans hk3
  have hz0 : P4 (w3.alloc (.cells #[.bool false, .bool false, .slice none 0 0, .int .i64 0] 58)) w3.heap.size (.bool false) (.bool false) (.slice none 0 0) (.int .i64 0) := heap_alloc_new w3 _
  have hC : (∃ x y : Int, y ≠ 0 ∧ e = .returned (.tuple #[.agg #[.bool false, .bool false, .slice none 0 0, .int .i64 0], .int .i64 x, .int .i64 y]) ∧ CmdA l none) ∨
      ∃ W j v, p.size ≤ 60 ∧ PatR p (.ok W j) ∧ e = .returned (.tuple #[.agg #[.bool W.bg, .bool W.en, v, .int .i64 W.g], .int .i64 0, .int .i64 0]) ∧ v.oneCell' = true ∧ Rep w3 (fun g => W2.heap.size ≤ g) .ways W.x [v] := by
   rcases hc3 with ⟨hl, he⟩ | ⟨hs, q, hq, h⟩
   ·exact Or.inl ⟨0, 1, by decide, he, .long k p HQ.out hl⟩
   ·cases q with
    | bad j => exact Or.inl ⟨j, 2, by decide, h, .bad k p j HQ.out hs hq⟩
    | ok W j =>
     obtain ⟨v, he, hv, hrep⟩ := h
     exact Or.inr ⟨W, j, v, hs, hq, he, hv, hrep⟩
  have HK3 : Hid (w.heap.size ≤ w3.heap.size ∧ w.heap.size ≤ W2.heap.size ∧ r < W2.heap.size) := ⟨hkw3.size, hkw2.size, (Array.getElem?_eq_some_iff.1 h2).1⟩
  clear hc3 hRP hab h2 hk3 hkw2 a6 a7
  rcases hC with ⟨x, y, hy0, rfl, hp⟩ | ⟨W, j, v, hs, hq, rfl, hv, hrep⟩
  ·have o4 := four_one (x := false) (y := false) (n := 0) (v := .slice none 0 0) rfl
   have hk4 : Keeps [] w3 ((w3.alloc (.cells #[.bool false, .bool false, .slice none 0 0, .int .i64 0] 58)).setRow w3.heap.size #[.bool false, .bool false, .slice none 0 0, .int .i64 0]) := ((Keeps.refl [] w3).alloc _).setRow (Or.inr (Nat.le_refl _)) _
   have hkA := hkw3.trans hk4
   have h4 := (hk4.block r (Array.getElem?_eq_some_iff.1 h3).1 (by simp)).trans h3
   have HP : Hid (CmdA l none) := hp
   clear hk4 hp h3 hab3 hkw3
   go_wp2_with (first | (refine wpList_store_row rfl 58 _ _ rfl w3.heap.size _ rfl rfl _ _ hz0 infoPat rfl o4 ?_; generalize (w3.alloc (.cells #[.bool false, .bool false, .slice none 0 0, .int .i64 0] 58)).setRow w3.heap.size #[.bool false, .bool false, .slice none 0 0, .int .i64 0] = W3 at *) | (refine wpList_store_row rfl 83 _ _ rfl r zc rfl rfl _ _ h4 info11z rfl hzc ?_))
   refine bodyPost_ret (results_rc _ _ r zc rfl _ rfl rfl (setRow_heap _ _ _ _ _ _ h4)) rfl ?_
   exact ⟨hkA.setRow (Or.inr (by have := HR.out; omega)) _, Or.inl ⟨HP.out, rfl⟩⟩
  ·have hsl : IsSl v := by
      cases hrep with
      | ways _ _ _ _ _ ho _ => exact ownsRow_sl ho
   have o4 := four_one (x := W.bg) (y := W.en) (n := (W.g : Int)) hv
   have hk4 : Keeps [] w3 ((w3.alloc (.cells #[.bool false, .bool false, .slice none 0 0, .int .i64 0] 58)).setRow w3.heap.size #[.bool W.bg, .bool W.en, v, .int .i64 (W.g : Int)]) := ((Keeps.refl [] w3).alloc _).setRow (Or.inr (Nat.le_refl _)) _
   have hrow : ((w3.alloc (.cells #[.bool false, .bool false, .slice none 0 0, .int .i64 0] 58)).setRow w3.heap.size #[.bool W.bg, .bool W.en, v, .int .i64 (W.g : Int)]).heap[w3.heap.size]? = some (.cells #[.bool W.bg, .bool W.en, v, .int .i64 (W.g : Int)] 58 (0, 0)) := setRow_heap _ _ _ _ _ _ hz0
   have hkA := hkw3.trans hk4
   have h4 := (hk4.block r (Array.getElem?_eq_some_iff.1 h3).1 (by simp)).trans h3
   have hab4 := hab3.keep hk4 (by simp)
   have hrep4 := hrep.keep hk4 (by simp)
   have HPQ : Hid (p.size ≤ 60 ∧ PatR p (.ok W j)) := ⟨hs, hq⟩
   clear hk4 h3 hab3 hkw3 hrep hs hq
   go_upto_region 5 with (first | (refine wpList_store_row rfl 58 _ _ rfl w3.heap.size _ rfl rfl _ _ hz0 infoPat rfl o4 ?_))
   generalize (w3.alloc (.cells #[.bool false, .bool false, .slice none 0 0, .int .i64 0] 58)).setRow w3.heap.size #[.bool W.bg, .bool W.en, v, .int .i64 (W.g : Int)] = W3 at *
   obtain ⟨gp, hgp⟩ : ∃ g, g = w3.heap.size := ⟨_, rfl⟩
   rw [← hgp] at hrow ⊢
   clear hz0 o4 hgp
   obtain ⟨_, _, _, _, _, _, a6, a7⟩ := hab4.main
   have cg3 : W3.cell? ⟨gp, 3, none⟩ = some (.int .i64 (W.g : Int)) := by rw [Lib.cell_of_heap hrow]; rfl
   have hRT := readTemplate_any k.tp W.g W3
   go_wp2_with fail
   refine hRT.mono ?_
   rintro e w5 ⟨hk5, hc5⟩
   have h5 := (hk5.block r (Array.getElem?_eq_some_iff.1 h4).1 (by simp)).trans h4
   have hkB := hkA.trans hk5
   have hr3 : r < W3.heap.size := (Array.getElem?_eq_some_iff.1 h4).1
   rcases hc5 with ⟨tv, ps, rfl, ht1, ht2, ht3, ht4⟩ | ⟨rfl, ht⟩
   ·obtain ⟨ta, tn, tc, rfl⟩ := ownsRow_sl ht3
    have HT4 : Hid (∀ g, (Value.slice ta tn tc).ownBlock = some g → r < g) := fun g hg => by have := ht4 g hg; omega
    clear ht4
    have HP : Hid (CmdA l (some (k, W, ps))) := .ok k p W j ps HQ.out HPQ.out.1 HPQ.out.2 ht1 ht2
    have hab5 := hab4.keep hk5 (by simp)
    have hrow5 := (hk5.block gp (Array.getElem?_eq_some_iff.1 hrow).1 (by simp)).trans hrow
    have hrep5 := hrep4.keep hk5 (by simp)
    have hopt : ∀ t u, [Value.bool k.c, .bool k.i, .bool k.n, .bool k.o, .bool k.v, .bool k.x][t]? = some u → w5.cell? ⟨ga, 0 + t, none⟩ = some u := by
     intro t u hu
     rw [Lib.cell_of_heap hab5, Nat.zero_add]
     match t, hu with
     | 0, hu => exact hu
     | 1, hu => exact hu
     | 2, hu => exact hu
     | 3, hu => exact hu
     | 4, hu => exact hu
     | 5, hu => exact hu
    have hi6 : (Tryz.prog.info? 79).map (·.size) = some ([Value.bool k.c, .bool k.i, .bool k.n, .bool k.o, .bool k.v, .bool k.x] : List Value).length := by kernel_rfl
    have hN := cnew_any k HKI.out W v (.slice ta tn tc) hv ⟨ta, tn, tc, rfl⟩ w5
    have hal : (cmdC k W v (.slice ta tn tc)).all (·.oneCell') = true := all11 rfl rfl rfl rfl rfl rfl rfl rfl hv rfl rfl
    clear hRT h4 hkA hab4 hrow a6 a7 cg3 hk5 hrep4 hab5 ht1 ht2
    go_wp2_with (first | (refine wpList_load_at rfl 79 _ rfl ga 0 rfl [.bool k.c, .bool k.i, .bool k.n, .bool k.o, .bool k.v, .bool k.x] _ hopt Tryz.underlying79 rfl hi6 ?_) | (refine wpList_load_row rfl 58 _ rfl gp rfl _ _ _ _ hrow5 Tryz.underlying58 rfl (info4P _ _ _ _) ?_))
    refine hN.mono ?_
    rintro e w6 ⟨rfl, hk6⟩
    have h6 := (hk6.block r (Array.getElem?_eq_some_iff.1 h5).1 (by simp)).trans h5
    have hkC := hkB.trans hk6
    have hrep6 := hrep5.keep hk6 (by simp)
    have ht6 : TpR w6 (.slice ta tn tc) ps := TpR.keep ht3 hk6 (by simp)
    clear hN hopt hrow5 hrep5 ht3 h5 hkB hk6
    go_wp2_with (first | (refine wpList_store_row rfl 83 _ _ rfl r (cmdC k W v (.slice ta tn tc)) rfl rfl _ _ h6 (info11 k W v (.slice ta tn tc)) rfl hal ?_))
    refine bodyPost_ret (results_rc _ _ r (cmdC k W v (.slice ta tn tc)) rfl _ rfl rfl (setRow_heap _ _ _ _ _ _ h6)) rfl ?_
    have hks : Keeps [r] w6 (w6.setRow r (cmdC k W v (.slice ta tn tc))) := (Keeps.refl [r] w6).setRow (Or.inl (by simp)) _
    refine ⟨hkC.setRow (Or.inr (by have := HR.out; omega)) _, Or.inr ⟨k, W, ps, v, .slice ta tn tc, HP.out, rfl, hsl, ⟨ta, tn, tc, rfl⟩, ?_, ?_⟩⟩
    ·exact Rep.mono (fun g hg _ => by have := HK3.out; omega) (hrep6.keep hks (fun g hg => by have := HK3.out; simp; omega))
    ·exact TpR.keep ht6 hks (fun g hg => by have := HT4.out g hg; simp; omega)
   ·have HP : Hid (CmdA l none) := .tpl k p W j HQ.out HPQ.out.1 HPQ.out.2 ht
    clear hRT h4 hkA hab4 hrow a6 a7 cg3 hk5 hrep4 ht
    go_wp2_with (first | (refine wpList_store_row rfl 83 _ _ rfl r zc rfl rfl _ _ h5 info11z rfl hzc ?_))
    refine bodyPost_ret (results_rc _ _ r zc rfl _ rfl rfl (setRow_heap _ _ _ _ _ _ h5)) rfl ?_
    exact ⟨hkB.setRow (Or.inr (by have := HR.out; omega)) _, Or.inl ⟨HP.out, rfl⟩⟩
end Go.Proofs.YtnfojonmohijpabGreatDoor
namespace Go.Proofs.YtnfojonmohijpabGreatDoor
open Go.RowKit
theorem TplA.ok {s : ByteArray} {gs i : Nat} {q : Option (List Part)} (h : TplA s gs i q) : ∀ ps, q = some ps → ps.length ≤ s.size - i ∧ GrOk gs ps := by
 induction h with
 | fin i h => intro ps e; cases e; exact ⟨Nat.zero_le _, fun p hp => by cases hp⟩
 | bad => intro ps e; cases e
 | go i k p q h1 h2 _ ih =>
  intro ps e
  cases q with
  | none => cases e
  | some l =>
   cases e
   obtain ⟨a1, a2⟩ := ih l rfl
   obtain ⟨b1, b2, b3⟩ := partF_le h2 h1
   refine ⟨by simp only [List.length_cons]; omega, fun p' hp' g hg => ?_⟩
   rcases List.mem_cons.1 hp' with rfl | hp'
   ·exact b3 g hg
   ·exact a2 p' hp' g hg
inductive ExtA (l : List ByteArray) (s : ByteArray) : Ending → Prop
 | args : CmdA l none → ExtA l s (.returned (.tuple #[.string ⟨#[]⟩, .int .i64 2]))
 | long (k : Cmd) (W : Whole) (ps : List Part) : CmdA l (some (k, W, ps)) → (2000 < s.size ∨ ∃ a ∈ lnF s, 100 < a.size) → ExtA l s (.returned (.tuple #[.string ⟨#[]⟩, .int .i64 2]))
 | run (k : Cmd) (W : Whole) (ps : List Part) (o : List UInt8) (m : Nat) : CmdA l (some (k, W, ps)) → s.size ≤ 2000 → (∀ a ∈ lnF s, a.size ≤ 100) → RunA k W ps 0 (lnF s) o m → ExtA l s (RunE k o m)
theorem infoCmdZ : (Tryz.prog.info? 83).map (·.size) = some zc.size := by kernel_rfl
set_option maxRecDepth 100000 in
set_option maxHeartbeats 4000000 in
theorem yextract_any (v : Value) (l : List ByteArray) (s : ByteArray) (w : World) (hgn : GN w) (hl : ArgIs w v l) (hni : ∀ k p, OptA l kI (some (k, p)) → k.i = false ∧ (k.o = true → k.v = false → k.x = false)) (hn : (lnF s).length < 100) :
    Calls Tryz.prog 13 #[v, .string s] w fun e w' => ExtA l s e ∧ Keeps [] w w' := by
 have hRC := readCommand_any v l w hgn hl (fun k p h => (hni k p h).1)
 obtain ⟨va, vc, hv⟩ := hl.sl
 subst hv
 go_enter Tryz.func13, Tryz.ntmps13
 go_wp2_with fail
 refine hRC.mono ?_
 rintro e w1 ⟨hk1, hc1⟩
 have hz : (w1.alloc (.cells zc 83)).heap[w1.heap.size]? = some (.cells zc 83 (0, 0)) := heap_alloc_new w1 _
 unfold zc at hz
 rcases hc1 with ⟨hC, rfl⟩ | ⟨k, W, ps, u, tv, hC, rfl, hu, htv, hrep, htp⟩
 ·have hk2 : Keeps [] w ((w1.alloc (.cells zc 83)).setRow w1.heap.size zc) := (hk1.alloc _).setRow (Or.inr hk1.size) _
  unfold zc at hk2
  have hzc : zc.all (·.oneCell') = true := all11 rfl rfl rfl rfl rfl rfl rfl rfl rfl rfl rfl
  have HC : Hid (ExtA l s (.returned (.tuple #[.string ⟨#[]⟩, .int .i64 2]))) := .args hC
  clear hRC hC hk1
  go_wp2_with (first | (refine wpList_store_row rfl 83 _ _ rfl w1.heap.size zc rfl rfl _ _ hz infoCmdZ rfl hzc ?_))
  go_ret2
  exact ⟨HC.out, hk2⟩
 ·obtain ⟨ua, un, uc, rfl⟩ := hu
  obtain ⟨ta, tn, tc, rfl⟩ := htv
  have hal : (cmdC k W (.slice ua un uc) (.slice ta tn tc)).all (·.oneCell') = true := all11 rfl rfl rfl rfl rfl rfl rfl rfl rfl rfl rfl
  have hkz : Keeps [] w1 ((w1.alloc (.cells zc 83)).setRow w1.heap.size (cmdC k W (.slice ua un uc) (.slice ta tn tc))) := ((Keeps.refl [] w1).alloc _).setRow (Or.inr (Nat.le_refl _)) _
  have hrow : ((w1.alloc (.cells zc 83)).setRow w1.heap.size (cmdC k W (.slice ua un uc) (.slice ta tn tc))).heap[w1.heap.size]? = some (.cells (cmdC k W (.slice ua un uc) (.slice ta tn tc)) 83 (0, 0)) := setRow_heap _ _ _ _ _ _ (heap_alloc_new w1 _)
  have hCM : CmI ((w1.alloc (.cells zc 83)).setRow w1.heap.size (cmdC k W (.slice ua un uc) (.slice ta tn tc))) k W (.slice ua un uc) (.slice ta tn tc) ps := by
   obtain ⟨p, j, ho, hs, hq, ht1, ht2⟩ : ∃ p j, OptA l kI (some (k, p)) ∧ p.size ≤ 60 ∧ PatR p (.ok W j) ∧ k.tp.size ≤ 100 ∧ TplA k.tp W.g 0 (some ps) := by
    cases hC with
    | ok _ p _ j _ a b c d e => exact ⟨p, j, a, b, c, d, e⟩
   obtain ⟨g1, _, g3⟩ := hq.good hs
   obtain ⟨t1, t2⟩ := ht2.ok ps rfl
   exact ⟨g3, hq.nest, rfl, whole_sz hs hq, g1, ⟨_, hrep.keep hkz (by simp)⟩, TpR.keep htp hkz (by simp), by omega, t2, (hni k p ho).2⟩
  have hkw := hk1.trans hkz
  have HC : Hid (CmdA l (some (k, W, ps))) := hC
  have HN : Hid ((lnF s).length < 100) := hn
  unfold zc at hkz hrow hCM hkw
  clear hRC hC hk1 hni hn hgn hl hrep htp hkz
  go_upto_region 2 with (first | (refine wpList_store_row rfl 83 _ _ rfl w1.heap.size (cmdC k W (.slice ua un uc) (.slice ta tn tc)) rfl rfl _ _ hz (info11 k W (.slice ua un uc) (.slice ta tn tc)) rfl hal ?_))
  generalize (w1.alloc (.cells #[.bool false, .bool false, .bool false, .bool false, .bool false, .bool false, .bool false, .bool false, .slice none 0 0, .int .i64 0, .slice none 0 0] 83)).setRow w1.heap.size (cmdC k W (.slice ua un uc) (.slice ta tn tc)) = X at *
  obtain ⟨gc, hgc⟩ : ∃ g, g = w1.heap.size := ⟨_, rfl⟩
  rw [← hgc] at hrow ⊢
  clear hz hgc
  go_wp2_with fail
  refine (lines_any s X).mono ?_
  rintro e w2 ⟨hk2, hc2⟩
  have hkw2 := hkw.trans hk2
  have hrow2 := (hk2.block gc (Array.getElem?_eq_some_iff.1 hrow).1 (by simp)).trans hrow
  have hCM2 := hCM.keep hk2
  clear hrow hCM hkw
  rcases hc2 with ⟨gl, cl, rfl, hs2, hl1, _, hL, _, hgl⟩ | ⟨rfl, hlong⟩
  ·have hRn := run_any k W (.slice ua un uc) (.slice ta tn tc) ps (lnF s) gl cl w2 hCM2 hL hgl HN.out hl1
   have HS : Hid (s.size ≤ 2000 ∧ ∀ a ∈ lnF s, a.size ≤ 100) := ⟨hs2, hl1⟩
   clear hs2 hl1 hL hgl hCM2
   go_wp2_with (first | (refine wpList_load_row rfl 83 _ rfl gc rfl _ _ _ _ hrow2 Tryz.underlying83 rfl (info11 k W (.slice ua un uc) (.slice ta tn tc)) ?_))
   refine hRn.mono ?_
   rintro e w3 ⟨o, m, hR, he, hk3⟩
   have HX : Hid (ExtA l s (RunE k o m)) := .run k W ps o m HC.out HS.out.1 HS.out.2 hR
   have hkw3 := hkw2.trans hk3
   unfold RunE at he HX
   generalize (nmB (o ++ if k.c = true then decT m ++ [10] else [])) = q1 at he HX
   generalize (if m = 0 then (1 : Int) else 0) = q2 at he HX
   subst he
   clear hRn hR hk3 hrow2
   go_wp2_with fail
   go_ret2
   exact ⟨HX.out, hkw3⟩
  ·have HX : Hid (ExtA l s (.returned (.tuple #[.string ⟨#[]⟩, .int .i64 2]))) := .long k W ps HC.out hlong
   clear hlong hCM2 hrow2
   go_wp2_with fail
   go_ret2
   exact ⟨HX.out, hkw2⟩
end Go.Proofs.YtnfojonmohijpabGreatDoor
