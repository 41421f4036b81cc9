/-
  DERIVED. Contracts of the program's read, of the closure that it defers, and of readPattern. Conditions: the variable classNames holds the seven names.
-/
import Derived.Test.YtnfojonmohijpaaGreatDoorJPW
import Derived.Defers
import Derived.Recover
import Derived.Lib.Strings
import Derived.Lib.Slices
import Derived.Lib.Walk
import Derived.Lib.Builder
import Derived.Lib.AppendStr
import Derived.Lib.UnsafeStr
import Derived.Laws.Externs
import Derived.Lib.OthersKept
import Derived.Lib.FrozenHead
import Derived.Test.YtnfojonmohijpaaGreatDoorJSD
import Derived.Test.YtnfojonmohijpaaGreatDoorJRK
set_option linter.unusedSimpArgs false
set_option linter.unusedVariables false
namespace Go.Proofs.YtnfojonmohijpaaGreatDoor
open Go.RowKit
set_option maxRecDepth 100000 in
set_option maxHeartbeats 400000 in
theorem catch_idle (x y z : Value) (w : World) :
    CallsD Tryz.prog 114 #[x, y, z] .returning w fun e u' w' => e = .returned (.tuple #[]) ∧ u' = .returning ∧ w' = w := by
 refine callsD_of_wpS Tryz.func114 rfl fun c₀ cs hu => ?_
 apply wpS_seq
 apply wpS_region
 simp [wpOpsS, go_sem, recoverD, hu, Tryz.ntmps114, Exit.thenS]
 refine wpS_of_wp ?_
 have et : (#[x, y, z] ++ (Array.replicate 12 undef).setIfInBounds 3 Value.nilIface) = #[x, y, z, undef, undef, undef, .nilIface, undef, undef, undef, undef, undef, undef, undef, undef] := rfl
 rw [et]
 go_wp2_with fail
 cases c₀
 simp_all [bodyPostS, results, Tryz.results114]
theorem assert_fault (j : Int) (w : World) : (Instr.typeAssert (.iface 196 (.agg #[.int .i64 j])) 20 196 true).run Tryz.prog w = .ok (.tuple #[.agg #[.int .i64 j], .bool true]) w := by kernel_rfl
set_option maxRecDepth 100000 in
set_option maxHeartbeats 400000 in
theorem catch_fault (j : Nat) (e0 : Int) (ib jb eb : Addr) (a b : Value) (w : World) (h1 : w.cell? ib = some (.int .i64 e0)) (h2 : w.cell? jb = some a) (h3 : w.cell? eb = some b) (f2 : w.frozen? jb = false) (f3 : w.frozen? eb = false) (hne : jb ≠ eb) :
    CallsD Tryz.prog 114 #[.pointer (some ib), .pointer (some jb), .pointer (some eb)] (.panicking [{ v := .iface 196 (.agg #[.int .i64 (j : Int)]), recovered := false }]) w fun e u' w' =>
     e = .returned (.tuple #[]) ∧ u' = .panicking [{ v := .iface 196 (.agg #[.int .i64 (j : Int)]), recovered := true }] ∧ w' = ((w.alloc (.cells #[.int .i64 (j : Int)] 196)).setCell jb (.int .i64 (j : Int))).setCell eb (.int .i64 e0) := by
 refine callsD_of_wpS Tryz.func114 rfl fun c₀ cs hu => ?_
 apply wpS_seq
 apply wpS_region
 simp [wpOpsS, go_sem, recoverD, hu, Tryz.ntmps114, Exit.thenS]
 refine wpS_of_wp ?_
 have et : (#[.pointer (some ib), .pointer (some jb), .pointer (some eb)] ++ (Array.replicate 12 undef).setIfInBounds 3 (.iface 196 (.agg #[.int .i64 (j : Int)]))) = #[.pointer (some ib), .pointer (some jb), .pointer (some eb), undef, undef, undef, .iface 196 (.agg #[.int .i64 (j : Int)]), undef, undef, undef, undef, undef, undef, undef, undef] := rfl
 rw [et]
 have hta := fun w => assert_fault (j : Int) w
 have hka : Keeps [] w (w.alloc (.cells #[.int .i64 (j : Int)] 196)) := (Keeps.refl [] w).alloc _
 have l2 := World.block_lt_of_cell? w _ h2
 have l3 := World.block_lt_of_cell? w _ h3
 have g1 := keep_cell hka h1
 have g2 := keep_cell hka h2
 have g3 := keep_cell hka h3
 have k2 : (w.alloc (.cells #[.int .i64 (j : Int)] 196)).frozen? jb = false := (World.frozen?_alloc_old w _ jb (Nat.ne_of_lt l2)).trans f2
 have k3 : (w.alloc (.cells #[.int .i64 (j : Int)] 196)).frozen? eb = false := (World.frozen?_alloc_old w _ eb (Nat.ne_of_lt l3)).trans f3
 have n3 : ((w.alloc (.cells #[.int .i64 (j : Int)] 196)).setCell jb (.int .i64 (j : Int))).cell? eb = some b := (World.cell?_setCell_other _ _ _ _ hne).trans g3
 have m3 : ((w.alloc (.cells #[.int .i64 (j : Int)] 196)).setCell jb (.int .i64 (j : Int))).frozen? eb = false := by rw [World.frozen?_setCell]; exact k3
 clear et hka l2 l3 h1 h2 h3 f2 f3 hne
 go_wp2_with fail
 cases c₀
 simp_all [bodyPostS, results, Tryz.results114]
theorem cf_parse (args : Array Value) (w : World) : (callFunc 67 args).run Tryz.prog w = .ok (.enter 67 args) w := by kernel_rfl
def z4 : Array Value := #[.bool false, .bool false, .slice none 0 0, .int .i64 0]
def RdPost (s : ByteArray) (w : World) (e : Ending) (w' : World) : Prop :=
 Keeps [] w w' ∧ ((60 < s.size ∧ e = .returned (.tuple #[.agg z4, .int .i64 0, .int .i64 1])) ∨ (s.size ≤ 60 ∧ ∃ q, PatR s q ∧ match q with
   | .ok W _ => ∃ v, e = .returned (.tuple #[.agg #[.bool W.bg, .bool W.en, v, .int .i64 W.g], .int .i64 0, .int .i64 0]) ∧ v.oneCell' = true ∧ Rep w' (fun g => w.heap.size ≤ g) .ways W.x [v]
   | .bad j => e = .returned (.tuple #[.agg z4, .int .i64 j, .int .i64 2])))
theorem loadInt (t : TypeId) (ht : t = 3 ∨ t = 22) (a : Addr) (x : Int) (w : World) (h : w.cell? a = some (.int .i64 x)) : (loadVar t a).run Tryz.prog w = .ok (.int .i64 x) w := by
 rcases ht with rfl | rfl
 ·simp [loadVar, go_sem, h]
 ·simp [loadVar, go_sem, h]
theorem results_read (tmps : Array Value) (w : World) (g : Nat) (a b c d : Value) (x y : Int) (h8 : tmps.getD 8 undef = .pointer (some ⟨g + 1, 0, none⟩)) (h9 : tmps.getD 9 undef = .pointer (some ⟨g + 1 + 1, 0, none⟩)) (h10 : tmps.getD 10 undef = .pointer (some ⟨g + 1 + 1 + 1, 0, none⟩))
    (hp : P4 w (g + 1) a b c d) (hx : w.cell? ⟨g + 1 + 1, 0, none⟩ = some (.int .i64 x)) (hy : w.cell? ⟨g + 1 + 1 + 1, 0, none⟩ = some (.int .i64 y)) :
    (results Tryz.f66 tmps).run Tryz.prog w = .ok (.tuple #[.agg #[a, b, c, d], .int .i64 x, .int .i64 y]) w := by
 have h : Tryz.f66.results = #[.cell 8 70, .cell 9 3, .cell 10 22] := rfl
 have e8 : tmps[8]?.getD undef = .pointer (some ⟨g + 1, 0, none⟩) := by simpa using h8
 have e9 : tmps[9]?.getD undef = .pointer (some ⟨g + 1 + 1, 0, none⟩) := by simpa using h9
 have e10 : tmps[10]?.getD undef = .pointer (some ⟨g + 1 + 1 + 1, 0, none⟩) := by simpa using h10
 have l1 := run_loadVar_row (P := Tryz.prog) w (g + 1) 70 70 #[a, b, c, d] (0, 0) _ hp Tryz.underlying70 rfl infoPat
 have l2 := loadInt 3 (Or.inl rfl) _ x w hx
 have l3 := loadInt 22 (Or.inr rfl) _ y w hy
 simp [results, h, e8, e9, e10, asAddr, l1, l2, l3]
theorem read_boxes (e : Int) (w : World) : ∃ W, ((((w.alloc (.cells #[.int .i64 2] 22)).alloc (.cells #[.bool false, .bool false, .slice none 0 0, .int .i64 0] 70)).alloc (.cells #[.int .i64 0] 3)).alloc (.cells #[.int .i64 e] 22)) = W ∧
    W.cell? ⟨w.heap.size, 0, none⟩ = some (.int .i64 2) ∧ P4 W (w.heap.size + 1) (.bool false) (.bool false) (.slice none 0 0) (.int .i64 0) ∧ W.cell? ⟨w.heap.size + 1 + 1, 0, none⟩ = some (.int .i64 0) ∧ W.cell? ⟨w.heap.size + 1 + 1 + 1, 0, none⟩ = some (.int .i64 e) ∧
    W.frozen? ⟨w.heap.size + 1 + 1, 0, none⟩ = false ∧ W.frozen? ⟨w.heap.size + 1 + 1 + 1, 0, none⟩ = false ∧ Keeps [] w W ∧ W.heap.size = w.heap.size + 4 := by
 have k1 : Keeps [] w (w.alloc (.cells #[.int .i64 2] 22)) := (Keeps.refl [] w).alloc _
 have c1 : (w.alloc (.cells #[.int .i64 2] 22)).cell? ⟨w.heap.size, 0, none⟩ = some (.int .i64 2) := by simp
 have z1 : (w.alloc (.cells #[.int .i64 2] 22)).heap.size = w.heap.size + 1 := by simp
 generalize w.alloc (.cells #[.int .i64 2] 22) = w1 at *
 have k2 : Keeps [] w1 (w1.alloc (.cells #[.bool false, .bool false, .slice none 0 0, .int .i64 0] 70)) := (Keeps.refl [] w1).alloc _
 have c2 : P4 (w1.alloc (.cells #[.bool false, .bool false, .slice none 0 0, .int .i64 0] 70)) w1.heap.size (.bool false) (.bool false) (.slice none 0 0) (.int .i64 0) := heap_alloc_new w1 _
 have z2 : (w1.alloc (.cells #[.bool false, .bool false, .slice none 0 0, .int .i64 0] 70)).heap.size = w1.heap.size + 1 := by simp
 have c1 := keep_cell k2 c1
 generalize w1.alloc (.cells #[.bool false, .bool false, .slice none 0 0, .int .i64 0] 70) = w2 at *
 have k3 : Keeps [] w2 (w2.alloc (.cells #[.int .i64 0] 3)) := (Keeps.refl [] w2).alloc _
 have c3 : (w2.alloc (.cells #[.int .i64 0] 3)).cell? ⟨w2.heap.size, 0, none⟩ = some (.int .i64 0) := by simp
 have f3 : (w2.alloc (.cells #[.int .i64 0] 3)).frozen? ⟨w2.heap.size, 0, none⟩ = false := by simp
 have z3 : (w2.alloc (.cells #[.int .i64 0] 3)).heap.size = w2.heap.size + 1 := by simp
 have c1 := keep_cell k3 c1
 have c2 := c2.keep k3 (by simp)
 generalize w2.alloc (.cells #[.int .i64 0] 3) = w3 at *
 have k4 : Keeps [] w3 (w3.alloc (.cells #[.int .i64 e] 22)) := (Keeps.refl [] w3).alloc _
 have c4 : (w3.alloc (.cells #[.int .i64 e] 22)).cell? ⟨w3.heap.size, 0, none⟩ = some (.int .i64 e) := by simp
 have f4 : (w3.alloc (.cells #[.int .i64 e] 22)).frozen? ⟨w3.heap.size, 0, none⟩ = false := by simp
 have z4 : (w3.alloc (.cells #[.int .i64 e] 22)).heap.size = w3.heap.size + 1 := by simp
 have c1 := keep_cell k4 c1
 have c2 := c2.keep k4 (by simp)
 have f3' : (w3.alloc (.cells #[.int .i64 e] 22)).frozen? ⟨w2.heap.size, 0, none⟩ = false := (World.frozen?_alloc_old w3 _ ⟨w2.heap.size, 0, none⟩ (by simp; omega)).trans f3
 have c3 := keep_cell k4 c3
 generalize w3.alloc (.cells #[.int .i64 e] 22) = w4 at *
 rw [z3, z2, z1] at c4 f4
 rw [z2, z1] at c3 f3'
 rw [z1] at c2
 exact ⟨w4, rfl, c1, c2, c3, c4, f3', f4, ((k1.trans k2).trans k3).trans k4, by omega⟩
set_option maxRecDepth 100000 in
set_option maxHeartbeats 1000000 in
theorem read_long2 (s : ByteArray) (w : World) (hs : 60 < s.size) :
    Calls Tryz.prog 66 #[.string s, .int .i64 60, .func (.func 67) #[] #[], .int .i64 2] w (RdPost s w) := by
 have hmf : ∀ (fn : Fn) (first cap : Array Value) (w : World), (Instr.makeFunc fn first cap).run Tryz.prog w = .ok (.func fn first cap) w := fun _ _ _ _ => rfl
 have hs' : (60 : Int) < (s.size : Int) := by omega
 obtain ⟨W, hW, b0, b1, b2, b3, g2, g3, hk, hz⟩ := read_boxes 1 w
 go_enter_defers Tryz.func66, Tryz.ntmps66
 go_wp2_with fail
 try rw [hW]
 exact ⟨_, results_read _ _ w.heap.size _ _ _ _ 0 1 rfl rfl rfl b1 b2 b3, hk, Or.inl ⟨hs, rfl⟩⟩
set_option maxRecDepth 100000 in
set_option maxHeartbeats 1000000 in
theorem read_prog (s : ByteArray) (w : World) (hgn : GN w) (hs : s.size ≤ 60) :
    Calls Tryz.prog 66 #[.string s, .int .i64 60, .func (.func 67) #[] #[], .int .i64 2] w (RdPost s w) := by
 have hmf : ∀ (fn : Fn) (first cap : Array Value) (w : World), (Instr.makeFunc fn first cap).run Tryz.prog w = .ok (.func fn first cap) w := fun _ _ _ _ => rfl
 have hs' : ¬ (60 : Int) < (s.size : Int) := by omega
 have cfp := cf_parse
 obtain ⟨W, hW, b0, b1, b2, b3, g2, g3, hk, hz⟩ := read_boxes 0 w
 have hgW := hgn.keep hk (by simp)
 go_enter_defers Tryz.func66, Tryz.ntmps66
 go_wp2_with fail
 try rw [hW]
 clear hW
 refine (parse_prog s W hgW hs).mono ?_
 rintro e w5 ⟨q, hP, hk5, hc5⟩
 have hkA := hk.trans hk5
 have a0 := keep_cell hk5 b0
 have a1 := b1.keep hk5 (by simp)
 have a2 := keep_cell hk5 b2
 have a3 := keep_cell hk5 b3
 have h2 : w5.frozen? ⟨w.heap.size + 1 + 1, 0, none⟩ = false := (World.frozen?_of_block (hk5.block _ (World.block_lt_of_cell? W _ b2) (by simp))).trans g2
 have h3 : w5.frozen? ⟨w.heap.size + 1 + 1 + 1, 0, none⟩ = false := (World.frozen?_of_block (hk5.block _ (World.block_lt_of_cell? W _ b3) (by simp))).trans g3
 clear b0 b1 b2 b3 g2 g3 hgW hgn
 obtain ⟨g, hg⟩ : ∃ g, w.heap.size = g := ⟨_, rfl⟩
 rw [hg] at a0 a1 a2 a3 h2 h3 ⊢
 have z5 := hk5.size
 cases q with
 | bad j =>
  subst hc5
  simp only [fault]
  refine leaves_cons (f := 114) (args := #[.pointer (some ⟨g, 0, none⟩), .pointer (some ⟨g + 1 + 1, 0, none⟩), .pointer (some ⟨g + 1 + 1 + 1, 0, none⟩)]) (by simp) (by simp [go_sem]) ?_
  refine (catch_fault j 2 _ _ _ _ _ _ a0 a2 a3 h2 h3 (by simp)).mono ?_
  rintro e u' w6 ⟨rfl, rfl, rfl⟩
  have kf : Keeps [] w5 (w5.alloc (.cells #[.int .i64 (j : Int)] 196)) := (Keeps.refl [] w5).alloc _
  have y1 := keep_cell kf a2
  have y2 := keep_cell kf a3
  have y3 := a1.keep kf (by simp)
  have hkB := hkA.trans kf
  generalize w5.alloc (.cells #[.int .i64 (j : Int)] 196) = w7 at *
  have hkC : Keeps [g + 1 + 1, g + 1 + 1 + 1] w7 ((w7.setCell ⟨g + 1 + 1, 0, none⟩ (.int .i64 (j : Int))).setCell ⟨g + 1 + 1 + 1, 0, none⟩ (.int .i64 2)) := ((Keeps.refl _ w7).setCell (by simp) _).setCell (by simp) _
  have r3 := y3.keep hkC (by simp)
  have r1 : ((w7.setCell ⟨g + 1 + 1, 0, none⟩ (.int .i64 (j : Int))).setCell ⟨g + 1 + 1 + 1, 0, none⟩ (.int .i64 2)).cell? ⟨g + 1 + 1, 0, none⟩ = some (.int .i64 (j : Int)) := by
   rw [World.cell?_setCell_other _ _ _ _ (by simp)]
   exact World.cell?_setCell_same _ _ _ y1
  have r2 : ((w7.setCell ⟨g + 1 + 1, 0, none⟩ (.int .i64 (j : Int))).setCell ⟨g + 1 + 1 + 1, 0, none⟩ (.int .i64 2)).cell? ⟨g + 1 + 1 + 1, 0, none⟩ = some (.int .i64 2) := by
   refine World.cell?_setCell_same _ _ _ (u := .int .i64 0) ?_
   rw [World.cell?_setCell_other _ _ _ _ (by simp)]
   exact y2
  exact ⟨_, results_read _ _ g _ _ _ _ j 2 rfl rfl rfl r3 r1 r2, hkB.fresh hkC (by intro x hx; simp at hx; omega), Or.inr ⟨hs, _, hP, rfl⟩⟩
 | ok Wh j =>
  obtain ⟨v, rfl, hv1, hrep⟩ := hc5
  have o4 : (#[.bool Wh.bg, .bool Wh.en, v, .int .i64 (Wh.g : Int)] : Array Value).all (·.oneCell') = true := four_one hv1
  have hkR := (Keeps.refl [g + 1] w5).setRow (g := g + 1) (by simp) #[.bool Wh.bg, .bool Wh.en, v, .int .i64 (Wh.g : Int)]
  have hbl : ∀ k, k < w5.heap.size → k ≠ g + 1 → (w5.setRow (g + 1) #[.bool Wh.bg, .bool Wh.en, v, .int .i64 (Wh.g : Int)]).heap[k]? = w5.heap[k]? := fun k hk hn => hkR.block k hk (by simpa using hn)
  have s1 : P4 (w5.setRow (g + 1) #[.bool Wh.bg, .bool Wh.en, v, .int .i64 (Wh.g : Int)]) (g + 1) (.bool Wh.bg) (.bool Wh.en) v (.int .i64 (Wh.g : Int)) := setRow_heap _ _ _ _ _ _ a1
  have s2 : (w5.setRow (g + 1) #[.bool Wh.bg, .bool Wh.en, v, .int .i64 (Wh.g : Int)]).cell? ⟨g + 1 + 1, 0, none⟩ = some (.int .i64 0) := (World.cell?_of_block (hbl _ (World.block_lt_of_cell? w5 _ a2) (by simp))).trans a2
  have s3 : (w5.setRow (g + 1) #[.bool Wh.bg, .bool Wh.en, v, .int .i64 (Wh.g : Int)]).cell? ⟨g + 1 + 1 + 1, 0, none⟩ = some (.int .i64 0) := (World.cell?_of_block (hbl _ (World.block_lt_of_cell? w5 _ a3) (by simp; omega))).trans a3
  have t2 : (w5.setRow (g + 1) #[.bool Wh.bg, .bool Wh.en, v, .int .i64 (Wh.g : Int)]).frozen? ⟨g + 1 + 1, 0, none⟩ = false := (World.frozen?_of_block (hbl _ (World.block_lt_of_cell? w5 _ a2) (by simp))).trans h2
  have t3 : (w5.setRow (g + 1) #[.bool Wh.bg, .bool Wh.en, v, .int .i64 (Wh.g : Int)]).frozen? ⟨g + 1 + 1 + 1, 0, none⟩ = false := (World.frozen?_of_block (hbl _ (World.block_lt_of_cell? w5 _ a3) (by simp; omega))).trans h3
  have hrep6 := hrep.keep hkR (by intro y hy; simp; omega)
  have hkB : Keeps [] w (w5.setRow (g + 1) #[.bool Wh.bg, .bool Wh.en, v, .int .i64 (Wh.g : Int)]) := hkA.fresh hkR (by intro x hx; simp at hx; omega)
  clear hbl
  go_wp2_with (first | (refine wpList_store_row rfl 70 _ _ rfl (g + 1) _ rfl rfl _ _ a1 infoPat rfl o4 ?_; generalize w5.setRow (g + 1) #[.bool Wh.bg, .bool Wh.en, v, .int .i64 (Wh.g : Int)] = w6 at *))
  refine leaves_cons (f := 114) (args := #[.pointer (some ⟨g, 0, none⟩), .pointer (some ⟨g + 1 + 1, 0, none⟩), .pointer (some ⟨g + 1 + 1 + 1, 0, none⟩)]) (by simp) (by simp [go_sem]) ?_
  refine (catch_idle _ _ _ _).mono ?_
  rintro e u' w7 ⟨rfl, rfl, rfl⟩
  have hkC : Keeps [g + 1 + 1, g + 1 + 1 + 1] w6 ((w6.setCell ⟨g + 1 + 1, 0, none⟩ (.int .i64 0)).setCell ⟨g + 1 + 1 + 1, 0, none⟩ (.int .i64 0)) := ((Keeps.refl _ w6).setCell (by simp) _).setCell (by simp) _
  have r3 := s1.keep hkC (by simp)
  have r1 : ((w6.setCell ⟨g + 1 + 1, 0, none⟩ (.int .i64 0)).setCell ⟨g + 1 + 1 + 1, 0, none⟩ (.int .i64 0)).cell? ⟨g + 1 + 1, 0, none⟩ = some (.int .i64 0) := by
   rw [World.cell?_setCell_other _ _ _ _ (by simp)]
   exact World.cell?_setCell_same _ _ _ s2
  have r2 : ((w6.setCell ⟨g + 1 + 1, 0, none⟩ (.int .i64 0)).setCell ⟨g + 1 + 1 + 1, 0, none⟩ (.int .i64 0)).cell? ⟨g + 1 + 1 + 1, 0, none⟩ = some (.int .i64 0) := by
   refine World.cell?_setCell_same _ _ _ (u := .int .i64 0) ?_
   rw [World.cell?_setCell_other _ _ _ _ (by simp)]
   exact s3
  exact ⟨_, results_read _ _ g _ _ _ _ 0 0 rfl rfl rfl r3 r1 r2, hkB.fresh hkC (by intro x hx; simp at hx; omega), Or.inr ⟨hs, _, hP, v, rfl, hv1, (hrep6.keep hkC (by intro y hy; simp; omega)).mono (by intro y hy _; omega)⟩⟩
theorem read_whole (s : ByteArray) (w : World) (hgn : GN w) :
    Calls Tryz.prog 66 #[.string s, .int .i64 60, .func (.func 67) #[] #[], .int .i64 2] w (RdPost s w) := by
 by_cases hs : s.size ≤ 60
 ·exact read_prog s w hgn hs
 ·exact read_long2 s w (by omega)
theorem results_rp (tmps : Array Value) (w : World) (g : Nat) (a b c d v3 v4 : Value) (h2 : tmps.getD 2 undef = .pointer (some ⟨g, 0, none⟩)) (h3 : tmps.getD 3 undef = v3) (h4 : tmps.getD 4 undef = v4) (hp : P4 w g a b c d) :
    (results Tryz.f36 tmps).run Tryz.prog w = .ok (.tuple #[.agg #[a, b, c, d], v3, v4]) w := by
 have h : Tryz.f36.results = #[.cell 2 70, .tmp 3, .tmp 4] := rfl
 have e2 : tmps[2]?.getD undef = .pointer (some ⟨g, 0, none⟩) := by simpa using h2
 have e3 : tmps[3]?.getD undef = v3 := by simpa using h3
 have e4 : tmps[4]?.getD undef = v4 := by simpa using h4
 have l1 := run_loadVar_row (P := Tryz.prog) w g 70 70 #[a, b, c, d] (0, 0) _ hp Tryz.underlying70 rfl infoPat
 simp [results, h, e2, e3, e4, asAddr, l1]
set_option maxRecDepth 100000 in
set_option maxHeartbeats 1000000 in
theorem readPattern_prog (s : ByteArray) (w : World) (hgn : GN w) :
    Calls Tryz.prog 36 #[.string s] w (RdPost s w) := by
 have hr0 : P4 (w.alloc (.cells #[.bool false, .bool false, .slice none 0 0, .int .i64 0] 70)) w.heap.size (.bool false) (.bool false) (.slice none 0 0) (.int .i64 0) := heap_alloc_new w _
 have hk0 : Keeps [] w (w.alloc (.cells #[.bool false, .bool false, .slice none 0 0, .int .i64 0] 70)) := (Keeps.refl [] w).alloc _
 have hg0 := hgn.keep hk0 (by simp)
 go_enter Tryz.func36, Tryz.ntmps36
 go_wp2_with fail
 refine (read_whole s _ hg0).mono ?_
 generalize w.alloc (.cells #[.bool false, .bool false, .slice none 0 0, .int .i64 0] 70) = W0 at *
 rintro e w1 ⟨hk1, hc1⟩
 have hr1 := hr0.keep hk1 (by simp)
 have hl0 := hr0.lt
 have hkA := hk0.trans hk1
 have hS : ∃ a b c d x y, e = .returned (.tuple #[.agg #[.bool a, .bool b, c, .int .i64 d], .int .i64 x, .int .i64 y]) ∧ c.oneCell' = true := by
  rcases hc1 with ⟨_, h⟩ | ⟨_, q, _, h⟩
  ·exact ⟨_, _, _, _, _, _, h, rfl⟩
  ·cases q with
   | bad j => exact ⟨_, _, _, _, _, _, h, rfl⟩
   | ok W j => obtain ⟨v, h, hv, _⟩ := h; exact ⟨_, _, _, _, _, _, h, hv⟩
 obtain ⟨a, b, c, d, x, y, rfl, hc⟩ := hS
 have HC : Hid ((60 < s.size ∧ Ending.returned (.tuple #[.agg #[.bool a, .bool b, c, .int .i64 d], .int .i64 x, .int .i64 y]) = .returned (.tuple #[.agg z4, .int .i64 0, .int .i64 1])) ∨ (s.size ≤ 60 ∧ ∃ q, PatR s q ∧ match q with
   | .ok W _ => ∃ v, Ending.returned (.tuple #[.agg #[.bool a, .bool b, c, .int .i64 d], .int .i64 x, .int .i64 y]) = .returned (.tuple #[.agg #[.bool W.bg, .bool W.en, v, .int .i64 W.g], .int .i64 0, .int .i64 0]) ∧ v.oneCell' = true ∧ Rep w1 (fun g => W0.heap.size ≤ g) .ways W.x [v]
   | .bad j => Ending.returned (.tuple #[.agg #[.bool a, .bool b, c, .int .i64 d], .int .i64 x, .int .i64 y]) = .returned (.tuple #[.agg z4, .int .i64 j, .int .i64 2]))) := hc1
 have o4 := four_one (x := a) (y := b) (n := d) hc
 clear hc1 hgn hg0
 go_wp2_with (first | (refine wpList_store_row rfl 70 _ _ rfl w.heap.size _ rfl rfl _ _ hr1 infoPat rfl o4 ?_))
 have hkR := (Keeps.refl [w.heap.size] w1).setRow (g := w.heap.size) (by simp) #[.bool a, .bool b, c, .int .i64 d]
 refine bodyPost_ret (results_rp _ _ w.heap.size _ _ _ _ _ _ rfl rfl rfl (setRow_heap _ _ _ _ _ _ hr1)) rfl ?_
 refine ⟨hkA.fresh hkR (by intro x hx; simp at hx; omega), ?_⟩
 rcases HC.out with h | ⟨hs, q, hq, h⟩
 ·exact Or.inl h
 ·refine Or.inr ⟨hs, q, hq, ?_⟩
  cases q with
  | bad j => exact h
  | ok W j =>
   obtain ⟨v, h1, h2, h3⟩ := h
   exact ⟨v, h1, h2, (h3.keep hkR (by intro y hy; simp; omega)).mono (by intro y hy _; omega)⟩
end Go.Proofs.YtnfojonmohijpaaGreatDoor
namespace Go.Proofs.YtnfojonmohijpaaGreatDoor
open Go.RowKit
theorem Below.ofKeeps {B : Nat} {w w' : World} {S : List Nat} (h : Keeps S w w') (hB : B ≤ w.heap.size) (hs : ∀ g, g ∈ S → B ≤ g) : Below B w w' :=
 ⟨h.os, h.tape, h.output, h.size, fun k hk => h.block k (by omega) (fun hm => by have := hs k hm; omega)⟩
end Go.Proofs.YtnfojonmohijpaaGreatDoor
namespace Go.Proofs.YtnfojonmohijpaaGreatDoor
open Go.RowKit
theorem add_off (g off j : Nat) : (⟨g, off, none⟩ : Addr).add j = ⟨g, off + j, none⟩ := by unfold Addr.add; split <;> simp_all
theorem run_loadVar_at (w : World) (g off : Nat) (ty : TypeId) (cs : List Value) (d : TypeDesc) (hc : ∀ j v, cs[j]? = some v → w.cell? ⟨g, off + j, none⟩ = some v)
    (hu : Tryz.prog.underlying ty = some d) (hd : (match d with | .struct _ | .array _ _ => true | _ => false) = true) (hi : (Tryz.prog.info? ty).map (·.size) = some cs.length) :
    (loadVar ty ⟨g, off, none⟩).run Tryz.prog w = .ok (.agg cs.toArray) w := by
 have hl : (loadCells ⟨g, off, none⟩ cs.length).run Tryz.prog w = .ok cs.toArray w :=
  run_loadCells_list (P := Tryz.prog) w ⟨g, off, none⟩ cs (fun j v hv => by rw [add_off]; exact hc j v hv)
 cases hq : Tryz.prog.info? ty with
 | none => simp [hq] at hi
 | some i =>
  have hs : i.size = cs.length := by simpa [hq] using hi
  have hagg : (isAgg ty).run Tryz.prog w = .ok true w := by
   unfold isAgg
   rw [Sem.run_bind, run_underlying hu w]
   cases d <;> simp_all
  simp [loadVar, Sem.run_bind, hagg, sizeOf, typeInfo, hq, hs, hl]
def wl : Pat → List Pat
 | .wone x => [x]
 | .wcons x r => x :: wl r
 | _ => []
def pl : Pat → List Pat
 | .pcons x r => x :: pl r
 | _ => []
def tw : Nat → List Pat → List UInt8
 | _, [] => []
 | k, x :: r => (if 0 < k then [124] else []) ++ patT x ++ tw (k + 1) r
def tp (l : List Pat) : List UInt8 := l.flatMap patT
theorem Rep.wl_text {w : World} {S : Nat → Prop} {x : Pat} {vs : List Value} (h : Rep w S .wlist x vs) : (∀ k, tw k (wl x) = (if 0 < k then [124] else []) ++ patT x) ∧ (wl x).length = vs.length ∧ (∀ (i : Nat) (y : Pat), (wl x)[i]? = some y → ∃ u, vs[i]? = some u ∧ Rep w S .way y [u] ∧ y.sz < x.sz) := by
 generalize hk : Kr.wlist = kk at h
 induction h with
 | wone x v h1 _ =>
  refine ⟨fun k => by simp [wl, tw, patT], rfl, ?_⟩
  intro i y hy
  match i, hy with
  | 0, hy => simp [wl] at hy; subst hy; exact ⟨v, rfl, h1, by simp [Pat.sz]⟩
 | wcons x r v vs h1 _ _ ih =>
  obtain ⟨a, b, c⟩ := ih rfl
  refine ⟨fun k => by simp [wl, tw, patT, a (k + 1)], by simp [wl, b], ?_⟩
  intro i y hy
  match i, hy with
  | 0, hy => simp [wl] at hy; subst hy; exact ⟨v, rfl, h1, by simp [Pat.sz]; omega⟩
  | i + 1, hy =>
   obtain ⟨u, h2, h3, h4⟩ := c i y (by simpa [wl] using hy)
   exact ⟨u, by simpa using h2, h3, by simp [Pat.sz]; omega⟩
 | _ => cases hk
theorem Rep.pl_text {w : World} {S : Nat → Prop} {x : Pat} {cs : List Value} (h : Rep w S .plist x cs) : tp (pl x) = patT x ∧ cs.length = (pl x).length * 261 ∧ (∀ (i : Nat) (y : Pat), (pl x)[i]? = some y → ∃ ds, Rep w S .piece y ds ∧ (∀ (j : Nat) (u : Value), ds[j]? = some u → cs[i * 261 + j]? = some u) ∧ y.sz < x.sz) := by
 generalize hk : Kr.plist = kk at h
 induction h with
 | pnil => exact ⟨rfl, rfl, by intro i y hy; simp [pl] at hy⟩
 | pcons x r cs ds h1 _ _ ih =>
  obtain ⟨a, b, c⟩ := ih rfl
  have hl : cs.length = 261 := h1.cells.2
  refine ⟨by simp [pl, tp, patT] at a ⊢; exact a, by simp [pl, b, hl]; omega, ?_⟩
  intro i y hy
  match i, hy with
  | 0, hy =>
   simp [pl] at hy
   subst hy
   refine ⟨cs, h1, ?_, by simp [Pat.sz]; omega⟩
   intro j u hu
   have hj : j < cs.length := by
    rcases Nat.lt_or_ge j cs.length with h | h
    ·exact h
    ·rw [List.getElem?_eq_none h] at hu; cases hu
   rw [Nat.zero_mul, Nat.zero_add, List.getElem?_append_left hj]
   exact hu
  | i + 1, hy =>
   obtain ⟨es, h2, h3, h4⟩ := c i y (by simpa [pl] using hy)
   refine ⟨es, h2, ?_, by simp [Pat.sz]; omega⟩
   intro j u hu
   have := h3 j u hu
   rw [List.getElem?_append_right (by omega), hl]
   have e : (i + 1) * 261 + j - 261 = i * 261 + j := by omega
   rw [e]
   exact this
 | _ => cases hk
end Go.Proofs.YtnfojonmohijpaaGreatDoor
namespace Go.Proofs.YtnfojonmohijpaaGreatDoor
open Go.RowKit
theorem sc_cells {w : World} {g : Nat} {k v : Value} {f : Nat → Bool} {T : TypeId} {fr : Nat × Nat} (h : w.heap[g]? = some (.cells (sc k v f).toArray T fr)) :
    w.cell? ⟨g, 0, none⟩ = some k ∧ w.cell? ⟨g, 1, none⟩ = some v ∧ ∀ j u, (hcells f).toList[j]? = some u → w.cell? ⟨g, 2 + j, none⟩ = some u := by
 refine ⟨by rw [Lib.cell_of_heap h]; rfl, by rw [Lib.cell_of_heap h]; rfl, ?_⟩
 intro j u hu
 rw [Lib.cell_of_heap h]
 have e : 2 + j = j + 1 + 1 := by omega
 rw [e]
 simpa [sc] using hu
end Go.Proofs.YtnfojonmohijpaaGreatDoor
namespace Go.Proofs.YtnfojonmohijpaaGreatDoor
def shp : Pat → Kd → Prop
 | .set _, .single => True
 | .set _, .piece => True
 | .grp _ x, .single => shp x .ways
 | .grp _ x, .piece => shp x .ways
 | .rep mn mx x, .piece => mn ≤ 5 ∧ -1 ≤ mx ∧ mx ≤ 5 ∧ shp x .single
 | .pnil, .way => True
 | .pcons x r, .way => shp x .piece ∧ shp r .way
 | .wone x, .ways => shp x .way
 | .wcons x r, .ways => shp x .way ∧ shp r .ways
 | _, _ => False
theorem shp_up {x : Pat} (h : shp x .single) : shp x .piece := by
 cases x <;> first | exact h | exact h.elim
theorem RepR.bd {s : ByteArray} {j k mn : Nat} {mx : Int} (h : RepR s j (.ok (Option.some (mn, mx)) k)) : mn ≤ 5 ∧ -1 ≤ mx ∧ mx ≤ 5 := by
 rcases h with ⟨_, _, _, _, e⟩ | ⟨_, e⟩ | ⟨_, e⟩ | ⟨_, e⟩ | ⟨_, q1, n, e⟩
 ·cases e
 ·cases e; omega
 ·cases e; omega
 ·cases e; omega
 ·cases q1 with
  | bad l => cases e
  | ok m l =>
   have hm := (n.ok m l rfl).2.2.1 (by omega)
   rcases e with ⟨_, _, e⟩ | ⟨_, _, q2, n', e⟩ | ⟨_, e⟩
   ·cases e; omega
   ·cases q2 with
    | bad x => cases e
    | ok y x =>
     have hy := (n'.ok y x rfl).2.2.1 (by omega)
     simp only [Rep3] at e
     by_cases h5 : at' s x = 125
     ·rw [if_pos h5] at e; cases e; omega
     ·rw [if_neg h5] at e; cases e
   ·by_cases h5 : at' s l = 125
    ·rw [if_pos h5] at e; cases e; omega
    ·rw [if_neg h5] at e; cases e
def szL : Kd → Nat
 | .single => 2
 | .piece => 2
 | _ => 0
def szR : Kd → Nat
 | .way => 1
 | .ways => 2
 | _ => 0
theorem G.shp {s : ByteArray} {k : Kd} {d g i : Nat} {q : R (Pat × Nat)} (h : G s k d g i q) : ∀ x g1 j, q = .ok (x, g1) j → shp x k ∧ x.sz + szL k ≤ 4 * (j - i) + szR k := by
 induction h with
 | one d g i g1 j x hg e ih => intro x' g1' j' e'; cases e'; have := ih x g1 j rfl; exact ⟨this.1, by simp only [Pat.sz, szL, szR] at this ⊢; omega⟩
 | more d g i g1 j x q hg e hg2 ih ih2 =>
  intro x' g1' j' e'
  cases q with
  | bad l => cases e'
  | ok y l =>
   have h1 := ih x g1 j rfl
   have h2 := ih2 y.1 y.2 l rfl
   have o1 := hg.okb x g1 j rfl
   have o2 := hg2.okb y.1 y.2 l rfl
   cases e'
   refine ⟨⟨h1.1, h2.1⟩, ?_⟩
   simp only [Pat.sz, szL, szR] at h1 h2 ⊢; omega
 | wbad => intro x' g1' j' e'; cases e'
 | nil d g i e => intro x' g1' j' e'; cases e'; exact ⟨trivial, by simp [Pat.sz, szL, szR]⟩
 | cons d g i g1 j x q e hg hg2 ih ih2 =>
  intro x' g1' j' e'
  cases q with
  | bad l => cases e'
  | ok y l =>
   have h1 := ih x g1 j rfl
   have h2 := ih2 y.1 y.2 l rfl
   have o1 := hg.okb x g1 j rfl
   have o2 := hg2.okb y.1 y.2 l rfl
   cases e'
   refine ⟨⟨h1.1, h2.1⟩, ?_⟩
   simp only [Pat.sz, szL, szR] at h1 h2 ⊢; omega
 | pbad => intro x' g1' j' e'; cases e'
 | rep d g i g1 j x q hg r ih =>
  intro x' g1' j' e'
  have o1 := hg.okb x g1 j rfl
  have h1 := ih x g1 j rfl
  cases q with
  | bad l => cases e'
  | ok o l =>
   have hr := r.ok
   cases o with
   | none => cases e'; exact ⟨shp_up h1.1, by simp only [withRep, szL, szR] at h1 ⊢; omega⟩
   | some mm =>
    obtain ⟨mn, mx⟩ := mm
    obtain ⟨b1, b2, b3⟩ := r.bd
    have hlt : j < l := by
     rcases r with ⟨_, _, _, _, e⟩ | ⟨_, e⟩ | ⟨_, e⟩ | ⟨_, e⟩ | ⟨_, q1, n, e⟩
     ·cases e
     ·cases e; omega
     ·cases e; omega
     ·cases e; omega
     ·cases q1 with
      | bad z => cases e
      | ok m z =>
       have hm := n.ok m z rfl
       rcases e with ⟨_, _, e⟩ | ⟨_, _, q2, n', e⟩ | ⟨_, e⟩
       ·cases e; omega
       ·cases q2 with
        | bad y => cases e
        | ok y y' =>
         have hy := n'.ok y y' rfl
         simp only [Rep3] at e
         by_cases h5 : at' s y' = 125
         ·rw [if_pos h5] at e; cases e; omega
         ·rw [if_neg h5] at e; cases e
       ·by_cases h5 : at' s z = 125
        ·rw [if_pos h5] at e; cases e; omega
        ·rw [if_neg h5] at e; cases e
    cases e'
    refine ⟨⟨b1, b2, b3, h1.1⟩, ?_⟩
    simp only [withRep, Pat.sz, szL, szR] at h1 ⊢; omega
 | sbad => intro x' g1' j' e'; cases e'
 | deep => intro x' g1' j' e'; cases e'
 | grp d g i g1 j x e o hg c ih => intro x' g1' j' e'; have o1 := hg.okb x g1 j rfl; cases e'; have := ih x g1 j rfl; exact ⟨this.1, by simp only [Pat.sz, szL, szR] at this ⊢; omega⟩
 | gopen => intro x' g1' j' e'; cases e'
 | gbad => intro x' g1' j' e'; cases e'
 | set d g i q e r =>
  intro x' g1' j' e'
  have hG := G.set (s := s) d g i q e r
  cases q with
  | bad l => cases e'
  | ok y l => cases e'; have := (hG.okb _ _ _ rfl).2.2.1 (Or.inr rfl); exact ⟨trivial, by simp only [Pat.sz, szL, szR]; omega⟩
 | dot d g i e => intro x' g1' j' e'; cases e'; exact ⟨trivial, by simp only [Pat.sz, szL, szR]; omega⟩
 | esc d g i e =>
  intro x' g1' j' e'
  cases r : escS s 0 (i + 1) with
  | bad l => rw [r] at e'; cases e'
  | ok y l => rw [r] at e'; cases e'; have := escS_ok r; exact ⟨trivial, by simp only [Pat.sz, szL, szR]; omega⟩
 | no => intro x' g1' j' e'; cases e'
 | lit d g i a => intro x' g1' j' e'; cases e'; exact ⟨trivial, by simp only [Pat.sz, szL, szR]; omega⟩
end Go.Proofs.YtnfojonmohijpaaGreatDoor
