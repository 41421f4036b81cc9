/-
  DERIVED. Contracts of the program's read, of the closure that it defers, and of readPattern. Conditions: the variable classNames holds the seven names.
-/
import Derived.Test.YtnfojonmohijpaaGreatDoorJPV
import Derived.Defers
import Derived.Recover
import Derived.Test.YtnfojonmohijpaaGreatDoorJPC
import Derived.Test.YtnfojonmohijpaaGreatDoorJNF
set_option linter.unusedSimpArgs false
set_option linter.unusedVariables false
namespace Go.Proofs.YtnfojonmohijpaaGreatDoor
open Go.RowKit
set_option maxRecDepth 100000 in
set_option maxHeartbeats 400000 in
theorem catch_idle (x y z : Value) (w : World) :
    CallsD Tryz.prog 114 #[x, y, z] .returning w fun e u' w' => e = .returned (.tuple #[]) ∧ u' = .returning ∧ w' = w := by
 refine callsD_of_wpS Tryz.func114 rfl fun c₀ cs hu => ?_
 apply wpS_seq
 apply wpS_region
 simp [wpOpsS, go_sem, recoverD, hu, Tryz.ntmps114, Exit.thenS]
 refine wpS_of_wp ?_
 have et : (#[x, y, z] ++ (Array.replicate 12 undef).setIfInBounds 3 Value.nilIface) = #[x, y, z, undef, undef, undef, .nilIface, undef, undef, undef, undef, undef, undef, undef, undef] := rfl
 rw [et]
 go_wp2_with fail
 cases c₀
 simp_all [bodyPostS, results, Tryz.results114]
theorem assert_fault (j : Int) (w : World) : (Instr.typeAssert (.iface 196 (.agg #[.int .i64 j])) 20 196 true).run Tryz.prog w = .ok (.tuple #[.agg #[.int .i64 j], .bool true]) w := by kernel_rfl
set_option maxRecDepth 100000 in
set_option maxHeartbeats 400000 in
theorem catch_fault (j : Nat) (e0 : Int) (ib jb eb : Addr) (a b : Value) (w : World) (h1 : w.cell? ib = some (.int .i64 e0)) (h2 : w.cell? jb = some a) (h3 : w.cell? eb = some b) (f2 : w.frozen? jb = false) (f3 : w.frozen? eb = false) (hne : jb ≠ eb) :
    CallsD Tryz.prog 114 #[.pointer (some ib), .pointer (some jb), .pointer (some eb)] (.panicking [{ v := .iface 196 (.agg #[.int .i64 (j : Int)]), recovered := false }]) w fun e u' w' =>
     e = .returned (.tuple #[]) ∧ u' = .panicking [{ v := .iface 196 (.agg #[.int .i64 (j : Int)]), recovered := true }] ∧ w' = ((w.alloc (.cells #[.int .i64 (j : Int)] 196)).setCell jb (.int .i64 (j : Int))).setCell eb (.int .i64 e0) := by
 refine callsD_of_wpS Tryz.func114 rfl fun c₀ cs hu => ?_
 apply wpS_seq
 apply wpS_region
 simp [wpOpsS, go_sem, recoverD, hu, Tryz.ntmps114, Exit.thenS]
 refine wpS_of_wp ?_
 have et : (#[.pointer (some ib), .pointer (some jb), .pointer (some eb)] ++ (Array.replicate 12 undef).setIfInBounds 3 (.iface 196 (.agg #[.int .i64 (j : Int)]))) = #[.pointer (some ib), .pointer (some jb), .pointer (some eb), undef, undef, undef, .iface 196 (.agg #[.int .i64 (j : Int)]), undef, undef, undef, undef, undef, undef, undef, undef] := rfl
 rw [et]
 have hta := fun w => assert_fault (j : Int) w
 have hka : Keeps [] w (w.alloc (.cells #[.int .i64 (j : Int)] 196)) := (Keeps.refl [] w).alloc _
 have l2 := World.block_lt_of_cell? w _ h2
 have l3 := World.block_lt_of_cell? w _ h3
 have g1 := keep_cell hka h1
 have g2 := keep_cell hka h2
 have g3 := keep_cell hka h3
 have k2 : (w.alloc (.cells #[.int .i64 (j : Int)] 196)).frozen? jb = false := (World.frozen?_alloc_old w _ jb (Nat.ne_of_lt l2)).trans f2
 have k3 : (w.alloc (.cells #[.int .i64 (j : Int)] 196)).frozen? eb = false := (World.frozen?_alloc_old w _ eb (Nat.ne_of_lt l3)).trans f3
 have n3 : ((w.alloc (.cells #[.int .i64 (j : Int)] 196)).setCell jb (.int .i64 (j : Int))).cell? eb = some b := (World.cell?_setCell_other _ _ _ _ hne).trans g3
 have m3 : ((w.alloc (.cells #[.int .i64 (j : Int)] 196)).setCell jb (.int .i64 (j : Int))).frozen? eb = false := by rw [World.frozen?_setCell]; exact k3
 clear et hka l2 l3 h1 h2 h3 f2 f3 hne
 go_wp2_with fail
 cases c₀
 simp_all [bodyPostS, results, Tryz.results114]
theorem cf_parse (args : Array Value) (w : World) : (callFunc 67 args).run Tryz.prog w = .ok (.enter 67 args) w := by kernel_rfl
def z4 : Array Value := #[.bool false, .bool false, .slice none 0 0, .int .i64 0]
def RdPost (s : ByteArray) (w : World) (e : Ending) (w' : World) : Prop :=
 Keeps [] w w' ∧ ((60 < s.size ∧ e = .returned (.tuple #[.agg z4, .int .i64 0, .int .i64 1])) ∨ (s.size ≤ 60 ∧ ∃ q, PatR s q ∧ match q with
   | .ok W _ => ∃ v, e = .returned (.tuple #[.agg #[.bool W.bg, .bool W.en, v, .int .i64 W.g], .int .i64 0, .int .i64 0]) ∧ v.oneCell' = true ∧ Rep w' (fun g => w.heap.size ≤ g) .ways W.x [v]
   | .bad j => e = .returned (.tuple #[.agg z4, .int .i64 j, .int .i64 2])))
theorem loadInt (t : TypeId) (ht : t = 3 ∨ t = 22) (a : Addr) (x : Int) (w : World) (h : w.cell? a = some (.int .i64 x)) : (loadVar t a).run Tryz.prog w = .ok (.int .i64 x) w := by
 rcases ht with rfl | rfl
 ·simp [loadVar, go_sem, h]
 ·simp [loadVar, go_sem, h]
theorem results_read (tmps : Array Value) (w : World) (g : Nat) (a b c d : Value) (x y : Int) (h8 : tmps.getD 8 undef = .pointer (some ⟨g + 1, 0, none⟩)) (h9 : tmps.getD 9 undef = .pointer (some ⟨g + 1 + 1, 0, none⟩)) (h10 : tmps.getD 10 undef = .pointer (some ⟨g + 1 + 1 + 1, 0, none⟩))
    (hp : P4 w (g + 1) a b c d) (hx : w.cell? ⟨g + 1 + 1, 0, none⟩ = some (.int .i64 x)) (hy : w.cell? ⟨g + 1 + 1 + 1, 0, none⟩ = some (.int .i64 y)) :
    (results Tryz.f66 tmps).run Tryz.prog w = .ok (.tuple #[.agg #[a, b, c, d], .int .i64 x, .int .i64 y]) w := by
 have h : Tryz.f66.results = #[.cell 8 70, .cell 9 3, .cell 10 22] := rfl
 have e8 : tmps[8]?.getD undef = .pointer (some ⟨g + 1, 0, none⟩) := by simpa using h8
 have e9 : tmps[9]?.getD undef = .pointer (some ⟨g + 1 + 1, 0, none⟩) := by simpa using h9
 have e10 : tmps[10]?.getD undef = .pointer (some ⟨g + 1 + 1 + 1, 0, none⟩) := by simpa using h10
 have l1 := run_loadVar_row (P := Tryz.prog) w (g + 1) 70 70 #[a, b, c, d] (0, 0) _ hp Tryz.underlying70 rfl infoPat
 have l2 := loadInt 3 (Or.inl rfl) _ x w hx
 have l3 := loadInt 22 (Or.inr rfl) _ y w hy
 simp [results, h, e8, e9, e10, asAddr, l1, l2, l3]
theorem read_boxes (e : Int) (w : World) : ∃ W, ((((w.alloc (.cells #[.int .i64 2] 22)).alloc (.cells #[.bool false, .bool false, .slice none 0 0, .int .i64 0] 70)).alloc (.cells #[.int .i64 0] 3)).alloc (.cells #[.int .i64 e] 22)) = W ∧
    W.cell? ⟨w.heap.size, 0, none⟩ = some (.int .i64 2) ∧ P4 W (w.heap.size + 1) (.bool false) (.bool false) (.slice none 0 0) (.int .i64 0) ∧ W.cell? ⟨w.heap.size + 1 + 1, 0, none⟩ = some (.int .i64 0) ∧ W.cell? ⟨w.heap.size + 1 + 1 + 1, 0, none⟩ = some (.int .i64 e) ∧
    W.frozen? ⟨w.heap.size + 1 + 1, 0, none⟩ = false ∧ W.frozen? ⟨w.heap.size + 1 + 1 + 1, 0, none⟩ = false ∧ Keeps [] w W ∧ W.heap.size = w.heap.size + 4 := by
 have k1 : Keeps [] w (w.alloc (.cells #[.int .i64 2] 22)) := (Keeps.refl [] w).alloc _
 have c1 : (w.alloc (.cells #[.int .i64 2] 22)).cell? ⟨w.heap.size, 0, none⟩ = some (.int .i64 2) := by simp
 have z1 : (w.alloc (.cells #[.int .i64 2] 22)).heap.size = w.heap.size + 1 := by simp
 generalize w.alloc (.cells #[.int .i64 2] 22) = w1 at *
 have k2 : Keeps [] w1 (w1.alloc (.cells #[.bool false, .bool false, .slice none 0 0, .int .i64 0] 70)) := (Keeps.refl [] w1).alloc _
 have c2 : P4 (w1.alloc (.cells #[.bool false, .bool false, .slice none 0 0, .int .i64 0] 70)) w1.heap.size (.bool false) (.bool false) (.slice none 0 0) (.int .i64 0) := heap_alloc_new w1 _
 have z2 : (w1.alloc (.cells #[.bool false, .bool false, .slice none 0 0, .int .i64 0] 70)).heap.size = w1.heap.size + 1 := by simp
 have c1 := keep_cell k2 c1
 generalize w1.alloc (.cells #[.bool false, .bool false, .slice none 0 0, .int .i64 0] 70) = w2 at *
 have k3 : Keeps [] w2 (w2.alloc (.cells #[.int .i64 0] 3)) := (Keeps.refl [] w2).alloc _
 have c3 : (w2.alloc (.cells #[.int .i64 0] 3)).cell? ⟨w2.heap.size, 0, none⟩ = some (.int .i64 0) := by simp
 have f3 : (w2.alloc (.cells #[.int .i64 0] 3)).frozen? ⟨w2.heap.size, 0, none⟩ = false := by simp
 have z3 : (w2.alloc (.cells #[.int .i64 0] 3)).heap.size = w2.heap.size + 1 := by simp
 have c1 := keep_cell k3 c1
 have c2 := c2.keep k3 (by simp)
 generalize w2.alloc (.cells #[.int .i64 0] 3) = w3 at *
 have k4 : Keeps [] w3 (w3.alloc (.cells #[.int .i64 e] 22)) := (Keeps.refl [] w3).alloc _
 have c4 : (w3.alloc (.cells #[.int .i64 e] 22)).cell? ⟨w3.heap.size, 0, none⟩ = some (.int .i64 e) := by simp
 have f4 : (w3.alloc (.cells #[.int .i64 e] 22)).frozen? ⟨w3.heap.size, 0, none⟩ = false := by simp
 have z4 : (w3.alloc (.cells #[.int .i64 e] 22)).heap.size = w3.heap.size + 1 := by simp
 have c1 := keep_cell k4 c1
 have c2 := c2.keep k4 (by simp)
 have f3' : (w3.alloc (.cells #[.int .i64 e] 22)).frozen? ⟨w2.heap.size, 0, none⟩ = false := (World.frozen?_alloc_old w3 _ ⟨w2.heap.size, 0, none⟩ (by simp; omega)).trans f3
 have c3 := keep_cell k4 c3
 generalize w3.alloc (.cells #[.int .i64 e] 22) = w4 at *
 rw [z3, z2, z1] at c4 f4
 rw [z2, z1] at c3 f3'
 rw [z1] at c2
 exact ⟨w4, rfl, c1, c2, c3, c4, f3', f4, ((k1.trans k2).trans k3).trans k4, by omega⟩
set_option maxRecDepth 100000 in
set_option maxHeartbeats 1000000 in
theorem read_long2 (s : ByteArray) (w : World) (hs : 60 < s.size) :
    Calls Tryz.prog 66 #[.string s, .int .i64 60, .func (.func 67) #[] #[], .int .i64 2] w (RdPost s w) := by
 have hmf : ∀ (fn : Fn) (first cap : Array Value) (w : World), (Instr.makeFunc fn first cap).run Tryz.prog w = .ok (.func fn first cap) w := fun _ _ _ _ => rfl
 have hs' : (60 : Int) < (s.size : Int) := by omega
 obtain ⟨W, hW, b0, b1, b2, b3, g2, g3, hk, hz⟩ := read_boxes 1 w
 go_enter_defers Tryz.func66, Tryz.ntmps66
 go_wp2_with fail
 try rw [hW]
 exact ⟨_, results_read _ _ w.heap.size _ _ _ _ 0 1 rfl rfl rfl b1 b2 b3, hk, Or.inl ⟨hs, rfl⟩⟩
set_option maxRecDepth 100000 in
set_option maxHeartbeats 1000000 in
theorem read_prog (s : ByteArray) (w : World) (hgn : GN w) (hs : s.size ≤ 60) :
    Calls Tryz.prog 66 #[.string s, .int .i64 60, .func (.func 67) #[] #[], .int .i64 2] w (RdPost s w) := by
 have hmf : ∀ (fn : Fn) (first cap : Array Value) (w : World), (Instr.makeFunc fn first cap).run Tryz.prog w = .ok (.func fn first cap) w := fun _ _ _ _ => rfl
 have hs' : ¬ (60 : Int) < (s.size : Int) := by omega
 have cfp := cf_parse
 obtain ⟨W, hW, b0, b1, b2, b3, g2, g3, hk, hz⟩ := read_boxes 0 w
 have hgW := hgn.keep hk (by simp)
 go_enter_defers Tryz.func66, Tryz.ntmps66
 go_wp2_with fail
 try rw [hW]
 clear hW
 refine (parse_prog s W hgW hs).mono ?_
 rintro e w5 ⟨q, hP, hk5, hc5⟩
 have hkA := hk.trans hk5
 have a0 := keep_cell hk5 b0
 have a1 := b1.keep hk5 (by simp)
 have a2 := keep_cell hk5 b2
 have a3 := keep_cell hk5 b3
 have h2 : w5.frozen? ⟨w.heap.size + 1 + 1, 0, none⟩ = false := (World.frozen?_of_block (hk5.block _ (World.block_lt_of_cell? W _ b2) (by simp))).trans g2
 have h3 : w5.frozen? ⟨w.heap.size + 1 + 1 + 1, 0, none⟩ = false := (World.frozen?_of_block (hk5.block _ (World.block_lt_of_cell? W _ b3) (by simp))).trans g3
 clear b0 b1 b2 b3 g2 g3 hgW hgn
 obtain ⟨g, hg⟩ : ∃ g, w.heap.size = g := ⟨_, rfl⟩
 rw [hg] at a0 a1 a2 a3 h2 h3 ⊢
 have z5 := hk5.size
 cases q with
 | bad j =>
  subst hc5
  simp only [fault]
  refine leaves_cons (f := 114) (args := #[.pointer (some ⟨g, 0, none⟩), .pointer (some ⟨g + 1 + 1, 0, none⟩), .pointer (some ⟨g + 1 + 1 + 1, 0, none⟩)]) (by simp) (by simp [go_sem]) ?_
  refine (catch_fault j 2 _ _ _ _ _ _ a0 a2 a3 h2 h3 (by simp)).mono ?_
  rintro e u' w6 ⟨rfl, rfl, rfl⟩
  have kf : Keeps [] w5 (w5.alloc (.cells #[.int .i64 (j : Int)] 196)) := (Keeps.refl [] w5).alloc _
  have y1 := keep_cell kf a2
  have y2 := keep_cell kf a3
  have y3 := a1.keep kf (by simp)
  have hkB := hkA.trans kf
  generalize w5.alloc (.cells #[.int .i64 (j : Int)] 196) = w7 at *
  have hkC : Keeps [g + 1 + 1, g + 1 + 1 + 1] w7 ((w7.setCell ⟨g + 1 + 1, 0, none⟩ (.int .i64 (j : Int))).setCell ⟨g + 1 + 1 + 1, 0, none⟩ (.int .i64 2)) := ((Keeps.refl _ w7).setCell (by simp) _).setCell (by simp) _
  have r3 := y3.keep hkC (by simp)
  have r1 : ((w7.setCell ⟨g + 1 + 1, 0, none⟩ (.int .i64 (j : Int))).setCell ⟨g + 1 + 1 + 1, 0, none⟩ (.int .i64 2)).cell? ⟨g + 1 + 1, 0, none⟩ = some (.int .i64 (j : Int)) := by
   rw [World.cell?_setCell_other _ _ _ _ (by simp)]
   exact World.cell?_setCell_same _ _ _ y1
  have r2 : ((w7.setCell ⟨g + 1 + 1, 0, none⟩ (.int .i64 (j : Int))).setCell ⟨g + 1 + 1 + 1, 0, none⟩ (.int .i64 2)).cell? ⟨g + 1 + 1 + 1, 0, none⟩ = some (.int .i64 2) := by
   refine World.cell?_setCell_same _ _ _ (u := .int .i64 0) ?_
   rw [World.cell?_setCell_other _ _ _ _ (by simp)]
   exact y2
  exact ⟨_, results_read _ _ g _ _ _ _ j 2 rfl rfl rfl r3 r1 r2, hkB.fresh hkC (by intro x hx; simp at hx; omega), Or.inr ⟨hs, _, hP, rfl⟩⟩
 | ok Wh j =>
  obtain ⟨v, rfl, hv1, hrep⟩ := hc5
  have o4 : (#[.bool Wh.bg, .bool Wh.en, v, .int .i64 (Wh.g : Int)] : Array Value).all (·.oneCell') = true := four_one hv1
  have hkR := (Keeps.refl [g + 1] w5).setRow (g := g + 1) (by simp) #[.bool Wh.bg, .bool Wh.en, v, .int .i64 (Wh.g : Int)]
  have hbl : ∀ k, k < w5.heap.size → k ≠ g + 1 → (w5.setRow (g + 1) #[.bool Wh.bg, .bool Wh.en, v, .int .i64 (Wh.g : Int)]).heap[k]? = w5.heap[k]? := fun k hk hn => hkR.block k hk (by simpa using hn)
  have s1 : P4 (w5.setRow (g + 1) #[.bool Wh.bg, .bool Wh.en, v, .int .i64 (Wh.g : Int)]) (g + 1) (.bool Wh.bg) (.bool Wh.en) v (.int .i64 (Wh.g : Int)) := setRow_heap _ _ _ _ _ _ a1
  have s2 : (w5.setRow (g + 1) #[.bool Wh.bg, .bool Wh.en, v, .int .i64 (Wh.g : Int)]).cell? ⟨g + 1 + 1, 0, none⟩ = some (.int .i64 0) := (World.cell?_of_block (hbl _ (World.block_lt_of_cell? w5 _ a2) (by simp))).trans a2
  have s3 : (w5.setRow (g + 1) #[.bool Wh.bg, .bool Wh.en, v, .int .i64 (Wh.g : Int)]).cell? ⟨g + 1 + 1 + 1, 0, none⟩ = some (.int .i64 0) := (World.cell?_of_block (hbl _ (World.block_lt_of_cell? w5 _ a3) (by simp; omega))).trans a3
  have t2 : (w5.setRow (g + 1) #[.bool Wh.bg, .bool Wh.en, v, .int .i64 (Wh.g : Int)]).frozen? ⟨g + 1 + 1, 0, none⟩ = false := (World.frozen?_of_block (hbl _ (World.block_lt_of_cell? w5 _ a2) (by simp))).trans h2
  have t3 : (w5.setRow (g + 1) #[.bool Wh.bg, .bool Wh.en, v, .int .i64 (Wh.g : Int)]).frozen? ⟨g + 1 + 1 + 1, 0, none⟩ = false := (World.frozen?_of_block (hbl _ (World.block_lt_of_cell? w5 _ a3) (by simp; omega))).trans h3
  have hrep6 := hrep.keep hkR (by intro y hy; simp; omega)
  have hkB : Keeps [] w (w5.setRow (g + 1) #[.bool Wh.bg, .bool Wh.en, v, .int .i64 (Wh.g : Int)]) := hkA.fresh hkR (by intro x hx; simp at hx; omega)
  clear hbl
  go_wp2_with (first | (refine wpList_store_row rfl 70 _ _ rfl (g + 1) _ rfl rfl _ _ a1 infoPat rfl o4 ?_; generalize w5.setRow (g + 1) #[.bool Wh.bg, .bool Wh.en, v, .int .i64 (Wh.g : Int)] = w6 at *))
  refine leaves_cons (f := 114) (args := #[.pointer (some ⟨g, 0, none⟩), .pointer (some ⟨g + 1 + 1, 0, none⟩), .pointer (some ⟨g + 1 + 1 + 1, 0, none⟩)]) (by simp) (by simp [go_sem]) ?_
  refine (catch_idle _ _ _ _).mono ?_
  rintro e u' w7 ⟨rfl, rfl, rfl⟩
  have hkC : Keeps [g + 1 + 1, g + 1 + 1 + 1] w6 ((w6.setCell ⟨g + 1 + 1, 0, none⟩ (.int .i64 0)).setCell ⟨g + 1 + 1 + 1, 0, none⟩ (.int .i64 0)) := ((Keeps.refl _ w6).setCell (by simp) _).setCell (by simp) _
  have r3 := s1.keep hkC (by simp)
  have r1 : ((w6.setCell ⟨g + 1 + 1, 0, none⟩ (.int .i64 0)).setCell ⟨g + 1 + 1 + 1, 0, none⟩ (.int .i64 0)).cell? ⟨g + 1 + 1, 0, none⟩ = some (.int .i64 0) := by
   rw [World.cell?_setCell_other _ _ _ _ (by simp)]
   exact World.cell?_setCell_same _ _ _ s2
  have r2 : ((w6.setCell ⟨g + 1 + 1, 0, none⟩ (.int .i64 0)).setCell ⟨g + 1 + 1 + 1, 0, none⟩ (.int .i64 0)).cell? ⟨g + 1 + 1 + 1, 0, none⟩ = some (.int .i64 0) := by
   refine World.cell?_setCell_same _ _ _ (u := .int .i64 0) ?_
   rw [World.cell?_setCell_other _ _ _ _ (by simp)]
   exact s3
  exact ⟨_, results_read _ _ g _ _ _ _ 0 0 rfl rfl rfl r3 r1 r2, hkB.fresh hkC (by intro x hx; simp at hx; omega), Or.inr ⟨hs, _, hP, v, rfl, hv1, (hrep6.keep hkC (by intro y hy; simp; omega)).mono (by intro y hy _; omega)⟩⟩
theorem read_whole (s : ByteArray) (w : World) (hgn : GN w) :
    Calls Tryz.prog 66 #[.string s, .int .i64 60, .func (.func 67) #[] #[], .int .i64 2] w (RdPost s w) := by
 by_cases hs : s.size ≤ 60
 ·exact read_prog s w hgn hs
 ·exact read_long2 s w (by omega)
theorem results_rp (tmps : Array Value) (w : World) (g : Nat) (a b c d v3 v4 : Value) (h2 : tmps.getD 2 undef = .pointer (some ⟨g, 0, none⟩)) (h3 : tmps.getD 3 undef = v3) (h4 : tmps.getD 4 undef = v4) (hp : P4 w g a b c d) :
    (results Tryz.f36 tmps).run Tryz.prog w = .ok (.tuple #[.agg #[a, b, c, d], v3, v4]) w := by
 have h : Tryz.f36.results = #[.cell 2 70, .tmp 3, .tmp 4] := rfl
 have e2 : tmps[2]?.getD undef = .pointer (some ⟨g, 0, none⟩) := by simpa using h2
 have e3 : tmps[3]?.getD undef = v3 := by simpa using h3
 have e4 : tmps[4]?.getD undef = v4 := by simpa using h4
 have l1 := run_loadVar_row (P := Tryz.prog) w g 70 70 #[a, b, c, d] (0, 0) _ hp Tryz.underlying70 rfl infoPat
 simp [results, h, e2, e3, e4, asAddr, l1]
set_option maxRecDepth 100000 in
set_option maxHeartbeats 1000000 in
theorem readPattern_prog (s : ByteArray) (w : World) (hgn : GN w) :
    Calls Tryz.prog 36 #[.string s] w (RdPost s w) := by
 have hr0 : P4 (w.alloc (.cells #[.bool false, .bool false, .slice none 0 0, .int .i64 0] 70)) w.heap.size (.bool false) (.bool false) (.slice none 0 0) (.int .i64 0) := heap_alloc_new w _
 have hk0 : Keeps [] w (w.alloc (.cells #[.bool false, .bool false, .slice none 0 0, .int .i64 0] 70)) := (Keeps.refl [] w).alloc _
 have hg0 := hgn.keep hk0 (by simp)
 go_enter Tryz.func36, Tryz.ntmps36
 go_wp2_with fail
 refine (read_whole s _ hg0).mono ?_
 generalize w.alloc (.cells #[.bool false, .bool false, .slice none 0 0, .int .i64 0] 70) = W0 at *
 rintro e w1 ⟨hk1, hc1⟩
 have hr1 := hr0.keep hk1 (by simp)
 have hl0 := hr0.lt
 have hkA := hk0.trans hk1
 have hS : ∃ a b c d x y, e = .returned (.tuple #[.agg #[.bool a, .bool b, c, .int .i64 d], .int .i64 x, .int .i64 y]) ∧ c.oneCell' = true := by
  rcases hc1 with ⟨_, h⟩ | ⟨_, q, _, h⟩
  ·exact ⟨_, _, _, _, _, _, h, rfl⟩
  ·cases q with
   | bad j => exact ⟨_, _, _, _, _, _, h, rfl⟩
   | ok W j => obtain ⟨v, h, hv, _⟩ := h; exact ⟨_, _, _, _, _, _, h, hv⟩
 obtain ⟨a, b, c, d, x, y, rfl, hc⟩ := hS
 have HC : Hid ((60 < s.size ∧ Ending.returned (.tuple #[.agg #[.bool a, .bool b, c, .int .i64 d], .int .i64 x, .int .i64 y]) = .returned (.tuple #[.agg z4, .int .i64 0, .int .i64 1])) ∨ (s.size ≤ 60 ∧ ∃ q, PatR s q ∧ match q with
   | .ok W _ => ∃ v, Ending.returned (.tuple #[.agg #[.bool a, .bool b, c, .int .i64 d], .int .i64 x, .int .i64 y]) = .returned (.tuple #[.agg #[.bool W.bg, .bool W.en, v, .int .i64 W.g], .int .i64 0, .int .i64 0]) ∧ v.oneCell' = true ∧ Rep w1 (fun g => W0.heap.size ≤ g) .ways W.x [v]
   | .bad j => Ending.returned (.tuple #[.agg #[.bool a, .bool b, c, .int .i64 d], .int .i64 x, .int .i64 y]) = .returned (.tuple #[.agg z4, .int .i64 j, .int .i64 2]))) := hc1
 have o4 := four_one (x := a) (y := b) (n := d) hc
 clear hc1 hgn hg0
 go_wp2_with (first | (refine wpList_store_row rfl 70 _ _ rfl w.heap.size _ rfl rfl _ _ hr1 infoPat rfl o4 ?_))
 have hkR := (Keeps.refl [w.heap.size] w1).setRow (g := w.heap.size) (by simp) #[.bool a, .bool b, c, .int .i64 d]
 refine bodyPost_ret (results_rp _ _ w.heap.size _ _ _ _ _ _ rfl rfl rfl (setRow_heap _ _ _ _ _ _ hr1)) rfl ?_
 refine ⟨hkA.fresh hkR (by intro x hx; simp at hx; omega), ?_⟩
 rcases HC.out with h | ⟨hs, q, hq, h⟩
 ·exact Or.inl h
 ·refine Or.inr ⟨hs, q, hq, ?_⟩
  cases q with
  | bad j => exact h
  | ok W j =>
   obtain ⟨v, h1, h2, h3⟩ := h
   exact ⟨v, h1, h2, (h3.keep hkR (by intro y hy; simp; omega)).mono (by intro y hy _; omega)⟩
end Go.Proofs.YtnfojonmohijpaaGreatDoor
namespace Go.Proofs.YtnfojonmohijpaaGreatDoor
def strT (a b : Nat) : List UInt8 := if a = b then oneT a else oneT a ++ [45] ++ oneT b
def setLast (l : List (Nat × Nat)) (m : Nat) : List (Nat × Nat) :=
 match l.getLast? with
 | none => l
 | some (a, _) => l.dropLast ++ [(a, m)]
def strs (f : Nat → Bool) : Nat → List (Nat × Nat)
 | 0 => []
 | m + 1 => if f m = true then (if 0 < m ∧ f (m - 1) = true then setLast (strs f m) m else strs f m ++ [(m, m)]) else strs f m
def outS (l : List (Nat × Nat)) : List UInt8 := l.flatMap fun p => strT p.1 p.2
def lens (l : List (Nat × Nat)) : Nat := (l.map fun p => p.2 - p.1 + 1).sum
theorem setLast_snoc (l : List (Nat × Nat)) (a b m : Nat) : setLast (l ++ [(a, b)]) m = l ++ [(a, m)] := by
 simp [setLast]
theorem runE_fuel (f : Nat → Bool) : ∀ (n m : Nat), 255 - m ≤ n → runE f (n + 1) m = runE f n m := by
 intro n
 induction n with
 | zero =>
  intro m h
  unfold runE
  rw [if_neg (by omega)]
 | succ n ih =>
  intro m h
  show (if m < 255 ∧ f (m + 1) = true then runE f (n + 1) (m + 1) else m) = (if m < 255 ∧ f (m + 1) = true then runE f n (m + 1) else m)
  by_cases hc : m < 255 ∧ f (m + 1) = true
  ·rw [if_pos hc, if_pos hc, ih (m + 1) (by omega)]
  ·rw [if_neg hc, if_neg hc]
theorem runEnd_step (f : Nat → Bool) (m : Nat) (h : m < 255) (hf : f (m + 1) = true) : runEnd f m = runEnd f (m + 1) := by
 unfold runEnd
 show (if m < 255 ∧ f (m + 1) = true then runE f 254 (m + 1) else m) = _
 rw [if_pos ⟨h, hf⟩]
 exact (runE_fuel f 254 (m + 1) (by omega)).symm
theorem runEnd_stop (f : Nat → Bool) (m : Nat) (h : ¬ (m < 255 ∧ f (m + 1) = true)) : runEnd f m = m := by
 unfold runEnd
 show (if m < 255 ∧ f (m + 1) = true then runE f 254 (m + 1) else m) = _
 rw [if_neg h]
def StrInv (f : Nat → Bool) (m : Nat) : Prop :=
 (∃ pre a, 0 < m ∧ f (m - 1) = true ∧ strs f m = pre ++ [(a, m - 1)] ∧ a ≤ m - 1 ∧ f a = true ∧ (a = 0 ∨ f (a - 1) = false) ∧ runEnd f a = runEnd f (m - 1) ∧ outTo f m = outS pre ++ outAt f a) ∨
 ((m = 0 ∨ f (m - 1) = false) ∧ outTo f m = outS (strs f m))
theorem outS_snoc (l : List (Nat × Nat)) (a b : Nat) : outS (l ++ [(a, b)]) = outS l ++ strT a b := by simp [outS]
theorem outAt_end (f : Nat → Bool) (a b : Nat) (hab : a ≤ b) (hfa : f a = true) (h0 : a = 0 ∨ f (a - 1) = false) (hr : runEnd f a = b) : outAt f a = strT a b := by
 unfold outAt strT
 rw [if_pos ⟨hfa, h0⟩, hr]
 by_cases h : a = b
 ·rw [if_pos h, if_neg (by omega)]; simp
 ·rw [if_neg h, if_pos (by omega)]; simp
theorem StrInv.all (f : Nat → Bool) : ∀ m, m ≤ 256 → StrInv f m := by
 intro m
 induction m with
 | zero => intro _; exact Or.inr ⟨Or.inl rfl, rfl⟩
 | succ m ih =>
  intro hm
  rcases ih (by omega) with ⟨pre, a, h0, hf, hs, ham, hfa, ha0, hr, ho⟩ | ⟨hc, ho⟩
  ·have hz : outAt f m = [] := by
      unfold outAt
      rw [if_neg]
      rintro ⟨_, h | h⟩
      ·omega
      ·rw [hf] at h; cases h
   cases hfm : f m with
   | true =>
    refine Or.inl ⟨pre, a, by omega, by simpa using hfm, ?_, by simp; omega, hfa, ha0, ?_, ?_⟩
    ·show (if f m = true then (if 0 < m ∧ f (m - 1) = true then setLast (strs f m) m else strs f m ++ [(m, m)]) else strs f m) = _
     rw [if_pos hfm, if_pos ⟨h0, hf⟩, hs, setLast_snoc]
     simp
    ·rw [hr]
     have := runEnd_step f (m - 1) (by omega) (by rw [show m - 1 + 1 = m by omega]; exact hfm)
     rw [this, show m - 1 + 1 = m by omega]
     simp
    ·show outTo f m ++ outAt f m = _
     rw [hz, ho]; simp
   | false =>
    refine Or.inr ⟨Or.inr (by simpa using hfm), ?_⟩
    show outTo f m ++ outAt f m = outS (if f m = true then (if 0 < m ∧ f (m - 1) = true then setLast (strs f m) m else strs f m ++ [(m, m)]) else strs f m)
    rw [if_neg (by rw [hfm]; simp), hz, ho, hs, outS_snoc]
    have hend : runEnd f (m - 1) = m - 1 := runEnd_stop f (m - 1) (by rw [show m - 1 + 1 = m by omega, hfm]; simp)
    rw [outAt_end f a (m - 1) ham hfa ha0 (hr.trans hend)]
    simp
  ·cases hfm : f m with
   | true =>
    refine Or.inl ⟨strs f m, m, by omega, by simpa using hfm, ?_, by simp, hfm, ?_, by simp, ?_⟩
    ·show (if f m = true then (if 0 < m ∧ f (m - 1) = true then setLast (strs f m) m else strs f m ++ [(m, m)]) else strs f m) = _
     rw [if_pos hfm, if_neg]
     ·simp
     ·rintro ⟨h1, h2⟩
      rcases hc with h | h
      ·omega
      ·rw [h2] at h; cases h
    ·rcases hc with h | h
     ·exact Or.inl h
     ·exact Or.inr h
    ·show outTo f m ++ outAt f m = _
     rw [ho]
   | false =>
    refine Or.inr ⟨Or.inr (by simpa using hfm), ?_⟩
    show outTo f m ++ outAt f m = outS (if f m = true then (if 0 < m ∧ f (m - 1) = true then setLast (strs f m) m else strs f m ++ [(m, m)]) else strs f m)
    rw [if_neg (by rw [hfm]; simp), ho]
    have hz : outAt f m = [] := by unfold outAt; rw [if_neg]; rintro ⟨h, _⟩; rw [hfm] at h; cases h
    rw [hz]; simp
theorem out_strs (f : Nat → Bool) : outTo f 256 = outS (strs f 256) := by
 rcases StrInv.all f 256 (by omega) with ⟨pre, a, h0, hf, hs, ham, hfa, ha0, hr, ho⟩ | ⟨hc, ho⟩
 ·have hend : runEnd f 255 = 255 := runEnd_stop f 255 (by omega)
  rw [ho, hs, outS_snoc, outAt_end f a 255 (by simpa using ham) hfa ha0 (by rw [hr]; exact hend)]
 ·exact ho
theorem lens_snoc (l : List (Nat × Nat)) (a b : Nat) : lens (l ++ [(a, b)]) = lens l + (b - a + 1) := by simp [lens]
theorem cnt_lens (f : Nat → Bool) : ∀ m, m ≤ 256 → cntTo f m = lens (strs f m) ∧ ∀ p ∈ strs f m, p.1 ≤ p.2 ∧ p.2 < m := by
 intro m
 induction m with
 | zero => intro _; exact ⟨rfl, by simp [strs]⟩
 | succ m ih =>
  intro hm
  obtain ⟨h1, h2⟩ := ih (by omega)
  have hI := StrInv.all f m (by omega)
  show cntTo f m + (if f m then 1 else 0) = lens (if f m = true then (if 0 < m ∧ f (m - 1) = true then setLast (strs f m) m else strs f m ++ [(m, m)]) else strs f m) ∧ ∀ p ∈ (if f m = true then (if 0 < m ∧ f (m - 1) = true then setLast (strs f m) m else strs f m ++ [(m, m)]) else strs f m), p.1 ≤ p.2 ∧ p.2 < m + 1
  by_cases hfm : f m = true
  ·rw [if_pos hfm, if_pos hfm]
   rcases hI with ⟨pre, a, h0, hf, hs, ham, hfa, ha0, hr, ho⟩ | ⟨hc, ho⟩
   ·rw [if_pos ⟨h0, hf⟩, hs, setLast_snoc, h1, hs, lens_snoc, lens_snoc]
    refine ⟨by omega, ?_⟩
    intro p hp
    rcases List.mem_append.1 hp with hp | hp
    ·have := h2 p (by rw [hs]; exact List.mem_append_left _ hp)
     exact ⟨this.1, by omega⟩
    ·simp at hp; subst hp; exact ⟨by simp; omega, by simp⟩
   ·rw [if_neg (by rintro ⟨h3, h4⟩; rcases hc with h | h; omega; rw [h4] at h; cases h), lens_snoc, h1]
    refine ⟨by omega, ?_⟩
    intro p hp
    rcases List.mem_append.1 hp with hp | hp
    ·have := h2 p hp; exact ⟨this.1, by omega⟩
    ·simp at hp; subst hp; exact ⟨by simp, by simp⟩
  ·rw [if_neg hfm, if_neg hfm]
   refine ⟨by omega, ?_⟩
   intro p hp
   have := h2 p hp
   exact ⟨this.1, by omega⟩
theorem cnt_all (f : Nat → Bool) : ∀ m, (cntTo f m = m ↔ ∀ n, n < m → f n = true) := by
 intro m
 induction m with
 | zero => simp [cntTo]
 | succ m ih =>
  have hle := cntTo_le f m
  show cntTo f m + (if f m then 1 else 0) = m + 1 ↔ _
  constructor
  ·intro h n hn
   by_cases hfm : f m = true
   ·rw [if_pos hfm] at h
    by_cases e : n = m
    ·subst e; exact hfm
    ·exact ih.1 (by omega) n (by omega)
   ·rw [if_neg hfm] at h; omega
  ·intro h
   rw [if_pos (h m (by omega)), ih.2 (fun n hn => h n (by omega))]
open Classical in
theorem setT_strs (f : Nat → Bool) : setT f = if (strs f 256).length = 0 then [91, 94, 92, 120, 48, 48, 45, 92, 120, 102, 102, 93] else if ∀ n, n < 256 → f n = true then [46] else if ∃ a, strs f 256 = [(a, a)] then outS (strs f 256) else [91] ++ outS (strs f 256) ++ [93] := by
 obtain ⟨hl, hp⟩ := cnt_lens f 256 (by omega)
 have hall := cnt_all f 256
 have hpos : ∀ l : List (Nat × Nat), l.length ≤ lens l := by
  intro l
  induction l with
  | nil => simp [lens]
  | cons p l ih => simp only [lens, List.map_cons, List.sum_cons, List.length_cons] at ih ⊢; omega
 unfold setT
 by_cases h0 : (strs f 256).length = 0
 ·rw [if_pos h0]
  have : strs f 256 = [] := List.length_eq_zero_iff.1 h0
  rw [this] at hl
  rw [if_pos (by rw [hl]; rfl)]
 ·rw [if_neg h0]
  have hz : cntTo f 256 ≠ 0 := by have := hpos (strs f 256); omega
  rw [if_neg hz]
  by_cases ha : ∀ n, n < 256 → f n = true
  ·rw [if_pos ha]
   have := hall.2 ha
   rw [if_neg (by omega), if_pos this]
  ·rw [if_neg ha]
   have hn : cntTo f 256 ≠ 256 := fun h => ha (hall.1 h)
   by_cases h1 : ∃ a, strs f 256 = [(a, a)]
   ·rw [if_pos h1]
    obtain ⟨a, h1⟩ := h1
    have : cntTo f 256 = 1 := by rw [hl, h1]; simp [lens]
    rw [if_pos this, out_strs]
   ·rw [if_neg h1]
    have h2 : cntTo f 256 ≠ 1 := by
     intro h
     apply h1
     rw [hl] at h
     match hst : strs f 256 with
     | [] => rw [hst] at h0; simp at h0
     | [(a, b)] =>
      rw [hst] at h
      have := (hp (a, b) (by rw [hst]; simp)).1
      simp [lens] at h this
      exact ⟨a, by congr 2; omega⟩
     | p :: q :: l =>
      rw [hst] at h
      have := hpos (p :: q :: l)
      simp at this
      omega
    rw [if_neg h2, if_neg hn, out_strs]
end Go.Proofs.YtnfojonmohijpaaGreatDoor
namespace Go.Proofs.YtnfojonmohijpaaGreatDoor
open Go.RowKit
def strC (l : List (Nat × Nat)) : List Value := l.flatMap fun p => [.int .u8 (p.1 : Int), .int .u8 (p.2 : Int)]
theorem strC_snoc (l : List (Nat × Nat)) (a b : Nat) : strC (l ++ [(a, b)]) = strC l ++ [.int .u8 (a : Int), .int .u8 (b : Int)] := by simp [strC]
theorem strC_len (l : List (Nat × Nat)) : (strC l).length = l.length * 2 := by
 induction l with
 | nil => rfl
 | cons p l ih => simp only [strC, List.flatMap_cons, List.length_append, List.length_cons, List.length_nil] at ih ⊢; omega
theorem idx_set (f : Nat → Bool) (m : Nat) (h : m < 256) (w : World) : (Instr.index 206 (.agg (hcells f)) (.int .i64 (m : Int))).run Tryz.prog w = .ok (.bool (f m)) w := by
 have hu := Tryz.underlying206
 have h1 : (0 : Int) ≤ (m : Int) := by omega
 have h2 : (m : Int) < 256 := by omega
 have hc := hcells_get f h
 have hz : (Go.sizeOf 4).run Tryz.prog w = .ok 1 w := by kernel_rfl
 have hp : (part 4 (hcells f) m).run Tryz.prog w = .ok (.bool (f m)) w := by
  unfold part
  have ha : (isAgg 4).run Tryz.prog w = .ok false w := by kernel_rfl
  simp [ha, hz, hc]
 simp [Instr.index, run_underlying hu, asIntOf, h1, h2, hz, hp]
 intro hc'
 omega
theorem ownsRow_set {w : World} {base : Nat} {e : TypeId} {size : Nat} {n cap g : Nat} {xs : List Value} (h : w.ownsRow base e size (.slice (some ⟨g, 0, none⟩) n cap) n xs) (k : Nat) (hk : k < n * size) (v : Value) :
    (w.setCell ⟨g, k, none⟩ v).ownsRow base e size (.slice (some ⟨g, 0, none⟩) n cap) n (xs.set k v) ∧ w.cell? ⟨g, k, none⟩ = xs[k]? ∧ w.frozen? ⟨g, k, none⟩ = false := by
 obtain ⟨hl, h2⟩ := h
 rcases h2 with ⟨hv, _⟩ | ⟨g', cap', cur, hv, hb, hg, hnc, hcm, hcs, htk⟩
 ·cases hv
 ·cases hv
  have hkc : k < cur.size := by
   rw [hcs]
   exact Nat.lt_of_lt_of_le hk (Nat.mul_le_mul_right _ hnc)
  refine ⟨⟨by simp [hl], Or.inr ⟨g, cap, cur.setIfInBounds k v, rfl, hb, ?_, hnc, hcm, by simp [hcs], ?_⟩⟩, ?_, ?_⟩
  ·simp [World.setCell, Array.getElem?_modify, hg]
  ·rw [← htk]
   simp [List.take_set]
  ·rw [← htk, List.getElem?_take_of_lt hk]
   simp [World.cell?, hg]
  ·simp [World.frozen?, hg]
structure SL2 (f : Nat → Bool) (g0 : Nat) (w wr : World) (v : Value) (m : Nat) : Prop where
 set : HQ wr g0 f
 own : wr.ownsRow 0 307 2 v (strs f m).length (strC (strs f m))
 fresh : ∀ g, v.ownBlock = some g → g0 < g
 keep : Keeps [] w wr
 mle : m ≤ 256
set_option maxRecDepth 100000 in
theorem wrap_byte (m : Nat) (h : m < 256) : IntKind.u8.wrap (m : Int) = (m : Int) := by
 have key : ∀ k : Fin 256, IntKind.u8.wrap ((k.val : Nat) : Int) = ((k.val : Nat) : Int) := by decide
 exact key ⟨m, h⟩
theorem strs_len (f : Nat → Bool) (m : Nat) (h : m ≤ 256) : (strs f m).length ≤ m := by
 have h1 := (cnt_lens f m h).1
 have h2 := cntTo_le f m
 have hpos : ∀ l : List (Nat × Nat), l.length ≤ lens l := by
  intro l
  induction l with
  | nil => simp [lens]
  | cons p l ih => simp only [lens, List.map_cons, List.sum_cons, List.length_cons] at ih ⊢; omega
 have := hpos (strs f m)
 omega
theorem infoStr : (Tryz.prog.info? 307).map (fun i => (i.zero, i.size, i.bytes)) = some (some (.agg #[.int .u8 0, .int .u8 0]), 2, 2) := by kernel_rfl
set_option maxRecDepth 100000 in
set_option maxHeartbeats 2000000 in
theorem stretches_prog (f : Nat → Bool) (w : World) :
    Calls Tryz.prog 206 #[.agg (hcells f)] w fun e w' => ∃ v, e = .returned v ∧ w'.ownsRow 0 307 2 v (strs f 256).length (strC (strs f 256)) ∧ (∀ g, v.ownBlock = some g → w.heap.size ≤ g) ∧ Keeps [] w w' := by
 have hz0 : HQ (w.alloc (.cells (hcells f) 206)) w.heap.size f := heap_alloc_new w _
 have hk0 : Keeps [] w (w.alloc (.cells (hcells f) 206)) := (Keeps.refl [] w).alloc _
 obtain ⟨i0, hi0, hy0, hy1, hy2⟩ := info_parts infoStr
 have hix := idx_set f
 generalize hC : hcells f = C at *
 go_enter Tryz.func206, Tryz.ntmps206
 go_wp2_with (first | (refine wpList_load_row rfl 206 _ rfl w.heap.size rfl _ _ _ _ hz0 Tryz.underlying206 rfl (infoSetC _) ?_))
 generalize w.alloc (.cells C 206) = W at *
 obtain ⟨g0, hg0⟩ : ∃ g0, w.heap.size = g0 := ⟨_, rfl⟩
 rw [hg0] at hz0 ⊢
 go_loopw [3, 7] (fun v q wr => ∃ m : Nat, q = .int .i64 m ∧ SL2 f g0 w wr v m) (fun _ q _ => 256 - (intOf q).toNat)
 case atStart => exact ⟨0, rfl, hz0, ⟨rfl, Or.inl ⟨rfl, rfl⟩⟩, by intro g h; simp [Value.ownBlock] at h, hk0, by omega⟩
 case round =>
  clear hz0 hk0
  obtain ⟨m, rfl, L⟩ := hrel
  by_cases hlt : m < 256
  ·have hm0 : (0 : Int) ≤ (m : Int) := by omega
   have hm1 : (m : Int) < 256 := by omega
   have hixm := hix m hlt
   have hstep : strs f (m + 1) = if f m = true then (if 0 < m ∧ f (m - 1) = true then setLast (strs f m) m else strs f m ++ [(m, m)]) else strs f m := rfl
   have HS : Hid (strs f (m + 1) = if f m = true then (if 0 < m ∧ f (m - 1) = true then setLast (strs f m) m else strs f m ++ [(m, m)]) else strs f m) := hstep
   clear hstep hix
   cases hfm : f m with
   | false =>
    have L2 : SL2 f g0 w wr u3 (m + 1) := ⟨L.set, by have h := HS.out; rw [if_neg (by rw [hfm]; simp)] at h; rw [h]; exact L.own, L.fresh, L.keep, by omega⟩
    rw [hfm] at hixm
    clear HS
    go_wp2_with fail
    go_roundw
    case rel => exact ⟨m + 1, by go_num, L2⟩
    case measure => simp [intOf]; omega
   | true =>
    rw [hfm] at hixm
    have hwm := wrap_byte m hlt
    have hsl := strs_len f m (by omega)
    by_cases hop : 0 < m ∧ f (m - 1) = true
    ·have hstrs : strs f (m + 1) = setLast (strs f m) m := by have h := HS.out; rw [if_pos hfm, if_pos hop] at h; exact h
     obtain ⟨pre, a, hs⟩ : ∃ pre a, strs f m = pre ++ [(a, m - 1)] := by
      rcases StrInv.all f m (by omega) with ⟨pre, a, _, _, hs, _⟩ | ⟨hc, _⟩
      ·exact ⟨pre, a, hs⟩
      ·rcases hc with h | h
       ·omega
       ·rw [hop.2] at h; cases h
     have hown := L.own
     rw [hs] at hown
     obtain ⟨g, cap, hv, _, _⟩ := hown.form (by simp)
     have hfr := L.fresh
     rw [hv] at hown hfr
     have hlen : (pre ++ [(a, m - 1)]).length = pre.length + 1 := by simp
     rw [hlen] at hown hv hfr
     have hcp := L.set.cell (k := m - 1) (by omega)
     rw [hop.2] at hcp
     have hi1 : (m : Int) - 1 = ((m - 1 : Nat) : Int) := by omega
     obtain ⟨ho2, hc2, hf2⟩ := ownsRow_set hown (pre.length * 2 + 1) (by omega) (.int .u8 (m : Int))
     have hcell : wr.cell? ⟨g, pre.length * 2 + 1, none⟩ = some (.int .u8 ((m - 1 : Nat) : Int)) := by
      rw [hc2, strC_snoc, List.getElem?_append_right (by rw [strC_len]; omega), strC_len]
      simp
     have hset : (strC (pre ++ [(a, m - 1)])).set (pre.length * 2 + 1) (.int .u8 (m : Int)) = strC (pre ++ [(a, m)]) := by
      rw [strC_snoc, strC_snoc, List.set_append_right _ _ (by rw [strC_len]; omega), strC_len]
      simp
     rw [hset] at ho2
     have hgg : g0 < g := hfr g rfl
     have L2 : SL2 f g0 w (wr.setCell ⟨g, pre.length * 2 + 1, none⟩ (.int .u8 (m : Int))) (.slice (some ⟨g, 0, none⟩) (pre.length + 1) cap) (m + 1) := by
      refine ⟨L.set.keep ((Keeps.refl [g] wr).setCell (by simp) _) (by simp; omega), ?_, hfr, L.keep.setCell (Or.inr (by show w.heap.size ≤ g; omega)) _, by omega⟩
      rw [hstrs, hs, setLast_snoc]
      simpa using ho2
     have hpl : pre.length ≤ 255 := by rw [hs] at hsl; simp at hsl; omega
     have hp0 : (0 : Int) ≤ (pre.length : Int) := by omega
     have hp1 : (pre.length : Int) ≤ 255 := by omega
     subst hv
     clear HS hstrs hs L hown ho2 hc2 hset hfr hlen hsl hpl
     go_wp2_with fail
     go_roundw
     case rel => exact ⟨m + 1, by go_num, L2⟩
     case measure => simp [intOf]; omega
    ·have hstrs : strs f (m + 1) = strs f m ++ [(m, m)] := by have h := HS.out; rw [if_pos hfm, if_neg hop] at h; exact h
     have hlm : (strs f m).length + 1 ≤ maxLen := by unfold maxLen; omega
     have hun := Tryz.underlying303
     have hown := L.own
     have hNX : ∀ g cap w4, w4.ownsRow 0 307 2 (.slice (some ⟨g, 0, none⟩) ((strs f m).length + 1) cap) ((strs f m).length + 1) (strC (strs f m) ++ [.int .u8 (m : Int), .int .u8 (m : Int)]) → (wr.alloc (.cells #[.int .u8 (m : Int), .int .u8 (m : Int)] 307)).grownBy w4 u3.ownBlock → (u3.ownBlock = some g ∨ g = wr.heap.size + 1) → SL2 f g0 w w4 (.slice (some ⟨g, 0, none⟩) ((strs f m).length + 1) cap) (m + 1) := by
      intro g cap w4 h1 h2 h3
      have hk4 : Keeps u3.ownBlock.toList wr w4 := ((Keeps.refl u3.ownBlock.toList wr).alloc _).trans (Keeps.ofGrown h2)
      have hfr : ∀ y, y ∈ u3.ownBlock.toList → g0 < y := by
       intro y hy
       rw [Option.mem_toList] at hy
       exact L.fresh y hy
      have hsz := L.keep.size
      have hgl := L.set.lt
      refine ⟨L.set.keep hk4 (fun h => by have := hfr _ h; omega), ?_, ?_, L.keep.fresh hk4 (fun y hy => Or.inr (by have := hfr y hy; omega)), by omega⟩
      ·rw [hstrs, strC_snoc, List.length_append, List.length_singleton]; exact h1
      ·intro y hy
       cases hy
       rcases h3 with h | h
       ·exact L.fresh _ h
       ·show g0 < g; omega
     have HN : Hid (∀ g cap w4, w4.ownsRow 0 307 2 (.slice (some ⟨g, 0, none⟩) ((strs f m).length + 1) cap) ((strs f m).length + 1) (strC (strs f m) ++ [.int .u8 (m : Int), .int .u8 (m : Int)]) → (wr.alloc (.cells #[.int .u8 (m : Int), .int .u8 (m : Int)] 307)).grownBy w4 u3.ownBlock → (u3.ownBlock = some g ∨ g = wr.heap.size + 1) → SL2 f g0 w w4 (.slice (some ⟨g, 0, none⟩) ((strs f m).length + 1) cap) (m + 1)) := hNX
     clear hNX HS hstrs
     have hcp : 0 < m → wr.cell? ⟨g0, m - 1, none⟩ = some (.bool false) := fun h => by
      have := L.set.cell (k := m - 1) (by omega)
      have hff : f (m - 1) = false := by cases hq : f (m - 1); rfl; exact absurd ⟨h, hq⟩ hop
      rw [hff] at this; exact this
     have HL : Hid (m < 256) := hlt
     have HB : Hid ((strs f m).length ≤ 256) := by show (strs f m).length ≤ 256; omega
     by_cases hmz : m = 0
     ·have hmi : ¬ (0 : Int) < (m : Int) := by omega
      clear hcp hop hsl L hmz
      go_wp2_with (at_builtin; refine wpList_append_lies _ rfl _ _ _ rfl 0 307 i0 _ 2 2 hun hi0 hy0 hy1 hy2 rfl (by decide) u3 (strs f m).length _ rfl (hown.alloc _) ⟨wr.heap.size, 0, none⟩ 1 1 [.int .u8 (m : Int), .int .u8 (m : Int)] rfl rfl ?c1 ?c2 ?c3 hlm ?c4 ?c5 (wr.heap.size + 1) ?c6 ?_)
      case c2 => first | rfl | (intro u hu; simp at hu; subst hu; rfl)
      case c4 => have := HB.out; omega
      intro g cap w4 hown4 hgrow hat hlt4
      have L2 := HN.out g cap w4 hown4 hgrow hat
      clear hown4 hgrow hat HN
      go_wp2_with fail
      go_roundw
      case rel => exact ⟨m + 1, by go_num, L2⟩
      case measure => have := HL.out; simp [intOf]; omega
     ·have hmi : (0 : Int) < (m : Int) := by omega
      have hcp' := hcp (by omega)
      have hm' : 0 < m := by omega
      have hi1 : (m : Int) - 1 = ((m - 1 : Nat) : Int) := by omega
      clear hcp hop hsl L
      go_wp2_with (at_builtin; refine wpList_append_lies _ rfl _ _ _ rfl 0 307 i0 _ 2 2 hun hi0 hy0 hy1 hy2 rfl (by decide) u3 (strs f m).length _ rfl (hown.alloc _) ⟨wr.heap.size, 0, none⟩ 1 1 [.int .u8 (m : Int), .int .u8 (m : Int)] rfl rfl ?c1 ?c2 ?c3 hlm ?c4 ?c5 (wr.heap.size + 1) ?c6 ?_)
      case c2 => first | rfl | (intro u hu; simp at hu; subst hu; rfl)
      case c4 => have := HB.out; omega
      intro g cap w4 hown4 hgrow hat hlt4
      have L2 := HN.out g cap w4 hown4 hgrow hat
      clear hown4 hgrow hat HN
      go_wp2_with fail
      go_roundw
      case rel => exact ⟨m + 1, by go_num, L2⟩
      case measure => have := HL.out; simp [intOf]; omega
  ·have e : m = 256 := by have := L.mle; omega
   subst e
   go_wp2_with fail
   go_ret
   exact ⟨_, rfl, L.own, fun g hg => by have := L.fresh g hg; omega, L.keep⟩
end Go.Proofs.YtnfojonmohijpaaGreatDoor
namespace Go.Proofs.YtnfojonmohijpaaGreatDoor
open Go.RowKit
set_option maxRecDepth 100000 in
set_option maxHeartbeats 2000000 in
theorem bytesOf_any (f : Nat → Bool) (s : ByteArray) (N : Nat) (HN : Hid (N = s.size + 1)) (hs : s.size ≤ 100) (w : World) : Calls Tryz.prog 254 #[.agg (hcells f), .string s] w (NewMP w N (Mt s (.set f))) := by
 have hz0 : HQ (w.alloc (.cells (hcells f) 206)) w.heap.size f := heap_alloc_new w _
 have hk0 : Keeps [] w (w.alloc (.cells (hcells f) 206)) := (Keeps.refl [] w).alloc _
 generalize hcells f = C at *
 go_enter Tryz.func254, Tryz.ntmps254
 go_wp2_with fail
 generalize w.alloc (.cells C 206) = W at *
 obtain ⟨g0, hg0⟩ : ∃ g0, w.heap.size = g0 := ⟨_, rfl⟩
 rw [hg0] at hz0 ⊢
 refine (none_any s.size N HN hs W).mono ?_
 rintro e w1 ⟨g, rfl, hM, hk, hg⟩
 have hz1 := hz0.keep hk (by simp)
 have hg0l : g0 < W.heap.size := hz0.lt
 have hgw : w.heap.size ≤ g := by have := hk0.size; omega
 have hkA := hk0.trans hk
 have hNm : (N : Int) ≤ 101 := by have := HN.out; omega
 have hsm : (s.size : Int) ≤ 100 := by omega
 clear hz0 hk0 hk hg0
 go_wp2_with fail
 go_loopw [6, 12] (fun _ q wr => ∃ k : Nat, k ≤ s.size ∧ q = .int .i64 k ∧ MV wr (.slice (some ⟨g, 0, none⟩) N N) N (fun i j => decide (i < k) && (f (at' s i).toNat && decide (j = i + 1))) ∧ HQ wr g0 f ∧ Keeps [] w wr) (fun _ q _ => s.size - (intOf q).toNat)
 case atStart => exact ⟨0, by omega, rfl, hM.ext (fun a b _ _ => by simp), hz1, hkA⟩
 case round =>
  clear hM hz1 hkA
  obtain ⟨k, hk, rfl, hM, hz, hK⟩ := hrel
  by_cases hlt : k < s.size
  ·have hk0 : (0 : Int) ≤ (k : Int) := by omega
   have hk1 : (k : Int) < (s.size : Int) := by omega
   have hk2 : (k : Int) < (N : Int) := by have := HN.out; omega
   have hb : at' s k = (s[k].toNat : Int) := at'_lt hlt
   have hb2 : s[k].toNat < 256 := UInt8.toNat_lt _
   have hb3 : (0 : Int) ≤ (s[k].toNat : Int) := by omega
   have hb4 : (s[k].toNat : Int) < 256 := by omega
   have hcl := hz.cell hb2
   have HB : Hid ((at' s k).toNat = s[k].toNat) := by show (at' s k).toNat = s[k].toNat; rw [hb]; rfl
   clear hb hk
   cases hf : f s[k].toNat with
   | false =>
    rw [hf] at hcl
    have HF : Hid (f s[k].toNat = false) := hf
    have HK : Hid (k < s.size) := hlt
    clear hf
    go_wp2_with fail
    go_roundw
    case rel => exact ⟨k + 1, HK.out, by go_num, hM.ext (fun a b _ _ => by
      by_cases e1 : a = k
      · subst e1; rw [HB.out, HF.out]; simp
      · have : (a < k + 1) ↔ (a < k) := by omega
        simp [this]), hz, hK⟩
    case measure => have := HK.out; simp [intOf]; omega
   | true =>
    rw [hf] at hcl
    have HF : Hid (f s[k].toNat = true) := hf
    have HK : Hid (k < s.size) := hlt
    clear hf
    have hC := padd_any g N N k (k + 1) _ (by have := HN.out; omega) (by omega) wr hM
    have e9 : ((k + 1 : Nat) : Int) = (k : Int) + 1 := by omega
    rw [e9] at hC
    clear e9
    go_wp2_with (go_at_call 211; refine hC.mono ?_; rintro e w2 ⟨rfl, hM2, hK2⟩)
    have hz2 := hz.keep hK2 (by simp; omega)
    have hK3 : Keeps [] w w2 := keepsM hK hK2 (by intro x hx; simp at hx; omega)
    go_roundw
    case rel => exact ⟨k + 1, HK.out, by go_num, hM2.ext (fun a b _ _ => by
      by_cases e1 : a = k
      · subst e1; rw [HB.out, HF.out]; simp
      · have : (a < k + 1) ↔ (a < k) := by omega
        simp [e1, this]), hz2, hK3⟩
    case measure => have := HK.out; simp [intOf]; omega
  ·have he : k = s.size := by omega
   have hnk : ¬ (k : Int) < (s.size : Int) := by omega
   have hM2 : MP wr (fun x => w.heap.size ≤ x) N (.slice (some ⟨g, 0, none⟩) N N) (Mt s (.set f)) := ⟨g, N, _, rfl, hM, hgw, fun i j hi hj => by
     simp only [Bool.and_eq_true, decide_eq_true_eq, he]
     exact Iff.rfl⟩
   clear hM hk he hlt
   go_wp2_with fail
   go_ret
   exact ⟨_, rfl, hM2, hK⟩
end Go.Proofs.YtnfojonmohijpaaGreatDoor
