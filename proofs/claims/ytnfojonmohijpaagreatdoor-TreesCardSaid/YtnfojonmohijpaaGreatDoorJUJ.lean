/-
  DERIVED. The contract of the program's Parse of a tree. Conditions: the text is at most 20000 bytes long.
-/
import Derived.Test.YtnfojonmohijpaaGreatDoorJUG
import Derived.Test.YtnfojonmohijpaaGreatDoorJPW
import Derived.Test.YtnfojonmohijpaaGreatDoorJPY
import Derived.Test.YtnfojonmohijpaaGreatDoorJUD
set_option linter.unusedSimpArgs false
set_option linter.unusedVariables false
namespace Go.Proofs.YtnfojonmohijpaaGreatDoor
open Go.RowKit
def wholeR (s : ByteArray) : R Tr → R Tr
 | .bad j => .bad j
 | .ok t j => if j < s.size then .bad j else .ok t j
def TreeR (s : ByteArray) (q : R Tr) : Prop := ∃ q0, TG s .thing 0 0 q0 ∧ q = wholeR s q0
theorem TreeR.det {s : ByteArray} {q q' : R Tr} (h : TreeR s q) (h' : TreeR s q') : q = q' := by
 obtain ⟨a, h, rfl⟩ := h
 obtain ⟨b, h', rfl⟩ := h'
 rw [h.det b h']
def TaPost (s : ByteArray) (w : World) (e : Ending) (w' : World) : Prop :=
 ∃ q, TreeR s q ∧ Keeps [] w w' ∧ match q with
  | .ok t _ => ∃ a b c, e = .returned (.agg #[a, b, c]) ∧ a.oneCell' = true ∧ b.oneCell' = true ∧ c.oneCell' = true ∧ TV w' (fun g => w.heap.size ≤ g) true t [a, b, c]
  | .bad j => e = fault j
def P3 (w : World) (r : Nat) (a b c : Value) : Prop := w.heap[r]? = some (.cells #[a, b, c] 88 (0, 0))
theorem P3.lt {w : World} {r : Nat} {a b c : Value} (h : P3 w r a b c) : r < w.heap.size := (Array.getElem?_eq_some_iff.1 h).1
theorem P3.keep {w w' : World} {r : Nat} {a b c : Value} {S : List Nat} (h : P3 w r a b c) (hk : Keeps S w w') (hb : r ∉ S) : P3 w' r a b c := (hk.block r h.lt hb).trans h
theorem P3.main {w : World} {r : Nat} {a b c : Value} (h : P3 w r a b c) : w.cell? ⟨r, 0, none⟩ = some a ∧ w.cell? ⟨r, 1, none⟩ = some b ∧ w.cell? ⟨r, 2, none⟩ = some c := by
 unfold P3 at h
 simp [World.cell?, h]
set_option maxRecDepth 100000 in
set_option maxHeartbeats 2000000 in
theorem tparse_prog (s : ByteArray) (w : World) (hs : s.size ≤ 20000) :
    Calls Tryz.prog 78 #[.string s] w (TaPost s w) := by
 have hr0 : P3 (w.alloc (.cells #[.int .u8 0, .int .i64 0, .slice none 0 0] 88)) w.heap.size (.int .u8 0) (.int .i64 0) (.slice none 0 0) := heap_alloc_new w _
 have hk0 : Keeps [] w (w.alloc (.cells #[.int .u8 0, .int .i64 0, .slice none 0 0] 88)) := (Keeps.refl [] w).alloc _
 go_enter Tryz.func78, Tryz.ntmps78
 go_upto_region 1 with (fail)
 generalize w.alloc (.cells #[.int .u8 0, .int .i64 0, .slice none 0 0] 88) = W0 at *
 go_wp2_with fail
 refine (new_any s W0).mono ?_
 rintro e w1 ⟨rfl, hk1⟩
 have hr1 := hr0.keep hk1 (by simp)
 have hkA := hk0.trans hk1
 have hl0 := hr0.lt
 have hl1 := hr1.lt
 clear hr0 hk0 hk1
 go_wp2_with fail
 have hq1 : UB (w1.alloc (.cells #[.string s, .int .i64 0, .int .i64 0] 232)) w1.heap.size ⟨s, 0, 0⟩ := heap_alloc_new w1 _
 have hk2 : Keeps [] w1 (w1.alloc (.cells #[.string s, .int .i64 0, .int .i64 0] 232)) := (Keeps.refl [] w1).alloc _
 have hz2 : (w1.alloc (.cells #[.string s, .int .i64 0, .int .i64 0] 232)).heap.size = w1.heap.size + 1 := by simp
 have hR := thing_all s hs (s.size + 1) w1.heap.size ⟨s, 0, 0⟩ _ rfl hq1 (Nat.zero_le _) (by simp) (Nat.zero_le _)
 obtain ⟨b, hb⟩ : ∃ b, w1.heap.size = b := ⟨_, rfl⟩
 obtain ⟨i, hi⟩ : ∃ i, w.heap.size = i := ⟨_, rfl⟩
 rw [hb] at hR hz2 hl1 hq1 ⊢
 rw [hi] at hr1 hl0 hl1 ⊢
 have hr2 := hr1.keep hk2 (by simp)
 have hkB := hkA.trans hk2
 generalize w1.alloc (.cells #[.string s, .int .i64 0, .int .i64 0] 232) = w2 at *
 refine hR.mono ?_
 rintro e w3 ⟨q, hTG, hU⟩
 have HTG : Hid (TG s .thing 0 0 q) := hTG
 have hbd := hTG.bd (Nat.zero_le _)
 clear hR hTG hr1 hkA hk2
 cases q with
 | bad j =>
  obtain ⟨rfl, hk3⟩ := hU
  simp only [fault]
  exact ⟨rfl, _, ⟨_, HTG.out, rfl⟩, hkB.fresh hk3 (by intro x hx; simp at hx; omega), rfl⟩
 | ok t j =>
  obtain ⟨cs, rfl, htv, hq3, hk3⟩ := hU
  obtain ⟨k1, n1, ta, tn, tc, rfl⟩ := htv.form
  have hjle : j ≤ s.size := hbd.2.1
  have hr3 := hr2.keep hk3 (by simp; omega)
  have hkC := hkB.fresh hk3 (by intro x hx; simp at hx; omega)
  have hs3 := hk3.size
  have h30 : (w3.alloc (.cells #[.int .u8 0, .int .i64 0, .slice none 0 0] 88)).heap[w3.heap.size]? = some (.cells #[.int .u8 0, .int .i64 0, .slice none 0 0] 88 (0, 0)) := heap_alloc_new w3 _
  have hk4 : Keeps [] w3 ((w3.alloc (.cells #[.int .u8 0, .int .i64 0, .slice none 0 0] 88)).setRow w3.heap.size #[.int .u8 k1, .int .i64 n1, .slice ta tn tc]) := ((Keeps.refl [] w3).alloc _).setRow (Or.inr (Nat.le_refl _)) _
  have h31 : P3 ((w3.alloc (.cells #[.int .u8 0, .int .i64 0, .slice none 0 0] 88)).setRow w3.heap.size #[.int .u8 k1, .int .i64 n1, .slice ta tn tc]) w3.heap.size (.int .u8 k1) (.int .i64 n1) (.slice ta tn tc) := setRow_heap _ _ _ _ _ _ h30
  clear hbd
  go_upto_region 3 with (first | (refine wpList_store_row rfl 88 _ _ rfl w3.heap.size #[.int .u8 k1, .int .i64 n1, .slice ta tn tc] rfl rfl _ _ h30 (info3 _ _ _) rfl (all3 rfl rfl rfl) ?_))
  obtain ⟨g3, hg3⟩ : ∃ g3, w3.heap.size = g3 := ⟨_, rfl⟩
  rw [hg3] at h31 hk4 h30 ⊢
  have hq4 := hq3.keep hk4 (by simp)
  have htv4 := (htv.mono (S' := fun g => w2.heap.size ≤ g ∧ g < g3) (fun g h1 h2 => ⟨by omega, by omega⟩)).keep hk4 (by simp)
  have hkD := hkC.trans hk4
  have hr4 := hr3.keep hk4 (by simp)
  generalize (w3.alloc (.cells #[.int .u8 0, .int .i64 0, .slice none 0 0] 88)).setRow g3 #[.int .u8 k1, .int .i64 n1, .slice ta tn tc] = w4 at *
  clear h30 hk4 htv hq3 hkC hr3
  by_cases hje : j < s.size
  ·have hE := uend_bad b ⟨s, j, 0⟩ w4 hq4 hje hs
   have HR : Hid (TreeR s (.bad j)) := ⟨_, HTG.out, by simp only [wholeR, if_pos hje]⟩
   clear hje
   go_wp2_with (first | (go_at_call 118; refine hE.mono ?_; rintro e w5 ⟨rfl, hk5⟩; simp only [fault]))
   exact ⟨rfl, _, HR.out, hkD.trans hk5, rfl⟩
  ·have hje' : j = s.size := by omega
   have hE := uend_ok b ⟨s, j, 0⟩ w4 hq4 hje'
   have HR : Hid (TreeR s (.ok t j)) := ⟨_, HTG.out, by simp only [wholeR, if_neg hje]⟩
   clear hje hje'
   go_upto_region 4 with (first | (go_at_call 118; refine hE.mono ?_; rintro e w5 ⟨rfl, hq5, hk5⟩))
   have h35 := h31.keep hk5 (by simp)
   have hr5 := hr4.keep hk5 (by simp)
   have htv5 := htv4.keep hk5 (by simp)
   have hkE := hkD.trans hk5
   go_wp2_with (first
     | (refine wpList_load_row rfl 88 _ rfl g3 rfl _ _ _ _ h35 Tryz.underlying88 rfl (info3 _ _ _) ?_)
     | (refine wpList_store_row rfl 88 _ _ rfl i #[.int .u8 k1, .int .i64 n1, .slice ta tn tc] rfl rfl _ _ hr5 (info3 _ _ _) rfl (all3 rfl rfl rfl) ?_))
   refine bodyPost_ret (results_cell_row rfl _ _ i _ _ _ _ rfl (setRow_heap _ _ _ _ _ _ hr5) Tryz.underlying88 rfl (info3 _ _ _)) rfl ?_
   have hkR := (Keeps.refl [i] w5).setRow (g := i) (by simp) #[.int .u8 k1, .int .i64 n1, .slice ta tn tc]
   exact ⟨_, HR.out, hkE.setRow (Or.inr (by omega)) _, _, _, _, rfl, rfl, rfl, rfl, (htv5.keep hkR (by intro y hy; simp; omega)).mono (by intro y hy _; omega)⟩
end Go.Proofs.YtnfojonmohijpaaGreatDoor
namespace Go.Proofs.YtnfojonmohijpaaGreatDoor
open Go.RowKit
set_option maxRecDepth 100000 in
set_option maxHeartbeats 400000 in
theorem utcatch_idle (x y z : Value) (w : World) :
    CallsD Tryz.prog 131 #[x, y, z] .returning w fun e u' w' => e = .returned (.tuple #[]) ∧ u' = .returning ∧ w' = w := by
 refine callsD_of_wpS Tryz.func131 rfl fun c₀ cs hu => ?_
 apply wpS_seq
 apply wpS_region
 simp [wpOpsS, go_sem, recoverD, hu, Tryz.ntmps131, Exit.thenS]
 refine wpS_of_wp ?_
 have et : (#[x, y, z] ++ (Array.replicate 12 undef).setIfInBounds 3 Value.nilIface) = #[x, y, z, undef, undef, undef, .nilIface, undef, undef, undef, undef, undef, undef, undef, undef] := rfl
 rw [et]
 go_wp2_with fail
 cases c₀
 simp_all [bodyPostS, results, Tryz.results131]
set_option maxRecDepth 100000 in
set_option maxHeartbeats 400000 in
theorem tcatch_fault (j : Nat) (e0 : Int) (ib jb eb : Addr) (a b : Value) (w : World) (h1 : w.cell? ib = some (.int .i64 e0)) (h2 : w.cell? jb = some a) (h3 : w.cell? eb = some b) (f2 : w.frozen? jb = false) (f3 : w.frozen? eb = false) (hne : jb ≠ eb) :
    CallsD Tryz.prog 131 #[.pointer (some ib), .pointer (some jb), .pointer (some eb)] (.panicking [{ v := .iface 196 (.agg #[.int .i64 (j : Int)]), recovered := false }]) w fun e u' w' =>
     e = .returned (.tuple #[]) ∧ u' = .panicking [{ v := .iface 196 (.agg #[.int .i64 (j : Int)]), recovered := true }] ∧ w' = ((w.alloc (.cells #[.int .i64 (j : Int)] 196)).setCell jb (.int .i64 (j : Int))).setCell eb (.int .i64 e0) := by
 refine callsD_of_wpS Tryz.func131 rfl fun c₀ cs hu => ?_
 apply wpS_seq
 apply wpS_region
 simp [wpOpsS, go_sem, recoverD, hu, Tryz.ntmps131, Exit.thenS]
 refine wpS_of_wp ?_
 have et : (#[.pointer (some ib), .pointer (some jb), .pointer (some eb)] ++ (Array.replicate 12 undef).setIfInBounds 3 (.iface 196 (.agg #[.int .i64 (j : Int)]))) = #[.pointer (some ib), .pointer (some jb), .pointer (some eb), undef, undef, undef, .iface 196 (.agg #[.int .i64 (j : Int)]), undef, undef, undef, undef, undef, undef, undef, undef] := rfl
 rw [et]
 have hta := fun w => assert_fault (j : Int) w
 have hka : Keeps [] w (w.alloc (.cells #[.int .i64 (j : Int)] 196)) := (Keeps.refl [] w).alloc _
 have l2 := World.block_lt_of_cell? w _ h2
 have l3 := World.block_lt_of_cell? w _ h3
 have g1 := keep_cell hka h1
 have g2 := keep_cell hka h2
 have g3 := keep_cell hka h3
 have k2 : (w.alloc (.cells #[.int .i64 (j : Int)] 196)).frozen? jb = false := (World.frozen?_alloc_old w _ jb (Nat.ne_of_lt l2)).trans f2
 have k3 : (w.alloc (.cells #[.int .i64 (j : Int)] 196)).frozen? eb = false := (World.frozen?_alloc_old w _ eb (Nat.ne_of_lt l3)).trans f3
 have n3 : ((w.alloc (.cells #[.int .i64 (j : Int)] 196)).setCell jb (.int .i64 (j : Int))).cell? eb = some b := (World.cell?_setCell_other _ _ _ _ hne).trans g3
 have m3 : ((w.alloc (.cells #[.int .i64 (j : Int)] 196)).setCell jb (.int .i64 (j : Int))).frozen? eb = false := by rw [World.frozen?_setCell]; exact k3
 clear et hka l2 l3 h1 h2 h3 f2 f3 hne
 go_wp2_with fail
 cases c₀
 simp_all [bodyPostS, results, Tryz.results131]
theorem tcf_parse (args : Array Value) (w : World) : (callFunc 78 args).run Tryz.prog w = .ok (.enter 78 args) w := by kernel_rfl
def z3t : Array Value := #[.int .u8 0, .int .i64 0, .slice none 0 0]
def tRdPost (s : ByteArray) (w : World) (e : Ending) (w' : World) : Prop :=
 Keeps [] w w' ∧ ((20000 < s.size ∧ e = .returned (.tuple #[.agg z3t, .int .i64 0, .int .i64 1])) ∨ (s.size ≤ 20000 ∧ ∃ q, TreeR s q ∧ match q with
   | .ok t _ => ∃ a b c, e = .returned (.tuple #[.agg #[a, b, c], .int .i64 0, .int .i64 0]) ∧ a.oneCell' = true ∧ b.oneCell' = true ∧ c.oneCell' = true ∧ TV w' (fun g => w.heap.size ≤ g) true t [a, b, c]
   | .bad j => e = .returned (.tuple #[.agg z3t, .int .i64 j, .int .i64 3])))
theorem tresults_read (tmps : Array Value) (w : World) (g : Nat) (a b c : Value) (x y : Int) (h8 : tmps.getD 8 undef = .pointer (some ⟨g + 1, 0, none⟩)) (h9 : tmps.getD 9 undef = .pointer (some ⟨g + 1 + 1, 0, none⟩)) (h10 : tmps.getD 10 undef = .pointer (some ⟨g + 1 + 1 + 1, 0, none⟩))
    (hp : P3 w (g + 1) a b c) (hx : w.cell? ⟨g + 1 + 1, 0, none⟩ = some (.int .i64 x)) (hy : w.cell? ⟨g + 1 + 1 + 1, 0, none⟩ = some (.int .i64 y)) :
    (results Tryz.f77 tmps).run Tryz.prog w = .ok (.tuple #[.agg #[a, b, c], .int .i64 x, .int .i64 y]) w := by
 have h : Tryz.f77.results = #[.cell 8 88, .cell 9 3, .cell 10 22] := rfl
 have e8 : tmps[8]?.getD undef = .pointer (some ⟨g + 1, 0, none⟩) := by simpa using h8
 have e9 : tmps[9]?.getD undef = .pointer (some ⟨g + 1 + 1, 0, none⟩) := by simpa using h9
 have e10 : tmps[10]?.getD undef = .pointer (some ⟨g + 1 + 1 + 1, 0, none⟩) := by simpa using h10
 have l1 := run_loadVar_row (P := Tryz.prog) w (g + 1) 88 88 #[a, b, c] (0, 0) _ hp Tryz.underlying88 rfl (info3 _ _ _)
 have l2 := loadInt 3 (Or.inl rfl) _ x w hx
 have l3 := loadInt 22 (Or.inr rfl) _ y w hy
 simp [results, h, e8, e9, e10, asAddr, l1, l2, l3]
theorem tread_boxes (e : Int) (w : World) : ∃ W, ((((w.alloc (.cells #[.int .i64 3] 22)).alloc (.cells #[.int .u8 0, .int .i64 0, .slice none 0 0] 88)).alloc (.cells #[.int .i64 0] 3)).alloc (.cells #[.int .i64 e] 22)) = W ∧
    W.cell? ⟨w.heap.size, 0, none⟩ = some (.int .i64 3) ∧ P3 W (w.heap.size + 1) (.int .u8 0) (.int .i64 0) (.slice none 0 0) ∧ W.cell? ⟨w.heap.size + 1 + 1, 0, none⟩ = some (.int .i64 0) ∧ W.cell? ⟨w.heap.size + 1 + 1 + 1, 0, none⟩ = some (.int .i64 e) ∧
    W.frozen? ⟨w.heap.size + 1 + 1, 0, none⟩ = false ∧ W.frozen? ⟨w.heap.size + 1 + 1 + 1, 0, none⟩ = false ∧ Keeps [] w W ∧ W.heap.size = w.heap.size + 4 := by
 have k1 : Keeps [] w (w.alloc (.cells #[.int .i64 3] 22)) := (Keeps.refl [] w).alloc _
 have c1 : (w.alloc (.cells #[.int .i64 3] 22)).cell? ⟨w.heap.size, 0, none⟩ = some (.int .i64 3) := by simp
 have z1 : (w.alloc (.cells #[.int .i64 3] 22)).heap.size = w.heap.size + 1 := by simp
 generalize w.alloc (.cells #[.int .i64 3] 22) = w1 at *
 have k2 : Keeps [] w1 (w1.alloc (.cells #[.int .u8 0, .int .i64 0, .slice none 0 0] 88)) := (Keeps.refl [] w1).alloc _
 have c2 : P3 (w1.alloc (.cells #[.int .u8 0, .int .i64 0, .slice none 0 0] 88)) w1.heap.size (.int .u8 0) (.int .i64 0) (.slice none 0 0) := heap_alloc_new w1 _
 have z2 : (w1.alloc (.cells #[.int .u8 0, .int .i64 0, .slice none 0 0] 88)).heap.size = w1.heap.size + 1 := by simp
 have c1 := keep_cell k2 c1
 generalize w1.alloc (.cells #[.int .u8 0, .int .i64 0, .slice none 0 0] 88) = w2 at *
 have k3 : Keeps [] w2 (w2.alloc (.cells #[.int .i64 0] 3)) := (Keeps.refl [] w2).alloc _
 have c3 : (w2.alloc (.cells #[.int .i64 0] 3)).cell? ⟨w2.heap.size, 0, none⟩ = some (.int .i64 0) := by simp
 have f3 : (w2.alloc (.cells #[.int .i64 0] 3)).frozen? ⟨w2.heap.size, 0, none⟩ = false := by simp
 have z3 : (w2.alloc (.cells #[.int .i64 0] 3)).heap.size = w2.heap.size + 1 := by simp
 have c1 := keep_cell k3 c1
 have c2 := c2.keep k3 (by simp)
 generalize w2.alloc (.cells #[.int .i64 0] 3) = w3 at *
 have k4 : Keeps [] w3 (w3.alloc (.cells #[.int .i64 e] 22)) := (Keeps.refl [] w3).alloc _
 have c4 : (w3.alloc (.cells #[.int .i64 e] 22)).cell? ⟨w3.heap.size, 0, none⟩ = some (.int .i64 e) := by simp
 have f4 : (w3.alloc (.cells #[.int .i64 e] 22)).frozen? ⟨w3.heap.size, 0, none⟩ = false := by simp
 have z3t : (w3.alloc (.cells #[.int .i64 e] 22)).heap.size = w3.heap.size + 1 := by simp
 have c1 := keep_cell k4 c1
 have c2 := c2.keep k4 (by simp)
 have f3' : (w3.alloc (.cells #[.int .i64 e] 22)).frozen? ⟨w2.heap.size, 0, none⟩ = false := (World.frozen?_alloc_old w3 _ ⟨w2.heap.size, 0, none⟩ (by simp; omega)).trans f3
 have c3 := keep_cell k4 c3
 generalize w3.alloc (.cells #[.int .i64 e] 22) = w4 at *
 rw [z3, z2, z1] at c4 f4
 rw [z2, z1] at c3 f3'
 rw [z1] at c2
 exact ⟨w4, rfl, c1, c2, c3, c4, f3', f4, ((k1.trans k2).trans k3).trans k4, by omega⟩
set_option maxRecDepth 100000 in
set_option maxHeartbeats 1000000 in
theorem tread_long2 (s : ByteArray) (w : World) (hs : 20000 < s.size) :
    Calls Tryz.prog 77 #[.string s, .int .i64 20000, .func (.func 78) #[] #[], .int .i64 3] w (tRdPost s w) := by
 have hmf : ∀ (fn : Fn) (first cap : Array Value) (w : World), (Instr.makeFunc fn first cap).run Tryz.prog w = .ok (.func fn first cap) w := fun _ _ _ _ => rfl
 have hs' : (20000 : Int) < (s.size : Int) := by omega
 obtain ⟨W, hW, b0, b1, b2, b3, g2, g3, hk, hz⟩ := tread_boxes 1 w
 go_enter_defers Tryz.func77, Tryz.ntmps77
 go_wp2_with fail
 try rw [hW]
 exact ⟨_, tresults_read _ _ w.heap.size _ _ _ 0 1 rfl rfl rfl b1 b2 b3, hk, Or.inl ⟨hs, rfl⟩⟩
set_option maxRecDepth 100000 in
set_option maxHeartbeats 1000000 in
theorem tread_prog (s : ByteArray) (w : World) (hs : s.size ≤ 20000) :
    Calls Tryz.prog 77 #[.string s, .int .i64 20000, .func (.func 78) #[] #[], .int .i64 3] w (tRdPost s w) := by
 have hmf : ∀ (fn : Fn) (first cap : Array Value) (w : World), (Instr.makeFunc fn first cap).run Tryz.prog w = .ok (.func fn first cap) w := fun _ _ _ _ => rfl
 have hs' : ¬ (20000 : Int) < (s.size : Int) := by omega
 have cfp := tcf_parse
 obtain ⟨W, hW, b0, b1, b2, b3, g2, g3, hk, hz⟩ := tread_boxes 0 w
 go_enter_defers Tryz.func77, Tryz.ntmps77
 go_wp2_with fail
 try rw [hW]
 clear hW
 refine (tparse_prog s W hs).mono ?_
 rintro e w5 ⟨q, hP, hk5, hc5⟩
 have hkA := hk.trans hk5
 have a0 := keep_cell hk5 b0
 have a1 := b1.keep hk5 (by simp)
 have a2 := keep_cell hk5 b2
 have a3 := keep_cell hk5 b3
 have h2 : w5.frozen? ⟨w.heap.size + 1 + 1, 0, none⟩ = false := (World.frozen?_of_block (hk5.block _ (World.block_lt_of_cell? W _ b2) (by simp))).trans g2
 have h3 : w5.frozen? ⟨w.heap.size + 1 + 1 + 1, 0, none⟩ = false := (World.frozen?_of_block (hk5.block _ (World.block_lt_of_cell? W _ b3) (by simp))).trans g3
 clear b0 b1 b2 b3 g2 g3
 obtain ⟨g, hg⟩ : ∃ g, w.heap.size = g := ⟨_, rfl⟩
 rw [hg] at a0 a1 a2 a3 h2 h3 ⊢
 have z5 := hk5.size
 cases q with
 | bad j =>
  subst hc5
  simp only [fault]
  refine leaves_cons (f := 131) (args := #[.pointer (some ⟨g, 0, none⟩), .pointer (some ⟨g + 1 + 1, 0, none⟩), .pointer (some ⟨g + 1 + 1 + 1, 0, none⟩)]) (by simp) (by simp [go_sem]) ?_
  refine (tcatch_fault j 3 _ _ _ _ _ _ a0 a2 a3 h2 h3 (by simp)).mono ?_
  rintro e u' w6 ⟨rfl, rfl, rfl⟩
  have kf : Keeps [] w5 (w5.alloc (.cells #[.int .i64 (j : Int)] 196)) := (Keeps.refl [] w5).alloc _
  have y1 := keep_cell kf a2
  have y2 := keep_cell kf a3
  have y3 := a1.keep kf (by simp)
  have hkB := hkA.trans kf
  generalize w5.alloc (.cells #[.int .i64 (j : Int)] 196) = w7 at *
  have hkC : Keeps [g + 1 + 1, g + 1 + 1 + 1] w7 ((w7.setCell ⟨g + 1 + 1, 0, none⟩ (.int .i64 (j : Int))).setCell ⟨g + 1 + 1 + 1, 0, none⟩ (.int .i64 3)) := ((Keeps.refl _ w7).setCell (by simp) _).setCell (by simp) _
  have r3 := y3.keep hkC (by simp)
  have r1 : ((w7.setCell ⟨g + 1 + 1, 0, none⟩ (.int .i64 (j : Int))).setCell ⟨g + 1 + 1 + 1, 0, none⟩ (.int .i64 3)).cell? ⟨g + 1 + 1, 0, none⟩ = some (.int .i64 (j : Int)) := by
   rw [World.cell?_setCell_other _ _ _ _ (by simp)]
   exact World.cell?_setCell_same _ _ _ y1
  have r2 : ((w7.setCell ⟨g + 1 + 1, 0, none⟩ (.int .i64 (j : Int))).setCell ⟨g + 1 + 1 + 1, 0, none⟩ (.int .i64 3)).cell? ⟨g + 1 + 1 + 1, 0, none⟩ = some (.int .i64 3) := by
   refine World.cell?_setCell_same _ _ _ (u := .int .i64 0) ?_
   rw [World.cell?_setCell_other _ _ _ _ (by simp)]
   exact y2
  exact ⟨_, tresults_read _ _ g _ _ _ j 3 rfl rfl rfl r3 r1 r2, hkB.fresh hkC (by intro x hx; simp at hx; omega), Or.inr ⟨hs, _, hP, rfl⟩⟩
 | ok Wh j =>
  obtain ⟨a, b, c, rfl, oa, ob, oc, hrep⟩ := hc5
  have o4 : (#[a, b, c] : Array Value).all (·.oneCell') = true := all3 oa ob oc
  have hkR := (Keeps.refl [g + 1] w5).setRow (g := g + 1) (by simp) #[a, b, c]
  have hbl : ∀ k, k < w5.heap.size → k ≠ g + 1 → (w5.setRow (g + 1) #[a, b, c]).heap[k]? = w5.heap[k]? := fun k hk hn => hkR.block k hk (by simpa using hn)
  have s1 : P3 (w5.setRow (g + 1) #[a, b, c]) (g + 1) a b c := setRow_heap _ _ _ _ _ _ a1
  have s2 : (w5.setRow (g + 1) #[a, b, c]).cell? ⟨g + 1 + 1, 0, none⟩ = some (.int .i64 0) := (World.cell?_of_block (hbl _ (World.block_lt_of_cell? w5 _ a2) (by simp))).trans a2
  have s3 : (w5.setRow (g + 1) #[a, b, c]).cell? ⟨g + 1 + 1 + 1, 0, none⟩ = some (.int .i64 0) := (World.cell?_of_block (hbl _ (World.block_lt_of_cell? w5 _ a3) (by simp; omega))).trans a3
  have t2 : (w5.setRow (g + 1) #[a, b, c]).frozen? ⟨g + 1 + 1, 0, none⟩ = false := (World.frozen?_of_block (hbl _ (World.block_lt_of_cell? w5 _ a2) (by simp))).trans h2
  have t3 : (w5.setRow (g + 1) #[a, b, c]).frozen? ⟨g + 1 + 1 + 1, 0, none⟩ = false := (World.frozen?_of_block (hbl _ (World.block_lt_of_cell? w5 _ a3) (by simp; omega))).trans h3
  have hrep6 := hrep.keep hkR (by intro y hy; simp; omega)
  have hkB : Keeps [] w (w5.setRow (g + 1) #[a, b, c]) := hkA.fresh hkR (by intro x hx; simp at hx; omega)
  clear hbl
  go_wp2_with (first | (refine wpList_store_row rfl 88 _ _ rfl (g + 1) _ rfl rfl _ _ a1 (info3 _ _ _) rfl o4 ?_; generalize w5.setRow (g + 1) #[a, b, c] = w6 at *))
  refine leaves_cons (f := 131) (args := #[.pointer (some ⟨g, 0, none⟩), .pointer (some ⟨g + 1 + 1, 0, none⟩), .pointer (some ⟨g + 1 + 1 + 1, 0, none⟩)]) (by simp) (by simp [go_sem]) ?_
  refine (utcatch_idle _ _ _ _).mono ?_
  rintro e u' w7 ⟨rfl, rfl, rfl⟩
  have hkC : Keeps [g + 1 + 1, g + 1 + 1 + 1] w6 ((w6.setCell ⟨g + 1 + 1, 0, none⟩ (.int .i64 0)).setCell ⟨g + 1 + 1 + 1, 0, none⟩ (.int .i64 0)) := ((Keeps.refl _ w6).setCell (by simp) _).setCell (by simp) _
  have r3 := s1.keep hkC (by simp)
  have r1 : ((w6.setCell ⟨g + 1 + 1, 0, none⟩ (.int .i64 0)).setCell ⟨g + 1 + 1 + 1, 0, none⟩ (.int .i64 0)).cell? ⟨g + 1 + 1, 0, none⟩ = some (.int .i64 0) := by
   rw [World.cell?_setCell_other _ _ _ _ (by simp)]
   exact World.cell?_setCell_same _ _ _ s2
  have r2 : ((w6.setCell ⟨g + 1 + 1, 0, none⟩ (.int .i64 0)).setCell ⟨g + 1 + 1 + 1, 0, none⟩ (.int .i64 0)).cell? ⟨g + 1 + 1 + 1, 0, none⟩ = some (.int .i64 0) := by
   refine World.cell?_setCell_same _ _ _ (u := .int .i64 0) ?_
   rw [World.cell?_setCell_other _ _ _ _ (by simp)]
   exact s3
  exact ⟨_, tresults_read _ _ g _ _ _ 0 0 rfl rfl rfl r3 r1 r2, hkB.fresh hkC (by intro x hx; simp at hx; omega), Or.inr ⟨hs, _, hP, a, b, c, rfl, oa, ob, oc, (hrep6.keep hkC (by intro y hy; simp; omega)).mono (by intro y hy _; omega)⟩⟩
theorem tread_whole (s : ByteArray) (w : World) :
    Calls Tryz.prog 77 #[.string s, .int .i64 20000, .func (.func 78) #[] #[], .int .i64 3] w (tRdPost s w) := by
 by_cases hs : s.size ≤ 20000
 ·exact tread_prog s w hs
 ·exact tread_long2 s w (by omega)
theorem tresults_rp (tmps : Array Value) (w : World) (g : Nat) (a b c v3 v4 : Value) (h2 : tmps.getD 2 undef = .pointer (some ⟨g, 0, none⟩)) (h3 : tmps.getD 3 undef = v3) (h4 : tmps.getD 4 undef = v4) (hp : P3 w g a b c) :
    (results Tryz.f43 tmps).run Tryz.prog w = .ok (.tuple #[.agg #[a, b, c], v3, v4]) w := by
 have h : Tryz.f43.results = #[.cell 2 88, .tmp 3, .tmp 4] := rfl
 have e2 : tmps[2]?.getD undef = .pointer (some ⟨g, 0, none⟩) := by simpa using h2
 have e3 : tmps[3]?.getD undef = v3 := by simpa using h3
 have e4 : tmps[4]?.getD undef = v4 := by simpa using h4
 have l1 := run_loadVar_row (P := Tryz.prog) w g 88 88 #[a, b, c] (0, 0) _ hp Tryz.underlying88 rfl (info3 _ _ _)
 simp [results, h, e2, e3, e4, asAddr, l1]
set_option maxRecDepth 100000 in
set_option maxHeartbeats 1000000 in
theorem readTree_prog (s : ByteArray) (w : World) :
    Calls Tryz.prog 43 #[.string s] w (tRdPost s w) := by
 have hr0 : P3 (w.alloc (.cells #[.int .u8 0, .int .i64 0, .slice none 0 0] 88)) w.heap.size (.int .u8 0) (.int .i64 0) (.slice none 0 0) := heap_alloc_new w _
 have hk0 : Keeps [] w (w.alloc (.cells #[.int .u8 0, .int .i64 0, .slice none 0 0] 88)) := (Keeps.refl [] w).alloc _
 go_enter Tryz.func43, Tryz.ntmps43
 go_wp2_with fail
 refine (tread_whole s _).mono ?_
 generalize w.alloc (.cells #[.int .u8 0, .int .i64 0, .slice none 0 0] 88) = W0 at *
 rintro e w1 ⟨hk1, hc1⟩
 have hr1 := hr0.keep hk1 (by simp)
 have hl0 := hr0.lt
 have hkA := hk0.trans hk1
 have hS : ∃ a b c x y, e = .returned (.tuple #[.agg #[a, b, c], .int .i64 x, .int .i64 y]) ∧ a.oneCell' = true ∧ b.oneCell' = true ∧ c.oneCell' = true := by
  rcases hc1 with ⟨_, h⟩ | ⟨_, q, _, h⟩
  ·exact ⟨_, _, _, _, _, h, rfl, rfl, rfl⟩
  ·cases q with
   | bad j => exact ⟨_, _, _, _, _, h, rfl, rfl, rfl⟩
   | ok t j => obtain ⟨a, b, c, h, ha, hb, hc, _⟩ := h; exact ⟨_, _, _, _, _, h, ha, hb, hc⟩
 obtain ⟨a, b, c, x, y, rfl, ha, hb, hc⟩ := hS
 have HC : Hid ((20000 < s.size ∧ Ending.returned (.tuple #[.agg #[a, b, c], .int .i64 x, .int .i64 y]) = .returned (.tuple #[.agg z3t, .int .i64 0, .int .i64 1])) ∨ (s.size ≤ 20000 ∧ ∃ q, TreeR s q ∧ match q with
   | .ok t _ => ∃ a' b' c', Ending.returned (.tuple #[.agg #[a, b, c], .int .i64 x, .int .i64 y]) = .returned (.tuple #[.agg #[a', b', c'], .int .i64 0, .int .i64 0]) ∧ a'.oneCell' = true ∧ b'.oneCell' = true ∧ c'.oneCell' = true ∧ TV w1 (fun g => W0.heap.size ≤ g) true t [a', b', c']
   | .bad j => Ending.returned (.tuple #[.agg #[a, b, c], .int .i64 x, .int .i64 y]) = .returned (.tuple #[.agg z3t, .int .i64 j, .int .i64 3]))) := hc1
 have o4 := all3 ha hb hc
 clear hc1
 go_wp2_with (first | (refine wpList_store_row rfl 88 _ _ rfl w.heap.size _ rfl rfl _ _ hr1 (info3 _ _ _) rfl o4 ?_))
 have hkR := (Keeps.refl [w.heap.size] w1).setRow (g := w.heap.size) (by simp) #[a, b, c]
 refine bodyPost_ret (tresults_rp _ _ w.heap.size _ _ _ _ _ rfl rfl rfl (setRow_heap _ _ _ _ _ _ hr1)) rfl ?_
 refine ⟨hkA.fresh hkR (by intro x hx; simp at hx; omega), ?_⟩
 rcases HC.out with h | ⟨hs, q, hq, h⟩
 ·exact Or.inl h
 ·refine Or.inr ⟨hs, q, hq, ?_⟩
  cases q with
  | bad j => exact h
  | ok t j =>
   obtain ⟨a', b', c', h1, h2, h3, h4, h5⟩ := h
   exact ⟨a', b', c', h1, h2, h3, h4, (h5.keep hkR (by intro y hy; simp; omega)).mono (by intro y hy _; omega)⟩
end Go.Proofs.YtnfojonmohijpaaGreatDoor
namespace Go.Proofs.YtnfojonmohijpaaGreatDoor
open Go.RowKit
def tl : Tr → List Tr
 | .lcons x r => x :: tl r
 | _ => []
def Tr.sz : Tr → Nat
 | .tnil => 1
 | .tbyte _ => 1
 | .tgrp _ x => 3 + x.sz
 | .talt _ x => 3 + x.sz
 | .tser l => 1 + l.sz
 | .trep l => 1 + l.sz
 | .lnil => 1
 | .lcons x r => 1 + x.sz + r.sz
def Tr.thin : Tr → Prop
 | .tnil => True
 | .tbyte _ => True
 | .tgrp _ x => x.thin
 | .talt p x => p < 100 ∧ x.thin
 | .tser l => l.thin
 | .trep l => l.thin
 | .lnil => True
 | .lcons x r => x.thin ∧ r.thin
theorem Tr.sz_pos (t : Tr) : 0 < t.sz := by cases t <;> simp [Tr.sz] <;> omega
def txts (l : List Tr) : List UInt8 := l.flatMap fun t => [32] ++ t.text
theorem txts_take (l : List Tr) (i : Nat) (t : Tr) (h : l[i]? = some t) : txts (l.take (i + 1)) = txts (l.take i) ++ ([32] ++ t.text) := by
 rw [List.take_add_one, h]
 simp [txts]
theorem TV.tl_at {w : World} {S : Nat → Prop} {t : Tr} {cs : List Value} (h : TV w S false t cs) : cs.length = (tl t).length * 3 ∧ t.text = txts (tl t) ∧ ∀ (i : Nat) (x : Tr), (tl t)[i]? = some x → ∃ ds, TV w S true x ds ∧ (∀ (j : Nat) (u : Value), ds[j]? = some u → cs[i * 3 + j]? = some u) ∧ x.sz < t.sz ∧ (t.thin → x.thin) := by
 generalize hk : false = b at h
 induction h with
 | lnil => exact ⟨rfl, rfl, by intro i x hx; simp [tl] at hx⟩
 | lcons x r cs ds h1 _ _ ih =>
  obtain ⟨l, e, c⟩ := ih rfl
  obtain ⟨k1, n1, va, vn, vc, hcs⟩ := h1.form
  have hl : cs.length = 3 := by rw [hcs]; rfl
  refine ⟨by simp [tl, l, hl]; omega, by simp [Tr.text, tl, txts, e], ?_⟩
  intro i y hy
  match i, hy with
  | 0, hy =>
   simp [tl] at hy
   subst hy
   refine ⟨cs, h1, ?_, by simp [Tr.sz]; omega, fun h => h.1⟩
   intro j u hu
   rw [Nat.zero_mul, Nat.zero_add, List.getElem?_append_left (List.getElem?_eq_some_iff.1 hu).1]
   exact hu
  | i + 1, hy =>
   obtain ⟨es, h2, h3, h4, h5⟩ := c i y (by simpa [tl] using hy)
   refine ⟨es, h2, ?_, by simp [Tr.sz]; omega, fun h => h5 h.2⟩
   intro j u hu
   have := h3 j u hu
   rw [List.getElem?_append_right (by omega), hl]
   have e : (i + 1) * 3 + j - 3 = i * 3 + j := by omega
   rw [e]
   exact this
 | _ => cases hk
end Go.Proofs.YtnfojonmohijpaaGreatDoor
