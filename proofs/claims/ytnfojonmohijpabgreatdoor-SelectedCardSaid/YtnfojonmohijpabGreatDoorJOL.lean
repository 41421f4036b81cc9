/-
  DERIVED. The program's Text and tell: a tree as text, or that it is too long. Conditions: no place of a way has more than two digits.
-/
import Derived.Test.YtnfojonmohijpabGreatDoorJYA
import Derived.Test.YtnfojonmohijpabGreatDoorJOI0
import Derived.Test.YtnfojonmohijpabGreatDoorJOF
import Derived.Test.YtnfojonmohijpabGreatDoorJNK
import Derived.Test.YtnfojonmohijpabGreatDoorJKB
set_option linter.unusedSimpArgs false
set_option linter.unusedVariables false
namespace Go.Proofs.YtnfojonmohijpabGreatDoor
open Go.RowKit
set_option maxRecDepth 100000 in
set_option maxHeartbeats 1000000 in
theorem text_any (t : Tr) (hthin : t.thin) (S : Nat → Prop) (cs : List Value) (w : World) (htv : TV w S true t cs) :
    Calls Tryz.prog 37 #[.agg cs.toArray] w fun e w' => ((t.text.length ≤ 20000 ∧ e = .returned (.string (nmB t.text))) ∨ (20000 < t.text.length ∧ e = tooLong)) ∧ Keeps [] w w' := by
 obtain ⟨k1, n1, va, vn, vc, rfl⟩ := htv.form
 have htv1 := htv.mono (S' := fun g => g < w.heap.size) fun g _ h => h
 have hk0 : Keeps [] w ((w.alloc (.cells #[.int .u8 k1, .int .i64 n1, .slice va vn vc] 75)).alloc (.cells #[.pointer none, .slice none 0 0] 154)) := ((Keeps.refl [] w).alloc _).alloc _
 have hz0 : ((w.alloc (.cells #[.int .u8 k1, .int .i64 n1, .slice va vn vc] 75)).alloc (.cells #[.pointer none, .slice none 0 0] 154)).heap[w.heap.size]? = some (.cells #[.int .u8 k1, .int .i64 n1, .slice va vn vc] 75 (0, 0)) := heap_alloc2_old w _ _
 have hb0 : BW ((w.alloc (.cells #[.int .u8 k1, .int .i64 n1, .slice va vn vc] 75)).alloc (.cells #[.pointer none, .slice none 0 0] 154)) w.heap.size (w.heap.size + 1) [] :=
  ⟨by omega, .pointer none, .slice none 0 0, Or.inl rfl, heap_alloc2_new w _ _, ⟨rfl, Or.inl ⟨rfl, rfl⟩⟩, by simp [Value.ownBlock], fun _ => rfl⟩
 have hs0 : ((w.alloc (.cells #[.int .u8 k1, .int .i64 n1, .slice va vn vc] 75)).alloc (.cells #[.pointer none, .slice none 0 0] 154)).heap.size = w.heap.size + 2 := by simp
 go_enter Tryz.func37, Tryz.ntmps37
 go_upto_region 2 with (fail)
 generalize (w.alloc (.cells #[.int .u8 k1, .int .i64 n1, .slice va vn vc] 75)).alloc (.cells #[.pointer none, .slice none 0 0] 154) = X at *
 have htX := htv1.keep hk0 (by simp)
 obtain ⟨B, hB⟩ : ∃ B, B = w.heap.size := ⟨_, rfl⟩
 obtain ⟨b, hb⟩ : ∃ b, b = w.heap.size + 1 := ⟨_, rfl⟩
 rw [← hb] at hb0 ⊢
 rw [← hB] at hb0 hz0 htX ⊢
 have hBX : B ≤ X.heap.size := by omega
 have hBw : B ≤ w.heap.size := by omega
 have hBw2 : w.heap.size ≤ B := by omega
 clear hB hb hs0
 go_wp2_with (first | (refine wpList_load_row rfl 75 _ rfl B rfl _ _ _ _ hz0 Tryz.underlying75 rfl (info3 _ _ _) ?_))
 refine ((writersT t.sz).1 t (Nat.le_refl _) hthin X _ B b [] _ htX (fun g h => h) hb0 hBX (by simp)).mono ?_
 rintro e w1 P1
 have hbel : Keeps [] w w1 := by
  have h1 := hk0
  have h2 := P1.frame.below
  exact ⟨h2.os.trans h1.os, h2.tape.trans h1.tape, h2.output.trans h1.output, Nat.le_trans h1.size h2.size, fun k hk _ => (h2.block k (by omega)).trans (h1.block k hk (by simp))⟩
 by_cases hf : t.text.length ≤ 20000
 ·obtain ⟨rfl, hb1⟩ := P1.fits (by simpa using hf)
  have HF : Hid (t.text.length ≤ 20000) := hf
  clear hf P1
  go_wp2_with fail
  refine (wstring_any B b _ w1 hb1).mono ?_
  rintro e w2 ⟨rfl, hbel2⟩
  have hend : Keeps [] w w2 := ⟨hbel2.os.trans hbel.os, hbel2.tape.trans hbel.tape, hbel2.output.trans hbel.output, Nat.le_trans hbel.size hbel2.size, fun k hk _ => (hbel2.block k (by omega)).trans (hbel.block k hk (by simp))⟩
  go_wp2_with fail
  go_ret
  exact ⟨Or.inl ⟨HF.out, by simp⟩, hend⟩
 ·obtain rfl := P1.long (by simp; omega)
  simp only [tooLong]
  exact ⟨rfl, Or.inr ⟨by omega, rfl⟩, hbel⟩
set_option maxRecDepth 100000 in
set_option maxHeartbeats 400000 in
theorem tcatch_idle (x : Value) (w : World) :
    CallsD Tryz.prog 36 #[x] .returning w fun e u' w' => e = .returned (.tuple #[]) ∧ u' = .returning ∧ w' = w := by
 refine callsD_of_wpS Tryz.func36 rfl fun c₀ cs hu => ?_
 apply wpS_seq
 apply wpS_region
 simp [wpOpsS, go_sem, recoverD, hu, Tryz.ntmps36, Exit.thenS]
 refine wpS_of_wp ?_
 have et : (#[x] ++ (Array.replicate 9 undef).setIfInBounds 3 Value.nilIface) = #[x, undef, undef, undef, .nilIface, undef, undef, undef, undef, undef] := rfl
 rw [et]
 go_wp2_with fail
 cases c₀
 simp_all [bodyPostS, results, Tryz.results36]
theorem assert_long (w : World) : (Instr.typeAssert (.iface 104 (.agg #[])) 20 104 true).run Tryz.prog w = .ok (.tuple #[.agg #[], .bool true]) w := by kernel_rfl
set_option maxRecDepth 100000 in
set_option maxHeartbeats 400000 in
theorem tcatch_long (eb : Addr) (b : Value) (w : World) (h3 : w.cell? eb = some b) (f3 : w.frozen? eb = false) :
    CallsD Tryz.prog 36 #[.pointer (some eb)] (.panicking [{ v := .iface 104 (.agg #[]), recovered := false }]) w fun e u' w' =>
     e = .returned (.tuple #[]) ∧ u' = .panicking [{ v := .iface 104 (.agg #[]), recovered := true }] ∧ w' = (w.alloc (.cells #[] 104)).setCell eb (.int .i64 1) := by
 refine callsD_of_wpS Tryz.func36 rfl fun c₀ cs hu => ?_
 apply wpS_seq
 apply wpS_region
 simp [wpOpsS, go_sem, recoverD, hu, Tryz.ntmps36, Exit.thenS]
 refine wpS_of_wp ?_
 have et : (#[.pointer (some eb)] ++ (Array.replicate 9 undef).setIfInBounds 3 (.iface 104 (.agg #[]))) = #[.pointer (some eb), undef, undef, undef, .iface 104 (.agg #[]), undef, undef, undef, undef, undef] := rfl
 rw [et]
 have hta := fun w => assert_long w
 have hka : Keeps [] w (w.alloc (.cells #[] 104)) := (Keeps.refl [] w).alloc _
 have l3 := World.block_lt_of_cell? w _ h3
 have g3 := keep_cell hka h3
 have k3 : (w.alloc (.cells #[] 104)).frozen? eb = false := (World.frozen?_alloc_old w _ eb (Nat.ne_of_lt l3)).trans f3
 clear et hka l3 h3 f3
 go_wp2_with fail
 cases c₀
 simp_all [bodyPostS, results, Tryz.results36]
theorem results_tell (tmps : Array Value) (w : World) (g : Nat) (v : Value) (y : Int) (h2 : tmps.getD 2 undef = v) (h3 : tmps.getD 3 undef = .pointer (some ⟨g + 1, 0, none⟩)) (hy : w.cell? ⟨g + 1, 0, none⟩ = some (.int .i64 y)) :
    (results Tryz.f22 tmps).run Tryz.prog w = .ok (.tuple #[v, .int .i64 y]) w := by
 have h : Tryz.f22.results = #[.tmp 2, .cell 3 31] := rfl
 have e2 : tmps[2]?.getD undef = v := by simpa using h2
 have e3 : tmps[3]?.getD undef = .pointer (some ⟨g + 1, 0, none⟩) := by simpa using h3
 have l3 := loadInt 31 (Or.inr rfl) _ y w hy
 simp [results, h, e2, e3, asAddr, l3]
def TellA (t : List UInt8) (e : Ending) : Prop := (t.length ≤ 20000 ∧ e = .returned (.tuple #[.string (nmB t), .int .i64 0])) ∨ (20000 < t.length ∧ e = .returned (.tuple #[.string (nmB []), .int .i64 1]))
set_option maxRecDepth 100000 in
set_option maxHeartbeats 1000000 in
theorem tell_any (t : Tr) (hthin : t.thin) (S : Nat → Prop) (cs : List Value) (w : World) (htv : TV w S true t cs) :
    Calls Tryz.prog 22 #[.agg cs.toArray] w fun e w' => TellA t.text e ∧ Keeps [] w w' := by
 have hmf : ∀ (fn : Fn) (first cap : Array Value) (w : World), (Instr.makeFunc fn first cap).run Tryz.prog w = .ok (.func fn first cap) w := fun _ _ _ _ => rfl
 obtain ⟨k1, n1, va, vn, vc, rfl⟩ := htv.form
 have hk0 : Keeps [] w ((w.alloc (.cells #[.int .u8 k1, .int .i64 n1, .slice va vn vc] 75)).alloc (.cells #[.int .i64 0] 31)) := ((Keeps.refl [] w).alloc _).alloc _
 have hz0 : ((w.alloc (.cells #[.int .u8 k1, .int .i64 n1, .slice va vn vc] 75)).alloc (.cells #[.int .i64 0] 31)).heap[w.heap.size]? = some (.cells #[.int .u8 k1, .int .i64 n1, .slice va vn vc] 75 (0, 0)) := heap_alloc2_old w _ _
 have hz1 : ((w.alloc (.cells #[.int .u8 k1, .int .i64 n1, .slice va vn vc] 75)).alloc (.cells #[.int .i64 0] 31)).heap[w.heap.size + 1]? = some (.cells #[.int .i64 0] 31 (0, 0)) := heap_alloc2_new w _ _
 go_enter_defers Tryz.func22, Tryz.ntmps22
 go_upto_region 2 with (fail)
 generalize (w.alloc (.cells #[.int .u8 k1, .int .i64 n1, .slice va vn vc] 75)).alloc (.cells #[.int .i64 0] 31) = X at *
 obtain ⟨g, hg⟩ : ∃ g, w.heap.size = g := ⟨_, rfl⟩
 have hgw : w.heap.size ≤ g := by omega
 rw [hg] at hz0 hz1 ⊢
 clear hg
 have htX := htv.keep hk0 (by simp)
 go_wp2_with (first | (refine wpList_load_row rfl 75 _ rfl g rfl _ _ _ _ hz0 Tryz.underlying75 rfl (info3 _ _ _) ?_))
 refine (text_any t hthin S _ X htX).mono ?_
 rintro e w1 ⟨hc, hk1⟩
 have hkA := hk0.trans hk1
 have hz11 := (hk1.block (g + 1) (Array.getElem?_eq_some_iff.1 hz1).1 (by simp)).trans hz1
 have c1 : w1.cell? ⟨g + 1, 0, none⟩ = some (.int .i64 0) := by rw [Lib.cell_of_heap hz11]; rfl
 have f1 : w1.frozen? ⟨g + 1, 0, none⟩ = false := by simp [World.frozen?, hz11]
 rcases hc with ⟨hl, rfl⟩ | ⟨hl, rfl⟩
 ·have hkC : Keeps [g + 1] w1 (w1.setCell ⟨g + 1, 0, none⟩ (.int .i64 0)) := (Keeps.refl _ w1).setCell (p := ⟨g + 1, 0, none⟩) (by simp) _
  have r1 : (w1.setCell ⟨g + 1, 0, none⟩ (.int .i64 0)).cell? ⟨g + 1, 0, none⟩ = some (.int .i64 0) := World.cell?_setCell_same _ _ _ c1
  go_wp2_with fail
  refine leaves_cons (f := 36) (args := #[.pointer (some ⟨g + 1, 0, none⟩)]) (by simp) (by simp [go_sem]) ?_
  refine (tcatch_idle _ _).mono ?_
  rintro e u' w7 ⟨rfl, rfl, rfl⟩
  exact ⟨_, results_tell _ _ g _ 0 rfl rfl r1, Or.inl ⟨hl, rfl⟩, keepsM hkA hkC (by intro x hx; simp at hx; omega)⟩
 ·simp only [tooLong]
  refine leaves_cons (f := 36) (args := #[.pointer (some ⟨g + 1, 0, none⟩)]) (by simp) (by simp [go_sem]) ?_
  refine (tcatch_long _ _ _ c1 f1).mono ?_
  rintro e u' w6 ⟨rfl, rfl, rfl⟩
  have kf : Keeps [] w1 (w1.alloc (.cells #[] 104)) := (Keeps.refl [] w1).alloc _
  have y1 := keep_cell kf c1
  have hkB := hkA.trans kf
  generalize w1.alloc (.cells #[] 104) = w7 at *
  have hkC : Keeps [g + 1] w7 (w7.setCell ⟨g + 1, 0, none⟩ (.int .i64 1)) := (Keeps.refl _ w7).setCell (p := ⟨g + 1, 0, none⟩) (by simp) _
  have r1 : (w7.setCell ⟨g + 1, 0, none⟩ (.int .i64 1)).cell? ⟨g + 1, 0, none⟩ = some (.int .i64 1) := World.cell?_setCell_same _ _ _ y1
  exact ⟨_, results_tell _ _ g _ 1 rfl rfl r1, Or.inr ⟨hl, rfl⟩, keepsM hkB hkC (by intro x hx; simp at hx; omega)⟩
end Go.Proofs.YtnfojonmohijpabGreatDoor
namespace Go.Proofs.YtnfojonmohijpabGreatDoor
open Go.RowKit
theorem infoMat7 (a b c d e f g : Value) : (Tryz.prog.info? 67).map (·.size) = some [a, b, c, d, e, f, g].length := by kernel_rfl
set_option maxRecDepth 100000 in
set_option maxHeartbeats 2000000 in
theorem ymatch_any (p s : ByteArray) (w : World) (hgn : GN w) :
    Calls Tryz.prog 10 #[.string p, .string s] w fun e w' => ∃ t b n, e = .returned (.tuple #[.string (nmB t), .bool b, .int .i64 n]) ∧ MatchA p s t b n ∧ Keeps [] w w' := by
 go_enter Tryz.func10, Tryz.ntmps10
 go_wp2_with fail
 refine (readPattern_prog p w hgn).mono ?_
 rintro e w1 ⟨hk1, hc1⟩
 have hz0 : P4 (w1.alloc (.cells #[.bool false, .bool false, .slice none 0 0, .int .i64 0] 58)) w1.heap.size (.bool false) (.bool false) (.slice none 0 0) (.int .i64 0) := heap_alloc_new w1 _
 have hk2 : Keeps [] w1 (w1.alloc (.cells #[.bool false, .bool false, .slice none 0 0, .int .i64 0] 58)) := (Keeps.refl [] w1).alloc _
 have hC : (∃ x y : Int, y ≠ 0 ∧ e = .returned (.tuple #[.agg #[.bool false, .bool false, .slice none 0 0, .int .i64 0], .int .i64 x, .int .i64 y]) ∧ MatchA p s [] false y) ∨
     ∃ W j v, p.size ≤ 60 ∧ PatR p (.ok W j) ∧ e = .returned (.tuple #[.agg #[.bool W.bg, .bool W.en, v, .int .i64 W.g], .int .i64 0, .int .i64 0]) ∧ v.oneCell' = true ∧ Rep w1 (fun g => w.heap.size ≤ g) .ways W.x [v] := by
  rcases hc1 with ⟨hl, he⟩ | ⟨hs, q, hq, h⟩
  ·exact Or.inl ⟨0, 1, by decide, he, Or.inl ⟨hl, rfl, rfl, rfl⟩⟩
  ·cases q with
   | bad j => exact Or.inl ⟨j, 2, by decide, h, Or.inr ⟨hs, .bad j, hq, rfl, rfl, rfl⟩⟩
   | ok W j =>
    obtain ⟨v, he, hv, hrep⟩ := h
    exact Or.inr ⟨W, j, v, hs, hq, he, hv, hrep⟩
 clear hc1
 rcases hC with ⟨x, y, hy0, rfl, hp⟩ | ⟨W, j, v, hs, hq, rfl, hv, hrep⟩
 ·have o4 := four_one (x := false) (y := false) (n := 0) (v := .slice none 0 0) rfl
  have hk3 : Keeps [] w1 ((w1.alloc (.cells #[.bool false, .bool false, .slice none 0 0, .int .i64 0] 58)).setRow w1.heap.size #[.bool false, .bool false, .slice none 0 0, .int .i64 0]) := hk2.setRow (Or.inr (Nat.le_refl _)) _
  have hkA := hk1.trans hk3
  have HP : Hid (MatchA p s [] false y) := hp
  clear hk2 hk3 hp hk1
  go_wp2_with (first | (refine wpList_store_row rfl 58 _ _ rfl w1.heap.size _ rfl rfl _ _ hz0 infoPat rfl o4 ?_; generalize (w1.alloc (.cells #[.bool false, .bool false, .slice none 0 0, .int .i64 0] 58)).setRow w1.heap.size #[.bool false, .bool false, .slice none 0 0, .int .i64 0] = W3 at *))
  go_ret3
  exact ⟨[], false, y, rfl, HP.out, hkA⟩
 have hsz := whole_sz hs hq
 obtain ⟨hfair, hthin, _⟩ := hq.good hs
 have o4 := four_one (x := W.bg) (y := W.en) (n := (W.g : Int)) hv
 have hk3 : Keeps [] w1 ((w1.alloc (.cells #[.bool false, .bool false, .slice none 0 0, .int .i64 0] 58)).setRow w1.heap.size #[.bool W.bg, .bool W.en, v, .int .i64 (W.g : Int)]) := hk2.setRow (Or.inr (Nat.le_refl _)) _
 have hrow : ((w1.alloc (.cells #[.bool false, .bool false, .slice none 0 0, .int .i64 0] 58)).setRow w1.heap.size #[.bool W.bg, .bool W.en, v, .int .i64 (W.g : Int)]).heap[w1.heap.size]? = some (.cells #[.bool W.bg, .bool W.en, v, .int .i64 (W.g : Int)] 58 (0, 0)) := setRow_heap _ _ _ _ _ _ hz0
 have hc3 : ∀ t u, [Value.bool W.bg, .bool W.en, v, .int .i64 (W.g : Int)][t]? = some u → ((w1.alloc (.cells #[.bool false, .bool false, .slice none 0 0, .int .i64 0] 58)).setRow w1.heap.size #[.bool W.bg, .bool W.en, v, .int .i64 (W.g : Int)]).cell? ⟨w1.heap.size, 0 + t, none⟩ = some u := by
  intro t u hu
  rw [Lib.cell_of_heap hrow, Nat.zero_add]
  simpa using hu
 have hr3 := hrep.keep hk3 (by simp)
 have hkA := hk1.trans hk3
 have hi4 := infoPat4 (.bool W.bg) (.bool W.en) v (.int .i64 (W.g : Int))
 have HQ : Hid (PatR p (.ok W j)) := hq
 have HPS : Hid (p.size ≤ 60) := hs
 clear hrep hq hgn hs hk1 hk2 hrow
 by_cases hT : s.size ≤ 100
 rotate_left
 ·have hT' : (100 : Int) < (s.size : Int) := by omega
  have HA : Hid (MatchA p s [] false 1) := Or.inr ⟨HPS.out, .ok W j, HQ.out, Or.inl ⟨by omega, rfl, rfl, rfl⟩⟩
  clear hT hr3 hc3
  go_wp2_with (first | (refine wpList_store_row rfl 58 _ _ rfl w1.heap.size _ rfl rfl _ _ hz0 infoPat rfl o4 ?_; generalize (w1.alloc (.cells #[.bool false, .bool false, .slice none 0 0, .int .i64 0] 58)).setRow w1.heap.size #[.bool W.bg, .bool W.en, v, .int .i64 (W.g : Int)] = W3 at *))
  go_ret3
  exact ⟨[], false, 1, rfl, HA.out, hkA⟩
 have HT : Hid (s.size ≤ 100) := hT
 have hT' : ¬ (100 : Int) < (s.size : Int) := by omega
 clear hT
 go_wp2_with (first | (refine wpList_store_row rfl 58 _ _ rfl w1.heap.size _ rfl rfl _ _ hz0 infoPat rfl o4 ?_; generalize (w1.alloc (.cells #[.bool false, .bool false, .slice none 0 0, .int .i64 0] 58)).setRow w1.heap.size #[.bool W.bg, .bool W.en, v, .int .i64 (W.g : Int)] = W3 at *) | (refine wpList_load_at rfl 58 _ rfl w1.heap.size 0 rfl [.bool W.bg, .bool W.en, v, .int .i64 (W.g : Int)] _ hc3 Tryz.underlying58 rfl hi4 ?_))
 refine (matNew_any s (s.size + 1) rfl HT.out W v _ W3 hr3 hsz hfair).mono ?_
 rintro e w4 ⟨a, c, rfl, hm, hk4⟩
 have hkB := hkA.trans hk4
 have hal := hm.form.1
 have o7 : (#[.bool W.bg, .bool W.en, v, .int .i64 (W.g : Int), .string s, a, c] : Array Value).all (·.oneCell') = true := all7 rfl rfl hv rfl rfl (hal a (by simp)) (hal c (by simp))
 have hz4 : (w4.alloc (.cells #[.bool false, .bool false, .slice none 0 0, .int .i64 0, .string ⟨#[]⟩, .slice none 0 0, .slice none 0 0] 67)).heap[w4.heap.size]? = some (.cells #[.bool false, .bool false, .slice none 0 0, .int .i64 0, .string ⟨#[]⟩, .slice none 0 0, .slice none 0 0] 67 (0, 0)) := heap_alloc_new w4 _
 have hk5 : Keeps [] w4 ((w4.alloc (.cells #[.bool false, .bool false, .slice none 0 0, .int .i64 0, .string ⟨#[]⟩, .slice none 0 0, .slice none 0 0] 67)).setRow w4.heap.size #[.bool W.bg, .bool W.en, v, .int .i64 (W.g : Int), .string s, a, c]) := ((Keeps.refl [] w4).alloc _).setRow (Or.inr (Nat.le_refl _)) _
 have hrow4 : ((w4.alloc (.cells #[.bool false, .bool false, .slice none 0 0, .int .i64 0, .string ⟨#[]⟩, .slice none 0 0, .slice none 0 0] 67)).setRow w4.heap.size #[.bool W.bg, .bool W.en, v, .int .i64 (W.g : Int), .string s, a, c]).heap[w4.heap.size]? = some (.cells #[.bool W.bg, .bool W.en, v, .int .i64 (W.g : Int), .string s, a, c] 67 (0, 0)) := setRow_heap _ _ _ _ _ _ hz4
 have hm5 := hm.keep hk5 (by simp)
 have hkC := hkB.trans hk5
 have hi7 := infoMat7 (.bool W.bg) (.bool W.en) v (.int .i64 (W.g : Int)) (.string s) a c
 have hin7 := info7 (.bool W.bg) (.bool W.en) v (.int .i64 (W.g : Int)) (.string s) a c
 have hg4 : w4.heap.size < ((w4.alloc (.cells #[.bool false, .bool false, .slice none 0 0, .int .i64 0, .string ⟨#[]⟩, .slice none 0 0, .slice none 0 0] 67)).setRow w4.heap.size #[.bool W.bg, .bool W.en, v, .int .i64 (W.g : Int), .string s, a, c]).heap.size := (Array.getElem?_eq_some_iff.1 hrow4).1
 have cM : ∀ X : World, X.heap[w4.heap.size]? = some (.cells #[.bool W.bg, .bool W.en, v, .int .i64 (W.g : Int), .string s, a, c] 67 (0, 0)) → ∀ t u, ([.bool W.bg, .bool W.en, v, .int .i64 (W.g : Int), .string s, a, c] : List Value)[t]? = some u → X.cell? ⟨w4.heap.size, 0 + t, none⟩ = some u := by
  intro X hX t u hu
  rw [Lib.cell_of_heap hX, Nat.zero_add]
  simpa using hu
 have hc5 := cM _ hrow4
 clear hr3 hc3 hk3 hz0 hm hk4 hkA hkB hk5 hi4 o4
 simp only [mat]
 go_wp2_with (first | (refine wpList_store_row rfl 67 _ _ rfl w4.heap.size _ rfl rfl _ _ hz4 hin7 rfl o7 ?_; generalize ((w4.alloc (.cells #[.bool false, .bool false, .slice none 0 0, .int .i64 0, .string ⟨#[]⟩, .slice none 0 0, .slice none 0 0] 67)).setRow w4.heap.size #[.bool W.bg, .bool W.en, v, .int .i64 (W.g : Int), .string s, a, c]) = W5 at *) | (refine wpList_load_at rfl 67 _ rfl w4.heap.size 0 rfl [.bool W.bg, .bool W.en, v, .int .i64 (W.g : Int), .string s, a, c] _ hc5 Tryz.underlying67 rfl hi7 ?_))
 refine (show Calls Tryz.prog 21 #[.agg #[.bool W.bg, .bool W.en, v, .int .i64 (W.g : Int), .string s, a, c], .int .i64 0, .int .i64 s.size] W5 _ from canM_any s (s.size + 1) rfl HT.out W v a c _ W5 hm5 0 s.size (Nat.zero_le _) (Nat.le_refl _)).mono ?_
 rintro e w6 ⟨b, rfl, hb, hk6⟩
 have hkD := hkC.trans hk6
 have hm6 := hm5.keep hk6 (by simp)
 have hc6 := cM _ ((hk6.block _ hg4 (by simp)).trans hrow4)
 clear hm5 hkC hc5 hk6 hrow4 hg4 cM hz4
 by_cases hbt : b = true
 rotate_left
 ·obtain rfl : b = false := by simpa using hbt
  have HA : Hid (MatchA p s [] false 0) := Or.inr ⟨HPS.out, .ok W j, HQ.out, Or.inr ⟨HT.out, Or.inl ⟨fun h => hbt (hb.2 h), rfl, rfl, rfl⟩⟩⟩
  clear hb hbt hm6 hc6
  go_wp2_with fail
  go_ret3
  exact ⟨[], false, 0, rfl, HA.out, hkD⟩
 have hmt := hb.1 hbt
 have HM : Hid (Mt s W.x 0 s.size) := hmt
 subst hbt
 clear hb
 go_wp2_with (first | (refine wpList_load_at rfl 67 _ rfl w4.heap.size 0 rfl [.bool W.bg, .bool W.en, v, .int .i64 (W.g : Int), .string s, a, c] _ hc6 Tryz.underlying67 rfl hi7 ?_))
 refine (show Calls Tryz.prog 23 #[.agg #[.bool W.bg, .bool W.en, v, .int .i64 (W.g : Int), .string s, a, c], .int .i64 0, .int .i64 s.size] w6 _ from treeM_any s (s.size + 1) rfl HT.out W v a c hv _ w6 hm6 hsz 0 s.size (Nat.zero_le _) (Nat.le_refl _) hmt).mono ?_
 rintro e w7 ⟨t, cs, rfl, htv, htt, hk7⟩
 have hkE := hkD.trans hk7
 have hth := htt.thin hthin
 have HR : Hid (TR s (.node W.x) 0 s.size t.text (t.evs 0)) := (htt.toTR hmt).1
 clear hm6 hc6 hkD hk7 htt hmt
 go_wp2_with fail
 refine (tell_any t hth _ cs w7 htv).mono ?_
 rintro e w8 ⟨hte, hk8⟩
 have hkF := hkE.trans hk8
 clear hkE hk8 htv hth
 rcases hte with ⟨hl, rfl⟩ | ⟨hl, rfl⟩
 ·have HA : Hid (MatchA p s t.text true 0) := Or.inr ⟨HPS.out, .ok W j, HQ.out, Or.inr ⟨HT.out, Or.inr ⟨HM.out, _, _, HR.out, Or.inl ⟨hl, rfl, rfl, rfl⟩⟩⟩⟩
  clear hl
  go_wp2_with fail
  go_ret3
  exact ⟨_, true, 0, rfl, HA.out, hkF⟩
 ·have HA : Hid (MatchA p s [] false 1) := Or.inr ⟨HPS.out, .ok W j, HQ.out, Or.inr ⟨HT.out, Or.inr ⟨HM.out, _, _, HR.out, Or.inr ⟨hl, rfl, rfl, rfl⟩⟩⟩⟩
  clear hl
  go_wp2_with fail
  go_ret3
  exact ⟨_, false, 1, rfl, HA.out, hkF⟩
end Go.Proofs.YtnfojonmohijpabGreatDoor
namespace Go.Proofs.YtnfojonmohijpabGreatDoor
def st (c : Int) : Pat := .set (stretch c c)
theorem st_yes {s : ByteArray} {c : Int} {i : Nat} (h : i < s.size ∧ stretch c c (at' s i).toNat = true) : Mt s (st c) i (i + 1) := ⟨h.1, h.2, rfl⟩
theorem st_no {s : ByteArray} {c : Int} {i j : Nat} (h : stretch c c (at' s i).toNat = false) : ¬ Mt s (st c) i j := fun hm => by have := hm.2.1; rw [h] at this; cases this
theorem TR.cast {s : ByteArray} {J : Job} {i j : Nat} {t u : List UInt8} {ev : List (Nat × Nat × Nat)} (h : TR s J i j t ev) (e : t = u) : TR s J i j u ev := e ▸ h
end Go.Proofs.YtnfojonmohijpabGreatDoor
namespace Go.Proofs.YtnfojonmohijpabGreatDoor
open Go.RowKit
theorem Sg.lit {c : UInt8} (h1 : (c.toNat : Int) ≠ 40 ∧ (c.toNat : Int) ≠ 91 ∧ (c.toNat : Int) ≠ 46 ∧ (c.toNat : Int) ≠ 92) (h2 : ¬ notC (c.toNat : Int)) : Sg [c] (.set (stretch (c.toNat : Int) (c.toNat : Int))) := by
 refine ⟨⟨c, [], rfl, ?_, ?_⟩, ?_⟩
 ·unfold notC at h2; unfold noRep; omega
 ·unfold notC at h2; unfold stopC; omega
 ·intro s i d g hl
  have h := (Lies.cons.1 hl).1
  have a := G.lit (s := s) d g i (by omega) (by rw [h]; exact h1.1) (by rw [h]; exact h1.2.1) (by rw [h]; exact h1.2.2.1) (by rw [h]; exact h1.2.2.2) (by rw [h]; exact h2)
  rw [h] at a
  exact a
theorem sg97 : Sg [97] (st 97) := Sg.lit (c := 97) (by decide) (by unfold notC; decide)
def wP : ByteArray := ⟨#[97, 42]⟩
def wT : ByteArray := ⟨#[97, 97]⟩
def wX : Pat := .wone (.pcons (.rep 0 (-1) (st 97)) .pnil)
theorem w_read : PatR wP (.ok ⟨false, false, wX, 0⟩ 2) := (Ws.one (Wy.single sg97 Rx.star)).whole (by decide) (by decide) (by decide) wP rfl
theorem w_at : stretch 97 97 (at' wT 0).toNat = true ∧ stretch 97 97 (at' wT 1).toNat = true ∧ wT.size = 2 := by decide
theorem w_match : MatchA wP wT [40, 114, 32, 98, 54, 49, 32, 98, 54, 49, 41] true 0 := by
 obtain ⟨b0, b1, hs⟩ := w_at
 have m0 : Mt wT (st 97) 0 1 := st_yes ⟨by rw [hs]; decide, b0⟩
 have m1 : Mt wT (st 97) 1 2 := st_yes ⟨by rw [hs]; decide, b1⟩
 have t1 : TR wT (.times (0 - 1) (less (-1)) (st 97)) 1 2 _ _ := .tgo _ _ (st 97) 1 2 2 _ _ _ _ (Or.inl (by decide)) ⟨by decide, by decide, fun _ => ⟨m1, 0, by decide, Or.inl (by decide), rfl⟩, fun m h1 h2 _ => by omega⟩ (.byte _ 1 2) (.tend _ _ _ 2 2 (by decide))
 have t0 : TR wT (.times 0 (-1) (st 97)) 0 2 _ _ := .tgo 0 (-1) (st 97) 0 2 1 _ _ _ _ (Or.inl (by decide)) ⟨by decide, by decide, fun _ => ⟨m0, 1, by decide, Or.inl (by decide), 2, m1, rfl⟩, fun m h1 h2 hm => by have := hm.1.2.2; omega⟩ (.byte _ 0 1) t1
 have z : TR wT (.node wX) 0 2 _ _ := .wone _ 0 2 _ _ (.lone _ 0 2 _ _ (.rep 0 (-1) _ 0 2 _ _ t0))
 have hm : Mt wT wX 0 2 := ⟨2, ⟨2, by decide, Or.inl (by decide), 1, m0, 2, m1, rfl⟩, rfl⟩
 refine Or.inr ⟨by decide, _, w_read, Or.inr ⟨by decide, Or.inr ⟨by rw [hs]; exact hm, _, _, by rw [hs]; exact z.cast (u := [40, 114, 32, 98, 54, 49, 32, 98, 54, 49, 41]) (by decide +kernel), Or.inl ⟨by decide, rfl, rfl, rfl⟩⟩⟩⟩
def vP : ByteArray := ⟨#[97]⟩
def vT : ByteArray := ⟨#[98, 97]⟩
def vX : Pat := .wone (.pcons (st 97) .pnil)
theorem v_read : PatR vP (.ok ⟨false, false, vX, 0⟩ 1) := (Ws.one (Wy.single sg97 Rx.none)).whole (by decide) (by decide) (by decide) vP rfl
theorem v_at : stretch 97 97 (at' vT 0).toNat = false ∧ stretch 97 97 (at' vT 1).toNat = true ∧ vT.size = 2 := by decide
theorem v_found {ans : Option (List Int)} {n : Int} (h : SearchA vP vT 0 ans n) : ans = some [1, 2] ∧ n = 0 := by
 obtain ⟨b0, b1, hs⟩ := v_at
 have hps : vP.size ≤ 60 := by decide
 have m1 : Mt vT vX 1 2 := ⟨2, st_yes ⟨by rw [hs]; decide, b1⟩, rfl⟩
 have hF : FirstAt vT ⟨false, false, vX, 0⟩ 0 1 2 := by
  refine ⟨by decide, by decide, by rw [hs]; decide, ⟨m1, fun h => (Bool.noConfusion h), fun h => (Bool.noConfusion h)⟩, ?_, fun j' h1 h2 => by omega⟩
  intro i' j' _ h2 _ _ hok
  have e : i' = 0 := by omega
  subst e
  obtain ⟨m, hm, _⟩ := hok.1
  exact st_no b0 hm
 rcases h with ⟨h, _⟩ | ⟨_, q, hq, h⟩
 ·omega
 ·cases hq.det v_read
  rcases h with ⟨h, _⟩ | ⟨_, ⟨h, _⟩ | ⟨_, _, h, rfl⟩⟩
  ·omega
  ·omega
  ·rcases h with ⟨_, h⟩ | ⟨i, j, t, ev, hf, _, h⟩
   ·exact absurd hF.2.2.2.1 (h 1 2 (by decide) (by decide) (by rw [hs]; decide))
   ·obtain ⟨rfl, rfl⟩ := hF.one hf
    refine ⟨?_, rfl⟩
    rw [h]
    have e : evs (List.replicate (2 * 0) (-1)) ev = [] := List.length_eq_zero_iff.1 (by rw [evs_len]; rfl)
    exact congrArg some (by rw [e]; rfl)
set_option maxRecDepth 100000 in
set_option maxHeartbeats 2000000 in
theorem awake_any (w : World) (hgn : GN w) : Calls Tryz.prog 6 #[] w fun e w' => e = .returned (.bool true) ∧ Keeps [] w w' := by
 go_enter Tryz.func6, Tryz.ntmps6
 go_wp2_with fail
 refine (ymatch_any wP wT w hgn).mono ?_
 rintro e w1 ⟨t, b, n, rfl, h1, hk1⟩
 obtain ⟨rfl, rfl, rfl⟩ := h1.det w_match
 have hgn1 := hgn.keep hk1 (by simp)
 have hx : nmB [40, 114, 32, 98, 54, 49, 32, 98, 54, 49, 41] = ⟨#[40, 114, 32, 98, 54, 49, 32, 98, 54, 49, 41]⟩ := rfl
 rw [hx]
 clear h1 hgn
 go_wp2_with fail
 refine (ysearch_any vP vT 0 w1 hgn1).mono ?_
 rintro e w2 ⟨r, ans, n2, rfl, h2, hI, hk2⟩
 obtain ⟨rfl, rfl⟩ := v_found h2
 have hrow : w2.ownsRow w1.heap.size 3 1 r 2 (spW [1, 2]) := hI
 obtain ⟨g, cap, rfl, _, _⟩ := World.ownsRow.form hrow (by decide)
 have c0 : w2.cell? ⟨g, 0, none⟩ = some (.int .i64 1) := (World.ownsRow.cellAt hrow 0 (by decide)).trans rfl
 have c1 : w2.cell? ⟨g, 1, none⟩ = some (.int .i64 2) := (World.ownsRow.cellAt hrow 1 (by decide)).trans rfl
 have hk := hk1.trans hk2
 clear h2 hI hrow hk1 hk2 hgn1
 go_wp2_with fail
 go_ret
 exact ⟨rfl, hk⟩
end Go.Proofs.YtnfojonmohijpabGreatDoor
namespace Go.Proofs.YtnfojonmohijpabGreatDoor
theorem bytes2 {s : ByteArray} {i : Nat} {a b : UInt8} (h : Lies s i [a, b]) : at' s i = (a.toNat : Int) ∧ at' s (i + 1) = (b.toNat : Int) := by
 obtain ⟨h0, h⟩ := Lies.cons.1 h
 obtain ⟨h1, _⟩ := Lies.cons.1 h
 exact ⟨h0, h1⟩
theorem bytes4 {s : ByteArray} {i : Nat} {a b c d : UInt8} (h : Lies s i [a, b, c, d]) : at' s i = (a.toNat : Int) ∧ at' s (i + 1) = (b.toNat : Int) ∧ at' s (i + 2) = (c.toNat : Int) ∧ at' s (i + 3) = (d.toNat : Int) := by
 obtain ⟨h0, h⟩ := Lies.cons.1 h
 obtain ⟨h1, h⟩ := Lies.cons.1 h
 obtain ⟨h2, h⟩ := Lies.cons.1 h
 obtain ⟨h3, _⟩ := Lies.cons.1 h
 exact ⟨h0, h1, h2, h3⟩
theorem sgDot : Sg [46] (.set fun _ => true) := by
 refine ⟨⟨46, [], rfl, by unfold noRep; decide, by unfold stopC; decide⟩, fun s i d g hl => ?_⟩
 exact G.dot d g i (Lies.cons.1 hl).1
theorem sgEsc : Sg [92, 46] (.set (stretch 46 46)) := by
 refine ⟨⟨92, [46], rfl, by unfold noRep; decide, by unfold stopC; decide⟩, fun s i d g hl => ?_⟩
 obtain ⟨h0, h1⟩ := bytes2 hl
 have h1' : at' s (i + 1) = 46 := h1
 have e : escS s 0 (i + 1) = .ok 46 (i + 2) := by unfold escS; rw [h1']; simp [alnB, digB]
 have := G.esc (s := s) d g i h0
 rw [e] at this
 exact this
theorem sgHex : Sg [92, 120, 54, 49] (.set (stretch 97 97)) := by
 refine ⟨⟨92, [120, 54, 49], rfl, by unfold noRep; decide, by unfold stopC; decide⟩, fun s i d g hl => ?_⟩
 obtain ⟨h0, h1, h2, h3⟩ := bytes4 hl
 have h1' : at' s (i + 1) = 120 := h1
 have h2' : at' s (i + 1 + 1) = 54 := h2
 have h3' : at' s (i + 1 + 1 + 1) = 49 := h3
 have e : escS s 0 (i + 1) = .ok 97 (i + 4) := by
  rw [escS_x h1']
  unfold hexPS
  have e1 : hexS s 0 false 0 (i + 1 + 1) = .ok 6 (i + 1 + 1 + 1) := by unfold hexS; rw [h2', if_neg (by decide), show hexd 54 = 6 by decide]
  rw [e1]
  simp only [R.bind]
  have e2 : hexS s (16 * 6) true 0 (i + 1 + 1 + 1) = .ok 1 (i + 1 + 1 + 1 + 1) := by unfold hexS; rw [h3', if_neg (by decide), show hexd 49 = 1 by decide]
  rw [e2]
  rfl
 have := G.esc (s := s) d g i h0
 rw [e] at this
 exact this
theorem rng1 {s : ByteArray} {i : Nat} {c : Int} (h : at' s i = c) (hc : 0 ≤ c ∧ c ≠ 91 ∧ c ≠ 92 ∧ c ≠ 93 ∧ c ≠ 45 ∧ c ≠ 94) (hn : at' s (i + 1) ≠ 45) : rangeS s i = .ok (stretch c c) (i + 1) := by
 have e : innS s 0 i = .ok c (i + 1) := by
  unfold innS
  rw [h, if_neg hc.2.2.1, if_neg (by omega)]
 unfold rangeS
 rw [h, if_neg hc.2.1, e]
 simp only [R.bind]
 rw [if_neg hn]
theorem sgSet : Sg [91, 97, 98, 93] (.set fun n => stretch 97 97 n || stretch 98 98 n) := by
 refine ⟨⟨91, [97, 98, 93], rfl, by unfold noRep; decide, by unfold stopC; decide⟩, fun s i d g hl => ?_⟩
 obtain ⟨h0, h1, h2, h3⟩ := bytes4 hl
 have h1' : at' s (i + 1) = 97 := h1
 have h2' : at' s (i + 1 + 1) = 98 := h2
 have h3' : at' s (i + 1 + 1 + 1) = 93 := h3
 have r1 := rng1 h1' (by decide) (by rw [h2']; decide)
 have r2 := rng1 h2' (by decide) (by rw [h3']; decide)
 exact G.set d g i (.ok _ (i + 4)) h0 (Or.inr ⟨by rw [h1']; decide, SetU.go _ (i + 1) (i + 1 + 1) _ r1 (SetL.more _ _ _ _ _ (by rw [h2']; decide) r2 (SetL.done _ _ h3'))⟩)
theorem sgNot : Sg [91, 94, 97, 93] (.set fun n => !stretch 97 97 n) := by
 refine ⟨⟨91, [94, 97, 93], rfl, by unfold noRep; decide, by unfold stopC; decide⟩, fun s i d g hl => ?_⟩
 obtain ⟨h0, h1, h2, h3⟩ := bytes4 hl
 have h1' : at' s (i + 1) = 94 := h1
 have h2' : at' s (i + 1 + 1) = 97 := h2
 have h3' : at' s (i + 1 + 1 + 1) = 93 := h3
 have r1 := rng1 h2' (by decide) (by rw [h3']; decide)
 exact G.set d g i (.ok _ (i + 4)) h0 (Or.inl ⟨h1', _, SetU.go _ (i + 1 + 1) (i + 1 + 1 + 1) _ r1 (SetL.done _ _ h3'), rfl⟩)
theorem sgCls : Sg [91, 91, 58, 108, 111, 119, 101, 114, 58, 93, 93] (.set fun n => clsB 1 n) := by
 refine ⟨⟨91, [91, 58, 108, 111, 119, 101, 114, 58, 93, 93], rfl, by unfold noRep; decide, by unfold stopC; decide⟩, fun s i d g hl => ?_⟩
 obtain ⟨h0, hl⟩ := Lies.cons.1 hl
 obtain ⟨h1, hl⟩ := Lies.cons.1 hl
 obtain ⟨h2, hl⟩ := Lies.cons.1 hl
 obtain ⟨h3, hl⟩ := Lies.cons.1 hl
 obtain ⟨h4, hl⟩ := Lies.cons.1 hl
 obtain ⟨h5, hl⟩ := Lies.cons.1 hl
 obtain ⟨h6, hl⟩ := Lies.cons.1 hl
 obtain ⟨h7, hl⟩ := Lies.cons.1 hl
 obtain ⟨h8, hl⟩ := Lies.cons.1 hl
 obtain ⟨h9, hl⟩ := Lies.cons.1 hl
 obtain ⟨h10, _⟩ := Lies.cons.1 hl
 have g3 := lies_get h3
 have g4 := lies_get h4
 have g5 := lies_get h5
 have g6 := lies_get h6
 have g7 := lies_get h7
 have c5 : clsS s 1 [108, 111, 119, 101, 114] (i + 1 + 1 + 1 + 1 + 1 + 1 + 1 + 1) = .ok 1 (i + 1 + 1 + 1 + 1 + 1 + 1 + 1 + 1) := by
  rw [clsS, show names.findIdx? (· = [108, 111, 119, 101, 114]) = some 1 by decide]
 have step : ∀ (f : Nat) (w : List UInt8) (c : UInt8) (j : Nat), at' s j = (c.toNat : Int) → names.findIdx? (· = w) = none → goesOn w (c.toNat : Int) = true → clsS s (f + 1) w j = clsS s f (w ++ [c]) (j + 1) := by
  intro f w c j h hn hg
  rw [clsS, hn, h, lies_get h]
  simp only [hg, if_true]
 have c0 : clsS s 6 [] (i + 1 + 1 + 1) = .ok 1 (i + 1 + 1 + 1 + 1 + 1 + 1 + 1 + 1) := by
  rw [step 5 [] 108 _ h3 (by decide) (by decide), step 4 _ 111 _ h4 (by decide) (by decide), step 3 _ 119 _ h5 (by decide) (by decide), step 2 _ 101 _ h6 (by decide) (by decide), step 1 _ 114 _ h7 (by decide) (by decide)]
  exact c5
 have h1' : at' s (i + 1) = 91 := h1
 have h2' : at' s (i + 1 + 1) = 58 := h2
 have h8' : at' s (i + 1 + 1 + 1 + 1 + 1 + 1 + 1 + 1) = 58 := h8
 have h9' : at' s (i + 1 + 1 + 1 + 1 + 1 + 1 + 1 + 1 + 1) = 93 := h9
 have h10' : at' s (i + 1 + 1 + 1 + 1 + 1 + 1 + 1 + 1 + 1 + 1) = 93 := h10
 have ec : classS s (i + 1) = .ok 1 (i + 1 + 1 + 1 + 1 + 1 + 1 + 1 + 1 + 1 + 1) := by
  unfold classS needS
  rw [h2']
  simp only [if_true, R.bind]
  rw [c0]
  simp only [R.bind]
  rw [h8']
  simp only [if_true, R.bind]
  rw [h9']
  simp only [if_true, R.bind]
 have er : rangeS s (i + 1) = .ok (fun n => clsB 1 n) (i + 1 + 1 + 1 + 1 + 1 + 1 + 1 + 1 + 1 + 1) := by
  unfold rangeS
  rw [if_pos h1', ec]
  rfl
 exact G.set d g i (.ok _ (i + 11)) h0 (Or.inr ⟨by rw [h1']; decide, SetU.go _ (i + 1) _ _ er (SetL.done _ _ h10')⟩)
def sgT : Nat → List UInt8
 | 0 => [97]
 | 1 => [98]
 | 2 => [99]
 | 3 => [46]
 | 4 => [91, 97, 98, 93]
 | 5 => [91, 94, 97, 93]
 | 6 => [92, 120, 54, 49]
 | 7 => [91, 91, 58, 108, 111, 119, 101, 114, 58, 93, 93]
 | _ => [92, 46]
def sgF : Nat → Nat → Bool
 | 0 => stretch 97 97
 | 1 => stretch 98 98
 | 2 => stretch 99 99
 | 3 => fun _ => true
 | 4 => fun n => stretch 97 97 n || stretch 98 98 n
 | 5 => fun n => !stretch 97 97 n
 | 6 => stretch 97 97
 | 7 => fun n => clsB 1 n
 | _ => stretch 46 46
theorem sg_all : ∀ k, Sg (sgT k) (.set (sgF k))
 | 0 => sg97
 | 1 => Sg.lit (c := 98) (by decide) (by unfold notC; decide)
 | 2 => Sg.lit (c := 99) (by decide) (by unfold notC; decide)
 | 3 => sgDot
 | 4 => sgSet
 | 5 => sgNot
 | 6 => sgHex
 | 7 => sgCls
 | _ + 8 => sgEsc
end Go.Proofs.YtnfojonmohijpabGreatDoor
namespace Go.Proofs.YtnfojonmohijpabGreatDoor
def Pat.A : Pat → Nat
 | .set _ => 3
 | .grp _ x => x.A + 5
 | .rep mn _ x => (mn + 2) * (x.A + 1) + 3
 | .pnil => 1
 | .pcons x r => x.A + r.A + 4
 | .wone x => x.A + 6
 | .wcons x r => x.A + r.A + 6
end Go.Proofs.YtnfojonmohijpabGreatDoor
namespace Go.Proofs.YtnfojonmohijpabGreatDoor
def Pat.sim : Pat → Pat → Prop
 | .set f, .set h => f = h
 | .grp _ x, .grp _ y => x.sim y
 | .rep a b x, .rep c d y => a = c ∧ b = d ∧ x.sim y
 | .pnil, .pnil => True
 | .pcons x r, .pcons y t => x.sim y ∧ r.sim t
 | .wone x, .wone y => x.sim y
 | .wcons x r, .wcons y t => x.sim y ∧ r.sim t
 | _, _ => False
def simL : List Pat → List Pat → Prop
 | [], [] => True
 | x :: l, y :: m => x.sim y ∧ simL l m
 | _, _ => False
theorem simL.pre {y z : Pat} (h0 : y.sim z) : ∀ {l m : List Pat}, simL l m → (pre l y).sim (pre m z)
 | [], [], _ => h0
 | x :: l, w :: m, h => ⟨h.1, simL.pre h0 h.2⟩
theorem simL.app : ∀ {l m l' m' : List Pat}, simL l m → simL l' m' → simL (l ++ l') (m ++ m')
 | [], [], _, _, _, h => h
 | x :: l, w :: m, _, _, h, h' => ⟨h.1, simL.app h.2 h'⟩
def sumA : List Pat → Nat
 | [] => 0
 | x :: l => x.A + 4 + sumA l
theorem pre_A (y : Pat) : ∀ l : List Pat, (pre l y).A = sumA l + y.A
 | [] => by simp [pre, sumA]
 | x :: l => by rw [pre, Pat.A, pre_A y l, sumA]; omega
theorem sumA_app : ∀ l m : List Pat, sumA (l ++ m) = sumA l + sumA m
 | [], m => by simp [sumA]
 | x :: l, m => by rw [List.cons_append, sumA, sumA, sumA_app l m]; omega
structure Md (p : List UInt8) (f : Nat → List Pat) (n a b : Nat) : Prop where
 wy : Wy p f n a
 sim : ∀ g h, simL (f g) (f h)
 bare : 40 ∉ p → ∀ g h, f g = f h
 sum : ∀ g, sumA (f g) ≤ b
 hd : p.head? ≠ some 94
theorem Md.more {p : List UInt8} {f : Nat → List Pat} {n a b b' : Nat} (h : Md p f n a b) (hb : b ≤ b') : Md p f n a b' := ⟨h.wy, h.sim, h.bare, fun g => Nat.le_trans (h.sum g) hb, h.hd⟩
theorem Md.single (k : Nat) : Md (sgT k) (fun _ => [.set (sgF k)]) 0 0 7 := by
 have hw := Wy.single (sg_all k) Rx.none
 rw [List.append_nil] at hw
 refine ⟨hw, fun _ _ => ⟨rfl, trivial⟩, fun _ _ _ => rfl, fun _ => by simp [sumA, Pat.A], ?_⟩
 match k with
 | 0 => decide
 | 1 => decide
 | 2 => decide
 | 3 => decide
 | 4 => decide
 | 5 => decide
 | 6 => decide
 | 7 => decide
 | _ + 8 => exact (by decide : ([92, 46] : List UInt8).head? ≠ some 94)
theorem Md.join {p q : List UInt8} {f f' : Nat → List Pat} {n n' a a' b b' : Nat} (h : Md p f n a b) (k : Md q f' n' a' b') : Md (p ++ q) (fun g => f g ++ f' (g + n)) (n + n') (max a a') (b + b') := by
 refine ⟨h.wy.app k.wy, fun g g' => simL.app (h.sim g g') (k.sim _ _), fun hb g g' => ?_, fun g => by rw [sumA_app]; exact Nat.add_le_add (h.sum g) (k.sum _), ?_⟩
 ·simp only [List.mem_append, not_or] at hb
  show f g ++ f' (g + n) = f g' ++ f' (g' + n)
  rw [h.bare hb.1 g g', k.bare hb.2 (g + n) (g' + n)]
 ·obtain ⟨c, r, e, _⟩ := h.wy.hd
  have := h.hd
  rw [e] at this ⊢
  exact this
structure Mw (p : List UInt8) (x : Nat → Pat) (n a b : Nat) : Prop where
 ws : Ws p x n a
 sim : ∀ g h, (x g).sim (x h)
 len : ∀ g, (x g).A ≤ b
theorem Md.one {p : List UInt8} {f : Nat → List Pat} {n a b : Nat} (h : Md p f n a b) : Mw p (fun g => .wone (pre (f g) .pnil)) n a (b + 7) :=
 ⟨Ws.one h.wy, fun g g' => simL.pre (y := .pnil) (z := .pnil) trivial (h.sim g g'), fun g => by have := h.sum g; simp only [Pat.A, pre_A]; omega⟩
theorem Md.alt {p q : List UInt8} {f : Nat → List Pat} {y : Nat → Pat} {n n' a a' b b' : Nat} (h : Md p f n a b) (k : Mw q y n' a' b') : Mw (p ++ [124] ++ q) (fun g => .wcons (pre (f g) .pnil) (y (g + n))) (n + n') (max a a') (b + b' + 7) :=
 ⟨Ws.cons h.wy k.ws, fun g g' => ⟨simL.pre (y := .pnil) (z := .pnil) trivial (h.sim g g'), k.sim _ _⟩, fun g => by have := h.sum g; have := k.len (g + n); simp only [Pat.A, pre_A]; omega⟩
theorem Mw.nil : Mw [] (fun _ => .wone .pnil) 0 0 7 := ⟨Ws.nil, fun _ _ => trivial, fun _ => by simp [Pat.A]⟩
theorem Mw.grp {p r : List UInt8} {x : Nat → Pat} {n a b m : Nat} {o : Option (Nat × Int)} (h : Mw p x n a b) (hr : Rx r o) (ho : ∀ mm, o = some mm → mm.1 ≤ m) : Md ([40] ++ p ++ [41] ++ r) (fun g => [withRep (.grp (g + 1) (x (g + 1))) o]) (n + 1) (a + 1) ((m + 2) * (b + 6) + 7) := by
 refine ⟨Wy.grp h.ws hr, fun g g' => ⟨?_, trivial⟩, fun hb => absurd (by simp) hb, fun g => ?_, by simp⟩
 ·cases o with
  | none => exact h.sim _ _
  | some mm => exact ⟨rfl, rfl, h.sim _ _⟩
 ·have hl := h.len (g + 1)
  cases o with
  | none =>
   simp only [withRep, sumA, Pat.A]
   have : 1 * (b + 6) ≤ (m + 2) * (b + 6) := Nat.mul_le_mul_right _ (by omega)
   omega
  | some mm =>
   have h1 := ho mm rfl
   obtain ⟨mn, mx⟩ := mm
   simp only [withRep, sumA, Pat.A]
   have h2 : (mn + 2) * ((x (g + 1)).A + 5 + 1) ≤ (m + 2) * (b + 6) := Nat.mul_le_mul (by simp only at h1; omega) (by omega)
   omega
theorem Mw.grp0 {p : List UInt8} {x : Nat → Pat} {n a b : Nat} (h : Mw p x n a b) : Md ([40] ++ p ++ [41]) (fun g => [.grp (g + 1) (x (g + 1))]) (n + 1) (a + 1) (b + 9) := by
 have hw := Wy.grp h.ws Rx.none
 rw [List.append_nil] at hw
 refine ⟨hw, fun g g' => ⟨h.sim _ _, trivial⟩, fun hb => absurd (by simp) hb, fun g => ?_, by simp⟩
 have hl := h.len (g + 1)
 simp only [sumA, Pat.A]
 omega
def rpT : Nat → List UInt8
 | 0 => []
 | 1 => [63]
 | _ => [43]
def rpO : Nat → Option (Nat × Int)
 | 0 => none
 | 1 => some (0, 1)
 | _ => some (1, -1)
theorem rp_all : ∀ k, Rx (rpT k) (rpO k)
 | 0 => Rx.none
 | 1 => Rx.opt
 | _ + 2 => Rx.plus
def lwT : Nat → List UInt8
 | 0 => [48]
 | 1 => [49]
 | _ => [50]
def hiT : Nat → List UInt8
 | 0 => [50]
 | 1 => [51]
 | _ => []
def bdT (k l : Nat) : List UInt8 := [123] ++ lwT k ++ [44] ++ hiT l ++ [125]
theorem bd_all (k l : Nat) : ∃ o, Rx (bdT k l) (some o) ∧ o.1 ≤ 2 := by
 match k, l with
 | 0, 0 => exact ⟨(0, 2), Rx.upto (m := 0) (n := 2) (by decide) (by decide), by decide⟩
 | 0, 1 => exact ⟨(0, 3), Rx.upto (m := 0) (n := 3) (by decide) (by decide), by decide⟩
 | 0, _ + 2 => exact ⟨(0, -1), Rx.from (m := 0) (by decide), by decide⟩
 | 1, 0 => exact ⟨(1, 2), Rx.upto (m := 1) (n := 2) (by decide) (by decide), by decide⟩
 | 1, 1 => exact ⟨(1, 3), Rx.upto (m := 1) (n := 3) (by decide) (by decide), by decide⟩
 | 1, _ + 2 => exact ⟨(1, -1), Rx.from (m := 1) (by decide), by decide⟩
 | _ + 2, 0 => exact ⟨(2, 2), Rx.upto (m := 2) (n := 2) (by decide) (by decide), by decide⟩
 | _ + 2, 1 => exact ⟨(2, 3), Rx.upto (m := 2) (n := 3) (by decide) (by decide), by decide⟩
 | _ + 2, _ + 2 => exact ⟨(2, -1), Rx.from (m := 2) (by decide), by decide⟩
def mdT (c : Nat → Nat) : Nat → Nat → List UInt8
 | 0, i => sgT (c i / 7 % 9)
 | deep + 1, i =>
  match c i % 7 with
  | 0 => sgT (c i / 7 % 9)
  | 1 => [40] ++ mdT c deep (i + 1) ++ [41]
  | 2 => mdT c deep (i + 1) ++ mdT c deep (i + 2)
  | 3 => [40] ++ mdT c deep (i + 1) ++ [124] ++ mdT c deep (i + 2) ++ [41]
  | 4 => [40] ++ mdT c deep (i + 1) ++ [41, 42]
  | 5 => [40] ++ mdT c deep (i + 1) ++ [124, 41] ++ rpT (c i / 7 % 3)
  | _ => [40] ++ mdT c deep (i + 1) ++ [41, 123] ++ lwT (c i / 7 % 3) ++ [44] ++ hiT (c i / 21 % 3) ++ [125]
def bA : Nat → Nat
 | 0 => 7
 | d + 1 => 4 * bA d + 67
theorem md_all (c : Nat → Nat) : ∀ deep i, ∃ f n a, Md (mdT c deep i) f n a (bA deep) ∧ n + 1 ≤ 2 ^ deep ∧ a ≤ deep
 | 0, i => ⟨_, 0, 0, Md.single _, by decide, by decide⟩
 | deep + 1, i => by
  obtain ⟨f, n, a, h, hn, ha⟩ := md_all c deep (i + 1)
  obtain ⟨f', n', a', h', hn', ha'⟩ := md_all c deep (i + 2)
  have hp : 2 ^ (deep + 1) = 2 * 2 ^ deep := by rw [Nat.pow_succ]; omega
  have hp1 : 1 ≤ 2 ^ deep := Nat.one_le_pow _ _ (by omega)
  have hbA : bA (deep + 1) = 4 * bA deep + 67 := rfl
  rw [hbA]
  unfold mdT
  split
  ·exact ⟨_, 0, 0, (Md.single _).more (by omega), by omega, by omega⟩
  ·have := h.one.grp0
   exact ⟨_, n + 1, a + 1, this.more (by omega), by omega, by omega⟩
  ·exact ⟨_, n + n', max a a', (h.join h').more (by omega), by omega, by omega⟩
  ·have := (h.alt h'.one).grp0
   have e : [40] ++ (mdT c deep (i + 1) ++ [124] ++ mdT c deep (i + 2)) ++ [41] = [40] ++ mdT c deep (i + 1) ++ [124] ++ mdT c deep (i + 2) ++ [41] := by simp
   rw [e] at this
   exact ⟨_, n + n' + 1, max a a' + 1, this.more (by omega), by omega, by omega⟩
  ·have := Mw.grp (m := 0) h.one Rx.star (fun mm e => by cases e; exact Nat.le_refl 0)
   have e : [40] ++ mdT c deep (i + 1) ++ [41] ++ [42] = [40] ++ mdT c deep (i + 1) ++ [41, 42] := by simp
   rw [e] at this
   exact ⟨_, n + 1, a + 1, this.more (by omega), by omega, by omega⟩
  ·have := Mw.grp (m := 1) (h.alt Mw.nil) (rp_all (c i / 7 % 3)) (fun mm e => by
     have hk : ∀ k mm, rpO k = some mm → mm.1 ≤ 1 := fun k mm e => by
       match k, e with
       | 1, e => cases e; decide
       | _ + 2, e => cases e; decide
     exact hk _ mm e)
   have e : [40] ++ (mdT c deep (i + 1) ++ [124] ++ []) ++ [41] ++ rpT (c i / 7 % 3) = [40] ++ mdT c deep (i + 1) ++ [124, 41] ++ rpT (c i / 7 % 3) := by simp
   rw [e] at this
   exact ⟨_, n + 0 + 1, max a 0 + 1, this.more (by omega), by omega, by omega⟩
  ·obtain ⟨o, ho, ho2⟩ := bd_all (c i / 7 % 3) (c i / 21 % 3)
   have := Mw.grp (m := 2) h.one ho (fun mm e => by cases e; exact ho2)
   have e : [40] ++ mdT c deep (i + 1) ++ [41] ++ bdT (c i / 7 % 3) (c i / 21 % 3) = [40] ++ mdT c deep (i + 1) ++ [41, 123] ++ lwT (c i / 7 % 3) ++ [44] ++ hiT (c i / 21 % 3) ++ [125] := by simp [bdT]
   rw [e] at this
   exact ⟨_, n + 1, a + 1, this.more (by omega), by omega, by omega⟩
end Go.Proofs.YtnfojonmohijpabGreatDoor
