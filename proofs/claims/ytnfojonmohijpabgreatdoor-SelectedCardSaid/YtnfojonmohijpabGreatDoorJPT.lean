/-
  DERIVED. Contracts of the program's singleAhead and group, over a contract of ways for what is shorter. Conditions: the text is at most 60 bytes long, the place is within it, the variable classNames holds the seven names.
-/
import Derived.Test.YtnfojonmohijpabGreatDoorJPQ
import Derived.Test.YtnfojonmohijpabGreatDoorJRG
import Derived.Deep.AppendLies
set_option linter.unusedSimpArgs false
set_option linter.unusedVariables false
namespace Go.Proofs.YtnfojonmohijpabGreatDoor
open Go.RowKit
def notC_dec (c : Int) : Decidable (0 ≤ c ∧ ¬ notC c) := inferInstanceAs (Decidable (0 ≤ c ∧ ¬ (c = 94 ∨ c = 36 ∨ c = 124 ∨ c = 41 ∨ c = 42 ∨ c = 43 ∨ c = 63 ∨ c = 123)))
def aheadB (c : Int) : Bool := @decide (0 ≤ c ∧ ¬ notC c) (notC_dec c)
set_option maxRecDepth 100000 in
theorem not_idx (c : Int) (h0 : 0 ≤ c) (h1 : c ≤ 255) : decide (Lib.indexByte (ByteArray.data ⟨#[94, 36, 124, 41, 42, 43, 63, 123]⟩).toList c.toNat.toUInt8 < 0) = aheadB c := by
 obtain ⟨n, rfl⟩ : ∃ n : Nat, c = n := ⟨c.toNat, by omega⟩
 have hn : n < 256 := by omega
 have key : ∀ m : Fin 256, decide (Lib.indexByte (ByteArray.data ⟨#[94, 36, 124, 41, 42, 43, 63, 123]⟩).toList ((m.val : Int)).toNat.toUInt8 < 0) = aheadB (m.val : Int) := by decide
 exact key ⟨n, hn⟩
set_option maxRecDepth 100000 in
set_option maxHeartbeats 400000 in
theorem singleAhead_any (b : Nat) (p : QS) (w : World) (hp : QB w b p) (hle : p.ix ≤ p.s.size) (hs : p.s.size ≤ 60) :
    Calls Tryz.prog 123 #[.pointer (some ⟨b, 0, none⟩)] w fun e w' => e = .returned (.bool (aheadB p.cur)) ∧ QB w' b p ∧ Keeps [] w w' := by
 by_cases hlt : p.ix < p.s.size
 ·have h0 : 0 ≤ p.cur := by show 0 ≤ at' p.s p.ix; rw [at'_lt hlt]; omega
  have h1 : p.cur ≤ 255 := (at'_bd p.s p.ix).2
  have hi := not_idx p.cur h0 h1
  by_cases hn : Lib.indexByte (ByteArray.data ⟨#[94, 36, 124, 41, 42, 43, 63, 123]⟩).toList p.cur.toNat.toUInt8 < 0
  ·rw [decide_eq_true hn] at hi
   rw [← hi]
   clear hi
   generalize hgx : Lib.indexByte (ByteArray.data ⟨#[94, 36, 124, 41, 42, 43, 63, 123]⟩).toList p.cur.toNat.toUInt8 = x at *
   go_enter Tryz.func123, Tryz.ntmps123
   go_wp2_with (first | (go_at_call 100; refine (peek_some b p _ hp hlt hs).mono ?_; rintro e w1 ⟨rfl, hp1, hk1⟩) | (go_at_call 154; refine (index_any _ p.cur _).mono ?_; rintro e w2 ⟨rfl, rfl⟩; rw [hgx]))
   go_ret
   exact ⟨ret_bool (by simp), hp1, hk1⟩
  ·rw [decide_eq_false hn] at hi
   rw [← hi]
   clear hi
   generalize hgx : Lib.indexByte (ByteArray.data ⟨#[94, 36, 124, 41, 42, 43, 63, 123]⟩).toList p.cur.toNat.toUInt8 = x at *
   go_enter Tryz.func123, Tryz.ntmps123
   go_wp2_with (first | (go_at_call 100; refine (peek_some b p _ hp hlt hs).mono ?_; rintro e w1 ⟨rfl, hp1, hk1⟩) | (go_at_call 154; refine (index_any _ p.cur _).mono ?_; rintro e w2 ⟨rfl, rfl⟩; rw [hgx]))
   go_ret
   exact ⟨ret_bool (by simp; omega), hp1, hk1⟩
 ·have hge : p.ix = p.s.size := by omega
  have HC : Hid (aheadB p.cur = false) := by
   show aheadB (at' p.s p.ix) = false
   rw [at'_ge (by omega)]; rfl
  go_enter Tryz.func123, Tryz.ntmps123
  go_wp2_with (first | (go_at_call 100; refine (peek_none b p _ hp hge).mono ?_; rintro e w1 ⟨rfl, hp1, hk1⟩))
  go_ret
  exact ⟨by rw [HC.out]; rfl, hp1, hk1⟩
def oddC (c : Int) : Prop := c = 94 ∨ c = 42 ∨ c = 43 ∨ c = 63 ∨ c = 123
def IsSl (v : Value) : Prop := ∃ a n c, v = .slice a n c
theorem IsSl.cells {v : Value} (h : IsSl v) : v.cells = #[v] := by obtain ⟨a, n, c, rfl⟩ := h; rfl
theorem IsSl.one {v : Value} (h : IsSl v) : v.oneCell' = true := by obtain ⟨a, n, c, rfl⟩ := h; rfl
theorem ownsRow_sl {w : World} {e : TypeId} {size : Nat} {v : Value} {n : Nat} {xs : List Value} (h : w.ownsRow 0 e size v n xs) : IsSl v := by
 rcases h.2 with ⟨rfl, _⟩ | ⟨g, cap, cur, rfl, _⟩ <;> exact ⟨_, _, _, rfl⟩
def WPost (kd : Kd) (kr : Kr) (b : Nat) (p : QS) (w : World) (e : Ending) (w' : World) : Prop :=
 ∃ q, G p.s kd p.op p.gr p.ix q ∧ Keeps [b] w w' ∧ match q with
  | .ok (x, g1) j => ∃ v, e = .returned v ∧ Rep w' (fun g => w.heap.size ≤ g) kr x [v] ∧ QB w' b { p with ix := j, gr := g1 }
  | .bad j => e = fault j ∨ ∃ v g1, e = .returned v ∧ IsSl v ∧ QB w' b { p with ix := j, gr := g1 } ∧ oddC (at' p.s j) ∧ p.ix ≤ j
def GSPost (b : Nat) (p : QS) (w : World) (e : Ending) (w' : World) : Prop :=
 ∃ q, G p.s .single p.op p.gr p.ix q ∧ Keeps [b] w w' ∧ match q with
  | .ok (x, g1) j => ∃ cs, e = .returned (.agg cs.toArray) ∧ Rep w' (fun g => w.heap.size ≤ g) .single x cs ∧ QB w' b { p with ix := j, gr := g1 }
  | .bad j => e = fault j
def WaysOk (n : Nat) : Prop := ∀ (b : Nat) (p : QS) (w : World), QB w b p → GN w → b ≠ 6 → p.s.size ≤ 60 → p.ix ≤ p.s.size → p.op ≤ 6 → p.gr ≤ 9 → p.s.size - p.ix < n →
 Calls Tryz.prog 65 #[.pointer (some ⟨b, 0, none⟩)] w (WPost .ways .ways b p w)
def SRow (w : World) (g : Nat) (cs : List Value) : Prop := w.heap[g]? = some (.cells cs.toArray 176 (0, 0))
theorem SRow.lt {w : World} {g : Nat} {cs : List Value} (h : SRow w g cs) : g < w.heap.size := (Array.getElem?_eq_some_iff.1 h).1
theorem SRow.keep {w w' : World} {g : Nat} {cs : List Value} {S : List Nat} (h : SRow w g cs) (hk : Keeps S w w') (hb : g ∉ S) : SRow w' g cs := (hk.block g h.lt hb).trans h
def sz : List Value := sc (.int .i64 0) (.slice none 0 0) fun _ => false
theorem infoSingle : (Tryz.prog.info? 176).map (·.size) = some 258 := by kernel_rfl
theorem infoSingleC {cs : List Value} (h : cs.length = 258) : (Tryz.prog.info? 176).map (·.size) = some cs.toArray.size := by rw [infoSingle]; simp [h]
theorem one_all {cs : List Value} (h : ∀ u ∈ cs, u.oneCell' = true) : cs.toArray.all (·.oneCell') = true := by simpa using h
theorem wpList_zeroSingle {ops : Array Oper} {rest : List Oper} {o : Oper} {a : Act} {w : World} {Q : Exit → Act → World → Prop} (hg : o.guard = none) (ho : o.op = .alloc 176) (d : Option Tmp) (hd : o.dst = d)
    (h : wpList Tryz.prog ops Q rest (a.put d (.pointer (some ⟨w.heap.size, 0, none⟩))) (w.alloc (.cells sz.toArray 176))) : wpList Tryz.prog ops Q (o :: rest) a w := by
 subst hd
 refine wpList_plain hg fun K hK => ?_
 unfold Oper.wp execOp
 simp only [ho, Sem.run_bind, alloc_single, Sem.run_pure, Result.andThen_ok]
 exact hK _ _ h
theorem sz_len : sz.length = 258 := sc_len _ _ _
theorem built_set (f : Nat → Bool) : Tryz.prog.built 176 [(2, .agg (hcells f))] = some (sc (.int .i64 0) (.slice none 0 0) f).toArray := by
 rw [built_single]
 have := fill_one plS 2 (.agg (hcells f)) [] [.int .i64 0, .slice none 0 0] (hcells fun _ => false).toList [] (by simp [plS, hcells_size]) (by simp [Value.cells, hcells_size])
 simp only [List.append_nil] at this
 exact this.trans rfl
theorem built_grp (k : Int) (v : Value) (hv : v.cells = #[v]) : Tryz.prog.built 176 [(0, .int .i64 k), (1, v)] = some (sc (.int .i64 k) v fun _ => false).toArray := by
 rw [built_single]
 have h1 := fill_one plS 0 (.int .i64 k) [(1, v)] [] [.int .i64 0] (.slice none 0 0 :: (hcells fun _ => false).toList) rfl rfl
 have h2 := fill_one plS 1 v [] [.int .i64 k] [.slice none 0 0] (hcells fun _ => false).toList rfl (by rw [hv]; rfl)
 rw [hv] at h2
 exact h1.trans (h2.trans rfl)
theorem wpList_build1 {ops : Array Oper} {rest : List Oper} {o : Oper} {a : Act} {w : World} {Q : Exit → Act → World → Prop} (hg : o.guard = none) (t i0 : Nat) (x0 : Operand) (ho : o.op = .build t #[(i0, x0)]) (d : Option Tmp) (hd : o.dst = d)
    (v0 : Value) (h0 : a.eval x0 = v0) (cells : Array Value) (hf : Tryz.prog.built t [(i0, v0)] = some cells) (h : wpList Tryz.prog ops Q rest (a.put d (.agg cells)) w) : wpList Tryz.prog ops Q (o :: rest) a w := by
 refine wpList_buildTo hg t _ ho d hd cells ?_ h
 subst h0
 simpa using hf
theorem wpList_build2 {ops : Array Oper} {rest : List Oper} {o : Oper} {a : Act} {w : World} {Q : Exit → Act → World → Prop} (hg : o.guard = none) (t i0 i1 : Nat) (x0 x1 : Operand) (ho : o.op = .build t #[(i0, x0), (i1, x1)]) (d : Option Tmp) (hd : o.dst = d)
    (v0 v1 : Value) (h0 : a.eval x0 = v0) (h1 : a.eval x1 = v1) (cells : Array Value) (hf : Tryz.prog.built t [(i0, v0), (i1, v1)] = some cells) (h : wpList Tryz.prog ops Q rest (a.put d (.agg cells)) w) : wpList Tryz.prog ops Q (o :: rest) a w := by
 refine wpList_buildTo hg t _ ho d hd cells ?_ h
 subst h0 h1
 simpa using hf
theorem sz_sc {k v : Value} {f : Nat → Bool} : sz.toArray.size = (sc k v f).toArray.size := by simp [sz_len, sc_len]
set_option maxRecDepth 100000 in
set_option maxHeartbeats 2000000 in
theorem group_prog (n : Nat) (IH : WaysOk n) (b : Nat) (p : QS) (w : World) (hp : QB w b p) (hgn : GN w) (hbg : b ≠ 6) (hs : p.s.size ≤ 60) (h40 : at' p.s p.ix = 40) (hop : p.op ≤ 6) (hgr : p.gr ≤ 9) (hn : p.s.size - p.ix ≤ n) :
    Calls Tryz.prog 155 #[.pointer (some ⟨b, 0, none⟩)] w (GSPost b p w) := by
 have hbl := hp.lt
 have hgl := hgn.lt
 have hlt : p.ix < p.s.size := at'_nn (by omega)
 have hr0 : SRow (w.alloc (.cells sz.toArray 176)) w.heap.size sz := heap_alloc_new w _
 have hk0 : Keeps [b] w (w.alloc (.cells sz.toArray 176)) := (Keeps.refl [b] w).alloc _
 have hq0 : QB (w.alloc (.cells sz.toArray 176)) b p := hp.keep ((Keeps.refl [] w).alloc _) (by simp)
 have hg0 : GN (w.alloc (.cells sz.toArray 176)) := hgn.keep ((Keeps.refl [] w).alloc _) (by simp)
 obtain ⟨g, hg⟩ : ∃ g, w.heap.size = g := ⟨_, rfl⟩
 obtain ⟨_, _, c2, c3, _, f2, f3⟩ := hq0.main
 clear hp hgn
 by_cases hdeep : p.op = 6 ∨ p.gr = 9
 ·have HD : Hid (GSPost b p w (fault p.ix) (w.alloc (.cells sz.toArray 176))) := ⟨.bad p.ix, .deep _ _ _ h40 hdeep, hk0, rfl⟩
  by_cases h6 : p.op = 6
  ·have h6' : ((p.op : Int) == 6) = true := by simpa using (by omega : (p.op : Int) = 6)
   clear hdeep h6
   go_enter Tryz.func155, Tryz.ntmps155
   go_wp2_with (first | (refine wpList_zeroSingle rfl rfl (some 2) rfl ?_; generalize w.alloc (.cells sz.toArray 176) = W at *))
   refine (pfail_any b p _ hq0).mono ?_
   rintro e w4 ⟨rfl, rfl⟩
   have hd := HD.out
   simp only [fault] at hd ⊢
   exact ⟨rfl, hd⟩
  ·have h6' : ((p.op : Int) == 6) = false := by simpa using (by omega : ¬ (p.op : Int) = 6)
   have h9' : ((p.gr : Int) == 9) = true := by simpa using (by omega : (p.gr : Int) = 9)
   clear hdeep h6
   go_enter Tryz.func155, Tryz.ntmps155
   go_wp2_with (first | (refine wpList_zeroSingle rfl rfl (some 2) rfl ?_; generalize w.alloc (.cells sz.toArray 176) = W at *))
   refine (pfail_any b p _ hq0).mono ?_
   rintro e w4 ⟨rfl, rfl⟩
   have hd := HD.out
   simp only [fault] at hd ⊢
   exact ⟨rfl, hd⟩
 ·have h6' : ((p.op : Int) == 6) = false := by simpa using (by omega : ¬ (p.op : Int) = 6)
  have h9' : ((p.gr : Int) == 9) = false := by simpa using (by omega : ¬ (p.gr : Int) = 9)
  have HD : Hid (¬ (p.op = 6 ∨ p.gr = 9)) := hdeep
  have ho5 : p.op ≤ 5 := by omega
  have hg8 : p.gr ≤ 8 := by omega
  clear hdeep
  go_enter Tryz.func155, Tryz.ntmps155
  go_wp2_with (first | (refine wpList_zeroSingle rfl rfl (some 2) rfl ?_; generalize w.alloc (.cells sz.toArray 176) = W at *))
  refine (expect_ok b p 40 (by omega) _ hq0 hs h40).mono ?_
  rintro e w1 ⟨rfl, hq1, hk1⟩
  rw [hg] at hr0 hbl hgl
  have hr1 := hr0.keep hk1 (by simp; omega)
  have hg1 := hg0.keep hk1 (by simp; omega)
  have hkA : Keeps [b] w w1 := hk0.trans hk1
  obtain ⟨_, _, d2, d3, _, k2, k3⟩ := hq1.main
  have hq2 := (hq1.setOp (p.op + 1)).setGr (p.gr + 1)
  have hk2 : Keeps [b] w1 ((w1.setCell ⟨b, 2, none⟩ (.int .i64 ((p.op + 1 : Nat) : Int))).setCell ⟨b, 3, none⟩ (.int .i64 ((p.gr + 1 : Nat) : Int))) := ((Keeps.refl [b] w1).setCell (by simp) _).setCell (by simp) _
  have e1 : ((p.op + 1 : Nat) : Int) = (p.op : Int) + 1 := by omega
  have e2 : ((p.gr + 1 : Nat) : Int) = (p.gr : Int) + 1 := by omega
  rw [e1, e2] at hq2 hk2
  have hr2 := hr1.keep hk2 (by simp; omega)
  have hg2 := hg1.keep hk2 (by simp; omega)
  have hkB := hkA.trans hk2
  have hop1 : ((p.op : Int) + 1) - 1 = p.op := by omega
  clear c2 c3 f2 f3 hk0 hq0 hg0 hr0 hk1 h6' h9' hr1 hg1 hkA e1 e2
  go_wp2_with fail
  generalize (w1.setCell ⟨b, 2, none⟩ (.int .i64 ((p.op : Int) + 1))).setCell ⟨b, 3, none⟩ (.int .i64 ((p.gr : Int) + 1)) = w2 at *
  refine (IH b { p with ix := p.ix + 1, op := p.op + 1, gr := p.gr + 1 } w2 hq2 hg2 hbg hs hlt (by simp; omega) (by simp; omega) (by simp; omega)).mono ?_
  rintro e w3 ⟨q, hG, hk3, hc3⟩
  have hkC := hkB.trans hk3
  have hr3 := hr2.keep hk3 (by simp; omega)
  have hsz2 : g < w2.heap.size := hr2.lt
  clear hq2 hg2 hkB hr2 d2 d3 k2 k3 hq1 hk2
  cases q with
  | bad j =>
   rcases hc3 with rfl | ⟨v, g1, rfl, hv1, hq3, hodd, _⟩
   ·simp only [fault]
    exact ⟨rfl, .bad j, .gbad _ _ _ _ h40 HD.out hG, hkC, rfl⟩
   ·have hj0 : 0 ≤ at' p.s j := by unfold oddC at hodd; simp at hodd; omega
    have hjle : j ≤ p.s.size := Nat.le_of_lt (at'_nn hj0)
    have hj41 : at' p.s j ≠ 41 := by unfold oddC at hodd; simp at hodd; omega
    have HB : Hid (G p.s .single p.op p.gr p.ix (.bad j)) := .gbad _ _ _ _ h40 HD.out hG
    clear hodd hG
    go_wp2_with fail
    refine (expect_bad b { p with ix := j, op := p.op + 1, gr := g1 } 41 (by omega) _ hq3 hjle hs hj41).mono ?_
    rintro e w4 ⟨rfl, hk4⟩
    simp only [fault]
    exact ⟨rfl, .bad j, HB.out, hkC.trans hk4, rfl⟩
  | ok y j =>
   obtain ⟨x, g1⟩ := y
   obtain ⟨v, rfl, hrep, hq3⟩ := hc3
   have hokb := hG.okb x g1 j rfl
   have hjle : j ≤ p.s.size := hokb.2.1 hlt
   by_cases h41 : at' p.s j = 41
   ·have HB : Hid (G p.s .single p.op p.gr p.ix (.ok (.grp (p.gr + 1) x, g1) (j + 1))) := .grp _ _ _ _ _ _ h40 HD.out hG h41
    have hvc : v.cells = #[v] := by
     obtain ⟨u, hu, hu2⟩ := hrep.cells.2
     cases hu
     exact hu2
    clear hG
    go_wp2_with fail
    refine (expect_ok b { p with ix := j, op := p.op + 1, gr := g1 } 41 (by omega) _ hq3 hs h41).mono ?_
    rintro e w4 ⟨rfl, hq4, hk4⟩
    have hkD := hkC.trans hk4
    have hr4 := hr3.keep hk4 (by simp; omega)
    have hrep4 := hrep.keep hk4 (by intro x hx; simp; omega)
    obtain ⟨_, _, d2, d3, _, k2, k3⟩ := hq4.main
    have hq5 := hq4.setOp p.op
    have hk5 : Keeps [b] w4 (w4.setCell ⟨b, 2, none⟩ (.int .i64 (p.op : Int))) := (Keeps.refl [b] w4).setCell (by simp) _
    have hr5 := hr4.keep hk5 (by simp; omega)
    have hkE := hkD.trans hk5
    have hrep5 := hrep4.keep hk5 (by intro x hx; simp; omega)
    have hbg5 := built_grp ((p.gr : Int) + 1) v hvc
    have hd2 : (((p.op + 1 : Nat) : Int)) = (p.op : Int) + 1 := by omega
    simp only [hd2] at d2
    have hgc : ∀ u ∈ sc (.int .i64 ((p.gr : Int) + 1)) v (fun _ => false), u.oneCell' = true := by
     have := (Rep.grp (p.gr + 1) x v (by omega) (by omega) hrep5).cells.1
     simpa using this
    clear hq4 hq3 hr3 hr4 hrep hrep4 hkC hkD hk4 hd2
    go_wp2_with (first | (refine wpList_build2 rfl 176 0 1 _ _ rfl (some 58) rfl _ _ rfl rfl _ hbg5 ?_) | (refine wpList_store_row rfl 176 _ _ rfl g _ rfl rfl _ _ hr5 (infoSingleC (sc_len _ _ _)) sz_sc (one_all hgc) ?_))
    refine bodyPost_ret (results_cell_row rfl _ _ g _ _ _ _ rfl (setRow_heap _ _ _ _ _ _ hr5) Tryz.underlying176 rfl (infoSingleC (sc_len _ _ _))) rfl ?_
    have hkR := (Keeps.refl [g] (w4.setCell ⟨b, 2, none⟩ (.int .i64 (p.op : Int)))).setRow (g := g) (by simp) (sc (.int .i64 ((p.gr : Int) + 1)) v fun _ => false).toArray
    refine ⟨_, HB.out, hkE.setRow (Or.inr (by omega)) _, _, rfl, ?_, hq5.keep hkR (by simp; omega)⟩
    exact Rep.grp (p.gr + 1) x v (by omega) (by omega) ((hrep5.keep hkR (by intro x hx; simp; omega)).mono (by intro x hx _; omega))
   ·have HB : Hid (G p.s .single p.op p.gr p.ix (.bad j)) := .gopen _ _ _ _ _ _ h40 HD.out hG h41
    clear hG
    go_wp2_with fail
    refine (expect_bad b { p with ix := j, op := p.op + 1, gr := g1 } 41 (by omega) _ hq3 hjle hs h41).mono ?_
    rintro e w4 ⟨rfl, hk4⟩
    simp only [fault]
    exact ⟨rfl, .bad j, HB.out, hkC.trans hk4, rfl⟩
end Go.Proofs.YtnfojonmohijpabGreatDoor
namespace Go.Proofs.YtnfojonmohijpabGreatDoor
open Go.RowKit
theorem one_stretch {c : Nat} {a : Int} (h : a = c) : hcells (fun n => decide (n = c)) = hcells (stretch a a) := by
 subst h
 refine hcells_congr fun n _ => ?_
 by_cases e : n = c
 ·subst e; simp [stretch]
 ·have : ¬ ((c : Int) ≤ (n : Int) ∧ (n : Int) ≤ (c : Int)) := by omega
  simp only [stretch, e, decide_false]
  rw [eq_comm, Bool.and_eq_false_iff]
  simp only [decide_eq_false_iff_not]
  omega
set_option maxRecDepth 100000 in
set_option maxHeartbeats 2000000 in
theorem single_prog (n : Nat) (IH : WaysOk n) (b : Nat) (p : QS) (w : World) (hp : QB w b p) (hgn : GN w) (hbg : b ≠ 6) (hs : p.s.size ≤ 60) (hah : 0 ≤ at' p.s p.ix ∧ ¬ notC (at' p.s p.ix)) (hop : p.op ≤ 6) (hgr : p.gr ≤ 9) (hn : p.s.size - p.ix ≤ n) :
    Calls Tryz.prog 124 #[.pointer (some ⟨b, 0, none⟩)] w (GSPost b p w) := by
 have hbl := hp.lt
 have hgl := hgn.lt
 have hlt : p.ix < p.s.size := at'_nn hah.1
 have hr0 : SRow (w.alloc (.cells sz.toArray 176)) w.heap.size sz := heap_alloc_new w _
 have hk0 : Keeps [b] w (w.alloc (.cells sz.toArray 176)) := (Keeps.refl [b] w).alloc _
 have hq0 : QB (w.alloc (.cells sz.toArray 176)) b p := hp.keep ((Keeps.refl [] w).alloc _) (by simp)
 have hg0 : GN (w.alloc (.cells sz.toArray 176)) := hgn.keep ((Keeps.refl [] w).alloc _) (by simp)
 obtain ⟨g, hg⟩ : ∃ g, w.heap.size = g := ⟨_, rfl⟩
 clear hp hgn
 go_enter Tryz.func124, Tryz.ntmps124
 go_wp2_with (first | (refine wpList_zeroSingle rfl rfl (some 2) rfl ?_; generalize w.alloc (.cells sz.toArray 176) = W at *))
 rw [hg] at hr0 hbl hgl
 refine (peek_some b p _ hq0 hlt hs).mono ?_
 rintro e w1 ⟨rfl, hq1, hk1⟩
 have hr1 := hr0.keep hk1 (by simp)
 have hg1 := hg0.keep hk1 (by simp)
 have hkA : Keeps [b] w w1 := hk0.trans (hk1.mono (by simp))
 have hsz1 : g < w1.heap.size := hr1.lt
 clear hq0 hr0 hg0 hk0 hk1
 have hcb := (at'_bd p.s p.ix).2
 obtain ⟨c, hc⟩ : ∃ c : Nat, p.cur = c := ⟨p.cur.toNat, by have : 0 ≤ p.cur := hah.1; omega⟩
 have hca : at' p.s p.ix = c := hc
 have hc256 : c < 256 := by omega
 rw [hc]
 by_cases h40 : c = 40
 ·have H40 : Hid (at' p.s p.ix = 40) := by show at' p.s p.ix = 40; omega
  have h40' : ((c : Int) == 40) = true := by simpa using (by omega : (c : Int) = 40)
  clear h40 hc hca
  go_wp2_with fail
  refine (group_prog n IH b p _ hq1 hg1 hbg hs H40.out hop hgr hn).mono ?_
  rintro e w2 ⟨q, hG, hk2, hc2⟩
  have hkB := hkA.trans hk2
  have hr2 := hr1.keep hk2 (by simp; omega)
  cases q with
  | bad j =>
   subst hc2
   simp only [fault]
   exact ⟨rfl, _, hG, hkB, rfl⟩
  | ok y j =>
   obtain ⟨x, g1⟩ := y
   obtain ⟨cs, rfl, hrep, hq2⟩ := hc2
   have hl2 : cs.length = 258 := hrep.cells.2
   have hzz : sz.toArray.size = cs.toArray.size := by simp [sz_len, hl2]
   have hgc := hrep.cells.1
   go_wp2_with (first | (refine wpList_store_row rfl 176 _ _ rfl g _ rfl rfl _ _ hr2 (infoSingleC hl2) hzz (one_all hgc) ?_))
   refine bodyPost_ret (results_cell_row rfl _ _ g _ _ _ _ rfl (setRow_heap _ _ _ _ _ _ hr2) Tryz.underlying176 rfl (infoSingleC hl2)) rfl ?_
   have hkR := (Keeps.refl [g] w2).setRow (g := g) (by simp) cs.toArray
   exact ⟨_, hG, hkB.setRow (Or.inr (by omega)) _, _, rfl, (hrep.keep hkR (by intro x hx; simp; omega)).mono (by intro x hx _; omega), hq2.keep hkR (by simp; omega)⟩
 have h40' : ((c : Int) == 40) = false := by simpa using (by omega : ¬ (c : Int) = 40)
 by_cases h91 : c = 91
 ·have H91 : Hid (at' p.s p.ix = 91) := by show at' p.s p.ix = 91; omega
  have h91' : ((c : Int) == 91) = true := by simpa using (by omega : (c : Int) = 91)
  clear h40 h91 hc hca
  go_wp2_with fail
  refine (set_prog b p _ hq1 hs H91.out hg1 hbg).mono ?_
  rintro e w2 ⟨q, hS, hk2, hc2⟩
  have hkB := hkA.trans hk2
  have hr2 := hr1.keep hk2 (by simp; omega)
  have hG : G p.s .single p.op p.gr p.ix (q.map fun f => (.set f, p.gr)) := .set _ _ _ _ H91.out hS
  cases q with
  | bad j =>
   subst hc2
   simp only [fault]
   exact ⟨rfl, _, hG, hkB, rfl⟩
  | ok f j =>
   obtain ⟨rfl, hq2⟩ := hc2
   have HG : Hid (G p.s .single p.op p.gr p.ix (.ok (.set f, p.gr) j)) := hG
   clear hG hS
   have hbs := built_set f
   have hgc := (Rep.set (w := w2) (S := fun x => w.heap.size ≤ x) f).cells.1
   go_wp2_with (first | (refine wpList_build1 rfl 176 2 (.tmp 28) rfl (some 29) rfl (.agg (hcells f)) rfl _ hbs ?_) | (refine wpList_store_row rfl 176 _ _ rfl g _ rfl rfl _ _ hr2 (infoSingleC (sc_len _ _ _)) sz_sc (one_all hgc) ?_))
   refine bodyPost_ret (results_cell_row rfl _ _ g _ _ _ _ rfl (setRow_heap _ _ _ _ _ _ hr2) Tryz.underlying176 rfl (infoSingleC (sc_len _ _ _))) rfl ?_
   have hkR := (Keeps.refl [g] w2).setRow (g := g) (by simp) (sc (.int .i64 0) (.slice none 0 0) f).toArray
   exact ⟨_, HG.out, hkB.setRow (Or.inr (by omega)) _, _, rfl, Rep.set f, hq2.keep hkR (by simp; omega)⟩
 have h91' : ((c : Int) == 91) = false := by simpa using (by omega : ¬ (c : Int) = 91)
 by_cases h92 : c = 92
 ·have H92 : Hid (at' p.s p.ix = 92) := by show at' p.s p.ix = 92; omega
  have h92' : ((c : Int) == 92) = true := by simpa using (by omega : (c : Int) = 92)
  clear h40 h91 h92 hc hca
  go_wp2_with fail
  refine (escaped_prog b p 0 _ hq1 hs (by omega) (by omega) H92.out).mono ?_
  rintro e w2 ⟨hk2, hc2⟩
  have hkB := hkA.trans hk2
  have hr2 := hr1.keep hk2 (by simp; omega)
  have hG : G p.s .single p.op p.gr p.ix ((escS p.s 0 (p.ix + 1)).map fun a => (.set (stretch a a), p.gr)) := .esc _ _ _ H92.out
  cases hes : escS p.s 0 (p.ix + 1) with
  | bad j =>
   rw [hes] at hc2 hG
   subst hc2
   simp only [fault]
   exact ⟨rfl, _, hG, hkB, rfl⟩
  | ok a j =>
   rw [hes] at hc2 hG
   obtain ⟨rfl, hq2⟩ := hc2
   have hab := escS_ok hes
   obtain ⟨m, hm⟩ : ∃ m : Nat, a = m := ⟨a.toNat, by omega⟩
   have HG : Hid (G p.s .single p.op p.gr p.ix (.ok (.set (stretch a a), p.gr) j)) := hG
   have ho := one_stretch hm
   clear hG hes
   subst hm
   go_wp2_with fail
   refine (one_set m (by omega) _).mono ?_
   rintro e w3 ⟨rfl, hk3⟩
   rw [ho]
   have hkC := hkB.trans (hk3.mono (by simp))
   have hr3 := hr2.keep hk3 (by simp)
   have hq3 := hq2.keep hk3 (by simp)
   clear ho
   have hbs := built_set (stretch (m : Int) (m : Int))
   have hgc := (Rep.set (w := w3) (S := fun x => w.heap.size ≤ x) (stretch (m : Int) (m : Int))).cells.1
   go_wp2_with (first | (refine wpList_build1 rfl 176 2 (.tmp 34) rfl (some 35) rfl (.agg (hcells (stretch (m : Int) (m : Int)))) rfl _ hbs ?_) | (refine wpList_store_row rfl 176 _ _ rfl g _ rfl rfl _ _ hr3 (infoSingleC (sc_len _ _ _)) sz_sc (one_all hgc) ?_))
   refine bodyPost_ret (results_cell_row rfl _ _ g _ _ _ _ rfl (setRow_heap _ _ _ _ _ _ hr3) Tryz.underlying176 rfl (infoSingleC (sc_len _ _ _))) rfl ?_
   have hkR := (Keeps.refl [g] w3).setRow (g := g) (by simp) (sc (.int .i64 0) (.slice none 0 0) (stretch (m : Int) (m : Int))).toArray
   exact ⟨_, HG.out, hkC.setRow (Or.inr (by omega)) _, _, rfl, Rep.set (stretch (m : Int) (m : Int)), hq3.keep hkR (by simp; omega)⟩
 have h92' : ((c : Int) == 92) = false := by simpa using (by omega : ¬ (c : Int) = 92)
 by_cases h46 : c = 46
 ·have H46 : Hid (at' p.s p.ix = 46) := by show at' p.s p.ix = 46; omega
  have h46' : ((c : Int) == 46) = true := by simpa using (by omega : (c : Int) = 46)
  clear h40 h91 h92 h46 hc hca
  go_wp2_with fail
  refine (expect_ok b p 46 (by omega) _ hq1 hs H46.out).mono ?_
  rintro e w2 ⟨rfl, hq2, hk2⟩
  have hkB := hkA.trans hk2
  have hr2 := hr1.keep hk2 (by simp; omega)
  have HG : Hid (G p.s .single p.op p.gr p.ix (.ok (.set fun _ => true, p.gr) (p.ix + 1))) := .dot _ _ _ H46.out
  go_wp2_with fail
  refine (all_set _).mono ?_
  rintro e w3 ⟨rfl, hk3⟩
  have hkC := hkB.trans (hk3.mono (by simp))
  have hr3 := hr2.keep hk3 (by simp)
  have hq3 := hq2.keep hk3 (by simp)
  have hbs := built_set (fun _ => true)
  have hgc := (Rep.set (w := w3) (S := fun x => w.heap.size ≤ x) (fun _ => true)).cells.1
  go_wp2_with (first | (refine wpList_build1 rfl 176 2 (.tmp 42) rfl (some 43) rfl (.agg (hcells (fun _ => true))) rfl _ hbs ?_) | (refine wpList_store_row rfl 176 _ _ rfl g _ rfl rfl _ _ hr3 (infoSingleC (sc_len _ _ _)) sz_sc (one_all hgc) ?_))
  refine bodyPost_ret (results_cell_row rfl _ _ g _ _ _ _ rfl (setRow_heap _ _ _ _ _ _ hr3) Tryz.underlying176 rfl (infoSingleC (sc_len _ _ _))) rfl ?_
  have hkR := (Keeps.refl [g] w3).setRow (g := g) (by simp) (sc (.int .i64 0) (.slice none 0 0) (fun _ => true)).toArray
  exact ⟨_, HG.out, hkC.setRow (Or.inr (by omega)) _, _, rfl, Rep.set (fun _ => true), hq3.keep hkR (by simp; omega)⟩
 have h46' : ((c : Int) == 46) = false := by simpa using (by omega : ¬ (c : Int) = 46)
 have HG : Hid (G p.s .single p.op p.gr p.ix (.ok (.set (stretch (c : Int) (c : Int)), p.gr) (p.ix + 1))) := by
  have := G.lit (s := p.s) p.op p.gr p.ix hah.1 (by omega) (by omega) (by omega) (by omega) hah.2
  rw [hca] at this
  exact this
 have ho := one_stretch (c := c) (a := c) rfl
 clear h40 h91 h92 h46 hca
 go_wp2_with fail
 refine (expect_ok b p c (by omega) _ hq1 hs hc).mono ?_
 rintro e w2 ⟨rfl, hq2, hk2⟩
 have hkB := hkA.trans hk2
 have hr2 := hr1.keep hk2 (by simp; omega)
 clear hc
 go_wp2_with fail
 refine (one_set c hc256 _).mono ?_
 rintro e w3 ⟨rfl, hk3⟩
 rw [ho]
 have hkC := hkB.trans (hk3.mono (by simp))
 have hr3 := hr2.keep hk3 (by simp)
 have hq3 := hq2.keep hk3 (by simp)
 clear ho
 have hbs := built_set (stretch (c : Int) (c : Int))
 have hgc := (Rep.set (w := w3) (S := fun x => w.heap.size ≤ x) (stretch (c : Int) (c : Int))).cells.1
 go_wp2_with (first | (refine wpList_build1 rfl 176 2 (.tmp 19) rfl (some 20) rfl (.agg (hcells (stretch (c : Int) (c : Int)))) rfl _ hbs ?_) | (refine wpList_store_row rfl 176 _ _ rfl g _ rfl rfl _ _ hr3 (infoSingleC (sc_len _ _ _)) sz_sc (one_all hgc) ?_))
 refine bodyPost_ret (results_cell_row rfl _ _ g _ _ _ _ rfl (setRow_heap _ _ _ _ _ _ hr3) Tryz.underlying176 rfl (infoSingleC (sc_len _ _ _))) rfl ?_
 have hkR := (Keeps.refl [g] w3).setRow (g := g) (by simp) (sc (.int .i64 0) (.slice none 0 0) (stretch (c : Int) (c : Int))).toArray
 exact ⟨_, HG.out, hkC.setRow (Or.inr (by omega)) _, _, rfl, Rep.set (stretch (c : Int) (c : Int)), hq3.keep hkR (by simp; omega)⟩
end Go.Proofs.YtnfojonmohijpabGreatDoor
namespace Go.Proofs.YtnfojonmohijpabGreatDoor
open Go.RowKit
theorem Rep.snocP {w : World} {S : Nat → Prop} {y : Pat} {ds : List Value} (hy : Rep w S .piece y ds) : ∀ {xs : List Pat} {cs : List Value}, Rep w S .plist (app xs .pnil) cs → Rep w S .plist (app (xs ++ [y]) .pnil) (cs ++ ds)
 | [], cs, h => by
  cases h with
  | pnil =>
   have := Rep.pcons y .pnil ds [] hy .pnil
   simpa [app] using this
 | x :: xs, cs, h => by
  cases h with
  | pcons _ _ a b h1 h2 =>
   rw [List.append_assoc]
   exact .pcons x _ a _ h1 (Rep.snocP hy h2)
structure YL (p : QS) (b : Nat) (w wr : World) (v : Value) (xs : List Pat) (cs : List Value) (i g1 : Nat) : Prop where
 qb : QB wr b { p with ix := i, gr := g1 }
 own : wr.ownsRow 0 180 261 v xs.length cs
 fresh : ∀ g, v.ownBlock = some g → w.heap.size ≤ g
 rep : Rep wr (fun g => w.heap.size ≤ g ∧ v.ownBlock ≠ some g) .plist (app xs .pnil) cs
 gn : GN wr
 keep : Keeps [b] w wr
 ile : i ≤ p.s.size
 len : p.ix + xs.length ≤ i
 gle : g1 ≤ 9
 spec : ∀ q, G p.s .way p.op g1 i q → G p.s .way p.op p.gr p.ix (q.map fun y => (app xs y.1, y.2))
theorem YL.start {p : QS} {b : Nat} {w : World} (hp : QB w b p) (hgn : GN w) (hle : p.ix ≤ p.s.size) (hgr : p.gr ≤ 9) : YL p b w w (.slice none 0 0) [] [] p.ix p.gr := by
 refine ⟨hp, ⟨rfl, .inl ⟨rfl, rfl⟩⟩, ?_, .pnil, hgn, Keeps.refl _ _, hle, by simp, hgr, ?_⟩
 ·intro g h
  simp [Value.ownBlock] at h
 ·intro q hq
  have : (q.map fun y => (app [] y.1, y.2)) = q := by cases q <;> rfl
  rw [this]; exact hq
theorem YL.done {p : QS} {b : Nat} {w wr : World} {v : Value} {xs : List Pat} {cs : List Value} {i g1 : Nat} (L : YL p b w wr v xs cs i g1) (h : aheadB (at' p.s i) = false) : WPost .way .way b p w (.returned v) wr := by
 by_cases hst : stopC (at' p.s i)
 ·refine ⟨_, L.spec _ (.nil _ _ _ hst), L.keep, v, rfl, ?_, L.qb⟩
  exact .way _ cs v xs.length (L.rep.mono fun g h _ => h.1) L.own fun g hg => L.fresh g hg
 ·have hn : notC (at' p.s i) := by
     unfold aheadB at h
     simp only [decide_eq_false_iff_not] at h
     unfold stopC at hst
     refine Classical.byContradiction fun hc => h ⟨by omega, hc⟩
  refine ⟨_, L.spec _ (.pbad _ _ _ _ hst (.sbad _ _ _ _ (.no _ _ _ hn))), L.keep, Or.inr ⟨v, g1, rfl, ownsRow_sl L.own, L.qb, ?_, by have := L.len; omega⟩⟩
  unfold notC at hn
  unfold stopC at hst
  unfold oddC
  omega
theorem built_pc (cs : List Value) (o : Option (Nat × Int)) (h : cs.length = 258) : Tryz.prog.built 180 [(0, .agg cs.toArray), (1, .agg (repC o).toArray)] = some (cs ++ repC o).toArray := by
 rw [built_piece]
 have e1 := fill_one plP 0 (.agg cs.toArray) [(1, .agg (repC o).toArray)] [] (sc (.int .i64 0) (.slice none 0 0) (fun _ => false)) [Value.bool false, Value.int .i64 0, Value.int .i64 0] (by rw [sc_len]; rfl) (by rw [sc_len]; simpa [Value.cells] using h)
 have e2 := fill_one plP 1 (.agg (repC o).toArray) [] cs [.bool false, .int .i64 0, .int .i64 0] [] (by rw [h]; rfl) (by simp [Value.cells, repC_len])
 simp only [List.append_nil, List.nil_append, Value.cells] at e1 e2
 exact e1.trans (e2.trans rfl)
theorem wp_build2 {o : Oper} {a : Act} {w : World} {K : Act → World → Prop} {Q : Exit → Act → World → Prop} (t i0 i1 : Nat) (x0 x1 : Operand) (ho : o.op = .build t #[(i0, x0), (i1, x1)])
    (v0 v1 : Value) (h0 : a.eval x0 = v0) (h1 : a.eval x1 = v1) (cells : Array Value) (hf : Tryz.prog.built t [(i0, v0), (i1, v1)] = some cells) (h : K (a.put o.dst (.agg cells)) w) : o.wp Tryz.prog a w K Q := by
 subst h0 h1
 have hf' : Tryz.prog.built t ((#[(i0, x0), (i1, x1)] : Array (Nat × Operand)).map fun (i, x) => (i, a.eval x)).toList = some cells := by simpa using hf
 refine wp_build t _ ho (by rw [hf']; rfl) ?_
 rw [hf']
 exact h
theorem wp_pslice {o : Oper} {a : Act} {w : World} {K : Act → World → Prop} {Q : Exit → Act → World → Prop} (x : Operand) (ho : o.op = .buildSlice 146 1 #[(0, x)]) (pc : List Value) (hx : a.eval x = .agg pc.toArray) (hl : pc.length = 261)
    (h : K (a.put o.dst (.slice (some ⟨w.heap.size, 0, none⟩) 1 1)) (w.alloc (.cells pc.toArray 180))) : o.wp Tryz.prog a w K Q := by
 obtain ⟨i0, hi0, hz0, hz1, hz2⟩ := info_parts infoPiece
 refine wp_buildSlice 146 180 1 #[(0, x)] ho pc.toArray i0 _ Tryz.underlying146 hi0 hz0 (by rw [hz1]; decide) (by rw [hz1]; decide) ?_ h
 rw [hz1]
 have := piece_fill pc hl
 have e : (Value.agg pz.toArray).cells.size = 261 := by simp [Value.cells, pz_len]
 have e2 : ((#[(0, x)] : Array (Nat × Operand)).map fun (i, x) => (i, a.eval x)).toList = [(0, .agg pc.toArray)] := by simp [hx]
 rw [e, e2]
 exact this
theorem Rmap_map {α β γ : Type} (q : R α) (f : α → β) (g : β → γ) : (q.map f).map g = q.map fun x => g (f x) := by cases q <;> rfl
theorem YL.next {p : QS} {b : Nat} {w w1 X w5 w7 : World} {v : Value} {xs : List Pat} {cs c1 : List Value} {i j k g1 g2 g g' cap : Nat} {x : Pat} {o : Option (Nat × Int)} (L : YL p b w w1 v xs cs i g1) (hbl : b < w.heap.size) (hgl : 6 < w.heap.size) (hbg : b ≠ 6)
    (hst : ¬ stopC (at' p.s i)) (hG : G p.s .single p.op g1 i (.ok (x, g2) j)) (hR : RepR p.s j (.ok o k)) (hkV : Keeps [b] w1 X) (hrepV : Rep X (fun y => w1.heap.size ≤ y ∧ y < g) .single x c1) (hgX : g < X.heap.size)
    (hk5 : Keeps [b] X w5) (hq5 : QB w5 b { p with ix := k, gr := g2 }) (hij : i < j) (hjle : j ≤ p.s.size) (hg2 : g2 ≤ 9)
    (hown : w7.ownsRow 0 180 261 (.slice (some ⟨g', 0, none⟩) (xs.length + 1) cap) (xs.length + 1) (cs ++ (c1 ++ repC o))) (hgrow : (w5.alloc (.cells (c1 ++ repC o).toArray 180)).grownBy w7 v.ownBlock) (hat : v.ownBlock = some g' ∨ g' = w5.heap.size + 1) :
    YL p b w w7 (.slice (some ⟨g', 0, none⟩) (xs.length + 1) cap) (xs ++ [withRep x o]) (cs ++ (c1 ++ repC o)) k g2 := by
 have hk7 : Keeps v.ownBlock.toList w5 w7 := ((Keeps.refl v.ownBlock.toList w5).alloc _).trans (Keeps.ofGrown hgrow)
 have hfr : ∀ y, y ∈ v.ownBlock.toList → w.heap.size ≤ y := by
  intro y hy
  rw [Option.mem_toList] at hy
  exact L.fresh y hy
 have hvl := World.ownsRow.lt L.own
 have hk15 : Keeps [b] w1 w5 := hkV.trans hk5
 have s1 := L.keep.size
 have s5 := hk5.size
 have s15 := hk15.size
 have hkok := hR.ok
 refine ⟨hq5.keep hk7 ?_, ?_, ?_, ?_, (L.gn.keep hk15 ?_).keep hk7 ?_, (L.keep.trans hk15).fresh hk7 ?_, hkok.2 hjle, ?_, hg2, ?_⟩
 ·intro h; have := hfr b h; omega
 ·rw [List.length_append, List.length_singleton]; exact hown
 ·intro y hy
  cases hy
  rcases hat with h | h
  ·exact L.fresh _ h
  ·show w.heap.size ≤ g'; omega
 ·refine Rep.snocP (.piece x o c1 hR.okRep ?_) ?_
  ·refine ((hrepV.keep hk5 (by intro y hy; simp; have := L.qb.lt; omega)).keep hk7 ?_).mono ?_
   ·intro y hy hm
    rw [Option.mem_toList] at hm
    have := (hvl y hm).2
    omega
   ·intro y hy _
    refine ⟨by omega, ?_⟩
    intro e
    cases e
    rcases hat with h | h
    ·have := (hvl _ h).2; have := hy.1; simp at this; omega
    ·have := hy.2; simp at this; omega
  ·refine (((L.rep.mono (S' := fun y => (w.heap.size ≤ y ∧ v.ownBlock ≠ some y) ∧ y < w1.heap.size) fun y h1 h2 => ⟨h1, h2⟩).keep hk15 ?_).keep hk7 ?_).mono ?_
   ·intro y hy; have := hy.1.1; simp; omega
   ·intro y hy hm
    rw [Option.mem_toList] at hm
    exact hy.1.2 hm
   ·intro y hy _
    refine ⟨hy.1.1, ?_⟩
    intro e
    cases e
    rcases hat with h | h
    ·exact hy.1.2 h
    ·have := hy.2; simp at this; omega
 ·simp; omega
 ·intro h; have := hfr _ h; omega
 ·intro y hy; right; exact hfr y hy
 ·rw [List.length_append, List.length_singleton]
  have := L.len
  have := hkok.1
  omega
 ·intro q' hq'
  have h1 : G p.s .piece p.op g1 i (.ok (withRep x o, g2) k) := .rep _ _ _ _ _ _ _ hG hR
  have h2 := L.spec _ (.cons _ _ _ _ _ _ _ hst h1 hq')
  rw [Rmap_map] at h2
  have e : (fun y : Pat × Nat => (app (xs ++ [withRep x o]) y.1, y.2)) = fun y => (app xs (Pat.pcons (withRep x o) y.1), y.2) := by
   funext y; rw [app_snoc]
  rw [e]
  exact h2
set_option maxRecDepth 100000 in
set_option maxHeartbeats 2000000 in
theorem way_prog (n : Nat) (IH : WaysOk n) (b : Nat) (p : QS) (w : World) (hp : QB w b p) (hgn : GN w) (hbg : b ≠ 6) (hs : p.s.size ≤ 60) (hle : p.ix ≤ p.s.size) (hop : p.op ≤ 6) (hgr : p.gr ≤ 9) (hn : p.s.size - p.ix ≤ n) :
    Calls Tryz.prog 99 #[.pointer (some ⟨b, 0, none⟩)] w (WPost .way .way b p w) := by
 have hbl := hp.lt
 have hgl := hgn.lt
 go_enter Tryz.func99, Tryz.ntmps99
 go_wp2_with fail
 go_loopw [3] (fun v wr => ∃ xs cs i g1, YL p b w wr v xs cs i g1) (fun _ wr => muQ wr b)
 case atStart => exact ⟨[], [], p.ix, p.gr, YL.start hp hgn hle hgr⟩
 case round =>
  obtain ⟨xs, cs, i, g1, L⟩ := hrel
  clear hp hgn
  have hmu := muQ_eq L.qb
  go_wp2_with fail
  refine (singleAhead_any b { p with ix := i, gr := g1 } _ L.qb L.ile hs).mono ?_
  rintro e w1 ⟨rfl, hq1, hk1⟩
  have L1 : YL p b w w1 u3 xs cs i g1 := ⟨hq1, L.own.keep hk1 (by simp), L.fresh, L.rep.keep hk1 (by simp), L.gn.keep hk1 (by simp), L.keep.trans (hk1.mono (by simp)), L.ile, L.len, L.gle, L.spec⟩
  have hcur : QS.cur { p with ix := i, gr := g1 } = at' p.s i := rfl
  rw [hcur]
  clear L hk1 hq1 hcur
  cases hah : aheadB (at' p.s i) with
  | false =>
   go_wp2_with fail
   go_ret
   exact L1.done hah
  | true =>
   have hah' : 0 ≤ at' p.s i ∧ ¬ notC (at' p.s i) := by unfold aheadB at hah; simpa using hah
   have hst : ¬ stopC (at' p.s i) := by
    have := hah'.2
    unfold notC at this
    unfold stopC
    omega
   have hlen := L1.len
   go_wp2_with fail
   refine (single_prog n IH b { p with ix := i, gr := g1 } _ L1.qb L1.gn hbg hs hah' hop L1.gle (by simp; omega)).mono ?_
   rintro e w2 ⟨q, hG, hk2, hc2⟩
   have hbl1 := L1.qb.lt
   cases q with
   | bad j =>
    subst hc2
    simp only [fault]
    exact ⟨rfl, _, L1.spec _ (.pbad _ _ _ _ hst (.sbad _ _ _ _ hG)), L1.keep.trans hk2, Or.inl rfl⟩
   | ok y j =>
    obtain ⟨x, g2⟩ := y
    obtain ⟨c1, rfl, hrep, hq2⟩ := hc2
    have hokb := hG.okb x g2 j rfl
    have hij : i < j := hokb.2.2.1 (Or.inr rfl)
    have hjle : j ≤ p.s.size := hokb.2.1 L1.ile
    have hg2 : g2 ≤ 9 := hokb.2.2.2.2 L1.gle
    have hl1 : c1.length = 258 := hrep.cells.2
    have hzz : sz.toArray.size = c1.toArray.size := by simp [sz_len, hl1]
    have hgc := hrep.cells.1
    have hr0 : SRow (w2.alloc (.cells sz.toArray 176)) w2.heap.size sz := heap_alloc_new w2 _
    have hk3 : Keeps [] w2 (w2.alloc (.cells sz.toArray 176)) := (Keeps.refl [] w2).alloc _
    have HG : Hid (G p.s .single p.op g1 i (.ok (x, g2) j)) := hG
    clear hokb hG hah hah'
    go_wp2_with (first | (refine wpList_zeroSingle rfl rfl (some 4) rfl ?_; generalize w2.alloc (.cells sz.toArray 176) = W at *) | (refine wpList_store_row rfl 176 _ _ rfl w2.heap.size _ rfl rfl _ _ hr0 (infoSingleC hl1) hzz (one_all hgc) ?_))
    obtain ⟨q, hq⟩ := RepR.some p.s j
    obtain ⟨g, hg⟩ : ∃ g, w2.heap.size = g := ⟨_, rfl⟩
    rw [hg] at hr0 ⊢
    have hkS := (Keeps.refl [g] W).setRow (g := g) (by simp) c1.toArray
    have hrS : SRow (W.setRow g c1.toArray) g c1 := setRow_heap _ _ _ _ _ _ hr0
    have hkW : Keeps [b] w1 (W.setRow g c1.toArray) := ((hk2.trans (hk3.mono (by simp)))).setRow (Or.inr (by have := hk2.size; omega)) _
    have hqW : QB (W.setRow g c1.toArray) b { p with ix := j, gr := g2 } := (hq2.keep hk3 (by simp)).keep hkS (by have := hq2.lt; simp; omega)
    have hrepW : Rep (W.setRow g c1.toArray) (fun y => w1.heap.size ≤ y ∧ y < g) .single x c1 := ((hrep.mono (S' := fun y => w1.heap.size ≤ y ∧ y < g) (by intro y hy hy2; exact ⟨hy, by omega⟩)).keep hk3 (by simp)).keep hkS (by intro y hy; simp; omega)
    have hgl2 : g < (W.setRow g c1.toArray).heap.size := hrS.lt
    have hbg2 : b < g := by have := hq2.lt; omega
    have hg1 : w1.heap.size ≤ g := by have := hk2.size; omega
    clear hr0 hk3 hkS hk2 hq2 hrep
    generalize W.setRow g c1.toArray = V at *
    have hwD : Keeps [] V V.drew := (Keeps.refl [] V).drewN 1
    have hkV : Keeps [b] w1 V.drew := hkW.trans (hwD.mono (by simp))
    have hrV := hrS.keep hwD (by simp)
    have hqV := hqW.keep hwD (by simp)
    have hrepV := hrepW.keep hwD (by simp)
    have hgV : g < V.drew.heap.size := hgl2
    clear hkW hrS hqW hrepW hgl2 hwD
    refine wp_region_any (by kernel_rfl) ?_
    change wpAny _ _ _ _ _ _ _ (World.drew _)
    generalize V.drew = X at *
    refine wpAny_take (i := 0) (v := u3) rfl (by kernel_rfl) (by kernel_rfl) (by kernel_rfl) (fun _ _ _ h => h) (Or.inl ⟨by rfl, fun w => by go_simp⟩) ?_
    refine wpAny_take (i := 2) (v := .pointer (some ⟨b, 0, none⟩)) rfl (by kernel_rfl) (by kernel_rfl) (by kernel_rfl) (fun _ _ _ h => h) (Or.inl ⟨by rfl, fun w => by go_simp⟩) ?_
    refine wpAny_ready (rs := [1, 3]) (by kernel_rfl) (by simp) ?_
    refine AllReady.cons rfl (fun K hK => ?_) (AllReady.cons rfl (fun K hK => ?_) AllReady.nil)
    ·rw [if_pos (by rfl)]
     refine wp_load_row 176 _ rfl g rfl _ _ _ _ hrV Tryz.underlying176 rfl (infoSingleC hl1) (hK _ _ ?_)
     clear hK K
     refine wpAny_ready (rs := [3]) (by kernel_rfl) (by simp) ?_
     refine AllReady.cons rfl (fun K hK => ?_) AllReady.nil
     go_simp
     refine (repeat_prog b { p with ix := j, gr := g2 } X hqV hs hjle q hq).mono ?_
     rintro e w5 ⟨hk5, hc5⟩
     cases q with
     | bad k =>
      subst hc5
      simp only [fault]
      refine ⟨rfl, _, L1.spec _ (.pbad _ _ _ _ hst (.rep _ _ _ _ _ _ _ HG.out hq)), (L1.keep.trans hkV).trans hk5, Or.inl rfl⟩
     | ok o k =>
     obtain ⟨rfl, hq5⟩ := hc5
     refine hK _ _ ?_
     clear hK K
     have hbp := built_pc c1 o hl1
     have hpl : (c1 ++ repC o).length = 261 := by simp [hl1, repC_len]
     have hp1c : ∀ u ∈ c1 ++ repC o, u.oneCell' = true := (Rep.piece x o c1 hq.okRep hrepV).cells.1
     obtain ⟨i0, hi0, hz0, hz1, hz2⟩ := info_parts infoPiece
     have hlm : xs.length + 1 ≤ maxLen := by unfold maxLen; have := L1.ile; omega
     have hbn : u3.ownBlock ≠ some b := by intro e; have := L1.fresh b e; omega
     have hown5 := (L1.own.keep hkV (by intro y hy hm; simp at hm; subst hm; exact hbn hy)).keep hk5 (by intro y hy hm; simp at hm; subst hm; exact hbn hy)
     refine wpAny_ready (rs := [4]) (by kernel_rfl) (by simp) ?_
     refine AllReady.cons rfl (fun K hK => ?_) AllReady.nil
     rw [if_pos (by rfl)]
     refine wp_build2 180 0 1 _ _ rfl (.agg c1.toArray) (.agg (repC o).toArray) rfl rfl _ hbp (hK _ _ ?_)
     clear hK K
     refine wpAny_ready (rs := [5]) (by kernel_rfl) (by simp) ?_
     refine AllReady.cons rfl (fun K hK => ?_) AllReady.nil
     rw [if_pos (by rfl)]
     refine wp_pslice _ rfl (c1 ++ repC o) rfl hpl (hK _ _ ?_)
     clear hK K
     refine wpAny_ready (rs := [6]) (by kernel_rfl) (by simp) ?_
     refine AllReady.cons rfl (fun K hK => ?_) AllReady.nil
     refine step_append_lies _ rfl _ _ _ rfl 0 180 i0 _ 261 312 Tryz.underlying146 hi0 hz0 hz1 hz2 (by simp [Value.cells, pz_len]) (by omega) u3 xs.length cs rfl (hown5.alloc _) ⟨w5.heap.size, 0, none⟩ 1 1 (c1 ++ repC o) rfl (by rw [hpl]) (World.news_of_block (cs := (c1 ++ repC o).toArray) (t := 180) (fr := (0, 0)) (heap_alloc_new w5 _)) hp1c (by omega) hlm (by omega) (by simp) (w5.heap.size + 1) (by simp) ?_
     intro g' cap w7 hown7 hgrow hat hlt7
     refine hK _ _ ?_
     clear hK K
     have L7 := L1.next hbl hgl hbg hst HG.out hq hkV hrepV hgV hk5 hq5 hij hjle hg2 hown7 hgrow hat
     refine wpAny_ready (rs := [7]) (by kernel_rfl) (by simp) ?_
     refine AllReady.cons rfl (fun K hK => ?_) AllReady.nil
     go_simp
     refine hK _ _ ?_
     clear hK K
     refine wpAny_done (by kernel_rfl) ?_ _
     go_wp2_with fail
     go_roundw
     case rel => exact ⟨_, _, _, _, L7⟩
     case measure => rw [hmu, muQ_eq L7.qb]; have := hq.ok; simp; omega
    ·go_simp
     refine (repeat_prog b { p with ix := j, gr := g2 } X hqV hs hjle q hq).mono ?_
     rintro e w5 ⟨hk5, hc5⟩
     cases q with
     | bad k =>
      subst hc5
      simp only [fault]
      refine ⟨rfl, _, L1.spec _ (.pbad _ _ _ _ hst (.rep _ _ _ _ _ _ _ HG.out hq)), (L1.keep.trans hkV).trans hk5, Or.inl rfl⟩
     | ok o k =>
     obtain ⟨rfl, hq5⟩ := hc5
     refine hK _ _ ?_
     clear hK K
     have hbp := built_pc c1 o hl1
     have hpl : (c1 ++ repC o).length = 261 := by simp [hl1, repC_len]
     have hp1c : ∀ u ∈ c1 ++ repC o, u.oneCell' = true := (Rep.piece x o c1 hq.okRep hrepV).cells.1
     obtain ⟨i0, hi0, hz0, hz1, hz2⟩ := info_parts infoPiece
     have hlm : xs.length + 1 ≤ maxLen := by unfold maxLen; have := L1.ile; omega
     have hbn : u3.ownBlock ≠ some b := by intro e; have := L1.fresh b e; omega
     have hown5 := (L1.own.keep hkV (by intro y hy hm; simp at hm; subst hm; exact hbn hy)).keep hk5 (by intro y hy hm; simp at hm; subst hm; exact hbn hy)
     have hr5 := hrV.keep hk5 (by simp; omega)
     refine wpAny_ready (rs := [1]) (by kernel_rfl) (by simp) ?_
     refine AllReady.cons rfl (fun K hK => ?_) AllReady.nil
     rw [if_pos (by rfl)]
     refine wp_load_row 176 _ rfl g rfl _ _ _ _ hr5 Tryz.underlying176 rfl (infoSingleC hl1) (hK _ _ ?_)
     clear hK K
     refine wpAny_ready (rs := [4]) (by kernel_rfl) (by simp) ?_
     refine AllReady.cons rfl (fun K hK => ?_) AllReady.nil
     rw [if_pos (by rfl)]
     refine wp_build2 180 0 1 _ _ rfl (.agg c1.toArray) (.agg (repC o).toArray) rfl rfl _ hbp (hK _ _ ?_)
     clear hK K
     refine wpAny_ready (rs := [5]) (by kernel_rfl) (by simp) ?_
     refine AllReady.cons rfl (fun K hK => ?_) AllReady.nil
     rw [if_pos (by rfl)]
     refine wp_pslice _ rfl (c1 ++ repC o) rfl hpl (hK _ _ ?_)
     clear hK K
     refine wpAny_ready (rs := [6]) (by kernel_rfl) (by simp) ?_
     refine AllReady.cons rfl (fun K hK => ?_) AllReady.nil
     refine step_append_lies _ rfl _ _ _ rfl 0 180 i0 _ 261 312 Tryz.underlying146 hi0 hz0 hz1 hz2 (by simp [Value.cells, pz_len]) (by omega) u3 xs.length cs rfl (hown5.alloc _) ⟨w5.heap.size, 0, none⟩ 1 1 (c1 ++ repC o) rfl (by rw [hpl]) (World.news_of_block (cs := (c1 ++ repC o).toArray) (t := 180) (fr := (0, 0)) (heap_alloc_new w5 _)) hp1c (by omega) hlm (by omega) (by simp) (w5.heap.size + 1) (by simp) ?_
     intro g' cap w7 hown7 hgrow hat hlt7
     refine hK _ _ ?_
     clear hK K
     have L7 := L1.next hbl hgl hbg hst HG.out hq hkV hrepV hgV hk5 hq5 hij hjle hg2 hown7 hgrow hat
     refine wpAny_ready (rs := [7]) (by kernel_rfl) (by simp) ?_
     refine AllReady.cons rfl (fun K hK => ?_) AllReady.nil
     go_simp
     refine hK _ _ ?_
     clear hK K
     refine wpAny_done (by kernel_rfl) ?_ _
     go_wp2_with fail
     go_roundw
     case rel => exact ⟨_, _, _, _, L7⟩
     case measure => rw [hmu, muQ_eq L7.qb]; have := hq.ok; simp; omega
end Go.Proofs.YtnfojonmohijpabGreatDoor
