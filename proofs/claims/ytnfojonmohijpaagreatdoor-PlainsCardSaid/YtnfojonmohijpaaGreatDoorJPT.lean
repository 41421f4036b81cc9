/-
  DERIVED. Contracts of the program's singleAhead and group, over a contract of ways for what is shorter. Conditions: the text is at most 60 bytes long, the place is within it, the variable classNames holds the seven names.
-/
import Derived.Test.YtnfojonmohijpaaGreatDoorJPS
import Derived.Test.YtnfojonmohijpaaGreatDoorJRM
set_option linter.unusedSimpArgs false
set_option linter.unusedVariables false
namespace Go.Proofs.YtnfojonmohijpaaGreatDoor
open Go.RowKit

def notC_dec (c : Int) : Decidable (0 ≤ c ∧ ¬ notC c) := inferInstanceAs (Decidable (0 ≤ c ∧ ¬ (c = 94 ∨ c = 36 ∨ c = 124 ∨ c = 41 ∨ c = 42 ∨ c = 43 ∨ c = 63 ∨ c = 123)))
def aheadB (c : Int) : Bool := @decide (0 ≤ c ∧ ¬ notC c) (notC_dec c)
set_option maxRecDepth 100000 in
theorem not_idx (c : Int) (h0 : 0 ≤ c) (h1 : c ≤ 255) : decide (Lib.indexByte (ByteArray.data ⟨#[94, 36, 124, 41, 42, 43, 63, 123]⟩).toList c.toNat.toUInt8 < 0) = aheadB c := by
  obtain ⟨n, rfl⟩ : ∃ n : Nat, c = n := ⟨c.toNat, by omega⟩
  have hn : n < 256 := by omega
  have key : ∀ m : Fin 256, decide (Lib.indexByte (ByteArray.data ⟨#[94, 36, 124, 41, 42, 43, 63, 123]⟩).toList ((m.val : Int)).toNat.toUInt8 < 0) = aheadB (m.val : Int) := by decide
  exact key ⟨n, hn⟩

set_option maxRecDepth 100000 in
set_option maxHeartbeats 400000 in
theorem singleAhead_any (b : Nat) (p : QS) (w : World) (hp : QB w b p) (hle : p.ix ≤ p.s.size) (hs : p.s.size ≤ 60) :
    Calls Tryz.prog 203 #[.pointer (some ⟨b, 0, none⟩)] w fun e w' => e = .returned (.bool (aheadB p.cur)) ∧ QB w' b p ∧ Keeps [] w w' := by
  by_cases hlt : p.ix < p.s.size
  · have h0 : 0 ≤ p.cur := by show 0 ≤ at' p.s p.ix; rw [at'_lt hlt]; omega
    have h1 : p.cur ≤ 255 := (at'_bd p.s p.ix).2
    have hi := not_idx p.cur h0 h1
    by_cases hn : Lib.indexByte (ByteArray.data ⟨#[94, 36, 124, 41, 42, 43, 63, 123]⟩).toList p.cur.toNat.toUInt8 < 0
    · rw [decide_eq_true hn] at hi
      rw [← hi]
      clear hi
      generalize hgx : Lib.indexByte (ByteArray.data ⟨#[94, 36, 124, 41, 42, 43, 63, 123]⟩).toList p.cur.toNat.toUInt8 = x at *
      go_enter Tryz.func203, Tryz.ntmps203
      go_wp2_with (first | (go_at_call 167; refine (peek_some b p _ hp hlt hs).mono ?_; rintro e w1 ⟨rfl, hp1, hk1⟩) | (go_at_call 246; refine (index_any _ p.cur _).mono ?_; rintro e w2 ⟨rfl, rfl⟩; rw [hgx]))
      go_ret
      exact ⟨ret_bool (by simp), hp1, hk1⟩
    · rw [decide_eq_false hn] at hi
      rw [← hi]
      clear hi
      generalize hgx : Lib.indexByte (ByteArray.data ⟨#[94, 36, 124, 41, 42, 43, 63, 123]⟩).toList p.cur.toNat.toUInt8 = x at *
      go_enter Tryz.func203, Tryz.ntmps203
      go_wp2_with (first | (go_at_call 167; refine (peek_some b p _ hp hlt hs).mono ?_; rintro e w1 ⟨rfl, hp1, hk1⟩) | (go_at_call 246; refine (index_any _ p.cur _).mono ?_; rintro e w2 ⟨rfl, rfl⟩; rw [hgx]))
      go_ret
      exact ⟨ret_bool (by simp; omega), hp1, hk1⟩
  · have hge : p.ix = p.s.size := by omega
    have HC : Hid (aheadB p.cur = false) := by
      show aheadB (at' p.s p.ix) = false
      rw [at'_ge (by omega)]; rfl
    go_enter Tryz.func203, Tryz.ntmps203
    go_wp2_with (first | (go_at_call 167; refine (peek_none b p _ hp hge).mono ?_; rintro e w1 ⟨rfl, hp1, hk1⟩))
    go_ret
    exact ⟨by rw [HC.out]; rfl, hp1, hk1⟩

/-- Bytes at which the program's ways end though no pattern goes on so. -/
def oddC (c : Int) : Prop := c = 94 ∨ c = 42 ∨ c = 43 ∨ c = 63 ∨ c = 123

/-- A slice. -/
def IsSl (v : Value) : Prop := ∃ a n c, v = .slice a n c
theorem IsSl.cells {v : Value} (h : IsSl v) : v.cells = #[v] := by obtain ⟨a, n, c, rfl⟩ := h; rfl
theorem IsSl.one {v : Value} (h : IsSl v) : v.oneCell' = true := by obtain ⟨a, n, c, rfl⟩ := h; rfl
theorem ownsRow_sl {w : World} {e : TypeId} {size : Nat} {v : Value} {n : Nat} {xs : List Value} (h : w.ownsRow 0 e size v n xs) : IsSl v := by
  rcases h.2 with ⟨rfl, _⟩ | ⟨g, cap, cur, rfl, _⟩ <;> exact ⟨_, _, _, rfl⟩
/-- What way and ways leave. -/
def WPost (kd : Kd) (kr : Kr) (b : Nat) (p : QS) (w : World) (e : Ending) (w' : World) : Prop :=
  ∃ q, G p.s kd p.op p.gr p.ix q ∧ Keeps [b] w w' ∧ match q with
    | .ok (x, g1) j => ∃ v, e = .returned v ∧ Rep w' (fun g => w.heap.size ≤ g) kr x [v] ∧ QB w' b { p with ix := j, gr := g1 }
    | .bad j => e = fault j ∨ ∃ v g1, e = .returned v ∧ IsSl v ∧ QB w' b { p with ix := j, gr := g1 } ∧ oddC (at' p.s j) ∧ p.ix ≤ j
/-- What single and group leave. -/
def GSPost (b : Nat) (p : QS) (w : World) (e : Ending) (w' : World) : Prop :=
  ∃ q, G p.s .single p.op p.gr p.ix q ∧ Keeps [b] w w' ∧ match q with
    | .ok (x, g1) j => ∃ cs, e = .returned (.agg cs.toArray) ∧ Rep w' (fun g => w.heap.size ≤ g) .single x cs ∧ QB w' b { p with ix := j, gr := g1 }
    | .bad j => e = fault j

/-- ways does its work where less than n bytes are left. -/
def WaysOk (n : Nat) : Prop := ∀ (b : Nat) (p : QS) (w : World), QB w b p → GN w → b ≠ 6 → p.s.size ≤ 60 → p.ix ≤ p.s.size → p.op ≤ 6 → p.gr ≤ 9 → p.s.size - p.ix < n →
  Calls Tryz.prog 117 #[.pointer (some ⟨b, 0, none⟩)] w (WPost .ways .ways b p w)

/-- The block of a single. -/
def SRow (w : World) (g : Nat) (cs : List Value) : Prop := w.heap[g]? = some (.cells cs.toArray 208 (0, 0))
theorem SRow.lt {w : World} {g : Nat} {cs : List Value} (h : SRow w g cs) : g < w.heap.size := (Array.getElem?_eq_some_iff.1 h).1
theorem SRow.keep {w w' : World} {g : Nat} {cs : List Value} {S : List Nat} (h : SRow w g cs) (hk : Keeps S w w') (hb : g ∉ S) : SRow w' g cs := (hk.block g h.lt hb).trans h
def sz : List Value := sc (.int .i64 0) (.slice none 0 0) fun _ => false
theorem infoSingle : (Tryz.prog.info? 208).map (·.size) = some 258 := by kernel_rfl
theorem infoSingleC {cs : List Value} (h : cs.length = 258) : (Tryz.prog.info? 208).map (·.size) = some cs.toArray.size := by rw [infoSingle]; simp [h]
theorem one_all {cs : List Value} (h : ∀ u ∈ cs, u.oneCell' = true) : cs.toArray.all (·.oneCell') = true := by simpa using h
/-- A new variable that holds no single. -/
theorem wpList_zeroSingle {ops : Array Oper} {rest : List Oper} {o : Oper} {a : Act} {w : World} {Q : Exit → Act → World → Prop} (hg : o.guard = none) (ho : o.op = .alloc 208) (d : Option Tmp) (hd : o.dst = d)
    (h : wpList Tryz.prog ops Q rest (a.put d (.pointer (some ⟨w.heap.size, 0, none⟩))) (w.alloc (.cells sz.toArray 208))) : wpList Tryz.prog ops Q (o :: rest) a w := by
  subst hd
  refine wpList_plain hg fun K hK => ?_
  unfold Oper.wp execOp
  simp only [ho, Sem.run_bind, alloc_single, Sem.run_pure, Result.andThen_ok]
  exact hK _ _ h
theorem sz_len : sz.length = 258 := sc_len _ _ _

theorem built_set (f : Nat → Bool) : Tryz.prog.built 208 [(2, .agg (hcells f))] = some (sc (.int .i64 0) (.slice none 0 0) f).toArray := by
  rw [built_single]
  have := fill_one plS 2 (.agg (hcells f)) [] [.int .i64 0, .slice none 0 0] (hcells fun _ => false).toList [] (by simp [plS, hcells_size]) (by simp [Value.cells, hcells_size])
  simp only [List.append_nil] at this
  exact this.trans rfl
theorem built_grp (k : Int) (v : Value) (hv : v.cells = #[v]) : Tryz.prog.built 208 [(0, .int .i64 k), (1, v)] = some (sc (.int .i64 k) v fun _ => false).toArray := by
  rw [built_single]
  have h1 := fill_one plS 0 (.int .i64 k) [(1, v)] [] [.int .i64 0] (.slice none 0 0 :: (hcells fun _ => false).toList) rfl rfl
  have h2 := fill_one plS 1 v [] [.int .i64 k] [.slice none 0 0] (hcells fun _ => false).toList rfl (by rw [hv]; rfl)
  rw [hv] at h2
  exact h1.trans (h2.trans rfl)

theorem wpList_build1 {ops : Array Oper} {rest : List Oper} {o : Oper} {a : Act} {w : World} {Q : Exit → Act → World → Prop} (hg : o.guard = none) (t i0 : Nat) (x0 : Operand) (ho : o.op = .build t #[(i0, x0)]) (d : Option Tmp) (hd : o.dst = d)
    (v0 : Value) (h0 : a.eval x0 = v0) (cells : Array Value) (hf : Tryz.prog.built t [(i0, v0)] = some cells) (h : wpList Tryz.prog ops Q rest (a.put d (.agg cells)) w) : wpList Tryz.prog ops Q (o :: rest) a w := by
  refine wpList_buildTo hg t _ ho d hd cells ?_ h
  subst h0
  simpa using hf
theorem wpList_build2 {ops : Array Oper} {rest : List Oper} {o : Oper} {a : Act} {w : World} {Q : Exit → Act → World → Prop} (hg : o.guard = none) (t i0 i1 : Nat) (x0 x1 : Operand) (ho : o.op = .build t #[(i0, x0), (i1, x1)]) (d : Option Tmp) (hd : o.dst = d)
    (v0 v1 : Value) (h0 : a.eval x0 = v0) (h1 : a.eval x1 = v1) (cells : Array Value) (hf : Tryz.prog.built t [(i0, v0), (i1, v1)] = some cells) (h : wpList Tryz.prog ops Q rest (a.put d (.agg cells)) w) : wpList Tryz.prog ops Q (o :: rest) a w := by
  refine wpList_buildTo hg t _ ho d hd cells ?_ h
  subst h0 h1
  simpa using hf
theorem sz_sc {k v : Value} {f : Nat → Bool} : sz.toArray.size = (sc k v f).toArray.size := by simp [sz_len, sc_len]

set_option maxRecDepth 100000 in
set_option maxHeartbeats 2000000 in
theorem group_prog (n : Nat) (IH : WaysOk n) (b : Nat) (p : QS) (w : World) (hp : QB w b p) (hgn : GN w) (hbg : b ≠ 6) (hs : p.s.size ≤ 60) (h40 : at' p.s p.ix = 40) (hop : p.op ≤ 6) (hgr : p.gr ≤ 9) (hn : p.s.size - p.ix ≤ n) :
    Calls Tryz.prog 247 #[.pointer (some ⟨b, 0, none⟩)] w (GSPost b p w) := by
  have hbl := hp.lt
  have hgl := hgn.lt
  have hlt : p.ix < p.s.size := at'_nn (by omega)
  have hr0 : SRow (w.alloc (.cells sz.toArray 208)) w.heap.size sz := heap_alloc_new w _
  have hk0 : Keeps [b] w (w.alloc (.cells sz.toArray 208)) := (Keeps.refl [b] w).alloc _
  have hq0 : QB (w.alloc (.cells sz.toArray 208)) b p := hp.keep ((Keeps.refl [] w).alloc _) (by simp)
  have hg0 : GN (w.alloc (.cells sz.toArray 208)) := hgn.keep ((Keeps.refl [] w).alloc _) (by simp)
  obtain ⟨g, hg⟩ : ∃ g, w.heap.size = g := ⟨_, rfl⟩
  obtain ⟨_, _, c2, c3, _, f2, f3⟩ := hq0.main
  clear hp hgn
  by_cases hdeep : p.op = 6 ∨ p.gr = 9
  · have HD : Hid (GSPost b p w (fault p.ix) (w.alloc (.cells sz.toArray 208))) := ⟨.bad p.ix, .deep _ _ _ h40 hdeep, hk0, rfl⟩
    by_cases h6 : p.op = 6
    · have h6' : ((p.op : Int) == 6) = true := by simpa using (by omega : (p.op : Int) = 6)
      clear hdeep h6
      go_enter Tryz.func247, Tryz.ntmps247
      go_wp2_with (first | (refine wpList_zeroSingle rfl rfl (some 2) rfl ?_; generalize w.alloc (.cells sz.toArray 208) = W at *))
      refine (pfail_any b p _ hq0).mono ?_
      rintro e w4 ⟨rfl, rfl⟩
      have hd := HD.out
      simp only [fault] at hd ⊢
      exact ⟨rfl, hd⟩
    · have h6' : ((p.op : Int) == 6) = false := by simpa using (by omega : ¬ (p.op : Int) = 6)
      have h9' : ((p.gr : Int) == 9) = true := by simpa using (by omega : (p.gr : Int) = 9)
      clear hdeep h6
      go_enter Tryz.func247, Tryz.ntmps247
      go_wp2_with (first | (refine wpList_zeroSingle rfl rfl (some 2) rfl ?_; generalize w.alloc (.cells sz.toArray 208) = W at *))
      refine (pfail_any b p _ hq0).mono ?_
      rintro e w4 ⟨rfl, rfl⟩
      have hd := HD.out
      simp only [fault] at hd ⊢
      exact ⟨rfl, hd⟩
  · have h6' : ((p.op : Int) == 6) = false := by simpa using (by omega : ¬ (p.op : Int) = 6)
    have h9' : ((p.gr : Int) == 9) = false := by simpa using (by omega : ¬ (p.gr : Int) = 9)
    have HD : Hid (¬ (p.op = 6 ∨ p.gr = 9)) := hdeep
    have ho5 : p.op ≤ 5 := by omega
    have hg8 : p.gr ≤ 8 := by omega
    clear hdeep
    go_enter Tryz.func247, Tryz.ntmps247
    go_wp2_with (first | (refine wpList_zeroSingle rfl rfl (some 2) rfl ?_; generalize w.alloc (.cells sz.toArray 208) = W at *))
    refine (expect_ok b p 40 (by omega) _ hq0 hs h40).mono ?_
    rintro e w1 ⟨rfl, hq1, hk1⟩
    rw [hg] at hr0 hbl hgl
    have hr1 := hr0.keep hk1 (by simp; omega)
    have hg1 := hg0.keep hk1 (by simp; omega)
    have hkA : Keeps [b] w w1 := hk0.trans hk1
    obtain ⟨_, _, d2, d3, _, k2, k3⟩ := hq1.main
    have hq2 := (hq1.setOp (p.op + 1)).setGr (p.gr + 1)
    have hk2 : Keeps [b] w1 ((w1.setCell ⟨b, 2, none⟩ (.int .i64 ((p.op + 1 : Nat) : Int))).setCell ⟨b, 3, none⟩ (.int .i64 ((p.gr + 1 : Nat) : Int))) := ((Keeps.refl [b] w1).setCell (by simp) _).setCell (by simp) _
    have e1 : ((p.op + 1 : Nat) : Int) = (p.op : Int) + 1 := by omega
    have e2 : ((p.gr + 1 : Nat) : Int) = (p.gr : Int) + 1 := by omega
    rw [e1, e2] at hq2 hk2
    have hr2 := hr1.keep hk2 (by simp; omega)
    have hg2 := hg1.keep hk2 (by simp; omega)
    have hkB := hkA.trans hk2
    have hop1 : ((p.op : Int) + 1) - 1 = p.op := by omega
    clear c2 c3 f2 f3 hk0 hq0 hg0 hr0 hk1 h6' h9' hr1 hg1 hkA e1 e2
    go_wp2_with fail
    generalize (w1.setCell ⟨b, 2, none⟩ (.int .i64 ((p.op : Int) + 1))).setCell ⟨b, 3, none⟩ (.int .i64 ((p.gr : Int) + 1)) = w2 at *
    refine (IH b { p with ix := p.ix + 1, op := p.op + 1, gr := p.gr + 1 } w2 hq2 hg2 hbg hs hlt (by simp; omega) (by simp; omega) (by simp; omega)).mono ?_
    rintro e w3 ⟨q, hG, hk3, hc3⟩
    have hkC := hkB.trans hk3
    have hr3 := hr2.keep hk3 (by simp; omega)
    have hsz2 : g < w2.heap.size := hr2.lt
    clear hq2 hg2 hkB hr2 d2 d3 k2 k3 hq1 hk2
    cases q with
    | bad j =>
      rcases hc3 with rfl | ⟨v, g1, rfl, hv1, hq3, hodd, _⟩
      · simp only [fault]
        exact ⟨rfl, .bad j, .gbad _ _ _ _ h40 HD.out hG, hkC, rfl⟩
      · have hj0 : 0 ≤ at' p.s j := by unfold oddC at hodd; simp at hodd; omega
        have hjle : j ≤ p.s.size := Nat.le_of_lt (at'_nn hj0)
        have hj41 : at' p.s j ≠ 41 := by unfold oddC at hodd; simp at hodd; omega
        have HB : Hid (G p.s .single p.op p.gr p.ix (.bad j)) := .gbad _ _ _ _ h40 HD.out hG
        clear hodd hG
        go_wp2_with fail
        refine (expect_bad b { p with ix := j, op := p.op + 1, gr := g1 } 41 (by omega) _ hq3 hjle hs hj41).mono ?_
        rintro e w4 ⟨rfl, hk4⟩
        simp only [fault]
        exact ⟨rfl, .bad j, HB.out, hkC.trans hk4, rfl⟩
    | ok y j =>
      obtain ⟨x, g1⟩ := y
      obtain ⟨v, rfl, hrep, hq3⟩ := hc3
      have hokb := hG.okb x g1 j rfl
      have hjle : j ≤ p.s.size := hokb.2.1 hlt
      by_cases h41 : at' p.s j = 41
      · have HB : Hid (G p.s .single p.op p.gr p.ix (.ok (.grp (p.gr + 1) x, g1) (j + 1))) := .grp _ _ _ _ _ _ h40 HD.out hG h41
        have hvc : v.cells = #[v] := by
          obtain ⟨u, hu, hu2⟩ := hrep.cells.2
          cases hu
          exact hu2
        clear hG
        go_wp2_with fail
        refine (expect_ok b { p with ix := j, op := p.op + 1, gr := g1 } 41 (by omega) _ hq3 hs h41).mono ?_
        rintro e w4 ⟨rfl, hq4, hk4⟩
        have hkD := hkC.trans hk4
        have hr4 := hr3.keep hk4 (by simp; omega)
        have hrep4 := hrep.keep hk4 (by intro x hx; simp; omega)
        obtain ⟨_, _, d2, d3, _, k2, k3⟩ := hq4.main
        have hq5 := hq4.setOp p.op
        have hk5 : Keeps [b] w4 (w4.setCell ⟨b, 2, none⟩ (.int .i64 (p.op : Int))) := (Keeps.refl [b] w4).setCell (by simp) _
        have hr5 := hr4.keep hk5 (by simp; omega)
        have hkE := hkD.trans hk5
        have hrep5 := hrep4.keep hk5 (by intro x hx; simp; omega)
        have hbg5 := built_grp ((p.gr : Int) + 1) v hvc
        have hd2 : (((p.op + 1 : Nat) : Int)) = (p.op : Int) + 1 := by omega
        simp only [hd2] at d2
        have hgc : ∀ u ∈ sc (.int .i64 ((p.gr : Int) + 1)) v (fun _ => false), u.oneCell' = true := by
          have := (Rep.grp (p.gr + 1) x v (by omega) (by omega) hrep5).cells.1
          simpa using this
        clear hq4 hq3 hr3 hr4 hrep hrep4 hkC hkD hk4 hd2
        go_wp2_with (first | (refine wpList_build2 rfl 208 0 1 _ _ rfl (some 58) rfl _ _ rfl rfl _ hbg5 ?_) | (refine wpList_store_row rfl 208 _ _ rfl g _ rfl rfl _ _ hr5 (infoSingleC (sc_len _ _ _)) sz_sc (one_all hgc) ?_))
        refine bodyPost_ret (results_cell_row rfl _ _ g _ _ _ _ rfl (setRow_heap _ _ _ _ _ _ hr5) Tryz.underlying208 rfl (infoSingleC (sc_len _ _ _))) rfl ?_
        have hkR := (Keeps.refl [g] (w4.setCell ⟨b, 2, none⟩ (.int .i64 (p.op : Int)))).setRow (g := g) (by simp) (sc (.int .i64 ((p.gr : Int) + 1)) v fun _ => false).toArray
        refine ⟨_, HB.out, hkE.setRow (Or.inr (by omega)) _, _, rfl, ?_, hq5.keep hkR (by simp; omega)⟩
        exact Rep.grp (p.gr + 1) x v (by omega) (by omega) ((hrep5.keep hkR (by intro x hx; simp; omega)).mono (by intro x hx _; omega))
      · have HB : Hid (G p.s .single p.op p.gr p.ix (.bad j)) := .gopen _ _ _ _ _ _ h40 HD.out hG h41
        clear hG
        go_wp2_with fail
        refine (expect_bad b { p with ix := j, op := p.op + 1, gr := g1 } 41 (by omega) _ hq3 hjle hs h41).mono ?_
        rintro e w4 ⟨rfl, hk4⟩
        simp only [fault]
        exact ⟨rfl, .bad j, HB.out, hkC.trans hk4, rfl⟩
end Go.Proofs.YtnfojonmohijpaaGreatDoor
