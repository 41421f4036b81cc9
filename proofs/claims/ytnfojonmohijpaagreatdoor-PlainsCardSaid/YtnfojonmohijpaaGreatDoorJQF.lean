/-
  DERIVED. What the writers read of a pattern that lies in cells; loads of a part of a row. No conditions.
-/
import Derived.Test.YtnfojonmohijpaaGreatDoorJQC
import Derived.Test.YtnfojonmohijpaaGreatDoorJQE
import Derived.Test.YtnfojonmohijpaaGreatDoorJQB
set_option linter.unusedSimpArgs false
set_option linter.unusedVariables false
namespace Go.Proofs.YtnfojonmohijpaaGreatDoor
open Go.RowKit

theorem add_off (g off j : Nat) : (⟨g, off, none⟩ : Addr).add j = ⟨g, off + j, none⟩ := by unfold Addr.add; split <;> simp_all
theorem run_loadVar_at (w : World) (g off : Nat) (ty : TypeId) (cs : List Value) (d : TypeDesc) (hc : ∀ j v, cs[j]? = some v → w.cell? ⟨g, off + j, none⟩ = some v)
    (hu : Tryz.prog.underlying ty = some d) (hd : (match d with | .struct _ | .array _ _ => true | _ => false) = true) (hi : (Tryz.prog.info? ty).map (·.size) = some cs.length) :
    (loadVar ty ⟨g, off, none⟩).run Tryz.prog w = .ok (.agg cs.toArray) w := by
  have hl : (loadCells ⟨g, off, none⟩ cs.length).run Tryz.prog w = .ok cs.toArray w :=
    run_loadCells_list (P := Tryz.prog) w ⟨g, off, none⟩ cs (fun j v hv => by rw [add_off]; exact hc j v hv)
  cases hq : Tryz.prog.info? ty with
  | none => simp [hq] at hi
  | some i =>
    have hs : i.size = cs.length := by simpa [hq] using hi
    have hagg : (isAgg ty).run Tryz.prog w = .ok true w := by
      unfold isAgg
      rw [Sem.run_bind, run_underlying hu w]
      cases d <;> simp_all
    simp [loadVar, Sem.run_bind, hagg, sizeOf, typeInfo, hq, hs, hl]
theorem wpList_load_at {ops : Array Oper} {rest : List Oper} {o : Oper} {a : Act} {w : World} {Q : Exit → Act → World → Prop} (hgd : o.guard = none) (ty : TypeId) (x : Operand) (ho : o.op = .load ty x)
    (g off : Nat) (hx : a.eval x = .pointer (some ⟨g, off, none⟩)) (cs : List Value) (d : TypeDesc) (hc : ∀ j v, cs[j]? = some v → w.cell? ⟨g, off + j, none⟩ = some v)
    (hu : Tryz.prog.underlying ty = some d) (hd : (match d with | .struct _ | .array _ _ => true | _ => false) = true) (hi : (Tryz.prog.info? ty).map (·.size) = some cs.length)
    (h : wpList Tryz.prog ops Q rest (a.put o.dst (.agg cs.toArray)) w) : wpList Tryz.prog ops Q (o :: rest) a w := by
  refine wpList_plain hgd fun K hK => ?_
  unfold Oper.wp execOp
  simp only [ho, hx, Instr.loadAt, Instr.sureAddr, Sem.run_bind, Sem.run_pure, Result.andThen_ok, run_loadVar_at w g off ty cs d hc hu hd hi]
  exact hK _ _ h

def wl : Pat → List Pat
  | .wone x => [x]
  | .wcons x r => x :: wl r
  | _ => []
def pl : Pat → List Pat
  | .pcons x r => x :: pl r
  | _ => []
/-- Ways, as they are written from the k-th on. -/
def tw : Nat → List Pat → List UInt8
  | _, [] => []
  | k, x :: r => (if 0 < k then [124] else []) ++ patT x ++ tw (k + 1) r
def tp (l : List Pat) : List UInt8 := l.flatMap patT

theorem Rep.wl_text {w : World} {S : Nat → Prop} {x : Pat} {vs : List Value} (h : Rep w S .wlist x vs) : (∀ k, tw k (wl x) = (if 0 < k then [124] else []) ++ patT x) ∧ (wl x).length = vs.length ∧ (∀ (i : Nat) (y : Pat), (wl x)[i]? = some y → ∃ u, vs[i]? = some u ∧ Rep w S .way y [u] ∧ y.sz < x.sz) := by
  generalize hk : Kr.wlist = kk at h
  induction h with
  | wone x v h1 _ =>
    refine ⟨fun k => by simp [wl, tw, patT], rfl, ?_⟩
    intro i y hy
    match i, hy with
    | 0, hy => simp [wl] at hy; subst hy; exact ⟨v, rfl, h1, by simp [Pat.sz]⟩
  | wcons x r v vs h1 _ _ ih =>
    obtain ⟨a, b, c⟩ := ih rfl
    refine ⟨fun k => by simp [wl, tw, patT, a (k + 1)], by simp [wl, b], ?_⟩
    intro i y hy
    match i, hy with
    | 0, hy => simp [wl] at hy; subst hy; exact ⟨v, rfl, h1, by simp [Pat.sz]; omega⟩
    | i + 1, hy =>
      obtain ⟨u, h2, h3, h4⟩ := c i y (by simpa [wl] using hy)
      exact ⟨u, by simpa using h2, h3, by simp [Pat.sz]; omega⟩
  | _ => cases hk

theorem Rep.pl_text {w : World} {S : Nat → Prop} {x : Pat} {cs : List Value} (h : Rep w S .plist x cs) : tp (pl x) = patT x ∧ cs.length = (pl x).length * 261 ∧ (∀ (i : Nat) (y : Pat), (pl x)[i]? = some y → ∃ ds, Rep w S .piece y ds ∧ (∀ (j : Nat) (u : Value), ds[j]? = some u → cs[i * 261 + j]? = some u) ∧ y.sz < x.sz) := by
  generalize hk : Kr.plist = kk at h
  induction h with
  | pnil => exact ⟨rfl, rfl, by intro i y hy; simp [pl] at hy⟩
  | pcons x r cs ds h1 _ _ ih =>
    obtain ⟨a, b, c⟩ := ih rfl
    have hl : cs.length = 261 := h1.cells.2
    refine ⟨by simp [pl, tp, patT] at a ⊢; exact a, by simp [pl, b, hl]; omega, ?_⟩
    intro i y hy
    match i, hy with
    | 0, hy =>
      simp [pl] at hy
      subst hy
      refine ⟨cs, h1, ?_, by simp [Pat.sz]; omega⟩
      intro j u hu
      have hj : j < cs.length := by
        rcases Nat.lt_or_ge j cs.length with h | h
        · exact h
        · rw [List.getElem?_eq_none h] at hu; cases hu
      rw [Nat.zero_mul, Nat.zero_add, List.getElem?_append_left hj]
      exact hu
    | i + 1, hy =>
      obtain ⟨es, h2, h3, h4⟩ := c i y (by simpa [pl] using hy)
      refine ⟨es, h2, ?_, by simp [Pat.sz]; omega⟩
      intro j u hu
      have := h3 j u hu
      rw [List.getElem?_append_right (by omega), hl]
      have e : (i + 1) * 261 + j - 261 = i * 261 + j := by omega
      rw [e]
      exact this
  | _ => cases hk

theorem patT_rep (x : Pat) (o : Option (Nat × Int)) : patT (withRep x o) = patT x ++ repO o := by
  cases o with
  | none => simp [withRep, repO]
  | some p => obtain ⟨m, n⟩ := p; rfl
theorem sz_rep (x : Pat) (o : Option (Nat × Int)) : x.sz ≤ (withRep x o).sz := by
  cases o with
  | none => exact Nat.le_refl _
  | some p => obtain ⟨m, n⟩ := p; simp [withRep, Pat.sz]
theorem sz_pos (x : Pat) : 0 < x.sz := by cases x <;> simp [Pat.sz] <;> omega
theorem tw_take (l : List Pat) : ∀ (k i : Nat) (y : Pat), l[i]? = some y → tw k (l.take (i + 1)) = tw k (l.take i) ++ ((if 0 < k + i then [124] else []) ++ patT y) := by
  induction l with
  | nil => intro k i y h; simp at h
  | cons x l ih =>
    intro k i y h
    cases i with
    | zero => simp at h; subst h; simp [tw]
    | succ i =>
      have := ih (k + 1) i y (by simpa using h)
      simp only [List.take_succ_cons, tw]
      rw [this]
      have e : k + 1 + i = k + (i + 1) := by omega
      rw [e]
      simp
theorem tp_take (l : List Pat) (i : Nat) (y : Pat) (h : l[i]? = some y) : tp (l.take (i + 1)) = tp (l.take i) ++ patT y := by
  rw [List.take_add_one, h]
  simp [tp]
theorem tw_len (l : List Pat) : ∀ (k i : Nat), (tw k (l.take i)).length ≤ (tw k l).length := by
  induction l with
  | nil => intro k i; simp
  | cons x l ih =>
    intro k i
    cases i with
    | zero => simp [tw]
    | succ i => have := ih (k + 1) i; simp only [List.take_succ_cons, tw, List.length_append]; omega
theorem tp_len (l : List Pat) (i : Nat) : (tp (l.take i)).length ≤ (tp l).length := by
  induction l generalizing i with
  | nil => simp
  | cons x l ih =>
    cases i with
    | zero => simp [tp]
    | succ i => have := ih i; simp only [List.take_succ_cons, tp, List.flatMap_cons, List.length_append] at this ⊢; omega
theorem tw_mem (l : List Pat) : ∀ (k i : Nat) (y : Pat), l[i]? = some y → (tw k (l.take i)).length + 1 + (patT y).length ≤ (tw k l).length + 1 := by
  intro k i y h
  have h1 := tw_take l k i y h
  have h2 := tw_len l k (i + 1)
  rw [h1] at h2
  simp only [List.length_append] at h2
  omega
end Go.Proofs.YtnfojonmohijpaaGreatDoor

/-
  DERIVED. The contract of the program's writeSingle, over a contract of writeWays for what is smaller. Conditions: the builder and the pattern lie apart, the variable uint64pow10 begins with 1.
-/
namespace Go.Proofs.YtnfojonmohijpaaGreatDoor
open Go.RowKit

/-- What a writer leaves alone. -/
structure WF (B b : Nat) (w w' : World) : Prop where
  below : Below B w w'
  others : Lib.OthersKept 5 (some b) w w'
theorem WF.refl (B b : Nat) (w : World) : WF B b w w := ⟨Below.refl B w, Lib.OthersKept.refl _ _ w⟩
theorem WF.trans {B b : Nat} {a w w' : World} (h : WF B b a w) (k : WF B b w w') : WF B b a w' := ⟨Below.join h.below k.below, h.others.trans k.others⟩
theorem WF.ofKeeps {B b : Nat} {w w' : World} (h : Keeps [] w w') (hB : B ≤ w.heap.size) : WF B b w w' :=
  ⟨Below.ofKeeps h hB (by simp), fun k o hk _ _ => (h.block k (Array.getElem?_eq_some_iff.1 hk).1 (by simp)).trans hk⟩
theorem Rep.wf {w w' : World} {S : Nat → Prop} {k : Kr} {x : Pat} {cs : List Value} {B b : Nat} (h : Rep w S k x cs) (hS : ∀ g, S g → g < B) (hf : WF B b w w') : Rep w' S k x cs := h.keep (Keeps.ofBelow hf.below) fun g hg => upB_not (hS g hg)
theorem GP.wf {w w' : World} {B b : Nat} (h : GP w) (hB : 1 < B) (hf : WF B b w w') : GP w' := (World.cell?_of_block (hf.below.block _ hB)).trans h
theorem row_wf {w w' : World} {B b g : Nat} {cs : Array Value} {T : TypeId} {fr : Nat × Nat} (h : w.heap[g]? = some (.cells cs T fr)) (hT : T ≠ 5) (hg : g ≠ b) (hf : WF B b w w') : w'.heap[g]? = some (.cells cs T fr) :=
  hf.others g _ h (by simpa using hg) (by intro c fz e; cases e; exact hT rfl)
theorem BD.lt {w : World} {B b : Nat} {l : List UInt8} (h : BD w B b l) : b < w.heap.size := by
  obtain ⟨_, p, v, _, hb, _⟩ := h
  exact (Array.getElem?_eq_some_iff.1 hb).1

/-- What a writer leaves. -/
def WPt (B b : Nat) (l t : List UInt8) (w : World) (e : Ending) (w' : World) : Prop := e = .returned (.tuple #[]) ∧ BD w' B b (l ++ t) ∧ WF B b w w'
def WaysW (n : Nat) : Prop := ∀ (x : Pat), x.sz ≤ n → ∀ (w : World) (S : Nat → Prop) (B b : Nat) (l : List UInt8) (v : Value), Rep w S .ways x [v] → (∀ g, S g → g < B) → BD w B b l → GP w → 1 < B → B ≤ w.heap.size → l.length + (patT x).length ≤ 100000000 →
  Calls Tryz.prog 69 #[.pointer (some ⟨b, 0, none⟩), v] w (WPt B b l (patT x) w)
def SingleW (n : Nat) : Prop := ∀ (x : Pat), x.sz ≤ n → ∀ (w : World) (S : Nat → Prop) (B b : Nat) (l : List UInt8) (cs : List Value), Rep w S .single x cs → (∀ g, S g → g < B) → BD w B b l → GP w → 1 < B → B ≤ w.heap.size → l.length + (patT x).length ≤ 100000000 →
  Calls Tryz.prog 120 #[.pointer (some ⟨b, 0, none⟩), .agg cs.toArray] w (WPt B b l (patT x) w)

theorem sc_cells {w : World} {g : Nat} {k v : Value} {f : Nat → Bool} {T : TypeId} {fr : Nat × Nat} (h : w.heap[g]? = some (.cells (sc k v f).toArray T fr)) :
    w.cell? ⟨g, 0, none⟩ = some k ∧ w.cell? ⟨g, 1, none⟩ = some v ∧ ∀ j u, (hcells f).toList[j]? = some u → w.cell? ⟨g, 2 + j, none⟩ = some u := by
  refine ⟨by rw [Lib.cell_of_heap h]; rfl, by rw [Lib.cell_of_heap h]; rfl, ?_⟩
  intro j u hu
  rw [Lib.cell_of_heap h]
  have e : 2 + j = j + 1 + 1 := by omega
  rw [e]
  simpa [sc] using hu

set_option maxRecDepth 100000 in
set_option maxHeartbeats 2000000 in
theorem single_write (n : Nat) (IW : WaysW n) : SingleW (n + 1) := by
  intro x hx w S B b l cs hrep hS hbd hgp hB0 hBw hlen
  have hbl := hbd.lt
  cases hrep with
  | set f =>
    have hz0 : (w.alloc (.cells (sc (.int .i64 0) (.slice none 0 0) f).toArray 208)).heap[w.heap.size]? = some (.cells (sc (.int .i64 0) (.slice none 0 0) f).toArray 208 (0, 0)) := heap_alloc_new w _
    have hk0 : Keeps [] w (w.alloc (.cells (sc (.int .i64 0) (.slice none 0 0) f).toArray 208)) := (Keeps.refl [] w).alloc _
    obtain ⟨c0, c1, c2⟩ := sc_cells hz0
    have hbd0 := hbd.keep hk0
    have hls := setT_len f
    have hlen' : l.length ≤ 1000000000 := by omega
    have hll : (Tryz.prog.info? 206).map (·.size) = some (hcells f).toList.length := by rw [Tryz.infoSet]; simp [hcells_size]
    generalize (sc (.int .i64 0) (.slice none 0 0) f).toArray = C at *
    go_enter Tryz.func120, Tryz.ntmps120
    go_wp2_with (first | (refine wpList_load_at rfl 206 _ rfl w.heap.size 2 rfl (hcells f).toList _ c2 Tryz.underlying206 rfl hll ?_))
    refine (plainSet_text f _).mono ?_
    rintro e w1 ⟨rfl, hk1⟩
    have hbd1 := hbd0.keep hk1
    have hkA := hk0.trans hk1
    have hsz := hkA.size
    clear hz0 c0 c1 c2 hbd0 hk0 hk1 hll
    go_wp2_with fail
    refine (writeString_any B b l (setT f) _ hbd1 hlen' (by omega) (by omega)).mono ?_
    rintro e w2 ⟨⟨v, rfl⟩, hb2, hbel, hoth⟩
    go_wp2_with fail
    refine bodyPost_ret (results_none rfl _ _ _) rfl ?_
    exact ⟨rfl, hb2, (WF.ofKeeps hkA hBw).trans ⟨hbel, hoth⟩⟩
  | grp k y v h0 h9 hr =>
    have hz0 : (w.alloc (.cells (sc (.int .i64 k) v fun _ => false).toArray 208)).heap[w.heap.size]? = some (.cells (sc (.int .i64 k) v fun _ => false).toArray 208 (0, 0)) := heap_alloc_new w _
    have hk0 : Keeps [] w (w.alloc (.cells (sc (.int .i64 k) v fun _ => false).toArray 208)) := (Keeps.refl [] w).alloc _
    obtain ⟨c0, c1, c2⟩ := sc_cells hz0
    have hbd0 := hbd.keep hk0
    have hr0 := hr.keep hk0 (by simp)
    have hg0 := hgp.keep hk0
    have hz : (w.alloc (.cells (sc (.int .i64 k) v fun _ => false).toArray 208)).heap.size = w.heap.size + 1 := by simp
    have hpt : (patT (.grp k y)).length = (patT y).length + 2 := by simp [patT]
    have hysz : y.sz ≤ n := by simp [Pat.sz] at hx; omega
    have hkne : ((k : Int) == 0) = false := by simpa using (by omega : ¬ (k : Int) = 0)
    obtain ⟨va, vn, vc, rfl⟩ : IsSl v := by
      cases hr with
      | ways _ _ _ _ _ ho _ => exact ownsRow_sl ho
    generalize (sc (.int .i64 k) (.slice va vn vc) fun _ => false).toArray = C at *
    go_enter Tryz.func120, Tryz.ntmps120
    go_wp2_with fail
    generalize w.alloc (.cells C 208) = W at *
    refine (writeByte_any B b l 40 40 rfl W hbd0 (by omega) (by omega)).mono ?_
    rintro e w1 ⟨rfl, hb1, hbel1, hoth1⟩
    have f1 : WF B b W w1 := ⟨hbel1, hoth1⟩
    have z1 := hbel1.size
    have hz1 := row_wf hz0 (by decide) (by omega) f1
    have d1 : w1.cell? ⟨w.heap.size, 1, none⟩ = some (.slice va vn vc) := by
      rw [Lib.cell_of_heap hz1, ← Lib.cell_of_heap hz0]; exact c1
    have hr1 := hr0.wf hS f1
    have hg1 := hg0.wf hB0 f1
    clear c0 c1 c2 hz0 hbd0 hr0 hg0
    go_wp2_with fail
    refine (IW y hysz w1 S B b (l ++ [40]) _ hr1 hS hb1 hg1 hB0 (by omega) (by rw [List.length_append, List.length_singleton]; omega)).mono ?_
    rintro e w2 ⟨rfl, hb2, f2⟩
    have z2 := f2.below.size
    go_wp2_with fail
    refine (writeByte_any B b (l ++ [40] ++ patT y) 41 41 rfl w2 hb2 (by simp; omega) (by omega)).mono ?_
    rintro e w3 ⟨rfl, hb3, hbel3, hoth3⟩
    go_wp2_with fail
    go_end0
    refine ⟨rfl, ?_, ((WF.ofKeeps hk0 hBw).trans f1).trans (f2.trans ⟨hbel3, hoth3⟩)⟩
    have e : l ++ [40] ++ patT y ++ [41] = l ++ patT (.grp k y) := by simp [patT]
    rw [← e]
    exact hb3
end Go.Proofs.YtnfojonmohijpaaGreatDoor
