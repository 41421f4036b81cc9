/-
  DERIVED. The program's Flat: of a tree that was read, and of a text. No conditions.
-/
import Derived.Test.YtnfojonmohijpaaGreatDoorJUJ
import Derived.Test.YtnfojonmohijpaaGreatDoorJNJ
import Derived.Test.YtnfojonmohijpaaGreatDoorJNP
import Derived.BigQuiet
import Derived.Deep.QuietTactic
import Derived.Test.YtnfojonmohijpaaGreatDoorJMA
import Derived.Test.YtnfojonmohijpaaGreatDoorJPC
import Derived.Test.YtnfojonmohijpaaGreatDoorJTF0
import Derived.Test.YtnfojonmohijpaaGreatDoorJNA
import Derived.Test.YtnfojonmohijpaaGreatDoorJPY
import Derived.Test.YtnfojonmohijpaaGreatDoorJUG
import Derived.Test.YtnfojonmohijpaaGreatDoorJNS
set_option linter.unusedSimpArgs false
set_option linter.unusedVariables false
namespace Go.Proofs.YtnfojonmohijpaaGreatDoor
open Go.RowKit
theorem TG.flat {s : ByteArray} {k : TK} {d i : Nat} {q : R Tr} (h : TG s k d i q) : ∀ t j, q = .ok t j → i ≤ s.size → t.flat.length + i ≤ j := by
 induction h with
 | nil d i h1 => intro t j e _; cases e; simp [Tr.flat]
 | byte d i h1 h2 h3 => intro t j e _; cases e; simp [Tr.flat]; omega
 | opn d i q h1 h2 _ ih =>
  intro t j e hi
  have := at'_lt_of h1 (by decide)
  cases q with
  | bad => cases e
  | ok t' j' =>
   have h3 := ih t' j' rfl (by omega)
   by_cases h4 : at' s j' = 41
   ·simp only [shut, if_pos h4, R.ok.injEq] at e
    obtain ⟨rfl, rfl⟩ := e
    omega
   ·simp only [shut, if_neg h4] at e
    cases e
 | grp d i q h1 h2 h3 h4 ih =>
  intro t j e hi
  have : i + 1 < s.size := at'_nn (by omega)
  cases q with
  | bad => cases e
  | ok l j' =>
   cases e
   obtain ⟨x, rfl, _, _⟩ := TG.one h4
   have := ih _ _ rfl (by omega)
   simp [Tr.flat, hdT] at this ⊢
   omega
 | alt d i q h1 h2 h4 ih =>
  intro t j e hi
  have hp := plE_le h2
  cases q with
  | bad => cases e
  | ok l j' =>
   cases e
   obtain ⟨x, rfl, _, _⟩ := TG.one h4
   have := ih _ _ rfl hp.2
   simp [Tr.flat, hdT] at this ⊢
   omega
 | ser d i q h1 _ ih =>
  intro t j e hi
  have := at'_lt_of h1 (by decide)
  cases q with
  | bad => cases e
  | ok l j' => cases e; have := ih _ _ rfl (by omega); simp only [Tr.flat]; omega
 | rep d i q h1 _ ih =>
  intro t j e hi
  have := at'_lt_of h1 (by decide)
  cases q with
  | bad => cases e
  | ok l j' => cases e; have := ih _ _ rfl (by omega); simp only [Tr.flat]; omega
 | fin d i => intro t j e _; cases e; simp [Tr.flat]
 | stop d i h1 => intro t j e _; cases e; simp [Tr.flat]
 | go n m d i j t q h0 h1 h2 _ ih1 ih2 =>
  intro t' j' e hi
  have := at'_lt_of h1 (by decide)
  have hb := h2.bd (by omega)
  have h3 := ih1 _ _ rfl (by omega)
  cases q with
  | bad => cases e
  | ok l j2 =>
   cases e
   have := ih2 _ _ rfl hb.2.1
   simp only [Tr.flat, List.length_append]
   omega
 | _ => intro t j e; cases e
set_option maxRecDepth 100000 in
set_option maxHeartbeats 2000000 in
theorem tflat_any (t : Tr) (a b c : Value) (w : World) (S : Nat → Prop) (htv : TV w S true t [a, b, c]) (hl : t.flat.length ≤ 40000) :
    Calls Tryz.prog 44 #[.agg #[a, b, c]] w fun e w' => e = .returned (.string (nmB t.flat)) ∧ Keeps [] w w' := by
 obtain ⟨k, nn, va, vn, vc, hf⟩ := htv.form
 simp only [List.cons.injEq, and_true] at hf
 obtain ⟨rfl, rfl, rfl⟩ := hf
 have hk0 : Keeps [] w (w.alloc (.cells #[.int .u8 k, .int .i64 nn, .slice va vn vc] 88)) := (Keeps.refl [] w).alloc _
 have h0 : P3 (w.alloc (.cells #[.int .u8 k, .int .i64 nn, .slice va vn vc] 88)) w.heap.size (.int .u8 k) (.int .i64 nn) (.slice va vn vc) := heap_alloc_new w _
 have htv1 := htv.keep hk0 (by simp)
 go_enter Tryz.func44, Tryz.ntmps44
 go_upto_region 1 with (fail)
 generalize w.alloc (.cells #[.int .u8 k, .int .i64 nn, .slice va vn vc] 88) = W at *
 have hby : BY W 0 (.slice none 0 0) [] := World.ownsRow_nil _ _ _ _
 have hA := addBytes_all t.sz t (Nat.le_refl _) W S _ (.slice none 0 0) [] htv1 hby (by simp [Value.ownBlock]) (by simpa using hl)
 go_wp2_with (first | (refine wpList_load_row rfl 88 _ rfl w.heap.size rfl _ _ _ _ h0 Tryz.underlying88 rfl (info3 _ _ _) ?_))
 refine hA.mono ?_
 rintro e w1 ⟨v, rfl, hb1, hk1, _⟩
 obtain ⟨xa, xn, xc, rfl⟩ := ownsRow_sl hb1
 rw [List.nil_append] at hb1
 have hcv := conv_name w1 0 _ _ hb1
 have hkA := hk0.trans (hk1.mono (by simp [Value.ownBlock]))
 clear hA
 go_wp2_with fail
 go_ret
 exact ⟨rfl, hkA⟩
end Go.Proofs.YtnfojonmohijpaaGreatDoor
namespace Go.Proofs.YtnfojonmohijpaaGreatDoor
open Go.RowKit
inductive Ft : Pat → Tr → Prop
 | set (f : Nat → Bool) (b : Nat) : f b = true → Ft (.set f) (.tbyte b)
 | grp (k : Nat) (x : Pat) (u : Tr) : Ft x u → Ft (.grp k x) (.tgrp k u)
 | rep (mn : Nat) (mx : Int) (x : Pat) (l : Tr) : mn ≤ (tl l).length → (mx < 0 ∨ ((tl l).length : Int) ≤ mx) → (∀ u, u ∈ tl l → Ft x u) → Ft (.rep mn mx x) (.trep l)
 | nil : Ft .pnil .tnil
 | lone (x : Pat) (t : Tr) : Ft x t → Ft (.pcons x .pnil) t
 | ser (x y r : Pat) (l : Tr) : (tl l).length = (pl (.pcons x (.pcons y r))).length → (∀ (i : Nat) (z : Pat) (u : Tr), (pl (.pcons x (.pcons y r)))[i]? = some z → (tl l)[i]? = some u → Ft z u) → Ft (.pcons x (.pcons y r)) (.tser l)
 | one (x : Pat) (t : Tr) : Ft x t → Ft (.wone x) t
 | alt (x r : Pat) (p : Nat) (y : Pat) (u : Tr) : (wl (.wcons x r))[p]? = some y → Ft y u → Ft (.wcons x r) (.talt p u)
def FtA (w : World) (x : Pat) (t : Tr) (e : Ending) (w' : World) : Prop := ∃ b, e = .returned (.bool b) ∧ (b = true ↔ Ft x t) ∧ Keeps [] w w'
def WaysF (n : Nat) : Prop := ∀ (x : Pat), x.sz ≤ n → ∀ (w : World) (S S' : Nat → Prop) (v a b c : Value) (t : Tr), Rep w S .ways x [v] → TV w S' true t [a, b, c] → Calls Tryz.prog 80 #[v, .agg #[a, b, c]] w (FtA w x t)
def WayF (n : Nat) : Prop := ∀ (x : Pat), x.sz ≤ n → ∀ (w : World) (S S' : Nat → Prop) (v a b c : Value) (t : Tr), Rep w S .way x [v] → TV w S' true t [a, b, c] → Calls Tryz.prog 133 #[v, .agg #[a, b, c]] w (FtA w x t)
def PieceF (n : Nat) : Prop := ∀ (x : Pat), x.sz ≤ n → ∀ (w : World) (S S' : Nat → Prop) (cs : List Value) (a b c : Value) (t : Tr), Rep w S .piece x cs → TV w S' true t [a, b, c] → Calls Tryz.prog 184 #[.agg cs.toArray, .agg #[a, b, c]] w (FtA w x t)
def SingleF (n : Nat) : Prop := ∀ (x : Pat), x.sz ≤ n → ∀ (w : World) (S S' : Nat → Prop) (cs : List Value) (a b c : Value) (t : Tr), Rep w S .single x cs → TV w S' true t [a, b, c] → Calls Tryz.prog 223 #[.agg cs.toArray, .agg #[a, b, c]] w (FtA w x t)
def Tr.ltr : Tr → Nat
 | .tnil => 101
 | .tbyte _ => 98
 | .tgrp _ _ => 103
 | .talt _ _ => 97
 | .tser _ => 115
 | .trep _ => 114
 | _ => 0
def Tr.num : Tr → Nat
 | .tbyte b => b
 | .tgrp k _ => k
 | .talt p _ => p
 | _ => 0
theorem TV.face {w : World} {S : Nat → Prop} {t : Tr} {a b c : Value} (h : TV w S true t [a, b, c]) : a = .int .u8 t.ltr ∧ b = .int .i64 t.num ∧ ∃ va vn vc, c = .slice va vn vc := by
 cases h with
 | tnil => exact ⟨rfl, rfl, _, _, _, rfl⟩
 | tbyte b hb => exact ⟨rfl, rfl, _, _, _, rfl⟩
 | tgrp k x v cs _ _ ho => exact ⟨rfl, rfl, ownsRow_sl ho⟩
 | talt p x v cs _ ho => exact ⟨rfl, rfl, ownsRow_sl ho⟩
 | tser l v n cs _ ho => exact ⟨rfl, rfl, ownsRow_sl ho⟩
 | trep l v n cs _ ho => exact ⟨rfl, rfl, ownsRow_sl ho⟩
set_option maxRecDepth 100000 in
set_option maxHeartbeats 4000000 in
theorem singleFits_any (n : Nat) (IW : WaysF n) : SingleF (n + 1) := by
 intro x hx w S S' cs a b c t hrep htv
 obtain ⟨rfl, rfl, va, vn, vc, rfl⟩ := htv.face
 cases hrep with
 | set f =>
  have h2 : ((w.alloc (.cells (sc (.int .i64 0) (.slice none 0 0) f).toArray 208)).alloc (.cells #[.int .u8 t.ltr, .int .i64 t.num, .slice va vn vc] 88)).heap[w.heap.size]? = some (.cells (sc (.int .i64 0) (.slice none 0 0) f).toArray 208 (0, 0)) := heap_alloc2_old w _ _
  have h3 : P3 ((w.alloc (.cells (sc (.int .i64 0) (.slice none 0 0) f).toArray 208)).alloc (.cells #[.int .u8 t.ltr, .int .i64 t.num, .slice va vn vc] 88)) (w.heap.size + 1) (.int .u8 t.ltr) (.int .i64 t.num) (.slice va vn vc) := heap_alloc2_new w _ _
  have hk0 : Keeps [] w ((w.alloc (.cells (sc (.int .i64 0) (.slice none 0 0) f).toArray 208)).alloc (.cells #[.int .u8 t.ltr, .int .i64 t.num, .slice va vn vc] 88)) := ((Keeps.refl [] w).alloc _).alloc _
  obtain ⟨c0, c1, c2⟩ := sc_cells h2
  obtain ⟨d0, d1, d2⟩ := h3.main
  generalize (sc (.int .i64 0) (.slice none 0 0) f).toArray = C at *
  go_enter Tryz.func223, Tryz.ntmps223
  go_upto_region 1 with (fail)
  generalize (w.alloc (.cells C 208)).alloc (.cells #[.int .u8 t.ltr, .int .i64 t.num, .slice va vn vc] 88) = W at *
  by_cases hb : t.ltr = 98
  ·obtain ⟨b, rfl⟩ : ∃ b, t = .tbyte b := by cases t <;> simp [Tr.ltr] at hb; exact ⟨_, rfl⟩
   have hb256 : b < 256 := by cases htv; assumption
   have e1 : (((Tr.tbyte b).ltr : Nat) : Int) = 98 := rfl
   have e2 : (((Tr.tbyte b).num : Nat) : Int) = (b : Int) := rfl
   rw [e1] at d0 ⊢
   rw [e2] at d1 ⊢
   have hcb : W.cell? ⟨w.heap.size, 2 + b, none⟩ = some (.bool (f b)) := c2 b _ (by rw [Array.getElem?_toList]; exact hcells_get f hb256)
   have hb0 : (0 : Int) ≤ (b : Int) := by omega
   have hb1 : (b : Int) < 256 := by omega
   have HF : Hid (f b = true ↔ Ft (.set f) (.tbyte b)) := ⟨fun h => .set f b h, fun h => by cases h; assumption⟩
   clear hb e1 e2 c2
   go_wp2_with fail
   go_ret
   exact ⟨_, rfl, HF.out, hk0⟩
  ·have hkE : ((t.ltr : Int) == 98) = false := by simp; omega
   have HF : Hid (¬ Ft (.set f) t) := fun h => by cases h; exact hb rfl
   clear hb c2
   go_wp2_with fail
   go_ret
   exact ⟨_, rfl, ⟨(nomatch ·), fun h => absurd h HF.out⟩, hk0⟩
 | grp k y v h0 h9 hr =>
  obtain ⟨wa, wn, wc, rfl⟩ : IsSl v := by
   cases hr with
   | ways _ _ _ _ _ ho _ => exact ownsRow_sl ho
  have h2 : ((w.alloc (.cells (sc (.int .i64 k) (.slice wa wn wc) fun _ => false).toArray 208)).alloc (.cells #[.int .u8 t.ltr, .int .i64 t.num, .slice va vn vc] 88)).heap[w.heap.size]? = some (.cells (sc (.int .i64 k) (.slice wa wn wc) fun _ => false).toArray 208 (0, 0)) := heap_alloc2_old w _ _
  have h3 : P3 ((w.alloc (.cells (sc (.int .i64 k) (.slice wa wn wc) fun _ => false).toArray 208)).alloc (.cells #[.int .u8 t.ltr, .int .i64 t.num, .slice va vn vc] 88)) (w.heap.size + 1) (.int .u8 t.ltr) (.int .i64 t.num) (.slice va vn vc) := heap_alloc2_new w _ _
  have hk0 : Keeps [] w ((w.alloc (.cells (sc (.int .i64 k) (.slice wa wn wc) fun _ => false).toArray 208)).alloc (.cells #[.int .u8 t.ltr, .int .i64 t.num, .slice va vn vc] 88)) := ((Keeps.refl [] w).alloc _).alloc _
  obtain ⟨c0, c1, _⟩ := sc_cells h2
  obtain ⟨d0, d1, d2⟩ := h3.main
  have hysz : y.sz ≤ n := by simp [Pat.sz] at hx; omega
  have hkne : ((k : Int) == 0) = false := by simpa using (by omega : ¬ (k : Int) = 0)
  generalize (sc (.int .i64 k) (.slice wa wn wc) fun _ => false).toArray = C at *
  go_enter Tryz.func223, Tryz.ntmps223
  go_upto_region 1 with (fail)
  generalize (w.alloc (.cells C 208)).alloc (.cells #[.int .u8 t.ltr, .int .i64 t.num, .slice va vn vc] 88) = W at *
  by_cases hb : t.ltr = 103
  ·obtain ⟨m, u, rfl⟩ : ∃ m u, t = .tgrp m u := by cases t <;> simp [Tr.ltr] at hb; exact ⟨_, _, rfl⟩
   have e1 : (((Tr.tgrp m u).ltr : Nat) : Int) = 103 := rfl
   have e2 : (((Tr.tgrp m u).num : Nat) : Int) = (m : Int) := rfl
   rw [e1] at h3 d0 ⊢
   rw [e2] at h3 d1 ⊢
   by_cases hmk : m = k
   ·subst hmk
    cases htv with
    | tgrp _ _ _ us h9' hu ho hSv =>
    obtain ⟨gv, vc', hv, _, hgv⟩ := ho.form (by decide)
    cases hv
    obtain ⟨k1, n1, da, dn, dc, rfl⟩ := hu.form
    obtain ⟨g2, hg2⟩ : ∃ g, w.heap.size = g := ⟨_, rfl⟩
    obtain ⟨g3, hg3⟩ : ∃ g, w.heap.size + 1 = g := ⟨_, rfl⟩
    rw [hg3] at h3 d0 d1 d2 ⊢
    rw [hg2] at c0 c1 ⊢
    have hgv' : gv < w.heap.size := hgv
    have hrg : ∀ X : World, Keeps [] w X → X.rangeAt gv 0 [.int .u8 k1, .int .i64 n1, .slice da dn dc] := fun X hk j z hz => by
     have hj : j < 3 := (List.getElem?_eq_some_iff.1 hz).1
     rw [Nat.zero_add]
     exact (World.cell?_of_block (hk.block gv hgv' (by simp))).trans ((World.ownsRow.cellAt ho j (by omega)).trans hz)
    have hi3 : (Tryz.prog.info? 88).map (·.size) = some [Value.int .u8 k1, .int .i64 n1, .slice da dn dc].length := by kernel_rfl
    have hS0 : P3 W.drew g3 (.int .u8 103) (.int .i64 m) (.slice (some ⟨gv, 0, none⟩) 1 vc) ∧ (W.drew.cell? ⟨g2, 0, none⟩ = some (.int .i64 m) ∧ W.drew.cell? ⟨g2, 1, none⟩ = some (.slice wa wn wc)) ∧ Keeps [] w W.drew := ⟨h3, ⟨c0, c1⟩, hk0.drewN 1⟩
    clear hb e1 e2
    go_upto_region 3 with (fail)
    clear c0 c1 d0 d1 d2
    refine wp_region_held (S := fun X => P3 X g3 (.int .u8 103) (.int .i64 m) (.slice (some ⟨gv, 0, none⟩) 1 vc) ∧ (X.cell? ⟨g2, 0, none⟩ = some (.int .i64 m) ∧ X.cell? ⟨g2, 1, none⟩ = some (.slice wa wn wc)) ∧ Keeps [] w X) (by kernel_rfl) ?_
    change wpAnyH _ _ _ _ _ _ _ _ (World.drew _)
    generalize W.drew = X0 at *
    refine wpAnyH_tk 0 _ (some 18) (.pointer (some ⟨g3, 0, none⟩)) rfl rfl (by kernel_rfl) (by kernel_rfl) (by kernel_rfl) (fun _ _ _ h => h) (Or.inl ⟨by rfl, fun X hX => by go_simp⟩) hS0 ?_
    simp only [Act.put, List.setIfInBounds_toArray, List.set_cons_zero, List.set_cons_succ]
    refine wpAnyH_tk 1 _ (some 19) (.int .u8 103) rfl rfl (by kernel_rfl) (by kernel_rfl) (by kernel_rfl) (fun _ _ _ h => h) (Or.inl ⟨by rfl, fun X hX => by (obtain ⟨q0, q1, q2⟩ := hX.1.main; go_simp)⟩) hS0 ?_
    simp only [Act.put, List.setIfInBounds_toArray, List.set_cons_zero, List.set_cons_succ]
    refine wpAnyH_tk 2 _ (some 20) (.bool true) rfl rfl (by kernel_rfl) (by kernel_rfl) (by kernel_rfl) (fun _ _ _ h => h) (Or.inl ⟨by rfl, fun X hX => by go_simp⟩) hS0 ?_
    simp only [Act.put, List.setIfInBounds_toArray, List.set_cons_zero, List.set_cons_succ]
    refine wpAnyH_tk 3 _ (some 21) (.bool true) rfl rfl (by kernel_rfl) (by kernel_rfl) (by kernel_rfl) (fun _ _ _ h => h) (Or.inl ⟨by rfl, fun X hX => by go_simp⟩) hS0 ?_
    simp only [Act.put, List.setIfInBounds_toArray, List.set_cons_zero, List.set_cons_succ]
    refine wpAnyH_tk 4 _ (some 22) (.pointer (some ⟨g3, 1, none⟩)) rfl rfl (by kernel_rfl) (by kernel_rfl) (by kernel_rfl) (fun _ _ _ h => h) (Or.inl ⟨by rfl, fun X hX => by go_simp⟩) hS0 ?_
    simp only [Act.put, List.setIfInBounds_toArray, List.set_cons_zero, List.set_cons_succ]
    refine wpAnyH_tk 5 _ (some 23) (.int .i64 m) rfl rfl (by kernel_rfl) (by kernel_rfl) (by kernel_rfl) (fun _ _ _ h => h) (Or.inl ⟨by rfl, fun X hX => by (obtain ⟨q0, q1, q2⟩ := hX.1.main; go_simp)⟩) hS0 ?_
    simp only [Act.put, List.setIfInBounds_toArray, List.set_cons_zero, List.set_cons_succ]
    refine wpAnyH_tk 6 _ (some 24) (.pointer (some ⟨g2, 0, none⟩)) rfl rfl (by kernel_rfl) (by kernel_rfl) (by kernel_rfl) (fun _ _ _ h => h) (Or.inl ⟨by rfl, fun X hX => by go_simp⟩) hS0 ?_
    simp only [Act.put, List.setIfInBounds_toArray, List.set_cons_zero, List.set_cons_succ]
    refine wpAnyH_tk 7 _ (some 25) (.int .i64 m) rfl rfl (by kernel_rfl) (by kernel_rfl) (by kernel_rfl) (fun _ _ _ h => h) (Or.inl ⟨by rfl, fun X hX => by (obtain ⟨r0, r1⟩ := hX.2.1; go_simp)⟩) hS0 ?_
    simp only [Act.put, List.setIfInBounds_toArray, List.set_cons_zero, List.set_cons_succ]
    refine wpAnyH_tk 8 _ (some 26) (.bool true) rfl rfl (by kernel_rfl) (by kernel_rfl) (by kernel_rfl) (fun _ _ _ h => h) (Or.inl ⟨by rfl, fun X hX => by go_simp⟩) hS0 ?_
    simp only [Act.put, List.setIfInBounds_toArray, List.set_cons_zero, List.set_cons_succ]
    refine wpAnyH_tk 9 _ (some 27) (.bool true) rfl rfl (by kernel_rfl) (by kernel_rfl) (by kernel_rfl) (fun _ _ _ h => h) (Or.inl ⟨by rfl, fun X hX => by go_simp⟩) hS0 ?_
    simp only [Act.put, List.setIfInBounds_toArray, List.set_cons_zero, List.set_cons_succ]
    refine wpAnyH_tk 10 _ (some 28) (.bool true) rfl rfl (by kernel_rfl) (by kernel_rfl) (by kernel_rfl) (fun _ _ _ h => h) (Or.inl ⟨by rfl, fun X hX => by go_simp⟩) hS0 ?_
    simp only [Act.put, List.setIfInBounds_toArray, List.set_cons_zero, List.set_cons_succ]
    refine wpAnyH_tk 11 _ (some 29) (.pointer (some ⟨g2, 1, none⟩)) rfl rfl (by kernel_rfl) (by kernel_rfl) (by kernel_rfl) (fun _ _ _ h => h) (Or.inl ⟨by rfl, fun X hX => by go_simp⟩) hS0 ?_
    simp only [Act.put, List.setIfInBounds_toArray, List.set_cons_zero, List.set_cons_succ]
    refine wpAnyH_tk 12 _ (some 30) (.slice wa wn wc) rfl rfl (by kernel_rfl) (by kernel_rfl) (by kernel_rfl) (fun _ _ _ h => h) (Or.inl ⟨by rfl, fun X hX => by (obtain ⟨r0, r1⟩ := hX.2.1; go_simp)⟩) hS0 ?_
    simp only [Act.put, List.setIfInBounds_toArray, List.set_cons_zero, List.set_cons_succ]
    refine wpAnyH_tk 13 _ (some 31) (.pointer (some ⟨g3, 2, none⟩)) rfl rfl (by kernel_rfl) (by kernel_rfl) (by kernel_rfl) (fun _ _ _ h => h) (Or.inl ⟨by rfl, fun X hX => by go_simp⟩) hS0 ?_
    simp only [Act.put, List.setIfInBounds_toArray, List.set_cons_zero, List.set_cons_succ]
    refine wpAnyH_tk 14 _ (some 32) (.slice (some ⟨gv, 0, none⟩) 1 vc) rfl rfl (by kernel_rfl) (by kernel_rfl) (by kernel_rfl) (fun _ _ _ h => h) (Or.inl ⟨by rfl, fun X hX => by (obtain ⟨q0, q1, q2⟩ := hX.1.main; go_simp)⟩) hS0 ?_
    simp only [Act.put, List.setIfInBounds_toArray, List.set_cons_zero, List.set_cons_succ]
    refine wpAnyH_tk 15 _ (some 33) (.pointer (some ⟨gv, 0, none⟩)) rfl rfl (by kernel_rfl) (by kernel_rfl) (by kernel_rfl) (fun _ _ _ h => h) (Or.inl ⟨by rfl, fun X hX => by go_simp⟩) hS0 ?_
    simp only [Act.put, List.setIfInBounds_toArray, List.set_cons_zero, List.set_cons_succ]
    refine wpAnyH_tk 16 _ (some 34) (.agg #[.int .u8 k1, .int .i64 n1, .slice da dn dc]) rfl rfl (by kernel_rfl) (by kernel_rfl) (by kernel_rfl) (fun _ _ _ h => h) (yieldsIf_load_mid (by rfl) 88 _ rfl gv 0 rfl [.int .u8 k1, .int .i64 n1, .slice da dn dc] _ (fun X hX => hrg X hX.2.2) Tryz.underlying88 rfl hi3) hS0 ?_
    simp only [Act.put, List.setIfInBounds_toArray, List.set_cons_zero, List.set_cons_succ]
    refine wpAnyH_ready (rs := [17]) (by kernel_rfl) (by simp) ?_
    refine AllReadyH.cons rfl (fun K hK => ?_) AllReadyH.nil
    go_simp
    refine (IW y hysz X0 S S' _ _ _ _ u (hr.keep hS0.2.2 (by simp)) (hu.keep hS0.2.2 (by simp))).mono ?_
    rintro e w1 ⟨b, rfl, hbi, hk1⟩
    have hS1 : P3 w1 g3 (.int .u8 103) (.int .i64 m) (.slice (some ⟨gv, 0, none⟩) 1 vc) ∧ (w1.cell? ⟨g2, 0, none⟩ = some (.int .i64 m) ∧ w1.cell? ⟨g2, 1, none⟩ = some (.slice wa wn wc)) ∧ Keeps [] w w1 := ⟨hS0.1.keep hk1 (by simp), ⟨keep_cell hk1 hS0.2.1.1, keep_cell hk1 hS0.2.1.2⟩, hS0.2.2.trans hk1⟩
    refine hK.out _ _ hS1 (fun _ => ?_)
    clear hK K
    refine wpAnyH_tk 18 _ (some 36) (.bool b) rfl rfl (by kernel_rfl) (by kernel_rfl) (by kernel_rfl) (fun _ _ _ h => h) (Or.inl ⟨by rfl, fun X hX => by go_simp⟩) hS1 ?_
    simp only [Act.put, List.setIfInBounds_toArray, List.set_cons_zero, List.set_cons_succ]
    refine wpAnyH_tk 19 _ (some 4) (.bool b) rfl rfl (by kernel_rfl) (by kernel_rfl) (by kernel_rfl) (fun _ _ _ h => h) (Or.inl ⟨by rfl, fun X hX => by go_simp⟩) hS1 ?_
    simp only [Act.put, List.setIfInBounds_toArray, List.set_cons_zero, List.set_cons_succ]
    refine wpAnyH_done (by kernel_rfl) ?_ _
    go_wp2_with fail
    go_ret
    exact ⟨b, rfl, ⟨fun h => .grp m y u (hbi.1 h), fun h => by cases h; exact hbi.2 (by assumption)⟩, hS1.2.2⟩
   ·have hnE : ((m : Int) == (k : Int)) = false := by simp; omega
    have hnE' : (m == k) = false := by simp; omega
    have HF : Hid (¬ Ft (.grp k y) (.tgrp m u)) := fun h => by cases h; exact hmk rfl
    clear hb hmk e1 e2
    go_wp2_with fail
    go_quiet (fail)
    go_wp2_with fail
    go_ret
    exact ⟨_, rfl, ⟨(nomatch ·), fun h => absurd h HF.out⟩, hk0.drewN _⟩
  ·have hkE : ((t.ltr : Int) == 103) = false := by simp; omega
   have hkE' : (t.ltr == 103) = false := by simp; omega
   have HF : Hid (¬ Ft (.grp k y) t) := fun h => by cases h; exact hb rfl
   clear hb
   go_wp2_with fail
   go_quiet (fail)
   go_wp2_with fail
   go_ret
   exact ⟨_, rfl, ⟨(nomatch ·), fun h => absurd h HF.out⟩, hk0.drewN _⟩
end Go.Proofs.YtnfojonmohijpaaGreatDoor
namespace Go.Proofs.YtnfojonmohijpaaGreatDoor
def evs : List Int → List (Nat × Nat × Nat) → List Int
 | l, [] => l
 | l, (n, i, j) :: ev => evs ((l.set (2 * n - 2) i).set (2 * n - 1) j) ev
theorem evs_len : ∀ (ev : List (Nat × Nat × Nat)) (l : List Int), (evs l ev).length = l.length
 | [], l => rfl
 | (n, i, j) :: ev, l => by rw [evs, evs_len ev]; simp
end Go.Proofs.YtnfojonmohijpaaGreatDoor
namespace Go.Proofs.YtnfojonmohijpaaGreatDoor
theorem NumL.least {s : ByteArray} {least n : Nat} {any : Bool} {i : Nat} {q : R Nat} (h : NumL s least n any i q) : ∀ m j, q = .ok m j → least ≤ m := by
 induction h with
 | dig n x any i q hd hx h5 hl _ ih => exact ih
 | big => intro m j e; cases e
 | done n i hd hl => intro m j e; cases e; exact hl
 | short => intro m j e; cases e
theorem RepR.fair {s : ByteArray} {j k mn : Nat} {mx : Int} (h : RepR s j (.ok (Option.some (mn, mx)) k)) : mx < 0 ∨ (mn : Int) ≤ mx := by
 rcases h with ⟨a, b, c, d, e⟩ | ⟨a, e⟩ | ⟨a, e⟩ | ⟨a, e⟩ | ⟨a, q1, n, e⟩
 ·cases e
 ·cases e; omega
 ·cases e; omega
 ·cases e; omega
 ·cases q1 with
  | bad l => cases e
  | ok m l =>
   rcases e with ⟨a, b, e⟩ | ⟨a, b, q2, n', e⟩ | ⟨a, e⟩
   ·cases e; omega
   ·cases q2 with
    | bad x => cases e
    | ok y x =>
     have hx := n'.least y x rfl
     simp only [Rep3] at e
     by_cases h5 : at' s x = 125
     ·rw [if_pos h5] at e; cases e; omega
     ·rw [if_neg h5] at e; cases e
   ·by_cases h5 : at' s l = 125
    ·rw [if_pos h5] at e; cases e; omega
    ·rw [if_neg h5] at e; cases e
end Go.Proofs.YtnfojonmohijpaaGreatDoor
namespace Go.Proofs.YtnfojonmohijpaaGreatDoor
open Go.RowKit
theorem whole_sz {s : ByteArray} {W : Whole} {j : Nat} (hs : s.size ≤ 60) (h : PatR s (.ok W j)) : W.x.sz ≤ 1000 := by
 obtain ⟨qw, hG, hqe⟩ := h
 cases qw with
 | bad l => cases hqe
 | ok xg l =>
  obtain ⟨x, g⟩ := xg
  have h1 := hG.shp x g l rfl
  have h2 := endOf_le hG (by unfold wi; by_cases h : at' s 0 = 94; (rw [if_pos h]; exact at'_nn (by omega)); (rw [if_neg h]; exact Nat.zero_le _))
  rw [PatE_ok] at hqe
  have hx : W.x = x := by
   by_cases hc : 0 ≤ at' s (if at' s l = 36 then l + 1 else l)
   ·rw [if_pos hc] at hqe; cases hqe
   ·rw [if_neg hc] at hqe; cases hqe; rfl
  rw [hx]
  simp only [szL, szR, endOf] at h1 h2
  omega
theorem infoPat4 (a b c d : Value) : (Tryz.prog.info? 70).map (·.size) = some [a, b, c, d].length := by kernel_rfl
end Go.Proofs.YtnfojonmohijpaaGreatDoor
namespace Go.Proofs.YtnfojonmohijpaaGreatDoor
def Pat.thin : Pat → Prop
 | .set _ => True
 | .grp _ x => x.thin
 | .rep _ _ x => x.thin
 | .pnil => True
 | .pcons x r => x.thin ∧ r.thin
 | .wone x => x.thin
 | .wcons x r => (wl r).length ≤ 98 ∧ x.thin ∧ r.thin
def Job.thin : Job → Prop
 | .node x => x.thin
 | .kids r => r.thin
 | .times _ _ x => x.thin
 | .alts p r => p + (wl r).length ≤ 100 ∧ r.thin
theorem TT.thin {s : ByteArray} {J : Job} {i j : Nat} {t : Tr} (h : TT s J i j t) : J.thin → t.thin := by
 induction h with
 | byte => intro _; trivial
 | grp k x i j t _ _ ih => exact ih
 | nil => intro _; trivial
 | lone x i j t _ ih => intro h; exact ih h.1
 | row x y r i j l _ ih => exact ih
 | kend => intro _; trivial
 | kgo x r i j c t u _ _ _ ih1 ih2 => intro h; exact ⟨ih1 h.1, ih2 h.2⟩
 | rep mn mx x i j l _ ih => exact ih
 | tend => intro _; trivial
 | tgo mn mx x i j c t u _ _ _ _ ih1 ih2 => intro h; exact ⟨ih1 h, ih2 h⟩
 | wone x i j t _ ih => exact ih
 | wcons x r i j t _ ih => intro h; exact ih ⟨by simp only [wl, List.length_cons]; have := h.1; omega, h⟩
 | hit p x r i j t _ _ ih => intro h; exact ⟨by have := h.1; simp only [wl, List.length_cons] at this; omega, ih h.2.2.1⟩
 | miss p x r i j t _ _ ih => intro h; exact ih ⟨by have := h.1; simp only [wl, List.length_cons] at this; omega, h.2.2.2⟩
 | last p x i j t _ ih => intro h; exact ⟨by have := h.1; simp only [wl, List.length_cons, List.length_nil] at this; omega, ih h.2⟩
theorem G.thin {s : ByteArray} {k : Kd} {d g i : Nat} {q : R (Pat × Nat)} (h : G s k d g i q) : d ≤ 6 → g ≤ 9 → i ≤ s.size → s.size ≤ 60 → ∀ x g1 j, q = .ok (x, g1) j → g ≤ g1 ∧ g1 ≤ 9 ∧ x.fair g1 ∧ x.thin ∧ (k = .ways → (wl x).length ≤ j - i + 1) := by
 induction h with
 | one d g i g1 j x _ e ih =>
  intro hd hg hi hs x' g1' j' e'
  cases e'
  obtain ⟨a1, a2, a3, a4, _⟩ := ih hd hg hi hs x g1 j rfl
  exact ⟨a1, a2, a3, a4, fun _ => by simp [wl]⟩
 | more d g i g1 j x q hx e hq ih ih2 =>
  intro hd hg hi hs x' g1' j' e'
  cases q with
  | bad l => cases e'
  | ok y l =>
   obtain ⟨a1, a2, a3, a4, _⟩ := ih hd hg hi hs x g1 j rfl
   have o1 := hx.okb x g1 j rfl
   have hj : j < s.size := at'_nn (by omega)
   obtain ⟨b1, b2, b3, b4, b5⟩ := ih2 hd a2 (by omega) hs y.1 y.2 l rfl
   have o2 := hq.okb y.1 y.2 l rfl
   have hb5 := b5 rfl
   have hl := o2.2.1 (by omega)
   cases e'
   refine ⟨by omega, b2, ⟨a3.up b1, b3⟩, ⟨by omega, a4, b4⟩, fun _ => ?_⟩
   simp only [wl, List.length_cons]
   omega
 | wbad => intro _ _ _ _ x' g1' j' e'; cases e'
 | nil d g i e => intro hd hg hi hs x' g1' j' e'; cases e'; exact ⟨Nat.le_refl _, hg, trivial, trivial, fun h => by cases h⟩
 | cons d g i g1 j x q e hx hq ih ih2 =>
  intro hd hg hi hs x' g1' j' e'
  cases q with
  | bad l => cases e'
  | ok y l =>
   obtain ⟨a1, a2, a3, a4, _⟩ := ih hd hg hi hs x g1 j rfl
   have o1 := hx.okb x g1 j rfl
   obtain ⟨b1, b2, b3, b4, _⟩ := ih2 hd a2 (o1.2.1 hi) hs y.1 y.2 l rfl
   cases e'
   exact ⟨by omega, b2, ⟨a3.up b1, b3⟩, ⟨a4, b4⟩, fun h => by cases h⟩
 | pbad => intro _ _ _ _ x' g1' j' e'; cases e'
 | rep d g i g1 j x q _ r ih =>
  intro hd hg hi hs x' g1' j' e'
  obtain ⟨a1, a2, a3, a4, _⟩ := ih hd hg hi hs x g1 j rfl
  cases q with
  | bad l => cases e'
  | ok o l =>
   cases o with
   | none => cases e'; exact ⟨a1, a2, a3, a4, fun h => by cases h⟩
   | some mm =>
    obtain ⟨mn, mx⟩ := mm
    cases e'
    exact ⟨a1, a2, ⟨r.fair, a3⟩, a4, fun h => by cases h⟩
 | sbad => intro _ _ _ _ x' g1' j' e'; cases e'
 | deep => intro _ _ _ _ x' g1' j' e'; cases e'
 | grp d g i g1 j x e o _ c ih =>
  intro hd hg hi hs x' g1' j' e'
  cases e'
  have hi' : i < s.size := at'_nn (by omega)
  obtain ⟨a1, a2, a3, a4, _⟩ := ih (by omega) (by omega) (by omega) hs x g1 j rfl
  exact ⟨by omega, a2, ⟨by omega, a1, a3⟩, a4, fun h => by cases h⟩
 | gopen => intro _ _ _ _ x' g1' j' e'; cases e'
 | gbad => intro _ _ _ _ x' g1' j' e'; cases e'
 | set d g i q e r =>
  intro hd hg hi hs x' g1' j' e'
  cases q with
  | bad l => cases e'
  | ok f l => cases e'; exact ⟨Nat.le_refl _, hg, trivial, trivial, fun h => by cases h⟩
 | dot d g i e => intro hd hg hi hs x' g1' j' e'; cases e'; exact ⟨Nat.le_refl _, hg, trivial, trivial, fun h => by cases h⟩
 | esc d g i e =>
  intro hd hg hi hs x' g1' j' e'
  cases hq : escS s 0 (i + 1) with
  | bad l => rw [hq] at e'; cases e'
  | ok f l => rw [hq] at e'; cases e'; exact ⟨Nat.le_refl _, hg, trivial, trivial, fun h => by cases h⟩
 | no => intro _ _ _ _ x' g1' j' e'; cases e'
 | lit d g i e => intro hd hg hi hs x' g1' j' e'; cases e'; exact ⟨Nat.le_refl _, hg, trivial, trivial, fun h => by cases h⟩
theorem PatR.good {s : ByteArray} {W : Whole} {j : Nat} (hs : s.size ≤ 60) (h : PatR s (.ok W j)) : W.x.fair 9 ∧ W.x.thin ∧ W.g ≤ 9 := by
 obtain ⟨qw, hG, hqe⟩ := h
 cases qw with
 | bad l => cases hqe
 | ok xg l =>
  obtain ⟨x, g⟩ := xg
  have hwi : wi s ≤ s.size := by
   unfold wi
   by_cases h : at' s 0 = 94
   ·rw [if_pos h]; exact at'_nn (by omega)
   ·rw [if_neg h]; exact Nat.zero_le _
  obtain ⟨_, h2, h3, h4, _⟩ := hG.thin (by omega) (by omega) hwi hs x g l rfl
  rw [PatE_ok] at hqe
  by_cases hc : 0 ≤ at' s (if at' s l = 36 then l + 1 else l)
  ·rw [if_pos hc] at hqe; cases hqe
  ·rw [if_neg hc] at hqe; cases hqe; exact ⟨h3.up h2, h4, h2⟩
def MatchA (p s : ByteArray) (t : List UInt8) (b : Bool) (n : Int) : Prop :=
 (60 < p.size ∧ t = [] ∧ b = false ∧ n = 1) ∨
 (p.size ≤ 60 ∧ ∃ q, PatR p q ∧ match q with
   | .bad _ => t = [] ∧ b = false ∧ n = 2
   | .ok W _ => (100 < s.size ∧ t = [] ∧ b = false ∧ n = 1) ∨
       (s.size ≤ 100 ∧ ((¬ Mt s W.x 0 s.size ∧ t = [] ∧ b = false ∧ n = 0) ∨
         (Mt s W.x 0 s.size ∧ ∃ u ev, TR s (.node W.x) 0 s.size u ev ∧ ((u.length ≤ 20000 ∧ t = u ∧ b = true ∧ n = 0) ∨ (20000 < u.length ∧ t = [] ∧ b = false ∧ n = 1))))))
theorem MatchA.det {p s : ByteArray} {t t' : List UInt8} {b b' : Bool} {n n' : Int} (h : MatchA p s t b n) (h' : MatchA p s t' b' n') : t = t' ∧ b = b' ∧ n = n' := by
 rcases h with ⟨h0, rfl, rfl, rfl⟩ | ⟨h0, q, hq, h⟩
 ·rcases h' with ⟨_, rfl, rfl, rfl⟩ | ⟨h1, _⟩
  ·exact ⟨rfl, rfl, rfl⟩
  ·omega
 ·rcases h' with ⟨h1, _⟩ | ⟨_, q', hq', h'⟩
  ·omega
  ·cases hq.det hq'
   cases q with
   | bad j => obtain ⟨rfl, rfl, rfl⟩ := h; obtain ⟨rfl, rfl, rfl⟩ := h'; exact ⟨rfl, rfl, rfl⟩
   | ok W j =>
    rcases h with ⟨h1, rfl, rfl, rfl⟩ | ⟨h1, h⟩
    ·rcases h' with ⟨_, rfl, rfl, rfl⟩ | ⟨h2, _⟩
     ·exact ⟨rfl, rfl, rfl⟩
     ·omega
    ·rcases h' with ⟨h2, _⟩ | ⟨_, h'⟩
     ·omega
     ·rcases h with ⟨h2, rfl, rfl, rfl⟩ | ⟨h2, u, ev, hu, h⟩
      ·rcases h' with ⟨_, rfl, rfl, rfl⟩ | ⟨h3, _⟩
       ·exact ⟨rfl, rfl, rfl⟩
       ·exact absurd h3 h2
      ·rcases h' with ⟨h3, _⟩ | ⟨_, u', ev', hu', h'⟩
       ·exact absurd h2 h3
       ·obtain ⟨rfl, _⟩ := hu.det u' ev' hu'
        rcases h with ⟨h4, rfl, rfl, rfl⟩ | ⟨h4, rfl, rfl, rfl⟩
        ·rcases h' with ⟨_, rfl, rfl, rfl⟩ | ⟨h5, _⟩
         ·exact ⟨rfl, rfl, rfl⟩
         ·omega
        ·rcases h' with ⟨h5, _⟩ | ⟨_, rfl, rfl, rfl⟩
         ·omega
         ·exact ⟨rfl, rfl, rfl⟩
end Go.Proofs.YtnfojonmohijpaaGreatDoor
namespace Go.Proofs.YtnfojonmohijpaaGreatDoor
def lastE : List (Nat × Nat × Nat) → Nat → Option (Nat × Nat)
 | [], _ => none
 | e :: ev, k => (lastE ev k).orElse fun _ => if e.1 = k then some e.2 else none
theorem lastE_app (ev fv : List (Nat × Nat × Nat)) (k : Nat) : lastE (ev ++ fv) k = (lastE fv k).orElse fun _ => lastE ev k := by
 induction ev with
 | nil => simp [lastE]
 | cons e ev ih =>
  rw [List.cons_append, lastE, ih, lastE]
  cases lastE fv k <;> simp
theorem evs_get : ∀ (ev : List (Nat × Nat × Nat)) (l : List Int) (q : Nat), (∀ e, e ∈ ev → 1 ≤ e.1) →
    (evs l ev)[q]? = match lastE ev (q / 2 + 1) with | some (i, j) => if q < l.length then some (if q % 2 = 0 then (i : Int) else (j : Int)) else none | none => l[q]?
 | [], l, q, _ => rfl
 | (n, i, j) :: ev, l, q, h => by
  have hn := h (n, i, j) (by simp)
  simp only at hn
  rw [evs, evs_get ev _ q (fun e he => h e (by simp [he]))]
  cases hl : lastE ev (q / 2 + 1) with
  | some p => simp [lastE, hl]
  | none =>
   simp only [lastE, hl, Option.orElse_none]
   by_cases he : n = q / 2 + 1
   ·rw [if_pos he]
    simp only [List.getElem?_set, List.length_set]
    by_cases h0 : q % 2 = 0
    ·have h1 : ¬ 2 * n - 1 = q := by omega
     have h2 : 2 * n - 2 = q := by omega
     rw [if_neg h1, if_pos h2, if_pos h0]
     by_cases hlt : q < l.length
     ·rw [if_pos hlt, if_pos (by omega)]
     ·rw [if_neg hlt, if_neg (by omega)]
    ·have h1 : 2 * n - 1 = q := by omega
     rw [if_pos h1, if_neg h0]
     by_cases hlt : q < l.length
     ·rw [if_pos hlt, if_pos (by omega)]
     ·rw [if_neg hlt, if_neg (by omega)]
   ·rw [if_neg he]
    simp only [List.getElem?_set, List.length_set]
    rw [if_neg (by omega), if_neg (by omega)]
theorem evs_same {ev fv : List (Nat × Nat × Nat)} (h1 : ∀ e, e ∈ ev → 1 ≤ e.1) (h2 : ∀ e, e ∈ fv → 1 ≤ e.1) (h : ∀ k, lastE ev k = lastE fv k) (l : List Int) : evs l ev = evs l fv := by
 apply List.ext_getElem?
 intro q
 rw [evs_get ev l q h1, evs_get fv l q h2, h]
def Tr.pevs : Tr → Nat → List (Nat × Nat × Nat)
 | .tnil, _ => []
 | .tbyte _, _ => []
 | .tgrp k x, i => x.pevs i ++ [(k, i, i + x.len)]
 | .talt _ x, i => x.pevs i
 | .tser l, i => l.pevs i
 | .trep l, i => l.pevs i
 | .lnil, _ => []
 | .lcons x r, i => x.pevs i ++ r.pevs (i + x.len)
def Tr.has (k : Nat) : Tr → Prop
 | .tnil => False
 | .tbyte _ => False
 | .tgrp n x => n = k ∨ x.has k
 | .talt _ x => x.has k
 | .tser l => l.has k
 | .trep l => l.has k
 | .lnil => False
 | .lcons x r => x.has k ∨ r.has k
def Pat.has (k : Nat) : Pat → Prop
 | .set _ => False
 | .grp n x => n = k ∨ x.has k
 | .rep _ _ x => x.has k
 | .pnil => False
 | .pcons x r => x.has k ∨ r.has k
 | .wone x => x.has k
 | .wcons x r => x.has k ∨ r.has k
def Pat.nest : Pat → Prop
 | .set _ => True
 | .grp n x => 1 ≤ n ∧ ¬ x.has n ∧ x.nest
 | .rep _ _ x => x.nest
 | .pnil => True
 | .pcons x r => x.nest ∧ r.nest
 | .wone x => x.nest
 | .wcons x r => x.nest ∧ r.nest
def Tr.nest : Tr → Prop
 | .tnil => True
 | .tbyte _ => True
 | .tgrp n x => 1 ≤ n ∧ ¬ x.has n ∧ x.nest
 | .talt _ x => x.nest
 | .tser l => l.nest
 | .trep l => l.nest
 | .lnil => True
 | .lcons x r => x.nest ∧ r.nest
def Job.has (k : Nat) : Job → Prop
 | .node x => x.has k
 | .kids r => r.has k
 | .times _ _ x => x.has k
 | .alts _ r => r.has k
def Job.nest : Job → Prop
 | .node x => x.nest
 | .kids r => r.nest
 | .times _ _ x => x.nest
 | .alts _ r => r.nest
theorem TT.has {s : ByteArray} {J : Job} {i j : Nat} {t : Tr} (h : TT s J i j t) (k : Nat) : t.has k → J.has k := by
 induction h with
 | byte => exact id
 | grp n x i j t _ _ ih => exact fun h => h.elim Or.inl fun h => Or.inr (ih h)
 | nil => exact id
 | lone x i j t _ ih => exact fun h => Or.inl (ih h)
 | row x y r i j l _ ih => exact ih
 | kend => exact fun h => h.elim
 | kgo x r i j c t u _ _ _ ih1 ih2 => exact fun h => h.elim (fun h => Or.inl (ih1 h)) (fun h => Or.inr (ih2 h))
 | rep mn mx x i j l _ ih => exact ih
 | tend => exact fun h => h.elim
 | tgo mn mx x i j c t u _ _ _ _ ih1 ih2 => exact fun h => h.elim ih1 ih2
 | wone x i j t _ ih => exact ih
 | wcons x r i j t _ ih => exact ih
 | hit p x r i j t _ _ ih => exact fun h => Or.inl (ih h)
 | miss p x r i j t _ _ ih => exact fun h => Or.inr (ih h)
 | last p x i j t _ ih => exact ih
theorem TT.nest {s : ByteArray} {J : Job} {i j : Nat} {t : Tr} (h : TT s J i j t) : J.nest → t.nest := by
 induction h with
 | byte => exact id
 | grp n x i j t _ h0 ih => exact fun h => ⟨h.1, fun hk => h.2.1 (h0.has n hk), ih h.2.2⟩
 | nil => exact id
 | lone x i j t _ ih => exact fun h => ih h.1
 | row x y r i j l _ ih => exact ih
 | kend => exact fun _ => trivial
 | kgo x r i j c t u _ _ _ ih1 ih2 => exact fun h => ⟨ih1 h.1, ih2 h.2⟩
 | rep mn mx x i j l _ ih => exact ih
 | tend => exact fun _ => trivial
 | tgo mn mx x i j c t u _ _ _ _ ih1 ih2 => exact fun h => ⟨ih1 h, ih2 h⟩
 | wone x i j t _ ih => exact ih
 | wcons x r i j t _ ih => exact ih
 | hit p x r i j t _ _ ih => exact fun h => ih h.1
 | miss p x r i j t _ _ ih => exact fun h => ih h.2
 | last p x i j t _ ih => exact ih
theorem Tr.evs_has {k : Nat} : ∀ {t : Tr} {i : Nat}, ¬ t.has k → lastE (t.evs i) k = none
 | .tnil, _, _ => rfl
 | .tbyte _, _, _ => rfl
 | .tgrp n x, i, h => by
  rw [Tr.evs, lastE, Tr.evs_has (t := x) fun hk => h (Or.inr hk), if_neg fun e => h (Or.inl e)]
  rfl
 | .talt _ x, i, h => Tr.evs_has (t := x) (i := i) h
 | .tser l, i, h => Tr.evs_has (t := l) (i := i) h
 | .trep l, i, h => Tr.evs_has (t := l) (i := i) h
 | .lnil, _, _ => rfl
 | .lcons x r, i, h => by
  rw [Tr.evs, lastE_app, Tr.evs_has (t := x) fun hk => h (Or.inl hk), Tr.evs_has (t := r) fun hk => h (Or.inr hk)]
  rfl
theorem Tr.evs_pos : ∀ {t : Tr} {i : Nat}, t.nest → ∀ e, e ∈ t.evs i → 1 ≤ e.1
 | .tnil, _, _, e, he => by cases he
 | .tbyte _, _, _, e, he => by cases he
 | .tgrp n x, i, h, e, he => by
  rcases List.mem_cons.1 he with rfl | he
  ·exact h.1
  ·exact Tr.evs_pos h.2.2 e he
 | .talt _ x, i, h, e, he => Tr.evs_pos (t := x) (i := i) h e he
 | .tser l, i, h, e, he => Tr.evs_pos (t := l) (i := i) h e he
 | .trep l, i, h, e, he => Tr.evs_pos (t := l) (i := i) h e he
 | .lnil, _, _, e, he => by cases he
 | .lcons x r, i, h, e, he => by
  rcases List.mem_append.1 he with he | he
  ·exact Tr.evs_pos h.1 e he
  ·exact Tr.evs_pos h.2 e he
def Tr.alike : Tr → Nat → List (Nat × Nat × Nat) → Prop
 | .lcons y r, i, e => y.len = 0 ∧ y.evs i = e ∧ r.alike i e
 | _, _, _ => True
def Tr.still : Tr → Nat → Prop
 | .lcons x r, i => (x.len = 0 → r.alike i (x.evs i)) ∧ r.still (i + x.len)
 | _, _ => True
def Tr.calm : Tr → Nat → Prop
 | .tnil, _ => True
 | .tbyte _, _ => True
 | .tgrp _ x, i => x.calm i
 | .talt _ x, i => x.calm i
 | .tser l, i => l.calm i
 | .trep l, i => l.calm i ∧ l.still i
 | .lnil, _ => True
 | .lcons x r, i => x.calm i ∧ r.calm (i + x.len)
def Job.still : Job → Tr → Nat → Prop
 | .times _ _ _, t, i => t.still i
 | _, _, _ => True
theorem times_alike {s : ByteArray} {x : Pat} {e : List (Nat × Nat × Nat)} {J : Job} {i j : Nat} {u : Tr} (h : TT s J i j u) : ∀ (mn : Nat) (mx : Int), J = .times mn mx x → i = j → Tm (Mt s x) mn mx i j → (∀ t, TT s (.node x) i i t → Mt s x i i → t.evs i = e) → u.alike i e := by
 induction h with
 | tend => intro _ _ _ _ _ _; trivial
 | tgo mn' mx' x' i j c t u hg hc ht hu _ ih2 =>
  intro mn mx hJ hij hT he
  cases hJ
  subst hij
  obtain ⟨⟨hP, hQ⟩, _⟩ := Tm.cut (fun _ _ h => h.le) hT hg hc
  have hci : c = i := by have h1 := hc.1; have h2 := hc.2.1; omega
  subst hci
  have h1 := (ht.toTR hP).2
  exact ⟨by omega, he t ht hP, ih2 _ _ rfl rfl hQ he⟩
 | _ => intro _ _ hJ; cases hJ
theorem TT.calm {s : ByteArray} {J : Job} {i j : Nat} {t : Tr} (h : TT s J i j t) : J.ok s i j → t.calm i ∧ J.still t i := by
 have hle : ∀ {x : Pat} (i j : Nat), Mt s x i j → i ≤ j := fun _ _ h => h.le
 induction h with
 | byte => intro _; exact ⟨trivial, trivial⟩
 | grp n x i j t _ _ ih => intro h; exact ⟨(ih h).1, trivial⟩
 | nil => intro _; exact ⟨trivial, trivial⟩
 | lone x i j t _ ih =>
  rintro ⟨m, a, b⟩
  have b' : m = j := b
  subst b'
  exact ⟨(ih a).1, trivial⟩
 | row x y r i j l _ ih => intro h; exact ⟨(ih h).1, trivial⟩
 | kend => intro _; exact ⟨trivial, trivial⟩
 | kgo x r i j c t u hc ht hu ih1 ih2 =>
  rintro ⟨m, a, b⟩
  have hP := hc.hit ⟨m, a.le, b.le, a, b⟩
  have e := (ht.toTR hP.1).2
  exact ⟨⟨(ih1 hP.1).1, by rw [e]; exact (ih2 hP.2).1⟩, trivial⟩
 | rep mn mx x i j l _ ih => intro h; exact ⟨⟨(ih h).1, (ih h).2⟩, trivial⟩
 | tend => intro _; exact ⟨trivial, trivial⟩
 | tgo mn mx x i j c t u hg hc ht hu ih1 ih2 =>
  intro h
  obtain ⟨hP, _⟩ := Tm.cut hle h hg hc
  have e := (ht.toTR hP.1).2
  refine ⟨⟨(ih1 hP.1).1, by rw [e]; exact (ih2 hP.2).1⟩, ?_, by rw [e]; exact (ih2 hP.2).2⟩
  intro h0
  have hci : c = i := by omega
  subst hci
  have hij : c = j := by
   rcases Nat.lt_or_ge c j with hlt | hge
   ·exact absurd (Tm.cutFront hle (fun i m h => Mt.null h) h hlt hc).1 (by omega)
   ·have := hc.2.1; omega
  subst hij
  exact times_alike hu _ _ rfl rfl hP.2 fun t' ht' hm' => ((ht'.toTR hm').1.det _ _ (ht.toTR hP.1).1).2
 | wone x i j t _ ih => intro h; exact ⟨(ih h).1, trivial⟩
 | wcons x r i j t _ ih => intro h; exact ⟨(ih h).1, trivial⟩
 | hit p x r i j t hm _ ih => intro _; exact ⟨(ih hm).1, trivial⟩
 | miss p x r i j t hn _ ih => intro h; exact ⟨(ih (Or.resolve_left h hn)).1, trivial⟩
 | last p x i j t _ ih => intro h; exact ⟨(ih h).1, trivial⟩
theorem G.nest {s : ByteArray} {k : Kd} {d g i : Nat} {q : R (Pat × Nat)} (h : G s k d g i q) : ∀ x g1 j, q = .ok (x, g1) j → g ≤ g1 ∧ x.nest ∧ ∀ m, x.has m → g < m ∧ m ≤ g1 := by
 induction h with
 | one d g i g1 j x _ e ih => intro x' g1' j' e'; cases e'; exact ih x g1 j rfl
 | more d g i g1 j x q _ e _ ih ih2 =>
  intro x' g1' j' e'
  cases q with
  | bad l => cases e'
  | ok y l =>
   obtain ⟨a1, a2, a3⟩ := ih x g1 j rfl
   obtain ⟨b1, b2, b3⟩ := ih2 y.1 y.2 l rfl
   cases e'
   exact ⟨by omega, ⟨a2, b2⟩, fun m hm => hm.elim (fun h => by have := a3 m h; omega) (fun h => by have := b3 m h; omega)⟩
 | wbad => intro x' g1' j' e'; cases e'
 | nil d g i e => intro x' g1' j' e'; cases e'; exact ⟨Nat.le_refl _, trivial, fun m h => h.elim⟩
 | cons d g i g1 j x q e _ _ ih ih2 =>
  intro x' g1' j' e'
  cases q with
  | bad l => cases e'
  | ok y l =>
   obtain ⟨a1, a2, a3⟩ := ih x g1 j rfl
   obtain ⟨b1, b2, b3⟩ := ih2 y.1 y.2 l rfl
   cases e'
   exact ⟨by omega, ⟨a2, b2⟩, fun m hm => hm.elim (fun h => by have := a3 m h; omega) (fun h => by have := b3 m h; omega)⟩
 | pbad => intro x' g1' j' e'; cases e'
 | rep d g i g1 j x q _ r ih =>
  intro x' g1' j' e'
  obtain ⟨a1, a2, a3⟩ := ih x g1 j rfl
  cases q with
  | bad l => cases e'
  | ok o l =>
   cases o with
   | none => cases e'; exact ⟨a1, a2, a3⟩
   | some mm => obtain ⟨mn, mx⟩ := mm; cases e'; exact ⟨a1, a2, a3⟩
 | sbad => intro x' g1' j' e'; cases e'
 | deep => intro x' g1' j' e'; cases e'
 | grp d g i g1 j x e o _ c ih =>
  intro x' g1' j' e'
  cases e'
  obtain ⟨a1, a2, a3⟩ := ih x g1 j rfl
  refine ⟨by omega, ⟨by omega, fun h => by have := a3 _ h; omega, a2⟩, fun m hm => ?_⟩
  rcases hm with h | h
  ·omega
  ·have := a3 m h; omega
 | gopen => intro x' g1' j' e'; cases e'
 | gbad => intro x' g1' j' e'; cases e'
 | set d g i q e r =>
  intro x' g1' j' e'
  cases q with
  | bad l => cases e'
  | ok f l => cases e'; exact ⟨Nat.le_refl _, trivial, fun m h => h.elim⟩
 | dot d g i e => intro x' g1' j' e'; cases e'; exact ⟨Nat.le_refl _, trivial, fun m h => h.elim⟩
 | esc d g i e =>
  intro x' g1' j' e'
  cases hq : escS s 0 (i + 1) with
  | bad l => rw [hq] at e'; cases e'
  | ok f l => rw [hq] at e'; cases e'; exact ⟨Nat.le_refl _, trivial, fun m h => h.elim⟩
 | no => intro x' g1' j' e'; cases e'
 | lit d g i e => intro x' g1' j' e'; cases e'; exact ⟨Nat.le_refl _, trivial, fun m h => h.elim⟩
end Go.Proofs.YtnfojonmohijpaaGreatDoor
