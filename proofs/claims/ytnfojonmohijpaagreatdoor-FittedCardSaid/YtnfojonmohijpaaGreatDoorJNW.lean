/-
  DERIVED. The program's treeOfSingle, over treeOfWays of what is smaller. Conditions: the stretch is one that matches.
-/
import Derived.Test.YtnfojonmohijpaaGreatDoorJNS
import Derived.Test.YtnfojonmohijpaaGreatDoorJNP
set_option linter.unusedSimpArgs false
set_option linter.unusedVariables false
namespace Go.Proofs.YtnfojonmohijpaaGreatDoor
open Go.RowKit
theorem info3 (a b c : Value) : (Tryz.prog.info? 88).map (·.size) = some (#[a, b, c] : Array Value).size := by kernel_rfl
theorem all3 {a b c : Value} (ha : a.oneCell' = true) (hb : b.oneCell' = true) (hc : c.oneCell' = true) : (#[a, b, c] : Array Value).all (·.oneCell') = true := by simp [ha, hb, hc]
theorem heap3_0 (w : World) (x y z : Obj) : (((w.alloc x).alloc y).alloc z).heap[w.heap.size]? = some x := by
 have h1 := heap_alloc2_old w x y
 have hk : Keeps [] ((w.alloc x).alloc y) (((w.alloc x).alloc y).alloc z) := (Keeps.refl [] _).alloc _
 exact (hk.block _ (by simp; omega) (by simp)).trans h1
theorem heap3_1 (w : World) (x y z : Obj) : (((w.alloc x).alloc y).alloc z).heap[w.heap.size + 1]? = some y := by
 have h1 := heap_alloc2_new w x y
 have hk : Keeps [] ((w.alloc x).alloc y) (((w.alloc x).alloc y).alloc z) := (Keeps.refl [] _).alloc _
 exact (hk.block _ (by simp) (by simp)).trans h1
theorem heap3_2 (w : World) (x y z : Obj) : (((w.alloc x).alloc y).alloc z).heap[w.heap.size + 2]? = some z := by
 have := heap_alloc_new ((w.alloc x).alloc y) z
 simpa using this
theorem keeps3 (w : World) (x y z : Obj) : Keeps [] w (((w.alloc x).alloc y).alloc z) := (((Keeps.refl [] w).alloc _).alloc _).alloc _
theorem matCells {w : World} {g : Nat} {a b c d e f : Value} {s : ByteArray} (h : w.heap[g]? = some (.cells #[a, b, c, d, .string s, e, f] 80 (0, 0))) : w.cell? ⟨g, 4, none⟩ = some (.string s) := by rw [Lib.cell_of_heap h]; rfl
theorem oneTree {w : World} {cs : List Value} (hl : cs.length = 3) : (w.alloc (.cells cs.toArray 88)).ownsRow 0 88 3 (.slice (some ⟨w.heap.size, 0, none⟩) 1 1) 1 cs :=
 ⟨by omega, .inr ⟨w.heap.size, 1, cs.toArray, rfl, Nat.zero_le _, heap_alloc_new w _, Nat.le_refl _, by decide, by simpa using hl, by simp [← hl]⟩⟩
set_option maxRecDepth 100000 in
set_option maxHeartbeats 2000000 in
theorem treeOfSingle_any (s : ByteArray) (N : Nat) (hs : s.size ≤ 100) (n : Nat) (IW : TWays s N n) : TSingle s N (n + 1) := by
 intro x hx w S cs m i j hm hM hij hj hmt
 obtain ⟨m0, m1, m2, m3, m5, m6, rfl, o0, o1, o2, o3, o5, o6⟩ := hM.ok
 cases hm with
 | set f v hmp =>
  have hk0 := keeps3 w (.cells #[m0, m1, m2, m3, .string s, m5, m6] 80) (.cells #[.int .i64 0, .slice none 0 0, .slice none 0 0, v] 271) (.cells #[.int .u8 0, .int .i64 0, .slice none 0 0] 88)
  have h0 := heap3_0 w (.cells #[m0, m1, m2, m3, .string s, m5, m6] 80) (.cells #[.int .i64 0, .slice none 0 0, .slice none 0 0, v] 271) (.cells #[.int .u8 0, .int .i64 0, .slice none 0 0] 88)
  have h1 := heap3_1 w (.cells #[m0, m1, m2, m3, .string s, m5, m6] 80) (.cells #[.int .i64 0, .slice none 0 0, .slice none 0 0, v] 271) (.cells #[.int .u8 0, .int .i64 0, .slice none 0 0] 88)
  have h2 := heap3_2 w (.cells #[m0, m1, m2, m3, .string s, m5, m6] 80) (.cells #[.int .i64 0, .slice none 0 0, .slice none 0 0, v] 271) (.cells #[.int .u8 0, .int .i64 0, .slice none 0 0] 88)
  obtain ⟨hlt, hf, hj1⟩ := hmt
  go_enter Tryz.func215, Tryz.ntmps215
  go_upto_region 1 with (fail)
  generalize (((w.alloc (.cells #[m0, m1, m2, m3, .string s, m5, m6] 80)).alloc (.cells #[.int .i64 0, .slice none 0 0, .slice none 0 0, v] 271)).alloc (.cells #[.int .u8 0, .int .i64 0, .slice none 0 0] 88)) = X at *
  obtain ⟨g0, e0⟩ : ∃ g, g = w.heap.size := ⟨_, rfl⟩
  obtain ⟨g1, e1⟩ : ∃ g, g = w.heap.size + 1 := ⟨_, rfl⟩
  obtain ⟨g2, e2⟩ : ∃ g, g = w.heap.size + 2 := ⟨_, rfl⟩
  rw [← e2] at h2 ⊢
  rw [← e1] at h1 ⊢
  rw [← e0] at h0 ⊢
  have hg2w : w.heap.size ≤ g2 := by omega
  clear e0 e1 e2
  have c4 := matCells h0
  have d0 : X.cell? ⟨g1, 0, none⟩ = some (.int .i64 0) := by rw [Lib.cell_of_heap h1]; rfl
  have hi0 : (0 : Int) ≤ (i : Int) := by omega
  have hi1 : (i : Int) < (s.size : Int) := by omega
  have hb : at' s i = (s[i].toNat : Int) := at'_lt hlt
  have hb2 : s[i].toNat < 256 := UInt8.toNat_lt _
  have HT : Hid (TT s (.node (.set f)) i j (.tbyte s[i].toNat)) := by
   have h : (at' s i).toNat = s[i].toNat := by rw [hb]; rfl
   have := TT.byte (s := s) f i j
   rw [h] at this
   exact this
  clear hb hf hj1
  go_wp2_with (first | (refine wpList_store_row rfl 88 _ _ rfl g2 #[.int .u8 98, .int .i64 (s[i].toNat : Int), .slice none 0 0] rfl rfl _ _ h2 (info3 _ _ _) rfl (all3 rfl rfl rfl) ?_))
  refine bodyPost_ret (results_cell_row rfl _ _ g2 _ _ _ _ rfl (setRow_heap _ _ _ _ _ _ h2) Tryz.underlying88 rfl (info3 _ _ _)) rfl ?_
  exact ⟨.tbyte s[i].toNat, [.int .u8 98, .int .i64 (s[i].toNat : Int), .slice none 0 0], rfl, .tbyte _ hb2, HT.out, hk0.setRow (Or.inr hg2w) _⟩
 | grp k y a c h0' h9 hmy =>
  obtain ⟨hone, a', c', e', hmp⟩ := hmy.form
  simp only [List.cons.injEq, and_true] at e'
  obtain ⟨rfl, rfl⟩ := e'
  have hk0 := keeps3 w (.cells #[m0, m1, m2, m3, .string s, m5, m6] 80) (.cells #[.int .i64 k, a, c, c] 271) (.cells #[.int .u8 0, .int .i64 0, .slice none 0 0] 88)
  have h0 := heap3_0 w (.cells #[m0, m1, m2, m3, .string s, m5, m6] 80) (.cells #[.int .i64 k, a, c, c] 271) (.cells #[.int .u8 0, .int .i64 0, .slice none 0 0] 88)
  have h1 := heap3_1 w (.cells #[m0, m1, m2, m3, .string s, m5, m6] 80) (.cells #[.int .i64 k, a, c, c] 271) (.cells #[.int .u8 0, .int .i64 0, .slice none 0 0] 88)
  have h2 := heap3_2 w (.cells #[m0, m1, m2, m3, .string s, m5, m6] 80) (.cells #[.int .i64 k, a, c, c] 271) (.cells #[.int .u8 0, .int .i64 0, .slice none 0 0] 88)
  have hkne : ((k : Int) == 0) = false := by simpa using (by omega : ¬ (k : Int) = 0)
  go_enter Tryz.func215, Tryz.ntmps215
  go_upto_region 1 with (fail)
  generalize (((w.alloc (.cells #[m0, m1, m2, m3, .string s, m5, m6] 80)).alloc (.cells #[.int .i64 k, a, c, c] 271)).alloc (.cells #[.int .u8 0, .int .i64 0, .slice none 0 0] 88)) = X at *
  obtain ⟨g0, e0⟩ : ∃ g, g = w.heap.size := ⟨_, rfl⟩
  obtain ⟨g1, e1⟩ : ∃ g, g = w.heap.size + 1 := ⟨_, rfl⟩
  obtain ⟨g2, e2⟩ : ∃ g, g = w.heap.size + 2 := ⟨_, rfl⟩
  rw [← e2] at h2 ⊢
  rw [← e1] at h1 ⊢
  rw [← e0] at h0 ⊢
  have hg2w : w.heap.size ≤ g2 := by omega
  have hg2X : g2 < X.heap.size := (Array.getElem?_eq_some_iff.1 h2).1
  have hg1X : g1 < X.heap.size := (Array.getElem?_eq_some_iff.1 h1).1
  clear e0 e1 e2
  have d0 : X.cell? ⟨g1, 0, none⟩ = some (.int .i64 k) := by rw [Lib.cell_of_heap h1]; rfl
  have d1 : X.cell? ⟨g1, 1, none⟩ = some a := by rw [Lib.cell_of_heap h1]; rfl
  have d2 : X.cell? ⟨g1, 2, none⟩ = some c := by rw [Lib.cell_of_heap h1]; rfl
  have hysz : y.sz ≤ n := by simp [Pat.sz] at hx; omega
  have hC := IW y hysz X S [a, c] #[m0, m1, m2, m3, .string s, m5, m6] i j (hmy.keep hk0 (by simp)) hM hij hj hmt
  go_wp2_with (first | (refine wpList_load_row rfl 80 _ rfl g0 rfl _ _ _ _ h0 Tryz.underlying80 rfl (info7 _ _ _ _ _ _ _) ?_))
  refine hC.mono ?_
  rintro e w1 ⟨t, cs, rfl, htv, htt, hk1⟩
  obtain ⟨k1, n1, va, vn, vc, rfl⟩ := htv.form
  have h21 := (hk1.block g2 hg2X (by simp)).trans h2
  have d01 := (World.cell?_of_block (hk1.block g1 hg1X (by simp))).trans d0
  have hq0 : (w1.alloc (.cells #[.int .u8 0, .int .i64 0, .slice none 0 0] 88)).heap[w1.heap.size]? = some (.cells #[.int .u8 0, .int .i64 0, .slice none 0 0] 88 (0, 0)) := heap_alloc_new w1 _
  have hkQ : Keeps [] w1 ((w1.alloc (.cells #[.int .u8 0, .int .i64 0, .slice none 0 0] 88)).setRow w1.heap.size #[.int .u8 k1, .int .i64 n1, .slice va vn vc]) := ((Keeps.refl [] w1).alloc _).setRow (Or.inr (Nat.le_refl _)) _
  have hqR : ((w1.alloc (.cells #[.int .u8 0, .int .i64 0, .slice none 0 0] 88)).setRow w1.heap.size #[.int .u8 k1, .int .i64 n1, .slice va vn vc]).heap[w1.heap.size]? = some (.cells #[.int .u8 k1, .int .i64 n1, .slice va vn vc] 88 (0, 0)) := setRow_heap _ _ _ _ _ _ hq0
  have h22 := (hkQ.block g2 (by have := hk1.size; omega) (by simp)).trans h21
  have d02 := (World.cell?_of_block (hkQ.block g1 (by have := hk1.size; omega) (by simp))).trans d01
  have htv2 := htv.keep hkQ (by simp)
  have hkB := (hk0.trans hk1).trans hkQ
  clear hC h0 h1 h2 d0 d1 d2 hk0 h21 d01 htv
  go_upto_region 4 with (first | (refine wpList_store_row rfl 88 _ _ rfl w1.heap.size #[.int .u8 k1, .int .i64 n1, .slice va vn vc] rfl rfl _ _ hq0 (info3 _ _ _) rfl (all3 rfl rfl rfl) ?_; generalize (w1.alloc (.cells #[.int .u8 0, .int .i64 0, .slice none 0 0] 88)).setRow w1.heap.size #[.int .u8 k1, .int .i64 n1, .slice va vn vc] = w2 at *))
  obtain ⟨gt, hgt⟩ : ∃ g, g = w1.heap.size := ⟨_, rfl⟩
  rw [← hgt] at hqR ⊢
  clear hgt hq0
  have hk3 : Keeps [] w2 (w2.alloc (.cells #[.int .u8 k1, .int .i64 n1, .slice va vn vc] 88)) := (Keeps.refl [] w2).alloc _
  have hown : (w2.alloc (.cells #[.int .u8 k1, .int .i64 n1, .slice va vn vc] 88)).ownsRow 0 88 3 (.slice (some ⟨w2.heap.size, 0, none⟩) 1 1) 1 [.int .u8 k1, .int .i64 n1, .slice va vn vc] := oneTree rfl
  have h23 := (hk3.block g2 (Array.getElem?_eq_some_iff.1 h22).1 (by simp)).trans h22
  have htv3 := htv2.keep hk3 (by simp)
  have hkC := hkB.trans hk3
  have hkS : Keeps [g2] (w2.alloc (.cells #[.int .u8 k1, .int .i64 n1, .slice va vn vc] 88)) ((w2.alloc (.cells #[.int .u8 k1, .int .i64 n1, .slice va vn vc] 88)).setRow g2 #[.int .u8 103, .int .i64 k, .slice (some ⟨w2.heap.size, 0, none⟩) 1 1]) := (Keeps.refl [g2] _).setRow (g := g2) (by simp) _
  have hg22 : g2 < w2.heap.size := (Array.getElem?_eq_some_iff.1 h22).1
  go_wp2_with (first | (refine wpList_load_row rfl 88 _ rfl gt rfl _ _ _ _ hqR Tryz.underlying88 rfl (info3 _ _ _) ?_) | (refine wpList_store_row rfl 88 _ _ rfl g2 #[.int .u8 103, .int .i64 k, .slice (some ⟨w2.heap.size, 0, none⟩) 1 1] rfl rfl _ _ h23 (info3 _ _ _) rfl (all3 rfl rfl rfl) ?_))
  refine bodyPost_ret (results_cell_row rfl _ _ g2 _ _ _ _ rfl (setRow_heap _ _ _ _ _ _ h23) Tryz.underlying88 rfl (info3 _ _ _)) rfl ?_
  refine ⟨.tgrp k t, [.int .u8 103, .int .i64 k, .slice (some ⟨w2.heap.size, 0, none⟩) 1 1], rfl, ?_, .grp k y i j t h9 htt, hkC.setRow (Or.inr hg2w) _⟩
  have hwX : w.heap.size ≤ w2.heap.size := hkB.size
  refine .tgrp k t _ [.int .u8 k1, .int .i64 n1, .slice va vn vc] h9 ((htv3.keep hkS (by intro z hz; simp; omega)).mono fun z hz _ => by omega) (hown.keep hkS (by intro z hz; simp only [Value.ownBlock, Option.some.injEq] at hz; simp; omega)) ?_
  intro z hz
  simp only [Value.ownBlock, Option.some.injEq] at hz
  omega
end Go.Proofs.YtnfojonmohijpaaGreatDoor
namespace Go.Proofs.YtnfojonmohijpaaGreatDoor
open Go.RowKit
theorem infoTree : (Tryz.prog.info? 88).map (fun i => (i.zero, i.size, i.bytes)) = some (some (.agg #[.int .u8 0, .int .i64 0, .slice none 0 0]), 3, 40) := by kernel_rfl
structure GL (X wr : World) (v : Value) (ts : List Tr) (cs : List Value) : Prop where
 own : wr.ownsRow 0 88 3 v ts.length cs
 fresh : ∀ g, v.ownBlock = some g → X.heap.size ≤ g
 tv : TV wr (fun g => X.heap.size ≤ g ∧ v.ownBlock ≠ some g) false (lapp ts .lnil) cs
 keep : Keeps [] X wr
theorem GL.start (X : World) : GL X X (.slice none 0 0) [] [] := ⟨World.ownsRow_nil _ _ _ _, by simp [Value.ownBlock], .lnil, Keeps.refl _ _⟩
theorem GL.keeps {X wr w' : World} {v : Value} {ts : List Tr} {cs : List Value} (h : GL X wr v ts cs) (hk : Keeps [] wr w') : GL X w' v ts cs := ⟨h.own.keep hk (by simp), h.fresh, h.tv.keep hk (by simp), h.keep.trans hk⟩
theorem GL.add {X w0 w2 w3 w4 : World} {v : Value} {ts ms : List Tr} {cs ds : List Value} {g' cap : Nat} (h : GL X w2 v ts cs) (hm : TV w3 (fun z => w0.heap.size ≤ z) false (lapp ms .lnil) ds) (hX : X.heap.size ≤ w0.heap.size) (hv : ∀ g, v.ownBlock = some g → g < w0.heap.size) (hk : Keeps [] w2 w3)
    (hown : w4.ownsRow 0 88 3 (.slice (some ⟨g', 0, none⟩) (ts.length + ms.length) cap) (ts.length + ms.length) (cs ++ ds)) (hgrow : w3.grownBy w4 v.ownBlock) (hat : v.ownBlock = some g' ∨ g' = w3.heap.size) :
    GL X w4 (.slice (some ⟨g', 0, none⟩) (ts.length + ms.length) cap) (ts ++ ms) (cs ++ ds) := by
 have hk4 : Keeps v.ownBlock.toList w3 w4 := Keeps.ofGrown hgrow
 have hnew : ∀ z, v.ownBlock ≠ some z → z < w3.heap.size → (Value.slice (some ⟨g', 0, none⟩) (ts.length + ms.length) cap).ownBlock ≠ some z := by
  intro z hz hz2 e
  simp only [Value.ownBlock, Option.some.injEq] at e
  subst e
  rcases hat with e | e
  ·exact hz e
  ·omega
 have hmem : ∀ z, v.ownBlock ≠ some z → z ∉ v.ownBlock.toList := by
  intro z hz hm
  rw [Option.mem_toList] at hm
  exact hz hm
 have hno : ∀ q, w0.heap.size ≤ q → v.ownBlock ≠ some q := by
  intro q hq e
  have := hv q e
  omega
 have hs := h.keep.size
 have hs3 := hk.size
 refine ⟨by rw [List.length_append]; exact hown, ?_, ?_, ?_⟩
 ·intro z hz
  simp only [Value.ownBlock, Option.some.injEq] at hz
  subst hz
  rcases hat with e | e
  ·exact h.fresh _ e
  ·omega
 ·refine TV.app ?_ ?_
  ·exact ((hm.mono (S' := fun q => w0.heap.size ≤ q ∧ q < w3.heap.size) fun q hq hq2 => ⟨hq, hq2⟩).keep hk4 fun q hq => hmem q (hno q hq.1)).mono fun q hq _ => ⟨by omega, hnew q (hno q hq.1) hq.2⟩
  ·exact (((h.tv.keep hk (by simp)).mono (S' := fun q => (X.heap.size ≤ q ∧ v.ownBlock ≠ some q) ∧ q < w3.heap.size) fun q hq hq2 => ⟨hq, hq2⟩).keep hk4 fun q hq => hmem q hq.1.2).mono fun q hq _ => ⟨hq.1.1, hnew q hq.1.2 hq.2⟩
 ·exact keepsM (h.keep.trans hk) hk4 (by intro z hz; rw [Option.mem_toList] at hz; exact Or.inr (h.fresh z hz))
theorem GL.row {X wr : World} {v : Value} {ts : List Tr} {cs : List Value} (h : GL X wr v ts cs) : TV wr (fun g => X.heap.size ≤ g) false (lapp ts .lnil) cs := h.tv.mono fun z hz _ => hz.1
structure PL (s : ByteArray) (y : Pat) (mn : Nat) (mx : Int) (i j c : Nat) (ts : List Tr) : Prop where
 left : Left (Mt s y) mn mx ts.length c j
 lo : i + ts.length ≤ c
 hi : c ≤ j
 spec : ∀ u, TT s (.times (mn - ts.length) (lessN mx ts.length) y) c j u → TT s (.times mn mx y) i j (lapp ts u)
theorem PL.start {s : ByteArray} {y : Pat} {mn : Nat} {mx : Int} {i j : Nat} (h : Mt s (.rep mn mx y) i j) : PL s y mn mx i j i [] := ⟨h, by simp, Mt.le h, fun u h => h⟩
theorem PL.mid {s : ByteArray} {y : Pat} {mn : Nat} {mx : Int} {i j c e : Nat} {ts : List Tr} (L : PL s y mn mx i j c ts) (hcj : c < j) (hc : Cut (fun m => Mt s y c m ∧ Left (Mt s y) mn mx (ts.length + 1) m j) c j e) : c < e ∧ Mt s y c e := by
 have e1 : mn - (ts.length + 1) = mn - ts.length - 1 := by omega
 have hc' : Cut (fun m => Mt s y c m ∧ Tm (Mt s y) (mn - ts.length - 1) (less (lessN mx ts.length)) m j) c j e := by
  unfold Left at hc
  rw [e1] at hc
  exact hc
 obtain ⟨h1, h2, h3⟩ := Tm.cutFront (fun _ _ => Mt.le (x := y)) (fun _ _ => Mt.null (x := y)) L.left hcj hc'
 exact ⟨h1, h2⟩
theorem PL.next {s : ByteArray} {y : Pat} {mn : Nat} {mx : Int} {i j c e : Nat} {ts : List Tr} {t : Tr} (L : PL s y mn mx i j c ts) (hcj : c < j) (hc : Cut (fun m => Mt s y c m ∧ Left (Mt s y) mn mx (ts.length + 1) m j) c j e) (ht : Mt s y c e → TT s (.node y) c e t) : c < e ∧ Mt s y c e ∧ PL s y mn mx i j e (ts ++ [t]) := by
 have e1 : mn - (ts.length + 1) = mn - ts.length - 1 := by omega
 have hc' : Cut (fun m => Mt s y c m ∧ Tm (Mt s y) (mn - ts.length - 1) (less (lessN mx ts.length)) m j) c j e := by
  unfold Left at hc
  rw [e1] at hc
  exact hc
 obtain ⟨h1, h2, h3⟩ := Tm.cutFront (fun _ _ => Mt.le (x := y)) (fun _ _ => Mt.null (x := y)) L.left hcj hc'
 refine ⟨h1, h2, ⟨?_, ?_, hc.2.1, ?_⟩⟩
 ·rw [List.length_append, List.length_singleton]
  unfold Left
  rw [e1]
  exact h3
 ·have := L.lo
  rw [List.length_append, List.length_singleton]
  omega
 ·intro u hu
  rw [lapp_snoc]
  refine L.spec _ (.tgo _ _ y c j e t u (Or.inl hcj) hc' (ht h2) ?_)
  rw [List.length_append, List.length_singleton, e1] at hu
  exact hu
theorem PL.done {s : ByteArray} {y : Pat} {mn : Nat} {mx : Int} {i j : Nat} {ts : List Tr} (L : PL s y mn mx i j j ts) (h : mn ≤ ts.length) : TT s (.times mn mx y) i j (lapp ts .lnil) := L.spec _ (.tend _ _ y j j (by omega))
theorem PL.null {s : ByteArray} {y : Pat} {mn : Nat} {mx : Int} {i j : Nat} {ts : List Tr} (L : PL s y mn mx i j j ts) (h : ts.length < mn) : Mt s y j j := by
 obtain ⟨n, a, b, hn⟩ := L.left
 rcases It.still (fun _ _ => Mt.le (x := y)) hn with h0 | h0
 ·omega
 ·exact h0
theorem PL.owe {s : ByteArray} {y : Pat} {mn : Nat} {mx : Int} {i j : Nat} {ts : List Tr} {t : Tr} (L : PL s y mn mx i j j ts) (ht : TT s (.node y) j j t) (k : Nat) (hk : k = mn - ts.length) : TT s (.times mn mx y) i j (lapp (ts ++ List.replicate k t) .lnil) := by
 rw [lapp_app]
 refine L.spec _ ?_
 rw [← hk]
 exact TT.owed ht k _
theorem rangeAll {w : World} {g : Nat} {cs : List Value} {T : TypeId} {fr : Nat × Nat} (h : w.heap[g]? = some (.cells cs.toArray T fr)) : w.rangeAt g 0 cs := by
 intro j v hv
 rw [Lib.cell_of_heap h, List.getElem?_toArray, Nat.zero_add]
 exact hv
theorem ownsRow_lenT {w : World} {e : TypeId} {size n : Nat} {va : Option Addr} {vn vc : Nat} {cs : List Value} (h : w.ownsRow 0 e size (.slice va vn vc) n cs) : vn = n := by
 rcases h.2 with ⟨e, e2⟩ | ⟨g, cap, cur, e, _⟩
 ·cases e; exact e2.symm
 ·cases e; rfl
theorem TV.lone {w : World} {S : Nat → Prop} {t : Tr} {cs : List Value} (h : TV w S true t cs) : TV w S false (lapp [t] .lnil) cs := by
 have := TV.lcons t .lnil cs [] h .lnil
 simpa [lapp] using this
end Go.Proofs.YtnfojonmohijpaaGreatDoor
namespace Go.Proofs.YtnfojonmohijpaaGreatDoor
open Go.RowKit
def UTh (b : Nat) (p : US) (w : World) (q : R Tr) (e : Ending) (w' : World) : Prop :=
 match q with
 | .bad j => e = fault j ∧ Keeps [b] w w'
 | .ok t j => ∃ cs, e = .returned (.agg cs.toArray) ∧ TV w' (fun g => w.heap.size ≤ g) true t cs ∧ UB w' b { p with ix := j } ∧ Keeps [b] w w'
def ThingOk (s : ByteArray) (n : Nat) : Prop := ∀ (b : Nat) (p : US) (w : World), p.s = s → UB w b p → p.ix ≤ s.size → s.size - p.ix < n → p.op ≤ 60 → Calls Tryz.prog 132 #[.pointer (some ⟨b, 0, none⟩)] w fun e w' => ∃ q, TG s .thing p.op p.ix q ∧ UTh b p w q e w'
def muU (w : World) (b : Nat) : Nat := 20002 - (cellInt w b 1).toNat
theorem muU_eq {w : World} {b : Nat} {p : US} (hp : UB w b p) : muU w b = 20002 - p.ix := by
 have h := hp.main.2.1
 simp [muU, cellInt, h, intOf]
structure GU (b : Nat) (X wr : World) (v : Value) (ts : List Tr) (cs : List Value) : Prop where
 own : wr.ownsRow 0 88 3 v ts.length cs
 fresh : ∀ g, v.ownBlock = some g → X.heap.size ≤ g
 tv : TV wr (fun g => X.heap.size ≤ g ∧ v.ownBlock ≠ some g) false (lapp ts .lnil) cs
 keep : Keeps [b] X wr
 old : b < X.heap.size
theorem GU.start (b : Nat) (X : World) (hb : b < X.heap.size) : GU b X X (.slice none 0 0) [] [] := ⟨World.ownsRow_nil _ _ _ _, by simp [Value.ownBlock], .lnil, Keeps.refl _ _, hb⟩
theorem GU.keeps {b : Nat} {X wr w' : World} {v : Value} {ts : List Tr} {cs : List Value} (h : GU b X wr v ts cs) (hk : Keeps [b] wr w') : GU b X w' v ts cs :=
 ⟨h.own.keep hk (fun g hg => by have := h.fresh g hg; have := h.old; simp; omega), h.fresh, h.tv.keep hk (fun g hg => by have := hg.1; have := h.old; simp; omega), h.keep.trans hk, h.old⟩
theorem GU.add {b : Nat} {X w0 w3 w4 : World} {v : Value} {ts ms : List Tr} {cs ds : List Value} {g' cap : Nat} (h : GU b X w3 v ts cs) (hm : TV w3 (fun z => w0.heap.size ≤ z) false (lapp ms .lnil) ds) (hX : X.heap.size ≤ w0.heap.size) (hv : ∀ g, v.ownBlock = some g → g < w0.heap.size)
    (hown : w4.ownsRow 0 88 3 (.slice (some ⟨g', 0, none⟩) (ts.length + ms.length) cap) (ts.length + ms.length) (cs ++ ds)) (hgrow : w3.grownBy w4 v.ownBlock) (hat : v.ownBlock = some g' ∨ g' = w3.heap.size) :
    GU b X w4 (.slice (some ⟨g', 0, none⟩) (ts.length + ms.length) cap) (ts ++ ms) (cs ++ ds) := by
 have hk4 : Keeps v.ownBlock.toList w3 w4 := Keeps.ofGrown hgrow
 have hnew : ∀ z, v.ownBlock ≠ some z → z < w3.heap.size → (Value.slice (some ⟨g', 0, none⟩) (ts.length + ms.length) cap).ownBlock ≠ some z := by
  intro z hz hz2 e
  simp only [Value.ownBlock, Option.some.injEq] at e
  subst e
  rcases hat with e | e
  ·exact hz e
  ·omega
 have hmem : ∀ z, v.ownBlock ≠ some z → z ∉ v.ownBlock.toList := by
  intro z hz hm
  rw [Option.mem_toList] at hm
  exact hz hm
 have hno : ∀ q, w0.heap.size ≤ q → v.ownBlock ≠ some q := by
  intro q hq e
  have := hv q e
  omega
 have hs := h.keep.size
 refine ⟨by rw [List.length_append]; exact hown, ?_, ?_, ?_, h.old⟩
 ·intro z hz
  simp only [Value.ownBlock, Option.some.injEq] at hz
  subst hz
  rcases hat with e | e
  ·exact h.fresh _ e
  ·omega
 ·refine TV.app ?_ ?_
  ·exact ((hm.mono (S' := fun q => w0.heap.size ≤ q ∧ q < w3.heap.size) fun q hq hq2 => ⟨hq, hq2⟩).keep hk4 fun q hq => hmem q (hno q hq.1)).mono fun q hq _ => ⟨by omega, hnew q (hno q hq.1) hq.2⟩
  ·exact ((h.tv.mono (S' := fun q => (X.heap.size ≤ q ∧ v.ownBlock ≠ some q) ∧ q < w3.heap.size) fun q hq hq2 => ⟨hq, hq2⟩).keep hk4 fun q hq => hmem q hq.1.2).mono fun q hq _ => ⟨hq.1.1, hnew q hq.1.2 hq.2⟩
 ·exact keepsM h.keep hk4 (by intro z hz; rw [Option.mem_toList] at hz; exact Or.inr (h.fresh z hz))
theorem GU.row {b : Nat} {X wr : World} {v : Value} {ts : List Tr} {cs : List Value} (h : GU b X wr v ts cs) : TV wr (fun g => X.heap.size ≤ g) false (lapp ts .lnil) cs := h.tv.mono fun z hz _ => hz.1
def URow (b : Nat) (p : US) (X : World) (ts : List Tr) (q : R Tr) (e : Ending) (w' : World) : Prop :=
 match q with
 | .bad j => e = fault j ∧ Keeps [b] X w'
 | .ok l j => ∃ v ms cs, e = .returned v ∧ l = lapp ms .lnil ∧ GU b X w' v (ts ++ ms) cs ∧ UB w' b { p with ix := j }
theorem map_lapp_snoc (q : R Tr) (ts : List Tr) (t : Tr) : (q.map (.lcons t)).map (lapp ts) = q.map (lapp (ts ++ [t])) := by
 cases q with
 | bad j => rfl
 | ok l j => simp only [R.map, lapp_snoc]
theorem map_lapp_nil (q : R Tr) : q.map (lapp []) = q := by cases q <;> rfl
set_option maxRecDepth 100000 in
set_option maxHeartbeats 4000000 in
theorem things_any (s : ByteArray) (hs : s.size ≤ 20000) (n : Nat) (IH : ThingOk s n) (b : Nat) (p : US) (k : Nat) (hk2 : k ≤ 2) (hps : p.s = s) (X w : World) (v : Value) (ts : List Tr) (cs : List Value) (hp : UB w b p) (hG : GU b X w v ts cs) (hts : ts.length ≤ 30000) (hle : p.ix ≤ s.size) (hn : s.size - p.ix ≤ n) (hop : p.op ≤ 60) :
    Calls Tryz.prog 258 #[.pointer (some ⟨b, 0, none⟩), .int .i64 k, v] w fun e w' => ∃ q, TG s (.row k false) p.op p.ix q ∧ URow b p X ts q e w' := by
 subst hps
 have hki : (k : Int) ≤ 2 := by omega
 have hk0 : (0 : Int) ≤ (k : Int) := by omega
 go_enter Tryz.func258, Tryz.ntmps258
 go_upto_region 2 with (fail)
 go_loopw [2, 8] (fun q2 q8 wr => ∃ (d j : Nat) (ms : List Tr) (ds : List Value), q8 = .int .i64 d ∧ d ≤ k ∧ ms.length = d ∧ GU b X wr q2 (ts ++ ms) ds ∧ UB wr b { p with ix := j } ∧ j ≤ p.s.size ∧ p.ix ≤ j ∧ ∀ q, TG p.s (.row (k - d) false) p.op j q → TG p.s (.row k false) p.op p.ix (q.map (lapp ms))) (fun _ q8 _ => k - (intOf q8).toNat)
 case atStart => exact ⟨0, p.ix, [], cs, rfl, Nat.zero_le _, rfl, by rw [List.append_nil]; exact hG, hp, hle, Nat.le_refl _, fun q h => by rw [map_lapp_nil]; exact h⟩
 case round =>
  obtain ⟨d, j, ms, ds, rfl, hd, hml, hGr, hpr, hj, hij, hsp⟩ := hrel
  have HSP : Hid (∀ q, TG p.s (.row (k - d) false) p.op j q → TG p.s (.row k false) p.op p.ix (q.map (lapp ms))) := hsp
  have hd0 : (0 : Int) ≤ (d : Int) := by omega
  clear hsp hp hG
  obtain ⟨us, hus⟩ : ∃ us, us = ts ++ ms := ⟨_, rfl⟩
  rw [← hus] at hGr
  have HU : Hid (us = ts ++ ms) := hus
  clear hus
  by_cases hlt : d < k
  ·have hdi : (d : Int) < (k : Int) := by omega
   have HD : Hid (d < k ∧ ms.length = d ∧ p.ix ≤ j ∧ j ≤ p.s.size) := ⟨hlt, hml, hij, hj⟩
   by_cases h32 : at' p.s j = 32
   ·have hE := uexpect_ok b { p with ix := j } 32 (by decide) wr hpr hs h32
    have hjl := at'_lt_of h32 (by decide)
    have HT : Hid (∀ w1, UB w1 b { p with ix := j + 1 } → Calls Tryz.prog 132 #[.pointer (some ⟨b, 0, none⟩)] w1 fun e w' => ∃ q, TG p.s .thing p.op (j + 1) q ∧ UTh b { p with ix := j + 1 } w1 q e w') := fun w1 h => IH b { p with ix := j + 1 } w1 rfl h (by simp only; omega) (by simp only; omega) hop
    have H32 : Hid (at' p.s j = 32) := h32
    clear h32 hlt hml hij hj hd hjl
    go_wp2_with (first | (go_at_call 221; refine hE.mono ?_; rintro e w1 ⟨rfl, hq1, hk1⟩))
    refine (HT.out w1 hq1).mono ?_
    rintro e w2 ⟨q, hTG, hU⟩
    cases q with
    | bad j' =>
     obtain ⟨rfl, hk2'⟩ := hU
     simp only [fault]
     exact ⟨rfl, _, HSP.out _ (.bad _ _ _ _ _ (Or.inl (by have := HD.out; omega)) H32.out hTG), rfl, (hGr.keep.trans hk1).trans hk2'⟩
    | ok t j' =>
     obtain ⟨tcs, rfl, htv, hq2, hk2'⟩ := hU
     obtain ⟨k1, n1, ta, tn, tc, rfl⟩ := htv.form
     have G2 := hGr.keeps hk1
     have G3 := G2.keeps hk2'
     obtain ⟨xa1, xn1, xc1, rfl⟩ := ownsRow_sl hGr.own
     have HTG : Hid (TG p.s .thing p.op (j + 1) (.ok t j')) := hTG
     have hbd := hTG.bd (by have := at'_lt_of H32.out (by decide); omega)
     have HBD : Hid (j + 1 < j' ∧ j' ≤ p.s.size) := ⟨hbd.2.2 rfl, hbd.2.1⟩
     obtain ⟨i0, hi0, hz0, hz1, hz2⟩ := info_parts infoTree
     have hun := Tryz.underlying86
     have hL : us.length ≤ 30002 := by have := HD.out; have := HU.out; rw [this]; simp; omega
     have hlm : us.length + 1 ≤ maxLen := by unfold maxLen; omega
     have hbts : (us.length + 1) * 40 ≤ 140737488355328 := by omega
     have hH : (w2.alloc (.cells #[.int .u8 k1, .int .i64 n1, .slice ta tn tc] 88)).heap.size = w2.heap.size + 1 := by simp
     have hnews : ∀ j u, [Value.int .u8 k1, .int .i64 n1, .slice ta tn tc][j]? = some u → (w2.alloc (.cells #[.int .u8 k1, .int .i64 n1, .slice ta tn tc] 88)).cell? ((⟨w2.heap.size, 0, none⟩ : Addr).add j) = some u := World.news_of_block (cs := #[.int .u8 k1, .int .i64 n1, .slice ta tn tc]) (heap_alloc_new w2 _)
     have hk5 : Keeps [] w2 (w2.alloc (.cells #[.int .u8 k1, .int .i64 n1, .slice ta tn tc] 88)) := (Keeps.refl [] w2).alloc _
     have htv5 := (htv.keep hk5 (by simp)).lone
     have G4 := G3.keeps (hk5.mono (by simp))
     have hq4 := hq2.keep hk5 (by simp)
     have hvl3 : ∀ z, (Value.slice xa1 xn1 xc1).ownBlock = some z → z < w1.heap.size := fun z hz => (World.ownsRow.lt G2.own z hz).2
     have hX3 : X.heap.size ≤ w1.heap.size := G2.keep.size
     clear hbd hTG htv HT hE
     go_wp2_with (first | (at_builtin; refine wpList_append_lies _ rfl _ _ _ rfl 0 88 i0 _ 3 40 hun hi0 hz0 hz1 hz2 rfl (by decide) (.slice xa1 xn1 xc1) us.length ds rfl (G3.own.alloc _) ⟨w2.heap.size, 0, none⟩ 1 1 [.int .u8 k1, .int .i64 n1, .slice ta tn tc] rfl rfl hnews (by intro u hu; simp at hu; rcases hu with rfl | rfl | rfl <;> rfl) (by omega) hlm hbts (Nat.zero_le _) (w2.heap.size + 1) hH ?_))
     intro g' cap w6 hown6 hgrow hat hlt6
     have G6 := GU.add (w0 := w1) (ms := [t]) G4 htv5 hX3 hvl3 hown6 hgrow (by rw [hH]; exact hat)
     have hbx : b < X.heap.size := hGr.old
     have hq6 : UB w6 b { p with ix := j' } := hq4.keep (Keeps.ofGrown hgrow) (fun hm => by
       rw [Option.mem_toList] at hm
       have := hGr.fresh _ hm
       omega)
     clear hown6 hgrow hat hnews hH htv5 G4 G3 G2
     go_wp2_with fail
     go_roundw
     case rel => exact ⟨d + 1, j', ms ++ [t], _, by go_num, by have := HD.out; omega, by have := HD.out; simp; omega, by rw [← List.append_assoc, ← HU.out]; exact G6, hq6, HBD.out.2, by have := HD.out; have := HBD.out; omega, fun q hq => by rw [← map_lapp_snoc]; exact HSP.out _ (.go _ _ _ _ _ _ _ (Or.inl (by have := HD.out; omega)) H32.out HTG.out (by rw [show k - d - 1 = k - (d + 1) by omega]; exact hq))⟩
     case measure => have := HD.out; simp [intOf]; omega
   ·have hE := uexpect_bad b { p with ix := j } 32 (by decide) wr hpr hj hs h32
    have H32 : Hid (at' p.s j ≠ 32) := h32
    clear h32 hlt hml hij hj hd
    go_wp2_with (first | (go_at_call 221; refine hE.mono ?_; rintro e w1 ⟨rfl, hk1⟩; simp only [fault]))
    exact ⟨rfl, _, HSP.out _ (.need _ _ _ _ (by have := HD.out; omega) H32.out), rfl, hGr.keep.trans hk1⟩
  ·have hdi : ¬ (d : Int) < (k : Int) := by omega
   obtain rfl : d = k := by omega
   clear hlt hd
   go_wp2_with fail
   go_ret
   refine ⟨_, HSP.out _ (by rw [Nat.sub_self]; exact .fin _ _), ?_⟩
   exact ⟨_, ms, ds, rfl, rfl, by rw [← HU.out]; exact hGr, hpr⟩
end Go.Proofs.YtnfojonmohijpaaGreatDoor
namespace Go.Proofs.YtnfojonmohijpaaGreatDoor
open Go.RowKit
theorem TG.one {s : ByteArray} {d i : Nat} {l : Tr} {j : Nat} (h : TG s (.row 1 false) d i (.ok l j)) : ∃ t, l = .lcons t .lnil ∧ at' s i = 32 ∧ TG s .thing d (i + 1) (.ok t j) := by
 generalize hq : R.ok l j = q at h
 cases h with
 | need => cases hq
 | bad => cases hq
 | go _ _ _ _ j' t q' h0 h1 h2 h3 =>
  cases h3 with
  | fin => cases hq; exact ⟨t, rfl, h1, h2⟩
  | need _ _ _ _ h => omega
  | bad _ _ _ _ _ h => rcases h with h | h; omega; cases h
  | go _ _ _ _ _ _ _ h => rcases h with h | h; omega; cases h
theorem TG.oneBad {s : ByteArray} {d i j : Nat} (h32 : at' s i = 32) (h : TG s (.row 1 false) d i (.bad j)) : TG s .thing d (i + 1) (.bad j) := by
 generalize hq : R.bad j = q at h
 cases h with
 | need _ _ _ _ _ h => exact absurd h32 h
 | bad _ _ _ _ j' h0 h1 h2 => cases hq; exact h2
 | go _ _ _ _ j' t q' h0 h1 h2 h3 =>
  cases h3 with
  | fin => cases hq
  | need _ _ _ _ h => omega
  | bad _ _ _ _ _ h => rcases h with h | h; omega; cases h
  | go _ _ _ _ _ _ _ h => rcases h with h | h; omega; cases h
theorem lapp_one {ms : List Tr} {t : Tr} (h : lapp ms .lnil = .lcons t .lnil) : ms = [t] := by
 cases ms with
 | nil => cases h
 | cons a l =>
  simp only [lapp, Tr.lcons.injEq] at h
  obtain ⟨rfl, h⟩ := h
  cases l with
  | nil => rfl
  | cons => cases h
set_option maxRecDepth 100000 in
set_option maxHeartbeats 4000000 in
theorem moreThings_any (s : ByteArray) (hs : s.size ≤ 20000) (n : Nat) (IH : ThingOk s n) (b : Nat) (p : US) (hps : p.s = s) (X w : World) (v : Value) (ts : List Tr) (cs : List Value) (hp : UB w b p) (hG : GU b X w v ts cs) (hts : ts.length ≤ 2) (hle : p.ix ≤ s.size) (hn : s.size - p.ix ≤ n) (hop : p.op ≤ 60) :
    Calls Tryz.prog 260 #[.pointer (some ⟨b, 0, none⟩), v] w fun e w' => ∃ q, TG s (.row 0 true) p.op p.ix q ∧ URow b p X ts q e w' := by
 subst hps
 go_enter Tryz.func260, Tryz.ntmps260
 go_upto_region 1 with (fail)
 go_loopw [1] (fun q1 wr => ∃ (j : Nat) (ms : List Tr) (ds : List Value), GU b X wr q1 (ts ++ ms) ds ∧ UB wr b { p with ix := j } ∧ j ≤ p.s.size ∧ ms.length + p.ix ≤ j ∧ ∀ q, TG p.s (.row 0 true) p.op j q → TG p.s (.row 0 true) p.op p.ix (q.map (lapp ms))) (fun _ wr => muU wr b)
 case atStart => exact ⟨p.ix, [], cs, by rw [List.append_nil]; exact hG, hp, hle, by simp, fun q h => by rw [map_lapp_nil]; exact h⟩
 case round =>
  obtain ⟨j, ms, ds, hGr, hpr, hj, hij, hsp⟩ := hrel
  have HSP : Hid (∀ q, TG p.s (.row 0 true) p.op j q → TG p.s (.row 0 true) p.op p.ix (q.map (lapp ms))) := hsp
  have hmu := muU_eq hpr
  have hA := uahead_any b { p with ix := j } 32 (by decide) wr hpr hj hs
  have HJ : Hid (ms.length + p.ix ≤ j ∧ j ≤ p.s.size) := ⟨hij, hj⟩
  clear hsp hp hG
  by_cases h32 : at' p.s j = 32
  ·rw [show decide (US.cur { p with ix := j } = 32) = true from decide_eq_true h32] at hA
   have H32 : Hid (at' p.s j = 32) := h32
   have HT : Hid (∀ w1, UB w1 b { p with ix := j } → GU b X w1 u1 (ts ++ ms) ds → Calls Tryz.prog 258 #[.pointer (some ⟨b, 0, none⟩), .int .i64 1, u1] w1 fun e w' => ∃ q, TG p.s (.row 1 false) p.op j q ∧ URow b { p with ix := j } X (ts ++ ms) q e w') :=
    fun w1 h1 h2 => things_any p.s hs n IH b { p with ix := j } 1 (by decide) rfl X w1 u1 (ts ++ ms) ds h1 h2 (by simp; omega) hj (by simp only; omega) hop
   clear h32 hij hj
   go_wp2_with (first | (go_at_call 165; refine hA.mono ?_; rintro e w1 ⟨rfl, hq1, hk1⟩))
   refine (HT.out w1 hq1 (hGr.keeps (hk1.mono (by simp)))).mono ?_
   rintro e w2 ⟨q, hTG, hU⟩
   cases q with
   | bad j' =>
    obtain ⟨rfl, hk2⟩ := hU
    simp only [fault]
    exact ⟨rfl, _, HSP.out _ (.bad _ _ _ _ _ (Or.inr rfl) H32.out (TG.oneBad H32.out hTG)), rfl, hk2⟩
   | ok l j' =>
    obtain ⟨v2, ms2, ds2, rfl, hl, hG2, hq2⟩ := hU
    obtain ⟨t, rfl, _, ht⟩ := TG.one hTG
    obtain rfl := lapp_one hl.symm
    have hbd := ht.bd (by have := at'_lt_of H32.out (by decide); omega)
    have HBD : Hid (j + 1 < j' ∧ j' ≤ p.s.size) := ⟨hbd.2.2 rfl, hbd.2.1⟩
    have HTG : Hid (TG p.s .thing p.op (j + 1) (.ok t j')) := ht
    have hmu2 := muU_eq hq2
    clear hbd hTG ht hl hA HT hGr
    go_wp2_with fail
    go_roundw
    case rel => exact ⟨j', ms ++ [t], ds2, by rw [← List.append_assoc]; exact hG2, hq2, HBD.out.2, by have := HJ.out; have := HBD.out; simp; omega, fun q hq => by rw [← map_lapp_snoc]; exact HSP.out _ (.go _ _ _ _ _ _ _ (Or.inr rfl) H32.out HTG.out hq)⟩
    case measure => have := HBD.out; rw [hmu, hmu2]; show 20002 - j' < 20002 - j; omega
  ·rw [show decide (US.cur { p with ix := j } = 32) = false from decide_eq_false h32] at hA
   have H32 : Hid (at' p.s j ≠ 32) := h32
   clear h32 hij hj
   go_wp2_with (first | (go_at_call 165; refine hA.mono ?_; rintro e w1 ⟨rfl, hq1, hk1⟩))
   go_ret
   exact ⟨_, HSP.out _ (.stop _ _ H32.out), _, ms, ds, rfl, rfl, hGr.keeps (hk1.mono (by simp)), hq1⟩
end Go.Proofs.YtnfojonmohijpaaGreatDoor
