/-
  DERIVED. The program's tree builders, by induction on the pattern's size; the method Tree. Conditions: the text is at most 100 bytes long, the stretch is one that matches.
-/
import Derived.Test.YtnfojonmohijpabGreatDoorJOC
import Derived.Test.YtnfojonmohijpabGreatDoorJNX
import Derived.Test.YtnfojonmohijpabGreatDoorJOI0
import Derived.Test.YtnfojonmohijpabGreatDoorJBH
set_option linter.unusedSimpArgs false
set_option linter.unusedVariables false
namespace Go.Proofs.YtnfojonmohijpabGreatDoor
open Go.RowKit
theorem repeatOk : RepeatOk := fun cs k g c w h1 h2 h3 h4 h5 => repeatTree_any cs k g c w h1 h2 h3 (by omega) h5
theorem trees (s : ByteArray) (N : Nat) (HN : Hid (N = s.size + 1)) (hs : s.size ≤ 100) : ∀ n, n ≤ 1000 → TWays s N n ∧ TWay s N n ∧ TPiece s N n ∧ TSingle s N n
 | 0, _ => ⟨fun x hx => by have := sz_pos x; omega, fun x hx => by have := sz_pos x; omega, fun x hx => by have := sz_pos x; omega, fun x hx => by have := sz_pos x; omega⟩
 | n + 1, h => by
  obtain ⟨i1, i2, i3, i4⟩ := trees s N HN hs n (by omega)
  have h4 := treeOfSingle_any s N hs n i1
  exact ⟨treeOfWays_any s N HN hs n h i2, treeOfWay_any s N HN hs n (by omega) i3, treeOfPiece_any s N HN hs (n + 1) h4 repeatOk, h4⟩
theorem mat_ok {W : Whole} {v a c : Value} {s : ByteArray} (hv : v.oneCell' = true) (ha : a.oneCell' = true) (hc : c.oneCell' = true) : MM7 s (mat W v s a c) := ⟨⟨_, _, _, _, _, _, rfl, rfl, rfl, hv, rfl, ha, hc⟩⟩
set_option maxRecDepth 100000 in
set_option maxHeartbeats 2000000 in
theorem treeM_any (s : ByteArray) (N : Nat) (HN : Hid (N = s.size + 1)) (hs : s.size ≤ 100) (W : Whole) (v a c : Value) (hv : v.oneCell' = true) (S : Nat → Prop) (w : World) (hm : Mk w S s N .ways W.x [a, c]) (hsz : W.x.sz ≤ 1000) (i j : Nat) (hij : i ≤ j) (hj : j ≤ s.size) (hmt : Mt s W.x i j) :
    Calls Tryz.prog 23 #[.agg (mat W v s a c), .int .i64 i, .int .i64 j] w (TreeRes w s W.x i j) := by
 have hal := hm.form.1
 have ha := hal a (by simp)
 have hc := hal c (by simp)
 have hM := mat_ok (W := W) (s := s) hv ha hc
 unfold mat at *
 have h0 : ((w.alloc (.cells #[.bool W.bg, .bool W.en, v, .int .i64 (W.g : Int), .string s, a, c] 67)).alloc (.cells #[.int .u8 0, .int .i64 0, .slice none 0 0] 75)).heap[w.heap.size]? = some (.cells #[.bool W.bg, .bool W.en, v, .int .i64 (W.g : Int), .string s, a, c] 67 (0, 0)) := heap_alloc2_old w _ _
 have h2 : ((w.alloc (.cells #[.bool W.bg, .bool W.en, v, .int .i64 (W.g : Int), .string s, a, c] 67)).alloc (.cells #[.int .u8 0, .int .i64 0, .slice none 0 0] 75)).heap[w.heap.size + 1]? = some (.cells #[.int .u8 0, .int .i64 0, .slice none 0 0] 75 (0, 0)) := heap_alloc2_new w _ _
 have hk0 : Keeps [] w ((w.alloc (.cells #[.bool W.bg, .bool W.en, v, .int .i64 (W.g : Int), .string s, a, c] 67)).alloc (.cells #[.int .u8 0, .int .i64 0, .slice none 0 0] 75)) := ((Keeps.refl [] w).alloc _).alloc _
 go_enter Tryz.func23, Tryz.ntmps23
 go_upto_region 1 with (fail)
 generalize ((w.alloc (.cells #[.bool W.bg, .bool W.en, v, .int .i64 (W.g : Int), .string s, a, c] 67)).alloc (.cells #[.int .u8 0, .int .i64 0, .slice none 0 0] 75)) = X at *
 obtain ⟨g0, e0⟩ : ∃ g, g = w.heap.size := ⟨_, rfl⟩
 obtain ⟨g2, e2⟩ : ∃ g, g = w.heap.size + 1 := ⟨_, rfl⟩
 rw [← e2] at h2 ⊢
 rw [← e0] at h0 ⊢
 have hg2w : w.heap.size ≤ g2 := by omega
 have hg2X : g2 < X.heap.size := (Array.getElem?_eq_some_iff.1 h2).1
 have hwX := hk0.size
 clear e0 e2
 have c5 : X.cell? ⟨g0, 5, none⟩ = some a := by rw [Lib.cell_of_heap h0]; rfl
 have c6 : X.cell? ⟨g0, 6, none⟩ = some c := by rw [Lib.cell_of_heap h0]; rfl
 have hC := (trees s N HN hs 1000 (Nat.le_refl _)).1 W.x hsz X S [a, c] _ i j (hm.keep hk0 (by simp)) hM hij hj hmt
 go_wp2_with (first | (refine wpList_load_row rfl 67 _ rfl g0 rfl _ _ _ _ h0 Tryz.underlying67 rfl (info7 _ _ _ _ _ _ _) ?_))
 refine hC.mono ?_
 rintro e w1 ⟨t, ts, rfl, htv, htt, hk1⟩
 obtain ⟨k1, n1, va, vn, vc, rfl⟩ := htv.form
 have h21 := (hk1.block g2 hg2X (by simp)).trans h2
 have hkS : Keeps [g2] w1 (w1.setRow g2 #[.int .u8 k1, .int .i64 n1, .slice va vn vc]) := (Keeps.refl [g2] _).setRow (g := g2) (by simp) _
 go_wp2_with (first | (refine wpList_store_row rfl 75 _ _ rfl g2 #[.int .u8 k1, .int .i64 n1, .slice va vn vc] rfl rfl _ _ h21 (info3 _ _ _) rfl (all3 rfl rfl rfl) ?_))
 refine bodyPost_ret (results_cell_row rfl _ _ g2 _ _ _ _ rfl (setRow_heap _ _ _ _ _ _ h21) Tryz.underlying75 rfl (info3 _ _ _)) rfl ?_
 exact ⟨t, _, rfl, (htv.keep hkS (by intro z hz; simp; omega)).mono fun z hz _ => by omega, htt, (hk0.trans hk1).setRow (Or.inr hg2w) _⟩
end Go.Proofs.YtnfojonmohijpabGreatDoor
namespace Go.Proofs.YtnfojonmohijpabGreatDoor
open Go.RowKit
theorem note_all : ∀ n, NoteOk n
 | 0 => fun t ht => by have := t.sz_pos; omega
 | n + 1 => note_step n (note_all n)
theorem PatR.nest {s : ByteArray} {W : Whole} {j : Nat} (h : PatR s (.ok W j)) : W.x.nest ∧ ∀ m, W.x.has m → 0 < m ∧ m ≤ W.g := by
 obtain ⟨qw, hG, hqe⟩ := h
 cases qw with
 | bad l => cases hqe
 | ok xg l =>
  obtain ⟨x, g⟩ := xg
  obtain ⟨_, h2, h3⟩ := hG.nest x g l rfl
  rw [PatE_ok] at hqe
  by_cases hc : 0 ≤ at' s (if at' s l = 36 then l + 1 else l)
  ·rw [if_pos hc] at hqe; cases hqe
  ·rw [if_neg hc] at hqe; cases hqe; exact ⟨h2, h3⟩
theorem rep_ints (k : Nat) (x : Int) : (List.replicate k [Value.int .i64 x]).flatten = spW (List.replicate k x) := by
 induction k with
 | zero => rfl
 | succ k ih => rw [List.replicate_succ, List.flatten_cons, ih, List.replicate_succ]; rfl
set_option maxRecDepth 100000 in
set_option maxHeartbeats 2000000 in
theorem stretches_any (s : ByteArray) (N : Nat) (HN : Hid (N = s.size + 1)) (hs : s.size ≤ 100) (W : Whole) (hg9 : W.g ≤ 9) (hnest : W.x.nest ∧ ∀ m, W.x.has m → 0 < m ∧ m ≤ W.g) (v a c : Value) (hv : v.oneCell' = true) (S : Nat → Prop) (w : World) (hm : Mk w S s N .ways W.x [a, c]) (hsz : W.x.sz ≤ 1000) (i j : Nat) (hij : i ≤ j) (hj : j ≤ s.size) (hmt : Mt s W.x i j) :
    Calls Tryz.prog 40 #[.agg (mat W v s a c), .int .i64 i, .int .i64 j] w fun e w' => ∃ tb t ev, e = .returned (.slice (some ⟨tb, 0, none⟩) (2 + 2 * W.g) (2 + 2 * W.g)) ∧ TR s (.node W.x) i j t ev ∧ w'.ownsRow w.heap.size 3 1 (.slice (some ⟨tb, 0, none⟩) (2 + 2 * W.g) (2 + 2 * W.g)) (2 + 2 * W.g) (spW ([(i : Int), (j : Int)] ++ evs (List.replicate (2 * W.g) (-1)) ev)) ∧ Keeps [] w w' := by
 have hal := hm.form.1
 have ha := hal a (by simp)
 have hc := hal c (by simp)
 have hM7 := mat_ok (W := W) (s := s) hv ha hc
 have hTC := fun (X : World) (hk : Keeps [] w X) => treeM_any s N HN hs W v a c hv S X (hm.keep hk (by simp)) hsz i j hij hj hmt
 unfold mat at *
 have h0 : (w.alloc (.cells #[.bool W.bg, .bool W.en, v, .int .i64 (W.g : Int), .string s, a, c] 67)).heap[w.heap.size]? = some (.cells #[.bool W.bg, .bool W.en, v, .int .i64 (W.g : Int), .string s, a, c] 67 (0, 0)) := heap_alloc_new w _
 have hk0 : Keeps [] w (w.alloc (.cells #[.bool W.bg, .bool W.en, v, .int .i64 (W.g : Int), .string s, a, c] 67)) := (Keeps.refl [] w).alloc _
 have HTC : Hid (∀ (X : World), Keeps [] w X → Calls Tryz.prog 23 #[.agg #[.bool W.bg, .bool W.en, v, .int .i64 (W.g : Int), .string s, a, c], .int .i64 i, .int .i64 j] X (TreeRes X s W.x i j)) := hTC
 have hgi : (W.g : Int) ≤ 9 := by omega
 have w1' : IntKind.i64.wrap (2 * (W.g : Int)) = 2 * (W.g : Int) := wrap_small (by omega) (by omega)
 have w2' : IntKind.i64.wrap (2 + 2 * (W.g : Int)) = ((2 + 2 * W.g : Nat) : Int) := by rw [wrap_small (by omega) (by omega)]; omega
 have HMT : Hid (Mt s W.x i j ∧ i ≤ j ∧ j ≤ s.size ∧ s.size ≤ 100) := ⟨hmt, hij, hj, hs⟩
 clear hTC hm hmt hal hij hj
 go_enter Tryz.func40, Tryz.ntmps40
 go_upto_region 1 with (fail)
 generalize (w.alloc (.cells #[.bool W.bg, .bool W.en, v, .int .i64 (W.g : Int), .string s, a, c] 67)) = X at *
 obtain ⟨g0, e0⟩ : ∃ g, g = w.heap.size := ⟨_, rfl⟩
 rw [← e0] at h0 ⊢
 have hg0X : g0 < X.heap.size := (Array.getElem?_eq_some_iff.1 h0).1
 clear e0
 have hkA : Keeps [] X (X.alloc (.cells #[.int .i64 (-1)] 3)) := (Keeps.refl [] X).alloc _
 have hnew := heap_alloc_new X (.cells #[.int .i64 (-1)] 3)
 have h01 := (hkA.block g0 hg0X (by simp)).trans h0
 have d3 : (X.alloc (.cells #[.int .i64 (-1)] 3)).cell? ⟨g0, 3, none⟩ = some (.int .i64 (W.g : Int)) := by rw [Lib.cell_of_heap h01]; rfl
 have hrow : (X.alloc (.cells #[.int .i64 (-1)] 3)).ownsRow 0 3 1 (.slice (some ⟨X.heap.size, 0, none⟩) 1 1) 1 [.int .i64 (-1)] := ⟨rfl, Or.inr ⟨X.heap.size, 1, _, rfl, Nat.zero_le _, hnew, Nat.le_refl _, by unfold maxLen; omega, rfl, rfl⟩⟩
 have hRp := repeatInt_any [.int .i64 (-1)] (2 + 2 * W.g) X.heap.size 1 _ rfl (by simp [Value.oneCell']) (by omega) (by omega) hrow
 go_wp2_with fail
 refine hRp.mono ?_
 rintro e w2 ⟨tb, rfl, hown2, htb, hk2⟩
 rw [rep_ints] at hown2
 have hkX2 := hkA.trans hk2
 have h02 := (hkX2.block g0 hg0X (by simp)).trans h0
 have hXt : X.heap.size ≤ tb := Nat.le_trans hkA.size htb
 have hwX := hk0.size
 clear hRp hrow hnew h01 d3 hkA hk2 htb
 have hcell : ∀ q, q < 2 + 2 * W.g → ∃ vz, w2.cell? ⟨tb, q, none⟩ = some vz := fun q hq => ⟨_, (World.ownsRow.cellAt hown2 q (by omega)).trans (List.getElem?_eq_getElem (by simp [spW]; omega))⟩
 obtain ⟨z0, hz0⟩ := hcell 0 (by omega)
 have hf0 := World.ownsRow.frozenAt hown2 0
 have ho3 : (w2.setCell ⟨tb, 0, none⟩ (.int .i64 (i : Int))).ownsRow 0 3 1 (.slice (some ⟨tb, 0, none⟩) (2 + 2 * W.g) (2 + 2 * W.g)) (2 + 2 * W.g) (spW ((List.replicate (2 + 2 * W.g) (-1)).set 0 (i : Int))) := by
  have := (World.ownsRow.stored hown2 0 (.int .i64 (i : Int))).1
  rw [spW_set] at this
  exact this
 obtain ⟨z1, hz1⟩ : ∃ vz, (w2.setCell ⟨tb, 0, none⟩ (.int .i64 (i : Int))).cell? ⟨tb, 1, none⟩ = some vz := ⟨_, (World.ownsRow.cellAt ho3 1 (by omega)).trans (List.getElem?_eq_getElem (by simp [spW]; omega))⟩
 have hf1 := World.ownsRow.frozenAt ho3 1
 have ho4 : ((w2.setCell ⟨tb, 0, none⟩ (.int .i64 (i : Int))).setCell ⟨tb, 1, none⟩ (.int .i64 (j : Int))).ownsRow 0 3 1 (.slice (some ⟨tb, 0, none⟩) (2 + 2 * W.g) (2 + 2 * W.g)) (2 + 2 * W.g) (spW ((i : Int) :: (j : Int) :: List.replicate (2 * W.g) (-1))) := by
  have := (World.ownsRow.stored ho3 1 (.int .i64 (j : Int))).1
  rw [spW_set, show (2 + 2 * W.g) = 2 * W.g + 1 + 1 by omega, List.replicate_succ, List.replicate_succ, List.set_cons_zero, List.set_cons_succ, List.set_cons_zero, show 2 * W.g + 1 + 1 = 2 + 2 * W.g by omega] at this
  exact this
 have hk4 : Keeps [tb] w2 ((w2.setCell ⟨tb, 0, none⟩ (.int .i64 (i : Int))).setCell ⟨tb, 1, none⟩ (.int .i64 (j : Int))) := ((Keeps.refl [tb] w2).setCell (p := ⟨tb, 0, none⟩) (by simp) _).setCell (p := ⟨tb, 1, none⟩) (by simp) _
 have hb0 : (0 : Int) < ((2 + 2 * W.g : Nat) : Int) := by omega
 have hb1 : (1 : Int) < ((2 + 2 * W.g : Nat) : Int) := by omega
 clear hown2 hcell
 go_upto_region 3 with (fail)
 clear hz0 hf0 hz1 hf1 ho3
 generalize ((w2.setCell ⟨tb, 0, none⟩ (.int .i64 (i : Int))).setCell ⟨tb, 1, none⟩ (.int .i64 (j : Int))) = w4 at *
 have hs24 := hk4.size
 have hs2 := hkX2.size
 have h04 := (hk4.block g0 (by omega) (by simp; omega)).trans h02
 have hkw4 : Keeps [] w w4 := keepsM (hk0.trans hkX2) hk4 (by intro x hx; simp at hx; exact Or.inr (by omega))
 have htb4 : tb < w4.heap.size := (World.ownsRow.lt ho4 tb rfl).2
 clear h02 hk4
 go_wp2_with (first | (refine wpList_load_row rfl 67 _ rfl g0 rfl _ _ _ _ h04 Tryz.underlying67 rfl (info7 _ _ _ _ _ _ _) ?_))
 refine (HTC.out w4 hkw4).mono ?_
 rintro e w5 ⟨t, ts, rfl, htv, htt, hk5⟩
 have hto := htt.toTR HMT.out.1
 have hnst := htt.nest hnest.1
 have hclm := (htt.calm HMT.out.1).1
 have hfit := htv.fits.1
 have hhas : ∀ k, t.has k → 2 * k + 1 < 2 + 2 * W.g := fun k hk => by have := hnest.2 k (htt.has k hk); omega
 have hNt := note_all t.sz t (Nat.le_refl _) w5 _ tb (2 + 2 * W.g) (2 + 2 * W.g) _ i ts htv (fun g hg => by omega) (ho4.keep hk5 (by simp)) (by omega) hhas hclm (by have := HMT.out; omega)
 clear htv h04 ho4
 go_wp2_with fail
 refine hNt.mono ?_
 rintro e w6 ⟨rfl, ho6, hk6⟩
 rw [nts_evs _ _ _ _ (Tr.bev_pos hnst), bev_evs hnst hfit hclm] at ho6
 have hkE : Keeps [] w w6 := keepsM (hkw4.trans hk5) hk6 (by intro x hx; simp at hx; exact Or.inr (by omega))
 have hoE : w6.ownsRow w.heap.size 3 1 (.slice (some ⟨tb, 0, none⟩) (2 + 2 * W.g) (2 + 2 * W.g)) (2 + 2 * W.g) (spW ([(i : Int), (j : Int)] ++ evs (List.replicate (2 * W.g) (-1)) (t.evs i))) := by
  refine ⟨ho6.1, ?_⟩
  rcases ho6.2 with ⟨h, _⟩ | ⟨g, cap, cur, h1, _, h3⟩
  ·cases h
  ·refine Or.inr ⟨g, cap, cur, h1, ?_, h3⟩
   simp only [Value.slice.injEq, Option.some.injEq, Addr.mk.injEq, and_true] at h1
   omega
 have HTR : Hid (TR s (.node W.x) i j t.text (t.evs i)) := hto.1
 clear hNt hk6 ho6 hto hnst hclm hfit hhas htt
 go_wp2_with fail
 go_ret
 exact ⟨tb, _, _, rfl, HTR.out, hoE, hkE⟩
end Go.Proofs.YtnfojonmohijpabGreatDoor
namespace Go.Proofs.YtnfojonmohijpabGreatDoor
def OkAt (s : ByteArray) (W : Whole) (i j : Nat) : Prop := Mt s W.x i j ∧ (W.bg = true → i = 0) ∧ (W.en = true → j = s.size)
def FirstAt (s : ByteArray) (W : Whole) (fr i j : Nat) : Prop :=
 fr ≤ i ∧ i ≤ j ∧ j ≤ s.size ∧ OkAt s W i j ∧ (∀ i' j', fr ≤ i' → i' < i → i' ≤ j' → j' ≤ s.size → ¬ OkAt s W i' j') ∧ ∀ j', j < j' → j' ≤ s.size → ¬ OkAt s W i j'
theorem FirstAt.one {s : ByteArray} {W : Whole} {fr i j i' j' : Nat} (h : FirstAt s W fr i j) (k : FirstAt s W fr i' j') : i = i' ∧ j = j' := by
 obtain ⟨a1, a2, a3, a4, a5, a6⟩ := h
 obtain ⟨b1, b2, b3, b4, b5, b6⟩ := k
 have e : i = i' := by
  rcases Nat.lt_trichotomy i i' with e | e | e
  ·exact absurd a4 (b5 i j a1 e a2 a3)
  ·exact e
  ·exact absurd b4 (a5 i' j' b1 e b2 b3)
 subst e
 refine ⟨rfl, ?_⟩
 rcases Nat.lt_trichotomy j j' with e | e | e
 ·exact absurd b4 (a6 j' e b3)
 ·exact e
 ·exact absurd a4 (b6 j e a3)
def FindA (s : ByteArray) (W : Whole) (fr : Nat) (ans : Option (List Int)) : Prop :=
 (ans = none ∧ ∀ i j, fr ≤ i → i ≤ j → j ≤ s.size → ¬ OkAt s W i j) ∨
 ∃ (i j : Nat) (t : List UInt8) (ev : List (Nat × Nat × Nat)), FirstAt s W fr i j ∧ TR s (.node W.x) i j t ev ∧ ans = some ([(i : Int), (j : Int)] ++ evs (List.replicate (2 * W.g) (-1)) ev)
theorem FindA.det {s : ByteArray} {W : Whole} {fr : Nat} {a b : Option (List Int)} (h : FindA s W fr a) (k : FindA s W fr b) : a = b := by
 rcases h with ⟨rfl, h⟩ | ⟨i, j, t, ev, h1, h2, rfl⟩ <;> rcases k with ⟨rfl, k⟩ | ⟨i', j', t', ev', k1, k2, rfl⟩
 ·rfl
 ·exact absurd k1.2.2.2.1 (h i' j' k1.1 k1.2.1 k1.2.2.1)
 ·exact absurd h1.2.2.2.1 (k i j h1.1 h1.2.1 h1.2.2.1)
 ·obtain ⟨rfl, rfl⟩ := h1.one k1
  obtain ⟨_, rfl⟩ := h2.det t' ev' k2
  rfl
def SearchA (p s : ByteArray) (fr : Int) (ans : Option (List Int)) (n : Int) : Prop :=
 (60 < p.size ∧ ans = none ∧ n = 1) ∨
 (p.size ≤ 60 ∧ ∃ q, PatR p q ∧ match q with
   | .bad _ => ans = none ∧ n = 2
   | .ok W _ => (100 < s.size ∧ ans = none ∧ n = 1) ∨
       (s.size ≤ 100 ∧ (((fr < 0 ∨ (s.size : Int) < fr) ∧ ans = none ∧ n = 4) ∨ (0 ≤ fr ∧ fr ≤ (s.size : Int) ∧ FindA s W fr.toNat ans ∧ n = 0))))
end Go.Proofs.YtnfojonmohijpabGreatDoor
namespace Go.Proofs.YtnfojonmohijpabGreatDoor
open Go.RowKit
theorem wrap_low {z : Int} (h0 : -1000000 ≤ z) (h1 : z ≤ 1000000) : IntKind.i64.wrap z = z := by
 have : IntKind.i64.wrap z = if 9223372036854775808 ≤ z % 18446744073709551616 then z % 18446744073709551616 - 18446744073709551616 else z % 18446744073709551616 := by simp [IntKind.wrap, IntKind.bits, IntKind.signed]
 rw [this]
 split <;> omega
theorem matC3 {w : World} {g : Nat} {a b c d e f k : Value} (h : w.heap[g]? = some (.cells #[a, b, c, d, e, f, k] 67 (0, 0))) : w.cell? ⟨g, 0, none⟩ = some a ∧ w.cell? ⟨g, 1, none⟩ = some b ∧ w.cell? ⟨g, 4, none⟩ = some e := by
 refine ⟨?_, ?_, ?_⟩ <;> (rw [Lib.cell_of_heap h]; rfl)
theorem matC7 {w : World} {g : Nat} {a b c d e f k : Value} (h : w.heap[g]? = some (.cells #[a, b, c, d, e, f, k] 67 (0, 0))) : w.cell? ⟨g, 0, none⟩ = some a ∧ w.cell? ⟨g, 1, none⟩ = some b ∧ w.cell? ⟨g, 2, none⟩ = some c ∧ w.cell? ⟨g, 3, none⟩ = some d ∧ w.cell? ⟨g, 4, none⟩ = some e ∧ w.cell? ⟨g, 5, none⟩ = some f ∧ w.cell? ⟨g, 6, none⟩ = some k := by
 refine ⟨?_, ?_, ?_, ?_, ?_, ?_, ?_⟩ <;> (rw [Lib.cell_of_heap h]; rfl)
def mkB (s : ByteArray) (wb we : Bool) (i j : Nat) : Bool := decide ((wb = true → i = 0) ∧ (we = true → j = s.size))
set_option maxRecDepth 100000 in
set_option maxHeartbeats 2000000 in
theorem marks_any (s : ByteArray) (wb we : Bool) (g : Int) (v a c : Value) (hv : v.oneCell' = true) (ha : a.oneCell' = true) (hc : c.oneCell' = true) (i j : Nat) (w : World) :
    Calls Tryz.prog 39 #[.agg #[.bool wb, .bool we, v, .int .i64 g, .string s, a, c], .int .i64 i, .int .i64 j] w fun e w' => e = .returned (.bool (mkB s wb we i j)) ∧ Keeps [] w w' := by
 have hk0 : Keeps [] w (w.alloc (.cells #[.bool wb, .bool we, v, .int .i64 g, .string s, a, c] 67)) := (Keeps.refl [] w).alloc _
 obtain ⟨c0, c1, c4⟩ := matC3 (heap_alloc_new w (.cells #[.bool wb, .bool we, v, .int .i64 g, .string s, a, c] 67))
 have hcase : (Hid (i = 0) ∧ ((i : Int) == 0) = true) ∨ (Hid (¬ i = 0) ∧ ((i : Int) == 0) = false) := by
  by_cases h : i = 0
  ·exact Or.inl ⟨h, by simpa using (by omega : (i : Int) = 0)⟩
  ·exact Or.inr ⟨h, by simpa using (by omega : ¬ (i : Int) = 0)⟩
 have hcasj : (Hid (j = s.size) ∧ ((j : Int) == (s.size : Int)) = true) ∨ (Hid (¬ j = s.size) ∧ ((j : Int) == (s.size : Int)) = false) := by
  by_cases h : j = s.size
  ·exact Or.inl ⟨h, by simpa using (by omega : (j : Int) = (s.size : Int))⟩
  ·exact Or.inr ⟨h, by simpa using (by omega : ¬ (j : Int) = (s.size : Int))⟩
 have fin : ∀ {x y : Bool}, x = y → Ending.returned (.bool x) = .returned (.bool y) := fun h => by rw [h]
 rcases hcase with ⟨HI, hib⟩ | ⟨HI, hib⟩ <;> rcases hcasj with ⟨HJ, hjb⟩ | ⟨HJ, hjb⟩ <;> cases wb <;> cases we
 all_goals
  go_enter Tryz.func39, Tryz.ntmps39
  go_wp2_with fail
  go_ret
  exact ⟨fin (by have h1 := HI.out; have h2 := HJ.out; simp [mkB, h1, h2]), hk0⟩
def IW (w : World) (lo : Nat) (v : Value) : Option (List Int) → Prop
 | none => v = .slice none 0 0
 | some l => w.ownsRow lo 3 1 v l.length (spW l)
set_option maxRecDepth 100000 in
set_option maxHeartbeats 4000000 in
theorem searchM_any (s : ByteArray) (N : Nat) (HN : Hid (N = s.size + 1)) (hs : s.size ≤ 100) (W : Whole) (hg9 : W.g ≤ 9) (hnest : W.x.nest ∧ ∀ m, W.x.has m → 0 < m ∧ m ≤ W.g) (v a c : Value) (hv : v.oneCell' = true) (S : Nat → Prop) (w : World) (hm : Mk w S s N .ways W.x [a, c]) (hsz : W.x.sz ≤ 1000) (fr : Nat) (hfr : fr ≤ s.size) :
    Calls Tryz.prog 24 #[.agg (mat W v s a c), .int .i64 fr] w fun e w' => ∃ r ans, e = .returned r ∧ FindA s W fr ans ∧ IW w' w.heap.size r ans ∧ Keeps [] w w' := by
 have hal := hm.form.1
 have ha := hal a (by simp)
 have hc := hal c (by simp)
 have hs' : (s.size : Int) ≤ 100 := by omega
 have HCAN : Hid (∀ (X : World) (i j : Nat), Keeps [] w X → i ≤ s.size → j ≤ s.size → Calls Tryz.prog 21 #[.agg #[.bool W.bg, .bool W.en, v, .int .i64 (W.g : Int), .string s, a, c], .int .i64 i, .int .i64 j] X fun e w' => ∃ b, e = .returned (.bool b) ∧ (b = true ↔ Mt s W.x i j) ∧ Keeps [] X w') := fun X i j hk hi hj => canM_any s N HN hs W v a c S X (hm.keep hk (by simp)) i j hi hj
 have HMRK : Hid (∀ (X : World) (i j : Nat), Calls Tryz.prog 39 #[.agg #[.bool W.bg, .bool W.en, v, .int .i64 (W.g : Int), .string s, a, c], .int .i64 i, .int .i64 j] X fun e w' => e = .returned (.bool (mkB s W.bg W.en i j)) ∧ Keeps [] X w') := fun X i j => marks_any s W.bg W.en (W.g : Int) v a c hv ha hc i j X
 have HSTR : Hid (∀ (X : World) (i j : Nat), Keeps [] w X → i ≤ j → j ≤ s.size → Mt s W.x i j → Calls Tryz.prog 40 #[.agg #[.bool W.bg, .bool W.en, v, .int .i64 (W.g : Int), .string s, a, c], .int .i64 i, .int .i64 j] X fun e w' => ∃ tb t ev, e = .returned (.slice (some ⟨tb, 0, none⟩) (2 + 2 * W.g) (2 + 2 * W.g)) ∧ TR s (.node W.x) i j t ev ∧ w'.ownsRow X.heap.size 3 1 (.slice (some ⟨tb, 0, none⟩) (2 + 2 * W.g) (2 + 2 * W.g)) (2 + 2 * W.g) (spW ([(i : Int), (j : Int)] ++ evs (List.replicate (2 * W.g) (-1)) ev)) ∧ Keeps [] X w') := fun X i j hk hij hj hmt => stretches_any s N HN hs W hg9 hnest v a c hv S X (hm.keep hk (by simp)) hsz i j hij hj hmt
 unfold mat
 have h0 : (w.alloc (.cells #[.bool W.bg, .bool W.en, v, .int .i64 (W.g : Int), .string s, a, c] 67)).heap[w.heap.size]? = some (.cells #[.bool W.bg, .bool W.en, v, .int .i64 (W.g : Int), .string s, a, c] 67 (0, 0)) := heap_alloc_new w _
 have hk0 : Keeps [] w (w.alloc (.cells #[.bool W.bg, .bool W.en, v, .int .i64 (W.g : Int), .string s, a, c] 67)) := (Keeps.refl [] w).alloc _
 clear hm hal
 go_enter Tryz.func24, Tryz.ntmps24
 go_upto_region 1 with (fail)
 generalize (w.alloc (.cells #[.bool W.bg, .bool W.en, v, .int .i64 (W.g : Int), .string s, a, c] 67)) = X at *
 obtain ⟨g0, e0⟩ : ∃ g, g = w.heap.size := ⟨_, rfl⟩
 rw [← e0] at h0 ⊢
 have hg0X : g0 < X.heap.size := (Array.getElem?_eq_some_iff.1 h0).1
 clear e0
 go_upto_region 2 with (fail)
 go_loopw [5] (fun q wr => ∃ i : Nat, q = .int .i64 i ∧ fr ≤ i ∧ i ≤ s.size + 1 ∧ (∀ i' j', fr ≤ i' → i' < i → i' ≤ j' → j' ≤ s.size → ¬ OkAt s W i' j') ∧ Keeps [] X wr) (fun q _ => s.size + 1 - (intOf q).toNat)
 case atStart => exact ⟨fr, rfl, Nat.le_refl _, by omega, fun i' j' h1 h2 => by omega, Keeps.refl _ _⟩
 case round =>
  obtain ⟨i, rfl, hfi, his, hno, hkX⟩ := hrel
  have hgr := (hkX.block g0 hg0X (by simp)).trans h0
  obtain ⟨_, _, x4⟩ := matC3 hgr
  by_cases hil : i ≤ s.size
  rotate_left
  ·have hil' : ¬ (i : Int) ≤ (s.size : Int) := by omega
   have HF : Hid (FindA s W fr none) := Or.inl ⟨rfl, fun i' j' h1 h2 h3 => hno i' j' h1 (by omega) h2 h3⟩
   have hkE := hk0.trans hkX
   clear hno hil his hgr
   go_wp2_with fail
   go_ret
   first | exact ⟨_, none, rfl, HF.out, rfl, hkE⟩ | exact ⟨_, rfl, none, HF.out, rfl, hkE⟩
  have hil' : (i : Int) ≤ (s.size : Int) := by omega
  have HNO : Hid (∀ i' j', fr ≤ i' → i' < i → i' ≤ j' → j' ≤ s.size → ¬ OkAt s W i' j') := hno
  have HFI : Hid (fr ≤ i ∧ i ≤ s.size ∧ s.size ≤ 100) := ⟨hfi, hil, hs⟩
  have HKX : Hid (Keeps [] X wr) := hkX
  clear hno hil his hfi hkX
  go_upto_region 5 with (fail)
  clear x4 hgr
  obtain ⟨wr0, hwr0⟩ : ∃ wr0 : World, wr0 = wr := ⟨_, rfl⟩
  subst hwr0
  go_loopw [6] (fun q wq => ∃ z : Nat, q = .int .i64 ((z : Int) - 1) ∧ i ≤ z ∧ z ≤ s.size + 1 ∧ (∀ j', z ≤ j' → j' ≤ s.size → ¬ OkAt s W i j') ∧ Keeps [] X wq) (fun q _ => (intOf q + 1).toNat - i)
  case atStart => exact ⟨s.size + 1, by rw [show ((s.size + 1 : Nat) : Int) - 1 = (s.size : Int) by omega], by have := HFI.out; omega, Nat.le_refl _, fun j' h1 h2 => by omega, HKX.out⟩
  case round =>
   obtain ⟨z, rfl, hz1, hz2, hno2, hkX⟩ := hrel
   have hgr := (hkX.block g0 hg0X (by simp)).trans h0
   obtain ⟨x0, x1, x4⟩ := matC3 hgr
   by_cases hzi : i < z
   rotate_left
   ·have hze : z = i := by omega
    subst hze
    have hnz : ¬ (z : Int) ≤ (z : Int) - 1 := by omega
    have HN2 : Hid (∀ i' j', fr ≤ i' → i' < z + 1 → i' ≤ j' → j' ≤ s.size → ¬ OkAt s W i' j') := fun i' j' h1 h2 h3 h4 hok => by
     by_cases hlt : i' < z
     ·exact HNO.out i' j' h1 hlt h3 h4 hok
     ·have he : i' = z := by omega
      subst he
      exact hno2 j' h3 h4 hok
    clear hno2 hzi hz1 hz2 hgr
    go_wp2_with fail
    first
     | exact ⟨⟨z + 1, by go_num, by have := HFI.out; omega, by have := HFI.out; omega, HN2.out, hkX⟩, by have := HFI.out; simp [intOf]; omega⟩
     | (go_roundw
        case rel => exact ⟨z + 1, by go_num, by have := HFI.out; omega, by have := HFI.out; omega, HN2.out, hkX⟩
        case measure => have := HFI.out; simp [intOf]; omega)
   obtain ⟨j, rfl⟩ : ∃ j, z = j + 1 := ⟨z - 1, by omega⟩
   have hq : ((j + 1 : Nat) : Int) - 1 = (j : Int) := by omega
   rw [hq]
   have hji : (i : Int) ≤ (j : Int) := by omega
   have HJ : Hid (i ≤ j ∧ j ≤ s.size) := ⟨by omega, by omega⟩
   have HNO2 : Hid (∀ j', j + 1 ≤ j' → j' ≤ s.size → ¬ OkAt s W i j') := hno2
   have hsub : IntKind.i64.wrap ((j : Int) - 1) = (j : Int) - 1 := wrap_low (by omega) (by have := HFI.out; omega)
   have hkw := hk0.trans hkX
   clear hno2 hzi hz1 hz2 hq x0 x1 x4
   go_wp2_with (first | (refine wpList_load_row rfl 67 _ rfl g0 rfl _ _ _ _ hgr Tryz.underlying67 rfl (info7 _ _ _ _ _ _ _) ?_))
   refine (HCAN.out wr i j hkw HFI.out.2.1 HJ.out.2).mono ?_
   rintro e w2 ⟨b1, rfl, hb1, hk2⟩
   have hkX2 := hkX.trans hk2
   have hgr2 := (hkX2.block g0 hg0X (by simp)).trans h0
   have HB1 : Hid (b1 = true ↔ Mt s W.x i j) := hb1
   clear hb1 hgr
   cases b1
   ·have HN3 : Hid (∀ j', j ≤ j' → j' ≤ s.size → ¬ OkAt s W i j') := fun j' h1 h2 hok => by
       by_cases he : j' = j
       ·subst he; have := HB1.out.2 hok.1; cases this
       ·exact HNO2.out j' (by omega) h2 hok
    have HKN : Hid (Keeps [] X w2) := hkX2
    clear hkX hkX2 hk2 hkw
    go_wp2_with fail
    first
     | exact ⟨⟨j, rfl, HJ.out.1, by have := HJ.out; omega, HN3.out, HKN.out⟩, by have := HJ.out; simp [intOf]; omega⟩
     | (go_roundw
        case rel => exact ⟨j, rfl, HJ.out.1, by have := HJ.out; omega, HN3.out, HKN.out⟩
        case measure => have := HJ.out; simp [intOf]; omega)
   have hkw2 := hk0.trans hkX2
   obtain ⟨q0, q1, q2, q3, q4, q5, q6⟩ := matC7 hgr2
   clear hkX hk2 hkw
   go_wp2_with fail
   refine (HMRK.out w2 i j).mono ?_
   rintro e w3 ⟨rfl, hk3⟩
   have hkX3 := hkX2.trans hk3
   have hgr3 := (hkX3.block g0 hg0X (by simp)).trans h0
   have hkw3 := hkw2.trans hk3
   clear q0 q1 q2 q3 q4 q5 q6 hgr2 hkX2 hk3 hkw2
   cases hmk : mkB s W.bg W.en i j
   ·have HN3 : Hid (∀ j', j ≤ j' → j' ≤ s.size → ¬ OkAt s W i j') := fun j' h1 h2 hok => by
       by_cases he : j' = j
       ·subst he
        have h3 : mkB s W.bg W.en i j' = true := by simp only [mkB, decide_eq_true_eq]; exact hok.2
        rw [hmk] at h3
        cases h3
       ·exact HNO2.out j' (by omega) h2 hok
    have HKN : Hid (Keeps [] X w3) := hkX3
    clear hmk hkX3 hkw3
    go_wp2_with fail
    first
     | exact ⟨⟨j, rfl, HJ.out.1, by have := HJ.out; omega, HN3.out, HKN.out⟩, by have := HJ.out; simp [intOf]; omega⟩
     | (go_roundw
        case rel => exact ⟨j, rfl, HJ.out.1, by have := HJ.out; omega, HN3.out, HKN.out⟩
        case measure => have := HJ.out; simp [intOf]; omega)
   have HOK : Hid (OkAt s W i j) := by
    have h3 : (W.bg = true → i = 0) ∧ (W.en = true → j = s.size) := by
     have := hmk
     simp only [mkB, decide_eq_true_eq] at this
     exact this
    exact ⟨HB1.out.1 (by first | rfl | trivial), h3⟩
   clear hmk
   go_wp2_with (first | (refine wpList_load_row rfl 67 _ rfl g0 rfl _ _ _ _ hgr3 Tryz.underlying67 rfl (info7 _ _ _ _ _ _ _) ?_))
   refine (HSTR.out w3 i j hkw3 HJ.out.1 HJ.out.2 HOK.out.1).mono ?_
   rintro e w4 ⟨tb, t, ev, rfl, hTR, hown4, hk4⟩
   have HFA : Hid (FindA s W fr (some ([(i : Int), (j : Int)] ++ evs (List.replicate (2 * W.g) (-1)) ev))) := Or.inr ⟨i, j, t, ev, ⟨HFI.out.1, HJ.out.1, HJ.out.2, HOK.out, HNO.out, fun j' h1 h2 => HNO2.out j' h1 h2⟩, hTR, rfl⟩
   have hlen : ([(i : Int), (j : Int)] ++ evs (List.replicate (2 * W.g) (-1)) ev).length = 2 + 2 * W.g := by rw [List.length_append, evs_len, List.length_replicate]; rfl
   have hIW : IW w4 w.heap.size (.slice (some ⟨tb, 0, none⟩) (2 + 2 * W.g) (2 + 2 * W.g)) (some ([(i : Int), (j : Int)] ++ evs (List.replicate (2 * W.g) (-1)) ev)) := by
    show w4.ownsRow _ _ _ _ _ _
    rw [hlen]
    refine ⟨hown4.1, ?_⟩
    rcases hown4.2 with ⟨h, _⟩ | ⟨g, cap, cur, h1, h2, h3⟩
    ·cases h
    ·exact Or.inr ⟨g, cap, cur, h1, Nat.le_trans hkw3.size h2, h3⟩
   have hkE := hkw3.trans hk4
   clear hown4 hlen hTR hk4 hkw3 hgr3 hkX3
   go_wp2_with fail
   go_ret
   first | exact ⟨_, _, rfl, HFA.out, hIW, hkE⟩ | exact ⟨_, rfl, _, HFA.out, hIW, hkE⟩
end Go.Proofs.YtnfojonmohijpabGreatDoor
namespace Go.Proofs.YtnfojonmohijpabGreatDoor
open Go.RowKit
theorem IW.low {w : World} {lo lo' : Nat} {v : Value} {ans : Option (List Int)} (h : IW w lo v ans) (hl : lo' ≤ lo) : IW w lo' v ans := by
 cases ans with
 | none => exact h
 | some l =>
  refine ⟨h.1, ?_⟩
  rcases h.2 with h | ⟨g, cap, cur, h1, h2, h3⟩
  ·exact Or.inl h
  ·exact Or.inr ⟨g, cap, cur, h1, Nat.le_trans hl h2, h3⟩
set_option maxRecDepth 100000 in
set_option maxHeartbeats 2000000 in
theorem ysearch_any (p s : ByteArray) (fr : Int) (w : World) (hgn : GN w) :
    Calls Tryz.prog 12 #[.string p, .string s, .int .i64 fr] w fun e w' => ∃ r ans n, e = .returned (.tuple #[r, .int .i64 n]) ∧ SearchA p s fr ans n ∧ IW w' w.heap.size r ans ∧ Keeps [] w w' := by
 go_enter Tryz.func12, Tryz.ntmps12
 go_wp2_with fail
 refine (readPattern_prog p w hgn).mono ?_
 rintro e w1 ⟨hk1, hc1⟩
 have hz0 : P4 (w1.alloc (.cells #[.bool false, .bool false, .slice none 0 0, .int .i64 0] 58)) w1.heap.size (.bool false) (.bool false) (.slice none 0 0) (.int .i64 0) := heap_alloc_new w1 _
 have hk2 : Keeps [] w1 (w1.alloc (.cells #[.bool false, .bool false, .slice none 0 0, .int .i64 0] 58)) := (Keeps.refl [] w1).alloc _
 have hC : (∃ x y : Int, y ≠ 0 ∧ e = .returned (.tuple #[.agg #[.bool false, .bool false, .slice none 0 0, .int .i64 0], .int .i64 x, .int .i64 y]) ∧ SearchA p s fr none y) ∨
     ∃ W j v, p.size ≤ 60 ∧ PatR p (.ok W j) ∧ e = .returned (.tuple #[.agg #[.bool W.bg, .bool W.en, v, .int .i64 W.g], .int .i64 0, .int .i64 0]) ∧ v.oneCell' = true ∧ Rep w1 (fun g => w.heap.size ≤ g) .ways W.x [v] := by
  rcases hc1 with ⟨hl, he⟩ | ⟨hs, q, hq, h⟩
  ·exact Or.inl ⟨0, 1, by decide, he, Or.inl ⟨hl, rfl, rfl⟩⟩
  ·cases q with
   | bad j => exact Or.inl ⟨j, 2, by decide, h, Or.inr ⟨hs, .bad j, hq, rfl, rfl⟩⟩
   | ok W j =>
    obtain ⟨v, he, hv, hrep⟩ := h
    exact Or.inr ⟨W, j, v, hs, hq, he, hv, hrep⟩
 clear hc1
 rcases hC with ⟨x, y, hy0, rfl, hp⟩ | ⟨W, j, v, hs, hq, rfl, hv, hrep⟩
 ·have o4 := four_one (x := false) (y := false) (n := 0) (v := .slice none 0 0) rfl
  have hk3 : Keeps [] w1 ((w1.alloc (.cells #[.bool false, .bool false, .slice none 0 0, .int .i64 0] 58)).setRow w1.heap.size #[.bool false, .bool false, .slice none 0 0, .int .i64 0]) := hk2.setRow (Or.inr (Nat.le_refl _)) _
  have hkA := hk1.trans hk3
  have HP : Hid (SearchA p s fr none y) := hp
  clear hk2 hk3 hp hk1
  go_wp2_with (first | (refine wpList_store_row rfl 58 _ _ rfl w1.heap.size _ rfl rfl _ _ hz0 infoPat rfl o4 ?_; generalize (w1.alloc (.cells #[.bool false, .bool false, .slice none 0 0, .int .i64 0] 58)).setRow w1.heap.size #[.bool false, .bool false, .slice none 0 0, .int .i64 0] = W3 at *))
  go_ret2
  exact ⟨_, none, y, rfl, HP.out, rfl, hkA⟩
 have hsz := whole_sz hs hq
 obtain ⟨hfair, hthin, _⟩ := hq.good hs
 have o4 := four_one (x := W.bg) (y := W.en) (n := (W.g : Int)) hv
 have hk3 : Keeps [] w1 ((w1.alloc (.cells #[.bool false, .bool false, .slice none 0 0, .int .i64 0] 58)).setRow w1.heap.size #[.bool W.bg, .bool W.en, v, .int .i64 (W.g : Int)]) := hk2.setRow (Or.inr (Nat.le_refl _)) _
 have hrow : ((w1.alloc (.cells #[.bool false, .bool false, .slice none 0 0, .int .i64 0] 58)).setRow w1.heap.size #[.bool W.bg, .bool W.en, v, .int .i64 (W.g : Int)]).heap[w1.heap.size]? = some (.cells #[.bool W.bg, .bool W.en, v, .int .i64 (W.g : Int)] 58 (0, 0)) := setRow_heap _ _ _ _ _ _ hz0
 have hc3 : ∀ t u, [Value.bool W.bg, .bool W.en, v, .int .i64 (W.g : Int)][t]? = some u → ((w1.alloc (.cells #[.bool false, .bool false, .slice none 0 0, .int .i64 0] 58)).setRow w1.heap.size #[.bool W.bg, .bool W.en, v, .int .i64 (W.g : Int)]).cell? ⟨w1.heap.size, 0 + t, none⟩ = some u := by
  intro t u hu
  rw [Lib.cell_of_heap hrow, Nat.zero_add]
  simpa using hu
 have hr3 := hrep.keep hk3 (by simp)
 have hkA := hk1.trans hk3
 have hi4 := infoPat4 (.bool W.bg) (.bool W.en) v (.int .i64 (W.g : Int))
 have HQ : Hid (PatR p (.ok W j)) := hq
 have HPS : Hid (p.size ≤ 60) := hs
 have hg9 : W.g ≤ 9 := (hq.good hs).2.2
 have hnest := hq.nest
 clear hrep hq hgn hs hk1 hk2 hrow
 by_cases hT : s.size ≤ 100
 rotate_left
 ·have hT' : (100 : Int) < (s.size : Int) := by omega
  have HA : Hid (SearchA p s fr none 1) := Or.inr ⟨HPS.out, .ok W j, HQ.out, Or.inl ⟨by omega, rfl, rfl⟩⟩
  clear hT hr3 hc3
  go_wp2_with (first | (refine wpList_store_row rfl 58 _ _ rfl w1.heap.size _ rfl rfl _ _ hz0 infoPat rfl o4 ?_; generalize (w1.alloc (.cells #[.bool false, .bool false, .slice none 0 0, .int .i64 0] 58)).setRow w1.heap.size #[.bool W.bg, .bool W.en, v, .int .i64 (W.g : Int)] = W3 at *))
  go_ret2
  exact ⟨_, none, 1, rfl, HA.out, rfl, hkA⟩
 have HT : Hid (s.size ≤ 100) := hT
 have hT' : ¬ (100 : Int) < (s.size : Int) := by omega
 by_cases hf1 : fr < 0
 ·have HA : Hid (SearchA p s fr none 4) := Or.inr ⟨HPS.out, .ok W j, HQ.out, Or.inr ⟨hT, Or.inl ⟨Or.inl hf1, rfl, rfl⟩⟩⟩
  clear hT hr3 hc3
  go_wp2_with (first | (refine wpList_store_row rfl 58 _ _ rfl w1.heap.size _ rfl rfl _ _ hz0 infoPat rfl o4 ?_; generalize (w1.alloc (.cells #[.bool false, .bool false, .slice none 0 0, .int .i64 0] 58)).setRow w1.heap.size #[.bool W.bg, .bool W.en, v, .int .i64 (W.g : Int)] = W3 at *))
  go_ret2
  exact ⟨_, none, 4, rfl, HA.out, rfl, hkA⟩
 by_cases hf2 : (s.size : Int) < fr
 ·have HA : Hid (SearchA p s fr none 4) := Or.inr ⟨HPS.out, .ok W j, HQ.out, Or.inr ⟨hT, Or.inl ⟨Or.inr hf2, rfl, rfl⟩⟩⟩
  clear hT hr3 hc3
  go_wp2_with (first | (refine wpList_store_row rfl 58 _ _ rfl w1.heap.size _ rfl rfl _ _ hz0 infoPat rfl o4 ?_; generalize (w1.alloc (.cells #[.bool false, .bool false, .slice none 0 0, .int .i64 0] 58)).setRow w1.heap.size #[.bool W.bg, .bool W.en, v, .int .i64 (W.g : Int)] = W3 at *))
  go_ret2
  exact ⟨_, none, 4, rfl, HA.out, rfl, hkA⟩
 obtain ⟨k, hfk⟩ : ∃ k : Nat, fr = (k : Int) := ⟨fr.toNat, by omega⟩
 subst hfk
 have hks : k ≤ s.size := by omega
 clear hT
 go_wp2_with (first | (refine wpList_store_row rfl 58 _ _ rfl w1.heap.size _ rfl rfl _ _ hz0 infoPat rfl o4 ?_; generalize (w1.alloc (.cells #[.bool false, .bool false, .slice none 0 0, .int .i64 0] 58)).setRow w1.heap.size #[.bool W.bg, .bool W.en, v, .int .i64 (W.g : Int)] = W3 at *) | (refine wpList_load_at rfl 58 _ rfl w1.heap.size 0 rfl [.bool W.bg, .bool W.en, v, .int .i64 (W.g : Int)] _ hc3 Tryz.underlying58 rfl hi4 ?_))
 refine (matNew_any s (s.size + 1) rfl HT.out W v _ W3 hr3 hsz hfair).mono ?_
 rintro e w4 ⟨a, c, rfl, hm, hk4⟩
 have hkB := hkA.trans hk4
 have hSM := searchM_any s (s.size + 1) rfl HT.out W hg9 hnest v a c hv _ w4 hm hsz k hks
 clear hr3 hc3 hk3 hz0 hm hk4 hkA hi4 o4
 go_wp2_with fail
 refine hSM.mono ?_
 rintro e w5 ⟨r, ans, rfl, hFA, hIW, hk5⟩
 have hkC := hkB.trans hk5
 have hI := hIW.low hkB.size
 have HA : Hid (SearchA p s (k : Int) ans 0) := Or.inr ⟨HPS.out, .ok W j, HQ.out, Or.inr ⟨HT.out, Or.inr ⟨by omega, by omega, hFA, rfl⟩⟩⟩
 clear hIW hk5 hkB hFA hSM
 go_wp2_with fail
 go_ret2
 exact ⟨r, ans, 0, rfl, HA.out, hI, hkC⟩
end Go.Proofs.YtnfojonmohijpabGreatDoor
namespace Go.Proofs.YtnfojonmohijpabGreatDoor
open Go.RowKit
def WholeA (s : ByteArray) (W : Whole) (ans : Option (List Int)) : Prop :=
 (ans = none ∧ ¬ Mt s W.x 0 s.size) ∨ ∃ (t : List UInt8) (ev : List (Nat × Nat × Nat)), TR s (.node W.x) 0 s.size t ev ∧ ans = some ([0, (s.size : Int)] ++ evs (List.replicate (2 * W.g) (-1)) ev)
def SelA (s : ByteArray) (W : Whole) (x : Bool) (ans : Option (List Int)) : Prop := if x = true then WholeA s W ans else FindA s W 0 ans
structure MaI (w : World) (s : ByteArray) (W : Whole) (v a c : Value) : Prop where
 len : s.size ≤ 100
 g9 : W.g ≤ 9
 nest : W.x.nest ∧ ∀ m, W.x.has m → 0 < m ∧ m ≤ W.g
 one : v.oneCell' = true
 mks : ∃ S, Mk w S s (s.size + 1) .ways W.x [a, c]
 sz : W.x.sz ≤ 1000
theorem MaI.keep {w w' : World} {s : ByteArray} {W : Whole} {v a c : Value} (h : MaI w s W v a c) (hk : Keeps [] w w') : MaI w' s W v a c :=
 ⟨h.len, h.g9, h.nest, h.one, by obtain ⟨S, hS⟩ := h.mks; exact ⟨S, hS.keep hk (by simp)⟩, h.sz⟩
theorem MaI.cells {w : World} {s : ByteArray} {W : Whole} {v a c : Value} (h : MaI w s W v a c) : v.oneCell' = true ∧ a.oneCell' = true ∧ c.oneCell' = true := by
 obtain ⟨S, hS⟩ := h.mks
 have hal := hS.form.1
 exact ⟨h.one, hal a (by simp), hal c (by simp)⟩
theorem srch_any (s : ByteArray) (W : Whole) (v a c : Value) (w : World) (h : MaI w s W v a c) (fr : Nat) (hfr : fr ≤ s.size) :
    Calls Tryz.prog 24 #[.agg (mat W v s a c), .int .i64 fr] w fun e w' => ∃ r ans, e = .returned r ∧ FindA s W fr ans ∧ IW w' w.heap.size r ans ∧ Keeps [] w w' := by
 obtain ⟨S, hS⟩ := h.mks
 exact searchM_any s (s.size + 1) rfl h.len W h.g9 h.nest v a c h.one S w hS h.sz fr hfr
set_option maxRecDepth 100000 in
set_option maxHeartbeats 2000000 in
theorem whole_any (s : ByteArray) (W : Whole) (v a c : Value) (w : World) (h : MaI w s W v a c) :
    Calls Tryz.prog 85 #[.agg (mat W v s a c)] w fun e w' => ∃ r ans, e = .returned r ∧ WholeA s W ans ∧ IW w' w.heap.size r ans ∧ Keeps [] w w' := by
 obtain ⟨S, hm⟩ := h.mks
 have HCAN : Hid (∀ (X : World), Keeps [] w X → Calls Tryz.prog 21 #[.agg #[.bool W.bg, .bool W.en, v, .int .i64 (W.g : Int), .string s, a, c], .int .i64 (0 : Nat), .int .i64 s.size] X fun e w' => ∃ b, e = .returned (.bool b) ∧ (b = true ↔ Mt s W.x 0 s.size) ∧ Keeps [] X w') := fun X hk => canM_any s (s.size + 1) rfl h.len W v a c S X (hm.keep hk (by simp)) 0 s.size (Nat.zero_le _) (Nat.le_refl _)
 have HSTR : Hid (∀ (X : World), Keeps [] w X → Mt s W.x 0 s.size → Calls Tryz.prog 40 #[.agg #[.bool W.bg, .bool W.en, v, .int .i64 (W.g : Int), .string s, a, c], .int .i64 (0 : Nat), .int .i64 s.size] X fun e w' => ∃ tb t ev, e = .returned (.slice (some ⟨tb, 0, none⟩) (2 + 2 * W.g) (2 + 2 * W.g)) ∧ TR s (.node W.x) 0 s.size t ev ∧ w'.ownsRow X.heap.size 3 1 (.slice (some ⟨tb, 0, none⟩) (2 + 2 * W.g) (2 + 2 * W.g)) (2 + 2 * W.g) (spW ([((0 : Nat) : Int), (s.size : Int)] ++ evs (List.replicate (2 * W.g) (-1)) ev)) ∧ Keeps [] X w') := fun X hk hmt => stretches_any s (s.size + 1) rfl h.len W h.g9 h.nest v a c h.one S X (hm.keep hk (by simp)) h.sz 0 s.size (Nat.zero_le _) (Nat.le_refl _) hmt
 unfold mat
 have h0 : (w.alloc (.cells #[.bool W.bg, .bool W.en, v, .int .i64 (W.g : Int), .string s, a, c] 67)).heap[w.heap.size]? = some (.cells #[.bool W.bg, .bool W.en, v, .int .i64 (W.g : Int), .string s, a, c] 67 (0, 0)) := heap_alloc_new w _
 have hk0 : Keeps [] w (w.alloc (.cells #[.bool W.bg, .bool W.en, v, .int .i64 (W.g : Int), .string s, a, c] 67)) := (Keeps.refl [] w).alloc _
 clear hm h
 go_enter Tryz.func85, Tryz.ntmps85
 go_upto_region 1 with (fail)
 generalize (w.alloc (.cells #[.bool W.bg, .bool W.en, v, .int .i64 (W.g : Int), .string s, a, c] 67)) = X at *
 obtain ⟨g0, e0⟩ : ∃ g, g = w.heap.size := ⟨_, rfl⟩
 rw [← e0] at h0 ⊢
 have hg0X : g0 < X.heap.size := (Array.getElem?_eq_some_iff.1 h0).1
 clear e0
 obtain ⟨_, _, x4⟩ := matC3 h0
 go_wp2_with (first | (refine wpList_load_row rfl 67 _ rfl g0 rfl _ _ _ _ h0 Tryz.underlying67 rfl (info7 _ _ _ _ _ _ _) ?_))
 refine (HCAN.out X hk0).mono ?_
 rintro e w2 ⟨b, rfl, hb, hk2⟩
 have hkA := hk0.trans hk2
 have h2 := (hk2.block g0 hg0X (by simp)).trans h0
 clear x4 h0 hk0 hk2
 cases b
 ·have HA : Hid (WholeA s W none) := Or.inl ⟨rfl, fun h => nomatch (hb.2 h)⟩
  clear hb
  go_wp2_with fail
  go_ret
  first | exact ⟨_, none, rfl, HA.out, rfl, hkA⟩ | exact ⟨_, rfl, none, HA.out, rfl, hkA⟩
 ·have hMt : Mt s W.x 0 s.size := hb.1 rfl
  have hS := HSTR.out w2 hkA hMt
  obtain ⟨_, _, y4⟩ := matC3 h2
  clear hb hMt
  go_wp2_with (first | (refine wpList_load_row rfl 67 _ rfl g0 rfl _ _ _ _ h2 Tryz.underlying67 rfl (info7 _ _ _ _ _ _ _) ?_))
  refine hS.mono ?_
  rintro e w4 ⟨tb, t, ev, rfl, hTR, hown4, hk4⟩
  have HFA : Hid (WholeA s W (some ([0, (s.size : Int)] ++ evs (List.replicate (2 * W.g) (-1)) ev))) := Or.inr ⟨t, ev, hTR, rfl⟩
  have hlen : ([0, (s.size : Int)] ++ evs (List.replicate (2 * W.g) (-1)) ev).length = 2 + 2 * W.g := by rw [List.length_append, evs_len, List.length_replicate]; rfl
  have hIW : IW w4 w.heap.size (.slice (some ⟨tb, 0, none⟩) (2 + 2 * W.g) (2 + 2 * W.g)) (some ([0, (s.size : Int)] ++ evs (List.replicate (2 * W.g) (-1)) ev)) := by
   show w4.ownsRow _ _ _ _ _ _
   rw [hlen]
   refine ⟨hown4.1, ?_⟩
   rcases hown4.2 with ⟨h, _⟩ | ⟨g, cap, cur, h1, h2, h3⟩
   ·cases h
   ·exact Or.inr ⟨g, cap, cur, h1, Nat.le_trans hkA.size h2, h3⟩
  have hkE := hkA.trans hk4
  clear hown4 hlen hTR hk4 h2 hS y4
  go_wp2_with fail
  go_ret
  first | exact ⟨_, _, rfl, HFA.out, hIW, hkE⟩ | exact ⟨_, rfl, _, HFA.out, hIW, hkE⟩
def cmdC (k : Cmd) (W : Whole) (v tv : Value) : Array Value := #[.bool k.c, .bool k.i, .bool k.n, .bool k.o, .bool k.v, .bool k.x, .bool W.bg, .bool W.en, v, .int .i64 (W.g : Int), tv]
theorem cmd_cells {w : World} {g : Nat} {k : Cmd} {W : Whole} {v tv : Value} (h : w.heap[g]? = some (.cells (cmdC k W v tv) 83 (0, 0))) :
    w.cell? ⟨g, 0, none⟩ = some (.bool k.c) ∧ w.cell? ⟨g, 2, none⟩ = some (.bool k.n) ∧ w.cell? ⟨g, 3, none⟩ = some (.bool k.o) ∧ w.cell? ⟨g, 4, none⟩ = some (.bool k.v) ∧ w.cell? ⟨g, 5, none⟩ = some (.bool k.x) ∧ w.cell? ⟨g, 10, none⟩ = some tv := by
 refine ⟨?_, ?_, ?_, ?_, ?_, ?_⟩ <;> (rw [Lib.cell_of_heap h]; rfl)
set_option maxRecDepth 100000 in
set_option maxHeartbeats 2000000 in
theorem cfind_any (k : Cmd) (tv : Value) (htv : tv.oneCell' = true) (s : ByteArray) (W : Whole) (v a c : Value) (w : World) (h : MaI w s W v a c) :
    Calls Tryz.prog 47 #[.agg (cmdC k W v tv), .agg (mat W v s a c)] w fun e w' => ∃ r ans, e = .returned r ∧ SelA s W k.x ans ∧ IW w' w.heap.size r ans ∧ Keeps [] w w' := by
 obtain ⟨hv, ha, hc⟩ := h.cells
 have hk0 : Keeps [] w ((w.alloc (.cells (cmdC k W v tv) 83)).alloc (.cells (mat W v s a c) 67)) := ((Keeps.refl [] w).alloc _).alloc _
 have hsz1 : (w.alloc (.cells (cmdC k W v tv) 83)).heap.size = w.heap.size + 1 := by simp
 have h0 : ((w.alloc (.cells (cmdC k W v tv) 83)).alloc (.cells (mat W v s a c) 67)).heap[w.heap.size]? = some (.cells (cmdC k W v tv) 83 (0, 0)) := heap_alloc2_old w _ _
 have h1 : ((w.alloc (.cells (cmdC k W v tv) 83)).alloc (.cells (mat W v s a c) 67)).heap[w.heap.size + 1]? = some (.cells (mat W v s a c) 67 (0, 0)) := by rw [← hsz1]; exact heap_alloc_new _ _
 obtain ⟨_, _, _, _, c5, _⟩ := cmd_cells h0
 unfold cmdC mat at *
 go_enter Tryz.func47, Tryz.ntmps47
 go_upto_region 1 with (fail)
 have hX := h.keep hk0
 generalize (w.alloc (.cells #[.bool k.c, .bool k.i, .bool k.n, .bool k.o, .bool k.v, .bool k.x, .bool W.bg, .bool W.en, v, .int .i64 (W.g : Int), tv] 83)).alloc (.cells #[.bool W.bg, .bool W.en, v, .int .i64 (W.g : Int), .string s, a, c] 67) = X at *
 obtain ⟨g0, e0⟩ : ∃ g, g = w.heap.size := ⟨_, rfl⟩
 obtain ⟨g1, e1⟩ : ∃ g, g = w.heap.size + 1 := ⟨_, rfl⟩
 rw [← e1] at h1 ⊢
 rw [← e0] at c5 ⊢
 clear e0 e1 h0 h hsz1
 cases hkx : k.x
 ·have hx : k.x = false := hkx
  have hC := srch_any s W v a c X hX 0 (Nat.zero_le _)
  have HX : Hid (k.x = false) := hx
  rw [hx] at c5
  clear hx hkx
  go_wp2_with (first | (refine wpList_load_row rfl 67 _ rfl g1 rfl _ _ _ _ h1 Tryz.underlying67 rfl (info7 _ _ _ _ _ _ _) ?_))
  refine hC.mono ?_
  rintro e w2 ⟨r, ans, rfl, hA, hI, hk2⟩
  have hkE := hk0.trans hk2
  have hI2 := hI.low hk0.size
  have HA : Hid (SelA s W k.x ans) := by show SelA s W k.x ans; unfold SelA; rw [HX.out]; exact (if_neg (by decide)).mpr hA
  clear hC hA hI hk2 hk0 c5 h1
  go_wp2_with fail
  go_ret
  first | exact ⟨_, ans, rfl, HA.out, hI2, hkE⟩ | exact ⟨_, rfl, ans, HA.out, hI2, hkE⟩
 ·have hx : k.x = true := hkx
  have hC := whole_any s W v a c X hX
  have HX : Hid (k.x = true) := hx
  rw [hx] at c5
  clear hx hkx
  go_wp2_with (first | (refine wpList_load_row rfl 67 _ rfl g1 rfl _ _ _ _ h1 Tryz.underlying67 rfl (info7 _ _ _ _ _ _ _) ?_))
  refine hC.mono ?_
  rintro e w2 ⟨r, ans, rfl, hA, hI, hk2⟩
  have hkE := hk0.trans hk2
  have hI2 := hI.low hk0.size
  have HA : Hid (SelA s W k.x ans) := by show SelA s W k.x ans; unfold SelA; rw [HX.out]; exact (if_pos rfl).mpr hA
  clear hC hA hI hk2 hk0 c5 h1
  go_wp2_with fail
  go_ret
  first | exact ⟨_, ans, rfl, HA.out, hI2, hkE⟩ | exact ⟨_, rfl, ans, HA.out, hI2, hkE⟩
end Go.Proofs.YtnfojonmohijpabGreatDoor
