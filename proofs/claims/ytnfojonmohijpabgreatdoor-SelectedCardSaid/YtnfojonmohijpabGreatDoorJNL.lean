/-
  DERIVED. How the program lays the parts of a pattern with the stretches that each can match. No conditions.
-/
import Derived.Test.YtnfojonmohijpabGreatDoorJNK
import Derived.Deep.RegionHeld3
set_option linter.unusedSimpArgs false
set_option linter.unusedVariables false
namespace Go.Proofs.YtnfojonmohijpabGreatDoor
open Go.RowKit
def pdrop : Nat → Pat → Pat
 | 0, x => x
 | d + 1, .pcons _ r => pdrop d r
 | _ + 1, _ => .pnil
inductive Mk (w : World) (S : Nat → Prop) (s : ByteArray) (N : Nat) : Kr → Pat → List Value → Prop
 | set (f : Nat → Bool) (v : Value) : MP w S N v (Mt s (.set f)) → Mk w S s N .single (.set f) [.int .i64 0, .slice none 0 0, .slice none 0 0, v]
 | grp (k : Nat) (x : Pat) (a c : Value) : 0 < k → k ≤ 9 → Mk w S s N .ways x [a, c] → Mk w S s N .single (.grp k x) [.int .i64 k, a, c, c]
 | piece (x : Pat) (cs : List Value) : Mk w S s N .single x cs → Mk w S s N .piece x (cs ++ [.bool false, .int .i64 0, .int .i64 0, .slice none 0 0])
 | rep (mn : Nat) (mx : Int) (x : Pat) (cs : List Value) (v : Value) : mn ≤ 5 → -1 ≤ mx → mx ≤ 5 → (mx < 0 ∨ (mn : Int) ≤ mx) → Mk w S s N .single x cs → RR w S N (steps mn mx + 1) v (Left (Mt s x) mn mx) →
     Mk w S s N .piece (.rep mn mx x) (cs ++ [.bool true, .int .i64 mn, .int .i64 mx, v])
 | pnil : Mk w S s N .plist .pnil []
 | pcons (x r : Pat) (cs ds : List Value) : Mk w S s N .piece x cs → Mk w S s N .plist r ds → Mk w S s N .plist (.pcons x r) (cs ++ ds)
 | way (x : Pat) (cs : List Value) (v r : Value) (n : Nat) : Mk w S s N .plist x cs → w.ownsRow 0 193 8 v n cs → (∀ g, v.ownBlock = some g → S g) → RR w S N (n + 1) r (fun d => Mt s (pdrop d x)) → Mk w S s N .way x [v, r]
 | wone (x : Pat) (cs : List Value) : Mk w S s N .way x cs → Mk w S s N .wlist (.wone x) cs
 | wcons (x r : Pat) (cs ds : List Value) : Mk w S s N .way x cs → Mk w S s N .wlist r ds → Mk w S s N .wlist (.wcons x r) (cs ++ ds)
 | ways (x : Pat) (cs : List Value) (v c : Value) (n : Nat) : Mk w S s N .wlist x cs → w.ownsRow 0 150 2 v n cs → (∀ g, v.ownBlock = some g → S g) → MP w S N c (Mt s x) → Mk w S s N .ways x [v, c]
theorem Mk.keep {w w' : World} {S : Nat → Prop} {s : ByteArray} {N : Nat} {L : List Nat} (hk : Keeps L w w') (hs : ∀ g, S g → g ∉ L) {k : Kr} {x : Pat} {cs : List Value} (h : Mk w S s N k x cs) : Mk w' S s N k x cs := by
 induction h with
 | set f v hm => exact .set f v (hm.keep hk hs)
 | grp k x a c h0 h9 _ ih => exact .grp k x a c h0 h9 ih
 | piece x cs _ ih => exact .piece x cs ih
 | rep mn mx x cs v h1 h2 h3 h4 _ hr ih => exact .rep mn mx x cs v h1 h2 h3 h4 ih (hr.keep hk hs)
 | pnil => exact .pnil
 | pcons x r cs ds _ _ i1 i2 => exact .pcons x r cs ds i1 i2
 | way x cs v r n _ ho hp hr ih => exact .way x cs v r n ih (ho.keep hk fun g hg => hs g (hp g hg)) hp (hr.keep hk hs)
 | wone x cs _ ih => exact .wone x cs ih
 | wcons x r cs ds _ _ i1 i2 => exact .wcons x r cs ds i1 i2
 | ways x cs v c n _ ho hp hm ih => exact .ways x cs v c n ih (ho.keep hk fun g hg => hs g (hp g hg)) hp (hm.keep hk hs)
theorem Mk.mono {w : World} {S S' : Nat → Prop} {s : ByteArray} {N : Nat} (hs : ∀ g, S g → g < w.heap.size → S' g) {k : Kr} {x : Pat} {cs : List Value} (h : Mk w S s N k x cs) : Mk w S' s N k x cs := by
 have hb : ∀ {e : TypeId} {size : Nat} {v : Value} {n : Nat} {xs : List Value}, w.ownsRow 0 e size v n xs → (∀ g, v.ownBlock = some g → S g) → ∀ g, v.ownBlock = some g → S' g := fun ho hp g hg => hs g (hp g hg) (ho.lt g hg).2
 induction h with
 | set f v hm => exact .set f v (hm.mono hs)
 | grp k x a c h0 h9 _ ih => exact .grp k x a c h0 h9 ih
 | piece x cs _ ih => exact .piece x cs ih
 | rep mn mx x cs v h1 h2 h3 h4 _ hr ih => exact .rep mn mx x cs v h1 h2 h3 h4 ih (hr.mono hs)
 | pnil => exact .pnil
 | pcons x r cs ds _ _ i1 i2 => exact .pcons x r cs ds i1 i2
 | way x cs v r n _ ho hp hr ih => exact .way x cs v r n ih ho (hb ho hp) (hr.mono hs)
 | wone x cs _ ih => exact .wone x cs ih
 | wcons x r cs ds _ _ i1 i2 => exact .wcons x r cs ds i1 i2
 | ways x cs v c n _ ho hp hm ih => exact .ways x cs v c n ih ho (hb ho hp) (hm.mono hs)
theorem RR.one {w : World} {S : Nat → Prop} {N M : Nat} {v : Value} {F : Nat → Nat → Nat → Prop} (h : RR w S N M v F) : v.oneCell' = true := by
 obtain ⟨g, c, vs, rfl, _⟩ := h
 rfl
theorem Mk.form {w : World} {S : Nat → Prop} {s : ByteArray} {N : Nat} {k : Kr} {x : Pat} {cs : List Value} (h : Mk w S s N k x cs) :
    (∀ u ∈ cs, u.oneCell' = true) ∧ (match k with
      | .single => ∃ k' a c v, cs = [.int .i64 (k' : Nat), a, c, v] ∧ MP w S N v (Mt s x)
      | .ways => ∃ a c, cs = [a, c] ∧ MP w S N c (Mt s x)
      | .way => ∃ a r, cs = [a, r]
      | .piece => cs.length = 8
      | _ => True) := by
 induction h with
 | set f v hm => exact ⟨by intro u hu; simp at hu; rcases hu with rfl | rfl | rfl <;> first | rfl | exact hm.one.1, 0, _, _, v, rfl, hm⟩
 | grp k x a c h0 h9 _ ih =>
  obtain ⟨i1, a', c', e, hm⟩ := ih
  simp only [List.cons.injEq, and_true] at e
  obtain ⟨rfl, rfl⟩ := e
  refine ⟨?_, k, a, c, c, rfl, hm⟩
  intro u hu
  simp at hu
  rcases hu with rfl | rfl | rfl
  ·rfl
  ·exact i1 _ (by simp)
  ·exact i1 _ (by simp)
 | piece x cs _ ih =>
  obtain ⟨i1, k', a, c, v, e, hm⟩ := ih
  refine ⟨?_, by show (cs ++ _).length = 8; rw [List.length_append, e]; rfl⟩
  intro u hu
  rcases List.mem_append.1 hu with hu | hu
  ·exact i1 u hu
  ·simp at hu; rcases hu with rfl | rfl | rfl <;> rfl
 | rep mn mx x cs v h1 h2 h3 h4 _ hr ih =>
  obtain ⟨i1, k', a, c, v', e, hm⟩ := ih
  refine ⟨?_, by show (cs ++ _).length = 8; rw [List.length_append, e]; rfl⟩
  intro u hu
  rcases List.mem_append.1 hu with hu | hu
  ·exact i1 u hu
  ·simp at hu; rcases hu with rfl | rfl | rfl | rfl <;> first | rfl | exact hr.one
 | pnil => exact ⟨by simp, trivial⟩
 | pcons x r cs ds _ _ i1 i2 =>
  refine ⟨?_, trivial⟩
  intro u hu
  rcases List.mem_append.1 hu with hu | hu
  ·exact i1.1 u hu
  ·exact i2.1 u hu
 | way x cs v r n _ ho hp hr ih => exact ⟨by intro u hu; simp at hu; rcases hu with rfl | rfl; exact (ownsRow_one ho).1; exact hr.one, v, r, rfl⟩
 | wone x cs _ ih => exact ⟨ih.1, trivial⟩
 | wcons x r cs ds _ _ i1 i2 =>
  refine ⟨?_, trivial⟩
  intro u hu
  rcases List.mem_append.1 hu with hu | hu
  ·exact i1.1 u hu
  ·exact i2.1 u hu
 | ways x cs v c n _ ho hp hm ih => exact ⟨by intro u hu; simp at hu; rcases hu with rfl | rfl; exact (ownsRow_one ho).1; exact hm.one.1, v, c, rfl, hm⟩
def NewMk (w : World) (s : ByteArray) (N : Nat) (k : Kr) (x : Pat) (e : Ending) (w' : World) : Prop := ∃ cs, e = .returned (.agg cs.toArray) ∧ Mk w' (fun g => w.heap.size ≤ g) s N k x cs ∧ Keeps [] w w'
def WaysN (s : ByteArray) (N n : Nat) : Prop := ∀ (x : Pat), x.sz ≤ n → x.fair 9 → ∀ (w : World) (S : Nat → Prop) (v : Value), Rep w S .ways x [v] → Calls Tryz.prog 34 #[v, .string s] w (NewMk w s N .ways x)
def SingleN (s : ByteArray) (N n : Nat) : Prop := ∀ (x : Pat), x.sz ≤ n → x.fair 9 → ∀ (w : World) (S : Nat → Prop) (cs : List Value), Rep w S .single x cs → Calls Tryz.prog 127 #[.agg cs.toArray, .string s] w (NewMk w s N .single x)
def PieceN (s : ByteArray) (N n : Nat) : Prop := ∀ (x : Pat), x.sz ≤ n → x.fair 9 → ∀ (w : World) (S : Nat → Prop) (cs : List Value), Rep w S .piece x cs → Calls Tryz.prog 103 #[.agg cs.toArray, .string s] w (NewMk w s N .piece x)
def WayN (s : ByteArray) (N n : Nat) : Prop := ∀ (x : Pat), x.sz ≤ n → x.fair 9 → ∀ (w : World) (S : Nat → Prop) (v : Value), Rep w S .way x [v] → Calls Tryz.prog 68 #[v, .string s] w (NewMk w s N .way x)
end Go.Proofs.YtnfojonmohijpabGreatDoor
namespace Go.Proofs.YtnfojonmohijpabGreatDoor
open Go.RowKit
theorem info4 (a b c d : Value) : (Tryz.prog.info? 191).map (·.size) = some (#[a, b, c, d] : Array Value).size := by kernel_rfl
theorem all4 {a b c d : Value} (ha : a.oneCell' = true) (hb : b.oneCell' = true) (hc : c.oneCell' = true) (hd : d.oneCell' = true) : (#[a, b, c, d] : Array Value).all (·.oneCell') = true := by simp [ha, hb, hc, hd]
theorem info2w (a b : Value) : (Tryz.prog.info? 65).map (·.size) = some (#[a, b] : Array Value).size := by kernel_rfl
theorem all2 {a b : Value} (ha : a.oneCell' = true) (hb : b.oneCell' = true) : (#[a, b] : Array Value).all (·.oneCell') = true := by simp [ha, hb]
set_option maxRecDepth 100000 in
set_option maxHeartbeats 2000000 in
theorem newSingle_any (s : ByteArray) (N : Nat) (HN : Hid (N = s.size + 1)) (hs : s.size ≤ 100) (n : Nat) (IW : WaysN s N n) : SingleN s N (n + 1) := by
 intro x hx hfair w S cs hrep
 cases hrep with
 | set f =>
  have hz0 : ((w.alloc (.cells (sc (.int .i64 0) (.slice none 0 0) f).toArray 176)).alloc (.cells #[.int .i64 0, .slice none 0 0, .slice none 0 0, .slice none 0 0] 191)).heap[w.heap.size]? = some (.cells (sc (.int .i64 0) (.slice none 0 0) f).toArray 176 (0, 0)) := heap_alloc2_old w _ _
  have hr0 : ((w.alloc (.cells (sc (.int .i64 0) (.slice none 0 0) f).toArray 176)).alloc (.cells #[.int .i64 0, .slice none 0 0, .slice none 0 0, .slice none 0 0] 191)).heap[w.heap.size + 1]? = some (.cells #[.int .i64 0, .slice none 0 0, .slice none 0 0, .slice none 0 0] 191 (0, 0)) := heap_alloc2_new w _ _
  have hk0 : Keeps [] w ((w.alloc (.cells (sc (.int .i64 0) (.slice none 0 0) f).toArray 176)).alloc (.cells #[.int .i64 0, .slice none 0 0, .slice none 0 0, .slice none 0 0] 191)) := ((Keeps.refl [] w).alloc _).alloc _
  obtain ⟨c0, c1, c2⟩ := sc_cells hz0
  have hll : (Tryz.prog.info? 174).map (·.size) = some (hcells f).toList.length := by rw [Tryz.infoSet]; simp [hcells_size]
  generalize (sc (.int .i64 0) (.slice none 0 0) f).toArray = C at *
  go_enter Tryz.func127, Tryz.ntmps127
  go_upto_if 8 with (fail)
  generalize ((w.alloc (.cells C 176)).alloc (.cells #[.int .i64 0, .slice none 0 0, .slice none 0 0, .slice none 0 0] 191)) = W at *
  obtain ⟨g0, hg0⟩ : ∃ g0, g0 = w.heap.size := ⟨_, rfl⟩
  obtain ⟨g1, hg1⟩ : ∃ g1, g1 = w.heap.size + 1 := ⟨_, rfl⟩
  rw [← hg1] at hr0 ⊢
  rw [← hg0] at c0 c1 c2 ⊢
  have hlo : w.heap.size ≤ W.heap.size := hk0.size
  have hg1w : w.heap.size ≤ g1 := by omega
  have hg1W : g1 < W.heap.size := (Array.getElem?_eq_some_iff.1 hr0).1
  clear hz0 hg0 hg1 c1
  go_wp2_with (first | (refine wpList_load_at rfl 174 _ rfl g0 2 rfl (hcells f).toList _ c2 Tryz.underlying174 rfl hll ?_))
  rw [Array.toArray_toList]
  refine (bytesOf_any f s N HN hs W).mono ?_
  rintro e w1 ⟨v, rfl, hm, hk1⟩
  obtain ⟨gv, cv, fv, rfl, _⟩ := id hm
  have hr1 := (hk1.block g1 (Array.getElem?_eq_some_iff.1 hr0).1 (by simp)).trans hr0
  have hkA := hk0.trans hk1
  go_wp2_with (first | (refine wpList_store_row rfl 191 _ _ rfl g1 #[.int .i64 0, .slice none 0 0, .slice none 0 0, .slice (some ⟨gv, 0, none⟩) N cv] rfl rfl _ _ hr1 (info4 _ _ _ _) rfl (all4 rfl rfl rfl rfl) ?_))
  refine bodyPost_ret (results_cell_row rfl _ _ g1 _ _ _ _ rfl (setRow_heap _ _ _ _ _ _ hr1) Tryz.underlying191 rfl (info4 _ _ _ _)) rfl ?_
  refine ⟨[.int .i64 0, .slice none 0 0, .slice none 0 0, .slice (some ⟨gv, 0, none⟩) N cv], rfl, ?_, ?_⟩
  ·exact .set f _ ((hm.keep ((Keeps.refl [g1] w1).setRow (g := g1) (by simp) _) (by intro x hx; simp; omega)).mono fun x hx _ => by omega)
  ·exact hkA.setRow (Or.inr hg1w) _
 | grp k y v h0 h9 hr =>
  obtain ⟨va, vn, vc, rfl⟩ : IsSl v := by
   cases hr with
   | ways _ _ _ _ _ ho _ => exact ownsRow_sl ho
  have hz0 : ((w.alloc (.cells (sc (.int .i64 k) (.slice va vn vc) fun _ => false).toArray 176)).alloc (.cells #[.int .i64 0, .slice none 0 0, .slice none 0 0, .slice none 0 0] 191)).heap[w.heap.size]? = some (.cells (sc (.int .i64 k) (.slice va vn vc) fun _ => false).toArray 176 (0, 0)) := heap_alloc2_old w _ _
  have hr0 : ((w.alloc (.cells (sc (.int .i64 k) (.slice va vn vc) fun _ => false).toArray 176)).alloc (.cells #[.int .i64 0, .slice none 0 0, .slice none 0 0, .slice none 0 0] 191)).heap[w.heap.size + 1]? = some (.cells #[.int .i64 0, .slice none 0 0, .slice none 0 0, .slice none 0 0] 191 (0, 0)) := heap_alloc2_new w _ _
  have hk0 : Keeps [] w ((w.alloc (.cells (sc (.int .i64 k) (.slice va vn vc) fun _ => false).toArray 176)).alloc (.cells #[.int .i64 0, .slice none 0 0, .slice none 0 0, .slice none 0 0] 191)) := ((Keeps.refl [] w).alloc _).alloc _
  obtain ⟨c0, c1, c2⟩ := sc_cells hz0
  have hysz : y.sz ≤ n := by simp [Pat.sz] at hx; omega
  have hyf : y.fair 9 := hfair.2.2
  have hkne : ((k : Int) == 0) = false := by simpa using (by omega : ¬ (k : Int) = 0)
  have hrW := hr.keep hk0 (by simp)
  clear c2
  generalize (sc (.int .i64 k) (.slice va vn vc) fun _ => false).toArray = C at *
  go_enter Tryz.func127, Tryz.ntmps127
  go_upto_if 8 with (fail)
  generalize ((w.alloc (.cells C 176)).alloc (.cells #[.int .i64 0, .slice none 0 0, .slice none 0 0, .slice none 0 0] 191)) = W at *
  obtain ⟨g0, hg0⟩ : ∃ g0, g0 = w.heap.size := ⟨_, rfl⟩
  obtain ⟨g1, hg1⟩ : ∃ g1, g1 = w.heap.size + 1 := ⟨_, rfl⟩
  rw [← hg1] at hr0 ⊢
  rw [← hg0] at c0 c1 hz0 ⊢
  have hlo : w.heap.size ≤ W.heap.size := hk0.size
  have hg1w : w.heap.size ≤ g1 := by omega
  have hg1W : g1 < W.heap.size := (Array.getElem?_eq_some_iff.1 hr0).1
  have hg0W : g0 < W.heap.size := (Array.getElem?_eq_some_iff.1 hz0).1
  clear hg0 hg1 hr hx hfair
  go_wp2_with fail
  refine (IW y hysz hyf W S _ hrW).mono ?_
  rintro e w1 ⟨cs, rfl, hm, hk1⟩
  obtain ⟨hone, a, c, rfl, hmp⟩ := id hm.form
  obtain ⟨gc, cc, fc, rfl, _⟩ := id hmp
  obtain ⟨aa, an, ac, rfl⟩ : IsSl a := by
   cases hm with
   | ways _ _ _ _ _ _ ho _ _ => exact ownsRow_sl ho
  have hr1 := (hk1.block g1 hg1W (by simp)).trans hr0
  have c01 : w1.cell? ⟨g0, 0, none⟩ = some (.int .i64 k) := (World.cell?_of_block (hk1.block g0 hg0W (by simp))).trans c0
  have hkA := hk0.trans hk1
  have hq0 : (w1.alloc (.cells #[.slice none 0 0, .slice none 0 0] 65)).heap[w1.heap.size]? = some (.cells #[.slice none 0 0, .slice none 0 0] 65 (0, 0)) := heap_alloc_new w1 _
  have hkQ : Keeps [] w1 ((w1.alloc (.cells #[.slice none 0 0, .slice none 0 0] 65)).setRow w1.heap.size #[.slice aa an ac, .slice (some ⟨gc, 0, none⟩) N cc]) := ((Keeps.refl [] w1).alloc _).setRow (Or.inr (Nat.le_refl _)) _
  have hqR : ((w1.alloc (.cells #[.slice none 0 0, .slice none 0 0] 65)).setRow w1.heap.size #[.slice aa an ac, .slice (some ⟨gc, 0, none⟩) N cc]).heap[w1.heap.size]? = some (.cells #[.slice aa an ac, .slice (some ⟨gc, 0, none⟩) N cc] 65 (0, 0)) := setRow_heap _ _ _ _ _ _ hq0
  have c03 := (World.cell?_of_block (hkQ.block g0 (Nat.lt_of_lt_of_le hg0W hk1.size) (by simp))).trans c01
  have hr3 := (hkQ.block g1 (Nat.lt_of_lt_of_le hg1W hk1.size) (by simp)).trans hr1
  have hm3 := hm.keep hkQ (by simp)
  have q0 : ((w1.alloc (.cells #[.slice none 0 0, .slice none 0 0] 65)).setRow w1.heap.size #[.slice aa an ac, .slice (some ⟨gc, 0, none⟩) N cc]).cell? ⟨w1.heap.size, 0, none⟩ = some (.slice aa an ac) := by rw [Lib.cell_of_heap hqR]; rfl
  have q1 : ((w1.alloc (.cells #[.slice none 0 0, .slice none 0 0] 65)).setRow w1.heap.size #[.slice aa an ac, .slice (some ⟨gc, 0, none⟩) N cc]).cell? ⟨w1.heap.size, 1, none⟩ = some (.slice (some ⟨gc, 0, none⟩) N cc) := by rw [Lib.cell_of_heap hqR]; rfl
  have hkB := hkA.trans hkQ
  clear hz0 hr0 c0 c1 hrW hk0 hqR hm hmp hr1 c01
  go_wp2_with (first | (refine wpList_store_row rfl 191 _ _ rfl g1 #[.int .i64 k, .slice aa an ac, .slice (some ⟨gc, 0, none⟩) N cc, .slice (some ⟨gc, 0, none⟩) N cc] rfl rfl _ _ hr3 (info4 _ _ _ _) rfl (all4 rfl rfl rfl rfl) ?_) | (refine wpList_store_row rfl 65 _ _ rfl w1.heap.size #[.slice aa an ac, .slice (some ⟨gc, 0, none⟩) N cc] rfl rfl _ _ hq0 (info2w _ _) rfl (all2 rfl rfl) ?_; generalize (w1.alloc (.cells #[.slice none 0 0, .slice none 0 0] 65)).setRow w1.heap.size #[.slice aa an ac, .slice (some ⟨gc, 0, none⟩) N cc] = W3 at *))
  refine bodyPost_ret (results_cell_row rfl _ _ g1 _ _ _ _ rfl (setRow_heap _ _ _ _ _ _ hr3) Tryz.underlying191 rfl (info4 _ _ _ _)) rfl ?_
  refine ⟨[.int .i64 k, .slice aa an ac, .slice (some ⟨gc, 0, none⟩) N cc, .slice (some ⟨gc, 0, none⟩) N cc], rfl, ?_, ?_⟩
  ·exact .grp k y _ _ h0 h9 ((hm3.keep ((Keeps.refl [g1] W3).setRow (g := g1) (by simp) _) (by intro x hx; simp; omega)).mono fun x hx _ => by omega)
  ·exact hkB.setRow (Or.inr hg1w) _
end Go.Proofs.YtnfojonmohijpabGreatDoor
namespace Go.Proofs.YtnfojonmohijpabGreatDoor
open Go.RowKit
theorem infoPieceM (l : List Value) (h : l.length = 8) : (Tryz.prog.info? 193).map (·.size) = some l.toArray.size := by
 have : (Tryz.prog.info? 193).map (·.size) = some 8 := by kernel_rfl
 simpa [h] using this
theorem rangeSingleIn {w : World} {g : Nat} {cs ds : List Value} {T : TypeId} {fr : Nat × Nat} (h : w.heap[g]? = some (.cells (cs ++ ds).toArray T fr)) : w.rangeAt g 0 cs := by
 intro j v hv
 rw [Lib.cell_of_heap h, List.getElem?_toArray, Nat.zero_add, List.getElem?_append_left (List.getElem?_eq_some_iff.1 hv).1]
 exact hv
theorem rangeBehind {w : World} {g k : Nat} {cs ds : List Value} {T : TypeId} {fr : Nat × Nat} (hl : cs.length = k) (h : w.heap[g]? = some (.cells (cs ++ ds).toArray T fr)) : w.rangeAt g k ds := by
 intro j v hv
 rw [Lib.cell_of_heap h, List.getElem?_toArray, List.getElem?_append_right (by omega), hl, Nat.add_sub_cancel_left]
 exact hv
theorem infoRepL (o : Option (Nat × Int)) : (Tryz.prog.info? 178).map (·.size) = some (repC o).length := by rw [repC_len]; kernel_rfl
theorem infoSgL {cs : List Value} (h : cs.length = 258) : (Tryz.prog.info? 176).map (·.size) = some cs.length := by have := infoSingleC h; simpa using this
theorem repC_three (o : Option (Nat × Int)) : ∃ b m n, repC o = [b, m, n] ∧ b.oneCell' = true ∧ m.oneCell' = true ∧ n.oneCell' = true := by
 cases o with
 | none => exact ⟨_, _, _, rfl, rfl, rfl, rfl⟩
 | some p => exact ⟨_, _, _, rfl, rfl, rfl, rfl⟩
theorem info8 (a b c d e f g h : Value) : (Tryz.prog.info? 193).map (·.size) = some (#[a, b, c, d, e, f, g, h] : Array Value).size := by kernel_rfl
theorem all8 {a b c d e f g h : Value} (ha : a.oneCell' = true) (hb : b.oneCell' = true) (hc : c.oneCell' = true) (hd : d.oneCell' = true) (he : e.oneCell' = true) (hf : f.oneCell' = true) (hg : g.oneCell' = true) (hh : h.oneCell' = true) :
    (#[a, b, c, d, e, f, g, h] : Array Value).all (·.oneCell') = true := by simp [ha, hb, hc, hd, he, hf, hg, hh]
set_option maxRecDepth 100000 in
set_option maxHeartbeats 2000000 in
theorem newPiece_any (s : ByteArray) (N : Nat) (HN : Hid (N = s.size + 1)) (hs : s.size ≤ 100) (n : Nat) (IS : SingleN s N n) : PieceN s N n := by
 intro y hy hfair w S cs0 hrep
 cases hrep with
 | piece x o cs ho hrx =>
 have hx : x.sz ≤ n := Nat.le_trans (sz_rep x o) hy
 have hxf : x.fair 9 := by cases o with | none => exact hfair | some p => exact hfair.2
 have hl : cs.length = 258 := hrx.cells.2
 have hz0 : ((w.alloc (.cells (cs ++ repC o).toArray 180)).alloc (.cells #[.int .i64 0, .slice none 0 0, .slice none 0 0, .slice none 0 0, .bool false, .int .i64 0, .int .i64 0, .slice none 0 0] 193)).heap[w.heap.size]? = some (.cells (cs ++ repC o).toArray 180 (0, 0)) := heap_alloc2_old w _ _
 have hr0 : ((w.alloc (.cells (cs ++ repC o).toArray 180)).alloc (.cells #[.int .i64 0, .slice none 0 0, .slice none 0 0, .slice none 0 0, .bool false, .int .i64 0, .int .i64 0, .slice none 0 0] 193)).heap[w.heap.size + 1]? = some (.cells #[.int .i64 0, .slice none 0 0, .slice none 0 0, .slice none 0 0, .bool false, .int .i64 0, .int .i64 0, .slice none 0 0] 193 (0, 0)) := heap_alloc2_new w _ _
 have hk0 : Keeps [] w ((w.alloc (.cells (cs ++ repC o).toArray 180)).alloc (.cells #[.int .i64 0, .slice none 0 0, .slice none 0 0, .slice none 0 0, .bool false, .int .i64 0, .int .i64 0, .slice none 0 0] 193)) := ((Keeps.refl [] w).alloc _).alloc _
 have hrW := hrx.keep hk0 (by simp)
 have hl1 : ∀ w' : World, w'.heap[w.heap.size]? = some (.cells (cs ++ repC o).toArray 180 (0, 0)) → w'.rangeAt w.heap.size 0 cs := fun w' h => rangeSingleIn h
 have hl2 : ∀ w' : World, w'.heap[w.heap.size]? = some (.cells (cs ++ repC o).toArray 180 (0, 0)) → w'.rangeAt w.heap.size 258 (repC o) := fun w' h => rangeBehind hl h
 generalize hC : (cs ++ repC o).toArray = C at *
 go_enter Tryz.func103, Tryz.ntmps103
 go_upto_region 1 with (fail)
 generalize ((w.alloc (.cells C 180)).alloc (.cells #[.int .i64 0, .slice none 0 0, .slice none 0 0, .slice none 0 0, .bool false, .int .i64 0, .int .i64 0, .slice none 0 0] 193)) = W at *
 obtain ⟨g0, hg0⟩ : ∃ g0, g0 = w.heap.size := ⟨_, rfl⟩
 obtain ⟨g1, hg1⟩ : ∃ g1, g1 = w.heap.size + 1 := ⟨_, rfl⟩
 rw [← hg1] at hr0 ⊢
 rw [← hg0] at hz0 hl1 hl2 ⊢
 have hg0W : g0 < W.heap.size := (Array.getElem?_eq_some_iff.1 hz0).1
 have hg1W : g1 < W.heap.size := (Array.getElem?_eq_some_iff.1 hr0).1
 have hg1w : w.heap.size ≤ g1 := by omega
 clear hg0 hg1
 go_cut [5] from 6 to 12 (fun q5 wx => ∃ g2 ds, q5 = .pointer (some ⟨g2, 0, none⟩) ∧ Mk wx (fun x => W.heap.size ≤ x ∧ x ≠ g2) s N .single x ds ∧ wx.heap[g2]? = some (.cells (ds ++ repC o ++ [Value.slice none 0 0]).toArray 193 (0, 0)) ∧ W.heap.size ≤ g2 ∧ Keeps [] W wx)
 case first =>
  have IC : ∀ X : World, Keeps [] W X → Calls Tryz.prog 127 #[.agg cs.toArray, .string s] X (NewMk X s N .single x) := fun X hk => IS x hx hxf X S cs (hrW.keep hk (by simp))
  have hS0 : W.drew.heap[g0]? = some (.cells C 180 (0, 0)) ∧ Keeps [] W W.drew := ⟨hz0, (Keeps.refl [] W).drewN 1⟩
  clear hC
  refine wp_region_held (S := fun X => X.heap[g0]? = some (.cells C 180 (0, 0)) ∧ Keeps [] W X) (by kernel_rfl) ?_
  change wpAnyH _ _ _ _ _ _ _ _ (World.drew _)
  refine wpAnyH_take (i := 0) (v := .pointer (some ⟨g0, 0, none⟩)) rfl (by kernel_rfl) (by kernel_rfl) (by kernel_rfl) (fun _ _ _ h => h) (Or.inl ⟨by rfl, fun w _ => by go_simp⟩) hS0 ?_
  refine wpAnyH_take (i := 2) (v := .string s) rfl (by kernel_rfl) (by kernel_rfl) (by kernel_rfl) (fun _ _ _ h => h) (Or.inl ⟨by rfl, fun w _ => by go_simp⟩) hS0 ?_
  refine wpAnyH_take (i := 4) (v := .pointer (some ⟨g0, 258, none⟩)) rfl (by kernel_rfl) (by kernel_rfl) (by kernel_rfl) (fun _ _ _ h => h) (Or.inl ⟨by rfl, fun w _ => by go_simp⟩) hS0 ?_
  refine wpAnyH_take (i := 1) (v := .agg cs.toArray) rfl (by kernel_rfl) (by kernel_rfl) (by kernel_rfl) (fun _ _ _ h => h) (yieldsIf_load_mid (by rfl) 176 _ rfl g0 0 rfl cs _ (fun X hX => hl1 X hX.1) Tryz.underlying176 rfl (infoSgL hl)) hS0 ?_
  refine wpAnyH_take (i := 5) (v := .agg (repC o).toArray) rfl (by kernel_rfl) (by kernel_rfl) (by kernel_rfl) (fun _ _ _ h => h) (yieldsIf_load_mid (by rfl) 178 _ rfl g0 258 rfl (repC o) _ (fun X hX => hl2 X hX.1) Tryz.underlying178 rfl (infoRepL o)) hS0 ?_
  obtain ⟨r0, r1, r2, hro, o0, o1, o2⟩ := repC_three o
  rw [hro]
  refine wpAnyH_ready (rs := [3, 7]) (by kernel_rfl) (by simp) ?_
  refine AllReadyH.cons rfl (fun K hK => ?_) (AllReadyH.cons rfl (fun K hK => ?_) AllReadyH.nil)
  ·go_simp
   refine (IC _ hS0.2).mono ?_
   rintro e w1 ⟨ds, rfl, hm, hk1⟩
   have hS1 : w1.heap[g0]? = some (.cells C 180 (0, 0)) ∧ Keeps [] W w1 := ⟨(hk1.block g0 hg0W (by simp)).trans hS0.1, hS0.2.trans hk1⟩
   obtain ⟨hone, k', a, c, v, rfl, hmp⟩ := id hm.form
   refine hK.out _ _ hS1 (fun _ => ?_)
   clear hK K
   refine wpAnyH_take (i := 6) (v := .agg #[.int .i64 (k' : Nat), a, c, v, r0, r1, r2, .slice none 0 0]) rfl (by kernel_rfl) (by kernel_rfl) (by kernel_rfl) (fun _ _ _ h => h) (Or.inl ⟨by rfl, fun w _ => by go_simp⟩) hS1 ?_
   refine wpAnyH_ready (rs := [7]) (by kernel_rfl) (by simp) ?_
   refine AllReadyH.cons rfl (fun K hK => ?_) AllReadyH.nil
   go_simp
   have hz1 : (w1.alloc (.cells #[.int .i64 0, .slice none 0 0, .slice none 0 0, .slice none 0 0, .bool false, .int .i64 0, .int .i64 0, .slice none 0 0] 193)).heap[w1.heap.size]? = some (.cells #[.int .i64 0, .slice none 0 0, .slice none 0 0, .slice none 0 0, .bool false, .int .i64 0, .int .i64 0, .slice none 0 0] 193 (0, 0)) := heap_alloc_new w1 _
   have hk2 : Keeps [] w1 (w1.alloc (.cells #[.int .i64 0, .slice none 0 0, .slice none 0 0, .slice none 0 0, .bool false, .int .i64 0, .int .i64 0, .slice none 0 0] 193)) := (Keeps.refl [] w1).alloc _
   have hk3 : Keeps [] w1 ((w1.alloc (.cells #[.int .i64 0, .slice none 0 0, .slice none 0 0, .slice none 0 0, .bool false, .int .i64 0, .int .i64 0, .slice none 0 0] 193)).setRow w1.heap.size #[.int .i64 (k' : Nat), a, c, v, r0, r1, r2, .slice none 0 0]) := hk2.setRow (Or.inr (Nat.le_refl _)) _
   have hw1 : W.heap.size ≤ w1.heap.size := hS1.2.size
   have hS2 : (w1.alloc (.cells #[.int .i64 0, .slice none 0 0, .slice none 0 0, .slice none 0 0, .bool false, .int .i64 0, .int .i64 0, .slice none 0 0] 193)).heap[g0]? = some (.cells C 180 (0, 0)) ∧ Keeps [] W (w1.alloc (.cells #[.int .i64 0, .slice none 0 0, .slice none 0 0, .slice none 0 0, .bool false, .int .i64 0, .int .i64 0, .slice none 0 0] 193)) := ⟨(hk2.block g0 (by omega) (by simp)).trans hS1.1, hS1.2.trans hk2⟩
   have hS3 : ((w1.alloc (.cells #[.int .i64 0, .slice none 0 0, .slice none 0 0, .slice none 0 0, .bool false, .int .i64 0, .int .i64 0, .slice none 0 0] 193)).setRow w1.heap.size #[.int .i64 (k' : Nat), a, c, v, r0, r1, r2, .slice none 0 0]).heap[g0]? = some (.cells C 180 (0, 0)) ∧ Keeps [] W ((w1.alloc (.cells #[.int .i64 0, .slice none 0 0, .slice none 0 0, .slice none 0 0, .bool false, .int .i64 0, .int .i64 0, .slice none 0 0] 193)).setRow w1.heap.size #[.int .i64 (k' : Nat), a, c, v, r0, r1, r2, .slice none 0 0]) := ⟨(hk3.block g0 (by omega) (by simp)).trans hS1.1, hS1.2.trans hk3⟩
   refine hK.out _ _ hS2 (fun _ => ?_)
   clear hK K
   refine wpAnyH_ready (rs := [8]) (by kernel_rfl) (by simp) ?_
   refine AllReadyH.cons rfl (fun K hK => ?_) AllReadyH.nil
   rw [if_pos (by rfl)]
   refine wp_store_row 193 _ _ rfl w1.heap.size #[.int .i64 (k' : Nat), a, c, v, r0, r1, r2, .slice none 0 0] rfl rfl _ _ hz1 (info8 _ _ _ _ _ _ _ _) rfl (all8 rfl (hone _ (by simp)) (hone _ (by simp)) (hone _ (by simp)) o0 o1 o2 rfl) (hK.out _ _ hS3 (fun _ => ?_))
   refine wpAnyH_done (by kernel_rfl) ?_ _
   have hrow : ((w1.alloc (.cells #[.int .i64 0, .slice none 0 0, .slice none 0 0, .slice none 0 0, .bool false, .int .i64 0, .int .i64 0, .slice none 0 0] 193)).setRow w1.heap.size #[.int .i64 (k' : Nat), a, c, v, r0, r1, r2, .slice none 0 0]).heap[w1.heap.size]? = some (.cells #[.int .i64 (k' : Nat), a, c, v, r0, r1, r2, .slice none 0 0] 193 (0, 0)) := setRow_heap _ _ _ _ _ _ hz1
   have hm3 := (hm.mono (S' := fun x => W.heap.size ≤ x ∧ x ≠ w1.heap.size) fun x hx hx2 => by simp at hx; omega).keep hk3 (by simp)
   go_wp2_with fail
   go_meet
   case rel => exact ⟨w1.heap.size, [.int .i64 (k' : Nat), a, c, v], rfl, hm3, by rw [hrow, hro]; rfl, hw1, hS3.2⟩
  ·rw [if_pos (by rfl)]
   go_simp
   have hz1 : (W.alloc (.cells #[.int .i64 0, .slice none 0 0, .slice none 0 0, .slice none 0 0, .bool false, .int .i64 0, .int .i64 0, .slice none 0 0] 193)).drew.heap[W.heap.size]? = some (.cells #[.int .i64 0, .slice none 0 0, .slice none 0 0, .slice none 0 0, .bool false, .int .i64 0, .int .i64 0, .slice none 0 0] 193 (0, 0)) := heap_alloc_new W _
   have hk2 : Keeps [] W (W.alloc (.cells #[.int .i64 0, .slice none 0 0, .slice none 0 0, .slice none 0 0, .bool false, .int .i64 0, .int .i64 0, .slice none 0 0] 193)).drew := ((Keeps.refl [] W).alloc _).drewN 1
   have hS2 : (W.alloc (.cells #[.int .i64 0, .slice none 0 0, .slice none 0 0, .slice none 0 0, .bool false, .int .i64 0, .int .i64 0, .slice none 0 0] 193)).drew.heap[g0]? = some (.cells C 180 (0, 0)) ∧ Keeps [] W (W.alloc (.cells #[.int .i64 0, .slice none 0 0, .slice none 0 0, .slice none 0 0, .bool false, .int .i64 0, .int .i64 0, .slice none 0 0] 193)).drew := ⟨(hk2.block g0 hg0W (by simp)).trans hz0, hk2⟩
   have hX : (W.alloc (.cells #[.int .i64 0, .slice none 0 0, .slice none 0 0, .slice none 0 0, .bool false, .int .i64 0, .int .i64 0, .slice none 0 0] 193)).drew.heap.size = W.heap.size + 1 := by simp
   refine hK.out _ _ hS2 (fun _ => ?_)
   clear hK K
   generalize (W.alloc (.cells #[.int .i64 0, .slice none 0 0, .slice none 0 0, .slice none 0 0, .bool false, .int .i64 0, .int .i64 0, .slice none 0 0] 193)).drew = X at *
   refine wpAnyH_ready (rs := [3]) (by kernel_rfl) (by simp) ?_
   refine AllReadyH.cons rfl (fun K hK => ?_) AllReadyH.nil
   obtain ⟨g2, hg2⟩ : ∃ g2, g2 = W.heap.size := ⟨_, rfl⟩
   rw [← hg2] at hz1 hX ⊢
   have hg2W : W.heap.size ≤ g2 := by omega
   clear hg2
   go_simp
   refine (IC X hS2.2).mono ?_
   rintro e w1 ⟨ds, rfl, hm, hk1⟩
   have hS1 : w1.heap[g0]? = some (.cells C 180 (0, 0)) ∧ Keeps [] W w1 := ⟨(hk1.block g0 (by omega) (by simp)).trans hS2.1, hS2.2.trans hk1⟩
   obtain ⟨hone, k', a, c, v, rfl, hmp⟩ := id hm.form
   have hz2 := (hk1.block g2 (by omega) (by simp)).trans hz1
   have hk3 : Keeps [g2] w1 (w1.setRow g2 #[.int .i64 (k' : Nat), a, c, v, r0, r1, r2, .slice none 0 0]) := (Keeps.refl [g2] w1).setRow (g := g2) (by simp) _
   have hS3 : (w1.setRow g2 #[.int .i64 (k' : Nat), a, c, v, r0, r1, r2, .slice none 0 0]).heap[g0]? = some (.cells C 180 (0, 0)) ∧ Keeps [] W (w1.setRow g2 #[.int .i64 (k' : Nat), a, c, v, r0, r1, r2, .slice none 0 0]) := ⟨(hk3.block g0 (by have := hk1.size; omega) (by simp; omega)).trans hS1.1, hS1.2.setRow (Or.inr hg2W) _⟩
   refine hK.out _ _ hS1 (fun _ => ?_)
   clear hK K
   refine wpAnyH_take (i := 6) (v := .agg #[.int .i64 (k' : Nat), a, c, v, r0, r1, r2, .slice none 0 0]) rfl (by kernel_rfl) (by kernel_rfl) (by kernel_rfl) (fun _ _ _ h => h) (Or.inl ⟨by rfl, fun w _ => by go_simp⟩) hS1 ?_
   refine wpAnyH_ready (rs := [8]) (by kernel_rfl) (by simp) ?_
   refine AllReadyH.cons rfl (fun K hK => ?_) AllReadyH.nil
   rw [if_pos (by rfl)]
   refine wp_store_row 193 _ _ rfl g2 #[.int .i64 (k' : Nat), a, c, v, r0, r1, r2, .slice none 0 0] rfl rfl _ _ hz2 (info8 _ _ _ _ _ _ _ _) rfl (all8 rfl (hone _ (by simp)) (hone _ (by simp)) (hone _ (by simp)) o0 o1 o2 rfl) (hK.out _ _ hS3 (fun _ => ?_))
   refine wpAnyH_done (by kernel_rfl) ?_ _
   have hrow : (w1.setRow g2 #[.int .i64 (k' : Nat), a, c, v, r0, r1, r2, .slice none 0 0]).heap[g2]? = some (.cells #[.int .i64 (k' : Nat), a, c, v, r0, r1, r2, .slice none 0 0] 193 (0, 0)) := setRow_heap _ _ _ _ _ _ hz2
   have hm3 := (hm.mono (S' := fun x => W.heap.size ≤ x ∧ x ≠ g2) fun x hx hx2 => by omega).keep hk3 (by intro x hx; simp; exact hx.2)
   go_wp2_with fail
   go_meet
   case rel => exact ⟨g2, [.int .i64 (k' : Nat), a, c, v], rfl, hm3, by rw [hrow, hro]; rfl, hg2W, hS3.2⟩
 case rest =>
  obtain ⟨g2, ds, rfl, hm, hz2, hg2W, hkx⟩ := hcut
  obtain ⟨w2, hw2⟩ : ∃ w2 : World, w2 = wc := ⟨_, rfl⟩
  subst hw2
  obtain ⟨hone, k', a, c, v, rfl, hmp⟩ := id hm.form
  have hz3 := (hkx.block g0 hg0W (by simp)).trans hz0
  have hr3 := (hkx.block g1 hg1W (by simp)).trans hr0
  have hkA := hk0.trans hkx
  have hrg := hl2 _ hz3
  clear hz0 hr0 hl1 hrW
  obtain ⟨gv, cv, fv, rfl, _⟩ := id hmp
  cases o with
  | none =>
   have r0 : w2.cell? ⟨g0, 258, none⟩ = some (.bool false) := hrg 0 _ rfl
   have hz2' : w2.heap[g2]? = some (.cells #[.int .i64 (k' : Nat), a, c, .slice (some ⟨gv, 0, none⟩) N cv, .bool false, .int .i64 0, .int .i64 0, .slice none 0 0] 193 (0, 0)) := hz2
   clear hz2 hrg hl2
   go_wp2_with (first | (refine wpList_load_row rfl 193 _ rfl g2 rfl _ _ _ _ hz2' Tryz.underlying193 rfl (info8 _ _ _ _ _ _ _ _) ?_) | (refine wpList_store_row rfl 193 _ _ rfl g1 #[.int .i64 (k' : Nat), a, c, .slice (some ⟨gv, 0, none⟩) N cv, .bool false, .int .i64 0, .int .i64 0, .slice none 0 0] rfl rfl _ _ hr3 (info8 _ _ _ _ _ _ _ _) rfl (all8 rfl (hone _ (by simp)) (hone _ (by simp)) rfl rfl rfl rfl rfl) ?_))
   refine bodyPost_ret (results_cell_row rfl _ _ g1 _ _ _ _ rfl (setRow_heap _ _ _ _ _ _ hr3) Tryz.underlying193 rfl (info8 _ _ _ _ _ _ _ _)) rfl ?_
   refine ⟨[.int .i64 (k' : Nat), a, c, .slice (some ⟨gv, 0, none⟩) N cv] ++ [.bool false, .int .i64 0, .int .i64 0, .slice none 0 0], rfl, ?_, hkA.setRow (Or.inr hg1w) _⟩
   exact .piece x _ ((hm.keep ((Keeps.refl [g1] w2).setRow (g := g1) (by simp) _) (by intro y hy; simp; omega)).mono fun y hy _ => by have := hk0.size; omega)
  | some p =>
   obtain ⟨mn, mx⟩ := p
   have r0 : w2.cell? ⟨g0, 258, none⟩ = some (.bool true) := hrg 0 _ rfl
   have r1 : w2.cell? ⟨g0, 259, none⟩ = some (.int .i64 mn) := hrg 1 _ rfl
   have r2 : w2.cell? ⟨g0, 260, none⟩ = some (.int .i64 mx) := hrg 2 _ rfl
   have hz2' : w2.heap[g2]? = some (.cells #[.int .i64 (k' : Nat), a, c, .slice (some ⟨gv, 0, none⟩) N cv, .bool true, .int .i64 mn, .int .i64 mx, .slice none 0 0] 193 (0, 0)) := hz2
   have hcv : w2.cell? ⟨g2, 3, none⟩ = some (.slice (some ⟨gv, 0, none⟩) N cv) := by rw [Lib.cell_of_heap hz2']; rfl
   have hmn : mn ≤ 5 := ho.1
   have hmx : -1 ≤ mx ∧ mx ≤ 5 := by rcases ho.2 with h | ⟨q, h, h'⟩ <;> omega
   have hff : mx < 0 ∨ (mn : Int) ≤ mx := hfair.1
   obtain ⟨K, HK⟩ : ∃ K, Hid (K = steps mn mx) := ⟨_, rfl⟩
   obtain ⟨M, HM⟩ : ∃ M, Hid (M = K + 1) := ⟨_, rfl⟩
   have hC := restsOf_any s.size N HN hs mn mx hmn hmx.1 hmx.2 hff K M HK HM gv cv (fun _ _ => Mt.le (x := x)) (fun i j h hi => by have := HN.out; have := Mt.inn (x := x) h (by omega); omega) w2 hmp
   clear hz2 hrg hl2 ho hy hfair
   go_wp2_with fail
   refine hC.mono ?_
   rintro e w3 ⟨gr, rfl, hR, hk3⟩
   have hzz := (hk3.block g2 (Array.getElem?_eq_some_iff.1 hz2').1 (by simp)).trans hz2'
   have hr4 := (hk3.block g1 (Array.getElem?_eq_some_iff.1 hr3).1 (by simp)).trans hr3
   have hm3 := hm.keep hk3 (by simp)
   have hg2l : g2 < w2.heap.size := (Array.getElem?_eq_some_iff.1 hz2').1
   have f7 : w3.frozen? ⟨g2, 7, none⟩ = false := by simp [World.frozen?, hzz]
   have c7 : w3.cell? ⟨g2, 7, none⟩ = some (.slice none 0 0) := by rw [Lib.cell_of_heap hzz]; rfl
   have hk5 : Keeps [g2] w3 (w3.setCell ⟨g2, 7, none⟩ (.slice (some ⟨gr, 0, none⟩) M M)) := (Keeps.refl [g2] w3).setCell (p := ⟨g2, 7, none⟩) (by simp) _
   have hz5 : (w3.setCell ⟨g2, 7, none⟩ (.slice (some ⟨gr, 0, none⟩) M M)).heap[g2]? = some (.cells #[.int .i64 (k' : Nat), a, c, .slice (some ⟨gv, 0, none⟩) N cv, .bool true, .int .i64 mn, .int .i64 mx, .slice (some ⟨gr, 0, none⟩) M M] 193 (0, 0)) := by simp [World.setCell, Array.getElem?_modify, hzz]
   have hr5 := (hk5.block g1 (by have := hk3.size; have := hkx.size; omega) (by simp; omega)).trans hr4
   have hm5 := hm3.keep hk5 (by intro y hy; simp; exact hy.2)
   have hR5 := (hR.mono (S' := fun y => W.heap.size ≤ y ∧ y ≠ g2) fun y hy _ => by have := hkx.size; omega).keep hk5 (by intro y hy; simp; exact hy.2)
   have hkB : Keeps [] w (w3.setCell ⟨g2, 7, none⟩ (.slice (some ⟨gr, 0, none⟩) M M)) := keepsM (hkA.trans hk3) hk5 (by intro y hy; simp at hy; subst hy; right; have := hk0.size; omega)
   clear hC hR hk3 hzz hr4 hm3 hk5 hm hmp hz2' r0 r1 r2 hcv hr3 hz3
   go_wp2_with (first | (refine wpList_load_row rfl 193 _ rfl g2 rfl _ _ _ _ hz5 Tryz.underlying193 rfl (info8 _ _ _ _ _ _ _ _) ?_) | (refine wpList_store_row rfl 193 _ _ rfl g1 #[.int .i64 (k' : Nat), a, c, .slice (some ⟨gv, 0, none⟩) N cv, .bool true, .int .i64 mn, .int .i64 mx, .slice (some ⟨gr, 0, none⟩) M M] rfl rfl _ _ hr5 (info8 _ _ _ _ _ _ _ _) rfl (all8 rfl (hone _ (by simp)) (hone _ (by simp)) rfl rfl rfl rfl rfl) ?_))
   refine bodyPost_ret (results_cell_row rfl _ _ g1 _ _ _ _ rfl (setRow_heap _ _ _ _ _ _ hr5) Tryz.underlying193 rfl (info8 _ _ _ _ _ _ _ _)) rfl ?_
   refine ⟨[.int .i64 (k' : Nat), a, c, .slice (some ⟨gv, 0, none⟩) N cv] ++ [.bool true, .int .i64 mn, .int .i64 mx, .slice (some ⟨gr, 0, none⟩) M M], rfl, ?_, hkB.setRow (Or.inr hg1w) _⟩
   have hkS := (Keeps.refl [g1] (w3.setCell ⟨g2, 7, none⟩ (.slice (some ⟨gr, 0, none⟩) M M))).setRow (g := g1) (by simp) #[.int .i64 (k' : Nat), a, c, .slice (some ⟨gv, 0, none⟩) N cv, .bool true, .int .i64 mn, .int .i64 mx, .slice (some ⟨gr, 0, none⟩) M M]
   have hMK : M = steps mn mx + 1 := by rw [HM.out, HK.out]
   rw [hMK] at hR5 hkS hm5 ⊢
   exact .rep mn mx x _ _ hmn hmx.1 hmx.2 hff ((hm5.keep hkS (by intro y hy; simp; omega)).mono fun y hy _ => by have := hk0.size; omega) ((hR5.keep hkS (by intro y hy; simp; omega)).mono fun y hy _ => by have := hk0.size; omega)
end Go.Proofs.YtnfojonmohijpabGreatDoor
namespace Go.Proofs.YtnfojonmohijpabGreatDoor
open Go.RowKit
theorem MP.slice {w : World} {S : Nat → Prop} {N : Nat} {v : Value} {R : Nat → Nat → Prop} (h : MP w S N v R) : ∃ g c, v = .slice (some ⟨g, 0, none⟩) N c := by
 obtain ⟨g, c, f, e, _⟩ := h
 exact ⟨g, c, e⟩
theorem Mk.piece_cells {w : World} {S : Nat → Prop} {s : ByteArray} {N : Nat} {y : Pat} {cs : List Value} (h : Mk w S s N .piece y cs) :
    (∃ k a c g cv, cs = [.int .i64 (k : Nat), a, c, .slice (some ⟨g, 0, none⟩) N cv, .bool false, .int .i64 0, .int .i64 0, .slice none 0 0] ∧ MP w S N (.slice (some ⟨g, 0, none⟩) N cv) (Mt s y) ∧ ∀ mn mx x, y ≠ .rep mn mx x) ∨
    (∃ k a c g cv, ∃ (mn : Nat) (mx : Int) (x : Pat) (r : Value), y = .rep mn mx x ∧ mn ≤ 5 ∧ -1 ≤ mx ∧ mx ≤ 5 ∧ (mx < 0 ∨ (mn : Int) ≤ mx) ∧ cs = [.int .i64 (k : Nat), a, c, .slice (some ⟨g, 0, none⟩) N cv, .bool true, .int .i64 mn, .int .i64 mx, r] ∧ MP w S N (.slice (some ⟨g, 0, none⟩) N cv) (Mt s x) ∧ RR w S N (steps mn mx + 1) r (Left (Mt s x) mn mx)) := by
 cases h with
 | piece _ cs h =>
  obtain ⟨_, k, a, c, v, rfl, hm⟩ := h.form
  obtain ⟨g, cv, rfl⟩ := hm.slice
  exact Or.inl ⟨k, a, c, g, cv, rfl, hm, by intro mn mx x e; subst e; cases h⟩
 | rep mn mx x cs r h1 h2 h3 h4 h hr =>
  obtain ⟨_, k, a, c, v, rfl, hm⟩ := h.form
  obtain ⟨g, cv, rfl⟩ := hm.slice
  exact Or.inr ⟨k, a, c, g, cv, mn, mx, x, r, rfl, h1, h2, h3, h4, rfl, hm, hr⟩
set_option maxRecDepth 100000 in
set_option maxHeartbeats 2000000 in
theorem can_any (s : ByteArray) (N : Nat) (y : Pat) (cs : List Value) (S : Nat → Prop) (w : World) (h : Mk w S s N .piece y cs) :
    Calls Tryz.prog 104 #[.agg cs.toArray] w fun e w' => ∃ g c, e = .returned (.slice (some ⟨g, 0, none⟩) N c) ∧ MP w' S N (.slice (some ⟨g, 0, none⟩) N c) (Mt s y) ∧ Keeps [] w w' := by
 rcases h.piece_cells with ⟨k, a, c, g, cv, rfl, hm, hnr⟩ | ⟨k, a, c, g, cv, mn, mx, x, r, rfl, h1, h2, h3, h4, rfl, hm, hr⟩
 ·have hz0 : (w.alloc (.cells #[.int .i64 (k : Nat), a, c, .slice (some ⟨g, 0, none⟩) N cv, .bool false, .int .i64 0, .int .i64 0, .slice none 0 0] 193)).heap[w.heap.size]? = some (.cells #[.int .i64 (k : Nat), a, c, .slice (some ⟨g, 0, none⟩) N cv, .bool false, .int .i64 0, .int .i64 0, .slice none 0 0] 193 (0, 0)) := heap_alloc_new w _
  have hk0 : Keeps [] w (w.alloc (.cells #[.int .i64 (k : Nat), a, c, .slice (some ⟨g, 0, none⟩) N cv, .bool false, .int .i64 0, .int .i64 0, .slice none 0 0] 193)) := (Keeps.refl [] w).alloc _
  have c4 : (w.alloc (.cells #[.int .i64 (k : Nat), a, c, .slice (some ⟨g, 0, none⟩) N cv, .bool false, .int .i64 0, .int .i64 0, .slice none 0 0] 193)).cell? ⟨w.heap.size, 4, none⟩ = some (.bool false) := by rw [Lib.cell_of_heap hz0]; rfl
  have c3 : (w.alloc (.cells #[.int .i64 (k : Nat), a, c, .slice (some ⟨g, 0, none⟩) N cv, .bool false, .int .i64 0, .int .i64 0, .slice none 0 0] 193)).cell? ⟨w.heap.size, 3, none⟩ = some (.slice (some ⟨g, 0, none⟩) N cv) := by rw [Lib.cell_of_heap hz0]; rfl
  have hm0 := hm.keep hk0 (by simp)
  clear hz0 hm h
  go_enter Tryz.func104, Tryz.ntmps104
  go_wp2_with fail
  go_ret
  exact ⟨g, cv, rfl, hm0, hk0⟩
 ·obtain ⟨gr, cr, u, rfl, hgr, hSr, hcu, hu⟩ := hr.at (d := 0) (by omega)
  obtain ⟨gu, cu, rfl⟩ := hu.slice
  have hz0 : (w.alloc (.cells #[.int .i64 (k : Nat), a, c, .slice (some ⟨g, 0, none⟩) N cv, .bool true, .int .i64 mn, .int .i64 mx, .slice (some ⟨gr, 0, none⟩) (steps mn mx + 1) cr] 193)).heap[w.heap.size]? = some (.cells #[.int .i64 (k : Nat), a, c, .slice (some ⟨g, 0, none⟩) N cv, .bool true, .int .i64 mn, .int .i64 mx, .slice (some ⟨gr, 0, none⟩) (steps mn mx + 1) cr] 193 (0, 0)) := heap_alloc_new w _
  have hk0 : Keeps [] w (w.alloc (.cells #[.int .i64 (k : Nat), a, c, .slice (some ⟨g, 0, none⟩) N cv, .bool true, .int .i64 mn, .int .i64 mx, .slice (some ⟨gr, 0, none⟩) (steps mn mx + 1) cr] 193)) := (Keeps.refl [] w).alloc _
  have c4 : (w.alloc (.cells #[.int .i64 (k : Nat), a, c, .slice (some ⟨g, 0, none⟩) N cv, .bool true, .int .i64 mn, .int .i64 mx, .slice (some ⟨gr, 0, none⟩) (steps mn mx + 1) cr] 193)).cell? ⟨w.heap.size, 4, none⟩ = some (.bool true) := by rw [Lib.cell_of_heap hz0]; rfl
  have c7 : (w.alloc (.cells #[.int .i64 (k : Nat), a, c, .slice (some ⟨g, 0, none⟩) N cv, .bool true, .int .i64 mn, .int .i64 mx, .slice (some ⟨gr, 0, none⟩) (steps mn mx + 1) cr] 193)).cell? ⟨w.heap.size, 7, none⟩ = some (.slice (some ⟨gr, 0, none⟩) (steps mn mx + 1) cr) := by rw [Lib.cell_of_heap hz0]; rfl
  have hcu0 := (World.cell?_of_block (hk0.block gr hgr (by simp))).trans hcu
  have hm0 : MP (w.alloc (.cells #[.int .i64 (k : Nat), a, c, .slice (some ⟨g, 0, none⟩) N cv, .bool true, .int .i64 mn, .int .i64 mx, .slice (some ⟨gr, 0, none⟩) (steps mn mx + 1) cr] 193)) S N (.slice (some ⟨gu, 0, none⟩) N cu) (Mt s (.rep mn mx x)) := hu.keep hk0 (by simp)
  obtain ⟨M, hM⟩ : ∃ M, M = steps mn mx + 1 := ⟨_, rfl⟩
  have hM0 : (0 : Int) < (M : Int) := by omega
  clear hz0 hm h hr hcu hu
  rw [← hM] at c4 c7 hcu0 hm0 hk0 ⊢
  clear hM
  go_enter Tryz.func104, Tryz.ntmps104
  go_wp2_with fail
  go_ret
  exact ⟨gu, cu, rfl, hm0, hk0⟩
set_option maxRecDepth 100000 in
set_option maxHeartbeats 2000000 in
theorem rest_any (s : ByteArray) (N : Nat) (mn : Nat) (mx : Int) (x : Pat) (cs : List Value) (S : Nat → Prop) (w : World) (h : Mk w S s N .piece (.rep mn mx x) cs) (d : Nat) (hd : d ≤ 200) :
    Calls Tryz.prog 131 #[.agg cs.toArray, .int .i64 d] w fun e w' => ∃ g c, e = .returned (.slice (some ⟨g, 0, none⟩) N c) ∧ MP w' S N (.slice (some ⟨g, 0, none⟩) N c) (Left (Mt s x) mn mx d) ∧ Keeps [] w w' := by
 rcases h.piece_cells with ⟨k, a, c, g, cv, rfl, hm, hnr⟩ | ⟨k, a, c, g, cv, mn', mx', x', r, e, h1, h2, h3, h4, rfl, hm, hr⟩
 ·exact absurd rfl (hnr mn mx x)
 ·cases e
  obtain ⟨t, ht⟩ : ∃ t, t = min d (steps mn mx) := ⟨_, rfl⟩
  obtain ⟨gr, cr, u, rfl, hgr, hSr, hcu, hu⟩ := hr.at (d := t) (by omega)
  obtain ⟨gu, cu, rfl⟩ := hu.slice
  have hz0 : (w.alloc (.cells #[.int .i64 (k : Nat), a, c, .slice (some ⟨g, 0, none⟩) N cv, .bool true, .int .i64 mn, .int .i64 mx, .slice (some ⟨gr, 0, none⟩) (steps mn mx + 1) cr] 193)).heap[w.heap.size]? = some (.cells #[.int .i64 (k : Nat), a, c, .slice (some ⟨g, 0, none⟩) N cv, .bool true, .int .i64 mn, .int .i64 mx, .slice (some ⟨gr, 0, none⟩) (steps mn mx + 1) cr] 193 (0, 0)) := heap_alloc_new w _
  have hk0 : Keeps [] w (w.alloc (.cells #[.int .i64 (k : Nat), a, c, .slice (some ⟨g, 0, none⟩) N cv, .bool true, .int .i64 mn, .int .i64 mx, .slice (some ⟨gr, 0, none⟩) (steps mn mx + 1) cr] 193)) := (Keeps.refl [] w).alloc _
  have c7 : (w.alloc (.cells #[.int .i64 (k : Nat), a, c, .slice (some ⟨g, 0, none⟩) N cv, .bool true, .int .i64 mn, .int .i64 mx, .slice (some ⟨gr, 0, none⟩) (steps mn mx + 1) cr] 193)).cell? ⟨w.heap.size, 7, none⟩ = some (.slice (some ⟨gr, 0, none⟩) (steps mn mx + 1) cr) := by rw [Lib.cell_of_heap hz0]; rfl
  have hcu0 := (World.cell?_of_block (hk0.block gr hgr (by simp))).trans hcu
  have hm0 : MP (w.alloc (.cells #[.int .i64 (k : Nat), a, c, .slice (some ⟨g, 0, none⟩) N cv, .bool true, .int .i64 mn, .int .i64 mx, .slice (some ⟨gr, 0, none⟩) (steps mn mx + 1) cr] 193)) S N (.slice (some ⟨gu, 0, none⟩) N cu) (Left (Mt s x) mn mx d) := by
   refine (hu.keep hk0 (by simp)).congr fun i j _ _ => ?_
   rw [ht]
   rcases Nat.le_total d (steps mn mx) with h | h
   ·rw [Nat.min_eq_left h]
   ·rw [Nat.min_eq_right h]
    refine (Left.past h ?_).symm
    unfold steps
    split <;> omega
  obtain ⟨M, hM⟩ : ∃ M, M = steps mn mx + 1 := ⟨_, rfl⟩
  have hs5 : steps mn mx ≤ 5 := by unfold steps; split <;> omega
  have hM6 : (M : Int) ≤ 6 := by omega
  have hM1 : (1 : Int) ≤ (M : Int) := by omega
  have hd0 : (0 : Int) ≤ (d : Int) := by omega
  have ht0 : (0 : Int) ≤ (t : Int) := by omega
  have ht1 : (t : Int) < (M : Int) := by omega
  have hmin : min (d : Int) ((M : Int) - 1) = (t : Int) := by omega
  clear hz0 hm h hr hcu hu ht hs5
  rw [← hM] at c7 hcu0 hm0 hk0 ⊢
  clear hM
  go_enter Tryz.func131, Tryz.ntmps131
  go_wp2_with fail
  go_ret
  exact ⟨gu, cu, rfl, hm0, hk0⟩
end Go.Proofs.YtnfojonmohijpabGreatDoor
