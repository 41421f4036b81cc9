/-
  DERIVED. What the program's newWays has in its loop; plain lists of ways. No conditions.
-/
import Derived.Test.YtnfojonmohijpabGreatDoorJNQ
import Derived.Deep.AppendLies
import Derived.Test.YtnfojonmohijpabGreatDoorJNR
set_option linter.unusedSimpArgs false
set_option linter.unusedVariables false
namespace Go.Proofs.YtnfojonmohijpabGreatDoor
open Go.RowKit
theorem wl_len : ∀ (x : Pat), (wl x).length ≤ x.sz
 | .wcons x r => by have := wl_len r; simp only [wl, List.length_cons, Pat.sz]; omega
 | .wone x => by simp only [wl, List.length_cons, List.length_nil, Pat.sz]; omega
 | .set _ => Nat.zero_le _
 | .grp _ _ => Nat.zero_le _
 | .rep _ _ _ => Nat.zero_le _
 | .pnil => Nat.zero_le _
 | .pcons _ _ => Nat.zero_le _
theorem wfair {x : Pat} : ∀ {i : Nat} {y : Pat}, x.fair 9 → (wl x)[i]? = some y → y.fair 9 := by
 induction x with
 | wcons x r _ ih =>
  intro i y h hy
  cases i with
  | zero => simp [wl] at hy; subst hy; exact h.1
  | succ i => exact ih h.2 (by simpa [wl] using hy)
 | wone x _ =>
  intro i y h hy
  cases i with
  | zero => simp [wl] at hy; subst hy; exact h
  | succ i => simp [wl] at hy
 | _ => intro i y _ hy; simp [wl] at hy
theorem Mt.ways {w : World} {S : Nat → Prop} {s : ByteArray} {x : Pat} {vs : List Value} (h : Rep w S .wlist x vs) (a b : Nat) : Mt s x a b ↔ ∃ (j : Nat) (y : Pat), (wl x)[j]? = some y ∧ Mt s y a b := by
 generalize hk : Kr.wlist = kk at h
 induction h with
 | wone x v _ _ =>
  constructor
  ·intro h; exact ⟨0, x, rfl, h⟩
  ·rintro ⟨j, y, hy, h⟩
   cases j with
   | zero => simp [wl] at hy; subst hy; exact h
   | succ j => simp [wl] at hy
 | wcons x r v vs _ _ _ ih =>
  constructor
  ·rintro (h | h)
   ·exact ⟨0, x, rfl, h⟩
   ·obtain ⟨j, y, hy, h⟩ := (ih rfl).1 h
    exact ⟨j + 1, y, by simpa [wl] using hy, h⟩
  ·rintro ⟨j, y, hy, h⟩
   cases j with
   | zero => simp [wl] at hy; subst hy; exact Or.inl h
   | succ j => exact Or.inr ((ih rfl).2 ⟨j, y, by simpa [wl] using hy, h⟩)
 | _ => cases hk
theorem Mk.wlist {w' : World} {S' : Nat → Prop} {s : ByteArray} {N : Nat} {w : World} {S : Nat → Prop} {x : Pat} {vs : List Value} (h : Rep w S .wlist x vs) : ∀ {cs : List Value}, cs.length = (wl x).length * 2 →
    (∀ (j : Nat) (y : Pat), (wl x)[j]? = some y → ∃ a r, cs[j * 2]? = some a ∧ cs[j * 2 + 1]? = some r ∧ Mk w' S' s N .way y [a, r]) → Mk w' S' s N .wlist x cs := by
 generalize hk : Kr.wlist = kk at h
 induction h with
 | wone x v _ _ =>
  intro cs hl hc
  obtain ⟨a, r, h1, h2, h3⟩ := hc 0 x rfl
  match cs, hl, h1, h2 with
  | [c, d], _, h1, h2 =>
   simp at h1 h2
   subst h1 h2
   exact .wone x _ h3
 | wcons x r v vs _ _ _ ih =>
  intro cs hl hc
  obtain ⟨a, b, h1, h2, h3⟩ := hc 0 x rfl
  match cs, hl, h1, h2, hc with
  | c :: d :: ds, hl, h1, h2, hc =>
   simp at h1 h2
   subst h1 h2
   refine .wcons x r [c, d] ds h3 (ih rfl (by simp [wl] at hl ⊢; omega) fun j y hy => ?_)
   obtain ⟨a, b, e1, e2, e3⟩ := hc (j + 1) y (by simpa [wl] using hy)
   refine ⟨a, b, ?_, ?_, e3⟩
   ·rw [show (j + 1) * 2 = j * 2 + 1 + 1 by omega] at e1; simpa using e1
   ·rw [show (j + 1) * 2 + 1 = j * 2 + 1 + 1 + 1 by omega] at e2; simpa using e2
 | _ => cases hk
structure YM (W wr : World) (s : ByteArray) (N : Nat) (x : Pat) (i k gm : Nat) (v : Value) (cs : List Value) (c : Value) : Prop where
 made : wr.heap[gm]? = some (.cells #[v, c] 65 (0, 0))
 own : wr.ownsRow 0 150 2 v i cs
 fresh : ∀ g, v.ownBlock = some g → W.heap.size ≤ g ∧ g ≠ gm
 parts : ∀ (j : Nat) (y : Pat), j < i → (wl x)[j]? = some y → ∃ a r, cs[j * 2]? = some a ∧ cs[j * 2 + 1]? = some r ∧ Mk wr (fun z => W.heap.size ≤ z ∧ z ≠ gm ∧ v.ownBlock ≠ some z) s N .way y [a, r]
 can : MP wr (fun z => W.heap.size ≤ z ∧ z ≠ gm ∧ v.ownBlock ≠ some z) N c (fun a b => ∃ (j : Nat) (y : Pat), j < k ∧ (wl x)[j]? = some y ∧ Mt s y a b)
 keep : Keeps [] W wr
 low : W.heap.size ≤ gm
theorem YM.glt {W wr : World} {s : ByteArray} {N i k gm : Nat} {x : Pat} {v c : Value} {cs : List Value} (h : YM W wr s N x i k gm v cs c) : gm < wr.heap.size := (Array.getElem?_eq_some_iff.1 h.made).1
theorem YM.keeps {W wr w' : World} {s : ByteArray} {N i k gm : Nat} {x : Pat} {v c : Value} {cs : List Value} (h : YM W wr s N x i k gm v cs c) (hk : Keeps [] wr w') : YM W w' s N x i k gm v cs c := by
 refine ⟨(hk.block gm h.glt (by simp)).trans h.made, h.own.keep hk (by simp), h.fresh, fun j y hj hy => ?_, h.can.keep hk (by simp), h.keep.trans hk, h.low⟩
 obtain ⟨a, r, h1, h2, h3⟩ := h.parts j y hj hy
 exact ⟨a, r, h1, h2, h3.keep hk (by simp)⟩
theorem YM.done {W w0 wr : World} {S : Nat → Prop} {s : ByteArray} {N gm i : Nat} {x : Pat} {v c : Value} {vs cs : List Value} (hr : Rep w0 S .wlist x vs) (hi : i = (wl x).length) (h : YM W wr s N x i i gm v cs c) : Mk wr (fun z => W.heap.size ≤ z) s N .ways x [v, c] := by
 subst hi
 have hl : cs.length = (wl x).length * 2 := h.own.1
 refine .ways x cs v c _ (Mk.wlist hr hl fun j y hy => ?_) h.own (fun g hg => (h.fresh g hg).1) ((h.can.mono fun z hz _ => hz.1).congr fun a b _ _ => ?_)
 ·obtain ⟨a, r, h1, h2, h3⟩ := h.parts j y (List.getElem?_eq_some_iff.1 hy).1 hy
  exact ⟨a, r, h1, h2, h3.mono fun z hz _ => hz.1⟩
 ·rw [Mt.ways hr]
  constructor
  ·rintro ⟨j, y, _, h⟩; exact ⟨j, y, h⟩
  ·rintro ⟨j, y, hy, h⟩; exact ⟨j, y, (List.getElem?_eq_some_iff.1 hy).1, hy, h⟩
theorem YM.add {W w0 w2 w4 : World} {s : ByteArray} {N i k gm g' cap : Nat} {x y : Pat} {v c a r : Value} {cs : List Value} (h : YM W w2 s N x i k gm v cs c) (hy : (wl x)[i]? = some y) (hm : Mk w2 (fun z => w0.heap.size ≤ z) s N .way y [a, r]) (hgm : gm < w0.heap.size) (hW : W.heap.size ≤ w0.heap.size) (hv : ∀ g, v.ownBlock = some g → g < w0.heap.size)
    (hown : w4.ownsRow 0 150 2 (.slice (some ⟨g', 0, none⟩) (i + 1) cap) (i + 1) (cs ++ [a, r])) (hgrow : (w2.alloc (.cells #[a, r] 150)).grownBy w4 v.ownBlock) (hat : v.ownBlock = some g' ∨ g' = w2.heap.size + 1) :
    YM W (w4.setCell ⟨gm, 0, none⟩ (.slice (some ⟨g', 0, none⟩) (i + 1) cap)) s N x (i + 1) k gm (.slice (some ⟨g', 0, none⟩) (i + 1) cap) (cs ++ [a, r]) c := by
 have hk4 : Keeps v.ownBlock.toList w2 w4 := ((Keeps.refl v.ownBlock.toList w2).alloc _).trans (Keeps.ofGrown hgrow)
 have hk5 : Keeps [gm] w4 (w4.setCell ⟨gm, 0, none⟩ (.slice (some ⟨g', 0, none⟩) (i + 1) cap)) := (Keeps.refl [gm] w4).setCell (p := ⟨gm, 0, none⟩) (by simp) _
 have hgl := h.glt
 have hgn : gm ∉ v.ownBlock.toList := by
  intro hm
  rw [Option.mem_toList] at hm
  exact (h.fresh gm hm).2 rfl
 have hm4 := (hk4.block gm hgl hgn).trans h.made
 have hg' : W.heap.size ≤ g' ∧ g' ≠ gm := by
  rcases hat with e | e
  ·exact h.fresh g' e
  ·have := h.keep.size; omega
 have hnew : ∀ z, v.ownBlock ≠ some z → z < w2.heap.size → (Value.slice (some ⟨g', 0, none⟩) (i + 1) cap).ownBlock ≠ some z := by
  intro z hz hz2 e
  simp only [Value.ownBlock, Option.some.injEq] at e
  subst e
  rcases hat with e | e
  ·exact hz e
  ·omega
 have hmem : ∀ z, v.ownBlock ≠ some z → z ∉ v.ownBlock.toList := by
  intro z hz hm
  rw [Option.mem_toList] at hm
  exact hz hm
 have hl : cs.length = i * 2 := h.own.1
 refine ⟨?_, hown.keep hk5 ?_, ?_, ?_, ?_, ?_, h.low⟩
 ·simp [World.setCell, Array.getElem?_modify, hm4]
 ·intro z hz
  simp only [Value.ownBlock, Option.some.injEq] at hz
  subst hz
  simp
  exact hg'.2
 ·intro z hz
  simp only [Value.ownBlock, Option.some.injEq] at hz
  subst hz
  exact hg'
 ·intro j z hj hz
  by_cases e : j < i
  ·obtain ⟨a', r', h1, h2, h3⟩ := h.parts j z e hz
   refine ⟨a', r', by rw [List.getElem?_append_left (by omega)]; exact h1, by rw [List.getElem?_append_left (by omega)]; exact h2, ?_⟩
   refine (((h3.mono (S' := fun q => (W.heap.size ≤ q ∧ q ≠ gm ∧ v.ownBlock ≠ some q) ∧ q < w2.heap.size) fun q hq hq2 => ⟨hq, hq2⟩).keep hk4 fun q hq => hmem q hq.1.2.2).keep hk5 fun q hq => by simp; exact hq.1.2.1).mono fun q hq _ => ⟨hq.1.1, hq.1.2.1, hnew q hq.1.2.2 hq.2⟩
  ·have : j = i := by omega
   subst this
   rw [hy] at hz
   cases hz
   refine ⟨a, r, by rw [List.getElem?_append_right (by omega), hl]; simp, by rw [List.getElem?_append_right (by omega), hl, show j * 2 + 1 - j * 2 = 1 by omega]; rfl, ?_⟩
   have hno : ∀ q, w0.heap.size ≤ q → v.ownBlock ≠ some q := by
    intro q hq e
    have := hv q e
    omega
   refine (((hm.mono (S' := fun q => w0.heap.size ≤ q ∧ q < w2.heap.size) fun q hq hq2 => ⟨hq, hq2⟩).keep hk4 fun q hq => hmem q (hno q hq.1)).keep hk5 fun q hq => by simp; omega).mono fun q hq _ => ⟨by omega, by omega, hnew q (hno q hq.1) hq.2⟩
 ·exact (((h.can.mono (S' := fun q => (W.heap.size ≤ q ∧ q ≠ gm ∧ v.ownBlock ≠ some q) ∧ q < w2.heap.size) fun q hq hq2 => ⟨hq, hq2⟩).keep hk4 fun q hq => hmem q hq.1.2.2).keep hk5 fun q hq => by simp; exact hq.1.2.1).mono fun q hq _ => ⟨hq.1.1, hq.1.2.1, hnew q hq.1.2.2 hq.2⟩
 ·exact keepsM (keepsM h.keep hk4 (by intro z hz; rw [Option.mem_toList] at hz; exact Or.inr (h.fresh z hz).1)) hk5 (by intro z hz; simp at hz; subst hz; exact Or.inr h.low)
theorem YM.or {W w6 : World} {S : Nat → Prop} {s : ByteArray} {N i k gm : Nat} {x y : Pat} {v c c' : Value} {cs : List Value} (h : YM W w6 s N x i k gm v cs c) (hy : (wl x)[k]? = some y) (hm : MP w6 S N c' (fun a b => (∃ (j : Nat) (y : Pat), j < k ∧ (wl x)[j]? = some y ∧ Mt s y a b) ∨ Mt s y a b))
    (hS : ∀ z, S z → W.heap.size ≤ z ∧ z ≠ gm ∧ v.ownBlock ≠ some z) : YM W (w6.setCell ⟨gm, 1, none⟩ c') s N x i (k + 1) gm v cs c' := by
 have hk : Keeps [gm] w6 (w6.setCell ⟨gm, 1, none⟩ c') := (Keeps.refl [gm] w6).setCell (p := ⟨gm, 1, none⟩) (by simp) _
 have hmd := h.made
 refine ⟨?_, h.own.keep hk ?_, h.fresh, ?_, ?_, keepsM h.keep hk (by intro z hz; simp at hz; subst hz; exact Or.inr h.low), h.low⟩
 ·simp [World.setCell, Array.getElem?_modify, hmd]
 ·intro z hz; simp; exact (h.fresh z hz).2
 ·intro j z hj hz
  obtain ⟨a', r', h1, h2, h3⟩ := h.parts j z hj hz
  exact ⟨a', r', h1, h2, h3.keep hk fun q hq => by simp; exact hq.2.1⟩
 ·refine (((hm.mono (S' := fun z => W.heap.size ≤ z ∧ z ≠ gm ∧ v.ownBlock ≠ some z) fun z hz _ => hS z hz).keep hk fun q hq => by simp; exact hq.2.1)).congr fun a b _ _ => ?_
  constructor
  ·rintro (⟨j, z, h1, h2, h3⟩ | h3)
   ·exact ⟨j, z, by omega, h2, h3⟩
   ·exact ⟨k, y, by omega, hy, h3⟩
  ·rintro ⟨j, z, h1, h2, h3⟩
   by_cases e : j < k
   ·exact Or.inl ⟨j, z, e, h2, h3⟩
   ·have : j = k := by omega
    subst this
    rw [hy] at h2
    cases h2
    exact Or.inr h3
end Go.Proofs.YtnfojonmohijpabGreatDoor
namespace Go.Proofs.YtnfojonmohijpabGreatDoor
open Go.RowKit
theorem infoWyZ : (Tryz.prog.info? 150).map (fun i => (i.zero, i.size, i.bytes)) = some (some (.agg #[.slice none 0 0, .slice none 0 0]), 2, 48) := by kernel_rfl
theorem YM.start {W w1 : World} {s : ByteArray} {N : Nat} {x : Pat} {c : Value} (hM : MP w1 (fun g => W.heap.size ≤ g) N c (fun _ _ => False)) (hk1 : Keeps [] W w1) :
    YM W ((w1.alloc (.cells #[.slice none 0 0, .slice none 0 0] 65)).setRow w1.heap.size #[.slice none 0 0, c]) s N x 0 0 w1.heap.size (.slice none 0 0) [] c := by
 have hq0 : (w1.alloc (.cells #[.slice none 0 0, .slice none 0 0] 65)).heap[w1.heap.size]? = some (.cells #[.slice none 0 0, .slice none 0 0] 65 (0, 0)) := heap_alloc_new w1 _
 have hk2 : Keeps [] w1 ((w1.alloc (.cells #[.slice none 0 0, .slice none 0 0] 65)).setRow w1.heap.size #[.slice none 0 0, c]) := ((Keeps.refl [] w1).alloc _).setRow (Or.inr (Nat.le_refl _)) _
 refine ⟨setRow_heap _ _ _ _ _ _ hq0, World.ownsRow_nil _ _ _ _, by simp [Value.ownBlock], fun j y hj => by omega, ?_, hk1.trans hk2, hk1.size⟩
 exact ((hM.mono (S' := fun z => W.heap.size ≤ z ∧ z ≠ w1.heap.size ∧ (Value.slice none 0 0).ownBlock ≠ some z) fun z hz hz2 => ⟨hz, by omega, by simp [Value.ownBlock]⟩).keep hk2 (by simp)).congr fun a b _ _ => by
  constructor
  ·intro h; exact h.elim
  ·rintro ⟨j, y, h, _⟩; omega
theorem waysCells {w : World} {g : Nat} {a b : Value} (h : w.heap[g]? = some (.cells #[a, b] 65 (0, 0))) : w.cell? ⟨g, 0, none⟩ = some a ∧ w.cell? ⟨g, 1, none⟩ = some b ∧ w.frozen? ⟨g, 0, none⟩ = false ∧ w.frozen? ⟨g, 1, none⟩ = false := by
 refine ⟨?_, ?_, ?_, ?_⟩
 ·rw [Lib.cell_of_heap h]; rfl
 ·rw [Lib.cell_of_heap h]; rfl
 ·simp [World.frozen?, h]
 ·simp [World.frozen?, h]
theorem Mk.way_form {w : World} {S : Nat → Prop} {s : ByteArray} {N : Nat} {y : Pat} {a r : Value} (h : Mk w S s N .way y [a, r]) : IsSl a ∧ ∃ M, RR w S N (M + 1) r (fun d => Mt s (pdrop d y)) := by
 cases h with
 | way _ _ _ _ n _ ho _ hr => exact ⟨ownsRow_sl ho, n, hr⟩
set_option maxRecDepth 100000 in
set_option maxHeartbeats 4000000 in
theorem newWays_any (s : ByteArray) (N : Nat) (HN : Hid (N = s.size + 1)) (hs : s.size ≤ 100) (k : Nat) (hk9 : k + 1 ≤ 1000) (IW : WayN s N k) : WaysN s N (k + 1) := by
 intro x hx hfair w S v hrep
 cases hrep with
 | ways _ vs _ n hr hown _ =>
 obtain ⟨va, vn, vc, rfl⟩ := ownsRow_sl hown
 have hvn : vn = n := by
  rcases hown.2 with ⟨e, e2⟩ | ⟨g, cap, cur, e, _⟩
  ·cases e; exact e2.symm
  ·cases e; rfl
 subst hvn
 have HWL : Hid (vn = (wl x).length) := by
  have h1 := hown.1
  have h2 := hr.wl_text.2.1
  show vn = (wl x).length
  omega
 have hvm : (vn : Int) ≤ 1000 := by have := HWL.out; have := wl_len x; omega
 have hz0 : (w.alloc (.cells #[.slice none 0 0, .slice none 0 0] 65)).heap[w.heap.size]? = some (.cells #[.slice none 0 0, .slice none 0 0] 65 (0, 0)) := heap_alloc_new w _
 have hk0 : Keeps [] w (w.alloc (.cells #[.slice none 0 0, .slice none 0 0] 65)) := (Keeps.refl [] w).alloc _
 go_enter Tryz.func34, Tryz.ntmps34
 go_upto_region 1 with (fail)
 generalize (w.alloc (.cells #[.slice none 0 0, .slice none 0 0] 65)) = W at *
 obtain ⟨g1, hg1⟩ : ∃ g1, g1 = w.heap.size := ⟨_, rfl⟩
 rw [← hg1] at hz0 ⊢
 have hg1W : g1 < W.heap.size := (Array.getElem?_eq_some_iff.1 hz0).1
 have hg1w : w.heap.size ≤ g1 := by omega
 clear hg1
 go_wp2_with fail
 refine (none_mp s.size N HN hs W).mono ?_
 rintro e w1 ⟨c0, rfl, hM0, hk1⟩
 obtain ⟨gc, cc, rfl⟩ := hM0.slice
 have Y0 := YM.start (s := s) (x := x) hM0 hk1
 have hq0 : (w1.alloc (.cells #[.slice none 0 0, .slice none 0 0] 65)).heap[w1.heap.size]? = some (.cells #[.slice none 0 0, .slice none 0 0] 65 (0, 0)) := heap_alloc_new w1 _
 go_wp2_with (first | (refine wpList_store_row rfl 65 _ _ rfl w1.heap.size #[.slice none 0 0, .slice (some ⟨gc, 0, none⟩) N cc] rfl rfl _ _ hq0 (info2w _ _) rfl (all2 rfl rfl) ?_; generalize (w1.alloc (.cells #[.slice none 0 0, .slice none 0 0] 65)).setRow w1.heap.size #[.slice none 0 0, .slice (some ⟨gc, 0, none⟩) N cc] = w2 at *; clear hq0))
 obtain ⟨gm, hgm⟩ : ∃ gm, gm = w1.heap.size := ⟨_, rfl⟩
 rw [← hgm] at Y0 ⊢
 clear hgm hM0 hk1
 go_loopw [7, 8, 15] (fun _ _ q wr => ∃ (i : Nat) (v : Value) (cs : List Value) (c : Value), i ≤ vn ∧ q = .int .i64 i ∧ YM W wr s N x i i gm v cs c) (fun _ _ q _ => vn - (intOf q).toNat)
 case atStart => exact ⟨0, _, _, _, Nat.zero_le _, rfl, Y0⟩
 case round =>
  clear Y0
  obtain ⟨i, v, cs, c, hi, rfl, Y⟩ := hrel
  have hw0 := hk0.size
  obtain ⟨gc', cc', rfl⟩ := Y.can.slice
  obtain ⟨xa, xn, xc, rfl⟩ := ownsRow_sl Y.own
  by_cases hlt : i < vn
  ·obtain ⟨y, hy⟩ : ∃ y, (wl x)[i]? = some y := ⟨_, List.getElem?_eq_getElem (by have := HWL.out; omega)⟩
   obtain ⟨u, hu, hry, hysz⟩ := hr.wl_text.2.2 i y hy
   have hyf := wfair hfair hy
   obtain ⟨gv, vc', hv, _, hgv⟩ := hown.form (by omega)
   cases hv
   have hgvl : gv < w.heap.size := hgv
   have hkw : Keeps [] w wr := hk0.trans Y.keep
   have hcu : wr.cell? ⟨gv, i, none⟩ = some u := (World.cell?_of_block (hkw.block gv hgvl (by simp))).trans ((World.ownsRow.cellAt hown i (by omega)).trans hu)
   have hrX : Rep wr S .way y [u] := hry.keep hkw (by simp)
   have hi0 : (0 : Int) ≤ (i : Int) := by omega
   have hin : (i : Int) < (vn : Int) := by omega
   have HI : Hid (i < vn) := hlt
   obtain ⟨ua, un, uc, rfl⟩ : IsSl u := by
    cases hrX with
    | way _ _ _ _ _ ho _ => exact ownsRow_sl ho
   clear hi hlt hu
   go_wp2_with fail
   refine (IW y (by omega) hyf wr S _ hrX).mono ?_
   rintro e w3 ⟨ds, rfl, hm, hk3⟩
   obtain ⟨hone, a, r, rfl⟩ := id hm.form
   obtain ⟨hsa, Mr, hRR⟩ := hm.way_form
   obtain ⟨aa, an, ac, rfl⟩ := hsa
   obtain ⟨gr, cr, ur, rfl, hgr, hSr, hcr, hur⟩ := hRR.at (d := 0) (by omega)
   obtain ⟨gu, cu, rfl⟩ := hur.slice
   obtain ⟨M, HM⟩ : ∃ M, Hid (M = Mr + 1) := ⟨_, rfl⟩
   have hMM := HM.out
   rw [← hMM] at hm ⊢
   have hM0 : (0 : Int) < (M : Int) := by omega
   clear hMM hRR
   have hq0 : (w3.alloc (.cells #[.slice none 0 0, .slice none 0 0] 150)).heap[w3.heap.size]? = some (.cells #[.slice none 0 0, .slice none 0 0] 150 (0, 0)) := heap_alloc_new w3 _
   have hk4 : Keeps [] w3 ((w3.alloc (.cells #[.slice none 0 0, .slice none 0 0] 150)).setRow w3.heap.size #[.slice aa an ac, .slice (some ⟨gr, 0, none⟩) M cr]) := ((Keeps.refl [] w3).alloc _).setRow (Or.inr (Nat.le_refl _)) _
   have hq1 : ((w3.alloc (.cells #[.slice none 0 0, .slice none 0 0] 150)).setRow w3.heap.size #[.slice aa an ac, .slice (some ⟨gr, 0, none⟩) M cr]).heap[w3.heap.size]? = some (.cells #[.slice aa an ac, .slice (some ⟨gr, 0, none⟩) M cr] 150 (0, 0)) := setRow_heap _ _ _ _ _ _ hq0
   have hm4 := hm.keep hk4 (by simp)
   have hur4 := hur.keep hk4 (by simp)
   have hcr4 := (World.cell?_of_block (hk4.block gr hgr (by simp))).trans hcr
   have Y4 := Y.keeps (hk3.trans hk4)
   have hvl : ∀ g, (Value.slice xa xn xc).ownBlock = some g → g < wr.heap.size := fun g hg => (World.ownsRow.lt Y.own g hg).2
   have hgmr := Y.glt
   have hWr := Y.keep.size
   have hwr3 := hk3.size
   clear hcr hur hm hcu hrX
   go_upto_region 6 with (first | (refine wpList_store_row rfl 150 _ _ rfl w3.heap.size #[.slice aa an ac, .slice (some ⟨gr, 0, none⟩) M cr] rfl rfl _ _ hq0 (infoWy _ _) rfl (all2 rfl rfl) ?_; generalize (w3.alloc (.cells #[.slice none 0 0, .slice none 0 0] 150)).setRow w3.heap.size #[.slice aa an ac, .slice (some ⟨gr, 0, none⟩) M cr] = w4 at *))
   obtain ⟨gw, hgw⟩ : ∃ gw, gw = w3.heap.size := ⟨_, rfl⟩
   rw [← hgw] at hq1 ⊢
   have hgwr : wr.heap.size ≤ gw := by omega
   have hgw4 : gw < w4.heap.size := (Array.getElem?_eq_some_iff.1 hq1).1
   clear hgw hq0 hk4 hk3
   obtain ⟨b0, b1⟩ := wayCells hq1
   obtain ⟨d0, d1, z0, z1⟩ := waysCells Y4.made
   obtain ⟨i0, hi0, hy0, hy1, hy2⟩ := info_parts infoWyZ
   have hun := Tryz.underlying61
   have hlm : i + 1 ≤ maxLen := by unfold maxLen; have := HI.out; omega
   have hH : (w4.alloc (.cells #[.slice aa an ac, .slice (some ⟨gr, 0, none⟩) M cr] 150)).heap.size = w4.heap.size + 1 := by simp
   have hnews : ∀ j u, [Value.slice aa an ac, .slice (some ⟨gr, 0, none⟩) M cr][j]? = some u → (w4.alloc (.cells #[.slice aa an ac, .slice (some ⟨gr, 0, none⟩) M cr] 150)).cell? ((⟨w4.heap.size, 0, none⟩ : Addr).add j) = some u := World.news_of_block (cs := #[.slice aa an ac, .slice (some ⟨gr, 0, none⟩) M cr]) (heap_alloc_new w4 _)
   go_wp2_with (first | (at_builtin; refine wpList_append_lies _ rfl _ _ _ rfl 0 150 i0 _ 2 48 hun hi0 hy0 hy1 hy2 rfl (by decide) (.slice xa xn xc) i cs rfl (Y4.own.alloc _) ⟨w4.heap.size, 0, none⟩ 1 1 [.slice aa an ac, .slice (some ⟨gr, 0, none⟩) M cr] rfl rfl hnews (by intro u hu; simp at hu; rcases hu with rfl | rfl <;> rfl) (by omega) hlm (by have := HI.out; omega) (Nat.zero_le _) (w4.heap.size + 1) hH ?_))
   intro g' cap w5 hown5 hgrow hat hlt5
   have hv5 : Keeps (Value.slice xa xn xc).ownBlock.toList w4 w5 := ((Keeps.refl _ w4).alloc _).trans (Keeps.ofGrown hgrow)
   have hnv : ∀ z, wr.heap.size ≤ z → z ∉ (Value.slice xa xn xc).ownBlock.toList := by
    intro z hz hm
    rw [Option.mem_toList] at hm
    have := hvl z hm
    omega
   have hgmn : gm ∉ (Value.slice xa xn xc).ownBlock.toList := by
    intro hm
    rw [Option.mem_toList] at hm
    exact (Y4.fresh gm hm).2 rfl
   have hmd5 := (hv5.block gm Y4.glt hgmn).trans Y4.made
   obtain ⟨e0, e1, f0, f1⟩ := waysCells hmd5
   have Y6 := Y4.add (w0 := wr) hy hm4 hgmr hWr hvl hown5 hgrow hat
   have hk56 : Keeps [gm] w5 (w5.setCell ⟨gm, 0, none⟩ (.slice (some ⟨g', 0, none⟩) (i + 1) cap)) := (Keeps.refl [gm] w5).setCell (p := ⟨gm, 0, none⟩) (by simp) _
   have hq6 := (hk56.block gw (by have := hv5.size; omega) (by simp; omega)).trans ((hv5.block gw hgw4 (hnv gw hgwr)).trans hq1)
   have hgrl : gr < w4.heap.size := World.block_lt_of_cell? _ _ hcr4
   have hcr6 := (World.cell?_of_block (hk56.block gr (by have := hv5.size; omega) (by simp; omega))).trans ((World.cell?_of_block (hv5.block gr hgrl (hnv gr hSr))).trans hcr4)
   have hur6 := (hur4.keep hv5 (by intro z hz; exact hnv z hz)).keep hk56 (by intro z hz; simp; omega)
   clear hown5 hgrow hv5 hnews hH hcr4 hur4 hq1 b0 b1 d0 d1 z0 z1 hm4 Y4
   go_wp2_with fail
   generalize w5.setCell ⟨gm, 0, none⟩ (.slice (some ⟨g', 0, none⟩) (i + 1) cap) = w6 at *
   clear e0 e1 f0 f1 hmd5 hk56
   obtain ⟨b0, b1⟩ := wayCells hq6
   obtain ⟨d0, d1, z0, z1⟩ := waysCells Y6.made
   have hkD : Keeps [] w6 w6.drew := (Keeps.refl [] w6).drewN 1
   have hC := or_mp N (by have := HN.out; omega) w6.drew (Y6.can.keep hkD (by simp)) (hur6.keep hkD (by simp))
   go_region_with (first | (go_at_call 69; refine hC.mono ?_; rintro e w7 ⟨vo, rfl, hO, hk7⟩; obtain ⟨go, co, rfl⟩ := hO.slice; obtain ⟨d07, d17, z07, z17⟩ := waysCells (Y6.keeps (hkD.trans hk7)).made))
   all_goals
    have hg6 : g' < w6.heap.size := (World.ownsRow.lt Y6.own g' rfl).2
    have hgm6 := Y6.glt
    have hW6 := Y6.keep.size
    have Y8 := (Y6.keeps (hkD.trans hk7)).or hy hO (by
      intro z hz
      have hz' : w6.heap.size ≤ z := hz
      refine ⟨by omega, by omega, ?_⟩
      simp only [Value.ownBlock, ne_eq, Option.some.injEq]
      omega)
    clear Y6 hO hk7 hC hur6
    go_wp2_with fail
    go_roundw
    case rel => exact ⟨i + 1, _, _, _, HI.out, by go_num, Y8⟩
    case measure => have := HI.out; simp [intOf]; omega
  ·have he : i = vn := by omega
   have hni : ¬ (i : Int) < (vn : Int) := by omega
   have hr1 : wr.heap[g1]? = some (.cells #[.slice none 0 0, .slice none 0 0] 65 (0, 0)) := (Y.keep.block g1 hg1W (by simp)).trans hz0
   have hmk := Y.done hr (by have := HWL.out; omega)
   have hmd := Y.made
   have hkS : Keeps [g1] wr (wr.setRow g1 #[.slice xa xn xc, .slice (some ⟨gc', 0, none⟩) N cc']) := (Keeps.refl [g1] wr).setRow (g := g1) (by simp) _
   have hmk2 := (hmk.keep hkS (by intro z hz; simp; omega)).mono (S' := fun z => w.heap.size ≤ z) fun z hz _ => by omega
   have hkE : Keeps [] w (wr.setRow g1 #[.slice xa xn xc, .slice (some ⟨gc', 0, none⟩) N cc']) := (hk0.trans Y.keep).setRow (Or.inr hg1w) _
   clear hmk Y he hi hlt
   go_wp2_with (first | (refine wpList_load_row rfl 65 _ rfl gm rfl _ _ _ _ hmd Tryz.underlying65 rfl (info2w _ _) ?_) | (refine wpList_store_row rfl 65 _ _ rfl g1 #[.slice xa xn xc, .slice (some ⟨gc', 0, none⟩) N cc'] rfl rfl _ _ hr1 (info2w _ _) rfl (all2 rfl rfl) ?_))
   refine bodyPost_ret (results_cell_row rfl _ _ g1 _ _ _ _ rfl (setRow_heap _ _ _ _ _ _ hr1) Tryz.underlying65 rfl (info2w _ _)) rfl ?_
   exact ⟨[.slice xa xn xc, .slice (some ⟨gc', 0, none⟩) N cc'], rfl, hmk2, hkE⟩
end Go.Proofs.YtnfojonmohijpabGreatDoor
namespace Go.Proofs.YtnfojonmohijpabGreatDoor
open Go.RowKit
theorem news (s : ByteArray) (N : Nat) (HN : Hid (N = s.size + 1)) (hs : s.size ≤ 100) : ∀ n, n ≤ 1000 → WaysN s N n ∧ WayN s N n ∧ PieceN s N n ∧ SingleN s N n
 | 0, _ => ⟨fun x hx => by have := sz_pos x; omega, fun x hx => by have := sz_pos x; omega, fun x hx => by have := sz_pos x; omega, fun x hx => by have := sz_pos x; omega⟩
 | n + 1, h => by
  obtain ⟨i1, i2, i3, i4⟩ := news s N HN hs n (by omega)
  have h4 := newSingle_any s N HN hs n i1
  exact ⟨newWays_any s N HN hs n h i2, newWay_any s N HN hs n h i3, newPiece_any s N HN hs (n + 1) h4, h4⟩
theorem info7 (a b c d e f g : Value) : (Tryz.prog.info? 67).map (·.size) = some (#[a, b, c, d, e, f, g] : Array Value).size := by kernel_rfl
theorem all7 {a b c d e f g : Value} (ha : a.oneCell' = true) (hb : b.oneCell' = true) (hc : c.oneCell' = true) (hd : d.oneCell' = true) (he : e.oneCell' = true) (hf : f.oneCell' = true) (hg : g.oneCell' = true) :
    (#[a, b, c, d, e, f, g] : Array Value).all (·.oneCell') = true := by simp [ha, hb, hc, hd, he, hf, hg]
theorem patCells {w : World} {g : Nat} {a b c d : Value} (h : w.heap[g]? = some (.cells #[a, b, c, d] 58 (0, 0))) : w.cell? ⟨g, 0, none⟩ = some a ∧ w.cell? ⟨g, 1, none⟩ = some b ∧ w.cell? ⟨g, 2, none⟩ = some c ∧ w.cell? ⟨g, 3, none⟩ = some d := by
 refine ⟨?_, ?_, ?_, ?_⟩ <;> (rw [Lib.cell_of_heap h]; rfl)
def mat (W : Whole) (v : Value) (s : ByteArray) (a c : Value) : Array Value := #[.bool W.bg, .bool W.en, v, .int .i64 (W.g : Int), .string s, a, c]
set_option maxRecDepth 100000 in
set_option maxHeartbeats 2000000 in
theorem matNew_any (s : ByteArray) (N : Nat) (HN : Hid (N = s.size + 1)) (hs : s.size ≤ 100) (W : Whole) (v : Value) (S : Nat → Prop) (w : World) (hrep : Rep w S .ways W.x [v]) (hsz : W.x.sz ≤ 1000) (hfair : W.x.fair 9) :
    Calls Tryz.prog 20 #[.agg #[.bool W.bg, .bool W.en, v, .int .i64 (W.g : Int)], .string s] w fun e w' => ∃ a c, e = .returned (.agg (mat W v s a c)) ∧ Mk w' (fun g => w.heap.size ≤ g) s N .ways W.x [a, c] ∧ Keeps [] w w' := by
 unfold mat
 obtain ⟨va, vn, vc, rfl⟩ : IsSl v := by
  cases hrep with
  | ways _ _ _ _ _ ho _ => exact ownsRow_sl ho
 have hz0 : ((w.alloc (.cells #[.bool W.bg, .bool W.en, .slice va vn vc, .int .i64 (W.g : Int)] 58)).alloc (.cells #[.bool false, .bool false, .slice none 0 0, .int .i64 0, .string ⟨#[]⟩, .slice none 0 0, .slice none 0 0] 67)).heap[w.heap.size]? = some (.cells #[.bool W.bg, .bool W.en, .slice va vn vc, .int .i64 (W.g : Int)] 58 (0, 0)) := heap_alloc2_old w _ _
 have hr0 : ((w.alloc (.cells #[.bool W.bg, .bool W.en, .slice va vn vc, .int .i64 (W.g : Int)] 58)).alloc (.cells #[.bool false, .bool false, .slice none 0 0, .int .i64 0, .string ⟨#[]⟩, .slice none 0 0, .slice none 0 0] 67)).heap[w.heap.size + 1]? = some (.cells #[.bool false, .bool false, .slice none 0 0, .int .i64 0, .string ⟨#[]⟩, .slice none 0 0, .slice none 0 0] 67 (0, 0)) := heap_alloc2_new w _ _
 have hk0 : Keeps [] w ((w.alloc (.cells #[.bool W.bg, .bool W.en, .slice va vn vc, .int .i64 (W.g : Int)] 58)).alloc (.cells #[.bool false, .bool false, .slice none 0 0, .int .i64 0, .string ⟨#[]⟩, .slice none 0 0, .slice none 0 0] 67)) := ((Keeps.refl [] w).alloc _).alloc _
 go_enter Tryz.func20, Tryz.ntmps20
 go_upto_region 1 with (fail)
 generalize ((w.alloc (.cells #[.bool W.bg, .bool W.en, .slice va vn vc, .int .i64 (W.g : Int)] 58)).alloc (.cells #[.bool false, .bool false, .slice none 0 0, .int .i64 0, .string ⟨#[]⟩, .slice none 0 0, .slice none 0 0] 67)) = X at *
 obtain ⟨g0, hg0⟩ : ∃ g0, g0 = w.heap.size := ⟨_, rfl⟩
 obtain ⟨g1, hg1⟩ : ∃ g1, g1 = w.heap.size + 1 := ⟨_, rfl⟩
 rw [← hg1] at hr0 ⊢
 rw [← hg0] at hz0 ⊢
 have hg0X : g0 < X.heap.size := (Array.getElem?_eq_some_iff.1 hz0).1
 have hg1X : g1 < X.heap.size := (Array.getElem?_eq_some_iff.1 hr0).1
 have hg1w : w.heap.size ≤ g1 := by omega
 have hw0 := hk0.size
 have hg01 : g0 ≠ g1 := by omega
 clear hg0 hg1
 have hkD : Keeps [] X X.drew := (Keeps.refl [] X).drewN 1
 have hC := (news s N HN hs 1000 (Nat.le_refl _)).1 W.x hsz hfair X.drew S _ (hrep.keep (hk0.trans hkD) (by simp))
 have hS0 : X.drew.heap[g0]? = some (.cells #[.bool W.bg, .bool W.en, .slice va vn vc, .int .i64 (W.g : Int)] 58 (0, 0)) := hz0
 refine wp_region_held (S := fun X' => X'.heap[g0]? = some (.cells #[.bool W.bg, .bool W.en, .slice va vn vc, .int .i64 (W.g : Int)] 58 (0, 0))) (by kernel_rfl) ?_
 change wpAnyH _ _ _ _ _ _ _ _ (World.drew _)
 generalize X.drew = X0 at *
 refine wpAnyH_tk 0 _ (some 5) (.agg #[.bool W.bg, .bool W.en, .slice va vn vc, .int .i64 (W.g : Int)]) rfl rfl (by kernel_rfl) (by kernel_rfl) (by kernel_rfl) (fun _ _ _ h => h) (Or.inl ⟨by rfl, fun X hX => by (obtain ⟨q0, q1, q2, q3⟩ := patCells hX; go_simp)⟩) hS0 ?_
 simp only [Act.put, List.setIfInBounds_toArray, List.set_cons_zero, List.set_cons_succ]
 refine wpAnyH_tk 1 _ (some 6) (.string s) rfl rfl (by kernel_rfl) (by kernel_rfl) (by kernel_rfl) (fun _ _ _ h => h) (Or.inl ⟨by rfl, fun X hX => by go_simp⟩) hS0 ?_
 simp only [Act.put, List.setIfInBounds_toArray, List.set_cons_zero, List.set_cons_succ]
 refine wpAnyH_tk 2 _ (some 7) (.pointer (some ⟨g0, 2, none⟩)) rfl rfl (by kernel_rfl) (by kernel_rfl) (by kernel_rfl) (fun _ _ _ h => h) (Or.inl ⟨by rfl, fun X hX => by go_simp⟩) hS0 ?_
 simp only [Act.put, List.setIfInBounds_toArray, List.set_cons_zero, List.set_cons_succ]
 refine wpAnyH_tk 3 _ (some 8) (.slice va vn vc) rfl rfl (by kernel_rfl) (by kernel_rfl) (by kernel_rfl) (fun _ _ _ h => h) (Or.inl ⟨by rfl, fun X hX => by (obtain ⟨q0, q1, q2, q3⟩ := patCells hX; go_simp)⟩) hS0 ?_
 simp only [Act.put, List.setIfInBounds_toArray, List.set_cons_zero, List.set_cons_succ]
 refine wpAnyH_tk 4 _ (some 9) (.string s) rfl rfl (by kernel_rfl) (by kernel_rfl) (by kernel_rfl) (fun _ _ _ h => h) (Or.inl ⟨by rfl, fun X hX => by go_simp⟩) hS0 ?_
 simp only [Act.put, List.setIfInBounds_toArray, List.set_cons_zero, List.set_cons_succ]
 refine wpAnyH_ready (rs := [5]) (by kernel_rfl) (by simp) ?_
 refine AllReadyH.cons rfl (fun K hK => ?_) AllReadyH.nil
 go_simp
 refine hC.mono ?_
 rintro e w1 ⟨cs, rfl, hm, hk1⟩
 obtain ⟨hone, a, c, rfl, hmp⟩ := id hm.form
 have hkA := hkD.trans hk1
 have hS1 := (hkA.block g0 hg0X (by simp)).trans hz0
 have hr1 := (hkA.block g1 hg1X (by simp)).trans hr0
 refine hK.out _ _ hS1 (fun _ => ?_)
 clear hK K
 refine wpAnyH_tk 6 _ (some 11) (.agg #[.bool W.bg, .bool W.en, .slice va vn vc, .int .i64 (W.g : Int), .string s, a, c]) rfl rfl (by kernel_rfl) (by kernel_rfl) (by kernel_rfl) (fun _ _ _ h => h) (Or.inl ⟨by rfl, fun X hX => by go_simp⟩) hS1 ?_
 simp only [Act.put, List.setIfInBounds_toArray, List.set_cons_zero, List.set_cons_succ]
 refine wpAnyH_ready (rs := [7]) (by kernel_rfl) (by simp) ?_
 refine AllReadyH.cons rfl (fun K hK => ?_) AllReadyH.nil
 rw [if_pos (by rfl)]
 have hkS : Keeps [g1] w1 (w1.setRow g1 #[.bool W.bg, .bool W.en, .slice va vn vc, .int .i64 (W.g : Int), .string s, a, c]) := (Keeps.refl [g1] w1).setRow (g := g1) (by simp) _
 have hXD := hkD.size
 have hS2 := (hkS.block g0 (by have := hkA.size; omega) (by simp; exact hg01)).trans hS1
 refine wp_store_row 67 _ _ rfl g1 #[.bool W.bg, .bool W.en, .slice va vn vc, .int .i64 (W.g : Int), .string s, a, c] rfl rfl _ _ hr1 (info7 _ _ _ _ _ _ _) rfl (all7 rfl rfl rfl rfl rfl (hone _ (by simp)) (hone _ (by simp))) (hK.out _ _ hS2 (fun _ => ?_))
 refine wpAnyH_done (by kernel_rfl) ?_ _
 have hend := (hm.keep hkS (by intro z hz; simp; omega)).mono (S' := fun g => w.heap.size ≤ g) fun z hz _ => by omega
 have hkE : Keeps [] w (w1.setRow g1 #[.bool W.bg, .bool W.en, .slice va vn vc, .int .i64 (W.g : Int), .string s, a, c]) := (hk0.trans hkA).setRow (Or.inr hg1w) _
 go_wp2_with fail
 refine bodyPost_ret (results_cell_row rfl _ _ g1 _ _ _ _ rfl (setRow_heap _ _ _ _ _ _ hr1) Tryz.underlying67 rfl (info7 _ _ _ _ _ _ _)) rfl ?_
 exact ⟨a, c, rfl, hend, hkE⟩
set_option maxRecDepth 100000 in
set_option maxHeartbeats 2000000 in
theorem canM_any (s : ByteArray) (N : Nat) (HN : Hid (N = s.size + 1)) (hs : s.size ≤ 100) (W : Whole) (v a c : Value) (S : Nat → Prop) (w : World) (hm : Mk w S s N .ways W.x [a, c]) (i j : Nat) (hi : i ≤ s.size) (hj : j ≤ s.size) :
    Calls Tryz.prog 21 #[.agg (mat W v s a c), .int .i64 i, .int .i64 j] w fun e w' => ∃ b, e = .returned (.bool b) ∧ (b = true ↔ Mt s W.x i j) ∧ Keeps [] w w' := by
 unfold mat
 obtain ⟨hone, a', c', e, hmp⟩ := hm.form
 simp only [List.cons.injEq, and_true] at e
 obtain ⟨rfl, rfl⟩ := e
 have hz0 : (w.alloc (.cells #[.bool W.bg, .bool W.en, v, .int .i64 (W.g : Int), .string s, a, c] 67)).heap[w.heap.size]? = some (.cells #[.bool W.bg, .bool W.en, v, .int .i64 (W.g : Int), .string s, a, c] 67 (0, 0)) := heap_alloc_new w _
 have hk0 : Keeps [] w (w.alloc (.cells #[.bool W.bg, .bool W.en, v, .int .i64 (W.g : Int), .string s, a, c] 67)) := (Keeps.refl [] w).alloc _
 have c6 : (w.alloc (.cells #[.bool W.bg, .bool W.en, v, .int .i64 (W.g : Int), .string s, a, c] 67)).cell? ⟨w.heap.size, 6, none⟩ = some c := by rw [Lib.cell_of_heap hz0]; rfl
 obtain ⟨g, cap, f, rfl, hrg, hf, hS, hgl⟩ := has_mp N (by have := HN.out; omega) _ (hmp.keep hk0 (by simp)) i (by have := HN.out; omega)
 have hi0 : (0 : Int) ≤ (i : Int) := by omega
 have hiN : (i : Int) < (N : Int) := by have := HN.out; omega
 have hu := Tryz.underlying102
 clear hz0
 go_enter Tryz.func21, Tryz.ntmps21
 go_wp2_with (first | (refine wpList_load_mid rfl 102 _ rfl g (i * 2) rfl _ _ hrg hu rfl infoPl2 ?_))
 refine (phas_raw f j (by omega) _).mono ?_
 rintro e w1 ⟨rfl, hk1⟩
 go_wp2_with fail
 go_ret
 exact ⟨f j, rfl, hf j (by have := HN.out; omega), hk0.trans hk1⟩
end Go.Proofs.YtnfojonmohijpabGreatDoor
namespace Go.Proofs.YtnfojonmohijpabGreatDoor
open Go.RowKit
inductive TV (w : World) (S : Nat → Prop) : Bool → Tr → List Value → Prop
 | tnil : TV w S true .tnil [.int .u8 101, .int .i64 0, .slice none 0 0]
 | tbyte (b : Nat) : b < 256 → TV w S true (.tbyte b) [.int .u8 98, .int .i64 b, .slice none 0 0]
 | tgrp (k : Nat) (x : Tr) (v : Value) (cs : List Value) : k ≤ 9 → TV w S true x cs → w.ownsRow 0 75 3 v 1 cs → (∀ g, v.ownBlock = some g → S g) → TV w S true (.tgrp k x) [.int .u8 103, .int .i64 k, v]
 | talt (p : Nat) (x : Tr) (v : Value) (cs : List Value) : TV w S true x cs → w.ownsRow 0 75 3 v 1 cs → (∀ g, v.ownBlock = some g → S g) → TV w S true (.talt p x) [.int .u8 97, .int .i64 p, v]
 | tser (l : Tr) (v : Value) (n : Nat) (cs : List Value) : TV w S false l cs → w.ownsRow 0 75 3 v n cs → (∀ g, v.ownBlock = some g → S g) → TV w S true (.tser l) [.int .u8 115, .int .i64 0, v]
 | trep (l : Tr) (v : Value) (n : Nat) (cs : List Value) : TV w S false l cs → w.ownsRow 0 75 3 v n cs → (∀ g, v.ownBlock = some g → S g) → TV w S true (.trep l) [.int .u8 114, .int .i64 0, v]
 | lnil : TV w S false .lnil []
 | lcons (x r : Tr) (cs ds : List Value) : TV w S true x cs → TV w S false r ds → TV w S false (.lcons x r) (cs ++ ds)
theorem TV.keep {w w' : World} {S : Nat → Prop} {L : List Nat} {b : Bool} {t : Tr} {cs : List Value} (h : TV w S b t cs) (hk : Keeps L w w') (hs : ∀ g, S g → g ∉ L) : TV w' S b t cs := by
 induction h with
 | tnil => exact .tnil
 | tbyte b hb => exact .tbyte b hb
 | tgrp k x v cs h9 _ ho hp ih => exact .tgrp k x v cs h9 ih (ho.keep hk fun g hg => hs g (hp g hg)) hp
 | talt p x v cs _ ho hp ih => exact .talt p x v cs ih (ho.keep hk fun g hg => hs g (hp g hg)) hp
 | tser l v n cs _ ho hp ih => exact .tser l v n cs ih (ho.keep hk fun g hg => hs g (hp g hg)) hp
 | trep l v n cs _ ho hp ih => exact .trep l v n cs ih (ho.keep hk fun g hg => hs g (hp g hg)) hp
 | lnil => exact .lnil
 | lcons x r cs ds _ _ i1 i2 => exact .lcons x r cs ds i1 i2
theorem TV.mono {w : World} {S S' : Nat → Prop} {b : Bool} {t : Tr} {cs : List Value} (h : TV w S b t cs) (hs : ∀ g, S g → g < w.heap.size → S' g) : TV w S' b t cs := by
 have hb : ∀ {e : TypeId} {size : Nat} {v : Value} {n : Nat} {xs : List Value}, w.ownsRow 0 e size v n xs → (∀ g, v.ownBlock = some g → S g) → ∀ g, v.ownBlock = some g → S' g := fun ho hp g hg => hs g (hp g hg) (ho.lt g hg).2
 induction h with
 | tnil => exact .tnil
 | tbyte b hb => exact .tbyte b hb
 | tgrp k x v cs h9 _ ho hp ih => exact .tgrp k x v cs h9 ih ho (hb ho hp)
 | talt p x v cs _ ho hp ih => exact .talt p x v cs ih ho (hb ho hp)
 | tser l v n cs _ ho hp ih => exact .tser l v n cs ih ho (hb ho hp)
 | trep l v n cs _ ho hp ih => exact .trep l v n cs ih ho (hb ho hp)
 | lnil => exact .lnil
 | lcons x r cs ds _ _ i1 i2 => exact .lcons x r cs ds i1 i2
theorem TV.form {w : World} {S : Nat → Prop} {t : Tr} {cs : List Value} (h : TV w S true t cs) : ∃ (k n : Nat) (va : Option Addr) (vn vc : Nat), cs = [.int .u8 k, .int .i64 n, .slice va vn vc] := by
 cases h with
 | tnil => exact ⟨101, 0, none, 0, 0, rfl⟩
 | tbyte b hb => exact ⟨98, b, none, 0, 0, rfl⟩
 | tgrp k x v cs _ _ ho => obtain ⟨a, b, c, rfl⟩ := ownsRow_sl ho; exact ⟨103, k, a, b, c, rfl⟩
 | talt p x v cs _ ho => obtain ⟨a, b, c, rfl⟩ := ownsRow_sl ho; exact ⟨97, p, a, b, c, rfl⟩
 | tser l v n cs _ ho => obtain ⟨a, b, c, rfl⟩ := ownsRow_sl ho; exact ⟨115, 0, a, b, c, rfl⟩
 | trep l v n cs _ ho => obtain ⟨a, b, c, rfl⟩ := ownsRow_sl ho; exact ⟨114, 0, a, b, c, rfl⟩
def lapp : List Tr → Tr → Tr
 | [], u => u
 | t :: l, u => .lcons t (lapp l u)
theorem lapp_snoc (l : List Tr) (t u : Tr) : lapp (l ++ [t]) u = lapp l (.lcons t u) := by
 induction l with
 | nil => rfl
 | cons a l ih => simp only [List.cons_append, lapp, ih]
theorem lapp_app (l m : List Tr) (u : Tr) : lapp (l ++ m) u = lapp l (lapp m u) := by
 induction l with
 | nil => rfl
 | cons a l ih => simp only [List.cons_append, lapp, ih]
theorem TV.snoc {w : World} {S : Nat → Prop} {t : Tr} {ds : List Value} (ht : TV w S true t ds) : ∀ {l : List Tr} {cs : List Value}, TV w S false (lapp l .lnil) cs → TV w S false (lapp (l ++ [t]) .lnil) (cs ++ ds)
 | [], cs, h => by
  cases h with
  | lnil =>
   have := TV.lcons t .lnil ds [] ht .lnil
   simpa [lapp] using this
 | x :: l, cs, h => by
  cases h with
  | lcons _ _ a b h1 h2 =>
   rw [List.append_assoc]
   exact .lcons x _ a _ h1 (TV.snoc ht h2)
theorem TV.app {w : World} {S : Nat → Prop} {m : List Tr} {ds : List Value} (hm : TV w S false (lapp m .lnil) ds) : ∀ {l : List Tr} {cs : List Value}, TV w S false (lapp l .lnil) cs → TV w S false (lapp (l ++ m) .lnil) (cs ++ ds)
 | [], cs, h => by
  cases h with
  | lnil => simpa using hm
 | x :: l, cs, h => by
  cases h with
  | lcons _ _ a b h1 h2 =>
   rw [List.append_assoc]
   exact .lcons x _ a _ h1 (TV.app hm h2)
theorem TV.times {w : World} {S : Nat → Prop} {t : Tr} {cs : List Value} (h : TV w S true t cs) : ∀ n, TV w S false (lapp (List.replicate n t) .lnil) (List.replicate n cs).flatten
 | 0 => .lnil
 | n + 1 => by
  simp only [List.replicate_succ, lapp, List.flatten_cons]
  exact .lcons _ _ _ _ h (TV.times h n)
def isW : Pat → Prop
 | .wone _ => True
 | .wcons _ r => isW r
 | _ => False
def isP : Pat → Prop
 | .pnil => True
 | .pcons _ r => isP r
 | _ => False
theorem Mk.isWP {w : World} {S : Nat → Prop} {s : ByteArray} {N : Nat} {k : Kr} {x : Pat} {cs : List Value} (h : Mk w S s N k x cs) : (match k with | .wlist => isW x | .ways => isW x | .plist => isP x | .way => isP x | _ => True) := by
 induction h with
 | pcons _ _ _ _ _ _ _ ih => exact ih
 | way _ _ _ _ _ _ _ _ _ ih => exact ih
 | wcons _ _ _ _ _ _ _ ih => exact ih
 | ways _ _ _ _ _ _ _ _ _ ih => exact ih
 | _ => trivial
theorem TT.alts {s : ByteArray} {i j : Nat} {t : Tr} : ∀ {x : Pat} {p q : Nat} {y : Pat}, isW x → (wl x)[p]? = some y → Mt s y i j → (∀ (k : Nat) (z : Pat), k < p → (wl x)[k]? = some z → ¬ Mt s z i j) → TT s (.node y) i j t → TT s (.alts q x) i j (.talt (q + p) t)
 | .wone x, p, q, y, _, hy, hm, hn, ht => by
  cases p with
  | zero => simp [wl] at hy; subst hy; exact .last q x i j t ht
  | succ p => simp [wl] at hy
 | .wcons x r, p, q, y, h, hy, hm, hn, ht => by
  cases p with
  | zero => simp [wl] at hy; subst hy; exact .hit q x r i j t hm ht
  | succ p =>
   refine .miss q x r i j _ (hn 0 x (by omega) rfl) ?_
   have := TT.alts (x := r) (p := p) (q := q + 1) (y := y) h (by simpa [wl] using hy) hm (fun k z hk hz => hn (k + 1) z (by omega) (by simpa [wl] using hz)) ht
   rw [show q + 1 + p = q + (p + 1) by omega] at this
   exact this
theorem Mt.waysW {s : ByteArray} (a b : Nat) : ∀ {x : Pat}, isW x → (Mt s x a b ↔ ∃ (j : Nat) (y : Pat), (wl x)[j]? = some y ∧ Mt s y a b)
 | .wone x, _ => by
  constructor
  ·intro h; exact ⟨0, x, rfl, h⟩
  ·rintro ⟨j, y, hy, h⟩
   cases j with
   | zero => simp [wl] at hy; subst hy; exact h
   | succ j => simp [wl] at hy
 | .wcons x r, hw => by
  constructor
  ·rintro (h | h)
   ·exact ⟨0, x, rfl, h⟩
   ·obtain ⟨j, y, hy, h⟩ := (Mt.waysW a b (x := r) hw).1 h
    exact ⟨j + 1, y, by simpa [wl] using hy, h⟩
  ·rintro ⟨j, y, hy, h⟩
   cases j with
   | zero => simp [wl] at hy; subst hy; exact Or.inl h
   | succ j => exact Or.inr ((Mt.waysW a b (x := r) hw).2 ⟨j, y, by simpa [wl] using hy, h⟩)
theorem pdropP : ∀ {x : Pat}, isP x → pdrop (pl x).length x = .pnil ∧ ∀ (i : Nat) (y : Pat), (pl x)[i]? = some y → pdrop i x = .pcons y (pdrop (i + 1) x)
 | .pnil, _ => ⟨rfl, by intro i y hy; simp [pl] at hy⟩
 | .pcons x r, h => by
  obtain ⟨a, b⟩ := pdropP (x := r) h
  refine ⟨by simp only [pl, List.length_cons, pdrop]; exact a, ?_⟩
  intro i y hy
  cases i with
  | zero => simp [pl] at hy; subst hy; rfl
  | succ i => simp only [pdrop]; exact b i y (by simpa [pl] using hy)
theorem Mk.wl_at {w : World} {S : Nat → Prop} {s : ByteArray} {N : Nat} {x : Pat} {cs : List Value} (h : Mk w S s N .wlist x cs) : cs.length = (wl x).length * 2 ∧ ∀ (i : Nat) (y : Pat), (wl x)[i]? = some y → ∃ a r, cs[i * 2]? = some a ∧ cs[i * 2 + 1]? = some r ∧ Mk w S s N .way y [a, r] ∧ y.sz < x.sz := by
 generalize hk : Kr.wlist = kk at h
 induction h with
 | wone x cs h1 _ =>
  obtain ⟨_, a, r, rfl⟩ := h1.form
  refine ⟨rfl, ?_⟩
  intro i y hy
  match i, hy with
  | 0, hy => simp [wl] at hy; subst hy; exact ⟨a, r, rfl, rfl, h1, by simp [Pat.sz]⟩
 | wcons x q cs ds h1 _ _ ih =>
  obtain ⟨l, c⟩ := ih rfl
  obtain ⟨_, a, r, rfl⟩ := h1.form
  refine ⟨by simp [wl, l]; omega, ?_⟩
  intro i y hy
  match i, hy with
  | 0, hy => simp [wl] at hy; subst hy; exact ⟨a, r, rfl, rfl, h1, by simp [Pat.sz]; omega⟩
  | i + 1, hy =>
   obtain ⟨a', r', e1, e2, e3, e4⟩ := c i y (by simpa [wl] using hy)
   refine ⟨a', r', ?_, ?_, e3, by simp [Pat.sz]; omega⟩
   ·rw [show (i + 1) * 2 = i * 2 + 1 + 1 by omega]; simpa using e1
   ·rw [show (i + 1) * 2 + 1 = i * 2 + 1 + 1 + 1 by omega]; simpa using e2
 | _ => cases hk
theorem Mk.pl_at {w : World} {S : Nat → Prop} {s : ByteArray} {N : Nat} {x : Pat} {cs : List Value} (h : Mk w S s N .plist x cs) : cs.length = (pl x).length * 8 ∧ ∀ (i : Nat) (y : Pat), (pl x)[i]? = some y → ∃ ds, Mk w S s N .piece y ds ∧ (∀ (j : Nat) (u : Value), ds[j]? = some u → cs[i * 8 + j]? = some u) ∧ y.sz < x.sz := by
 generalize hk : Kr.plist = kk at h
 induction h with
 | pnil => exact ⟨rfl, by intro i y hy; simp [pl] at hy⟩
 | pcons x r cs ds h1 _ _ ih =>
  obtain ⟨b, c⟩ := ih rfl
  have hl : cs.length = 8 := h1.form.2
  refine ⟨by simp [pl, b, hl]; omega, ?_⟩
  intro i y hy
  match i, hy with
  | 0, hy =>
   simp [pl] at hy
   subst hy
   refine ⟨cs, h1, ?_, by simp [Pat.sz]; omega⟩
   intro j u hu
   rw [Nat.zero_mul, Nat.zero_add, List.getElem?_append_left (List.getElem?_eq_some_iff.1 hu).1]
   exact hu
  | i + 1, hy =>
   obtain ⟨es, h2, h3, h4⟩ := c i y (by simpa [pl] using hy)
   refine ⟨es, h2, ?_, by simp [Pat.sz]; omega⟩
   intro j u hu
   have := h3 j u hu
   rw [List.getElem?_append_right (by omega), hl]
   have e : (i + 1) * 8 + j - 8 = i * 8 + j := by omega
   rw [e]
   exact this
 | _ => cases hk
theorem TT.owed {s : ByteArray} {y : Pat} {j : Nat} {t : Tr} (h : TT s (.node y) j j t) : ∀ (n : Nat) (mx : Int), TT s (.times n mx y) j j (lapp (List.replicate n t) .lnil)
 | 0, mx => .tend 0 mx y j j (by omega)
 | n + 1, mx => by
  have ih := TT.owed h n (less mx)
  exact .tgo (n + 1) mx y j j j t _ (Or.inr (by omega)) ⟨Nat.le_refl _, Nat.le_refl _, fun h => absurd h (by omega), fun m a b => absurd a (by omega)⟩ h ih
def TreeRes (w : World) (s : ByteArray) (x : Pat) (i j : Nat) (e : Ending) (w' : World) : Prop := ∃ t cs, e = .returned (.agg cs.toArray) ∧ TV w' (fun g => w.heap.size ≤ g) true t cs ∧ TT s (.node x) i j t ∧ Keeps [] w w'
structure MM7 (s : ByteArray) (m : Array Value) : Prop where
 ok : ∃ a b c d e f, m = #[a, b, c, d, .string s, e, f] ∧ a.oneCell' = true ∧ b.oneCell' = true ∧ c.oneCell' = true ∧ d.oneCell' = true ∧ e.oneCell' = true ∧ f.oneCell' = true
def TWays (s : ByteArray) (N n : Nat) : Prop := ∀ (x : Pat), x.sz ≤ n → ∀ (w : World) (S : Nat → Prop) (cs : List Value) (m : Array Value) (i j : Nat), Mk w S s N .ways x cs → MM7 s m → i ≤ j → j ≤ s.size → Mt s x i j → Calls Tryz.prog 38 #[.agg m, .agg cs.toArray, .int .i64 i, .int .i64 j] w (TreeRes w s x i j)
def TWay (s : ByteArray) (N n : Nat) : Prop := ∀ (x : Pat), x.sz ≤ n → ∀ (w : World) (S : Nat → Prop) (cs : List Value) (m : Array Value) (i j : Nat), Mk w S s N .way x cs → MM7 s m → i ≤ j → j ≤ s.size → Mt s x i j → Calls Tryz.prog 73 #[.agg m, .agg cs.toArray, .int .i64 i, .int .i64 j] w (TreeRes w s x i j)
def TPiece (s : ByteArray) (N n : Nat) : Prop := ∀ (x : Pat), x.sz ≤ n → ∀ (w : World) (S : Nat → Prop) (cs : List Value) (m : Array Value) (i j : Nat), Mk w S s N .piece x cs → MM7 s m → i ≤ j → j ≤ s.size → Mt s x i j → Calls Tryz.prog 110 #[.agg m, .agg cs.toArray, .int .i64 i, .int .i64 j] w (TreeRes w s x i j)
def TSingle (s : ByteArray) (N n : Nat) : Prop := ∀ (x : Pat), x.sz ≤ n → ∀ (w : World) (S : Nat → Prop) (cs : List Value) (m : Array Value) (i j : Nat), Mk w S s N .single x cs → MM7 s m → i ≤ j → j ≤ s.size → Mt s x i j → Calls Tryz.prog 130 #[.agg m, .agg cs.toArray, .int .i64 i, .int .i64 j] w (TreeRes w s x i j)
end Go.Proofs.YtnfojonmohijpabGreatDoor
