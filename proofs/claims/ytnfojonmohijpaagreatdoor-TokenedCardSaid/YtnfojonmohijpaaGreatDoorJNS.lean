/-
  DERIVED. What the program's newWays has in its loop; plain lists of ways. No conditions.
-/
import Derived.Test.YtnfojonmohijpaaGreatDoorJNQ
import Derived.Deep.AppendLies
import Derived.Test.YtnfojonmohijpaaGreatDoorJNR
import Derived.Test.YtnfojonmohijpaaGreatDoorJSpec
import Derived.Test.YtnfojonmohijpaaGreatDoorJPW
set_option linter.unusedSimpArgs false
set_option linter.unusedVariables false
namespace Go.Proofs.YtnfojonmohijpaaGreatDoor
open Go.RowKit
theorem wl_len : ∀ (x : Pat), (wl x).length ≤ x.sz
 | .wcons x r => by have := wl_len r; simp only [wl, List.length_cons, Pat.sz]; omega
 | .wone x => by simp only [wl, List.length_cons, List.length_nil, Pat.sz]; omega
 | .set _ => Nat.zero_le _
 | .grp _ _ => Nat.zero_le _
 | .rep _ _ _ => Nat.zero_le _
 | .pnil => Nat.zero_le _
 | .pcons _ _ => Nat.zero_le _
theorem wfair {x : Pat} : ∀ {i : Nat} {y : Pat}, x.fair 9 → (wl x)[i]? = some y → y.fair 9 := by
 induction x with
 | wcons x r _ ih =>
  intro i y h hy
  cases i with
  | zero => simp [wl] at hy; subst hy; exact h.1
  | succ i => exact ih h.2 (by simpa [wl] using hy)
 | wone x _ =>
  intro i y h hy
  cases i with
  | zero => simp [wl] at hy; subst hy; exact h
  | succ i => simp [wl] at hy
 | _ => intro i y _ hy; simp [wl] at hy
theorem Mt.ways {w : World} {S : Nat → Prop} {s : ByteArray} {x : Pat} {vs : List Value} (h : Rep w S .wlist x vs) (a b : Nat) : Mt s x a b ↔ ∃ (j : Nat) (y : Pat), (wl x)[j]? = some y ∧ Mt s y a b := by
 generalize hk : Kr.wlist = kk at h
 induction h with
 | wone x v _ _ =>
  constructor
  ·intro h; exact ⟨0, x, rfl, h⟩
  ·rintro ⟨j, y, hy, h⟩
   cases j with
   | zero => simp [wl] at hy; subst hy; exact h
   | succ j => simp [wl] at hy
 | wcons x r v vs _ _ _ ih =>
  constructor
  ·rintro (h | h)
   ·exact ⟨0, x, rfl, h⟩
   ·obtain ⟨j, y, hy, h⟩ := (ih rfl).1 h
    exact ⟨j + 1, y, by simpa [wl] using hy, h⟩
  ·rintro ⟨j, y, hy, h⟩
   cases j with
   | zero => simp [wl] at hy; subst hy; exact Or.inl h
   | succ j => exact Or.inr ((ih rfl).2 ⟨j, y, by simpa [wl] using hy, h⟩)
 | _ => cases hk
theorem Mk.wlist {w' : World} {S' : Nat → Prop} {s : ByteArray} {N : Nat} {w : World} {S : Nat → Prop} {x : Pat} {vs : List Value} (h : Rep w S .wlist x vs) : ∀ {cs : List Value}, cs.length = (wl x).length * 2 →
    (∀ (j : Nat) (y : Pat), (wl x)[j]? = some y → ∃ a r, cs[j * 2]? = some a ∧ cs[j * 2 + 1]? = some r ∧ Mk w' S' s N .way y [a, r]) → Mk w' S' s N .wlist x cs := by
 generalize hk : Kr.wlist = kk at h
 induction h with
 | wone x v _ _ =>
  intro cs hl hc
  obtain ⟨a, r, h1, h2, h3⟩ := hc 0 x rfl
  match cs, hl, h1, h2 with
  | [c, d], _, h1, h2 =>
   simp at h1 h2
   subst h1 h2
   exact .wone x _ h3
 | wcons x r v vs _ _ _ ih =>
  intro cs hl hc
  obtain ⟨a, b, h1, h2, h3⟩ := hc 0 x rfl
  match cs, hl, h1, h2, hc with
  | c :: d :: ds, hl, h1, h2, hc =>
   simp at h1 h2
   subst h1 h2
   refine .wcons x r [c, d] ds h3 (ih rfl (by simp [wl] at hl ⊢; omega) fun j y hy => ?_)
   obtain ⟨a, b, e1, e2, e3⟩ := hc (j + 1) y (by simpa [wl] using hy)
   refine ⟨a, b, ?_, ?_, e3⟩
   ·rw [show (j + 1) * 2 = j * 2 + 1 + 1 by omega] at e1; simpa using e1
   ·rw [show (j + 1) * 2 + 1 = j * 2 + 1 + 1 + 1 by omega] at e2; simpa using e2
 | _ => cases hk
structure YM (W wr : World) (s : ByteArray) (N : Nat) (x : Pat) (i k gm : Nat) (v : Value) (cs : List Value) (c : Value) : Prop where
 made : wr.heap[gm]? = some (.cells #[v, c] 78 (0, 0))
 own : wr.ownsRow 0 222 2 v i cs
 fresh : ∀ g, v.ownBlock = some g → W.heap.size ≤ g ∧ g ≠ gm
 parts : ∀ (j : Nat) (y : Pat), j < i → (wl x)[j]? = some y → ∃ a r, cs[j * 2]? = some a ∧ cs[j * 2 + 1]? = some r ∧ Mk wr (fun z => W.heap.size ≤ z ∧ z ≠ gm ∧ v.ownBlock ≠ some z) s N .way y [a, r]
 can : MP wr (fun z => W.heap.size ≤ z ∧ z ≠ gm ∧ v.ownBlock ≠ some z) N c (fun a b => ∃ (j : Nat) (y : Pat), j < k ∧ (wl x)[j]? = some y ∧ Mt s y a b)
 keep : Keeps [] W wr
 low : W.heap.size ≤ gm
theorem YM.glt {W wr : World} {s : ByteArray} {N i k gm : Nat} {x : Pat} {v c : Value} {cs : List Value} (h : YM W wr s N x i k gm v cs c) : gm < wr.heap.size := (Array.getElem?_eq_some_iff.1 h.made).1
theorem YM.keeps {W wr w' : World} {s : ByteArray} {N i k gm : Nat} {x : Pat} {v c : Value} {cs : List Value} (h : YM W wr s N x i k gm v cs c) (hk : Keeps [] wr w') : YM W w' s N x i k gm v cs c := by
 refine ⟨(hk.block gm h.glt (by simp)).trans h.made, h.own.keep hk (by simp), h.fresh, fun j y hj hy => ?_, h.can.keep hk (by simp), h.keep.trans hk, h.low⟩
 obtain ⟨a, r, h1, h2, h3⟩ := h.parts j y hj hy
 exact ⟨a, r, h1, h2, h3.keep hk (by simp)⟩
theorem YM.done {W w0 wr : World} {S : Nat → Prop} {s : ByteArray} {N gm i : Nat} {x : Pat} {v c : Value} {vs cs : List Value} (hr : Rep w0 S .wlist x vs) (hi : i = (wl x).length) (h : YM W wr s N x i i gm v cs c) : Mk wr (fun z => W.heap.size ≤ z) s N .ways x [v, c] := by
 subst hi
 have hl : cs.length = (wl x).length * 2 := h.own.1
 refine .ways x cs v c _ (Mk.wlist hr hl fun j y hy => ?_) h.own (fun g hg => (h.fresh g hg).1) ((h.can.mono fun z hz _ => hz.1).congr fun a b _ _ => ?_)
 ·obtain ⟨a, r, h1, h2, h3⟩ := h.parts j y (List.getElem?_eq_some_iff.1 hy).1 hy
  exact ⟨a, r, h1, h2, h3.mono fun z hz _ => hz.1⟩
 ·rw [Mt.ways hr]
  constructor
  ·rintro ⟨j, y, _, h⟩; exact ⟨j, y, h⟩
  ·rintro ⟨j, y, hy, h⟩; exact ⟨j, y, (List.getElem?_eq_some_iff.1 hy).1, hy, h⟩
theorem YM.add {W w0 w2 w4 : World} {s : ByteArray} {N i k gm g' cap : Nat} {x y : Pat} {v c a r : Value} {cs : List Value} (h : YM W w2 s N x i k gm v cs c) (hy : (wl x)[i]? = some y) (hm : Mk w2 (fun z => w0.heap.size ≤ z) s N .way y [a, r]) (hgm : gm < w0.heap.size) (hW : W.heap.size ≤ w0.heap.size) (hv : ∀ g, v.ownBlock = some g → g < w0.heap.size)
    (hown : w4.ownsRow 0 222 2 (.slice (some ⟨g', 0, none⟩) (i + 1) cap) (i + 1) (cs ++ [a, r])) (hgrow : (w2.alloc (.cells #[a, r] 222)).grownBy w4 v.ownBlock) (hat : v.ownBlock = some g' ∨ g' = w2.heap.size + 1) :
    YM W (w4.setCell ⟨gm, 0, none⟩ (.slice (some ⟨g', 0, none⟩) (i + 1) cap)) s N x (i + 1) k gm (.slice (some ⟨g', 0, none⟩) (i + 1) cap) (cs ++ [a, r]) c := by
 have hk4 : Keeps v.ownBlock.toList w2 w4 := ((Keeps.refl v.ownBlock.toList w2).alloc _).trans (Keeps.ofGrown hgrow)
 have hk5 : Keeps [gm] w4 (w4.setCell ⟨gm, 0, none⟩ (.slice (some ⟨g', 0, none⟩) (i + 1) cap)) := (Keeps.refl [gm] w4).setCell (p := ⟨gm, 0, none⟩) (by simp) _
 have hgl := h.glt
 have hgn : gm ∉ v.ownBlock.toList := by
  intro hm
  rw [Option.mem_toList] at hm
  exact (h.fresh gm hm).2 rfl
 have hm4 := (hk4.block gm hgl hgn).trans h.made
 have hg' : W.heap.size ≤ g' ∧ g' ≠ gm := by
  rcases hat with e | e
  ·exact h.fresh g' e
  ·have := h.keep.size; omega
 have hnew : ∀ z, v.ownBlock ≠ some z → z < w2.heap.size → (Value.slice (some ⟨g', 0, none⟩) (i + 1) cap).ownBlock ≠ some z := by
  intro z hz hz2 e
  simp only [Value.ownBlock, Option.some.injEq] at e
  subst e
  rcases hat with e | e
  ·exact hz e
  ·omega
 have hmem : ∀ z, v.ownBlock ≠ some z → z ∉ v.ownBlock.toList := by
  intro z hz hm
  rw [Option.mem_toList] at hm
  exact hz hm
 have hl : cs.length = i * 2 := h.own.1
 refine ⟨?_, hown.keep hk5 ?_, ?_, ?_, ?_, ?_, h.low⟩
 ·simp [World.setCell, Array.getElem?_modify, hm4]
 ·intro z hz
  simp only [Value.ownBlock, Option.some.injEq] at hz
  subst hz
  simp
  exact hg'.2
 ·intro z hz
  simp only [Value.ownBlock, Option.some.injEq] at hz
  subst hz
  exact hg'
 ·intro j z hj hz
  by_cases e : j < i
  ·obtain ⟨a', r', h1, h2, h3⟩ := h.parts j z e hz
   refine ⟨a', r', by rw [List.getElem?_append_left (by omega)]; exact h1, by rw [List.getElem?_append_left (by omega)]; exact h2, ?_⟩
   refine (((h3.mono (S' := fun q => (W.heap.size ≤ q ∧ q ≠ gm ∧ v.ownBlock ≠ some q) ∧ q < w2.heap.size) fun q hq hq2 => ⟨hq, hq2⟩).keep hk4 fun q hq => hmem q hq.1.2.2).keep hk5 fun q hq => by simp; exact hq.1.2.1).mono fun q hq _ => ⟨hq.1.1, hq.1.2.1, hnew q hq.1.2.2 hq.2⟩
  ·have : j = i := by omega
   subst this
   rw [hy] at hz
   cases hz
   refine ⟨a, r, by rw [List.getElem?_append_right (by omega), hl]; simp, by rw [List.getElem?_append_right (by omega), hl, show j * 2 + 1 - j * 2 = 1 by omega]; rfl, ?_⟩
   have hno : ∀ q, w0.heap.size ≤ q → v.ownBlock ≠ some q := by
    intro q hq e
    have := hv q e
    omega
   refine (((hm.mono (S' := fun q => w0.heap.size ≤ q ∧ q < w2.heap.size) fun q hq hq2 => ⟨hq, hq2⟩).keep hk4 fun q hq => hmem q (hno q hq.1)).keep hk5 fun q hq => by simp; omega).mono fun q hq _ => ⟨by omega, by omega, hnew q (hno q hq.1) hq.2⟩
 ·exact (((h.can.mono (S' := fun q => (W.heap.size ≤ q ∧ q ≠ gm ∧ v.ownBlock ≠ some q) ∧ q < w2.heap.size) fun q hq hq2 => ⟨hq, hq2⟩).keep hk4 fun q hq => hmem q hq.1.2.2).keep hk5 fun q hq => by simp; exact hq.1.2.1).mono fun q hq _ => ⟨hq.1.1, hq.1.2.1, hnew q hq.1.2.2 hq.2⟩
 ·exact keepsM (keepsM h.keep hk4 (by intro z hz; rw [Option.mem_toList] at hz; exact Or.inr (h.fresh z hz).1)) hk5 (by intro z hz; simp at hz; subst hz; exact Or.inr h.low)
theorem YM.or {W w6 : World} {S : Nat → Prop} {s : ByteArray} {N i k gm : Nat} {x y : Pat} {v c c' : Value} {cs : List Value} (h : YM W w6 s N x i k gm v cs c) (hy : (wl x)[k]? = some y) (hm : MP w6 S N c' (fun a b => (∃ (j : Nat) (y : Pat), j < k ∧ (wl x)[j]? = some y ∧ Mt s y a b) ∨ Mt s y a b))
    (hS : ∀ z, S z → W.heap.size ≤ z ∧ z ≠ gm ∧ v.ownBlock ≠ some z) : YM W (w6.setCell ⟨gm, 1, none⟩ c') s N x i (k + 1) gm v cs c' := by
 have hk : Keeps [gm] w6 (w6.setCell ⟨gm, 1, none⟩ c') := (Keeps.refl [gm] w6).setCell (p := ⟨gm, 1, none⟩) (by simp) _
 have hmd := h.made
 refine ⟨?_, h.own.keep hk ?_, h.fresh, ?_, ?_, keepsM h.keep hk (by intro z hz; simp at hz; subst hz; exact Or.inr h.low), h.low⟩
 ·simp [World.setCell, Array.getElem?_modify, hmd]
 ·intro z hz; simp; exact (h.fresh z hz).2
 ·intro j z hj hz
  obtain ⟨a', r', h1, h2, h3⟩ := h.parts j z hj hz
  exact ⟨a', r', h1, h2, h3.keep hk fun q hq => by simp; exact hq.2.1⟩
 ·refine (((hm.mono (S' := fun z => W.heap.size ≤ z ∧ z ≠ gm ∧ v.ownBlock ≠ some z) fun z hz _ => hS z hz).keep hk fun q hq => by simp; exact hq.2.1)).congr fun a b _ _ => ?_
  constructor
  ·rintro (⟨j, z, h1, h2, h3⟩ | h3)
   ·exact ⟨j, z, by omega, h2, h3⟩
   ·exact ⟨k, y, by omega, hy, h3⟩
  ·rintro ⟨j, z, h1, h2, h3⟩
   by_cases e : j < k
   ·exact Or.inl ⟨j, z, e, h2, h3⟩
   ·have : j = k := by omega
    subst this
    rw [hy] at h2
    cases h2
    exact Or.inr h3
end Go.Proofs.YtnfojonmohijpaaGreatDoor
namespace Go.Proofs.YtnfojonmohijpaaGreatDoor
open Go.RowKit
theorem infoWyZ : (Tryz.prog.info? 222).map (fun i => (i.zero, i.size, i.bytes)) = some (some (.agg #[.slice none 0 0, .slice none 0 0]), 2, 48) := by kernel_rfl
theorem YM.start {W w1 : World} {s : ByteArray} {N : Nat} {x : Pat} {c : Value} (hM : MP w1 (fun g => W.heap.size ≤ g) N c (fun _ _ => False)) (hk1 : Keeps [] W w1) :
    YM W ((w1.alloc (.cells #[.slice none 0 0, .slice none 0 0] 78)).setRow w1.heap.size #[.slice none 0 0, c]) s N x 0 0 w1.heap.size (.slice none 0 0) [] c := by
 have hq0 : (w1.alloc (.cells #[.slice none 0 0, .slice none 0 0] 78)).heap[w1.heap.size]? = some (.cells #[.slice none 0 0, .slice none 0 0] 78 (0, 0)) := heap_alloc_new w1 _
 have hk2 : Keeps [] w1 ((w1.alloc (.cells #[.slice none 0 0, .slice none 0 0] 78)).setRow w1.heap.size #[.slice none 0 0, c]) := ((Keeps.refl [] w1).alloc _).setRow (Or.inr (Nat.le_refl _)) _
 refine ⟨setRow_heap _ _ _ _ _ _ hq0, World.ownsRow_nil _ _ _ _, by simp [Value.ownBlock], fun j y hj => by omega, ?_, hk1.trans hk2, hk1.size⟩
 exact ((hM.mono (S' := fun z => W.heap.size ≤ z ∧ z ≠ w1.heap.size ∧ (Value.slice none 0 0).ownBlock ≠ some z) fun z hz hz2 => ⟨hz, by omega, by simp [Value.ownBlock]⟩).keep hk2 (by simp)).congr fun a b _ _ => by
  constructor
  ·intro h; exact h.elim
  ·rintro ⟨j, y, h, _⟩; omega
theorem waysCells {w : World} {g : Nat} {a b : Value} (h : w.heap[g]? = some (.cells #[a, b] 78 (0, 0))) : w.cell? ⟨g, 0, none⟩ = some a ∧ w.cell? ⟨g, 1, none⟩ = some b ∧ w.frozen? ⟨g, 0, none⟩ = false ∧ w.frozen? ⟨g, 1, none⟩ = false := by
 refine ⟨?_, ?_, ?_, ?_⟩
 ·rw [Lib.cell_of_heap h]; rfl
 ·rw [Lib.cell_of_heap h]; rfl
 ·simp [World.frozen?, h]
 ·simp [World.frozen?, h]
theorem Mk.way_form {w : World} {S : Nat → Prop} {s : ByteArray} {N : Nat} {y : Pat} {a r : Value} (h : Mk w S s N .way y [a, r]) : IsSl a ∧ ∃ M, RR w S N (M + 1) r (fun d => Mt s (pdrop d y)) := by
 cases h with
 | way _ _ _ _ n _ ho _ hr => exact ⟨ownsRow_sl ho, n, hr⟩
set_option maxRecDepth 100000 in
set_option maxHeartbeats 4000000 in
theorem newWays_any (s : ByteArray) (N : Nat) (HN : Hid (N = s.size + 1)) (hs : s.size ≤ 100) (k : Nat) (hk9 : k + 1 ≤ 1000) (IW : WayN s N k) : WaysN s N (k + 1) := by
 intro x hx hfair w S v hrep
 cases hrep with
 | ways _ vs _ n hr hown _ =>
 obtain ⟨va, vn, vc, rfl⟩ := ownsRow_sl hown
 have hvn : vn = n := by
  rcases hown.2 with ⟨e, e2⟩ | ⟨g, cap, cur, e, _⟩
  ·cases e; exact e2.symm
  ·cases e; rfl
 subst hvn
 have HWL : Hid (vn = (wl x).length) := by
  have h1 := hown.1
  have h2 := hr.wl_text.2.1
  show vn = (wl x).length
  omega
 have hvm : (vn : Int) ≤ 1000 := by have := HWL.out; have := wl_len x; omega
 have hz0 : (w.alloc (.cells #[.slice none 0 0, .slice none 0 0] 78)).heap[w.heap.size]? = some (.cells #[.slice none 0 0, .slice none 0 0] 78 (0, 0)) := heap_alloc_new w _
 have hk0 : Keeps [] w (w.alloc (.cells #[.slice none 0 0, .slice none 0 0] 78)) := (Keeps.refl [] w).alloc _
 go_enter Tryz.func72, Tryz.ntmps72
 go_upto_region 1 with (fail)
 generalize (w.alloc (.cells #[.slice none 0 0, .slice none 0 0] 78)) = W at *
 obtain ⟨g1, hg1⟩ : ∃ g1, g1 = w.heap.size := ⟨_, rfl⟩
 rw [← hg1] at hz0 ⊢
 have hg1W : g1 < W.heap.size := (Array.getElem?_eq_some_iff.1 hz0).1
 have hg1w : w.heap.size ≤ g1 := by omega
 clear hg1
 go_wp2_with fail
 refine (none_mp s.size N HN hs W).mono ?_
 rintro e w1 ⟨c0, rfl, hM0, hk1⟩
 obtain ⟨gc, cc, rfl⟩ := hM0.slice
 have Y0 := YM.start (s := s) (x := x) hM0 hk1
 have hq0 : (w1.alloc (.cells #[.slice none 0 0, .slice none 0 0] 78)).heap[w1.heap.size]? = some (.cells #[.slice none 0 0, .slice none 0 0] 78 (0, 0)) := heap_alloc_new w1 _
 go_wp2_with (first | (refine wpList_store_row rfl 78 _ _ rfl w1.heap.size #[.slice none 0 0, .slice (some ⟨gc, 0, none⟩) N cc] rfl rfl _ _ hq0 (info2w _ _) rfl (all2 rfl rfl) ?_; generalize (w1.alloc (.cells #[.slice none 0 0, .slice none 0 0] 78)).setRow w1.heap.size #[.slice none 0 0, .slice (some ⟨gc, 0, none⟩) N cc] = w2 at *; clear hq0))
 obtain ⟨gm, hgm⟩ : ∃ gm, gm = w1.heap.size := ⟨_, rfl⟩
 rw [← hgm] at Y0 ⊢
 clear hgm hM0 hk1
 go_loopw [7, 8, 15] (fun _ _ q wr => ∃ (i : Nat) (v : Value) (cs : List Value) (c : Value), i ≤ vn ∧ q = .int .i64 i ∧ YM W wr s N x i i gm v cs c) (fun _ _ q _ => vn - (intOf q).toNat)
 case atStart => exact ⟨0, _, _, _, Nat.zero_le _, rfl, Y0⟩
 case round =>
  clear Y0
  obtain ⟨i, v, cs, c, hi, rfl, Y⟩ := hrel
  have hw0 := hk0.size
  obtain ⟨gc', cc', rfl⟩ := Y.can.slice
  obtain ⟨xa, xn, xc, rfl⟩ := ownsRow_sl Y.own
  by_cases hlt : i < vn
  ·obtain ⟨y, hy⟩ : ∃ y, (wl x)[i]? = some y := ⟨_, List.getElem?_eq_getElem (by have := HWL.out; omega)⟩
   obtain ⟨u, hu, hry, hysz⟩ := hr.wl_text.2.2 i y hy
   have hyf := wfair hfair hy
   obtain ⟨gv, vc', hv, _, hgv⟩ := hown.form (by omega)
   cases hv
   have hgvl : gv < w.heap.size := hgv
   have hkw : Keeps [] w wr := hk0.trans Y.keep
   have hcu : wr.cell? ⟨gv, i, none⟩ = some u := (World.cell?_of_block (hkw.block gv hgvl (by simp))).trans ((World.ownsRow.cellAt hown i (by omega)).trans hu)
   have hrX : Rep wr S .way y [u] := hry.keep hkw (by simp)
   have hi0 : (0 : Int) ≤ (i : Int) := by omega
   have hin : (i : Int) < (vn : Int) := by omega
   have HI : Hid (i < vn) := hlt
   obtain ⟨ua, un, uc, rfl⟩ : IsSl u := by
    cases hrX with
    | way _ _ _ _ _ ho _ => exact ownsRow_sl ho
   clear hi hlt hu
   go_wp2_with fail
   refine (IW y (by omega) hyf wr S _ hrX).mono ?_
   rintro e w3 ⟨ds, rfl, hm, hk3⟩
   obtain ⟨hone, a, r, rfl⟩ := id hm.form
   obtain ⟨hsa, Mr, hRR⟩ := hm.way_form
   obtain ⟨aa, an, ac, rfl⟩ := hsa
   obtain ⟨gr, cr, ur, rfl, hgr, hSr, hcr, hur⟩ := hRR.at (d := 0) (by omega)
   obtain ⟨gu, cu, rfl⟩ := hur.slice
   obtain ⟨M, HM⟩ : ∃ M, Hid (M = Mr + 1) := ⟨_, rfl⟩
   have hMM := HM.out
   rw [← hMM] at hm ⊢
   have hM0 : (0 : Int) < (M : Int) := by omega
   clear hMM hRR
   have hq0 : (w3.alloc (.cells #[.slice none 0 0, .slice none 0 0] 222)).heap[w3.heap.size]? = some (.cells #[.slice none 0 0, .slice none 0 0] 222 (0, 0)) := heap_alloc_new w3 _
   have hk4 : Keeps [] w3 ((w3.alloc (.cells #[.slice none 0 0, .slice none 0 0] 222)).setRow w3.heap.size #[.slice aa an ac, .slice (some ⟨gr, 0, none⟩) M cr]) := ((Keeps.refl [] w3).alloc _).setRow (Or.inr (Nat.le_refl _)) _
   have hq1 : ((w3.alloc (.cells #[.slice none 0 0, .slice none 0 0] 222)).setRow w3.heap.size #[.slice aa an ac, .slice (some ⟨gr, 0, none⟩) M cr]).heap[w3.heap.size]? = some (.cells #[.slice aa an ac, .slice (some ⟨gr, 0, none⟩) M cr] 222 (0, 0)) := setRow_heap _ _ _ _ _ _ hq0
   have hm4 := hm.keep hk4 (by simp)
   have hur4 := hur.keep hk4 (by simp)
   have hcr4 := (World.cell?_of_block (hk4.block gr hgr (by simp))).trans hcr
   have Y4 := Y.keeps (hk3.trans hk4)
   have hvl : ∀ g, (Value.slice xa xn xc).ownBlock = some g → g < wr.heap.size := fun g hg => (World.ownsRow.lt Y.own g hg).2
   have hgmr := Y.glt
   have hWr := Y.keep.size
   have hwr3 := hk3.size
   clear hcr hur hm hcu hrX
   go_upto_region 6 with (first | (refine wpList_store_row rfl 222 _ _ rfl w3.heap.size #[.slice aa an ac, .slice (some ⟨gr, 0, none⟩) M cr] rfl rfl _ _ hq0 (infoWy _ _) rfl (all2 rfl rfl) ?_; generalize (w3.alloc (.cells #[.slice none 0 0, .slice none 0 0] 222)).setRow w3.heap.size #[.slice aa an ac, .slice (some ⟨gr, 0, none⟩) M cr] = w4 at *))
   obtain ⟨gw, hgw⟩ : ∃ gw, gw = w3.heap.size := ⟨_, rfl⟩
   rw [← hgw] at hq1 ⊢
   have hgwr : wr.heap.size ≤ gw := by omega
   have hgw4 : gw < w4.heap.size := (Array.getElem?_eq_some_iff.1 hq1).1
   clear hgw hq0 hk4 hk3
   obtain ⟨b0, b1⟩ := wayCells hq1
   obtain ⟨d0, d1, z0, z1⟩ := waysCells Y4.made
   obtain ⟨i0, hi0, hy0, hy1, hy2⟩ := info_parts infoWyZ
   have hun := Tryz.underlying74
   have hlm : i + 1 ≤ maxLen := by unfold maxLen; have := HI.out; omega
   have hH : (w4.alloc (.cells #[.slice aa an ac, .slice (some ⟨gr, 0, none⟩) M cr] 222)).heap.size = w4.heap.size + 1 := by simp
   have hnews : ∀ j u, [Value.slice aa an ac, .slice (some ⟨gr, 0, none⟩) M cr][j]? = some u → (w4.alloc (.cells #[.slice aa an ac, .slice (some ⟨gr, 0, none⟩) M cr] 222)).cell? ((⟨w4.heap.size, 0, none⟩ : Addr).add j) = some u := World.news_of_block (cs := #[.slice aa an ac, .slice (some ⟨gr, 0, none⟩) M cr]) (heap_alloc_new w4 _)
   go_wp2_with (first | (at_builtin; refine wpList_append_lies _ rfl _ _ _ rfl 0 222 i0 _ 2 48 hun hi0 hy0 hy1 hy2 rfl (by decide) (.slice xa xn xc) i cs rfl (Y4.own.alloc _) ⟨w4.heap.size, 0, none⟩ 1 1 [.slice aa an ac, .slice (some ⟨gr, 0, none⟩) M cr] rfl rfl hnews (by intro u hu; simp at hu; rcases hu with rfl | rfl <;> rfl) (by omega) hlm (by have := HI.out; omega) (Nat.zero_le _) (w4.heap.size + 1) hH ?_))
   intro g' cap w5 hown5 hgrow hat hlt5
   have hv5 : Keeps (Value.slice xa xn xc).ownBlock.toList w4 w5 := ((Keeps.refl _ w4).alloc _).trans (Keeps.ofGrown hgrow)
   have hnv : ∀ z, wr.heap.size ≤ z → z ∉ (Value.slice xa xn xc).ownBlock.toList := by
    intro z hz hm
    rw [Option.mem_toList] at hm
    have := hvl z hm
    omega
   have hgmn : gm ∉ (Value.slice xa xn xc).ownBlock.toList := by
    intro hm
    rw [Option.mem_toList] at hm
    exact (Y4.fresh gm hm).2 rfl
   have hmd5 := (hv5.block gm Y4.glt hgmn).trans Y4.made
   obtain ⟨e0, e1, f0, f1⟩ := waysCells hmd5
   have Y6 := Y4.add (w0 := wr) hy hm4 hgmr hWr hvl hown5 hgrow hat
   have hk56 : Keeps [gm] w5 (w5.setCell ⟨gm, 0, none⟩ (.slice (some ⟨g', 0, none⟩) (i + 1) cap)) := (Keeps.refl [gm] w5).setCell (p := ⟨gm, 0, none⟩) (by simp) _
   have hq6 := (hk56.block gw (by have := hv5.size; omega) (by simp; omega)).trans ((hv5.block gw hgw4 (hnv gw hgwr)).trans hq1)
   have hgrl : gr < w4.heap.size := World.block_lt_of_cell? _ _ hcr4
   have hcr6 := (World.cell?_of_block (hk56.block gr (by have := hv5.size; omega) (by simp; omega))).trans ((World.cell?_of_block (hv5.block gr hgrl (hnv gr hSr))).trans hcr4)
   have hur6 := (hur4.keep hv5 (by intro z hz; exact hnv z hz)).keep hk56 (by intro z hz; simp; omega)
   clear hown5 hgrow hv5 hnews hH hcr4 hur4 hq1 b0 b1 d0 d1 z0 z1 hm4 Y4
   go_wp2_with fail
   generalize w5.setCell ⟨gm, 0, none⟩ (.slice (some ⟨g', 0, none⟩) (i + 1) cap) = w6 at *
   clear e0 e1 f0 f1 hmd5 hk56
   obtain ⟨b0, b1⟩ := wayCells hq6
   obtain ⟨d0, d1, z0, z1⟩ := waysCells Y6.made
   have hkD : Keeps [] w6 w6.drew := (Keeps.refl [] w6).drewN 1
   have hC := or_mp N (by have := HN.out; omega) w6.drew (Y6.can.keep hkD (by simp)) (hur6.keep hkD (by simp))
   go_region_with (first | (go_at_call 126; refine hC.mono ?_; rintro e w7 ⟨vo, rfl, hO, hk7⟩; obtain ⟨go, co, rfl⟩ := hO.slice; obtain ⟨d07, d17, z07, z17⟩ := waysCells (Y6.keeps (hkD.trans hk7)).made))
   all_goals
    have hg6 : g' < w6.heap.size := (World.ownsRow.lt Y6.own g' rfl).2
    have hgm6 := Y6.glt
    have hW6 := Y6.keep.size
    have Y8 := (Y6.keeps (hkD.trans hk7)).or hy hO (by
      intro z hz
      have hz' : w6.heap.size ≤ z := hz
      refine ⟨by omega, by omega, ?_⟩
      simp only [Value.ownBlock, ne_eq, Option.some.injEq]
      omega)
    clear Y6 hO hk7 hC hur6
    go_wp2_with fail
    go_roundw
    case rel => exact ⟨i + 1, _, _, _, HI.out, by go_num, Y8⟩
    case measure => have := HI.out; simp [intOf]; omega
  ·have he : i = vn := by omega
   have hni : ¬ (i : Int) < (vn : Int) := by omega
   have hr1 : wr.heap[g1]? = some (.cells #[.slice none 0 0, .slice none 0 0] 78 (0, 0)) := (Y.keep.block g1 hg1W (by simp)).trans hz0
   have hmk := Y.done hr (by have := HWL.out; omega)
   have hmd := Y.made
   have hkS : Keeps [g1] wr (wr.setRow g1 #[.slice xa xn xc, .slice (some ⟨gc', 0, none⟩) N cc']) := (Keeps.refl [g1] wr).setRow (g := g1) (by simp) _
   have hmk2 := (hmk.keep hkS (by intro z hz; simp; omega)).mono (S' := fun z => w.heap.size ≤ z) fun z hz _ => by omega
   have hkE : Keeps [] w (wr.setRow g1 #[.slice xa xn xc, .slice (some ⟨gc', 0, none⟩) N cc']) := (hk0.trans Y.keep).setRow (Or.inr hg1w) _
   clear hmk Y he hi hlt
   go_wp2_with (first | (refine wpList_load_row rfl 78 _ rfl gm rfl _ _ _ _ hmd Tryz.underlying78 rfl (info2w _ _) ?_) | (refine wpList_store_row rfl 78 _ _ rfl g1 #[.slice xa xn xc, .slice (some ⟨gc', 0, none⟩) N cc'] rfl rfl _ _ hr1 (info2w _ _) rfl (all2 rfl rfl) ?_))
   refine bodyPost_ret (results_cell_row rfl _ _ g1 _ _ _ _ rfl (setRow_heap _ _ _ _ _ _ hr1) Tryz.underlying78 rfl (info2w _ _)) rfl ?_
   exact ⟨[.slice xa xn xc, .slice (some ⟨gc', 0, none⟩) N cc'], rfl, hmk2, hkE⟩
end Go.Proofs.YtnfojonmohijpaaGreatDoor
namespace Go.Proofs.YtnfojonmohijpaaGreatDoor
open Go.RowKit
theorem news (s : ByteArray) (N : Nat) (HN : Hid (N = s.size + 1)) (hs : s.size ≤ 100) : ∀ n, n ≤ 1000 → WaysN s N n ∧ WayN s N n ∧ PieceN s N n ∧ SingleN s N n
 | 0, _ => ⟨fun x hx => by have := sz_pos x; omega, fun x hx => by have := sz_pos x; omega, fun x hx => by have := sz_pos x; omega, fun x hx => by have := sz_pos x; omega⟩
 | n + 1, h => by
  obtain ⟨i1, i2, i3, i4⟩ := news s N HN hs n (by omega)
  have h4 := newSingle_any s N HN hs n i1
  exact ⟨newWays_any s N HN hs n h i2, newWay_any s N HN hs n h i3, newPiece_any s N HN hs (n + 1) h4, h4⟩
theorem info7 (a b c d e f g : Value) : (Tryz.prog.info? 80).map (·.size) = some (#[a, b, c, d, e, f, g] : Array Value).size := by kernel_rfl
theorem all7 {a b c d e f g : Value} (ha : a.oneCell' = true) (hb : b.oneCell' = true) (hc : c.oneCell' = true) (hd : d.oneCell' = true) (he : e.oneCell' = true) (hf : f.oneCell' = true) (hg : g.oneCell' = true) :
    (#[a, b, c, d, e, f, g] : Array Value).all (·.oneCell') = true := by simp [ha, hb, hc, hd, he, hf, hg]
theorem patCells {w : World} {g : Nat} {a b c d : Value} (h : w.heap[g]? = some (.cells #[a, b, c, d] 70 (0, 0))) : w.cell? ⟨g, 0, none⟩ = some a ∧ w.cell? ⟨g, 1, none⟩ = some b ∧ w.cell? ⟨g, 2, none⟩ = some c ∧ w.cell? ⟨g, 3, none⟩ = some d := by
 refine ⟨?_, ?_, ?_, ?_⟩ <;> (rw [Lib.cell_of_heap h]; rfl)
def mat (W : Whole) (v : Value) (s : ByteArray) (a c : Value) : Array Value := #[.bool W.bg, .bool W.en, v, .int .i64 (W.g : Int), .string s, a, c]
set_option maxRecDepth 100000 in
set_option maxHeartbeats 2000000 in
theorem matNew_any (s : ByteArray) (N : Nat) (HN : Hid (N = s.size + 1)) (hs : s.size ≤ 100) (W : Whole) (v : Value) (S : Nat → Prop) (w : World) (hrep : Rep w S .ways W.x [v]) (hsz : W.x.sz ≤ 1000) (hfair : W.x.fair 9) :
    Calls Tryz.prog 39 #[.agg #[.bool W.bg, .bool W.en, v, .int .i64 (W.g : Int)], .string s] w fun e w' => ∃ a c, e = .returned (.agg (mat W v s a c)) ∧ Mk w' (fun g => w.heap.size ≤ g) s N .ways W.x [a, c] ∧ Keeps [] w w' := by
 unfold mat
 obtain ⟨va, vn, vc, rfl⟩ : IsSl v := by
  cases hrep with
  | ways _ _ _ _ _ ho _ => exact ownsRow_sl ho
 have hz0 : ((w.alloc (.cells #[.bool W.bg, .bool W.en, .slice va vn vc, .int .i64 (W.g : Int)] 70)).alloc (.cells #[.bool false, .bool false, .slice none 0 0, .int .i64 0, .string ⟨#[]⟩, .slice none 0 0, .slice none 0 0] 80)).heap[w.heap.size]? = some (.cells #[.bool W.bg, .bool W.en, .slice va vn vc, .int .i64 (W.g : Int)] 70 (0, 0)) := heap_alloc2_old w _ _
 have hr0 : ((w.alloc (.cells #[.bool W.bg, .bool W.en, .slice va vn vc, .int .i64 (W.g : Int)] 70)).alloc (.cells #[.bool false, .bool false, .slice none 0 0, .int .i64 0, .string ⟨#[]⟩, .slice none 0 0, .slice none 0 0] 80)).heap[w.heap.size + 1]? = some (.cells #[.bool false, .bool false, .slice none 0 0, .int .i64 0, .string ⟨#[]⟩, .slice none 0 0, .slice none 0 0] 80 (0, 0)) := heap_alloc2_new w _ _
 have hk0 : Keeps [] w ((w.alloc (.cells #[.bool W.bg, .bool W.en, .slice va vn vc, .int .i64 (W.g : Int)] 70)).alloc (.cells #[.bool false, .bool false, .slice none 0 0, .int .i64 0, .string ⟨#[]⟩, .slice none 0 0, .slice none 0 0] 80)) := ((Keeps.refl [] w).alloc _).alloc _
 go_enter Tryz.func39, Tryz.ntmps39
 go_upto_region 1 with (fail)
 generalize ((w.alloc (.cells #[.bool W.bg, .bool W.en, .slice va vn vc, .int .i64 (W.g : Int)] 70)).alloc (.cells #[.bool false, .bool false, .slice none 0 0, .int .i64 0, .string ⟨#[]⟩, .slice none 0 0, .slice none 0 0] 80)) = X at *
 obtain ⟨g0, hg0⟩ : ∃ g0, g0 = w.heap.size := ⟨_, rfl⟩
 obtain ⟨g1, hg1⟩ : ∃ g1, g1 = w.heap.size + 1 := ⟨_, rfl⟩
 rw [← hg1] at hr0 ⊢
 rw [← hg0] at hz0 ⊢
 have hg0X : g0 < X.heap.size := (Array.getElem?_eq_some_iff.1 hz0).1
 have hg1X : g1 < X.heap.size := (Array.getElem?_eq_some_iff.1 hr0).1
 have hg1w : w.heap.size ≤ g1 := by omega
 have hw0 := hk0.size
 have hg01 : g0 ≠ g1 := by omega
 clear hg0 hg1
 have hkD : Keeps [] X X.drew := (Keeps.refl [] X).drewN 1
 have hC := (news s N HN hs 1000 (Nat.le_refl _)).1 W.x hsz hfair X.drew S _ (hrep.keep (hk0.trans hkD) (by simp))
 have hS0 : X.drew.heap[g0]? = some (.cells #[.bool W.bg, .bool W.en, .slice va vn vc, .int .i64 (W.g : Int)] 70 (0, 0)) := hz0
 refine wp_region_held (S := fun X' => X'.heap[g0]? = some (.cells #[.bool W.bg, .bool W.en, .slice va vn vc, .int .i64 (W.g : Int)] 70 (0, 0))) (by kernel_rfl) ?_
 change wpAnyH _ _ _ _ _ _ _ _ (World.drew _)
 generalize X.drew = X0 at *
 refine wpAnyH_tk 0 _ (some 5) (.agg #[.bool W.bg, .bool W.en, .slice va vn vc, .int .i64 (W.g : Int)]) rfl rfl (by kernel_rfl) (by kernel_rfl) (by kernel_rfl) (fun _ _ _ h => h) (Or.inl ⟨by rfl, fun X hX => by (obtain ⟨q0, q1, q2, q3⟩ := patCells hX; go_simp)⟩) hS0 ?_
 simp only [Act.put, List.setIfInBounds_toArray, List.set_cons_zero, List.set_cons_succ]
 refine wpAnyH_tk 1 _ (some 6) (.string s) rfl rfl (by kernel_rfl) (by kernel_rfl) (by kernel_rfl) (fun _ _ _ h => h) (Or.inl ⟨by rfl, fun X hX => by go_simp⟩) hS0 ?_
 simp only [Act.put, List.setIfInBounds_toArray, List.set_cons_zero, List.set_cons_succ]
 refine wpAnyH_tk 2 _ (some 7) (.pointer (some ⟨g0, 2, none⟩)) rfl rfl (by kernel_rfl) (by kernel_rfl) (by kernel_rfl) (fun _ _ _ h => h) (Or.inl ⟨by rfl, fun X hX => by go_simp⟩) hS0 ?_
 simp only [Act.put, List.setIfInBounds_toArray, List.set_cons_zero, List.set_cons_succ]
 refine wpAnyH_tk 3 _ (some 8) (.slice va vn vc) rfl rfl (by kernel_rfl) (by kernel_rfl) (by kernel_rfl) (fun _ _ _ h => h) (Or.inl ⟨by rfl, fun X hX => by (obtain ⟨q0, q1, q2, q3⟩ := patCells hX; go_simp)⟩) hS0 ?_
 simp only [Act.put, List.setIfInBounds_toArray, List.set_cons_zero, List.set_cons_succ]
 refine wpAnyH_tk 4 _ (some 9) (.string s) rfl rfl (by kernel_rfl) (by kernel_rfl) (by kernel_rfl) (fun _ _ _ h => h) (Or.inl ⟨by rfl, fun X hX => by go_simp⟩) hS0 ?_
 simp only [Act.put, List.setIfInBounds_toArray, List.set_cons_zero, List.set_cons_succ]
 refine wpAnyH_ready (rs := [5]) (by kernel_rfl) (by simp) ?_
 refine AllReadyH.cons rfl (fun K hK => ?_) AllReadyH.nil
 go_simp
 refine hC.mono ?_
 rintro e w1 ⟨cs, rfl, hm, hk1⟩
 obtain ⟨hone, a, c, rfl, hmp⟩ := id hm.form
 have hkA := hkD.trans hk1
 have hS1 := (hkA.block g0 hg0X (by simp)).trans hz0
 have hr1 := (hkA.block g1 hg1X (by simp)).trans hr0
 refine hK.out _ _ hS1 (fun _ => ?_)
 clear hK K
 refine wpAnyH_tk 6 _ (some 11) (.agg #[.bool W.bg, .bool W.en, .slice va vn vc, .int .i64 (W.g : Int), .string s, a, c]) rfl rfl (by kernel_rfl) (by kernel_rfl) (by kernel_rfl) (fun _ _ _ h => h) (Or.inl ⟨by rfl, fun X hX => by go_simp⟩) hS1 ?_
 simp only [Act.put, List.setIfInBounds_toArray, List.set_cons_zero, List.set_cons_succ]
 refine wpAnyH_ready (rs := [7]) (by kernel_rfl) (by simp) ?_
 refine AllReadyH.cons rfl (fun K hK => ?_) AllReadyH.nil
 rw [if_pos (by rfl)]
 have hkS : Keeps [g1] w1 (w1.setRow g1 #[.bool W.bg, .bool W.en, .slice va vn vc, .int .i64 (W.g : Int), .string s, a, c]) := (Keeps.refl [g1] w1).setRow (g := g1) (by simp) _
 have hXD := hkD.size
 have hS2 := (hkS.block g0 (by have := hkA.size; omega) (by simp; exact hg01)).trans hS1
 refine wp_store_row 80 _ _ rfl g1 #[.bool W.bg, .bool W.en, .slice va vn vc, .int .i64 (W.g : Int), .string s, a, c] rfl rfl _ _ hr1 (info7 _ _ _ _ _ _ _) rfl (all7 rfl rfl rfl rfl rfl (hone _ (by simp)) (hone _ (by simp))) (hK.out _ _ hS2 (fun _ => ?_))
 refine wpAnyH_done (by kernel_rfl) ?_ _
 have hend := (hm.keep hkS (by intro z hz; simp; omega)).mono (S' := fun g => w.heap.size ≤ g) fun z hz _ => by omega
 have hkE : Keeps [] w (w1.setRow g1 #[.bool W.bg, .bool W.en, .slice va vn vc, .int .i64 (W.g : Int), .string s, a, c]) := (hk0.trans hkA).setRow (Or.inr hg1w) _
 go_wp2_with fail
 refine bodyPost_ret (results_cell_row rfl _ _ g1 _ _ _ _ rfl (setRow_heap _ _ _ _ _ _ hr1) Tryz.underlying80 rfl (info7 _ _ _ _ _ _ _)) rfl ?_
 exact ⟨a, c, rfl, hend, hkE⟩
set_option maxRecDepth 100000 in
set_option maxHeartbeats 2000000 in
theorem canM_any (s : ByteArray) (N : Nat) (HN : Hid (N = s.size + 1)) (hs : s.size ≤ 100) (W : Whole) (v a c : Value) (S : Nat → Prop) (w : World) (hm : Mk w S s N .ways W.x [a, c]) (i j : Nat) (hi : i ≤ s.size) (hj : j ≤ s.size) :
    Calls Tryz.prog 40 #[.agg (mat W v s a c), .int .i64 i, .int .i64 j] w fun e w' => ∃ b, e = .returned (.bool b) ∧ (b = true ↔ Mt s W.x i j) ∧ Keeps [] w w' := by
 unfold mat
 obtain ⟨hone, a', c', e, hmp⟩ := hm.form
 simp only [List.cons.injEq, and_true] at e
 obtain ⟨rfl, rfl⟩ := e
 have hz0 : (w.alloc (.cells #[.bool W.bg, .bool W.en, v, .int .i64 (W.g : Int), .string s, a, c] 80)).heap[w.heap.size]? = some (.cells #[.bool W.bg, .bool W.en, v, .int .i64 (W.g : Int), .string s, a, c] 80 (0, 0)) := heap_alloc_new w _
 have hk0 : Keeps [] w (w.alloc (.cells #[.bool W.bg, .bool W.en, v, .int .i64 (W.g : Int), .string s, a, c] 80)) := (Keeps.refl [] w).alloc _
 have c6 : (w.alloc (.cells #[.bool W.bg, .bool W.en, v, .int .i64 (W.g : Int), .string s, a, c] 80)).cell? ⟨w.heap.size, 6, none⟩ = some c := by rw [Lib.cell_of_heap hz0]; rfl
 obtain ⟨g, cap, f, rfl, hrg, hf, hS, hgl⟩ := has_mp N (by have := HN.out; omega) _ (hmp.keep hk0 (by simp)) i (by have := HN.out; omega)
 have hi0 : (0 : Int) ≤ (i : Int) := by omega
 have hiN : (i : Int) < (N : Int) := by have := HN.out; omega
 have hu := Tryz.underlying141
 clear hz0
 go_enter Tryz.func40, Tryz.ntmps40
 go_wp2_with (first | (refine wpList_load_mid rfl 141 _ rfl g (i * 2) rfl _ _ hrg hu rfl infoPl2 ?_))
 refine (phas_raw f j (by omega) _).mono ?_
 rintro e w1 ⟨rfl, hk1⟩
 go_wp2_with fail
 go_ret
 exact ⟨f j, rfl, hf j (by have := HN.out; omega), hk0.trans hk1⟩
end Go.Proofs.YtnfojonmohijpaaGreatDoor
namespace Go.Proofs.YtnfojonmohijpaaGreatDoor
open Go.RowKit
structure MaM (w : World) (S : Nat → Prop) (s : ByteArray) (N : Nat) (v : Value) (cs : List Value) (Ws : List Whole) : Prop where
 own : w.ownsRow 0 80 7 v Ws.length cs
 parts : ∀ (k : Nat) (W : Whole), Ws[k]? = some W → ∃ u a c, u.oneCell' = true ∧ a.oneCell' = true ∧ c.oneCell' = true ∧ (∀ q x, (mat W u s a c).toList[q]? = some x → cs[k * 7 + q]? = some x) ∧ Mk w (fun z => S z ∧ v.ownBlock ≠ some z) s N .ways W.x [a, c]
theorem MaM.keep {w w' : World} {S : Nat → Prop} {s : ByteArray} {N : Nat} {v : Value} {cs : List Value} {Ws : List Whole} (h : MaM w S s N v cs Ws) (hk : Keeps [] w w') : MaM w' S s N v cs Ws :=
 ⟨h.own.keep hk (by simp), fun k W hW => by
   obtain ⟨u, a, c, h1, h2, h3, h4, h5⟩ := h.parts k W hW
   exact ⟨u, a, c, h1, h2, h3, h4, h5.keep hk (by simp)⟩⟩
theorem MaM.cells {w : World} {S : Nat → Prop} {s : ByteArray} {N : Nat} {g n c : Nat} {cs : List Value} {Ws : List Whole} (h : MaM w S s N (.slice (some ⟨g, 0, none⟩) n c) cs Ws) {k : Nat} {W : Whole} {u a d : Value} (hn : n = Ws.length) (hk : k < Ws.length) (hq : ∀ q x, (mat W u s a d).toList[q]? = some x → cs[k * 7 + q]? = some x) : w.rangeAt g (k * 7) (mat W u s a d).toList := fun q x hx => by
 subst hn
 have h7 : q < 7 := (List.getElem?_eq_some_iff.1 hx).1
 have hlt : k * 7 + q < Ws.length * 7 := by omega
 exact (World.ownsRow.cellAt h.own (k * 7 + q) hlt).trans (hq q x hx)
theorem cf_lng1 : ∀ args w1, (callFunc 191 args).run Tryz.prog w1 = .ok (.enter 191 args) w1 := fun args w1 => by
 kernel_rfl
set_option maxRecDepth 100000 in
set_option maxHeartbeats 2000000 in
theorem lng1_any (s : ByteArray) (N : Nat) (HN : Hid (N = s.size + 1)) (hs : s.size ≤ 100) (W : Whole) (u a c : Value) (S : Nat → Prop) (bf bt i j : Nat) (hi : i ≤ s.size) (hj : j ≤ s.size) (w : World) (hu : u.oneCell' = true) (ha : a.oneCell' = true) (hc : c.oneCell' = true) (hm : Mk w S s N .ways W.x [a, c]) (hbf : w.cell? ⟨bf, 0, none⟩ = some (.int .i64 i)) (hbt : w.cell? ⟨bt, 0, none⟩ = some (.int .i64 j)) :
    Calls Tryz.prog 191 #[.agg (mat W u s a c), .pointer (some ⟨bf, 0, none⟩), .pointer (some ⟨bt, 0, none⟩)] w fun e w' => ∃ b, e = .returned (.bool b) ∧ (b = true ↔ Mt s W.x i j) ∧ Keeps [] w w' := by
 have hq0 : (w.alloc (.cells (mat W u s a c) 80)).heap[w.heap.size]? = some (.cells (mat W u s a c) 80 (0, 0)) := heap_alloc_new w _
 have hk0 : Keeps [] w (w.alloc (.cells (mat W u s a c) 80)) := (Keeps.refl [] w).alloc _
 have hf0 := keep_cell hk0 hbf
 have ht0 := keep_cell hk0 hbt
 have hm0 := hm.keep hk0 (by simp)
 have hi7 : (Tryz.prog.info? 80).map (·.size) = some (mat W u s a c).size := by unfold mat; exact info7 _ _ _ _ _ _ _
 have hall : (mat W u s a c).all (·.oneCell') = true := by unfold mat; exact all7 rfl rfl hu rfl rfl ha hc
 generalize hM : mat W u s a c = M at *
 go_enter Tryz.func191, Tryz.ntmps191
 go_upto_region 1 with (fail)
 generalize w.alloc (.cells M 80) = X at *
 obtain ⟨gb, hgb⟩ : ∃ g, w.heap.size = g := ⟨_, rfl⟩
 rw [hgb] at hq0 ⊢
 clear hgb
 go_wp2_with (first | (refine wpList_load_row rfl 80 _ rfl gb rfl _ _ _ _ hq0 Tryz.underlying80 rfl hi7 ?_))
 rw [← hM]
 refine (canM_any s N HN hs W u a c S X hm0 i j hi hj).mono ?_
 rintro e w1 ⟨b, rfl, hb, hk1⟩
 have hkE := hk0.trans hk1
 have HB : Hid (b = true ↔ Mt s W.x i j) := hb
 clear hb hk1 hk0
 go_wp2_with fail
 go_ret
 exact ⟨b, rfl, HB.out, hkE⟩
def FirstM (s : ByteArray) (Ws : List Whole) (n : Nat) (i j : Nat) (z : Int) : Prop :=
 (∃ (p : Nat) (W : Whole), z = (p : Int) ∧ p < n ∧ Ws[p]? = some W ∧ Mt s W.x i j ∧ ∀ (k : Nat) (V : Whole), k < p → Ws[k]? = some V → ¬ Mt s V.x i j) ∨ (z = -1 ∧ ∀ (k : Nat) (V : Whole), k < n → Ws[k]? = some V → ¬ Mt s V.x i j)
set_option maxRecDepth 100000 in
set_option maxHeartbeats 2000000 in
theorem indexMat_any (s : ByteArray) (N : Nat) (HN : Hid (N = s.size + 1)) (hs : s.size ≤ 100) (Ws : List Whole) (cs : List Value) (S : Nat → Prop) (g n c bf bt i j : Nat) (hn : n = Ws.length) (h8 : n ≤ 8) (hi : i ≤ s.size) (hj : j ≤ s.size) (w : World) (hm : MaM w S s N (.slice (some ⟨g, 0, none⟩) n c) cs Ws) (hbf : w.cell? ⟨bf, 0, none⟩ = some (.int .i64 i)) (hbt : w.cell? ⟨bt, 0, none⟩ = some (.int .i64 j)) :
    Calls Tryz.prog 190 #[.slice (some ⟨g, 0, none⟩) n c, .func (.func 191) #[] #[.pointer (some ⟨bf, 0, none⟩), .pointer (some ⟨bt, 0, none⟩)]] w fun e w' => ∃ z : Int, e = .returned (.int .i64 z) ∧ FirstM s Ws n i j z ∧ Keeps [] w w' := by
 have hcf := cf_lng1
 have h8' : (n : Int) ≤ 8 := by omega
 have HL : Hid (n = Ws.length) := hn
 go_enter Tryz.func190, Tryz.ntmps190
 clear hn h8
 go_wp2_with fail
 go_loopw [5, 8] (fun _ q wr => ∃ k : Nat, k ≤ n ∧ q = .int .i64 k ∧ Hid (∀ (d : Nat) (V : Whole), d < k → Ws[d]? = some V → ¬ Mt s V.x i j) ∧ Keeps [] w wr) (fun _ q _ => n - (intOf q).toNat)
 case atStart => exact ⟨0, Nat.zero_le _, rfl, fun d z h => by omega, Keeps.refl _ _⟩
 case round =>
  obtain ⟨k, hk, rfl, HA, hK⟩ := hrel
  by_cases hlt : k < n
  ·obtain ⟨W, hW⟩ : ∃ W, Ws[k]? = some W := ⟨_, List.getElem?_eq_getElem (by have := HL.out; omega)⟩
   have hmk := hm.keep hK
   obtain ⟨u, a, d, hu, ha, hd, hq, hmm⟩ := hmk.parts k W hW
   have hrg := hmk.cells HL.out (by have := HL.out; omega) hq
   have hC := lng1_any s N HN hs W u a d _ bf bt i j hi hj wr hu ha hd hmm (keep_cell hK hbf) (keep_cell hK hbt)
   have hi2 : (Tryz.prog.info? 80).map (·.size) = some (mat W u s a d).toList.length := by unfold mat; exact info7 _ _ _ _ _ _ _
   have hk0 : (0 : Int) ≤ (k : Int) := by omega
   have hk1 : (k : Int) < (n : Int) := by omega
   have HK : Hid (k < n) := hlt
   have HY : Hid (Ws[k]? = some W) := hW
   clear hk hlt hW hmk hq hmm hu ha hd
   generalize hM : mat W u s a d = M at *
   go_wp2_with (first | (refine wpList_load_mid rfl 80 _ rfl g (k * 7) rfl _ _ hrg Tryz.underlying80 rfl hi2 ?_))
   refine hC.mono ?_
   rintro e w2 ⟨b, rfl, hb, hk2⟩
   have hK2 := hK.trans hk2
   cases b with
   | true =>
    have HM : Hid (Mt s W.x i j) := hb.1 rfl
    clear hb hC hrg
    go_wp2_with fail
    go_ret
    exact ⟨k, rfl, Or.inl ⟨k, W, rfl, HK.out, HY.out, HM.out, HA.out⟩, hK2⟩
   | false =>
    have HM : Hid (¬ Mt s W.x i j) := fun h => by have := hb.2 h; cases this
    have HA2 : Hid (∀ (d : Nat) (V : Whole), d < k + 1 → Ws[d]? = some V → ¬ Mt s V.x i j) := fun d z hd hz => by
     by_cases e : d < k
     ·exact HA.out d z e hz
     ·have : d = k := by omega
      subst this
      have h := HY.out
      rw [h] at hz
      cases hz
      exact HM.out
    clear hb hC hrg
    go_wp2_with fail
    exact ⟨⟨k + 1, HK.out, by go_num, HA2.out, hK2⟩, by have := HK.out; simp [intOf]; omega⟩
  ·have he : k = n := by omega
   subst he
   clear hk hlt
   go_wp2_with fail
   go_ret
   exact ⟨-1, rfl, Or.inr ⟨rfl, HA.out⟩, hK⟩
def muC (w : World) (b : Nat) : Nat := match w.cell? ⟨b, 0, none⟩ with
 | some v => (intOf v).toNat
 | none => 0
theorem muC_eq {w : World} {b k : Nat} (h : w.cell? ⟨b, 0, none⟩ = some (.int .i64 k)) : muC w b = k := by simp [muC, h, intOf]
theorem cellI {Y : World} {b : Nat} {z : Int} (h : Y.heap[b]? = some (.cells #[.int .i64 z] 3 (0, 0))) : Y.cell? ⟨b, 0, none⟩ = some (.int .i64 z) := by rw [Lib.cell_of_heap h]; rfl
theorem frozI {Y : World} {b : Nat} {z : Int} (h : Y.heap[b]? = some (.cells #[.int .i64 z] 3 (0, 0))) : Y.frozen? ⟨b, 0, none⟩ = false := by simp [World.frozen?, h]
theorem results_lng (tmps : Array Value) (w : World) (g : Nat) (v : Value) (y : Int) (h2 : tmps.getD 6 undef = v) (h3 : tmps.getD 7 undef = .pointer (some ⟨g, 0, none⟩)) (hy : w.cell? ⟨g, 0, none⟩ = some (.int .i64 y)) :
    (results Tryz.f147 tmps).run Tryz.prog w = .ok (.tuple #[v, .int .i64 y]) w := by
 have h : Tryz.f147.results = #[.tmp 6, .cell 7 3] := rfl
 have e2 : tmps[6]?.getD undef = v := by simpa using h2
 have e3 : tmps[7]?.getD undef = .pointer (some ⟨g, 0, none⟩) := by simpa using h3
 have l3 := loadInt 3 (Or.inl rfl) _ y w hy
 simp [results, h, e2, e3, asAddr, l3]
theorem FirstM.best {s : ByteArray} {Ws : List Whole} {n i j p : Nat} (h : FirstM s Ws n i j (p : Int)) (hij : i < j) (hj : j ≤ s.size) (hno : ∀ (m k : Nat) (W : Whole), j < m → m ≤ s.size → Ws[k]? = some W → ¬ Mt s W.x i m) : BestT s (Ws.map (·.x)) i p j := by
 rcases h with ⟨p', W, h1, h2, h3, h4, h5⟩ | ⟨h1, _⟩
 ·have : p = p' := by omega
  subst this
  refine ⟨hij, hj, ⟨W.x, by rw [List.getElem?_map, h3]; rfl, h4⟩, fun k x hk hx => ?_, fun m k x hm hms hx => ?_⟩
  ·rw [List.getElem?_map] at hx
   cases hw : Ws[k]? with
   | none => rw [hw] at hx; cases hx
   | some V => rw [hw] at hx; cases hx; exact h5 k V hk hw
  ·rw [List.getElem?_map] at hx
   cases hw : Ws[k]? with
   | none => rw [hw] at hx; cases hx
   | some V => rw [hw] at hx; cases hx; exact hno m k V hm hms hw
 ·omega
theorem noneT_of {s : ByteArray} {Ws : List Whole} {i : Nat} (hno : ∀ (m k : Nat) (W : Whole), i < m → m ≤ s.size → Ws[k]? = some W → ¬ Mt s W.x i m) : NoneT s (Ws.map (·.x)) i := fun m k x hm hms hx => by
 rw [List.getElem?_map] at hx
 cases hw : Ws[k]? with
 | none => rw [hw] at hx; cases hx
 | some V => rw [hw] at hx; cases hx; exact hno m k V hm hms hw
set_option maxRecDepth 100000 in
set_option maxHeartbeats 4000000 in
theorem lngst_any (s : ByteArray) (N : Nat) (HN : Hid (N = s.size + 1)) (hs : s.size ≤ 100) (Ws : List Whole) (cs : List Value) (S : Nat → Prop) (g n c i : Nat) (hn : n = Ws.length) (h8 : n ≤ 8) (hi : i ≤ s.size) (w : World) (hm : MaM w S s N (.slice (some ⟨g, 0, none⟩) n c) cs Ws) :
    Calls Tryz.prog 147 #[.slice (some ⟨g, 0, none⟩) n c, .int .i64 i, .int .i64 s.size] w fun e w' => ∃ r j : Nat, e = .returned (.tuple #[.int .i64 r, .int .i64 j]) ∧ ((r < n ∧ BestT s (Ws.map (·.x)) i r j) ∨ (j = i ∧ NoneT s (Ws.map (·.x)) i)) ∧ Keeps [] w w' := by
 have HNn : Hid (n = Ws.length ∧ n ≤ 8) := ⟨hn, h8⟩
 have hk0 : Keeps [] w ((w.alloc (.cells #[.int .i64 i] 3)).alloc (.cells #[.int .i64 0] 3)) := ((Keeps.refl [] w).alloc _).alloc _
 have hz0 : ((w.alloc (.cells #[.int .i64 i] 3)).alloc (.cells #[.int .i64 0] 3)).heap[w.heap.size]? = some (.cells #[.int .i64 i] 3 (0, 0)) := heap_alloc2_old w _ _
 have hz1 : ((w.alloc (.cells #[.int .i64 i] 3)).alloc (.cells #[.int .i64 0] 3)).heap[w.heap.size + 1]? = some (.cells #[.int .i64 0] 3 (0, 0)) := heap_alloc2_new w _ _
 have hs' : (s.size : Int) ≤ 100 := by omega
 have hiI : (i : Int) ≤ 100 := by omega
 have HI : Hid (i ≤ s.size ∧ s.size ≤ 100) := ⟨hi, hs⟩
 have h8' : (n : Int) ≤ 8 := by omega
 clear hn h8
 go_enter Tryz.func147, Tryz.ntmps147
 go_upto_region 1 with (fail)
 generalize (w.alloc (.cells #[.int .i64 i] 3)).alloc (.cells #[.int .i64 0] 3) = X at *
 obtain ⟨bf, hbf⟩ : ∃ b, w.heap.size = b := ⟨_, rfl⟩
 rw [hbf] at hz0 hz1 ⊢
 obtain ⟨bt, hbt⟩ : ∃ b, bf + 1 = b := ⟨_, rfl⟩
 rw [hbt] at hz1 ⊢
 have hne : bt ≠ bf := by omega
 have hlo : w.heap.size ≤ bt := by omega
 have hlof : w.heap.size ≤ bf := by omega
 clear hbf hbt hi hs
 have c1 : X.cell? ⟨bt, 0, none⟩ = some (.int .i64 0) := by rw [Lib.cell_of_heap hz1]; rfl
 have f1 : X.frozen? ⟨bt, 0, none⟩ = false := by simp [World.frozen?, hz1]
 have hX1 : Keeps [bt] X (X.setCell ⟨bt, 0, none⟩ (.int .i64 s.size)) := (Keeps.refl [bt] X).setCell (p := ⟨bt, 0, none⟩) (by simp) _
 have hb1 : (X.setCell ⟨bt, 0, none⟩ (.int .i64 s.size)).heap[bt]? = some (.cells #[.int .i64 s.size] 3 (0, 0)) := by simp [World.setCell, Array.getElem?_modify, hz1]
 have hf1 := (hX1.block bf (Array.getElem?_eq_some_iff.1 hz0).1 (by simp; exact fun e => hne e.symm)).trans hz0
 have hkS : Keeps [] w (X.setCell ⟨bt, 0, none⟩ (.int .i64 s.size)) := keepsM hk0 hX1 (by intro x hx; simp at hx; omega)
 go_wp2_with fail
 generalize X.setCell ⟨bt, 0, none⟩ (.int .i64 s.size) = W1 at *
 go_loopw [6] (fun q6 wr => ∃ k : Nat, i ≤ k ∧ k ≤ s.size ∧ wr.heap[bt]? = some (.cells #[.int .i64 k] 3 (0, 0)) ∧ wr.heap[bf]? = some (.cells #[.int .i64 i] 3 (0, 0)) ∧ Hid (∀ (m q : Nat) (W : Whole), k < m → m ≤ s.size → Ws[q]? = some W → ¬ Mt s W.x i m) ∧ Keeps [] w wr) (fun _ wr => muC wr bt)
 case atStart => exact ⟨s.size, HI.out.1, Nat.le_refl _, hb1, hf1, fun m q W h1 h2 => by omega, hkS⟩
 case round =>
  clear hb1 hf1 hkS hX1 c1 f1 hz0 hz1 hk0
  obtain ⟨k, hik, hks, hbk, hfk, HA, hK⟩ := hrel
  have cT := cellI hbk
  have cF := cellI hfk
  have fT := frozI hbk
  have hmu := muC_eq cT
  by_cases hlt : i < k
  ·have hik' : (i : Int) < (k : Int) := by omega
   have hkI : (k : Int) ≤ 100 := by have := HI.out; omega
   have hC := indexMat_any s N HN HI.out.2 Ws cs S g n c bf bt i k HNn.out.1 HNn.out.2 HI.out.1 hks wr (hm.keep hK) cF cT
   have HK : Hid (i < k ∧ k ≤ s.size) := ⟨hlt, hks⟩
   clear hik hks hlt
   go_wp2_with fail
   refine hC.mono ?_
   rintro e w2 ⟨z, rfl, hz, hk2⟩
   have hK2 := hK.trans hk2
   have hb2 := (hk2.block bt (Array.getElem?_eq_some_iff.1 hbk).1 (by simp)).trans hbk
   have hf2 := (hk2.block bf (Array.getElem?_eq_some_iff.1 hfk).1 (by simp)).trans hfk
   have cT2 := cellI hb2
   have cF2 := cellI hf2
   have fT2 := frozI hb2
   have HZ : Hid (FirstM s Ws n i k z) := hz
   have hzc : (∃ p : Nat, z = (p : Int) ∧ p < n) ∨ z = -1 := by
    rcases hz with ⟨p, _, h1, h2, _⟩ | ⟨h1, _⟩
    ·exact Or.inl ⟨p, h1, h2⟩
    ·exact Or.inr h1
   clear hC hz hk2 cT cF fT hbk hfk
   rcases hzc with ⟨p, rfl, hp⟩ | rfl
   ·have hp0 : (0 : Int) ≤ (p : Int) := by omega
    have hp8 : (p : Int) ≤ 8 := by omega
    have HB : Hid (p < n ∧ BestT s (Ws.map (·.x)) i p k) := ⟨hp, HZ.out.best HK.out.1 HK.out.2 HA.out⟩
    have hS : Keeps [bt] w2 (w2.setCell ⟨bt, 0, none⟩ (.int .i64 k)) := (Keeps.refl [bt] w2).setCell (p := ⟨bt, 0, none⟩) (by simp) _
    have hkE : Keeps [] w (w2.setCell ⟨bt, 0, none⟩ (.int .i64 k)) := keepsM hK2 hS (by intro x hx; simp at hx; omega)
    have r1 : (w2.setCell ⟨bt, 0, none⟩ (.int .i64 k)).cell? ⟨bt, 0, none⟩ = some (.int .i64 k) := World.cell?_setCell_same _ _ _ cT2
    go_upto_region 6 with (fail)
    have cT3 : w2.drew.cell? ⟨bt, 0, none⟩ = some (.int .i64 k) := cT2
    have fT3 : w2.drew.frozen? ⟨bt, 0, none⟩ = false := fT2
    have r2 : (w2.setCell ⟨bt, 0, none⟩ (.int .i64 k)).drew.cell? ⟨bt, 0, none⟩ = some (.int .i64 k) := r1
    have hkF : Keeps [] w (w2.setCell ⟨bt, 0, none⟩ (.int .i64 k)).drew := hkE.trans ((Keeps.refl [] _).drewN 1)
    go_region
    all_goals
     clear hS hkE r1 cT2 cF2 fT2 cT3 fT3 hb2 hf2 hK2
     generalize (w2.setCell ⟨bt, 0, none⟩ (.int .i64 k)).drew = Y at *
     go_wp2_with fail
     refine bodyPost_ret (results_lng _ _ bt _ k rfl rfl r2) rfl ?_
     exact ⟨p, k, rfl, Or.inl HB.out, hkF⟩
   ·have HNo : Hid (∀ (m q : Nat) (W : Whole), k - 1 < m → m ≤ s.size → Ws[q]? = some W → ¬ Mt s W.x i m) := fun m q W h1 h2 h3 => by
       by_cases e : k < m
       ·exact HA.out m q W e h2 h3
       ·have : m = k := by have := HK.out; omega
        subst this
        rcases HZ.out with ⟨p, _, h, _⟩ | ⟨_, h⟩
        ·omega
        ·exact h q W (by have := HNn.out.1; have := (List.getElem?_eq_some_iff.1 h3).1; omega) h3
    obtain ⟨k', hk'⟩ : ∃ k', k = k' + 1 := ⟨k - 1, by have := HK.out; omega⟩
    subst hk'
    have hS : Keeps [bt] w2 (w2.setCell ⟨bt, 0, none⟩ (.int .i64 (k' : Int))) := (Keeps.refl [bt] w2).setCell (p := ⟨bt, 0, none⟩) (by simp) _
    have hkE : Keeps [] w (w2.setCell ⟨bt, 0, none⟩ (.int .i64 (k' : Int))) := keepsM hK2 hS (by intro x hx; simp at hx; omega)
    have hb3 : (w2.setCell ⟨bt, 0, none⟩ (.int .i64 (k' : Int))).heap[bt]? = some (.cells #[.int .i64 k'] 3 (0, 0)) := by simp [World.setCell, Array.getElem?_modify, hb2]
    have hf3 := (hS.block bf (Array.getElem?_eq_some_iff.1 hf2).1 (by simp; exact fun e => hne e.symm)).trans hf2
    clear hb2 hf2 hK2 hS
    go_wp2_with fail
    go_roundw
    case rel => exact ⟨k', by have := HK.out; omega, by have := HK.out; omega, hb3, hf3, HNo.out, hkE⟩
    case measure => rw [hmu, muC_eq (cellI hb3)]; omega
  ·have he : k = i := by omega
   subst he
   have HB : Hid (NoneT s (Ws.map (·.x)) k) := noneT_of HA.out
   clear hik hks hlt
   go_upto_region 7 with (fail)
   have cT3 : wr.drew.cell? ⟨bt, 0, none⟩ = some (.int .i64 k) := cT
   have cF3 : wr.drew.cell? ⟨bf, 0, none⟩ = some (.int .i64 k) := cF
   have fT3 : wr.drew.frozen? ⟨bt, 0, none⟩ = false := fT
   have hS : Keeps [bt] wr (wr.setCell ⟨bt, 0, none⟩ (.int .i64 k)) := (Keeps.refl [bt] wr).setCell (p := ⟨bt, 0, none⟩) (by simp) _
   have hkF : Keeps [] w (wr.setCell ⟨bt, 0, none⟩ (.int .i64 k)).drew := (keepsM hK hS (by intro x hx; simp at hx; omega)).trans ((Keeps.refl [] _).drewN 1)
   have r2 : (wr.setCell ⟨bt, 0, none⟩ (.int .i64 k)).drew.cell? ⟨bt, 0, none⟩ = some (.int .i64 k) := World.cell?_setCell_same _ _ _ cT
   go_region
   all_goals
    clear hS cT cF fT cT3 cF3 fT3 hK hbk hfk hmu
    generalize (wr.setCell ⟨bt, 0, none⟩ (.int .i64 k)).drew = Y at *
    go_wp2_with fail
    refine bodyPost_ret (results_lng _ _ bt _ k rfl rfl r2) rfl ?_
    exact ⟨0, k, rfl, Or.inr ⟨rfl, HB.out⟩, hkF⟩
end Go.Proofs.YtnfojonmohijpaaGreatDoor
namespace Go.Proofs.YtnfojonmohijpaaGreatDoor
open Go.RowKit
def tl : Tr → List Tr
 | .lcons x r => x :: tl r
 | _ => []
end Go.Proofs.YtnfojonmohijpaaGreatDoor
namespace Go.Proofs.YtnfojonmohijpaaGreatDoor
theorem NumL.least {s : ByteArray} {least n : Nat} {any : Bool} {i : Nat} {q : R Nat} (h : NumL s least n any i q) : ∀ m j, q = .ok m j → least ≤ m := by
 induction h with
 | dig n x any i q hd hx h5 hl _ ih => exact ih
 | big => intro m j e; cases e
 | done n i hd hl => intro m j e; cases e; exact hl
 | short => intro m j e; cases e
theorem RepR.fair {s : ByteArray} {j k mn : Nat} {mx : Int} (h : RepR s j (.ok (Option.some (mn, mx)) k)) : mx < 0 ∨ (mn : Int) ≤ mx := by
 rcases h with ⟨a, b, c, d, e⟩ | ⟨a, e⟩ | ⟨a, e⟩ | ⟨a, e⟩ | ⟨a, q1, n, e⟩
 ·cases e
 ·cases e; omega
 ·cases e; omega
 ·cases e; omega
 ·cases q1 with
  | bad l => cases e
  | ok m l =>
   rcases e with ⟨a, b, e⟩ | ⟨a, b, q2, n', e⟩ | ⟨a, e⟩
   ·cases e; omega
   ·cases q2 with
    | bad x => cases e
    | ok y x =>
     have hx := n'.least y x rfl
     simp only [Rep3] at e
     by_cases h5 : at' s x = 125
     ·rw [if_pos h5] at e; cases e; omega
     ·rw [if_neg h5] at e; cases e
   ·by_cases h5 : at' s l = 125
    ·rw [if_pos h5] at e; cases e; omega
    ·rw [if_neg h5] at e; cases e
end Go.Proofs.YtnfojonmohijpaaGreatDoor
