/-
  DERIVED. The program's newWay, its first statement: two rows and the way itself are made, in whatever order. Conditions: the text is at most 100 bytes long.
-/
import Derived.Test.YtnfojonmohijpabGreatDoorJNL
import Derived.Test.YtnfojonmohijpabGreatDoorJKB
import Derived.Test.YtnfojonmohijpabGreatDoorJSpec
import Derived.Test.YtnfojonmohijpabGreatDoorJPW
import Derived.Deep.CutRange
set_option linter.unusedSimpArgs false
set_option linter.unusedVariables false
namespace Go.Proofs.YtnfojonmohijpabGreatDoor
open Go.RowKit
theorem wp_make_full {P : Program} (w : World) {o : Oper} {a : Act} {K : Act → World → Prop} {Q : Exit → Act → World → Prop}
    (d : Option Tmp) (hd : o.dst = d) (l c : Operand) (t : TypeId) (hop : o.op = Op.makeSlice t l c)
    (base : Nat) (e : TypeId) (i : TypeInfo) (z : Value) (size : Nat) (h1 : P.underlying t = some (.slice e)) (h2 : P.info? e = some i) (h3 : i.zero = some z) (h4 : i.size = size)
    (kl kc : IntKind) (L C : Int) (n : Nat) (hl : a.eval l = .int kl L) (hc : a.eval c = .int kc C) (hL : L = (n : Int)) (hC : C = (n : Int)) (b2 : i.bytes * n ≤ 281474976710656) (b3 : n ≤ maxLen) (b4 : base ≤ w.heap.size)
    (hK : ∀ w', w'.ownsRow base e size (.slice (some ⟨w.heap.size, 0, none⟩) n n) n (madeCells z.cells (n * size)).toList → w.grownBy w' none → K (a.put d (.slice (some ⟨w.heap.size, 0, none⟩) n n)) w') :
    o.wp P a w K Q := by
 subst hd
 obtain ⟨w', hrun, r1, r2⟩ := run_make_full (P := P) w base t e i z size h1 h2 h3 h4 kl kc n b2 b3 b4
 subst hL
 subst hC
 unfold Oper.wp
 simp [execOp, hop, hl, hc, hrun, Result.andThen]
 exact hK w' r1 r2
theorem wpAnyH_tk {P : Program} {ops : Array Oper} {Q : Exit → Act → World → Prop} {md : Region.Mode} {S : World → Prop} (i : Nat) (oi : Oper) (d : Option Tmp) (v : Value) {fuel : Nat} {listed : Array Bool} {a : Act} {w : World} (hi : ops[i]? = some oi) (hd : oi.dst = d)
    (hs : Region.noSelect ops = true) (hf : Region.free md ops listed i = true) (hr : (Region.ready md ops listed).contains i = true)
    (hQ : ∀ c a w, Q (.panic c) (a.put d v) w → Q (.panic c) a w) (hy : YieldsIf P ops S oi v a) (hS : S w)
    (h : wpAnyH P md ops Q S fuel (listed.setIfInBounds i true) (a.put d v) w) : wpAnyH P md ops Q S (fuel + 1) listed a w := by
 subst hd
 exact wpAnyH_take hi hs hf hr hQ hy hS h
theorem wp_store_midD {P : Program} {op : Oper} {a : Act} {w : World} {K : Act → World → Prop} {Q : Exit → Act → World → Prop} (hd : op.dst = none) (ty : TypeId) (x y : Operand) (ho : op.op = .store ty x y)
    (b o : Nat) (cells : Array Value) (hx : a.eval x = .pointer (some ⟨b, o, none⟩)) (hy : a.eval y = .agg cells)
    (ht : w.there b o cells.size) (hi : (P.info? ty).map (·.size) = some cells.size) (h1 : cells.all (·.oneCell') = true)
    (h : K (a.put none undef) (w.setCells b o cells.toList)) : op.wp P a w K Q := by
 rw [← hd] at h
 exact wp_store_mid ty x y ho b o cells hx hy ht hi h1 h
theorem wrap_small {z : Int} (h0 : 0 ≤ z) (h1 : z ≤ 1000000) : IntKind.i64.wrap z = z := by
 have h2 : z % 18446744073709551616 = z := by omega
 have : IntKind.i64.wrap z = if 9223372036854775808 ≤ z % 18446744073709551616 then z % 18446744073709551616 - 18446744073709551616 else z % 18446744073709551616 := by simp [IntKind.wrap, IntKind.bits, IntKind.signed]
 rw [this, h2, if_neg (by omega)]
theorem infoPc : (Tryz.prog.info? 193).map (fun i => (i.zero, i.size, i.bytes)) = some (some (.agg #[.int .i64 0, .slice none 0 0, .slice none 0 0, .slice none 0 0, .bool false, .int .i64 0, .int .i64 0, .slice none 0 0]), 8, 128) := by kernel_rfl
theorem infoWy (a b : Value) : (Tryz.prog.info? 150).map (·.size) = some (#[a, b] : Array Value).size := by kernel_rfl
structure WM (W wx : World) (n M gm gp gr : Nat) : Prop where
 made : wx.heap[gm]? = some (.cells #[.slice (some ⟨gp, 0, none⟩) n n, .slice (some ⟨gr, 0, none⟩) M M] 150 (0, 0))
 prow : ∃ zs, wx.ownsRow 0 193 8 (.slice (some ⟨gp, 0, none⟩) n n) n zs
 rrow : ∃ zs, wx.ownsRow 0 63 1 (.slice (some ⟨gr, 0, none⟩) M M) M zs
 mp : gm ≠ gp
 mr : gm ≠ gr
 pr : gp ≠ gr
 lm : W.heap.size ≤ gm
 lp : W.heap.size ≤ gp
 lr : W.heap.size ≤ gr
 keep : Keeps [] W wx
def WayIn (w : World) (S : Nat → Prop) (x : Pat) (v : Value) : Prop :=
 ∃ cs, Rep w S .plist x cs ∧ ∃ va n vc, v = .slice va n vc ∧ n = (pl x).length ∧ n ≤ 1000 ∧ w.ownsRow 0 180 261 v n cs
theorem pl_len : ∀ (x : Pat), (pl x).length ≤ x.sz
 | .pcons x r => by have := pl_len r; simp only [pl, List.length_cons, Pat.sz]; omega
 | .set _ => Nat.zero_le _
 | .grp _ _ => Nat.zero_le _
 | .rep _ _ _ => Nat.zero_le _
 | .pnil => Nat.zero_le _
 | .wone _ => Nat.zero_le _
 | .wcons _ _ => Nat.zero_le _
theorem Rep.wayIn {w : World} {S : Nat → Prop} {x : Pat} {v : Value} (h : Rep w S .way x [v]) (hx : x.sz ≤ 1000) : WayIn w S x v := by
 cases h with
 | way _ cs _ n hp ho _ =>
  obtain ⟨va, vn, vc, rfl⟩ := ownsRow_sl ho
  have h1 := ho.1
  have h2 := hp.pl_text.2.1
  have h3 := pl_len x
  have h4 : vn = n := by
   rcases ho.2 with ⟨e, e2⟩ | ⟨g, cap, cur, e, _⟩
   ·cases e
    exact e2.symm
   ·cases e
    rfl
  subst h4
  exact ⟨cs, hp, va, vn, vc, rfl, by omega, by omega, ho⟩
theorem pdrop_end {w : World} {S : Nat → Prop} {x : Pat} {cs : List Value} (h : Rep w S .plist x cs) : pdrop (pl x).length x = .pnil ∧ ∀ (i : Nat) (y : Pat), (pl x)[i]? = some y → pdrop i x = .pcons y (pdrop (i + 1) x) := by
 generalize hk : Kr.plist = kk at h
 induction h with
 | pnil => exact ⟨rfl, by intro i y hy; simp [pl] at hy⟩
 | pcons x r cs ds _ _ _ ih =>
  obtain ⟨a, b⟩ := ih rfl
  refine ⟨by simp only [pl, List.length_cons, pdrop]; exact a, ?_⟩
  intro i y hy
  cases i with
  | zero => simp [pl] at hy; subst hy; rfl
  | succ i => simp only [pdrop]; exact b i y (by simpa [pl] using hy)
 | _ => cases hk
theorem pfair {x : Pat} : ∀ {i : Nat} {y : Pat}, x.fair 9 → (pl x)[i]? = some y → y.fair 9 := by
 induction x with
 | pcons x r _ ih =>
  intro i y h hy
  cases i with
  | zero => simp [pl] at hy; subst hy; exact h.1
  | succ i => exact ih h.2 (by simpa [pl] using hy)
 | _ => intro i y _ hy; simp [pl] at hy
def over : List Value → Nat → List Value → List Value
 | xs, _, [] => xs
 | xs, o, v :: r => over (xs.set o v) (o + 1) r
theorem over_len : ∀ (vs xs : List Value) (o : Nat), (over xs o vs).length = xs.length
 | [], _, _ => rfl
 | v :: r, xs, o => by simp only [over]; rw [over_len]; simp
theorem over_drop : ∀ (vs xs : List Value) (o : Nat), o + vs.length ≤ xs.length → (over xs o vs).drop o = vs ++ xs.drop (o + vs.length)
 | [], xs, o, _ => by simp [over]
 | v :: r, xs, o, h => by
  simp only [over, List.length_cons] at *
  have ih := over_drop r (xs.set o v) (o + 1) (by simp; omega)
  have hl : (over (xs.set o v) (o + 1) r).length = xs.length := by rw [over_len]; simp
  have e0 : (over (xs.set o v) (o + 1) r)[o]? = some v := by
   have : ∀ (vs xs : List Value) (p q : Nat), q < p → (over xs p vs)[q]? = xs[q]? := by
    intro vs
    induction vs with
    | nil => intro xs p q _; rfl
    | cons u vs ih => intro xs p q hq; simp only [over]; rw [ih _ _ _ (by omega), List.getElem?_set_ne (by omega)]
   rw [this _ _ _ _ (by omega), List.getElem?_set_self (by omega)]
  rw [List.drop_eq_getElem_cons (by omega)]
  have e1 : (over (xs.set o v) (o + 1) r)[o]'(by omega) = v := by
   have := List.getElem?_eq_getElem (l := over (xs.set o v) (o + 1) r) (i := o) (by omega)
   rw [e0] at this
   exact (Option.some.inj this).symm
  rw [e1, ih, List.drop_set_of_lt (by omega)]
  have e2 : o + 1 + r.length = o + (r.length + 1) := by omega
  rw [e2]
  rfl
theorem ownsOver {g cap n size : Nat} {e : TypeId} : ∀ (vs : List Value) (w : World) (xs : List Value) (o : Nat), w.ownsRow 0 e size (.slice (some ⟨g, 0, none⟩) n cap) n xs → (w.setCells g o vs).ownsRow 0 e size (.slice (some ⟨g, 0, none⟩) n cap) n (over xs o vs)
 | [], _, _, _, h => h
 | v :: r, w, xs, o, h => by
  simp only [World.setCells, over]
  exact ownsOver r _ _ _ (World.ownsRow.stored h o v).1
theorem Keeps.setCells {S : List Nat} {a : World} {g : Nat} (hg : g ∈ S ∨ a.heap.size ≤ g) : ∀ (vs : List Value) (w : World) (o : Nat), Keeps S a w → Keeps S a (w.setCells g o vs)
 | [], _, _, h => h
 | v :: r, w, o, h => by
  simp only [World.setCells]
  exact Keeps.setCells hg r _ _ (h.setCell (p := ⟨g, o, none⟩) hg v)
theorem WM.of {W X : World} {n M gm gp gr : Nat} {zp zr : List Value} (hm : X.heap[gm]? = some (.cells #[.slice none 0 0, .slice none 0 0] 150 (0, 0))) (hp : X.ownsRow 0 193 8 (.slice (some ⟨gp, 0, none⟩) n n) n zp)
    (hr : X.ownsRow 0 63 1 (.slice (some ⟨gr, 0, none⟩) M M) M zr) (h1 : gm ≠ gp) (h2 : gm ≠ gr) (h3 : gp ≠ gr) (l1 : W.heap.size ≤ gm) (l2 : W.heap.size ≤ gp) (l3 : W.heap.size ≤ gr) (hk : Keeps [] W X) :
    WM W (X.setRow gm #[.slice (some ⟨gp, 0, none⟩) n n, .slice (some ⟨gr, 0, none⟩) M M]) n M gm gp gr := by
 have hk2 : Keeps [gm] X (X.setRow gm #[.slice (some ⟨gp, 0, none⟩) n n, .slice (some ⟨gr, 0, none⟩) M M]) := (Keeps.refl [gm] X).setRow (g := gm) (by simp) _
 exact ⟨setRow_heap _ _ _ _ _ _ hm, ⟨zp, hp.keep hk2 (by intro x hx; simp only [Value.ownBlock, Option.some.injEq] at hx; simp; omega)⟩, ⟨zr, hr.keep hk2 (by intro x hx; simp only [Value.ownBlock, Option.some.injEq] at hx; simp; omega)⟩, h1, h2, h3, l1, l2, l3, hk.setRow (Or.inr l1) _⟩
theorem wayCells {w : World} {g : Nat} {a b : Value} (h : w.heap[g]? = some (.cells #[a, b] 150 (0, 0))) : w.cell? ⟨g, 0, none⟩ = some a ∧ w.cell? ⟨g, 1, none⟩ = some b := by
 constructor <;> (rw [Lib.cell_of_heap h]; rfl)
theorem WM.rlt {W V : World} {n M gm gp gr : Nat} (h : WM W V n M gm gp gr) : gr < V.heap.size := by
 obtain ⟨zs, ho⟩ := h.rrow
 exact (World.ownsRow.lt ho gr rfl).2
theorem WM.plt {W V : World} {n M gm gp gr : Nat} (h : WM W V n M gm gp gr) : gp < V.heap.size := by
 obtain ⟨zs, ho⟩ := h.prow
 exact (World.ownsRow.lt ho gp rfl).2
structure WL (V wr : World) (s : ByteArray) (N : Nat) (x : Pat) (n M gp gr dp dr : Nat) : Prop where
 keep : Keeps [gp, gr] V wr
 prow : ∃ zs, wr.ownsRow 0 193 8 (.slice (some ⟨gp, 0, none⟩) n n) n zs ∧ Mk wr (fun y => V.heap.size ≤ y) s N .plist (pdrop dp x) (zs.drop (dp * 8))
 rrow : ∃ vs, wr.ownsRow 0 63 1 (.slice (some ⟨gr, 0, none⟩) M M) M vs ∧ ∀ e, dr ≤ e → e < M → ∃ u, vs[e]? = some u ∧ MP wr (fun y => V.heap.size ≤ y) N u (Mt s (pdrop e x))
theorem WL.start {W V w : World} {S : Nat → Prop} {s : ByteArray} {N n M gm gp gr : Nat} {x : Pat} {cs : List Value} (HN : Hid (N = s.size + 1)) (HM : Hid (M = n + 1)) (HNP : Hid (n = (pl x).length)) (hpl : Rep w S .plist x cs) (h : WM W V n M gm gp gr) : WL V V s N x n M gp gr n M := by
 obtain ⟨zs, hz⟩ := h.prow
 obtain ⟨vs, hv⟩ := h.rrow
 refine ⟨Keeps.refl _ _, ⟨zs, hz, ?_⟩, ⟨vs, hv, fun e h1 h2 => by omega⟩⟩
 have h1 : zs.length = n * 8 := hz.1
 rw [HNP.out, (pdrop_end hpl).1, ← HNP.out, ← h1, List.drop_length]
 exact .pnil
theorem WL.keeps {V wr w' : World} {s : ByteArray} {N n M gp gr dp dr : Nat} {x : Pat} (h : WL V wr s N x n M gp gr dp dr) (hk : Keeps [] wr w') : WL V w' s N x n M gp gr dp dr := by
 obtain ⟨zs, hz, hm⟩ := h.prow
 obtain ⟨vs, hv, hr⟩ := h.rrow
 refine ⟨h.keep.trans (hk.mono (by simp)), ⟨zs, hz.keep hk (by simp), hm.keep hk (by simp)⟩, ⟨vs, hv.keep hk (by simp), fun e h1 h2 => ?_⟩⟩
 obtain ⟨u, a, b⟩ := hr e h1 h2
 exact ⟨u, a, b.keep hk (by simp)⟩
theorem WL.rcell {V wr : World} {s : ByteArray} {N n M gp gr dp dr : Nat} {x : Pat} (h : WL V wr s N x n M gp gr dp dr) {e : Nat} (he : e < M) : (∃ u, wr.cell? ⟨gr, e, none⟩ = some u) ∧ wr.frozen? ⟨gr, e, none⟩ = false := by
 obtain ⟨vs, a, _⟩ := h.rrow
 have hl : vs.length = M := by have := a.1; omega
 exact ⟨⟨vs[e]'(by omega), by rw [World.ownsRow.cellAt a e (by omega), List.getElem?_eq_getElem]⟩, World.ownsRow.frozenAt a e⟩
theorem WL.rat {V wr : World} {s : ByteArray} {N n M gp gr dp dr : Nat} {x : Pat} (h : WL V wr s N x n M gp gr dp dr) {e : Nat} (hd : dr ≤ e) (he : e < M) : ∃ u, wr.cell? ⟨gr, e, none⟩ = some u ∧ MP wr (fun y => V.heap.size ≤ y) N u (Mt s (pdrop e x)) := by
 obtain ⟨vs, a, b⟩ := h.rrow
 obtain ⟨u, x, y⟩ := b e hd he
 exact ⟨u, (World.ownsRow.cellAt a e (by omega)).trans x, y⟩
theorem WL.pthere {V wr : World} {s : ByteArray} {N n M gp gr dp dr : Nat} {x : Pat} (h : WL V wr s N x n M gp gr dp dr) {i : Nat} (hi : i < n) : wr.there gp (i * 8) 8 := by
 obtain ⟨zs, a, _⟩ := h.prow
 have hl : zs.length = n * 8 := a.1
 intro j hj
 exact ⟨by rw [World.ownsRow.cellAt a (i * 8 + j) (by omega), List.getElem?_eq_getElem (by omega)]; rfl, World.ownsRow.frozenAt a _⟩
theorem WL.putR {V wr : World} {s : ByteArray} {N n M gp gr dp D d : Nat} {x : Pat} (h : WL V wr s N x n M gp gr dp D) (hD : D ≤ d + 1) (hd : d < M) {u : Value} (hu : MP wr (fun y => V.heap.size ≤ y) N u (Mt s (pdrop d x))) (hr : gr < V.heap.size) (hpr : gp ≠ gr) : WL V (wr.setCell ⟨gr, d, none⟩ u) s N x n M gp gr dp d := by
 obtain ⟨zs, hz, hm⟩ := h.prow
 obtain ⟨vs, hv, hb⟩ := h.rrow
 have hl : vs.length = M := by have := hv.1; omega
 have hk : Keeps [gr] wr (wr.setCell ⟨gr, d, none⟩ u) := (Keeps.refl [gr] wr).setCell (p := ⟨gr, d, none⟩) (by simp) _
 have hS : ∀ y, (fun y => V.heap.size ≤ y) y → y ∉ [gr] := by intro y hy; simp at hy ⊢; omega
 refine ⟨h.keep.trans (hk.mono (by simp)), ⟨zs, hz.keep hk (by intro y hy; simp only [Value.ownBlock, Option.some.injEq] at hy; simp; omega), hm.keep hk hS⟩, ⟨vs.set d u, (World.ownsRow.stored hv d u).1, fun e h1 h2 => ?_⟩⟩
 by_cases e1 : e = d
 ·subst e1
  exact ⟨u, by rw [List.getElem?_set_self (by omega)], hu.keep hk hS⟩
 ·obtain ⟨v, x, y⟩ := hb e (by omega) h2
  exact ⟨v, by rw [List.getElem?_set_ne (by omega)]; exact x, y.keep hk hS⟩
theorem WL.putP {V wr : World} {s : ByteArray} {N n M gp gr d dr : Nat} {x y : Pat} {ds : List Value} (h : WL V wr s N x n M gp gr (d + 1) dr) (hd : d < n) (hy : Mk wr (fun z => V.heap.size ≤ z) s N .piece y ds) (hx : pdrop d x = .pcons y (pdrop (d + 1) x)) (hp : gp < V.heap.size) (hpr : gp ≠ gr) :
    WL V (wr.setCells gp (d * 8) ds) s N x n M gp gr d dr := by
 obtain ⟨zs, hz, hm⟩ := h.prow
 obtain ⟨vs, hv, hb⟩ := h.rrow
 have hl8 : ds.length = 8 := hy.form.2
 have hl : zs.length = n * 8 := hz.1
 have hk : Keeps [gp] wr (wr.setCells gp (d * 8) ds) := Keeps.setCells (by simp) ds wr _ (Keeps.refl [gp] wr)
 have hS : ∀ y, (fun y => V.heap.size ≤ y) y → y ∉ [gp] := by intro y hy; simp at hy ⊢; omega
 refine ⟨h.keep.trans (hk.mono (by simp)), ⟨over zs (d * 8) ds, ownsOver ds _ _ _ hz, ?_⟩, ⟨vs, hv.keep hk (by intro y hy; simp only [Value.ownBlock, Option.some.injEq] at hy; simp; omega), fun e h1 h2 => ?_⟩⟩
 ·rw [over_drop _ _ _ (by omega), hx, hl8, show d * 8 + 8 = (d + 1) * 8 by omega]
  exact .pcons _ _ _ _ (hy.keep hk hS) (hm.keep hk hS)
 ·obtain ⟨v, x, y⟩ := hb e h1 h2
  exact ⟨v, x, y.keep hk hS⟩
end Go.Proofs.YtnfojonmohijpabGreatDoor
namespace Go.Proofs.YtnfojonmohijpabGreatDoor
open Go.RowKit
theorem strEq (a b : ByteArray) : (a.toList == b.toList) = decide (a = b) := by
 rw [ByteArray.toList_eq, ByteArray.toList_eq]
 by_cases h : a = b
 ·subst h; simp
 ·have h2 : ¬ a.data = b.data := fun e => h (ByteArray.ext e)
  simp [h, h2]
end Go.Proofs.YtnfojonmohijpabGreatDoor
namespace Go.Proofs.YtnfojonmohijpabGreatDoor
open Go.RowKit
def Cmd.cells (k : Cmd) (p : ByteArray) : Array Value := #[.bool k.c, .bool k.i, .bool k.n, .bool k.o, .bool k.v, .bool k.x, .string k.tp, .string p]
def AB (w : World) (b : Nat) (k : Cmd) (p : ByteArray) : Prop := w.heap[b]? = some (.cells (k.cells p) 108 (0, 0))
theorem AB.lt {w : World} {b : Nat} {k : Cmd} {p : ByteArray} (h : AB w b k p) : b < w.heap.size := (Array.getElem?_eq_some_iff.1 h).1
theorem AB.keep {w w' : World} {b : Nat} {k : Cmd} {p : ByteArray} {S : List Nat} (h : AB w b k p) (hk : Keeps S w w') (hb : b ∉ S) : AB w' b k p := (hk.block b h.lt hb).trans h
theorem AB.main {w : World} {b : Nat} {k : Cmd} {p : ByteArray} (h : AB w b k p) : w.cell? ⟨b, 0, none⟩ = some (.bool k.c) ∧ w.cell? ⟨b, 1, none⟩ = some (.bool k.i) ∧ w.cell? ⟨b, 2, none⟩ = some (.bool k.n) ∧ w.cell? ⟨b, 3, none⟩ = some (.bool k.o) ∧ w.cell? ⟨b, 4, none⟩ = some (.bool k.v) ∧ w.cell? ⟨b, 5, none⟩ = some (.bool k.x) ∧ w.cell? ⟨b, 6, none⟩ = some (.string k.tp) ∧ w.cell? ⟨b, 7, none⟩ = some (.string p) := by
 unfold AB at h
 simp [World.cell?, h, Cmd.cells]
theorem AB.frz {w : World} {b : Nat} {k : Cmd} {p : ByteArray} (h : AB w b k p) (j : Nat) : w.frozen? ⟨b, j, none⟩ = false := by
 unfold AB at h
 simp [World.frozen?, h]
theorem AB.set_c {w : World} {b : Nat} {k : Cmd} {p : ByteArray} (h : AB w b k p) : AB (w.setCell ⟨b, 0, none⟩ (.bool true)) b { k with c := true } p := by
 unfold AB at *
 simp [World.setCell, Array.getElem?_modify, h, Cmd.cells]
theorem AB.set_i {w : World} {b : Nat} {k : Cmd} {p : ByteArray} (h : AB w b k p) : AB (w.setCell ⟨b, 1, none⟩ (.bool true)) b { k with i := true } p := by
 unfold AB at *
 simp [World.setCell, Array.getElem?_modify, h, Cmd.cells]
theorem AB.set_n {w : World} {b : Nat} {k : Cmd} {p : ByteArray} (h : AB w b k p) : AB (w.setCell ⟨b, 2, none⟩ (.bool true)) b { k with n := true } p := by
 unfold AB at *
 simp [World.setCell, Array.getElem?_modify, h, Cmd.cells]
theorem AB.set_o {w : World} {b : Nat} {k : Cmd} {p : ByteArray} (h : AB w b k p) : AB (w.setCell ⟨b, 3, none⟩ (.bool true)) b { k with o := true } p := by
 unfold AB at *
 simp [World.setCell, Array.getElem?_modify, h, Cmd.cells]
theorem AB.set_v {w : World} {b : Nat} {k : Cmd} {p : ByteArray} (h : AB w b k p) : AB (w.setCell ⟨b, 4, none⟩ (.bool true)) b { k with v := true } p := by
 unfold AB at *
 simp [World.setCell, Array.getElem?_modify, h, Cmd.cells]
theorem AB.set_x {w : World} {b : Nat} {k : Cmd} {p : ByteArray} (h : AB w b k p) : AB (w.setCell ⟨b, 5, none⟩ (.bool true)) b { k with x := true } p := by
 unfold AB at *
 simp [World.setCell, Array.getElem?_modify, h, Cmd.cells]
theorem AB.set_t {w : World} {b : Nat} {k : Cmd} {p : ByteArray} (h : AB w b k p) (t : ByteArray) : AB ((w.setCell ⟨b, 3, none⟩ (.bool true)).setCell ⟨b, 6, none⟩ (.string t)) b { k with o := true, tp := t } p := by
 unfold AB at *
 simp [World.setCell, Array.getElem?_modify, h, Cmd.cells]
theorem AB.set_p {w : World} {b : Nat} {k : Cmd} {p : ByteArray} (h : AB w b k p) (t : ByteArray) : AB (w.setCell ⟨b, 7, none⟩ (.string t)) b k t := by
 unfold AB at *
 simp [World.setCell, Array.getElem?_modify, h, Cmd.cells]
def AlPost (b : Nat) (k : Cmd) (p : ByteArray) (r : Option Cmd) (w : World) (e : Ending) (w' : World) : Prop :=
 Keeps [b] w w' ∧ match r with
  | some k' => e = .returned (.bool true) ∧ AB w' b k' p
  | none => e = .returned (.bool false)
set_option maxRecDepth 100000 in
set_option maxHeartbeats 1000000 in
theorem addLetter_any (b : Nat) (k : Cmd) (p : ByteArray) (u : Int) (w : World) (h : AB w b k p) : Calls Tryz.prog 114 #[.pointer (some ⟨b, 0, none⟩), .int .u8 u] w (AlPost b k p (k.add u) w) := by
 obtain ⟨c0, c1, c2, c3, c4, c5, _, _⟩ := h.main
 by_cases h99 : u = 99
 ·have HA : Hid (k.add u = some { k with c := true }) := by show k.add u = _; unfold Cmd.add; rw [if_pos h99]
  have e99 : (u == 99) = true := by simpa using h99
  have hz := h.frz 0
  have hs := h.set_c
  have hk := (Keeps.refl [b] w).setCell (p := ⟨b, 0, none⟩) (by simp) (.bool true)
  clear h99
  go_enter Tryz.func114, Tryz.ntmps114
  go_wp2_with fail
  go_ret
  refine ⟨hk, ?_⟩
  rw [HA.out]
  exact ⟨rfl, hs⟩
 have e99 : (u == 99) = false := by simpa using h99
 by_cases h105 : u = 105
 ·have HA : Hid (k.add u = some { k with i := true }) := by show k.add u = _; unfold Cmd.add; rw [if_neg h99, if_pos h105]
  have e105 : (u == 105) = true := by simpa using h105
  have hz := h.frz 1
  have hs := h.set_i
  have hk := (Keeps.refl [b] w).setCell (p := ⟨b, 1, none⟩) (by simp) (.bool true)
  clear h105
  go_enter Tryz.func114, Tryz.ntmps114
  go_wp2_with fail
  go_ret
  refine ⟨hk, ?_⟩
  rw [HA.out]
  exact ⟨rfl, hs⟩
 have e105 : (u == 105) = false := by simpa using h105
 by_cases h110 : u = 110
 ·have HA : Hid (k.add u = some { k with n := true }) := by show k.add u = _; unfold Cmd.add; rw [if_neg h99, if_neg h105, if_pos h110]
  have e110 : (u == 110) = true := by simpa using h110
  have hz := h.frz 2
  have hs := h.set_n
  have hk := (Keeps.refl [b] w).setCell (p := ⟨b, 2, none⟩) (by simp) (.bool true)
  clear h110
  go_enter Tryz.func114, Tryz.ntmps114
  go_wp2_with fail
  go_ret
  refine ⟨hk, ?_⟩
  rw [HA.out]
  exact ⟨rfl, hs⟩
 have e110 : (u == 110) = false := by simpa using h110
 by_cases h111 : u = 111
 ·have HA : Hid (k.add u = some { k with o := true }) := by show k.add u = _; unfold Cmd.add; rw [if_neg h99, if_neg h105, if_neg h110, if_pos h111]
  have e111 : (u == 111) = true := by simpa using h111
  have hz := h.frz 3
  have hs := h.set_o
  have hk := (Keeps.refl [b] w).setCell (p := ⟨b, 3, none⟩) (by simp) (.bool true)
  clear h111
  go_enter Tryz.func114, Tryz.ntmps114
  go_wp2_with fail
  go_ret
  refine ⟨hk, ?_⟩
  rw [HA.out]
  exact ⟨rfl, hs⟩
 have e111 : (u == 111) = false := by simpa using h111
 by_cases h118 : u = 118
 ·have HA : Hid (k.add u = some { k with v := true }) := by show k.add u = _; unfold Cmd.add; rw [if_neg h99, if_neg h105, if_neg h110, if_neg h111, if_pos h118]
  have e118 : (u == 118) = true := by simpa using h118
  have hz := h.frz 4
  have hs := h.set_v
  have hk := (Keeps.refl [b] w).setCell (p := ⟨b, 4, none⟩) (by simp) (.bool true)
  clear h118
  go_enter Tryz.func114, Tryz.ntmps114
  go_wp2_with fail
  go_ret
  refine ⟨hk, ?_⟩
  rw [HA.out]
  exact ⟨rfl, hs⟩
 have e118 : (u == 118) = false := by simpa using h118
 by_cases h120 : u = 120
 ·have HA : Hid (k.add u = some { k with x := true }) := by show k.add u = _; unfold Cmd.add; rw [if_neg h99, if_neg h105, if_neg h110, if_neg h111, if_neg h118, if_pos h120]
  have e120 : (u == 120) = true := by simpa using h120
  have hz := h.frz 5
  have hs := h.set_x
  have hk := (Keeps.refl [b] w).setCell (p := ⟨b, 5, none⟩) (by simp) (.bool true)
  clear h120
  go_enter Tryz.func114, Tryz.ntmps114
  go_wp2_with fail
  go_ret
  refine ⟨hk, ?_⟩
  rw [HA.out]
  exact ⟨rfl, hs⟩
 have e120 : (u == 120) = false := by simpa using h120
 have HA : Hid (k.add u = none) := by show k.add u = _; unfold Cmd.add; rw [if_neg h99, if_neg h105, if_neg h110, if_neg h111, if_neg h118, if_neg h120]
 clear h99 h105 h110 h111 h118 h120
 go_enter Tryz.func114, Tryz.ntmps114
 go_wp2_with fail
 go_ret
 refine ⟨Keeps.refl _ _, ?_⟩
 rw [HA.out]
 rfl
set_option maxRecDepth 100000 in
set_option maxHeartbeats 1000000 in
theorem addLetters_any (b : Nat) (k : Cmd) (p s : ByteArray) (hs : s.size ≤ 9223372036854775807) (w : World) (h : AB w b k p) : Calls Tryz.prog 78 #[.pointer (some ⟨b, 0, none⟩), .string s] w (AlPost b k p (letF s k s.size 0) w) := by
 have hs' : (s.size : Int) ≤ 9223372036854775807 := by omega
 go_enter Tryz.func78, Tryz.ntmps78
 go_wp2_with fail
 go_loopw [8] (fun q wr => ∃ (j : Nat) (k' : Cmd), q = .int .i64 j ∧ j ≤ s.size ∧ AB wr b k' p ∧ Hid (letF s k s.size 0 = letF s k' (s.size - j) j) ∧ Keeps [b] w wr) (fun q _ => s.size - (intOf q).toNat)
 case atStart => exact ⟨0, k, rfl, Nat.zero_le _, h, rfl, Keeps.refl _ _⟩
 case round =>
  clear h
  obtain ⟨j, k', rfl, hj, hA, HL, hK⟩ := hrel
  have hj0 : (0 : Int) ≤ (j : Int) := by omega
  by_cases hlt : j < s.size
  rotate_left
  ·have hje : j = s.size := by omega
   have hlt' : ¬ (j : Int) < (s.size : Int) := by omega
   have HE : Hid (letF s k s.size 0 = some k') := by
    show letF s k s.size 0 = _
    rw [HL.out, hje, Nat.sub_self]
    rfl
   clear hlt hj hje
   go_wp2_with fail
   go_ret
   refine ⟨hK, ?_⟩
   rw [HE.out]
   exact ⟨rfl, hA⟩
  have hlt' : (j : Int) < (s.size : Int) := by omega
  have HJ : Hid (j < s.size) := hlt
  have hat := at'_lt hlt
  have hC := addLetter_any b k' p ((s[j]'hlt).toNat : Int) wr hA
  have HS : Hid (letF s k' (s.size - j) j = match k'.add (at' s j) with | none => none | some k2 => letF s k2 (s.size - (j + 1)) (j + 1)) := by
   show letF s k' (s.size - j) j = _
   rw [show s.size - j = (s.size - (j + 1)) + 1 by omega]
   rfl
  rw [hat] at HS
  clear hj hat
  go_wp2_with fail
  refine hC.mono ?_
  rintro e w2 ⟨hk2, hc2⟩
  have hK2 := hK.trans hk2
  cases hadd : k'.add ((s[j]'hlt).toNat : Int) with
  | none =>
   rw [hadd] at hc2
   obtain rfl := hc2
   have HE : Hid (letF s k s.size 0 = none) := by show letF s k s.size 0 = _; rw [HL.out, HS.out, hadd]
   clear hC hadd
   go_wp2_with fail
   go_ret
   refine ⟨hK2, ?_⟩
   rw [HE.out]
   rfl
  | some k2 =>
   rw [hadd] at hc2
   obtain ⟨rfl, hA2⟩ := hc2
   have HE : Hid (letF s k s.size 0 = letF s k2 (s.size - (j + 1)) (j + 1)) := by show letF s k s.size 0 = _; rw [HL.out, HS.out, hadd]
   clear hC hadd
   go_wp2_with fail
   go_roundw
   case rel => exact ⟨j + 1, k2, by go_num, HJ.out, hA2, HE, hK2⟩
   case measure => have := HJ.out; simp [intOf]; omega
structure ArgIs (w : World) (v : Value) (l : List ByteArray) : Prop where
 len : l.length ≤ 9223372036854775807
 rd : (l = [] ∧ ∃ a c, v = .slice a 0 c) ∨ ∃ g o c, v = .slice (some ⟨g, o, none⟩) l.length c ∧ (∀ (k : Nat) (a : ByteArray), l[k]? = some a → w.cell? ⟨g, o + k, none⟩ = some (.string a)) ∧ l.length ≤ c ∧ c ≤ 9223372036854775807
 sz : ∀ a ∈ l, a.size ≤ 9223372036854775807
theorem ArgIs.keep {w w' : World} {v : Value} {l : List ByteArray} (h : ArgIs w v l) (hk : Keeps [] w w') : ArgIs w' v l := by
 refine ⟨h.len, ?_, h.sz⟩
 rcases h.rd with h | ⟨g, o, c, h1, h2, h3⟩
 ·exact Or.inl h
 ·exact Or.inr ⟨g, o, c, h1, fun k a ha => keep_cell hk (h2 k a ha), h3⟩
theorem ArgIs.sl {w : World} {v : Value} {l : List ByteArray} (h : ArgIs w v l) : ∃ a c, v = .slice a l.length c := by
 rcases h.rd with ⟨rfl, a, c, h⟩ | ⟨g, o, c, h, _⟩
 ·exact ⟨a, c, h⟩
 ·exact ⟨_, c, h⟩
theorem ArgIs.cons {w : World} {v : Value} {a : ByteArray} {l : List ByteArray} (h : ArgIs w v (a :: l)) : ∃ g o c, v = .slice (some ⟨g, o, none⟩) (l.length + 1) c ∧ w.cell? ⟨g, o, none⟩ = some (.string a) ∧ l.length + 1 ≤ c ∧ c ≤ 9223372036854775807 ∧ a.size ≤ 9223372036854775807 ∧ ArgIs w (.slice (some ⟨g, o + 1, none⟩) l.length (c - 1)) l := by
 rcases h.rd with ⟨h0, _⟩ | ⟨g, o, c, h1, h2, h3, h4⟩
 ·cases h0
 ·rw [List.length_cons] at h1 h3
  have hl := h.len
  rw [List.length_cons] at hl
  refine ⟨g, o, c, h1, h2 0 a rfl, h3, h4, h.sz a (by simp), by omega, Or.inr ⟨g, o + 1, c - 1, rfl, fun k x hx => ?_, by omega, by omega⟩, fun x hx => h.sz x (by simp [hx])⟩
  have := h2 (k + 1) x (by simpa using hx)
  rw [show o + 1 + k = o + (k + 1) by omega]
  exact this
theorem infoArgs (k : Cmd) (p : ByteArray) : (Tryz.prog.info? 108).map (·.size) = some (k.cells p).size := by kernel_rfl
theorem cells_one (k : Cmd) (p : ByteArray) : (k.cells p).all (·.oneCell') = true := by
 have h1 : ∀ b, (Value.bool b).oneCell' = true := fun _ => rfl
 have h2 : ∀ b, (Value.string b).oneCell' = true := fun _ => rfl
 simp [Cmd.cells, h1, h2]
def k0 : Cmd := ⟨false, false, false, false, false, false, ⟨#[]⟩⟩
theorem results_wp (tmps : Array Value) (w : World) (g : Nat) (k : Cmd) (p : ByteArray) (v5 : Value) (h4 : tmps.getD 4 undef = .pointer (some ⟨g, 0, none⟩)) (h5 : tmps.getD 5 undef = v5) (hp : AB w g k p) :
    (results Tryz.f77 tmps).run Tryz.prog w = .ok (.tuple #[.agg (k.cells p), v5]) w := by
 have h : Tryz.f77.results = #[.cell 4 108, .tmp 5] := rfl
 have e4 : tmps[4]?.getD undef = .pointer (some ⟨g, 0, none⟩) := by simpa using h4
 have e5 : tmps[5]?.getD undef = v5 := by simpa using h5
 have l1 := run_loadVar_row (P := Tryz.prog) w g 108 108 (k.cells p) (0, 0) _ hp Tryz.underlying108 rfl (infoArgs k p)
 simp [results, h, e4, e5, asAddr, l1]
theorem oneF_none (k : Cmd) : ∀ {l : List ByteArray}, ¬ l.length = 1 → oneF k l = none
 | [], _ => rfl
 | [a], h1 => absurd rfl h1
 | _ :: _ :: _, _ => rfl
def WpPost (k : Cmd) (l : List ByteArray) (w : World) (e : Ending) (w' : World) : Prop :=
 Keeps [] w w' ∧ match oneF k l with
  | some (k', p) => e = .returned (.tuple #[.agg (k'.cells p), .bool true])
  | none => e = .returned (.tuple #[.agg (k0.cells ⟨#[]⟩), .bool false])
set_option maxRecDepth 100000 in
set_option maxHeartbeats 1000000 in
theorem withPattern_any (k : Cmd) (p : ByteArray) (v : Value) (l : List ByteArray) (w : World) (hl : ArgIs w v l) : Calls Tryz.prog 77 #[.agg (k.cells p), v] w (WpPost k l w) := by
 have hb0 : AB ((w.alloc (.cells (k.cells p) 108)).alloc (.cells #[.bool false, .bool false, .bool false, .bool false, .bool false, .bool false, .string ⟨#[]⟩, .string ⟨#[]⟩] 108)) w.heap.size k p := by
  have h := heap_alloc_new w (.cells (k.cells p) 108)
  exact (((Keeps.refl [] (w.alloc (.cells (k.cells p) 108))).alloc (.cells #[.bool false, .bool false, .bool false, .bool false, .bool false, .bool false, .string ⟨#[]⟩, .string ⟨#[]⟩] 108)).block _ (Array.getElem?_eq_some_iff.1 h).1 (by simp)).trans h
 have hr0 : AB ((w.alloc (.cells (k.cells p) 108)).alloc (.cells #[.bool false, .bool false, .bool false, .bool false, .bool false, .bool false, .string ⟨#[]⟩, .string ⟨#[]⟩] 108)) (w.heap.size + 1) k0 ⟨#[]⟩ := by
  have h := heap_alloc_new (w.alloc (.cells (k.cells p) 108)) (.cells #[.bool false, .bool false, .bool false, .bool false, .bool false, .bool false, .string ⟨#[]⟩, .string ⟨#[]⟩] 108)
  rw [show (w.alloc (.cells (k.cells p) 108)).heap.size = w.heap.size + 1 by simp] at h
  exact h
 have hk0 : Keeps [] w ((w.alloc (.cells (k.cells p) 108)).alloc (.cells #[.bool false, .bool false, .bool false, .bool false, .bool false, .bool false, .string ⟨#[]⟩, .string ⟨#[]⟩] 108)) := ((Keeps.refl [] w).alloc _).alloc _
 have hl0 := hl.keep hk0
 obtain ⟨va, vc, hv⟩ := hl.sl
 subst hv
 have hlen := hl.len
 have hlen' : (l.length : Int) ≤ 9223372036854775807 := by omega
 go_enter Tryz.func77, Tryz.ntmps77
 go_upto_region 1 with (fail)
 generalize (w.alloc (.cells (k.cells p) 108)).alloc (.cells #[.bool false, .bool false, .bool false, .bool false, .bool false, .bool false, .string ⟨#[]⟩, .string ⟨#[]⟩] 108) = W at *
 obtain ⟨b, hbe⟩ : ∃ b, w.heap.size = b := ⟨_, rfl⟩
 have HB : Hid (w.heap.size = b) := hbe
 rw [hbe] at hb0 hr0 ⊢
 clear hbe hl
 by_cases h1 : l.length = 1
 ·obtain ⟨a, rfl⟩ := List.length_eq_one_iff.1 h1
  obtain ⟨g, o, c, hv, hca, _, _, _, _⟩ := hl0.cons
  simp only [List.length_cons, List.length_nil, Nat.zero_add] at hv ⊢
  cases hv
  have c7 := hb0.main.2.2.2.2.2.2.2
  have f7 := hb0.frz 7
  have hb1 := hb0.set_p a
  have hkS : Keeps [b] W (W.setCell ⟨b, 7, none⟩ (.string a)) := (Keeps.refl [b] W).setCell (p := ⟨b, 7, none⟩) (by simp) _
  have hr1 := hr0.keep hkS (by simp)
  have hK1 : Keeps [] w (W.setCell ⟨b, 7, none⟩ (.string a)) := hk0.fresh hkS (by intro x hx; simp at hx; have := HB.out; exact Or.inr (by omega))
  have hia := infoArgs k a
  have hone := cells_one k a
  have HR : Hid (AB (W.setCell ⟨b, 7, none⟩ (.string a)) (b + 1) k0 ⟨#[]⟩) := hr1
  have hsz : (k0.cells ⟨#[]⟩).size = (k.cells a).size := rfl
  clear hb0 hr0 hkS hl0 hk0 h1 hlen hlen'
  go_wp2_with (first | (refine wpList_load_row rfl 108 _ rfl b rfl _ _ _ _ hb1 Tryz.underlying108 rfl hia ?_) | (refine wpList_store_row rfl 108 _ _ rfl (b + 1) (k.cells a) rfl rfl _ _ HR.out hia hsz hone ?_))
  have hkR := (Keeps.refl [b + 1] (W.setCell ⟨b, 7, none⟩ (.string a))).setRow (g := b + 1) (by simp) (k.cells a)
  refine bodyPost_ret (results_wp _ _ (b + 1) k a _ rfl rfl (setRow_heap _ _ _ _ _ _ HR.out)) rfl ?_
  exact ⟨hK1.fresh hkR (by intro x hx; simp at hx; have := HB.out; exact Or.inr (by omega)), rfl⟩
 ·have hne : ((l.length : Int) != 1) = true := by simp; omega
  have hne' : ¬ (l.length : Int) = 1 := by omega
  have HO : Hid (oneF k l = none) := oneF_none k h1
  have hia := infoArgs k0 ⟨#[]⟩
  have hone := cells_one k0 ⟨#[]⟩
  have HR : Hid (AB W (b + 1) k0 ⟨#[]⟩) := hr0
  clear hb0 hr0 hl0 h1 hlen
  go_wp2_with (first | (refine wpList_store_row rfl 108 _ _ rfl (b + 1) (k0.cells ⟨#[]⟩) rfl rfl _ _ HR.out hia rfl hone ?_))
  have hkR := (Keeps.refl [b + 1] W).setRow (g := b + 1) (by simp) (k0.cells ⟨#[]⟩)
  refine bodyPost_ret (results_wp _ _ (b + 1) k0 ⟨#[]⟩ _ rfl rfl (setRow_heap _ _ _ _ _ _ HR.out)) rfl ?_
  refine ⟨hk0.fresh hkR (by intro x hx; simp at hx; have := HB.out; exact Or.inr (by omega)), ?_⟩
  rw [HO.out]
  rfl
theorem pre45 (s : ByteArray) (h : 1 ≤ s.size) : ((s.extract 0 1).toList == [45]) = decide (at' s 0 = 45) := by
 rw [ByteArray.toList_eq]
 have e : (s.extract 0 1).data.toList = [s[0]'h] := by
  apply List.ext_getElem
  ·have : (s.extract 0 1).data.toList.length = (s.extract 0 1).size := Array.length_toList
   rw [this, ByteArray.size_extract]
   simp
   omega
  ·intro i h1 h2
   have hi : i = 0 := by simpa using h2
   subst hi
   simp only [List.getElem_cons_zero]
   show (s.extract 0 1).data[0] = _
   have := ByteArray.getElem_extract (b := s) (start := 0) (stop := 1) (i := 0) (h := by rw [ByteArray.size_extract]; omega)
   exact this
 rw [e, at'_lt h]
 by_cases hc : s[0]'h = 45
 ·rw [hc]; rfl
 ·have h2 : ¬ ((s[0]'h).toNat : Int) = 45 := fun hh => hc (UInt8.toNat_inj.1 (by have : (45 : UInt8).toNat = 45 := rfl; omega))
  rw [decide_eq_false h2]
  simp [hc]
theorem is45 (s : ByteArray) : (s.toList == [45]) = decide (s.size = 1 ∧ at' s 0 = 45) := by
 rw [show ([45] : List UInt8) = (⟨#[45]⟩ : ByteArray).toList by rw [ByteArray.toList_eq], strEq]
 by_cases h : s = ⟨#[45]⟩
 ·subst h
  decide
 ·rw [decide_eq_false h, decide_eq_false]
  rintro ⟨h1, h2⟩
  apply h
  obtain ⟨⟨l⟩⟩ := s
  match l, h1 with
  | [u], _ =>
   have : (u.toNat : Int) = 45 := h2
   have hu : u = 45 := UInt8.toNat_inj.1 (by have : (45 : UInt8).toNat = 45 := rfl; omega)
   rw [hu]
set_option maxHeartbeats 1000000 in
theorem hasPre45 (s : ByteArray) (w : World) : Calls Tryz.prog 113 #[.string s, .string ⟨#[45]⟩] w fun e w' => e = .returned (.bool (decide (at' s 0 = 45))) ∧ w' = w := by
 have hin : Calls Tryz.prog 135 #[.string s, .string ⟨#[45]⟩] w fun e w' => e = .returned (.bool (decide (at' s 0 = 45))) ∧ w' = w := by
  by_cases h : 1 ≤ s.size
  ·have he := pre45 s h
   have h' : (1 : Int) ≤ (s.size : Int) := by omega
   have hd : decide ((1 : Int) ≤ (s.size : Int)) = true := by simpa using h'
   obtain ⟨q, hq⟩ : ∃ q, decide (at' s 0 = 45) = q := ⟨_, rfl⟩
   rw [hq] at he ⊢
   clear hq
   go_enter Tryz.func135, Tryz.ntmps135
   go_wp2_with fail
   go_ret
   exact ⟨rfl, rfl⟩
  ·have hn : decide (at' s 0 = 45) = false := by
      have : at' s 0 = -1 := by unfold at'; rw [dif_neg (by omega)]
      rw [this]; decide
   have h' : ¬ (1 : Int) ≤ (s.size : Int) := by omega
   have hd : decide ((1 : Int) ≤ (s.size : Int)) = false := by simpa using h'
   rw [hn]
   go_enter Tryz.func135, Tryz.ntmps135
   go_wp2_with fail
   go_ret
   exact ⟨rfl, rfl⟩
 go_enter Tryz.func113, Tryz.ntmps113
 go_wp2_with fail
 refine hin.mono ?_
 rintro e w1 ⟨rfl, rfl⟩
 go_wp2_with fail
 go_ret
 exact ⟨rfl, rfl⟩
set_option maxHeartbeats 1000000 in
theorem beginsOption_any (s : ByteArray) (w : World) : Calls Tryz.prog 76 #[.string s] w fun e w' => e = .returned (.bool (decide (isOpt s))) ∧ w' = w := by
 have h1 := hasPre45 s w
 have h2 := is45 s
 by_cases h : at' s 0 = 45
 ·have hlt : 0 < s.size := at'_nn (by omega)
  rw [decide_eq_true h] at h1
  obtain ⟨q, hq⟩ : ∃ q, decide (isOpt s) = q := ⟨_, rfl⟩
  have h3 : (s.toList == [45]) = !q := by
   rw [h2, ← hq]
   by_cases h4 : s.size = 1
   ·rw [decide_eq_true ⟨h4, h⟩, decide_eq_false]
    ·rfl
    ·unfold isOpt; omega
   ·rw [decide_eq_false (by omega), decide_eq_true]
    ·rfl
    ·exact ⟨by omega, h⟩
  rw [hq]
  clear h2 hq h
  cases q
  all_goals
   go_enter Tryz.func76, Tryz.ntmps76
   go_wp2_with (first | (go_at_call 113; refine h1.mono ?_; rintro e w1 ⟨rfl, rfl⟩))
   go_ret
   exact ⟨rfl, rfl⟩
 ·rw [decide_eq_false h] at h1
  have hq : decide (isOpt s) = false := decide_eq_false fun hh => h hh.2
  rw [hq]
  clear h2 hq h
  go_enter Tryz.func76, Tryz.ntmps76
  go_wp2_with (first | (go_at_call 113; refine h1.mono ?_; rintro e w1 ⟨rfl, rfl⟩))
  go_ret
  exact ⟨rfl, rfl⟩
end Go.Proofs.YtnfojonmohijpabGreatDoor
