/-
  DERIVED. The program's newWay, its first statement: two rows and the way itself are made, in whatever order. Conditions: the text is at most 100 bytes long.
-/
import Derived.Test.YtnfojonmohijpaaGreatDoorJNL
import Derived.Test.YtnfojonmohijpaaGreatDoorJPA
import Derived.Test.YtnfojonmohijpaaGreatDoorJNJ
import Derived.Test.YtnfojonmohijpaaGreatDoorJRU
import Derived.Test.YtnfojonmohijpaaGreatDoorJPW
set_option linter.unusedSimpArgs false
set_option linter.unusedVariables false
namespace Go.Proofs.YtnfojonmohijpaaGreatDoor
open Go.RowKit
theorem wp_make_full {P : Program} (w : World) {o : Oper} {a : Act} {K : Act → World → Prop} {Q : Exit → Act → World → Prop}
    (d : Option Tmp) (hd : o.dst = d) (l c : Operand) (t : TypeId) (hop : o.op = Op.makeSlice t l c)
    (base : Nat) (e : TypeId) (i : TypeInfo) (z : Value) (size : Nat) (h1 : P.underlying t = some (.slice e)) (h2 : P.info? e = some i) (h3 : i.zero = some z) (h4 : i.size = size)
    (kl kc : IntKind) (L C : Int) (n : Nat) (hl : a.eval l = .int kl L) (hc : a.eval c = .int kc C) (hL : L = (n : Int)) (hC : C = (n : Int)) (b2 : i.bytes * n ≤ 281474976710656) (b3 : n ≤ maxLen) (b4 : base ≤ w.heap.size)
    (hK : ∀ w', w'.ownsRow base e size (.slice (some ⟨w.heap.size, 0, none⟩) n n) n (madeCells z.cells (n * size)).toList → w.grownBy w' none → K (a.put d (.slice (some ⟨w.heap.size, 0, none⟩) n n)) w') :
    o.wp P a w K Q := by
 subst hd
 obtain ⟨w', hrun, r1, r2⟩ := run_make_full (P := P) w base t e i z size h1 h2 h3 h4 kl kc n b2 b3 b4
 subst hL
 subst hC
 unfold Oper.wp
 simp [execOp, hop, hl, hc, hrun, Result.andThen]
 exact hK w' r1 r2
theorem wpAnyH_tk {P : Program} {ops : Array Oper} {Q : Exit → Act → World → Prop} {md : Region.Mode} {S : World → Prop} (i : Nat) (oi : Oper) (d : Option Tmp) (v : Value) {fuel : Nat} {listed : Array Bool} {a : Act} {w : World} (hi : ops[i]? = some oi) (hd : oi.dst = d)
    (hs : Region.noSelect ops = true) (hf : Region.free md ops listed i = true) (hr : (Region.ready md ops listed).contains i = true)
    (hQ : ∀ c a w, Q (.panic c) (a.put d v) w → Q (.panic c) a w) (hy : YieldsIf P ops S oi v a) (hS : S w)
    (h : wpAnyH P md ops Q S fuel (listed.setIfInBounds i true) (a.put d v) w) : wpAnyH P md ops Q S (fuel + 1) listed a w := by
 subst hd
 exact wpAnyH_take hi hs hf hr hQ hy hS h
theorem wp_store_midD {P : Program} {op : Oper} {a : Act} {w : World} {K : Act → World → Prop} {Q : Exit → Act → World → Prop} (hd : op.dst = none) (ty : TypeId) (x y : Operand) (ho : op.op = .store ty x y)
    (b o : Nat) (cells : Array Value) (hx : a.eval x = .pointer (some ⟨b, o, none⟩)) (hy : a.eval y = .agg cells)
    (ht : w.there b o cells.size) (hi : (P.info? ty).map (·.size) = some cells.size) (h1 : cells.all (·.oneCell') = true)
    (h : K (a.put none undef) (w.setCells b o cells.toList)) : op.wp P a w K Q := by
 rw [← hd] at h
 exact wp_store_mid ty x y ho b o cells hx hy ht hi h1 h
theorem wrap_small {z : Int} (h0 : 0 ≤ z) (h1 : z ≤ 1000000) : IntKind.i64.wrap z = z := by
 have h2 : z % 18446744073709551616 = z := by omega
 have : IntKind.i64.wrap z = if 9223372036854775808 ≤ z % 18446744073709551616 then z % 18446744073709551616 - 18446744073709551616 else z % 18446744073709551616 := by simp [IntKind.wrap, IntKind.bits, IntKind.signed]
 rw [this, h2, if_neg (by omega)]
theorem infoPc : (Tryz.prog.info? 273).map (fun i => (i.zero, i.size, i.bytes)) = some (some (.agg #[.int .i64 0, .slice none 0 0, .slice none 0 0, .slice none 0 0, .bool false, .int .i64 0, .int .i64 0, .slice none 0 0]), 8, 128) := by kernel_rfl
theorem infoWy (a b : Value) : (Tryz.prog.info? 222).map (·.size) = some (#[a, b] : Array Value).size := by kernel_rfl
structure WM (W wx : World) (n M gm gp gr : Nat) : Prop where
 made : wx.heap[gm]? = some (.cells #[.slice (some ⟨gp, 0, none⟩) n n, .slice (some ⟨gr, 0, none⟩) M M] 222 (0, 0))
 prow : ∃ zs, wx.ownsRow 0 273 8 (.slice (some ⟨gp, 0, none⟩) n n) n zs
 rrow : ∃ zs, wx.ownsRow 0 76 1 (.slice (some ⟨gr, 0, none⟩) M M) M zs
 mp : gm ≠ gp
 mr : gm ≠ gr
 pr : gp ≠ gr
 lm : W.heap.size ≤ gm
 lp : W.heap.size ≤ gp
 lr : W.heap.size ≤ gr
 keep : Keeps [] W wx
def WayIn (w : World) (S : Nat → Prop) (x : Pat) (v : Value) : Prop :=
 ∃ cs, Rep w S .plist x cs ∧ ∃ va n vc, v = .slice va n vc ∧ n = (pl x).length ∧ n ≤ 1000 ∧ w.ownsRow 0 212 261 v n cs
theorem pl_len : ∀ (x : Pat), (pl x).length ≤ x.sz
 | .pcons x r => by have := pl_len r; simp only [pl, List.length_cons, Pat.sz]; omega
 | .set _ => Nat.zero_le _
 | .grp _ _ => Nat.zero_le _
 | .rep _ _ _ => Nat.zero_le _
 | .pnil => Nat.zero_le _
 | .wone _ => Nat.zero_le _
 | .wcons _ _ => Nat.zero_le _
theorem Rep.wayIn {w : World} {S : Nat → Prop} {x : Pat} {v : Value} (h : Rep w S .way x [v]) (hx : x.sz ≤ 1000) : WayIn w S x v := by
 cases h with
 | way _ cs _ n hp ho _ =>
  obtain ⟨va, vn, vc, rfl⟩ := ownsRow_sl ho
  have h1 := ho.1
  have h2 := hp.pl_text.2.1
  have h3 := pl_len x
  have h4 : vn = n := by
   rcases ho.2 with ⟨e, e2⟩ | ⟨g, cap, cur, e, _⟩
   ·cases e
    exact e2.symm
   ·cases e
    rfl
  subst h4
  exact ⟨cs, hp, va, vn, vc, rfl, by omega, by omega, ho⟩
theorem pdrop_end {w : World} {S : Nat → Prop} {x : Pat} {cs : List Value} (h : Rep w S .plist x cs) : pdrop (pl x).length x = .pnil ∧ ∀ (i : Nat) (y : Pat), (pl x)[i]? = some y → pdrop i x = .pcons y (pdrop (i + 1) x) := by
 generalize hk : Kr.plist = kk at h
 induction h with
 | pnil => exact ⟨rfl, by intro i y hy; simp [pl] at hy⟩
 | pcons x r cs ds _ _ _ ih =>
  obtain ⟨a, b⟩ := ih rfl
  refine ⟨by simp only [pl, List.length_cons, pdrop]; exact a, ?_⟩
  intro i y hy
  cases i with
  | zero => simp [pl] at hy; subst hy; rfl
  | succ i => simp only [pdrop]; exact b i y (by simpa [pl] using hy)
 | _ => cases hk
theorem pfair {x : Pat} : ∀ {i : Nat} {y : Pat}, x.fair 9 → (pl x)[i]? = some y → y.fair 9 := by
 induction x with
 | pcons x r _ ih =>
  intro i y h hy
  cases i with
  | zero => simp [pl] at hy; subst hy; exact h.1
  | succ i => exact ih h.2 (by simpa [pl] using hy)
 | _ => intro i y _ hy; simp [pl] at hy
def over : List Value → Nat → List Value → List Value
 | xs, _, [] => xs
 | xs, o, v :: r => over (xs.set o v) (o + 1) r
theorem over_len : ∀ (vs xs : List Value) (o : Nat), (over xs o vs).length = xs.length
 | [], _, _ => rfl
 | v :: r, xs, o => by simp only [over]; rw [over_len]; simp
theorem over_drop : ∀ (vs xs : List Value) (o : Nat), o + vs.length ≤ xs.length → (over xs o vs).drop o = vs ++ xs.drop (o + vs.length)
 | [], xs, o, _ => by simp [over]
 | v :: r, xs, o, h => by
  simp only [over, List.length_cons] at *
  have ih := over_drop r (xs.set o v) (o + 1) (by simp; omega)
  have hl : (over (xs.set o v) (o + 1) r).length = xs.length := by rw [over_len]; simp
  have e0 : (over (xs.set o v) (o + 1) r)[o]? = some v := by
   have : ∀ (vs xs : List Value) (p q : Nat), q < p → (over xs p vs)[q]? = xs[q]? := by
    intro vs
    induction vs with
    | nil => intro xs p q _; rfl
    | cons u vs ih => intro xs p q hq; simp only [over]; rw [ih _ _ _ (by omega), List.getElem?_set_ne (by omega)]
   rw [this _ _ _ _ (by omega), List.getElem?_set_self (by omega)]
  rw [List.drop_eq_getElem_cons (by omega)]
  have e1 : (over (xs.set o v) (o + 1) r)[o]'(by omega) = v := by
   have := List.getElem?_eq_getElem (l := over (xs.set o v) (o + 1) r) (i := o) (by omega)
   rw [e0] at this
   exact (Option.some.inj this).symm
  rw [e1, ih, List.drop_set_of_lt (by omega)]
  have e2 : o + 1 + r.length = o + (r.length + 1) := by omega
  rw [e2]
  rfl
theorem ownsOver {g cap n size : Nat} {e : TypeId} : ∀ (vs : List Value) (w : World) (xs : List Value) (o : Nat), w.ownsRow 0 e size (.slice (some ⟨g, 0, none⟩) n cap) n xs → (w.setCells g o vs).ownsRow 0 e size (.slice (some ⟨g, 0, none⟩) n cap) n (over xs o vs)
 | [], _, _, _, h => h
 | v :: r, w, xs, o, h => by
  simp only [World.setCells, over]
  exact ownsOver r _ _ _ (World.ownsRow.stored h o v).1
theorem Keeps.setCells {S : List Nat} {a : World} {g : Nat} (hg : g ∈ S ∨ a.heap.size ≤ g) : ∀ (vs : List Value) (w : World) (o : Nat), Keeps S a w → Keeps S a (w.setCells g o vs)
 | [], _, _, h => h
 | v :: r, w, o, h => by
  simp only [World.setCells]
  exact Keeps.setCells hg r _ _ (h.setCell (p := ⟨g, o, none⟩) hg v)
theorem WM.of {W X : World} {n M gm gp gr : Nat} {zp zr : List Value} (hm : X.heap[gm]? = some (.cells #[.slice none 0 0, .slice none 0 0] 222 (0, 0))) (hp : X.ownsRow 0 273 8 (.slice (some ⟨gp, 0, none⟩) n n) n zp)
    (hr : X.ownsRow 0 76 1 (.slice (some ⟨gr, 0, none⟩) M M) M zr) (h1 : gm ≠ gp) (h2 : gm ≠ gr) (h3 : gp ≠ gr) (l1 : W.heap.size ≤ gm) (l2 : W.heap.size ≤ gp) (l3 : W.heap.size ≤ gr) (hk : Keeps [] W X) :
    WM W (X.setRow gm #[.slice (some ⟨gp, 0, none⟩) n n, .slice (some ⟨gr, 0, none⟩) M M]) n M gm gp gr := by
 have hk2 : Keeps [gm] X (X.setRow gm #[.slice (some ⟨gp, 0, none⟩) n n, .slice (some ⟨gr, 0, none⟩) M M]) := (Keeps.refl [gm] X).setRow (g := gm) (by simp) _
 exact ⟨setRow_heap _ _ _ _ _ _ hm, ⟨zp, hp.keep hk2 (by intro x hx; simp only [Value.ownBlock, Option.some.injEq] at hx; simp; omega)⟩, ⟨zr, hr.keep hk2 (by intro x hx; simp only [Value.ownBlock, Option.some.injEq] at hx; simp; omega)⟩, h1, h2, h3, l1, l2, l3, hk.setRow (Or.inr l1) _⟩
theorem wayCells {w : World} {g : Nat} {a b : Value} (h : w.heap[g]? = some (.cells #[a, b] 222 (0, 0))) : w.cell? ⟨g, 0, none⟩ = some a ∧ w.cell? ⟨g, 1, none⟩ = some b := by
 constructor <;> (rw [Lib.cell_of_heap h]; rfl)
theorem WM.rlt {W V : World} {n M gm gp gr : Nat} (h : WM W V n M gm gp gr) : gr < V.heap.size := by
 obtain ⟨zs, ho⟩ := h.rrow
 exact (World.ownsRow.lt ho gr rfl).2
theorem WM.plt {W V : World} {n M gm gp gr : Nat} (h : WM W V n M gm gp gr) : gp < V.heap.size := by
 obtain ⟨zs, ho⟩ := h.prow
 exact (World.ownsRow.lt ho gp rfl).2
structure WL (V wr : World) (s : ByteArray) (N : Nat) (x : Pat) (n M gp gr dp dr : Nat) : Prop where
 keep : Keeps [gp, gr] V wr
 prow : ∃ zs, wr.ownsRow 0 273 8 (.slice (some ⟨gp, 0, none⟩) n n) n zs ∧ Mk wr (fun y => V.heap.size ≤ y) s N .plist (pdrop dp x) (zs.drop (dp * 8))
 rrow : ∃ vs, wr.ownsRow 0 76 1 (.slice (some ⟨gr, 0, none⟩) M M) M vs ∧ ∀ e, dr ≤ e → e < M → ∃ u, vs[e]? = some u ∧ MP wr (fun y => V.heap.size ≤ y) N u (Mt s (pdrop e x))
theorem WL.start {W V w : World} {S : Nat → Prop} {s : ByteArray} {N n M gm gp gr : Nat} {x : Pat} {cs : List Value} (HN : Hid (N = s.size + 1)) (HM : Hid (M = n + 1)) (HNP : Hid (n = (pl x).length)) (hpl : Rep w S .plist x cs) (h : WM W V n M gm gp gr) : WL V V s N x n M gp gr n M := by
 obtain ⟨zs, hz⟩ := h.prow
 obtain ⟨vs, hv⟩ := h.rrow
 refine ⟨Keeps.refl _ _, ⟨zs, hz, ?_⟩, ⟨vs, hv, fun e h1 h2 => by omega⟩⟩
 have h1 : zs.length = n * 8 := hz.1
 rw [HNP.out, (pdrop_end hpl).1, ← HNP.out, ← h1, List.drop_length]
 exact .pnil
theorem WL.keeps {V wr w' : World} {s : ByteArray} {N n M gp gr dp dr : Nat} {x : Pat} (h : WL V wr s N x n M gp gr dp dr) (hk : Keeps [] wr w') : WL V w' s N x n M gp gr dp dr := by
 obtain ⟨zs, hz, hm⟩ := h.prow
 obtain ⟨vs, hv, hr⟩ := h.rrow
 refine ⟨h.keep.trans (hk.mono (by simp)), ⟨zs, hz.keep hk (by simp), hm.keep hk (by simp)⟩, ⟨vs, hv.keep hk (by simp), fun e h1 h2 => ?_⟩⟩
 obtain ⟨u, a, b⟩ := hr e h1 h2
 exact ⟨u, a, b.keep hk (by simp)⟩
theorem WL.rcell {V wr : World} {s : ByteArray} {N n M gp gr dp dr : Nat} {x : Pat} (h : WL V wr s N x n M gp gr dp dr) {e : Nat} (he : e < M) : (∃ u, wr.cell? ⟨gr, e, none⟩ = some u) ∧ wr.frozen? ⟨gr, e, none⟩ = false := by
 obtain ⟨vs, a, _⟩ := h.rrow
 have hl : vs.length = M := by have := a.1; omega
 exact ⟨⟨vs[e]'(by omega), by rw [World.ownsRow.cellAt a e (by omega), List.getElem?_eq_getElem]⟩, World.ownsRow.frozenAt a e⟩
theorem WL.rat {V wr : World} {s : ByteArray} {N n M gp gr dp dr : Nat} {x : Pat} (h : WL V wr s N x n M gp gr dp dr) {e : Nat} (hd : dr ≤ e) (he : e < M) : ∃ u, wr.cell? ⟨gr, e, none⟩ = some u ∧ MP wr (fun y => V.heap.size ≤ y) N u (Mt s (pdrop e x)) := by
 obtain ⟨vs, a, b⟩ := h.rrow
 obtain ⟨u, x, y⟩ := b e hd he
 exact ⟨u, (World.ownsRow.cellAt a e (by omega)).trans x, y⟩
theorem WL.pthere {V wr : World} {s : ByteArray} {N n M gp gr dp dr : Nat} {x : Pat} (h : WL V wr s N x n M gp gr dp dr) {i : Nat} (hi : i < n) : wr.there gp (i * 8) 8 := by
 obtain ⟨zs, a, _⟩ := h.prow
 have hl : zs.length = n * 8 := a.1
 intro j hj
 exact ⟨by rw [World.ownsRow.cellAt a (i * 8 + j) (by omega), List.getElem?_eq_getElem (by omega)]; rfl, World.ownsRow.frozenAt a _⟩
theorem WL.putR {V wr : World} {s : ByteArray} {N n M gp gr dp D d : Nat} {x : Pat} (h : WL V wr s N x n M gp gr dp D) (hD : D ≤ d + 1) (hd : d < M) {u : Value} (hu : MP wr (fun y => V.heap.size ≤ y) N u (Mt s (pdrop d x))) (hr : gr < V.heap.size) (hpr : gp ≠ gr) : WL V (wr.setCell ⟨gr, d, none⟩ u) s N x n M gp gr dp d := by
 obtain ⟨zs, hz, hm⟩ := h.prow
 obtain ⟨vs, hv, hb⟩ := h.rrow
 have hl : vs.length = M := by have := hv.1; omega
 have hk : Keeps [gr] wr (wr.setCell ⟨gr, d, none⟩ u) := (Keeps.refl [gr] wr).setCell (p := ⟨gr, d, none⟩) (by simp) _
 have hS : ∀ y, (fun y => V.heap.size ≤ y) y → y ∉ [gr] := by intro y hy; simp at hy ⊢; omega
 refine ⟨h.keep.trans (hk.mono (by simp)), ⟨zs, hz.keep hk (by intro y hy; simp only [Value.ownBlock, Option.some.injEq] at hy; simp; omega), hm.keep hk hS⟩, ⟨vs.set d u, (World.ownsRow.stored hv d u).1, fun e h1 h2 => ?_⟩⟩
 by_cases e1 : e = d
 ·subst e1
  exact ⟨u, by rw [List.getElem?_set_self (by omega)], hu.keep hk hS⟩
 ·obtain ⟨v, x, y⟩ := hb e (by omega) h2
  exact ⟨v, by rw [List.getElem?_set_ne (by omega)]; exact x, y.keep hk hS⟩
theorem WL.putP {V wr : World} {s : ByteArray} {N n M gp gr d dr : Nat} {x y : Pat} {ds : List Value} (h : WL V wr s N x n M gp gr (d + 1) dr) (hd : d < n) (hy : Mk wr (fun z => V.heap.size ≤ z) s N .piece y ds) (hx : pdrop d x = .pcons y (pdrop (d + 1) x)) (hp : gp < V.heap.size) (hpr : gp ≠ gr) :
    WL V (wr.setCells gp (d * 8) ds) s N x n M gp gr d dr := by
 obtain ⟨zs, hz, hm⟩ := h.prow
 obtain ⟨vs, hv, hb⟩ := h.rrow
 have hl8 : ds.length = 8 := hy.form.2
 have hl : zs.length = n * 8 := hz.1
 have hk : Keeps [gp] wr (wr.setCells gp (d * 8) ds) := Keeps.setCells (by simp) ds wr _ (Keeps.refl [gp] wr)
 have hS : ∀ y, (fun y => V.heap.size ≤ y) y → y ∉ [gp] := by intro y hy; simp at hy ⊢; omega
 refine ⟨h.keep.trans (hk.mono (by simp)), ⟨over zs (d * 8) ds, ownsOver ds _ _ _ hz, ?_⟩, ⟨vs, hv.keep hk (by intro y hy; simp only [Value.ownBlock, Option.some.injEq] at hy; simp; omega), fun e h1 h2 => ?_⟩⟩
 ·rw [over_drop _ _ _ (by omega), hx, hl8, show d * 8 + 8 = (d + 1) * 8 by omega]
  exact .pcons _ _ _ _ (hy.keep hk hS) (hm.keep hk hS)
 ·obtain ⟨v, x, y⟩ := hb e h1 h2
  exact ⟨v, x, y.keep hk hS⟩
end Go.Proofs.YtnfojonmohijpaaGreatDoor
namespace Go.Proofs.YtnfojonmohijpaaGreatDoor
open Go.RowKit
def RuC (w : World) (g o : Nat) (rs : List Rul) : Prop := ∀ (k : Nat) (r : Rul), rs[k]? = some r → w.rangeAt g (o + k * 3) [.string r.nm, .string r.pt, .bool r.sk]
theorem RuC.keep {w w' : World} {g o : Nat} {rs : List Rul} {S : List Nat} (h : RuC w g o rs) (hk : Keeps S w w') (hS : g ∉ S) : RuC w' g o rs := fun k r hr q u hu => by
 have h1 := h k r hr q u hu
 exact (World.cell?_of_block (hk.block g (World.block_lt_of_cell? _ _ h1) hS)).trans h1
theorem strEq (a b : ByteArray) : (a.toList == b.toList) = decide (a = b) := by
 rw [ByteArray.toList_eq, ByteArray.toList_eq]
 by_cases h : a = b
 ·subst h; simp
 ·have h2 : ¬ a.data = b.data := fun e => h (ByteArray.ext e)
  simp [h, h2]
theorem cf_chk1 : ∀ args w1, (callFunc 189 args).run Tryz.prog w1 = .ok (.enter 189 args) w1 := fun args w1 => by
 kernel_rfl
theorem infoRul : (Tryz.prog.info? 41).map (fun i => (i.zero, i.size, i.bytes)) = some (some (.agg #[.string ⟨#[]⟩, .string ⟨#[]⟩, .bool false]), 3, 40) := by kernel_rfl
set_option maxRecDepth 100000 in
set_option maxHeartbeats 2000000 in
theorem chk1_any (r : Rul) (name : ByteArray) (bn : Nat) (w : World) (hbn : w.cell? ⟨bn, 0, none⟩ = some (.string name)) :
    Calls Tryz.prog 189 #[.agg #[.string r.nm, .string r.pt, .bool r.sk], .pointer (some ⟨bn, 0, none⟩)] w fun e w' => e = .returned (.bool (decide (r.nm = name))) ∧ Keeps [] w w' := by
 have hq0 : (w.alloc (.cells #[.string r.nm, .string r.pt, .bool r.sk] 41)).heap[w.heap.size]? = some (.cells #[.string r.nm, .string r.pt, .bool r.sk] 41 (0, 0)) := heap_alloc_new w _
 have hk0 : Keeps [] w (w.alloc (.cells #[.string r.nm, .string r.pt, .bool r.sk] 41)) := (Keeps.refl [] w).alloc _
 have hb0 := keep_cell hk0 hbn
 have hn0 : (w.alloc (.cells #[.string r.nm, .string r.pt, .bool r.sk] 41)).cell? ⟨w.heap.size, 0, none⟩ = some (.string r.nm) := by rw [Lib.cell_of_heap hq0]; rfl
 have he := strEq r.nm name
 go_enter Tryz.func189, Tryz.ntmps189
 go_upto_region 1 with (fail)
 generalize w.alloc (.cells #[.string r.nm, .string r.pt, .bool r.sk] 41) = X at *
 obtain ⟨b, hb⟩ : ∃ b, decide (r.nm = name) = b := ⟨_, rfl⟩
 rw [hb] at he
 have HB : Hid (decide (r.nm = name) = b) := hb
 clear hq0 hb
 go_wp2_with fail
 go_ret
 exact ⟨by rw [HB.out]; rfl, hk0⟩
set_option maxRecDepth 100000 in
set_option maxHeartbeats 2000000 in
theorem indexRul_any (rs : List Rul) (name : ByteArray) (n g o c bn : Nat) (hn : n ≤ rs.length) (h8 : n ≤ 8) (w : World) (hc : RuC w g o rs) (hbn : w.cell? ⟨bn, 0, none⟩ = some (.string name)) :
    Calls Tryz.prog 229 #[.slice (some ⟨g, o, none⟩) n c, .func (.func 189) #[] #[.pointer (some ⟨bn, 0, none⟩)]] w fun e w' => ∃ z : Int, e = .returned (.int .i64 z) ∧ ((0 ≤ z ∧ ¬ Fresh rs n name) ∨ (z < 0 ∧ Fresh rs n name)) ∧ Keeps [] w w' := by
 have hcf := cf_chk1
 have h8' : (n : Int) ≤ 8 := by omega
 have HL : Hid (n ≤ rs.length) := hn
 go_enter Tryz.func229, Tryz.ntmps229
 clear hn h8
 go_wp2_with fail
 go_loopw [5, 8] (fun _ q wr => ∃ k : Nat, k ≤ n ∧ q = .int .i64 k ∧ Hid (Fresh rs k name) ∧ Keeps [] w wr) (fun _ q _ => n - (intOf q).toNat)
 case atStart => exact ⟨0, Nat.zero_le _, rfl, fun d z h => by omega, Keeps.refl _ _⟩
 case round =>
  obtain ⟨k, hk, rfl, HA, hK⟩ := hrel
  by_cases hlt : k < n
  ·obtain ⟨r, hr⟩ : ∃ r, rs[k]? = some r := ⟨_, List.getElem?_eq_getElem (by have := HL.out; omega)⟩
   have hrg := (hc.keep hK (by simp)) k r hr
   have hC := chk1_any r name bn wr (keep_cell hK hbn)
   have hk0 : (0 : Int) ≤ (k : Int) := by omega
   have hk1 : (k : Int) < (n : Int) := by omega
   have HK : Hid (k < n) := hlt
   have HY : Hid (rs[k]? = some r) := hr
   have hi2 : (Tryz.prog.info? 41).map (·.size) = some 3 := by kernel_rfl
   clear hk hlt hr
   go_wp2_with (first | (refine wpList_load_mid rfl 41 _ rfl g (o + k * 3) rfl _ _ hrg Tryz.underlying41 rfl hi2 ?_))
   refine hC.mono ?_
   rintro e w2 ⟨rfl, hk2⟩
   have hK2 := hK.trans hk2
   by_cases hb : r.nm = name
   ·have HM : Hid (¬ Fresh rs n name) := fun h => h k r HK.out HY.out hb
    have e1 : decide (r.nm = name) = true := by simp [hb]
    rw [e1]
    clear hC hb e1
    go_wp2_with fail
    go_ret
    exact ⟨k, rfl, Or.inl ⟨by omega, HM.out⟩, hK2⟩
   ·have HA2 : Hid (Fresh rs (k + 1) name) := fun d q hd hq => by
       by_cases e : d < k
       ·exact HA.out d q e hq
       ·have : d = k := by omega
        subst this
        have h := HY.out
        rw [h] at hq
        cases hq
        exact hb
    have e1 : decide (r.nm = name) = false := by simp [hb]
    rw [e1]
    clear hC hb e1
    go_wp2_with fail
    exact ⟨⟨k + 1, HK.out, by go_num, HA2.out, hK2⟩, by have := HK.out; simp [intOf]; omega⟩
  ·have he : k = n := by omega
   subst he
   clear hk hlt
   go_wp2_with fail
   go_ret
   exact ⟨-1, rfl, Or.inr ⟨by decide, HA.out⟩, hK⟩
set_option maxRecDepth 100000 in
set_option maxHeartbeats 2000000 in
theorem containsRul_any (rs : List Rul) (name : ByteArray) (n g o c bn : Nat) (hn : n ≤ rs.length) (h8 : n ≤ 8) (w : World) (hc : RuC w g o rs) (hbn : w.cell? ⟨bn, 0, none⟩ = some (.string name)) :
    Calls Tryz.prog 188 #[.slice (some ⟨g, o, none⟩) n c, .func (.func 189) #[] #[.pointer (some ⟨bn, 0, none⟩)]] w fun e w' => ∃ b, e = .returned (.bool b) ∧ (b = false ↔ Fresh rs n name) ∧ Keeps [] w w' := by
 have HC : Hid (∀ w, RuC w g o rs → w.cell? ⟨bn, 0, none⟩ = some (.string name) → Calls Tryz.prog 229 #[.slice (some ⟨g, o, none⟩) n c, .func (.func 189) #[] #[.pointer (some ⟨bn, 0, none⟩)]] w fun e w' => ∃ z : Int, e = .returned (.int .i64 z) ∧ ((0 ≤ z ∧ ¬ Fresh rs n name) ∨ (z < 0 ∧ Fresh rs n name)) ∧ Keeps [] w w') := fun w => indexRul_any rs name n g o c bn hn h8 w
 go_enter Tryz.func188, Tryz.ntmps188
 clear hn h8
 go_wp2_with fail
 refine (HC.out w hc hbn).mono ?_
 rintro e w1 ⟨z, rfl, hz, hk1⟩
 rcases hz with ⟨hz, hF⟩ | ⟨hz, hF⟩
 ·have HF : Hid (¬ Fresh rs n name) := hF
  have e1 : decide ((0 : Int) ≤ z) = true := by simpa using hz
  clear hF HC
  go_wp2_with fail
  go_ret
  exact ⟨true, rfl, ⟨(nomatch ·), fun h => absurd h HF.out⟩, hk1⟩
 ·have HF : Hid (Fresh rs n name) := hF
  have e1 : decide ((0 : Int) ≤ z) = false := by simpa using hz
  have e2 : ¬ (0 : Int) ≤ z := by omega
  clear hF HC
  go_wp2_with fail
  go_ret
  exact ⟨false, rfl, ⟨fun _ => HF.out, fun _ => rfl⟩, hk1⟩
set_option maxRecDepth 100000 in
set_option maxHeartbeats 2000000 in
theorem checkName_any (rs : List Rul) (name : ByteArray) (n g o c : Nat) (hn : n ≤ rs.length) (h8 : n ≤ 8) (w : World) (hc : RuC w g o rs) :
    Calls Tryz.prog 146 #[.string name, .slice (some ⟨g, o, none⟩) n c] w fun e w' => ∃ z : Int, e = .returned (.int .i64 z) ∧ ((¬ NameOk name ∧ z = 4) ∨ (NameOk name ∧ ¬ Fresh rs n name ∧ z = 5) ∨ (NameOk name ∧ Fresh rs n name ∧ z = 0)) ∧ Keeps [] w w' := by
 have hq0 : (w.alloc (.cells #[.string name] 9)).heap[w.heap.size]? = some (.cells #[.string name] 9 (0, 0)) := heap_alloc_new w _
 have hk0 : Keeps [] w (w.alloc (.cells #[.string name] 9)) := (Keeps.refl [] w).alloc _
 have hn0 : (w.alloc (.cells #[.string name] 9)).cell? ⟨w.heap.size, 0, none⟩ = some (.string name) := by rw [Lib.cell_of_heap hq0]; rfl
 have HC : Hid (∀ bn w, RuC w g o rs → w.cell? ⟨bn, 0, none⟩ = some (.string name) → Calls Tryz.prog 188 #[.slice (some ⟨g, o, none⟩) n c, .func (.func 189) #[] #[.pointer (some ⟨bn, 0, none⟩)]] w fun e w' => ∃ b, e = .returned (.bool b) ∧ (b = false ↔ Fresh rs n name) ∧ Keeps [] w w') := fun bn w => containsRul_any rs name n g o c bn hn h8 w
 have hc0 := hc.keep hk0 (by simp)
 go_enter Tryz.func146, Tryz.ntmps146
 clear hn h8 hc
 go_upto_region 1 with (fail)
 generalize w.alloc (.cells #[.string name] 9) = X at *
 obtain ⟨bn, hbn⟩ : ∃ b, w.heap.size = b := ⟨_, rfl⟩
 rw [hbn] at hn0 ⊢
 clear hq0 hbn
 go_wp2_with fail
 refine (isName_any name X).mono ?_
 rintro e w1 ⟨b, rfl, hb, hk1⟩
 have hkA := hk0.trans hk1
 have hc1 := hc0.keep hk1 (by simp)
 have hn1 := keep_cell hk1 hn0
 cases b with
 | false =>
  have HN : Hid (¬ NameOk name) := fun h => by have := hb.2 h; cases this
  clear hb hk1 hk0 hc0 hn0 HC
  go_wp2_with fail
  go_ret
  exact ⟨4, rfl, Or.inl ⟨HN.out, rfl⟩, hkA⟩
 | true =>
  have HN : Hid (NameOk name) := hb.1 rfl
  clear hb hk1 hk0 hc0 hn0
  go_wp2_with fail
  refine (HC.out bn w1 hc1 hn1).mono ?_
  rintro e w2 ⟨b2, rfl, hb2, hk2⟩
  have hkB := hkA.trans hk2
  cases b2 with
  | false =>
   have HF : Hid (Fresh rs n name) := hb2.1 rfl
   clear hb2 hkA hk2 hc1 hn1 HC
   go_wp2_with fail
   go_ret
   exact ⟨0, rfl, Or.inr (Or.inr ⟨HN.out, HF.out, rfl⟩), hkB⟩
  | true =>
   have HF : Hid (¬ Fresh rs n name) := fun h => by have := hb2.2 h; cases this
   clear hb2 hkA hk2 hc1 hn1 HC
   go_wp2_with fail
   go_ret
   exact ⟨5, rfl, Or.inr (Or.inl ⟨HN.out, HF.out, rfl⟩), hkB⟩
end Go.Proofs.YtnfojonmohijpaaGreatDoor
namespace Go.Proofs.YtnfojonmohijpaaGreatDoor
open Go.RowKit
theorem whole_sz {s : ByteArray} {W : Whole} {j : Nat} (hs : s.size ≤ 60) (h : PatR s (.ok W j)) : W.x.sz ≤ 1000 := by
 obtain ⟨qw, hG, hqe⟩ := h
 cases qw with
 | bad l => cases hqe
 | ok xg l =>
  obtain ⟨x, g⟩ := xg
  have h1 := hG.shp x g l rfl
  have h2 := endOf_le hG (by unfold wi; by_cases h : at' s 0 = 94; (rw [if_pos h]; exact at'_nn (by omega)); (rw [if_neg h]; exact Nat.zero_le _))
  rw [PatE_ok] at hqe
  have hx : W.x = x := by
   by_cases hc : 0 ≤ at' s (if at' s l = 36 then l + 1 else l)
   ·rw [if_pos hc] at hqe; cases hqe
   ·rw [if_neg hc] at hqe; cases hqe; rfl
  rw [hx]
  simp only [szL, szR, endOf] at h1 h2
  omega
theorem infoPat4 (a b c d : Value) : (Tryz.prog.info? 70).map (·.size) = some [a, b, c, d].length := by kernel_rfl
end Go.Proofs.YtnfojonmohijpaaGreatDoor
namespace Go.Proofs.YtnfojonmohijpaaGreatDoor
open Go.RowKit
structure RulIs (w : World) (v : Value) (rs : List Rul) : Prop where
 len : rs.length ≤ 9223372036854775807
 rd : (rs = [] ∧ ∃ a c, v = .slice a 0 c) ∨ ∃ g o c, v = .slice (some ⟨g, o, none⟩) rs.length c ∧ RuC w g o rs ∧ rs.length ≤ c ∧ c ≤ 9223372036854775807
theorem RulIs.keep {w w' : World} {v : Value} {rs : List Rul} (h : RulIs w v rs) (hk : Keeps [] w w') : RulIs w' v rs := by
 refine ⟨h.len, ?_⟩
 rcases h.rd with h | ⟨g, o, c, h1, h2⟩
 ·exact Or.inl h
 ·exact Or.inr ⟨g, o, c, h1, h2.1.keep hk (by simp), h2.2⟩
def ruV (W : Whole) (u : Value) (b : Bool) : List Value := [.bool W.bg, .bool W.en, u, .int .i64 W.g, .bool b]
structure RuM (w : World) (S : Nat → Prop) (rs : List Rul) (v : Value) (cs : List Value) (Ws : List Whole) : Prop where
 own : w.ownsRow 0 245 5 v Ws.length cs
 parts : ∀ (k : Nat) (W : Whole), Ws[k]? = some W → RlOk rs k W ∧ ∃ u, u.oneCell' = true ∧ (∀ q c, (ruV W u (skO rs k))[q]? = some c → cs[k * 5 + q]? = some c) ∧ Rep w (fun z => S z ∧ v.ownBlock ≠ some z) .ways W.x [u]
theorem RuM.keep {w w' : World} {S : Nat → Prop} {rs : List Rul} {v : Value} {cs : List Value} {Ws : List Whole} (h : RuM w S rs v cs Ws) (hk : Keeps [] w w') : RuM w' S rs v cs Ws :=
 ⟨h.own.keep hk (by simp), fun k W hW => by
   obtain ⟨h1, u, h2, h3, h4⟩ := h.parts k W hW
   exact ⟨h1, u, h2, h3, h4.keep hk (by simp)⟩⟩
theorem RuM.add {w w3 w5 : World} {rs : List Rul} {v u : Value} {cs : List Value} {Ws : List Whole} {W : Whole} {lo g' cap i : Nat} {b : Bool} (h : RuM w (fun z => lo ≤ z) rs v cs Ws) (hk : Keeps [] w w3) (hlo : lo ≤ w.heap.size) (hi : i = Ws.length) (hb : skO rs i = b) (hW : RlOk rs i W) (hu : u.oneCell' = true) (hr : Rep w3 (fun z => w.heap.size ≤ z) .ways W.x [u])
    (hown : w5.ownsRow 0 245 5 (.slice (some ⟨g', 0, none⟩) (i + 1) cap) (i + 1) (cs ++ ruV W u b)) (hgrow : (w3.alloc (.cells (ruV W u b).toArray 245)).grownBy w5 v.ownBlock) (hat : v.ownBlock = some g' ∨ g' = w3.heap.size + 1) :
    RuM w5 (fun z => lo ≤ z) rs (.slice (some ⟨g', 0, none⟩) (i + 1) cap) (cs ++ ruV W u b) (Ws ++ [W]) := by
 subst hi
 subst hb
 have hk5 : Keeps v.ownBlock.toList w3 w5 := ((Keeps.refl v.ownBlock.toList w3).alloc _).trans (Keeps.ofGrown hgrow)
 have hcl : cs.length = Ws.length * 5 := h.own.1
 have hvl := World.ownsRow.lt h.own
 have s3 := hk.size
 refine ⟨by rw [List.length_append, List.length_singleton]; exact hown, fun k V hV => ?_⟩
 have hno : ∀ z, v.ownBlock ≠ some z → z < w3.heap.size → (Value.slice (some ⟨g', 0, none⟩) (Ws.length + 1) cap).ownBlock ≠ some z := by
  intro z hz hzl e
  simp only [Value.ownBlock, Option.some.injEq] at e
  subst e
  rcases hat with e | e
  ·exact hz e
  ·omega
 by_cases hkl : k < Ws.length
 ·rw [List.getElem?_append_left hkl] at hV
  obtain ⟨h1, u', h2, h3, h4⟩ := h.parts k V hV
  refine ⟨h1, u', h2, fun q c hq => ?_, ?_⟩
  ·have := h3 q c hq
   rw [List.getElem?_append_left (List.getElem?_eq_some_iff.1 this).1]
   exact this
  ·refine (((h4.mono (S' := fun z => (lo ≤ z ∧ v.ownBlock ≠ some z) ∧ z < w.heap.size) fun z hz hl => ⟨hz, hl⟩).keep hk (by simp)).keep hk5 ?_).mono ?_
   ·intro z hz hm
    rw [Option.mem_toList] at hm
    exact hz.1.2 hm
   ·intro z hz _
    exact ⟨hz.1.1, hno z hz.1.2 (by have := hz.2; omega)⟩
 ·have hke : k = Ws.length := by
     have := (List.getElem?_eq_some_iff.1 hV).1
     simp at this
     omega
  subst hke
  have hVW : V = W := by
   rw [List.getElem?_append_right (Nat.le_refl _)] at hV
   simp at hV
   exact hV.symm
  subst hVW
  refine ⟨hW, u, hu, fun q c hq => ?_, ?_⟩
  ·rw [List.getElem?_append_right (by omega), show Ws.length * 5 + q - cs.length = q by omega]
   exact hq
  ·refine ((hr.mono (S' := fun z => w.heap.size ≤ z ∧ z < w3.heap.size) fun z hz hl => ⟨hz, hl⟩).keep hk5 ?_).mono ?_
   ·intro z hz hm
    rw [Option.mem_toList] at hm
    have := (hvl z hm).2
    have := hz.1
    omega
   ·intro z hz _
    refine ⟨by have := hz.1; omega, hno z ?_ hz.2⟩
    intro e
    have := (hvl z e).2
    have := hz.1
    omega
theorem RuM.zero (w : World) (S : Nat → Prop) (rs : List Rul) : RuM w S rs (.slice none 0 0) [] [] := ⟨⟨rfl, .inl ⟨rfl, rfl⟩⟩, fun k W h => by simp at h⟩
theorem infoTRu : (Tryz.prog.info? 245).map (fun i => (i.zero, i.size, i.bytes)) = some (some (.agg #[.bool false, .bool false, .slice none 0 0, .int .i64 0, .bool false]), 5, 48) := by kernel_rfl
def plR : Nat → Option (Nat × Nat) := fun i => (#[(0, 4), (4, 1)] : Array (Nat × Nat))[i]?
theorem built_tru (parts : List (Nat × Value)) : Tryz.prog.built 245 parts = Instr.fill plR #[.bool false, .bool false, .slice none 0 0, .int .i64 0, .bool false] parts := by kernel_rfl
theorem built_ru (W : Whole) (u : Value) (b : Bool) : Tryz.prog.built 245 [(0, .agg #[.bool W.bg, .bool W.en, u, .int .i64 W.g]), (1, .bool b)] = some (ruV W u b).toArray := by
 rw [built_tru]
 have e1 := fill_one plR 0 (.agg #[.bool W.bg, .bool W.en, u, .int .i64 W.g]) [(1, .bool b)] [] [.bool false, .bool false, .slice none 0 0, .int .i64 0] [.bool false] rfl rfl
 have e2 := fill_one plR 1 (.bool b) [] [.bool W.bg, .bool W.en, u, .int .i64 W.g] [.bool false] [] rfl rfl
 simp only [List.append_nil, List.nil_append, Value.cells] at e1 e2
 exact e1.trans (e2.trans rfl)
theorem ru_fill (W : Whole) (u : Value) (b : Bool) : Instr.fill (fun i => some (i * 5, 5)) ((Array.range (1 * 5)).map ((#[.bool false, .bool false, .slice none 0 0, .int .i64 0, .bool false] : Array Value)[· % 5]!)) [(0, .agg (ruV W u b).toArray)] = some (ruV W u b).toArray := by
 have e0 : (Array.range (1 * 5)).map ((#[.bool false, .bool false, .slice none 0 0, .int .i64 0, .bool false] : Array Value)[· % 5]!) = ([.bool false, .bool false, .slice none 0 0, .int .i64 0, .bool false] : List Value).toArray := by kernel_rfl
 rw [e0]
 have h1 := fill_one (fun i => some (i * 5, 5)) 0 (.agg (ruV W u b).toArray) [] [] [.bool false, .bool false, .slice none 0 0, .int .i64 0, .bool false] [] rfl rfl
 simp only [List.append_nil, List.nil_append, Value.cells] at h1
 exact h1.trans rfl
theorem wpList_ruslice {ops : Array Oper} {rest : List Oper} {o : Oper} {a : Act} {w : World} {Q : Exit → Act → World → Prop} (hg : o.guard = none) (x : Operand) (ho : o.op = .buildSlice 166 1 #[(0, x)]) (d : Option Tmp) (hd : o.dst = d) (W : Whole) (u : Value) (b : Bool) (hx : a.eval x = .agg (ruV W u b).toArray)
    (h : wpList Tryz.prog ops Q rest (a.put d (.slice (some ⟨w.heap.size, 0, none⟩) 1 1)) (w.alloc (.cells (ruV W u b).toArray 245))) : wpList Tryz.prog ops Q (o :: rest) a w := by
 subst hd
 obtain ⟨i0, hi0, hz0, hz1, hz2⟩ := info_parts infoTRu
 refine wpList_buildSlice hg 166 245 1 #[(0, x)] ho (ruV W u b).toArray i0 _ Tryz.underlying166 hi0 hz0 (by rw [hz1]; decide) (by rw [hz1]; decide) ?_ h
 rw [hz1]
 have := ru_fill W u b
 have e : (Value.agg #[.bool false, .bool false, .slice none 0 0, .int .i64 0, .bool false]).cells.size = 5 := rfl
 have e2 : ((#[(0, x)] : Array (Nat × Operand)).map fun (i, x) => (i, a.eval x)).toList = [(0, .agg (ruV W u b).toArray)] := by simp [hx]
 rw [e, e2]
 exact this
end Go.Proofs.YtnfojonmohijpaaGreatDoor
namespace Go.Proofs.YtnfojonmohijpaaGreatDoor
open Go.RowKit
def P3r (w : World) (b : Nat) (r : Rul) : Prop := w.heap[b]? = some (.cells #[.string r.nm, .string r.pt, .bool r.sk] 41 (0, 0))
theorem P3r.main {w : World} {b : Nat} {r : Rul} (h : P3r w b r) : w.cell? ⟨b, 0, none⟩ = some (.string r.nm) ∧ w.cell? ⟨b, 1, none⟩ = some (.string r.pt) ∧ w.cell? ⟨b, 2, none⟩ = some (.bool r.sk) := by
 unfold P3r at h
 simp [World.cell?, h]
theorem P3r.lt {w : World} {b : Nat} {r : Rul} (h : P3r w b r) : b < w.heap.size := (Array.getElem?_eq_some_iff.1 h).1
theorem P3r.keep {w w' : World} {b : Nat} {r : Rul} {S : List Nat} (h : P3r w b r) (hk : Keeps S w w') (hb : b ∉ S) : P3r w' b r := (hk.block b h.lt hb).trans h
theorem infoRu3 (a b c : Value) : (Tryz.prog.info? 41).map (·.size) = some (#[a, b, c] : Array Value).size := by kernel_rfl
theorem three_one (a b : ByteArray) (c : Bool) : (#[.string a, .string b, .bool c] : Array Value).all (·.oneCell') = true := by
 have h1 : ∀ b, (Value.bool b).oneCell' = true := fun _ => rfl
 have h2 : ∀ b, (Value.string b).oneCell' = true := fun _ => rfl
 simp [h1, h2]
theorem ruV_one {W : Whole} {u : Value} {b : Bool} (hu : u.oneCell' = true) : ∀ x ∈ ruV W u b, x.oneCell' = true := by
 intro x hx
 simp only [ruV, List.mem_cons, List.not_mem_nil, or_false] at hx
 rcases hx with rfl | rfl | rfl | rfl | rfl
 ·rfl
 ·rfl
 ·exact hu
 ·rfl
 ·rfl
def RrPost (rs : List Rul) (w : World) (e : Ending) (w' : World) : Prop :=
 Keeps [] w w' ∧ ∃ v n Ws, e = .returned (.tuple #[v, .int .i64 n]) ∧ RulesA rs Ws n ∧ ((n ≠ 0 ∧ v = .slice none 0 0) ∨ (n = 0 ∧ ∃ cs, RuM w' (fun z => w.heap.size ≤ z) rs v cs Ws ∧ ∀ g, v.ownBlock = some g → w.heap.size ≤ g))
set_option maxRecDepth 100000 in
set_option maxHeartbeats 8000000 in
theorem readRules_any (v : Value) (rs : List Rul) (w : World) (hr : RulIs w v rs) (hgn : GN w) : Calls Tryz.prog 93 #[v] w (RrPost rs w) := by
 have hlen := hr.len
 have hlen' : (rs.length : Int) ≤ 9223372036854775807 := by omega
 have hcase : (∃ a c n, v = .slice a n c ∧ n = rs.length ∧ (n = 0 ∨ 8 < n)) ∨ ∃ g o c, v = .slice (some ⟨g, o, none⟩) rs.length c ∧ RuC w g o rs ∧ (rs.length ≤ c ∧ c ≤ 9223372036854775807) ∧ 1 ≤ rs.length ∧ rs.length ≤ 8 := by
  rcases hr.rd with ⟨rfl, a, c, rfl⟩ | ⟨g, o, c, rfl, h, hcap⟩
  ·exact Or.inl ⟨a, c, 0, rfl, rfl, Or.inl rfl⟩
  ·by_cases h1 : rs.length = 0 ∨ 8 < rs.length
   ·exact Or.inl ⟨_, c, _, rfl, rfl, h1⟩
   ·exact Or.inr ⟨g, o, c, rfl, h, hcap, by omega, by omega⟩
 rcases hcase with ⟨a, c, n, rfl, hn, h⟩ | ⟨g, o, c, rfl, hc, hcap, h1, h8⟩
 ·have HA : Hid (RulesA rs [] 4) := Or.inl ⟨by omega, rfl, rfl⟩
  have hn' : (n : Int) ≤ 9223372036854775807 := by omega
  clear hlen hlen' hr hn
  rcases h with rfl | h
  ·go_enter Tryz.func93, Tryz.ntmps93
   go_wp2_with fail
   go_ret2
   exact ⟨Keeps.refl _ _, _, 4, [], rfl, HA.out, Or.inl ⟨by decide, rfl⟩⟩
  ·have d0 : ((n : Int) == 0) = false := by simp; omega
   have d8 : decide ((8 : Int) < (n : Int)) = true := by simp; omega
   have d8' : (8 : Int) < (n : Int) := by omega
   clear h
   go_enter Tryz.func93, Tryz.ntmps93
   go_wp2_with fail
   go_ret2
   exact ⟨Keeps.refl _ _, _, 4, [], rfl, HA.out, Or.inl ⟨by decide, rfl⟩⟩
 obtain ⟨n, hn⟩ : ∃ n, n = rs.length := ⟨_, rfl⟩
 rw [← hn] at h1 h8 hlen hlen' hcap ⊢
 have hcn : (n : Int) ≤ (c : Int) := by omega
 have hcm : (c : Int) ≤ 9223372036854775807 := by omega
 have HN : Hid (n = rs.length ∧ 1 ≤ n ∧ n ≤ 8) := ⟨hn, h1, h8⟩
 have d0 : ((n : Int) == 0) = false := by simp; omega
 have d8 : decide ((8 : Int) < (n : Int)) = false := by simp; omega
 have d8' : (n : Int) ≤ 8 := by omega
 have d8n : ¬ (8 : Int) < (n : Int) := by omega
 clear hlen hlen' hr hn h1 h8 hcap
 go_enter Tryz.func93, Tryz.ntmps93
 go_wp2_with fail
 go_loopw [4, 21] (fun q4 q wr => ∃ (i : Nat) (cs : List Value) (Ws : List Whole), q = .int .i64 i ∧ i ≤ n ∧ i = Ws.length ∧ RuM wr (fun z => w.heap.size ≤ z) rs q4 cs Ws ∧ (∀ g, q4.ownBlock = some g → w.heap.size ≤ g) ∧ Keeps [] w wr) (fun _ q _ => n - (intOf q).toNat)
 case atStart => exact ⟨0, [], [], rfl, Nat.zero_le _, rfl, RuM.zero _ _ _, (fun g h => by cases h), Keeps.refl _ _⟩
 case round =>
  obtain ⟨i, cs, Ws, rfl, hi, hiW, hM, hfr, hK⟩ := hrel
  by_cases hlt : i < n
  rotate_left
  ·have hni : ¬ (i : Int) < (n : Int) := by omega
   have HE : Hid (RulesA rs Ws 0) := Or.inr ⟨by have := HN.out; omega, by have := HN.out; omega, Or.inr ⟨rfl, by have := HN.out; omega, fun k W hW => (hM.parts k W hW).1⟩⟩
   obtain ⟨xa, xn, xc, rfl⟩ := ownsRow_sl hM.own
   clear hlt hi hiW
   go_wp2_with fail
   go_ret2
   exact ⟨hK, _, 0, Ws, rfl, HE.out, Or.inr ⟨rfl, cs, hM, hfr⟩⟩
  obtain ⟨r, hri⟩ : ∃ r, rs[i]? = some r := ⟨_, List.getElem?_eq_getElem (by have := HN.out; omega)⟩
  have hcr := hc.keep hK (by simp)
  have hrg := hcr i r hri
  have hg0 : g < wr.heap.size := World.block_lt_of_cell? _ _ (hrg 0 _ rfl)
  have hgr := hgn.keep hK (by simp)
  have hi0 : (0 : Int) ≤ (i : Int) := by omega
  have hin : (i : Int) < (n : Int) := by omega
  have HI : Hid (i < n ∧ i = Ws.length) := ⟨hlt, hiW⟩
  have HR : Hid (rs[i]? = some r) := hri
  have HB : Hid (∀ z, RlBad rs i z → z ≠ 0 → RulesA rs [] z) := fun z hz h0 => Or.inr ⟨by have := HN.out; omega, by have := HN.out; omega, Or.inl ⟨i, fun k hk => ⟨_, (hM.parts k _ (List.getElem?_eq_getElem (by omega))).1⟩, hz, rfl, h0⟩⟩
  obtain ⟨xa, xn, xc, rfl⟩ := ownsRow_sl hM.own
  have hi2 : (Tryz.prog.info? 41).map (·.size) = some 3 := by kernel_rfl
  have hz0 : (wr.alloc (.cells #[.string ⟨#[]⟩, .string ⟨#[]⟩, .bool false] 41)).heap[wr.heap.size]? = some (.cells #[.string ⟨#[]⟩, .string ⟨#[]⟩, .bool false] 41 (0, 0)) := heap_alloc_new wr _
  have hk6 : Keeps [] wr ((wr.alloc (.cells #[.string ⟨#[]⟩, .string ⟨#[]⟩, .bool false] 41)).setRow wr.heap.size #[.string r.nm, .string r.pt, .bool r.sk]) := ((Keeps.refl [] wr).alloc _).setRow (Or.inr (Nat.le_refl _)) _
  have hP6 : P3r ((wr.alloc (.cells #[.string ⟨#[]⟩, .string ⟨#[]⟩, .bool false] 41)).setRow wr.heap.size #[.string r.nm, .string r.pt, .bool r.sk]) wr.heap.size r := setRow_heap _ _ _ _ _ _ hz0
  have hin8 : i ≤ 8 := by have := HN.out; omega
  have hirs : i ≤ rs.length := by have := HN.out; omega
  clear hri hlt hi hiW
  go_upto_region 7 with (first | (refine wpList_load_mid rfl 41 _ rfl g (o + i * 3) rfl _ _ hrg Tryz.underlying41 rfl hi2 ?_) | (refine wpList_store_row rfl 41 _ _ rfl wr.heap.size #[.string r.nm, .string r.pt, .bool r.sk] rfl rfl _ _ hz0 (infoRu3 _ _ _) rfl (three_one _ _ _) ?_; generalize (wr.alloc (.cells #[.string ⟨#[]⟩, .string ⟨#[]⟩, .bool false] 41)).setRow wr.heap.size #[.string r.nm, .string r.pt, .bool r.sk] = w6 at *))
  obtain ⟨b6, hb6⟩ : ∃ b, wr.heap.size = b := ⟨_, rfl⟩
  rw [hb6] at hP6 ⊢
  have hc6 := hcr.keep hk6 (by simp)
  have hM6 := hM.keep hk6
  have hic : (i : Int) ≤ (c : Int) := by omega
  have hic' : i ≤ c := by omega
  have hCk : Hid (∀ X, RuC X g o rs → Calls Tryz.prog 146 #[.string r.nm, .slice (some ⟨g, o, none⟩) i c] X fun e w' => ∃ z : Int, e = .returned (.int .i64 z) ∧ ((¬ NameOk r.nm ∧ z = 4) ∨ (NameOk r.nm ∧ ¬ Fresh rs i r.nm ∧ z = 5) ∨ (NameOk r.nm ∧ Fresh rs i r.nm ∧ z = 0)) ∧ Keeps [] X w') := fun X hX => checkName_any rs r.nm i g o c hirs hin8 X hX
  have hkD : Keeps [] w6 w6.drew := (Keeps.refl [] w6).drewN 1
  have hS0 : P3r w6.drew b6 r ∧ RuC w6.drew g o rs ∧ Keeps [] w6 w6.drew := ⟨hP6.keep hkD (by simp), hc6.keep hkD (by simp), hkD⟩
  clear hcr hrg hz0 hin8 hirs hb6
  refine wp_region_held (S := fun X => P3r X b6 r ∧ RuC X g o rs ∧ Keeps [] w6 X) (by kernel_rfl) ?_
  change wpAnyH _ _ _ _ _ _ _ _ (World.drew _)
  generalize w6.drew = X0 at *
  refine wpAnyH_tk 0 _ (some 26) (.pointer (some ⟨b6, 0, none⟩)) rfl rfl (by kernel_rfl) (by kernel_rfl) (by kernel_rfl) (fun _ _ _ h => h) (Or.inl ⟨by rfl, fun X hX => by go_simp⟩) hS0 ?_
  simp only [Act.put, List.setIfInBounds_toArray, List.set_cons_zero, List.set_cons_succ]
  refine wpAnyH_tk 1 _ (some 27) (.string r.nm) rfl rfl (by kernel_rfl) (by kernel_rfl) (by kernel_rfl) (fun _ _ _ h => h) (Or.inl ⟨by rfl, fun X hX => by (obtain ⟨q0, q1, q2⟩ := hX.1.main; go_simp)⟩) hS0 ?_
  simp only [Act.put, List.setIfInBounds_toArray, List.set_cons_zero, List.set_cons_succ]
  refine wpAnyH_tk 2 _ (some 28) (.slice (some ⟨g, o, none⟩) n c) rfl rfl (by kernel_rfl) (by kernel_rfl) (by kernel_rfl) (fun _ _ _ h => h) (Or.inl ⟨by rfl, fun X hX => by go_simp⟩) hS0 ?_
  simp only [Act.put, List.setIfInBounds_toArray, List.set_cons_zero, List.set_cons_succ]
  refine wpAnyH_tk 3 _ (some 29) (.int .i64 i) rfl rfl (by kernel_rfl) (by kernel_rfl) (by kernel_rfl) (fun _ _ _ h => h) (Or.inl ⟨by rfl, fun X hX => by go_simp⟩) hS0 ?_
  simp only [Act.put, List.setIfInBounds_toArray, List.set_cons_zero, List.set_cons_succ]
  refine wpAnyH_tk 4 _ (some 30) (.slice (some ⟨g, o, none⟩) i c) rfl rfl (by kernel_rfl) (by kernel_rfl) (by kernel_rfl) (fun _ _ _ h => h) (Or.inl ⟨by rfl, fun X hX => by go_simp⟩) hS0 ?_
  simp only [Act.put, List.setIfInBounds_toArray, List.set_cons_zero, List.set_cons_succ]
  refine wpAnyH_ready (rs := [5]) (by kernel_rfl) (by simp) ?_
  refine AllReadyH.cons rfl (fun K hKK => ?_) AllReadyH.nil
  go_simp
  refine (hCk.out X0 hS0.2.1).mono ?_
  rintro e w7 ⟨z, rfl, hz, hk7⟩
  have hS1 : P3r w7 b6 r ∧ RuC w7 g o rs ∧ Keeps [] w6 w7 := ⟨hS0.1.keep hk7 (by simp), hS0.2.1.keep hk7 (by simp), hS0.2.2.trans hk7⟩
  refine hKK.out _ _ hS1 (fun _ => ?_)
  clear hKK K
  refine wpAnyH_tk 6 _ (some 7) (.int .i64 z) rfl rfl (by kernel_rfl) (by kernel_rfl) (by kernel_rfl) (fun _ _ _ h => h) (Or.inl ⟨by rfl, fun X hX => by go_simp⟩) hS1 ?_
  simp only [Act.put, List.setIfInBounds_toArray, List.set_cons_zero, List.set_cons_succ]
  refine wpAnyH_done (by kernel_rfl) ?_ _
  obtain ⟨hP7, hc7, hk67⟩ := hS1
  have hkw7 : Keeps [] w w7 := (hK.trans hk6).trans hk67
  have hM7 := hM6.keep hk67
  clear hS0 hkD hk7 hk67 hk6 hM6 hc6 hP6 hCk hM
  rcases hz with ⟨hz, rfl⟩ | ⟨hz1, hz2, rfl⟩ | ⟨hz1, hz2, rfl⟩
  ·have HE : Hid (RulesA rs [] 4) := HB.out 4 ⟨r, HR.out, Or.inl ⟨hz, rfl⟩⟩ (by decide)
   clear hz hP7 hc7 hM7
   go_wp2_with fail
   go_ret2
   exact ⟨hkw7, _, 4, [], rfl, HE.out, Or.inl ⟨by decide, rfl⟩⟩
  ·have HE : Hid (RulesA rs [] 5) := HB.out 5 ⟨r, HR.out, Or.inr (Or.inl ⟨hz1, hz2, rfl⟩)⟩ (by decide)
   clear hz1 hz2 hP7 hc7 hM7
   go_wp2_with fail
   go_ret2
   exact ⟨hkw7, _, 5, [], rfl, HE.out, Or.inl ⟨by decide, rfl⟩⟩
  have HZ : Hid (NameOk r.nm ∧ Fresh rs i r.nm) := ⟨hz1, hz2⟩
  have hg7 := hgn.keep hkw7 (by simp)
  obtain ⟨q0, q1, q2⟩ := hP7.main
  clear hz1 hz2 hc7
  go_wp2_with fail
  refine (readPattern_prog r.pt w7 hg7).mono ?_
  rintro e w8 ⟨hk8, hc8⟩
  have hC : (∃ x y : Int, y ≠ 0 ∧ e = .returned (.tuple #[.agg #[.bool false, .bool false, .slice none 0 0, .int .i64 0], .int .i64 x, .int .i64 y]) ∧ RlBad rs i y) ∨
      ∃ W v, e = .returned (.tuple #[.agg #[.bool W.bg, .bool W.en, v, .int .i64 W.g], .int .i64 0, .int .i64 0]) ∧ v.oneCell' = true ∧ Rep w8 (fun z => w7.heap.size ≤ z) .ways W.x [v] ∧ RlOk rs i W := by
   rcases hc8 with ⟨hl, he⟩ | ⟨hs, q, hq, h⟩
   ·exact Or.inl ⟨0, 1, by decide, he, r, HR.out, Or.inr (Or.inr ⟨HZ.out.1, HZ.out.2, Or.inl ⟨hl, rfl⟩⟩)⟩
   ·cases q with
    | bad j => exact Or.inl ⟨j, 2, by decide, h, r, HR.out, Or.inr (Or.inr ⟨HZ.out.1, HZ.out.2, Or.inr ⟨hs, ⟨j, hq⟩, rfl⟩⟩)⟩
    | ok W j =>
     obtain ⟨v, he, hv, hrep⟩ := h
     exact Or.inr ⟨W, v, he, hv, hrep, r, HR.out, HZ.out.1, HZ.out.2, hs, j, hq⟩
  have hy0 : (w8.alloc (.cells #[.bool false, .bool false, .slice none 0 0, .int .i64 0] 70)).heap[w8.heap.size]? = some (.cells #[.bool false, .bool false, .slice none 0 0, .int .i64 0] 70 (0, 0)) := heap_alloc_new w8 _
  clear hc8 hg7 q0 q1 q2
  rcases hC with ⟨x, y, hy, rfl, hbad⟩ | ⟨W, u, rfl, hu, hrep, hok⟩
  ·have HE : Hid (RulesA rs [] y) := HB.out y hbad hy
   have HY : Hid (y ≠ 0) := hy
   have o4 := four_one (x := false) (y := false) (n := 0) (v := .slice none 0 0) rfl
   have hk9 : Keeps [] w8 ((w8.alloc (.cells #[.bool false, .bool false, .slice none 0 0, .int .i64 0] 70)).setRow w8.heap.size #[.bool false, .bool false, .slice none 0 0, .int .i64 0]) := ((Keeps.refl [] w8).alloc _).setRow (Or.inr (Nat.le_refl _)) _
   have hkE := (hkw7.trans hk8).trans hk9
   have y1 : (y == 0) = false := by simpa using hy
   have y2 : ¬ y = 0 := hy
   clear hbad hy hk9 hP7 hM7 hk8 hkw7
   go_wp2_with (first | (refine wpList_store_row rfl 70 _ _ rfl w8.heap.size _ rfl rfl _ _ hy0 infoPat rfl o4 ?_; generalize (w8.alloc (.cells #[.bool false, .bool false, .slice none 0 0, .int .i64 0] 70)).setRow w8.heap.size #[.bool false, .bool false, .slice none 0 0, .int .i64 0] = w9 at *))
   go_ret2
   exact ⟨hkE, _, y, [], rfl, HE.out, Or.inl ⟨HY.out, rfl⟩⟩
  have o4 := four_one (x := W.bg) (y := W.en) (n := (W.g : Int)) hu
  have hk9 : Keeps [] w8 ((w8.alloc (.cells #[.bool false, .bool false, .slice none 0 0, .int .i64 0] 70)).setRow w8.heap.size #[.bool W.bg, .bool W.en, u, .int .i64 (W.g : Int)]) := ((Keeps.refl [] w8).alloc _).setRow (Or.inr (Nat.le_refl _)) _
  have hrow9 : ((w8.alloc (.cells #[.bool false, .bool false, .slice none 0 0, .int .i64 0] 70)).setRow w8.heap.size #[.bool W.bg, .bool W.en, u, .int .i64 (W.g : Int)]).heap[w8.heap.size]? = some (.cells #[.bool W.bg, .bool W.en, u, .int .i64 (W.g : Int)] 70 (0, 0)) := setRow_heap _ _ _ _ _ _ hy0
  have hk79 := hk8.trans hk9
  have hrep9 := hrep.keep hk9 (by simp)
  have hP9 := hP7.keep hk79 (by simp)
  have hM9 := hM7.keep hk79
  have HOK : Hid (RlOk rs i W) := hok
  clear hrep hok hk8 hk9 hP7
  go_upto_region 13 with (first | (refine wpList_store_row rfl 70 _ _ rfl w8.heap.size _ rfl rfl _ _ hy0 infoPat rfl o4 ?_; generalize (w8.alloc (.cells #[.bool false, .bool false, .slice none 0 0, .int .i64 0] 70)).setRow w8.heap.size #[.bool W.bg, .bool W.en, u, .int .i64 (W.g : Int)] = w9 at *))
  obtain ⟨b8, hb8⟩ : ∃ b, w8.heap.size = b := ⟨_, rfl⟩
  rw [hb8] at hrow9 ⊢
  obtain ⟨q0, q1, q2⟩ := hP9.main
  have hown9 := hM9.own
  rw [← HI.out.2] at hown9
  obtain ⟨i0, hi0', hz0', hz1', hz2'⟩ := info_parts infoTRu
  have hun := Tryz.underlying166
  have hlm : i + 1 ≤ maxLen := by unfold maxLen; have := HI.out; have := HN.out; omega
  have hbt : (i + 1) * 48 ≤ 140737488355328 := by have := HI.out; have := HN.out; omega
  have hH : (w9.alloc (.cells (ruV W u r.sk).toArray 245)).heap.size = w9.heap.size + 1 := by simp
  have hnews : ∀ j x, (ruV W u r.sk)[j]? = some x → (w9.alloc (.cells (ruV W u r.sk).toArray 245)).cell? ((⟨w9.heap.size, 0, none⟩ : Addr).add j) = some x := World.news_of_block (cs := (ruV W u r.sk).toArray) (heap_alloc_new w9 _)
  have hone := ruV_one (W := W) (b := r.sk) hu
  have hbu := built_ru W u r.sk
  clear hb8 hy0 o4 hM9 hP9
  go_wp2_with (first | (refine wpList_load_row rfl 70 _ rfl b8 rfl _ _ _ _ hrow9 Tryz.underlying70 rfl infoPat ?_) | (refine wpList_build2 rfl 245 0 1 (.tmp 46) (.tmp 48) rfl (some 49) rfl _ _ rfl rfl _ hbu ?_) | (refine wpList_ruslice rfl (.tmp 49) rfl (some 50) rfl W u r.sk rfl ?_) | (at_builtin; refine wpList_append_lies _ rfl _ _ _ rfl 0 245 i0 _ 5 48 hun hi0' hz0' hz1' hz2' rfl (by decide) (.slice xa xn xc) i cs rfl (hown9.alloc _) ⟨w9.heap.size, 0, none⟩ 1 1 (ruV W u r.sk) rfl rfl hnews hone (by omega) hlm hbt (Nat.zero_le _) (w9.heap.size + 1) hH ?_))
  intro g' cap w10 hown10 hgrow hat hlt10
  have hk10 : Keeps (Value.slice xa xn xc).ownBlock.toList w9 w10 := ((Keeps.refl _ w9).alloc _).trans (Keeps.ofGrown hgrow)
  have hsk : skO rs i = r.sk := by unfold skO; rw [HR.out]
  have hlo := hkw7.size
  have hM10 := hM7.add hk79 hlo HI.out.2 hsk HOK.out hu hrep9 hown10 hgrow hat
  have hkw10 : Keeps [] w w10 := (hkw7.trans hk79).fresh hk10 (by
    intro y hy
    rw [Option.mem_toList] at hy
    exact Or.inr (hfr y hy))
  have hfr10 : ∀ y, (Value.slice (some ⟨g', 0, none⟩) (i + 1) cap).ownBlock = some y → w.heap.size ≤ y := by
   intro y hy
   cases hy
   rcases hat with h | h
   ·exact hfr _ h
   ·have := hk79.size
    show w.heap.size ≤ g'
    omega
  clear hown10 hgrow hnews hH hone hbu hrow9 hk10 hown9 hM7 hrep9 q0 q1 q2 hat
  go_wp2_with fail
  go_roundw
  case rel => exact ⟨i + 1, _, Ws ++ [W], by go_num, by have := HI.out; omega, by rw [List.length_append, ← HI.out.2]; rfl, hM10, hfr10, hkw10⟩
  case measure => have := HI.out; simp [intOf]; omega
end Go.Proofs.YtnfojonmohijpaaGreatDoor
