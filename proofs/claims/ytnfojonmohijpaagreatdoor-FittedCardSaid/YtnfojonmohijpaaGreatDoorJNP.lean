/-
  DERIVED. The program's methods can and rest of a piece. No conditions.
-/
import Derived.Test.YtnfojonmohijpaaGreatDoorJTF0
import Derived.Test.YtnfojonmohijpaaGreatDoorJMA
import Derived.Deep.RegionWith
import Derived.RegionDies
set_option linter.unusedSimpArgs false
set_option linter.unusedVariables false
namespace Go.Proofs.YtnfojonmohijpaaGreatDoor
open Go.RowKit
theorem MP.slice {w : World} {S : Nat → Prop} {N : Nat} {v : Value} {R : Nat → Nat → Prop} (h : MP w S N v R) : ∃ g c, v = .slice (some ⟨g, 0, none⟩) N c := by
 obtain ⟨g, c, f, e, _⟩ := h
 exact ⟨g, c, e⟩
theorem Mk.piece_cells {w : World} {S : Nat → Prop} {s : ByteArray} {N : Nat} {y : Pat} {cs : List Value} (h : Mk w S s N .piece y cs) :
    (∃ k a c g cv, cs = [.int .i64 (k : Nat), a, c, .slice (some ⟨g, 0, none⟩) N cv, .bool false, .int .i64 0, .int .i64 0, .slice none 0 0] ∧ MP w S N (.slice (some ⟨g, 0, none⟩) N cv) (Mt s y) ∧ ∀ mn mx x, y ≠ .rep mn mx x) ∨
    (∃ k a c g cv, ∃ (mn : Nat) (mx : Int) (x : Pat) (r : Value), y = .rep mn mx x ∧ mn ≤ 5 ∧ -1 ≤ mx ∧ mx ≤ 5 ∧ (mx < 0 ∨ (mn : Int) ≤ mx) ∧ cs = [.int .i64 (k : Nat), a, c, .slice (some ⟨g, 0, none⟩) N cv, .bool true, .int .i64 mn, .int .i64 mx, r] ∧ MP w S N (.slice (some ⟨g, 0, none⟩) N cv) (Mt s x) ∧ RR w S N (steps mn mx + 1) r (Left (Mt s x) mn mx)) := by
 cases h with
 | piece _ cs h =>
  obtain ⟨_, k, a, c, v, rfl, hm⟩ := h.form
  obtain ⟨g, cv, rfl⟩ := hm.slice
  exact Or.inl ⟨k, a, c, g, cv, rfl, hm, by intro mn mx x e; subst e; cases h⟩
 | rep mn mx x cs r h1 h2 h3 h4 h hr =>
  obtain ⟨_, k, a, c, v, rfl, hm⟩ := h.form
  obtain ⟨g, cv, rfl⟩ := hm.slice
  exact Or.inr ⟨k, a, c, g, cv, mn, mx, x, r, rfl, h1, h2, h3, h4, rfl, hm, hr⟩
set_option maxRecDepth 100000 in
set_option maxHeartbeats 2000000 in
theorem can_any (s : ByteArray) (N : Nat) (y : Pat) (cs : List Value) (S : Nat → Prop) (w : World) (h : Mk w S s N .piece y cs) :
    Calls Tryz.prog 174 #[.agg cs.toArray] w fun e w' => ∃ g c, e = .returned (.slice (some ⟨g, 0, none⟩) N c) ∧ MP w' S N (.slice (some ⟨g, 0, none⟩) N c) (Mt s y) ∧ Keeps [] w w' := by
 rcases h.piece_cells with ⟨k, a, c, g, cv, rfl, hm, hnr⟩ | ⟨k, a, c, g, cv, mn, mx, x, r, rfl, h1, h2, h3, h4, rfl, hm, hr⟩
 ·have hz0 : (w.alloc (.cells #[.int .i64 (k : Nat), a, c, .slice (some ⟨g, 0, none⟩) N cv, .bool false, .int .i64 0, .int .i64 0, .slice none 0 0] 273)).heap[w.heap.size]? = some (.cells #[.int .i64 (k : Nat), a, c, .slice (some ⟨g, 0, none⟩) N cv, .bool false, .int .i64 0, .int .i64 0, .slice none 0 0] 273 (0, 0)) := heap_alloc_new w _
  have hk0 : Keeps [] w (w.alloc (.cells #[.int .i64 (k : Nat), a, c, .slice (some ⟨g, 0, none⟩) N cv, .bool false, .int .i64 0, .int .i64 0, .slice none 0 0] 273)) := (Keeps.refl [] w).alloc _
  have c4 : (w.alloc (.cells #[.int .i64 (k : Nat), a, c, .slice (some ⟨g, 0, none⟩) N cv, .bool false, .int .i64 0, .int .i64 0, .slice none 0 0] 273)).cell? ⟨w.heap.size, 4, none⟩ = some (.bool false) := by rw [Lib.cell_of_heap hz0]; rfl
  have c3 : (w.alloc (.cells #[.int .i64 (k : Nat), a, c, .slice (some ⟨g, 0, none⟩) N cv, .bool false, .int .i64 0, .int .i64 0, .slice none 0 0] 273)).cell? ⟨w.heap.size, 3, none⟩ = some (.slice (some ⟨g, 0, none⟩) N cv) := by rw [Lib.cell_of_heap hz0]; rfl
  have hm0 := hm.keep hk0 (by simp)
  clear hz0 hm h
  go_enter Tryz.func174, Tryz.ntmps174
  go_wp2_with fail
  go_ret
  exact ⟨g, cv, rfl, hm0, hk0⟩
 ·obtain ⟨gr, cr, u, rfl, hgr, hSr, hcu, hu⟩ := hr.at (d := 0) (by omega)
  obtain ⟨gu, cu, rfl⟩ := hu.slice
  have hz0 : (w.alloc (.cells #[.int .i64 (k : Nat), a, c, .slice (some ⟨g, 0, none⟩) N cv, .bool true, .int .i64 mn, .int .i64 mx, .slice (some ⟨gr, 0, none⟩) (steps mn mx + 1) cr] 273)).heap[w.heap.size]? = some (.cells #[.int .i64 (k : Nat), a, c, .slice (some ⟨g, 0, none⟩) N cv, .bool true, .int .i64 mn, .int .i64 mx, .slice (some ⟨gr, 0, none⟩) (steps mn mx + 1) cr] 273 (0, 0)) := heap_alloc_new w _
  have hk0 : Keeps [] w (w.alloc (.cells #[.int .i64 (k : Nat), a, c, .slice (some ⟨g, 0, none⟩) N cv, .bool true, .int .i64 mn, .int .i64 mx, .slice (some ⟨gr, 0, none⟩) (steps mn mx + 1) cr] 273)) := (Keeps.refl [] w).alloc _
  have c4 : (w.alloc (.cells #[.int .i64 (k : Nat), a, c, .slice (some ⟨g, 0, none⟩) N cv, .bool true, .int .i64 mn, .int .i64 mx, .slice (some ⟨gr, 0, none⟩) (steps mn mx + 1) cr] 273)).cell? ⟨w.heap.size, 4, none⟩ = some (.bool true) := by rw [Lib.cell_of_heap hz0]; rfl
  have c7 : (w.alloc (.cells #[.int .i64 (k : Nat), a, c, .slice (some ⟨g, 0, none⟩) N cv, .bool true, .int .i64 mn, .int .i64 mx, .slice (some ⟨gr, 0, none⟩) (steps mn mx + 1) cr] 273)).cell? ⟨w.heap.size, 7, none⟩ = some (.slice (some ⟨gr, 0, none⟩) (steps mn mx + 1) cr) := by rw [Lib.cell_of_heap hz0]; rfl
  have hcu0 := (World.cell?_of_block (hk0.block gr hgr (by simp))).trans hcu
  have hm0 : MP (w.alloc (.cells #[.int .i64 (k : Nat), a, c, .slice (some ⟨g, 0, none⟩) N cv, .bool true, .int .i64 mn, .int .i64 mx, .slice (some ⟨gr, 0, none⟩) (steps mn mx + 1) cr] 273)) S N (.slice (some ⟨gu, 0, none⟩) N cu) (Mt s (.rep mn mx x)) := hu.keep hk0 (by simp)
  obtain ⟨M, hM⟩ : ∃ M, M = steps mn mx + 1 := ⟨_, rfl⟩
  have hM0 : (0 : Int) < (M : Int) := by omega
  clear hz0 hm h hr hcu hu
  rw [← hM] at c4 c7 hcu0 hm0 hk0 ⊢
  clear hM
  go_enter Tryz.func174, Tryz.ntmps174
  go_wp2_with fail
  go_ret
  exact ⟨gu, cu, rfl, hm0, hk0⟩
set_option maxRecDepth 100000 in
set_option maxHeartbeats 2000000 in
theorem rest_any (s : ByteArray) (N : Nat) (mn : Nat) (mx : Int) (x : Pat) (cs : List Value) (S : Nat → Prop) (w : World) (h : Mk w S s N .piece (.rep mn mx x) cs) (d : Nat) (hd : d ≤ 200) :
    Calls Tryz.prog 216 #[.agg cs.toArray, .int .i64 d] w fun e w' => ∃ g c, e = .returned (.slice (some ⟨g, 0, none⟩) N c) ∧ MP w' S N (.slice (some ⟨g, 0, none⟩) N c) (Left (Mt s x) mn mx d) ∧ Keeps [] w w' := by
 rcases h.piece_cells with ⟨k, a, c, g, cv, rfl, hm, hnr⟩ | ⟨k, a, c, g, cv, mn', mx', x', r, e, h1, h2, h3, h4, rfl, hm, hr⟩
 ·exact absurd rfl (hnr mn mx x)
 ·cases e
  obtain ⟨t, ht⟩ : ∃ t, t = min d (steps mn mx) := ⟨_, rfl⟩
  obtain ⟨gr, cr, u, rfl, hgr, hSr, hcu, hu⟩ := hr.at (d := t) (by omega)
  obtain ⟨gu, cu, rfl⟩ := hu.slice
  have hz0 : (w.alloc (.cells #[.int .i64 (k : Nat), a, c, .slice (some ⟨g, 0, none⟩) N cv, .bool true, .int .i64 mn, .int .i64 mx, .slice (some ⟨gr, 0, none⟩) (steps mn mx + 1) cr] 273)).heap[w.heap.size]? = some (.cells #[.int .i64 (k : Nat), a, c, .slice (some ⟨g, 0, none⟩) N cv, .bool true, .int .i64 mn, .int .i64 mx, .slice (some ⟨gr, 0, none⟩) (steps mn mx + 1) cr] 273 (0, 0)) := heap_alloc_new w _
  have hk0 : Keeps [] w (w.alloc (.cells #[.int .i64 (k : Nat), a, c, .slice (some ⟨g, 0, none⟩) N cv, .bool true, .int .i64 mn, .int .i64 mx, .slice (some ⟨gr, 0, none⟩) (steps mn mx + 1) cr] 273)) := (Keeps.refl [] w).alloc _
  have c7 : (w.alloc (.cells #[.int .i64 (k : Nat), a, c, .slice (some ⟨g, 0, none⟩) N cv, .bool true, .int .i64 mn, .int .i64 mx, .slice (some ⟨gr, 0, none⟩) (steps mn mx + 1) cr] 273)).cell? ⟨w.heap.size, 7, none⟩ = some (.slice (some ⟨gr, 0, none⟩) (steps mn mx + 1) cr) := by rw [Lib.cell_of_heap hz0]; rfl
  have hcu0 := (World.cell?_of_block (hk0.block gr hgr (by simp))).trans hcu
  have hm0 : MP (w.alloc (.cells #[.int .i64 (k : Nat), a, c, .slice (some ⟨g, 0, none⟩) N cv, .bool true, .int .i64 mn, .int .i64 mx, .slice (some ⟨gr, 0, none⟩) (steps mn mx + 1) cr] 273)) S N (.slice (some ⟨gu, 0, none⟩) N cu) (Left (Mt s x) mn mx d) := by
   refine (hu.keep hk0 (by simp)).congr fun i j _ _ => ?_
   rw [ht]
   rcases Nat.le_total d (steps mn mx) with h | h
   ·rw [Nat.min_eq_left h]
   ·rw [Nat.min_eq_right h]
    refine (Left.past h ?_).symm
    unfold steps
    split <;> omega
  obtain ⟨M, hM⟩ : ∃ M, M = steps mn mx + 1 := ⟨_, rfl⟩
  have hs5 : steps mn mx ≤ 5 := by unfold steps; split <;> omega
  have hM6 : (M : Int) ≤ 6 := by omega
  have hM1 : (1 : Int) ≤ (M : Int) := by omega
  have hd0 : (0 : Int) ≤ (d : Int) := by omega
  have ht0 : (0 : Int) ≤ (t : Int) := by omega
  have ht1 : (t : Int) < (M : Int) := by omega
  have hmin : min (d : Int) ((M : Int) - 1) = (t : Int) := by omega
  clear hz0 hm h hr hcu hu ht hs5
  rw [← hM] at c7 hcu0 hm0 hk0 ⊢
  clear hM
  go_enter Tryz.func216, Tryz.ntmps216
  go_wp2_with fail
  go_ret
  exact ⟨gu, cu, rfl, hm0, hk0⟩
end Go.Proofs.YtnfojonmohijpaaGreatDoor
namespace Go.Proofs.YtnfojonmohijpaaGreatDoor
open Go.RowKit
theorem wp_make_full {P : Program} (w : World) {o : Oper} {a : Act} {K : Act → World → Prop} {Q : Exit → Act → World → Prop}
    (d : Option Tmp) (hd : o.dst = d) (l c : Operand) (t : TypeId) (hop : o.op = Op.makeSlice t l c)
    (base : Nat) (e : TypeId) (i : TypeInfo) (z : Value) (size : Nat) (h1 : P.underlying t = some (.slice e)) (h2 : P.info? e = some i) (h3 : i.zero = some z) (h4 : i.size = size)
    (kl kc : IntKind) (L C : Int) (n : Nat) (hl : a.eval l = .int kl L) (hc : a.eval c = .int kc C) (hL : L = (n : Int)) (hC : C = (n : Int)) (b2 : i.bytes * n ≤ 281474976710656) (b3 : n ≤ maxLen) (b4 : base ≤ w.heap.size)
    (hK : ∀ w', w'.ownsRow base e size (.slice (some ⟨w.heap.size, 0, none⟩) n n) n (madeCells z.cells (n * size)).toList → w.grownBy w' none → K (a.put d (.slice (some ⟨w.heap.size, 0, none⟩) n n)) w') :
    o.wp P a w K Q := by
 subst hd
 obtain ⟨w', hrun, r1, r2⟩ := run_make_full (P := P) w base t e i z size h1 h2 h3 h4 kl kc n b2 b3 b4
 subst hL
 subst hC
 unfold Oper.wp
 simp [execOp, hop, hl, hc, hrun, Result.andThen]
 exact hK w' r1 r2
theorem wpAnyH_tk {P : Program} {ops : Array Oper} {Q : Exit → Act → World → Prop} {md : Region.Mode} {S : World → Prop} (i : Nat) (oi : Oper) (d : Option Tmp) (v : Value) {fuel : Nat} {listed : Array Bool} {a : Act} {w : World} (hi : ops[i]? = some oi) (hd : oi.dst = d)
    (hs : Region.noSelect ops = true) (hf : Region.free md ops listed i = true) (hr : (Region.ready md ops listed).contains i = true)
    (hQ : ∀ c a w, Q (.panic c) (a.put d v) w → Q (.panic c) a w) (hy : YieldsIf P ops S oi v a) (hS : S w)
    (h : wpAnyH P md ops Q S fuel (listed.setIfInBounds i true) (a.put d v) w) : wpAnyH P md ops Q S (fuel + 1) listed a w := by
 subst hd
 exact wpAnyH_take hi hs hf hr hQ hy hS h
theorem wp_store_midD {P : Program} {op : Oper} {a : Act} {w : World} {K : Act → World → Prop} {Q : Exit → Act → World → Prop} (hd : op.dst = none) (ty : TypeId) (x y : Operand) (ho : op.op = .store ty x y)
    (b o : Nat) (cells : Array Value) (hx : a.eval x = .pointer (some ⟨b, o, none⟩)) (hy : a.eval y = .agg cells)
    (ht : w.there b o cells.size) (hi : (P.info? ty).map (·.size) = some cells.size) (h1 : cells.all (·.oneCell') = true)
    (h : K (a.put none undef) (w.setCells b o cells.toList)) : op.wp P a w K Q := by
 rw [← hd] at h
 exact wp_store_mid ty x y ho b o cells hx hy ht hi h1 h
theorem wrap_small {z : Int} (h0 : 0 ≤ z) (h1 : z ≤ 1000000) : IntKind.i64.wrap z = z := by
 have h2 : z % 18446744073709551616 = z := by omega
 have : IntKind.i64.wrap z = if 9223372036854775808 ≤ z % 18446744073709551616 then z % 18446744073709551616 - 18446744073709551616 else z % 18446744073709551616 := by simp [IntKind.wrap, IntKind.bits, IntKind.signed]
 rw [this, h2, if_neg (by omega)]
theorem infoPc : (Tryz.prog.info? 273).map (fun i => (i.zero, i.size, i.bytes)) = some (some (.agg #[.int .i64 0, .slice none 0 0, .slice none 0 0, .slice none 0 0, .bool false, .int .i64 0, .int .i64 0, .slice none 0 0]), 8, 128) := by kernel_rfl
theorem infoWy (a b : Value) : (Tryz.prog.info? 222).map (·.size) = some (#[a, b] : Array Value).size := by kernel_rfl
structure WM (W wx : World) (n M gm gp gr : Nat) : Prop where
 made : wx.heap[gm]? = some (.cells #[.slice (some ⟨gp, 0, none⟩) n n, .slice (some ⟨gr, 0, none⟩) M M] 222 (0, 0))
 prow : ∃ zs, wx.ownsRow 0 273 8 (.slice (some ⟨gp, 0, none⟩) n n) n zs
 rrow : ∃ zs, wx.ownsRow 0 76 1 (.slice (some ⟨gr, 0, none⟩) M M) M zs
 mp : gm ≠ gp
 mr : gm ≠ gr
 pr : gp ≠ gr
 lm : W.heap.size ≤ gm
 lp : W.heap.size ≤ gp
 lr : W.heap.size ≤ gr
 keep : Keeps [] W wx
def WayIn (w : World) (S : Nat → Prop) (x : Pat) (v : Value) : Prop :=
 ∃ cs, Rep w S .plist x cs ∧ ∃ va n vc, v = .slice va n vc ∧ n = (pl x).length ∧ n ≤ 1000 ∧ w.ownsRow 0 212 261 v n cs
theorem pl_len : ∀ (x : Pat), (pl x).length ≤ x.sz
 | .pcons x r => by have := pl_len r; simp only [pl, List.length_cons, Pat.sz]; omega
 | .set _ => Nat.zero_le _
 | .grp _ _ => Nat.zero_le _
 | .rep _ _ _ => Nat.zero_le _
 | .pnil => Nat.zero_le _
 | .wone _ => Nat.zero_le _
 | .wcons _ _ => Nat.zero_le _
theorem Rep.wayIn {w : World} {S : Nat → Prop} {x : Pat} {v : Value} (h : Rep w S .way x [v]) (hx : x.sz ≤ 1000) : WayIn w S x v := by
 cases h with
 | way _ cs _ n hp ho _ =>
  obtain ⟨va, vn, vc, rfl⟩ := ownsRow_sl ho
  have h1 := ho.1
  have h2 := hp.pl_text.2.1
  have h3 := pl_len x
  have h4 : vn = n := by
   rcases ho.2 with ⟨e, e2⟩ | ⟨g, cap, cur, e, _⟩
   ·cases e
    exact e2.symm
   ·cases e
    rfl
  subst h4
  exact ⟨cs, hp, va, vn, vc, rfl, by omega, by omega, ho⟩
theorem pdrop_end {w : World} {S : Nat → Prop} {x : Pat} {cs : List Value} (h : Rep w S .plist x cs) : pdrop (pl x).length x = .pnil ∧ ∀ (i : Nat) (y : Pat), (pl x)[i]? = some y → pdrop i x = .pcons y (pdrop (i + 1) x) := by
 generalize hk : Kr.plist = kk at h
 induction h with
 | pnil => exact ⟨rfl, by intro i y hy; simp [pl] at hy⟩
 | pcons x r cs ds _ _ _ ih =>
  obtain ⟨a, b⟩ := ih rfl
  refine ⟨by simp only [pl, List.length_cons, pdrop]; exact a, ?_⟩
  intro i y hy
  cases i with
  | zero => simp [pl] at hy; subst hy; rfl
  | succ i => simp only [pdrop]; exact b i y (by simpa [pl] using hy)
 | _ => cases hk
theorem pfair {x : Pat} : ∀ {i : Nat} {y : Pat}, x.fair 9 → (pl x)[i]? = some y → y.fair 9 := by
 induction x with
 | pcons x r _ ih =>
  intro i y h hy
  cases i with
  | zero => simp [pl] at hy; subst hy; exact h.1
  | succ i => exact ih h.2 (by simpa [pl] using hy)
 | _ => intro i y _ hy; simp [pl] at hy
def over : List Value → Nat → List Value → List Value
 | xs, _, [] => xs
 | xs, o, v :: r => over (xs.set o v) (o + 1) r
theorem over_len : ∀ (vs xs : List Value) (o : Nat), (over xs o vs).length = xs.length
 | [], _, _ => rfl
 | v :: r, xs, o => by simp only [over]; rw [over_len]; simp
theorem over_drop : ∀ (vs xs : List Value) (o : Nat), o + vs.length ≤ xs.length → (over xs o vs).drop o = vs ++ xs.drop (o + vs.length)
 | [], xs, o, _ => by simp [over]
 | v :: r, xs, o, h => by
  simp only [over, List.length_cons] at *
  have ih := over_drop r (xs.set o v) (o + 1) (by simp; omega)
  have hl : (over (xs.set o v) (o + 1) r).length = xs.length := by rw [over_len]; simp
  have e0 : (over (xs.set o v) (o + 1) r)[o]? = some v := by
   have : ∀ (vs xs : List Value) (p q : Nat), q < p → (over xs p vs)[q]? = xs[q]? := by
    intro vs
    induction vs with
    | nil => intro xs p q _; rfl
    | cons u vs ih => intro xs p q hq; simp only [over]; rw [ih _ _ _ (by omega), List.getElem?_set_ne (by omega)]
   rw [this _ _ _ _ (by omega), List.getElem?_set_self (by omega)]
  rw [List.drop_eq_getElem_cons (by omega)]
  have e1 : (over (xs.set o v) (o + 1) r)[o]'(by omega) = v := by
   have := List.getElem?_eq_getElem (l := over (xs.set o v) (o + 1) r) (i := o) (by omega)
   rw [e0] at this
   exact (Option.some.inj this).symm
  rw [e1, ih, List.drop_set_of_lt (by omega)]
  have e2 : o + 1 + r.length = o + (r.length + 1) := by omega
  rw [e2]
  rfl
theorem ownsOver {g cap n size : Nat} {e : TypeId} : ∀ (vs : List Value) (w : World) (xs : List Value) (o : Nat), w.ownsRow 0 e size (.slice (some ⟨g, 0, none⟩) n cap) n xs → (w.setCells g o vs).ownsRow 0 e size (.slice (some ⟨g, 0, none⟩) n cap) n (over xs o vs)
 | [], _, _, _, h => h
 | v :: r, w, xs, o, h => by
  simp only [World.setCells, over]
  exact ownsOver r _ _ _ (World.ownsRow.stored h o v).1
theorem Keeps.setCells {S : List Nat} {a : World} {g : Nat} (hg : g ∈ S ∨ a.heap.size ≤ g) : ∀ (vs : List Value) (w : World) (o : Nat), Keeps S a w → Keeps S a (w.setCells g o vs)
 | [], _, _, h => h
 | v :: r, w, o, h => by
  simp only [World.setCells]
  exact Keeps.setCells hg r _ _ (h.setCell (p := ⟨g, o, none⟩) hg v)
theorem WM.of {W X : World} {n M gm gp gr : Nat} {zp zr : List Value} (hm : X.heap[gm]? = some (.cells #[.slice none 0 0, .slice none 0 0] 222 (0, 0))) (hp : X.ownsRow 0 273 8 (.slice (some ⟨gp, 0, none⟩) n n) n zp)
    (hr : X.ownsRow 0 76 1 (.slice (some ⟨gr, 0, none⟩) M M) M zr) (h1 : gm ≠ gp) (h2 : gm ≠ gr) (h3 : gp ≠ gr) (l1 : W.heap.size ≤ gm) (l2 : W.heap.size ≤ gp) (l3 : W.heap.size ≤ gr) (hk : Keeps [] W X) :
    WM W (X.setRow gm #[.slice (some ⟨gp, 0, none⟩) n n, .slice (some ⟨gr, 0, none⟩) M M]) n M gm gp gr := by
 have hk2 : Keeps [gm] X (X.setRow gm #[.slice (some ⟨gp, 0, none⟩) n n, .slice (some ⟨gr, 0, none⟩) M M]) := (Keeps.refl [gm] X).setRow (g := gm) (by simp) _
 exact ⟨setRow_heap _ _ _ _ _ _ hm, ⟨zp, hp.keep hk2 (by intro x hx; simp only [Value.ownBlock, Option.some.injEq] at hx; simp; omega)⟩, ⟨zr, hr.keep hk2 (by intro x hx; simp only [Value.ownBlock, Option.some.injEq] at hx; simp; omega)⟩, h1, h2, h3, l1, l2, l3, hk.setRow (Or.inr l1) _⟩
theorem wayCells {w : World} {g : Nat} {a b : Value} (h : w.heap[g]? = some (.cells #[a, b] 222 (0, 0))) : w.cell? ⟨g, 0, none⟩ = some a ∧ w.cell? ⟨g, 1, none⟩ = some b := by
 constructor <;> (rw [Lib.cell_of_heap h]; rfl)
theorem WM.rlt {W V : World} {n M gm gp gr : Nat} (h : WM W V n M gm gp gr) : gr < V.heap.size := by
 obtain ⟨zs, ho⟩ := h.rrow
 exact (World.ownsRow.lt ho gr rfl).2
theorem WM.plt {W V : World} {n M gm gp gr : Nat} (h : WM W V n M gm gp gr) : gp < V.heap.size := by
 obtain ⟨zs, ho⟩ := h.prow
 exact (World.ownsRow.lt ho gp rfl).2
structure WL (V wr : World) (s : ByteArray) (N : Nat) (x : Pat) (n M gp gr dp dr : Nat) : Prop where
 keep : Keeps [gp, gr] V wr
 prow : ∃ zs, wr.ownsRow 0 273 8 (.slice (some ⟨gp, 0, none⟩) n n) n zs ∧ Mk wr (fun y => V.heap.size ≤ y) s N .plist (pdrop dp x) (zs.drop (dp * 8))
 rrow : ∃ vs, wr.ownsRow 0 76 1 (.slice (some ⟨gr, 0, none⟩) M M) M vs ∧ ∀ e, dr ≤ e → e < M → ∃ u, vs[e]? = some u ∧ MP wr (fun y => V.heap.size ≤ y) N u (Mt s (pdrop e x))
theorem WL.start {W V w : World} {S : Nat → Prop} {s : ByteArray} {N n M gm gp gr : Nat} {x : Pat} {cs : List Value} (HN : Hid (N = s.size + 1)) (HM : Hid (M = n + 1)) (HNP : Hid (n = (pl x).length)) (hpl : Rep w S .plist x cs) (h : WM W V n M gm gp gr) : WL V V s N x n M gp gr n M := by
 obtain ⟨zs, hz⟩ := h.prow
 obtain ⟨vs, hv⟩ := h.rrow
 refine ⟨Keeps.refl _ _, ⟨zs, hz, ?_⟩, ⟨vs, hv, fun e h1 h2 => by omega⟩⟩
 have h1 : zs.length = n * 8 := hz.1
 rw [HNP.out, (pdrop_end hpl).1, ← HNP.out, ← h1, List.drop_length]
 exact .pnil
theorem WL.keeps {V wr w' : World} {s : ByteArray} {N n M gp gr dp dr : Nat} {x : Pat} (h : WL V wr s N x n M gp gr dp dr) (hk : Keeps [] wr w') : WL V w' s N x n M gp gr dp dr := by
 obtain ⟨zs, hz, hm⟩ := h.prow
 obtain ⟨vs, hv, hr⟩ := h.rrow
 refine ⟨h.keep.trans (hk.mono (by simp)), ⟨zs, hz.keep hk (by simp), hm.keep hk (by simp)⟩, ⟨vs, hv.keep hk (by simp), fun e h1 h2 => ?_⟩⟩
 obtain ⟨u, a, b⟩ := hr e h1 h2
 exact ⟨u, a, b.keep hk (by simp)⟩
theorem WL.rcell {V wr : World} {s : ByteArray} {N n M gp gr dp dr : Nat} {x : Pat} (h : WL V wr s N x n M gp gr dp dr) {e : Nat} (he : e < M) : (∃ u, wr.cell? ⟨gr, e, none⟩ = some u) ∧ wr.frozen? ⟨gr, e, none⟩ = false := by
 obtain ⟨vs, a, _⟩ := h.rrow
 have hl : vs.length = M := by have := a.1; omega
 exact ⟨⟨vs[e]'(by omega), by rw [World.ownsRow.cellAt a e (by omega), List.getElem?_eq_getElem]⟩, World.ownsRow.frozenAt a e⟩
theorem WL.rat {V wr : World} {s : ByteArray} {N n M gp gr dp dr : Nat} {x : Pat} (h : WL V wr s N x n M gp gr dp dr) {e : Nat} (hd : dr ≤ e) (he : e < M) : ∃ u, wr.cell? ⟨gr, e, none⟩ = some u ∧ MP wr (fun y => V.heap.size ≤ y) N u (Mt s (pdrop e x)) := by
 obtain ⟨vs, a, b⟩ := h.rrow
 obtain ⟨u, x, y⟩ := b e hd he
 exact ⟨u, (World.ownsRow.cellAt a e (by omega)).trans x, y⟩
theorem WL.pthere {V wr : World} {s : ByteArray} {N n M gp gr dp dr : Nat} {x : Pat} (h : WL V wr s N x n M gp gr dp dr) {i : Nat} (hi : i < n) : wr.there gp (i * 8) 8 := by
 obtain ⟨zs, a, _⟩ := h.prow
 have hl : zs.length = n * 8 := a.1
 intro j hj
 exact ⟨by rw [World.ownsRow.cellAt a (i * 8 + j) (by omega), List.getElem?_eq_getElem (by omega)]; rfl, World.ownsRow.frozenAt a _⟩
theorem WL.putR {V wr : World} {s : ByteArray} {N n M gp gr dp D d : Nat} {x : Pat} (h : WL V wr s N x n M gp gr dp D) (hD : D ≤ d + 1) (hd : d < M) {u : Value} (hu : MP wr (fun y => V.heap.size ≤ y) N u (Mt s (pdrop d x))) (hr : gr < V.heap.size) (hpr : gp ≠ gr) : WL V (wr.setCell ⟨gr, d, none⟩ u) s N x n M gp gr dp d := by
 obtain ⟨zs, hz, hm⟩ := h.prow
 obtain ⟨vs, hv, hb⟩ := h.rrow
 have hl : vs.length = M := by have := hv.1; omega
 have hk : Keeps [gr] wr (wr.setCell ⟨gr, d, none⟩ u) := (Keeps.refl [gr] wr).setCell (p := ⟨gr, d, none⟩) (by simp) _
 have hS : ∀ y, (fun y => V.heap.size ≤ y) y → y ∉ [gr] := by intro y hy; simp at hy ⊢; omega
 refine ⟨h.keep.trans (hk.mono (by simp)), ⟨zs, hz.keep hk (by intro y hy; simp only [Value.ownBlock, Option.some.injEq] at hy; simp; omega), hm.keep hk hS⟩, ⟨vs.set d u, (World.ownsRow.stored hv d u).1, fun e h1 h2 => ?_⟩⟩
 by_cases e1 : e = d
 ·subst e1
  exact ⟨u, by rw [List.getElem?_set_self (by omega)], hu.keep hk hS⟩
 ·obtain ⟨v, x, y⟩ := hb e (by omega) h2
  exact ⟨v, by rw [List.getElem?_set_ne (by omega)]; exact x, y.keep hk hS⟩
theorem WL.putP {V wr : World} {s : ByteArray} {N n M gp gr d dr : Nat} {x y : Pat} {ds : List Value} (h : WL V wr s N x n M gp gr (d + 1) dr) (hd : d < n) (hy : Mk wr (fun z => V.heap.size ≤ z) s N .piece y ds) (hx : pdrop d x = .pcons y (pdrop (d + 1) x)) (hp : gp < V.heap.size) (hpr : gp ≠ gr) :
    WL V (wr.setCells gp (d * 8) ds) s N x n M gp gr d dr := by
 obtain ⟨zs, hz, hm⟩ := h.prow
 obtain ⟨vs, hv, hb⟩ := h.rrow
 have hl8 : ds.length = 8 := hy.form.2
 have hl : zs.length = n * 8 := hz.1
 have hk : Keeps [gp] wr (wr.setCells gp (d * 8) ds) := Keeps.setCells (by simp) ds wr _ (Keeps.refl [gp] wr)
 have hS : ∀ y, (fun y => V.heap.size ≤ y) y → y ∉ [gp] := by intro y hy; simp at hy ⊢; omega
 refine ⟨h.keep.trans (hk.mono (by simp)), ⟨over zs (d * 8) ds, ownsOver ds _ _ _ hz, ?_⟩, ⟨vs, hv.keep hk (by intro y hy; simp only [Value.ownBlock, Option.some.injEq] at hy; simp; omega), fun e h1 h2 => ?_⟩⟩
 ·rw [over_drop _ _ _ (by omega), hx, hl8, show d * 8 + 8 = (d + 1) * 8 by omega]
  exact .pcons _ _ _ _ (hy.keep hk hS) (hm.keep hk hS)
 ·obtain ⟨v, x, y⟩ := hb e h1 h2
  exact ⟨v, x, y.keep hk hS⟩
end Go.Proofs.YtnfojonmohijpaaGreatDoor
namespace Go.Proofs.YtnfojonmohijpaaGreatDoor
open Go.RowKit
def hxR (p : US) : R Nat := if hexd p.cur < 0 then .bad p.ix else if hexd (at' p.s (p.ix + 1)) < 0 then .bad (p.ix + 1) else .ok (16 * hexd p.cur + hexd (at' p.s (p.ix + 1))).toNat (p.ix + 2)
theorem hexd_neg {c : Int} (h : c < 0) : hexd c < 0 := by
 unfold hexd; split
 ·omega
 ·split <;> omega
theorem utake_hex (b : Nat) (p : US) (w : World) (hp : UB w b p) (hs : p.s.size ≤ 20000) (hle : p.ix ≤ p.s.size) :
    Calls Tryz.prog 218 #[.pointer (some ⟨b, 0, none⟩), .func (.func 219) #[] #[]] w (UPB b p w (if hexd p.cur < 0 then .bad p.ix else .ok p.cur (p.ix + 1))) := by
 refine utake_may b p 219 #[] (decide (0 ≤ hexd p.cur)) w hp hs hle (fun h => may_isHex h (ucur_bd p).2 w) _ ?_
 by_cases h : hexd p.cur < 0
 ·rw [if_pos h, if_neg (by simp; omega)]
 ·rw [if_neg h, if_pos ⟨by
    rcases Int.lt_or_le p.cur 0 with h0 | h0
    · exact absurd (hexd_neg h0) h
    · exact h0, by simp; omega⟩]
set_option maxRecDepth 100000 in
set_option maxHeartbeats 1000000 in
theorem uhexPair_any (b : Nat) (p : US) (w : World) (hp : UB w b p) (hs : p.s.size ≤ 20000) (hle : p.ix ≤ p.s.size) :
    Calls Tryz.prog 182 #[.pointer (some ⟨b, 0, none⟩)] w (UPN b p w (hxR p)) := by
 unfold hxR
 have hwD : Keeps [] w w.drew := (Keeps.refl [] w).drewN 1
 have hpD := hp.keep hwD (by simp)
 have hT := utake_hex b p w.drew hpD hs hle
 by_cases h1 : hexd p.cur < 0
 ·rw [if_pos h1] at hT ⊢
  have HT : Hid (Calls Tryz.prog 218 #[.pointer (some ⟨b, 0, none⟩), .func (.func 219) #[] #[]] w.drew (UPB b p w.drew (.bad p.ix))) := hT
  clear hT h1
  go_enter Tryz.func182, Tryz.ntmps182
  go_wp2_with fail
  go_region_dies
  all_goals
   refine HT.out.mono ?_
   rintro e w1 ⟨hk1, hc1⟩
   subst hc1
   simp only [fault]
   exact ⟨rfl, (hwD.mono (by simp)).trans hk1, rfl⟩
 ·rw [if_neg h1] at hT ⊢
  have hlt : p.ix < p.s.size := at'_nn (by
    rcases Int.lt_or_le p.cur 0 with h0 | h0
    · exact absurd (hexd_neg h0) h1
    · exact h0)
  have hT2 : ∀ w1, UB w1 b { p with ix := p.ix + 1 } → Calls Tryz.prog 218 #[.pointer (some ⟨b, 0, none⟩), .func (.func 219) #[] #[]] w1 (UPB b { p with ix := p.ix + 1 } w1 (if hexd (at' p.s (p.ix + 1)) < 0 then .bad (p.ix + 1) else .ok (at' p.s (p.ix + 1)) (p.ix + 1 + 1))) := fun w1 hq => utake_hex b { p with ix := p.ix + 1 } w1 hq hs (by simp only; omega)
  by_cases h2 : hexd (at' p.s (p.ix + 1)) < 0
  ·rw [if_pos h2]
   simp only [if_pos h2] at hT2
   have HT : Hid (Calls Tryz.prog 218 #[.pointer (some ⟨b, 0, none⟩), .func (.func 219) #[] #[]] w.drew (UPB b p w.drew (.ok p.cur (p.ix + 1)))) := hT
   have HT2 : Hid (∀ w1, UB w1 b { p with ix := p.ix + 1 } → Calls Tryz.prog 218 #[.pointer (some ⟨b, 0, none⟩), .func (.func 219) #[] #[]] w1 (UPB b { p with ix := p.ix + 1 } w1 (.bad (p.ix + 1)))) := hT2
   clear hT hT2 h1 h2
   go_enter Tryz.func182, Tryz.ntmps182
   go_wp2_with fail
   refine wp_region_held (S := fun _ => True) (by kernel_rfl) ?_
   change wpAnyH _ _ _ _ _ _ _ _ (World.drew _)
   refine wpAnyH_tk 0 _ (some 5) (.pointer (some ⟨b, 0, none⟩)) rfl rfl (by kernel_rfl) (by kernel_rfl) (by kernel_rfl) (fun _ _ _ h => h) (Or.inl ⟨by rfl, fun X hX => by go_simp⟩) trivial ?_
   simp only [Act.put, List.setIfInBounds_toArray, List.set_cons_zero, List.set_cons_succ]
   refine wpAnyH_tk 1 _ (some 6) (.pointer (some ⟨b, 0, none⟩)) rfl rfl (by kernel_rfl) (by kernel_rfl) (by kernel_rfl) (fun _ _ _ h => h) (Or.inl ⟨by rfl, fun X hX => by go_simp⟩) trivial ?_
   simp only [Act.put, List.setIfInBounds_toArray, List.set_cons_zero, List.set_cons_succ]
   refine wpAnyH_tk 2 _ (some 7) (.pointer (some ⟨b, 0, none⟩)) rfl rfl (by kernel_rfl) (by kernel_rfl) (by kernel_rfl) (fun _ _ _ h => h) (Or.inl ⟨by rfl, fun X hX => by go_simp⟩) trivial ?_
   simp only [Act.put, List.setIfInBounds_toArray, List.set_cons_zero, List.set_cons_succ]
   refine wpAnyH_tk 4 _ (some 9) (.pointer (some ⟨b, 0, none⟩)) rfl rfl (by kernel_rfl) (by kernel_rfl) (by kernel_rfl) (fun _ _ _ h => h) (Or.inl ⟨by rfl, fun X hX => by go_simp⟩) trivial ?_
   simp only [Act.put, List.setIfInBounds_toArray, List.set_cons_zero, List.set_cons_succ]
   refine wpAnyH_tk 5 _ (some 10) (.pointer (some ⟨b, 0, none⟩)) rfl rfl (by kernel_rfl) (by kernel_rfl) (by kernel_rfl) (fun _ _ _ h => h) (Or.inl ⟨by rfl, fun X hX => by go_simp⟩) trivial ?_
   simp only [Act.put, List.setIfInBounds_toArray, List.set_cons_zero, List.set_cons_succ]
   refine wpAnyH_tk 6 _ (some 11) (.pointer (some ⟨b, 0, none⟩)) rfl rfl (by kernel_rfl) (by kernel_rfl) (by kernel_rfl) (fun _ _ _ h => h) (Or.inl ⟨by rfl, fun X hX => by go_simp⟩) trivial ?_
   simp only [Act.put, List.setIfInBounds_toArray, List.set_cons_zero, List.set_cons_succ]
   refine wpAnyH_ready (rs := [3]) (by kernel_rfl) (by simp) ?_
   refine AllReadyH.cons rfl (fun K hK => ?_) AllReadyH.nil
   go_simp
   refine HT.out.mono ?_
   rintro e w1 ⟨hk1, rfl, hq1⟩
   refine hK.out _ _ trivial (fun _ => ?_)
   clear hK K
   refine wpAnyH_ready (rs := [7]) (by kernel_rfl) (by simp) ?_
   refine AllReadyH.cons rfl (fun K hK => ?_) AllReadyH.nil
   go_simp
   refine (HT2.out _ hq1).mono ?_
   rintro e w2 ⟨hk2, rfl⟩
   simp only [fault]
   exact ⟨rfl, ((hwD.mono (by simp)).trans hk1).trans hk2, rfl⟩
  ·rw [if_neg h2]
   simp only [if_neg h2] at hT2
   have HT : Hid (Calls Tryz.prog 218 #[.pointer (some ⟨b, 0, none⟩), .func (.func 219) #[] #[]] w.drew (UPB b p w.drew (.ok p.cur (p.ix + 1)))) := hT
   have HT2 : Hid (∀ w1, UB w1 b { p with ix := p.ix + 1 } → Calls Tryz.prog 218 #[.pointer (some ⟨b, 0, none⟩), .func (.func 219) #[] #[]] w1 (UPB b { p with ix := p.ix + 1 } w1 (.ok (at' p.s (p.ix + 1)) (p.ix + 1 + 1)))) := hT2
   have hlt2 := hexd_lt (s := p.s) (i := p.ix + 1) (by omega)
   have hb1 := hexd_bd p.cur
   have hb2 := hexd_bd (at' p.s (p.ix + 1))
   have hc1 := ucur_bd p
   have hc2 : at' p.s (p.ix + 1) ≤ 255 := (at'_bd p.s (p.ix + 1)).2
   have h00 : 0 ≤ p.cur := by
    rcases Int.lt_or_le p.cur 0 with h0 | h0
    ·exact absurd (hexd_neg h0) h1
    ·exact h0
   have h01 : 0 ≤ at' p.s (p.ix + 1) := by
    rcases Int.lt_or_le (at' p.s (p.ix + 1)) 0 with h0 | h0
    ·exact absurd (hexd_neg h0) h2
    ·exact h0
   have hV1 := hexValue_any p.cur h00 hc1.2 (by omega)
   have hV2 := hexValue_any (at' p.s (p.ix + 1)) h01 hc2 (by omega)
   generalize at' p.s (p.ix + 1) = c2 at *
   generalize p.cur = c1 at *
   obtain ⟨a, ha⟩ : ∃ a : Nat, hexd c1 = (a : Int) := ⟨(hexd c1).toNat, by omega⟩
   obtain ⟨z, hz⟩ : ∃ z : Nat, hexd c2 = (z : Int) := ⟨(hexd c2).toNat, by omega⟩
   rw [ha] at hV1 hb1
   rw [hz] at hV2 hb2
   rw [ha, hz]
   have hor := or_hex (a : Int) (z : Int) (by omega) hb1.2 (by omega) hb2.2
   have hsh : (a : Int) * 16 ≤ 255 := by omega
   have HV1 : Hid (∀ w, Calls Tryz.prog 220 #[.int .u8 c1] w fun e w' => e = .returned (.int .u8 (a : Int)) ∧ w' = w) := hV1
   have HV2 : Hid (∀ w, Calls Tryz.prog 220 #[.int .u8 c2] w fun e w' => e = .returned (.int .u8 (z : Int)) ∧ w' = w) := hV2
   clear hT hT2 h1 h2 hc1 hc2 h00 h01 hV1 hV2 ha hz
   go_enter Tryz.func182, Tryz.ntmps182
   go_wp2_with fail
   go_region_with (first
     | (go_at_call 218; refine (HT2.out _ hq1).mono ?_; rintro e w2 ⟨hk2, rfl, hq2⟩)
     | (go_at_call 218; refine HT.out.mono ?_; rintro e w1 ⟨hk1, rfl, hq1⟩))
   all_goals
    go_wp2_with (first
      | (go_at_call 220; refine (HV1.out _).mono ?_; rintro e w3 ⟨rfl, rfl⟩)
      | (go_at_call 220; refine (HV2.out _).mono ?_; rintro e w3 ⟨rfl, rfl⟩))
    go_ret
    exact ⟨((hwD.mono (by simp)).trans hk1).trans hk2, ret_int (by omega), hq2⟩
def grN (p : US) (n : Nat) : Nat := if digB p.cur = true then n * 10 + (p.cur - 48).toNat else 60
set_option maxRecDepth 100000 in
set_option maxHeartbeats 1000000 in
theorem growsTo_any (b : Nat) (p : US) (n : Nat) (hn : n ≤ 59) (w : World) (hp : UB w b p) (hs : p.s.size ≤ 20000) (hle : p.ix ≤ p.s.size) :
    Calls Tryz.prog 280 #[.pointer (some ⟨b, 0, none⟩), .int .i64 n] w fun e w' => e = .returned (.int .i64 (grN p n)) ∧ UB w' b p ∧ Keeps [] w w' := by
 have hn' : (n : Int) ≤ 59 := by omega
 have hn0 : (0 : Int) ≤ (n : Int) := by omega
 unfold grN
 by_cases hlt : p.ix < p.s.size
 ·have hP := upeek_some b p w hp hlt hs
  cases hd : digB p.cur
  ·rw [if_neg (by simp)]
   have HD : Hid (∀ w, Calls Tryz.prog 236 #[.int .u8 p.cur] w fun e w' => e = .returned (.bool false) ∧ w' = w) := by
    show ∀ w, _
    intro w
    have := isDigit_any p.cur w
    rwa [hd] at this
   clear hd
   go_enter Tryz.func280, Tryz.ntmps280
   go_wp2_with (first | (go_at_call 167; refine hP.mono ?_; rintro e w1 ⟨rfl, hp1, hk1⟩) | (go_at_call 236; refine (HD.out _).mono ?_; rintro e w2 ⟨rfl, rfl⟩))
   go_ret
   exact ⟨rfl, hp1, hk1⟩
  ·rw [if_pos rfl]
   have hc : 48 ≤ p.cur ∧ p.cur ≤ 57 := by simpa [digB] using hd
   have HD : Hid (∀ w, Calls Tryz.prog 236 #[.int .u8 p.cur] w fun e w' => e = .returned (.bool true) ∧ w' = w) := by
    show ∀ w, _
    intro w
    have := isDigit_any p.cur w
    rwa [hd] at this
   obtain ⟨c, hcc⟩ : ∃ c : Nat, p.cur = ((48 + c : Nat) : Int) := ⟨(p.cur - 48).toNat, by omega⟩
   have hc9 : (c : Int) ≤ 9 := by omega
   have hc0 : (0 : Int) ≤ (c : Int) := by omega
   have e : (p.cur - 48).toNat = c := by omega
   rw [e]
   have HC : Hid (p.cur = ((48 + c : Nat) : Int)) := hcc
   rw [hcc] at hP HD
   clear hd hc hcc e
   go_enter Tryz.func280, Tryz.ntmps280
   go_wp2_with (first | (go_at_call 167; refine hP.mono ?_; rintro e w1 ⟨rfl, hp1, hk1⟩) | (go_at_call 236; refine (HD.out _).mono ?_; rintro e w2 ⟨rfl, rfl⟩))
   go_ret
   exact ⟨by first | rfl | go_num | exact ret_int (by omega), hp1, hk1⟩
 ·have hge : p.ix = p.s.size := by omega
  have h0 : p.cur = -1 := at'_ge (by omega)
  rw [h0, if_neg (by decide)]
  have hP := upeek_none b p w hp hge
  clear h0 hge hlt
  go_enter Tryz.func280, Tryz.ntmps280
  go_wp2_with (first | (go_at_call 167; refine hP.mono ?_; rintro e w1 ⟨rfl, hp1, hk1⟩))
  go_ret
  exact ⟨rfl, hp1, hk1⟩
end Go.Proofs.YtnfojonmohijpaaGreatDoor
namespace Go.Proofs.YtnfojonmohijpaaGreatDoor
open Go.RowKit
def wpR (p : US) : R Nat := if digB p.cur = true then .ok (plN p.s p.ix) (plE p.s p.ix) else .bad p.ix
theorem utake_dig (b : Nat) (p : US) (w : World) (hp : UB w b p) (hs : p.s.size ≤ 20000) (hle : p.ix ≤ p.s.size) :
    Calls Tryz.prog 218 #[.pointer (some ⟨b, 0, none⟩), .func (.func 236) #[] #[]] w (UPB b p w (if digB p.cur = true then .ok p.cur (p.ix + 1) else .bad p.ix)) := by
 refine utake_may b p 236 #[] (digB p.cur) w hp hs hle (fun h => may_isDigit w) _ ?_
 by_cases h : digB p.cur = true
 ·rw [if_pos h, if_pos ⟨by simp [digB] at h; omega, h⟩]
 ·rw [if_neg h, if_neg (fun e => h e.2)]
def WPI (p : US) (m j : Nat) : Prop := (m = (p.cur - 48).toNat ∧ j = p.ix + 1) ∨ (plD p.s p.ix ∧ m = plN p.s p.ix ∧ j = p.ix + 2)
theorem grN_ge (p : US) {n : Nat} (h : 6 ≤ n) : 60 ≤ grN p n := by unfold grN; split <;> omega
set_option maxRecDepth 100000 in
set_option maxHeartbeats 2000000 in
theorem wayPlace_any (b : Nat) (p : US) (w : World) (hp : UB w b p) (hs : p.s.size ≤ 20000) (hle : p.ix ≤ p.s.size) :
    Calls Tryz.prog 259 #[.pointer (some ⟨b, 0, none⟩)] w (UPN b p w (wpR p)) := by
 have hT := utake_dig b p w hp hs hle
 unfold wpR
 by_cases hd : digB p.cur = true
 ·rw [if_pos hd] at hT ⊢
  have hc : 48 ≤ p.cur ∧ p.cur ≤ 57 := by simpa [digB] using hd
  have hlt : p.ix < p.s.size := at'_nn (by show 0 ≤ p.cur; omega)
  obtain ⟨a, haa⟩ : ∃ a : Nat, p.cur = ((48 + a : Nat) : Int) := ⟨(p.cur - 48).toNat, by omega⟩
  have HA : Hid (p.cur = ((48 + a : Nat) : Int)) := haa
  rw [haa] at hT
  have ha9 : (a : Int) ≤ 9 := by omega
  have ha0 : (0 : Int) ≤ (a : Int) := by omega
  have HL : Hid (p.ix < p.s.size) := hlt
  have HD : Hid (digB p.cur = true) := hd
  clear hd hc haa hlt
  go_enter Tryz.func259, Tryz.ntmps259
  go_upto_region 2 with (first | (go_at_call 218; refine hT.mono ?_; rintro e w1 ⟨hk1, rfl, hq1⟩))
  go_loopw [3] (fun q wr => ∃ m j : Nat, q = .int .i64 m ∧ WPI p m j ∧ m ≤ 59 ∧ j ≤ p.s.size ∧ UB wr b { p with ix := j } ∧ Keeps [b] w wr) (fun q _ => 10 - (intOf q).toNat)
  case atStart => exact ⟨a, p.ix + 1, by first | rfl | go_num, Or.inl ⟨by have := HA.out; omega, rfl⟩, by omega, HL.out, hq1, hk1⟩
  case round =>
   obtain ⟨m, j, rfl, hI, hm, hj, hq, hk⟩ := hrel
   have hmi : (m : Int) ≤ 59 := by omega
   have hm0 : (0 : Int) ≤ (m : Int) := by omega
   have hG := growsTo_any b { p with ix := j } m hm wr hq hs hj
   have HI : Hid (WPI p m j) := hI
   by_cases hz : m = 0
   ·subst hz
    have hR : plN p.s p.ix = 0 ∧ plE p.s p.ix = j := by
     have hh := HA.out
     have hcur : at' p.s p.ix = ((48 + a : Nat) : Int) := hh
     rcases hI with ⟨h1, h2⟩ | ⟨h1, h2, _⟩
     ·have hn : ¬ plD p.s p.ix := by intro h; have := h.1; omega
      unfold plN plE
      rw [if_neg hn, if_neg hn]
      omega
     ·exfalso
      have := h1.1
      unfold plN at h2
      rw [if_pos h1] at h2
      omega
    have HR : Hid (plN p.s p.ix = 0 ∧ plE p.s p.ix = j) := hR
    clear hR hI hG
    go_wp2_with fail
    go_ret
    exact ⟨hk, ret_int (by have := HR.out.1; omega), by rw [HR.out.2]; exact hq⟩
   ·have hmp : (0 : Int) < (m : Int) := by omega
    by_cases hg : grN { p with ix := j } m ≤ 59
    ·have h6 : m < 6 := by
        rcases Nat.lt_or_ge m 6 with h | h
        ·exact h
        ·have := grN_ge { p with ix := j } h; omega
     have hX : plD p.s p.ix ∧ grN { p with ix := j } m = plN p.s p.ix ∧ j = p.ix + 1 ∧ 10 ≤ plN p.s p.ix := by
      have hh := HA.out
      have hcur : at' p.s p.ix = ((48 + a : Nat) : Int) := hh
      rcases hI with ⟨h1, h2⟩ | ⟨h1, h2, _⟩
      ·have hcu : p.cur = at' p.s p.ix := rfl
       rw [hcu] at h1
       subst h2
       have hdj : digB (at' p.s (p.ix + 1)) = true := by
        unfold grN at hg
        split at hg
        ·assumption
        ·omega
       have hD : plD p.s p.ix := ⟨by omega, by omega, hdj⟩
       refine ⟨hD, ?_, rfl, ?_⟩
       ·unfold grN plN
        rw [if_pos hD]
        have : digB (US.cur { p with ix := p.ix + 1 }) = true := hdj
        rw [if_pos this, h1]
        show _ * 10 + (at' p.s (p.ix + 1) - 48).toNat = _
        omega
       ·unfold plN
        rw [if_pos hD]
        omega
      ·exfalso
       have := h1.1
       unfold plN at h2
       rw [if_pos h1] at h2
       omega
     obtain ⟨hD, hv, rfl, h10⟩ := hX
     rw [hv] at hG hg
     have hdj := hD.2.2
     have hT2 := fun w1 (h : UB w1 b { p with ix := p.ix + 1 }) => utake_dig b { p with ix := p.ix + 1 } w1 h hs hj
     have hcj : US.cur { p with ix := p.ix + 1 } = at' p.s (p.ix + 1) := rfl
     simp only [hcj, if_pos hdj] at hT2
     have hgi : (plN p.s p.ix : Int) ≤ 59 := by omega
     have hG2 := fun w1 (h : UB w1 b { p with ix := p.ix + 1 }) => growsTo_any b { p with ix := p.ix + 1 } m hm w1 h hs hj
     simp only [hv] at hG2
     have HX : Hid (plD p.s p.ix ∧ plN p.s p.ix ≤ 59 ∧ 10 ≤ plN p.s p.ix ∧ p.ix + 2 ≤ p.s.size ∧ m < 10) := ⟨hD, hg, h10, by
       have : p.ix + 1 < p.s.size := at'_nn (by simp [digB] at hdj; omega)
       omega, by omega⟩
     have HT2 : Hid (∀ w1, UB w1 b { p with ix := p.ix + 1 } → Calls Tryz.prog 218 #[.pointer (some ⟨b, 0, none⟩), .func (.func 236) #[] #[]] w1 (UPB b { p with ix := p.ix + 1 } w1 (.ok (at' p.s (p.ix + 1)) (p.ix + 1 + 1)))) := hT2
     have HG2 : Hid (∀ w1, UB w1 b { p with ix := p.ix + 1 } → Calls Tryz.prog 280 #[.pointer (some ⟨b, 0, none⟩), .int .i64 m] w1 fun e w' => e = .returned (.int .i64 (plN p.s p.ix : Nat)) ∧ UB w' b { p with ix := p.ix + 1 } ∧ Keeps [] w1 w') := hG2
     clear hI hT2 hG2 hD hv hdj hG h10 hcj hz hg h6
     generalize hpl : plN p.s p.ix = N at *
     go_wp2_with (first
       | (go_at_call 280; refine (HG2.out _ hq2).mono ?_; rintro e w3 ⟨rfl, hq3, hk3⟩)
       | (go_at_call 280; refine (HG2.out _ hq).mono ?_; rintro e w2 ⟨rfl, hq2, hk2⟩)
       | (go_at_call 218; refine (HT2.out _ hq3).mono ?_; rintro e w4 ⟨hk4, rfl, hq4⟩))
     exact ⟨⟨N, p.ix + 1 + 1, rfl, Or.inr ⟨HX.out.1, hpl.symm, rfl⟩, HX.out.2.1, HX.out.2.2.2.1, hq4, ((hk.trans (hk2.mono (by simp))).trans (hk3.mono (by simp))).trans hk4⟩, by have := HX.out; simp [intOf]; omega⟩
    ·have hR : plN p.s p.ix = m ∧ plE p.s p.ix = j := by
        have hh := HA.out
        have hcur : at' p.s p.ix = ((48 + a : Nat) : Int) := hh
        rcases hI with ⟨h1, h2⟩ | ⟨h1, h2, h3⟩
        ·have hcu : p.cur = at' p.s p.ix := rfl
         rw [hcu] at h1
         subst h2
         have hn : ¬ plD p.s p.ix := by
          intro h
          apply hg
          unfold grN
          have : digB (US.cur { p with ix := p.ix + 1 }) = true := h.2.2
          have h5 := h.2.1
          have h7 := h.2.2
          simp [digB] at h7
          rw [if_pos this]
          show _ * 10 + (at' p.s (p.ix + 1) - 48).toNat ≤ 59
          omega
         unfold plN plE
         rw [if_neg hn, if_neg hn]
         exact ⟨h1.symm, rfl⟩
        ·refine ⟨h2.symm, ?_⟩
         unfold plE
         rw [if_pos h1, h3]
     have HR : Hid (plN p.s p.ix = m ∧ plE p.s p.ix = j) := hR
     generalize grN { p with ix := j } m = v at hG hg
     have hvg : ¬ (v : Int) ≤ 59 := by omega
     clear hR hI hg hz
     go_wp2_with (first | (go_at_call 280; refine hG.mono ?_; rintro e w2 ⟨rfl, hq2, hk2⟩))
     go_ret
     exact ⟨hk.trans (hk2.mono (by simp)), ret_int (by have := HR.out.1; omega), by rw [HR.out.2]; exact hq2⟩
 ·rw [if_neg hd] at hT ⊢
  clear hd
  go_enter Tryz.func259, Tryz.ntmps259
  go_wp2_with (first | (go_at_call 218; refine hT.mono ?_; rintro e w1 ⟨hk, rfl⟩; simp only [fault]))
  exact ⟨rfl, hk, rfl⟩
end Go.Proofs.YtnfojonmohijpaaGreatDoor
