/-
  DERIVED. Handed-in rules, read: RulIs; how many there can be.
-/
import Derived.Test.YtnfojonmohijpaaGreatDoorJON
import Derived.ProofKit
import Derived.Deep.Slices
import Derived.Deep.Strs
import Derived.Test.YtnfojonmohijpaaGreatDoorJNH
import Derived.Test.YtnfojonmohijpaaGreatDoorJNJ
import Derived.Test.YtnfojonmohijpaaGreatDoorRows
import Derived.LaidMore
import Derived.OpenShut
import Derived.Stop.Joined
import Derived.ChangeMaps5
set_option linter.unusedSimpArgs false
set_option linter.unusedVariables false
namespace Go.Proofs.YtnfojonmohijpaaGreatDoor
open Go.ChangeShapes Go.WideShapes Go.ChangeAt Go.WideMaps Go.WideElems Go.RowKit
theorem add_rul (x : Addr) (i q : Nat) (h : x.spot = none) : (x.add (i * 3)).add q = ⟨x.block, x.off + i * 3 + q, none⟩ := by
 obtain ⟨b, o, s⟩ := x
 cases h
 rw [Addr.add_lit, Addr.add_lit]
theorem ruc_of {cs : List Value} {a b : ByteArray} {c : Bool} (hlen : cs.length = 3) (h0 : (cs.drop 0).take 1 = [.string a]) (h1 : (cs.drop 1).take 1 = [.string b]) (h2 : (cs.drop 2).take 1 = [.bool c]) : cs = ruC ⟨a, b, c⟩ := by
 match cs, hlen with
 | [x, y, z], _ =>
  simp at h0 h1 h2
  rw [h0, h1, h2]
  rfl
set_option maxRecDepth 100000 in
theorem ru_open {H : Type} {enc : TypeId × Value → H} {W : World} {base : Nat} {v : Value} {d : DataW H} {p : List MemPlace} (hv : Value.okWide Tryz.prog W .any base 36 v)
    (h : DataW.Trod enc Tryz.prog W 0 (fun _ => true) true 36 v d p) : ∃ rs, RulIs W v rs := by
 obtain ⟨a0, len0, cap0, rfl⟩ := okWide_slice Tryz.underlying36 hv
 obtain ⟨fuel, hf⟩ := h
 rcases Go.Deep.open_slice Tryz.underlying36 hf with ⟨hcs, _⟩ | ⟨x, len, cap, m, n, D, Pl, hcs, _, hl, hm, hmm, _, hx⟩
 ·simp [Value.cells] at hcs
  obtain ⟨rfl, rfl, rfl⟩ := hcs
  exact ⟨[], ⟨by simp, Or.inl ⟨rfl, none, 0, rfl⟩⟩⟩
 ·simp [Value.cells] at hcs
  obtain ⟨rfl, rfl, rfl⟩ := hcs
  simp only [if_true] at hmm
  subst hmm
  unfold maxLen at hm
  by_cases h0 : len0 = 0
  ·subst h0
   exact ⟨[], ⟨by simp, Or.inl ⟨rfl, _, _, rfl⟩⟩⟩
  have hc3 : Tryz.prog.cellsOf 41 = 3 := by kernel_rfl
  have key : ∀ i, i < len0 → ∃ r : Rul, ∀ q u, (ruC r)[q]? = some u → W.cell? ((x.add (i * 3)).add q) = some u := by
   intro i hi
   obtain ⟨cs', h1, h2⟩ := hx i (by omega)
   rw [hc3] at h1
   obtain ⟨_, hlen, hcell⟩ := World.cells?_some h1
   obtain ⟨y0, y1, y2, k, _, _, g0, g1, g2⟩ := Go.Deep.trod_struct3 (P := Tryz.prog) Tryz.underlying41 h2
   obtain ⟨s0, e0, _⟩ := DataW.trod_string Tryz.underlying9 g0
   obtain ⟨s1, e1, _⟩ := DataW.trod_string Tryz.underlying9 g1
   obtain ⟨b2, e2, _⟩ := DataW.trod_bool Tryz.underlying4 g2
   have hs1 : Tryz.prog.cellsOf 9 = 1 := by kernel_rfl
   have hb1 : Tryz.prog.cellsOf 4 = 1 := by kernel_rfl
   have hcs := ruc_of hlen (by simpa [hs1] using e0) (by simpa [hs1] using e1) (by simpa [hb1] using e2)
   refine ⟨⟨s0, s1, b2⟩, fun q u hu => ?_⟩
   have hq : q < 3 := (List.getElem?_eq_some_iff.1 hu).1
   rw [hcell q hq, hcs]
   exact hu
  haveI : Inhabited Rul := ⟨zR⟩
  obtain ⟨R, hR⟩ := Go.Deep.choose_lt key
  have hspot : x.spot = none := by
   have h1 := hR 0 (by omega) 0 _ rfl
   cases hs : x.spot with
   | none => rfl
   | some z =>
    exfalso
    rw [Nat.zero_mul] at h1
    simp only [Addr.add, if_true] at h1
    unfold World.cell? at h1
    rw [hs] at h1
    split at h1
    ·simp at h1
    ·cases h1
  have hxe : x = ⟨x.block, x.off, none⟩ := by
   obtain ⟨b, o, s⟩ := x
   cases hspot
   rfl
  have hll : ((List.range len0).map R).length = len0 := by simp
  refine ⟨(List.range len0).map R, by rw [hll]; omega, Or.inr ⟨x.block, x.off, m, by rw [hll, ← hxe], fun k r hk q u hu => ?_, by rw [hll]; exact hl, hm⟩⟩
  have hkl : k < len0 := by
   have := (List.getElem?_eq_some_iff.1 hk).1
   rw [hll] at this
   exact this
  have hr : R k = r := by
   rw [List.getElem?_map, List.getElem?_range hkl] at hk
   simpa using hk
  have h1 := hR k hkl q u (by rw [hr]; exact hu)
  rw [add_rul x k q hspot] at h1
  exact h1
theorem ru_many {H : Type} {enc : TypeId × Value → H} {W : World} {a : Option Addr} {n c : Nat} {d : DataW H} {p : List MemPlace} (h : DataW.Trod enc Tryz.prog W 0 (fun _ => true) true 36 (.slice a n c) d p) (hw : ∀ x ∈ d.weights Tryz.prog 36, x ≤ reachBytes) : n ≤ 3518437208780 := by
 obtain ⟨fuel, hf⟩ := h
 rcases Go.Deep.open_slice Tryz.underlying36 hf with ⟨hcs, _⟩ | ⟨x, len, cap, m, k, D, Pl, hcs, _, hl, hm, hmm, hd, hx⟩
 ·simp [Value.cells] at hcs
  omega
 ·simp [Value.cells] at hcs
  obtain ⟨rfl, rfl, rfl⟩ := hcs
  simp only [Prod.mk.injEq] at hd
  obtain ⟨rfl, _⟩ := hd
  have hb : Tryz.prog.bytesOf 41 = 40 := by kernel_rfl
  have h1 := hw ((((List.range n).map D).length + ((List.range (m - n)).map fun j => D (n + j)).length) * 40) (by
    rw [DataW.weights, Tryz.underlying36]
    simp only [hb]
    exact List.mem_cons_self ..)
  simp at h1
  unfold reachBytes at h1
  omega
end Go.Proofs.YtnfojonmohijpaaGreatDoor
namespace Go.Proofs.YtnfojonmohijpaaGreatDoor
open Go.ChangeShapes Go.WideShapes Go.ChangeAt Go.WideMaps Go.WideElems Go.RowKit
theorem ownK : ownKnob Tryz.prog.godebug = none := by kernel_rfl
theorem gCls : Tryz.prog.globalNamed "yarrow/byteset.classNames" = some 6 := by kernel_rfl
theorem tCls : (Tryz.prog.globals[6]?).map (·.type) = some 357 := by kernel_rfl
theorem cStr : Tryz.prog.cellsOf 9 = 1 := by kernel_rfl
theorem cCls : Tryz.prog.cellsOf 357 = 7 := by kernel_rfl
theorem str_cell {H : Type} {enc : TypeId × Value → H} {W : World} {base fuel : Nat} {sp : Nat → Bool} {held : Bool} {c : Value} {x : DataW H × List MemPlace} {l : List UInt8}
    (h : DataW.trod enc Tryz.prog W base sp held fuel 9 [c] = some x) (hx : DataW.lit (.string l) = x.1) : c = .string (nmB l) := by
 obtain ⟨s, hc, rfl, _⟩ := DataW.trod_string Tryz.underlying9 h
 simp only [List.cons.injEq, and_true] at hc
 simp only [DataW.lit.injEq, Lit.string.injEq] at hx
 subst hc
 rw [hx]
 congr 1
theorem seven {α : Type} (l : List α) (h : l.length = 7) : ∃ a b c d e f g, l = [a, b, c, d, e, f, g] := by
 match l, h with
 | [a, b, c, d, e, f, g], _ => exact ⟨a, b, c, d, e, f, g, rfl⟩
end Go.Proofs.YtnfojonmohijpaaGreatDoor
namespace Go.Proofs.YtnfojonmohijpaaGreatDoor
open Go.ChangeShapes Go.WideShapes Go.ChangeAt Go.WideMaps Go.WideElems Go.RowKit
set_option maxRecDepth 100000 in
theorem of_laid1 {W : World} (h : laidMetH Tryz.prog Rows.searchesRow.laid W) : GN W := by
 rw [MakeChecks.laidMetH_plain _ _ _ (by kernel_rfl)] at h
 obtain ⟨ps, ⟨g3, t3, cs3, f3, p3, q3, hg3, ht3, hv3, hd3, _, _⟩, _, _⟩ := h
 obtain rfl := Option.some.inj (gCls.symm.trans hg3)
 obtain rfl := Option.some.inj (tCls.symm.trans ht3)
 obtain ⟨xs, m, rfl, hx, hlen, hn, hel⟩ := DataW.trod_array Tryz.underlying357 hd3
 rw [cCls] at hlen
 rw [cStr] at hel
 have hl : ∃ t fr, W.heap[6]? = some (.cells cs3 t fr) := by
  simp only [World.var?, gCls, Option.bind_some] at hv3
  split at hv3
  ·rename_i c t fr he
   cases hv3
   exact ⟨t, fr, he⟩
  ·cases hv3
 obtain ⟨t, fr, hl⟩ := hl
 refine ⟨t, fr, hl.trans ?_⟩
 obtain ⟨l3⟩ := cs3
 unfold Rows.laid_yarrow_byteset_classNames at hx
 simp only [Prod.mk.injEq, DataW.agg.injEq] at hx
 obtain ⟨hx, _⟩ := hx
 obtain ⟨c0, c1, c2, c3, c4, c5, c6, rfl⟩ := seven l3 hlen
 obtain ⟨x0, x1, x2, x3, x4, x5, x6, rfl⟩ := seven xs hn
 ·simp only [List.map_cons, List.map_nil, List.cons.injEq, and_true] at hx
  obtain ⟨e0, e1, e2, e3, e4, e5, e6⟩ := hx
  have h0 := str_cell (hel 0 (by decide)) e0
  have h1 := str_cell (hel 1 (by decide)) e1
  have h2 := str_cell (hel 2 (by decide)) e2
  have h3 := str_cell (hel 3 (by decide)) e3
  have h4 := str_cell (hel 4 (by decide)) e4
  have h5 := str_cell (hel 5 (by decide)) e5
  have h6 := str_cell (hel 6 (by decide)) e6
  subst h0 h1 h2 h3 h4 h5 h6
  rfl
end Go.Proofs.YtnfojonmohijpaaGreatDoor
