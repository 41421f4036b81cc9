/-
  DERIVED. The program's readers of options: addLetter, addLetters, withPattern, beginsOption. Conditions: what they are handed lies in memory.
-/
import Derived.Test.YtnfojonmohijpabGreatDoorJBN
import Derived.Test.YtnfojonmohijpabGreatDoorJPW
import Derived.Deep.CutRange
set_option linter.unusedSimpArgs false
set_option linter.unusedVariables false
namespace Go.Proofs.YtnfojonmohijpabGreatDoor
open Go.RowKit
def Cmd.cells (k : Cmd) (p : ByteArray) : Array Value := #[.bool k.c, .bool k.i, .bool k.n, .bool k.o, .bool k.v, .bool k.x, .string k.tp, .string p]
def AB (w : World) (b : Nat) (k : Cmd) (p : ByteArray) : Prop := w.heap[b]? = some (.cells (k.cells p) 108 (0, 0))
theorem AB.lt {w : World} {b : Nat} {k : Cmd} {p : ByteArray} (h : AB w b k p) : b < w.heap.size := (Array.getElem?_eq_some_iff.1 h).1
theorem AB.keep {w w' : World} {b : Nat} {k : Cmd} {p : ByteArray} {S : List Nat} (h : AB w b k p) (hk : Keeps S w w') (hb : b ∉ S) : AB w' b k p := (hk.block b h.lt hb).trans h
theorem AB.main {w : World} {b : Nat} {k : Cmd} {p : ByteArray} (h : AB w b k p) : w.cell? ⟨b, 0, none⟩ = some (.bool k.c) ∧ w.cell? ⟨b, 1, none⟩ = some (.bool k.i) ∧ w.cell? ⟨b, 2, none⟩ = some (.bool k.n) ∧ w.cell? ⟨b, 3, none⟩ = some (.bool k.o) ∧ w.cell? ⟨b, 4, none⟩ = some (.bool k.v) ∧ w.cell? ⟨b, 5, none⟩ = some (.bool k.x) ∧ w.cell? ⟨b, 6, none⟩ = some (.string k.tp) ∧ w.cell? ⟨b, 7, none⟩ = some (.string p) := by
 unfold AB at h
 simp [World.cell?, h, Cmd.cells]
theorem AB.frz {w : World} {b : Nat} {k : Cmd} {p : ByteArray} (h : AB w b k p) (j : Nat) : w.frozen? ⟨b, j, none⟩ = false := by
 unfold AB at h
 simp [World.frozen?, h]
theorem AB.set_c {w : World} {b : Nat} {k : Cmd} {p : ByteArray} (h : AB w b k p) : AB (w.setCell ⟨b, 0, none⟩ (.bool true)) b { k with c := true } p := by
 unfold AB at *
 simp [World.setCell, Array.getElem?_modify, h, Cmd.cells]
theorem AB.set_i {w : World} {b : Nat} {k : Cmd} {p : ByteArray} (h : AB w b k p) : AB (w.setCell ⟨b, 1, none⟩ (.bool true)) b { k with i := true } p := by
 unfold AB at *
 simp [World.setCell, Array.getElem?_modify, h, Cmd.cells]
theorem AB.set_n {w : World} {b : Nat} {k : Cmd} {p : ByteArray} (h : AB w b k p) : AB (w.setCell ⟨b, 2, none⟩ (.bool true)) b { k with n := true } p := by
 unfold AB at *
 simp [World.setCell, Array.getElem?_modify, h, Cmd.cells]
theorem AB.set_o {w : World} {b : Nat} {k : Cmd} {p : ByteArray} (h : AB w b k p) : AB (w.setCell ⟨b, 3, none⟩ (.bool true)) b { k with o := true } p := by
 unfold AB at *
 simp [World.setCell, Array.getElem?_modify, h, Cmd.cells]
theorem AB.set_v {w : World} {b : Nat} {k : Cmd} {p : ByteArray} (h : AB w b k p) : AB (w.setCell ⟨b, 4, none⟩ (.bool true)) b { k with v := true } p := by
 unfold AB at *
 simp [World.setCell, Array.getElem?_modify, h, Cmd.cells]
theorem AB.set_x {w : World} {b : Nat} {k : Cmd} {p : ByteArray} (h : AB w b k p) : AB (w.setCell ⟨b, 5, none⟩ (.bool true)) b { k with x := true } p := by
 unfold AB at *
 simp [World.setCell, Array.getElem?_modify, h, Cmd.cells]
theorem AB.set_t {w : World} {b : Nat} {k : Cmd} {p : ByteArray} (h : AB w b k p) (t : ByteArray) : AB ((w.setCell ⟨b, 3, none⟩ (.bool true)).setCell ⟨b, 6, none⟩ (.string t)) b { k with o := true, tp := t } p := by
 unfold AB at *
 simp [World.setCell, Array.getElem?_modify, h, Cmd.cells]
theorem AB.set_p {w : World} {b : Nat} {k : Cmd} {p : ByteArray} (h : AB w b k p) (t : ByteArray) : AB (w.setCell ⟨b, 7, none⟩ (.string t)) b k t := by
 unfold AB at *
 simp [World.setCell, Array.getElem?_modify, h, Cmd.cells]
def AlPost (b : Nat) (k : Cmd) (p : ByteArray) (r : Option Cmd) (w : World) (e : Ending) (w' : World) : Prop :=
 Keeps [b] w w' ∧ match r with
  | some k' => e = .returned (.bool true) ∧ AB w' b k' p
  | none => e = .returned (.bool false)
set_option maxRecDepth 100000 in
set_option maxHeartbeats 1000000 in
theorem addLetter_any (b : Nat) (k : Cmd) (p : ByteArray) (u : Int) (w : World) (h : AB w b k p) : Calls Tryz.prog 114 #[.pointer (some ⟨b, 0, none⟩), .int .u8 u] w (AlPost b k p (k.add u) w) := by
 obtain ⟨c0, c1, c2, c3, c4, c5, _, _⟩ := h.main
 by_cases h99 : u = 99
 ·have HA : Hid (k.add u = some { k with c := true }) := by show k.add u = _; unfold Cmd.add; rw [if_pos h99]
  have e99 : (u == 99) = true := by simpa using h99
  have hz := h.frz 0
  have hs := h.set_c
  have hk := (Keeps.refl [b] w).setCell (p := ⟨b, 0, none⟩) (by simp) (.bool true)
  clear h99
  go_enter Tryz.func114, Tryz.ntmps114
  go_wp2_with fail
  go_ret
  refine ⟨hk, ?_⟩
  rw [HA.out]
  exact ⟨rfl, hs⟩
 have e99 : (u == 99) = false := by simpa using h99
 by_cases h105 : u = 105
 ·have HA : Hid (k.add u = some { k with i := true }) := by show k.add u = _; unfold Cmd.add; rw [if_neg h99, if_pos h105]
  have e105 : (u == 105) = true := by simpa using h105
  have hz := h.frz 1
  have hs := h.set_i
  have hk := (Keeps.refl [b] w).setCell (p := ⟨b, 1, none⟩) (by simp) (.bool true)
  clear h105
  go_enter Tryz.func114, Tryz.ntmps114
  go_wp2_with fail
  go_ret
  refine ⟨hk, ?_⟩
  rw [HA.out]
  exact ⟨rfl, hs⟩
 have e105 : (u == 105) = false := by simpa using h105
 by_cases h110 : u = 110
 ·have HA : Hid (k.add u = some { k with n := true }) := by show k.add u = _; unfold Cmd.add; rw [if_neg h99, if_neg h105, if_pos h110]
  have e110 : (u == 110) = true := by simpa using h110
  have hz := h.frz 2
  have hs := h.set_n
  have hk := (Keeps.refl [b] w).setCell (p := ⟨b, 2, none⟩) (by simp) (.bool true)
  clear h110
  go_enter Tryz.func114, Tryz.ntmps114
  go_wp2_with fail
  go_ret
  refine ⟨hk, ?_⟩
  rw [HA.out]
  exact ⟨rfl, hs⟩
 have e110 : (u == 110) = false := by simpa using h110
 by_cases h111 : u = 111
 ·have HA : Hid (k.add u = some { k with o := true }) := by show k.add u = _; unfold Cmd.add; rw [if_neg h99, if_neg h105, if_neg h110, if_pos h111]
  have e111 : (u == 111) = true := by simpa using h111
  have hz := h.frz 3
  have hs := h.set_o
  have hk := (Keeps.refl [b] w).setCell (p := ⟨b, 3, none⟩) (by simp) (.bool true)
  clear h111
  go_enter Tryz.func114, Tryz.ntmps114
  go_wp2_with fail
  go_ret
  refine ⟨hk, ?_⟩
  rw [HA.out]
  exact ⟨rfl, hs⟩
 have e111 : (u == 111) = false := by simpa using h111
 by_cases h118 : u = 118
 ·have HA : Hid (k.add u = some { k with v := true }) := by show k.add u = _; unfold Cmd.add; rw [if_neg h99, if_neg h105, if_neg h110, if_neg h111, if_pos h118]
  have e118 : (u == 118) = true := by simpa using h118
  have hz := h.frz 4
  have hs := h.set_v
  have hk := (Keeps.refl [b] w).setCell (p := ⟨b, 4, none⟩) (by simp) (.bool true)
  clear h118
  go_enter Tryz.func114, Tryz.ntmps114
  go_wp2_with fail
  go_ret
  refine ⟨hk, ?_⟩
  rw [HA.out]
  exact ⟨rfl, hs⟩
 have e118 : (u == 118) = false := by simpa using h118
 by_cases h120 : u = 120
 ·have HA : Hid (k.add u = some { k with x := true }) := by show k.add u = _; unfold Cmd.add; rw [if_neg h99, if_neg h105, if_neg h110, if_neg h111, if_neg h118, if_pos h120]
  have e120 : (u == 120) = true := by simpa using h120
  have hz := h.frz 5
  have hs := h.set_x
  have hk := (Keeps.refl [b] w).setCell (p := ⟨b, 5, none⟩) (by simp) (.bool true)
  clear h120
  go_enter Tryz.func114, Tryz.ntmps114
  go_wp2_with fail
  go_ret
  refine ⟨hk, ?_⟩
  rw [HA.out]
  exact ⟨rfl, hs⟩
 have e120 : (u == 120) = false := by simpa using h120
 have HA : Hid (k.add u = none) := by show k.add u = _; unfold Cmd.add; rw [if_neg h99, if_neg h105, if_neg h110, if_neg h111, if_neg h118, if_neg h120]
 clear h99 h105 h110 h111 h118 h120
 go_enter Tryz.func114, Tryz.ntmps114
 go_wp2_with fail
 go_ret
 refine ⟨Keeps.refl _ _, ?_⟩
 rw [HA.out]
 rfl
set_option maxRecDepth 100000 in
set_option maxHeartbeats 1000000 in
theorem addLetters_any (b : Nat) (k : Cmd) (p s : ByteArray) (hs : s.size ≤ 9223372036854775807) (w : World) (h : AB w b k p) : Calls Tryz.prog 78 #[.pointer (some ⟨b, 0, none⟩), .string s] w (AlPost b k p (letF s k s.size 0) w) := by
 have hs' : (s.size : Int) ≤ 9223372036854775807 := by omega
 go_enter Tryz.func78, Tryz.ntmps78
 go_wp2_with fail
 go_loopw [8] (fun q wr => ∃ (j : Nat) (k' : Cmd), q = .int .i64 j ∧ j ≤ s.size ∧ AB wr b k' p ∧ Hid (letF s k s.size 0 = letF s k' (s.size - j) j) ∧ Keeps [b] w wr) (fun q _ => s.size - (intOf q).toNat)
 case atStart => exact ⟨0, k, rfl, Nat.zero_le _, h, rfl, Keeps.refl _ _⟩
 case round =>
  clear h
  obtain ⟨j, k', rfl, hj, hA, HL, hK⟩ := hrel
  have hj0 : (0 : Int) ≤ (j : Int) := by omega
  by_cases hlt : j < s.size
  rotate_left
  ·have hje : j = s.size := by omega
   have hlt' : ¬ (j : Int) < (s.size : Int) := by omega
   have HE : Hid (letF s k s.size 0 = some k') := by
    show letF s k s.size 0 = _
    rw [HL.out, hje, Nat.sub_self]
    rfl
   clear hlt hj hje
   go_wp2_with fail
   go_ret
   refine ⟨hK, ?_⟩
   rw [HE.out]
   exact ⟨rfl, hA⟩
  have hlt' : (j : Int) < (s.size : Int) := by omega
  have HJ : Hid (j < s.size) := hlt
  have hat := at'_lt hlt
  have hC := addLetter_any b k' p ((s[j]'hlt).toNat : Int) wr hA
  have HS : Hid (letF s k' (s.size - j) j = match k'.add (at' s j) with | none => none | some k2 => letF s k2 (s.size - (j + 1)) (j + 1)) := by
   show letF s k' (s.size - j) j = _
   rw [show s.size - j = (s.size - (j + 1)) + 1 by omega]
   rfl
  rw [hat] at HS
  clear hj hat
  go_wp2_with fail
  refine hC.mono ?_
  rintro e w2 ⟨hk2, hc2⟩
  have hK2 := hK.trans hk2
  cases hadd : k'.add ((s[j]'hlt).toNat : Int) with
  | none =>
   rw [hadd] at hc2
   obtain rfl := hc2
   have HE : Hid (letF s k s.size 0 = none) := by show letF s k s.size 0 = _; rw [HL.out, HS.out, hadd]
   clear hC hadd
   go_wp2_with fail
   go_ret
   refine ⟨hK2, ?_⟩
   rw [HE.out]
   rfl
  | some k2 =>
   rw [hadd] at hc2
   obtain ⟨rfl, hA2⟩ := hc2
   have HE : Hid (letF s k s.size 0 = letF s k2 (s.size - (j + 1)) (j + 1)) := by show letF s k s.size 0 = _; rw [HL.out, HS.out, hadd]
   clear hC hadd
   go_wp2_with fail
   go_roundw
   case rel => exact ⟨j + 1, k2, by go_num, HJ.out, hA2, HE, hK2⟩
   case measure => have := HJ.out; simp [intOf]; omega
structure ArgIs (w : World) (v : Value) (l : List ByteArray) : Prop where
 len : l.length ≤ 9223372036854775807
 rd : (l = [] ∧ ∃ a c, v = .slice a 0 c) ∨ ∃ g o c, v = .slice (some ⟨g, o, none⟩) l.length c ∧ (∀ (k : Nat) (a : ByteArray), l[k]? = some a → w.cell? ⟨g, o + k, none⟩ = some (.string a)) ∧ l.length ≤ c ∧ c ≤ 9223372036854775807
 sz : ∀ a ∈ l, a.size ≤ 9223372036854775807
theorem ArgIs.keep {w w' : World} {v : Value} {l : List ByteArray} (h : ArgIs w v l) (hk : Keeps [] w w') : ArgIs w' v l := by
 refine ⟨h.len, ?_, h.sz⟩
 rcases h.rd with h | ⟨g, o, c, h1, h2, h3⟩
 ·exact Or.inl h
 ·exact Or.inr ⟨g, o, c, h1, fun k a ha => keep_cell hk (h2 k a ha), h3⟩
theorem ArgIs.sl {w : World} {v : Value} {l : List ByteArray} (h : ArgIs w v l) : ∃ a c, v = .slice a l.length c := by
 rcases h.rd with ⟨rfl, a, c, h⟩ | ⟨g, o, c, h, _⟩
 ·exact ⟨a, c, h⟩
 ·exact ⟨_, c, h⟩
theorem ArgIs.cons {w : World} {v : Value} {a : ByteArray} {l : List ByteArray} (h : ArgIs w v (a :: l)) : ∃ g o c, v = .slice (some ⟨g, o, none⟩) (l.length + 1) c ∧ w.cell? ⟨g, o, none⟩ = some (.string a) ∧ l.length + 1 ≤ c ∧ c ≤ 9223372036854775807 ∧ a.size ≤ 9223372036854775807 ∧ ArgIs w (.slice (some ⟨g, o + 1, none⟩) l.length (c - 1)) l := by
 rcases h.rd with ⟨h0, _⟩ | ⟨g, o, c, h1, h2, h3, h4⟩
 ·cases h0
 ·rw [List.length_cons] at h1 h3
  have hl := h.len
  rw [List.length_cons] at hl
  refine ⟨g, o, c, h1, h2 0 a rfl, h3, h4, h.sz a (by simp), by omega, Or.inr ⟨g, o + 1, c - 1, rfl, fun k x hx => ?_, by omega, by omega⟩, fun x hx => h.sz x (by simp [hx])⟩
  have := h2 (k + 1) x (by simpa using hx)
  rw [show o + 1 + k = o + (k + 1) by omega]
  exact this
theorem infoArgs (k : Cmd) (p : ByteArray) : (Tryz.prog.info? 108).map (·.size) = some (k.cells p).size := by kernel_rfl
theorem cells_one (k : Cmd) (p : ByteArray) : (k.cells p).all (·.oneCell') = true := by
 have h1 : ∀ b, (Value.bool b).oneCell' = true := fun _ => rfl
 have h2 : ∀ b, (Value.string b).oneCell' = true := fun _ => rfl
 simp [Cmd.cells, h1, h2]
def k0 : Cmd := ⟨false, false, false, false, false, false, ⟨#[]⟩⟩
theorem results_wp (tmps : Array Value) (w : World) (g : Nat) (k : Cmd) (p : ByteArray) (v5 : Value) (h4 : tmps.getD 4 undef = .pointer (some ⟨g, 0, none⟩)) (h5 : tmps.getD 5 undef = v5) (hp : AB w g k p) :
    (results Tryz.f77 tmps).run Tryz.prog w = .ok (.tuple #[.agg (k.cells p), v5]) w := by
 have h : Tryz.f77.results = #[.cell 4 108, .tmp 5] := rfl
 have e4 : tmps[4]?.getD undef = .pointer (some ⟨g, 0, none⟩) := by simpa using h4
 have e5 : tmps[5]?.getD undef = v5 := by simpa using h5
 have l1 := run_loadVar_row (P := Tryz.prog) w g 108 108 (k.cells p) (0, 0) _ hp Tryz.underlying108 rfl (infoArgs k p)
 simp [results, h, e4, e5, asAddr, l1]
theorem oneF_none (k : Cmd) : ∀ {l : List ByteArray}, ¬ l.length = 1 → oneF k l = none
 | [], _ => rfl
 | [a], h1 => absurd rfl h1
 | _ :: _ :: _, _ => rfl
def WpPost (k : Cmd) (l : List ByteArray) (w : World) (e : Ending) (w' : World) : Prop :=
 Keeps [] w w' ∧ match oneF k l with
  | some (k', p) => e = .returned (.tuple #[.agg (k'.cells p), .bool true])
  | none => e = .returned (.tuple #[.agg (k0.cells ⟨#[]⟩), .bool false])
set_option maxRecDepth 100000 in
set_option maxHeartbeats 1000000 in
theorem withPattern_any (k : Cmd) (p : ByteArray) (v : Value) (l : List ByteArray) (w : World) (hl : ArgIs w v l) : Calls Tryz.prog 77 #[.agg (k.cells p), v] w (WpPost k l w) := by
 have hb0 : AB ((w.alloc (.cells (k.cells p) 108)).alloc (.cells #[.bool false, .bool false, .bool false, .bool false, .bool false, .bool false, .string ⟨#[]⟩, .string ⟨#[]⟩] 108)) w.heap.size k p := by
  have h := heap_alloc_new w (.cells (k.cells p) 108)
  exact (((Keeps.refl [] (w.alloc (.cells (k.cells p) 108))).alloc (.cells #[.bool false, .bool false, .bool false, .bool false, .bool false, .bool false, .string ⟨#[]⟩, .string ⟨#[]⟩] 108)).block _ (Array.getElem?_eq_some_iff.1 h).1 (by simp)).trans h
 have hr0 : AB ((w.alloc (.cells (k.cells p) 108)).alloc (.cells #[.bool false, .bool false, .bool false, .bool false, .bool false, .bool false, .string ⟨#[]⟩, .string ⟨#[]⟩] 108)) (w.heap.size + 1) k0 ⟨#[]⟩ := by
  have h := heap_alloc_new (w.alloc (.cells (k.cells p) 108)) (.cells #[.bool false, .bool false, .bool false, .bool false, .bool false, .bool false, .string ⟨#[]⟩, .string ⟨#[]⟩] 108)
  rw [show (w.alloc (.cells (k.cells p) 108)).heap.size = w.heap.size + 1 by simp] at h
  exact h
 have hk0 : Keeps [] w ((w.alloc (.cells (k.cells p) 108)).alloc (.cells #[.bool false, .bool false, .bool false, .bool false, .bool false, .bool false, .string ⟨#[]⟩, .string ⟨#[]⟩] 108)) := ((Keeps.refl [] w).alloc _).alloc _
 have hl0 := hl.keep hk0
 obtain ⟨va, vc, hv⟩ := hl.sl
 subst hv
 have hlen := hl.len
 have hlen' : (l.length : Int) ≤ 9223372036854775807 := by omega
 go_enter Tryz.func77, Tryz.ntmps77
 go_upto_region 1 with (fail)
 generalize (w.alloc (.cells (k.cells p) 108)).alloc (.cells #[.bool false, .bool false, .bool false, .bool false, .bool false, .bool false, .string ⟨#[]⟩, .string ⟨#[]⟩] 108) = W at *
 obtain ⟨b, hbe⟩ : ∃ b, w.heap.size = b := ⟨_, rfl⟩
 have HB : Hid (w.heap.size = b) := hbe
 rw [hbe] at hb0 hr0 ⊢
 clear hbe hl
 by_cases h1 : l.length = 1
 ·obtain ⟨a, rfl⟩ := List.length_eq_one_iff.1 h1
  obtain ⟨g, o, c, hv, hca, _, _, _, _⟩ := hl0.cons
  simp only [List.length_cons, List.length_nil, Nat.zero_add] at hv ⊢
  cases hv
  have c7 := hb0.main.2.2.2.2.2.2.2
  have f7 := hb0.frz 7
  have hb1 := hb0.set_p a
  have hkS : Keeps [b] W (W.setCell ⟨b, 7, none⟩ (.string a)) := (Keeps.refl [b] W).setCell (p := ⟨b, 7, none⟩) (by simp) _
  have hr1 := hr0.keep hkS (by simp)
  have hK1 : Keeps [] w (W.setCell ⟨b, 7, none⟩ (.string a)) := hk0.fresh hkS (by intro x hx; simp at hx; have := HB.out; exact Or.inr (by omega))
  have hia := infoArgs k a
  have hone := cells_one k a
  have HR : Hid (AB (W.setCell ⟨b, 7, none⟩ (.string a)) (b + 1) k0 ⟨#[]⟩) := hr1
  have hsz : (k0.cells ⟨#[]⟩).size = (k.cells a).size := rfl
  clear hb0 hr0 hkS hl0 hk0 h1 hlen hlen'
  go_wp2_with (first | (refine wpList_load_row rfl 108 _ rfl b rfl _ _ _ _ hb1 Tryz.underlying108 rfl hia ?_) | (refine wpList_store_row rfl 108 _ _ rfl (b + 1) (k.cells a) rfl rfl _ _ HR.out hia hsz hone ?_))
  have hkR := (Keeps.refl [b + 1] (W.setCell ⟨b, 7, none⟩ (.string a))).setRow (g := b + 1) (by simp) (k.cells a)
  refine bodyPost_ret (results_wp _ _ (b + 1) k a _ rfl rfl (setRow_heap _ _ _ _ _ _ HR.out)) rfl ?_
  exact ⟨hK1.fresh hkR (by intro x hx; simp at hx; have := HB.out; exact Or.inr (by omega)), rfl⟩
 ·have hne : ((l.length : Int) != 1) = true := by simp; omega
  have hne' : ¬ (l.length : Int) = 1 := by omega
  have HO : Hid (oneF k l = none) := oneF_none k h1
  have hia := infoArgs k0 ⟨#[]⟩
  have hone := cells_one k0 ⟨#[]⟩
  have HR : Hid (AB W (b + 1) k0 ⟨#[]⟩) := hr0
  clear hb0 hr0 hl0 h1 hlen
  go_wp2_with (first | (refine wpList_store_row rfl 108 _ _ rfl (b + 1) (k0.cells ⟨#[]⟩) rfl rfl _ _ HR.out hia rfl hone ?_))
  have hkR := (Keeps.refl [b + 1] W).setRow (g := b + 1) (by simp) (k0.cells ⟨#[]⟩)
  refine bodyPost_ret (results_wp _ _ (b + 1) k0 ⟨#[]⟩ _ rfl rfl (setRow_heap _ _ _ _ _ _ HR.out)) rfl ?_
  refine ⟨hk0.fresh hkR (by intro x hx; simp at hx; have := HB.out; exact Or.inr (by omega)), ?_⟩
  rw [HO.out]
  rfl
theorem pre45 (s : ByteArray) (h : 1 ≤ s.size) : ((s.extract 0 1).toList == [45]) = decide (at' s 0 = 45) := by
 rw [ByteArray.toList_eq]
 have e : (s.extract 0 1).data.toList = [s[0]'h] := by
  apply List.ext_getElem
  ·have : (s.extract 0 1).data.toList.length = (s.extract 0 1).size := Array.length_toList
   rw [this, ByteArray.size_extract]
   simp
   omega
  ·intro i h1 h2
   have hi : i = 0 := by simpa using h2
   subst hi
   simp only [List.getElem_cons_zero]
   show (s.extract 0 1).data[0] = _
   have := ByteArray.getElem_extract (b := s) (start := 0) (stop := 1) (i := 0) (h := by rw [ByteArray.size_extract]; omega)
   exact this
 rw [e, at'_lt h]
 by_cases hc : s[0]'h = 45
 ·rw [hc]; rfl
 ·have h2 : ¬ ((s[0]'h).toNat : Int) = 45 := fun hh => hc (UInt8.toNat_inj.1 (by have : (45 : UInt8).toNat = 45 := rfl; omega))
  rw [decide_eq_false h2]
  simp [hc]
theorem is45 (s : ByteArray) : (s.toList == [45]) = decide (s.size = 1 ∧ at' s 0 = 45) := by
 rw [show ([45] : List UInt8) = (⟨#[45]⟩ : ByteArray).toList by rw [ByteArray.toList_eq], strEq]
 by_cases h : s = ⟨#[45]⟩
 ·subst h
  decide
 ·rw [decide_eq_false h, decide_eq_false]
  rintro ⟨h1, h2⟩
  apply h
  obtain ⟨⟨l⟩⟩ := s
  match l, h1 with
  | [u], _ =>
   have : (u.toNat : Int) = 45 := h2
   have hu : u = 45 := UInt8.toNat_inj.1 (by have : (45 : UInt8).toNat = 45 := rfl; omega)
   rw [hu]
set_option maxHeartbeats 1000000 in
theorem hasPre45 (s : ByteArray) (w : World) : Calls Tryz.prog 113 #[.string s, .string ⟨#[45]⟩] w fun e w' => e = .returned (.bool (decide (at' s 0 = 45))) ∧ w' = w := by
 have hin : Calls Tryz.prog 135 #[.string s, .string ⟨#[45]⟩] w fun e w' => e = .returned (.bool (decide (at' s 0 = 45))) ∧ w' = w := by
  by_cases h : 1 ≤ s.size
  ·have he := pre45 s h
   have h' : (1 : Int) ≤ (s.size : Int) := by omega
   have hd : decide ((1 : Int) ≤ (s.size : Int)) = true := by simpa using h'
   obtain ⟨q, hq⟩ : ∃ q, decide (at' s 0 = 45) = q := ⟨_, rfl⟩
   rw [hq] at he ⊢
   clear hq
   go_enter Tryz.func135, Tryz.ntmps135
   go_wp2_with fail
   go_ret
   exact ⟨rfl, rfl⟩
  ·have hn : decide (at' s 0 = 45) = false := by
      have : at' s 0 = -1 := by unfold at'; rw [dif_neg (by omega)]
      rw [this]; decide
   have h' : ¬ (1 : Int) ≤ (s.size : Int) := by omega
   have hd : decide ((1 : Int) ≤ (s.size : Int)) = false := by simpa using h'
   rw [hn]
   go_enter Tryz.func135, Tryz.ntmps135
   go_wp2_with fail
   go_ret
   exact ⟨rfl, rfl⟩
 go_enter Tryz.func113, Tryz.ntmps113
 go_wp2_with fail
 refine hin.mono ?_
 rintro e w1 ⟨rfl, rfl⟩
 go_wp2_with fail
 go_ret
 exact ⟨rfl, rfl⟩
set_option maxHeartbeats 1000000 in
theorem beginsOption_any (s : ByteArray) (w : World) : Calls Tryz.prog 76 #[.string s] w fun e w' => e = .returned (.bool (decide (isOpt s))) ∧ w' = w := by
 have h1 := hasPre45 s w
 have h2 := is45 s
 by_cases h : at' s 0 = 45
 ·have hlt : 0 < s.size := at'_nn (by omega)
  rw [decide_eq_true h] at h1
  obtain ⟨q, hq⟩ : ∃ q, decide (isOpt s) = q := ⟨_, rfl⟩
  have h3 : (s.toList == [45]) = !q := by
   rw [h2, ← hq]
   by_cases h4 : s.size = 1
   ·rw [decide_eq_true ⟨h4, h⟩, decide_eq_false]
    ·rfl
    ·unfold isOpt; omega
   ·rw [decide_eq_false (by omega), decide_eq_true]
    ·rfl
    ·exact ⟨by omega, h⟩
  rw [hq]
  clear h2 hq h
  cases q
  all_goals
   go_enter Tryz.func76, Tryz.ntmps76
   go_wp2_with (first | (go_at_call 113; refine h1.mono ?_; rintro e w1 ⟨rfl, rfl⟩))
   go_ret
   exact ⟨rfl, rfl⟩
 ·rw [decide_eq_false h] at h1
  have hq : decide (isOpt s) = false := decide_eq_false fun hh => h hh.2
  rw [hq]
  clear h2 hq h
  go_enter Tryz.func76, Tryz.ntmps76
  go_wp2_with (first | (go_at_call 113; refine h1.mono ?_; rintro e w1 ⟨rfl, rfl⟩))
  go_ret
  exact ⟨rfl, rfl⟩
end Go.Proofs.YtnfojonmohijpabGreatDoor
namespace Go.Proofs.YtnfojonmohijpabGreatDoor
open Go.RowKit
theorem isDD (s : ByteArray) : (s.toList == [45, 45]) = decide (s = ddS) := by
 rw [show ([45, 45] : List UInt8) = ddS.toList by rw [ByteArray.toList_eq]; rfl, strEq]
theorem isDT (s : ByteArray) : (s.toList == [45, 116]) = decide (s = dtS) := by
 rw [show ([45, 116] : List UInt8) = dtS.toList by rw [ByteArray.toList_eq]; rfl, strEq]
theorem at'_tail (a : ByteArray) (j : Nat) : at' (a.extract 1 a.size) j = at' a (j + 1) := by
 unfold at'
 by_cases h : j + 1 < a.size
 ·rw [dif_pos h, dif_pos (by rw [ByteArray.size_extract]; omega)]
  rw [ByteArray.getElem_extract]
  simp only [Nat.add_comm 1 j]
 ·rw [dif_neg h, dif_neg (by rw [ByteArray.size_extract]; omega)]
theorem letF_tail (a : ByteArray) : ∀ (f j : Nat) (k : Cmd), letF (a.extract 1 a.size) k f j = letF a k f (j + 1)
 | 0, _, _ => rfl
 | f + 1, j, k => by
  simp only [letF, at'_tail]
  cases k.add (at' a (j + 1)) with
  | none => rfl
  | some k' => exact letF_tail a f (j + 1) k'
def kI : Cmd := { k0 with tp := ⟨#[92, 48]⟩ }
def slLen : Value → Nat
 | .slice _ n _ => n
 | _ => 0
theorem results_ra (tmps : Array Value) (w : World) (g : Nat) (k : Cmd) (p : ByteArray) (v5 : Value) (h4 : tmps.getD 2 undef = .pointer (some ⟨g, 0, none⟩)) (h5 : tmps.getD 3 undef = v5) (hp : AB w g k p) :
    (results Tryz.f41 tmps).run Tryz.prog w = .ok (.tuple #[.agg (k.cells p), v5]) w := by
 have h : Tryz.f41.results = #[.cell 2 108, .tmp 3] := rfl
 have e4 : tmps[2]?.getD undef = .pointer (some ⟨g, 0, none⟩) := by simpa using h4
 have e5 : tmps[3]?.getD undef = v5 := by simpa using h5
 have l1 := run_loadVar_row (P := Tryz.prog) w g 108 108 (k.cells p) (0, 0) _ hp Tryz.underlying108 rfl (infoArgs k p)
 simp [results, h, e4, e5, asAddr, l1]
def raE : Option (Cmd × ByteArray) → Ending
 | some (k, p) => .returned (.tuple #[.agg (k.cells p), .bool true])
 | none => .returned (.tuple #[.agg (k0.cells ⟨#[]⟩), .bool false])
theorem WpPost.one {k : Cmd} {l : List ByteArray} {w w' : World} {e : Ending} (h : WpPost k l w e w') : Keeps [] w w' ∧ ∃ k' p b, e = .returned (.tuple #[.agg (Cmd.cells k' p), .bool b]) ∧ raE (oneF k l) = .returned (.tuple #[.agg (Cmd.cells k' p), .bool b]) := by
 obtain ⟨hk, h⟩ := h
 refine ⟨hk, ?_⟩
 cases hq : oneF k l with
 | none => rw [hq] at h; exact ⟨k0, ⟨#[]⟩, false, h, rfl⟩
 | some kp => obtain ⟨k', p⟩ := kp; rw [hq] at h; exact ⟨k', p, true, h, rfl⟩
def RaPost (l : List ByteArray) (w : World) (e : Ending) (w' : World) : Prop := Keeps [] w w' ∧ ∃ q, OptA l kI q ∧ e = raE q
structure RaL (w wr : World) (b r : Nat) (l : List ByteArray) (v : Value) (l' : List ByteArray) (k : Cmd) : Prop where
 args : ArgIs w v l'
 rd : AB wr b k ⟨#[]⟩
 res : AB wr r k0 ⟨#[]⟩
 keep : Keeps [] w wr
 says : ∀ q, OptA l' k q → OptA l kI q
set_option maxRecDepth 100000 in
set_option maxHeartbeats 4000000 in
theorem readArgs_any (v : Value) (l : List ByteArray) (w : World) (hl : ArgIs w v l) : Calls Tryz.prog 41 #[v] w (RaPost l w) := by
 obtain ⟨va, vc, hv⟩ := hl.sl
 subst hv
 have hr0 : AB ((w.alloc (.cells #[.bool false, .bool false, .bool false, .bool false, .bool false, .bool false, .string ⟨#[]⟩, .string ⟨#[]⟩] 108)).alloc (.cells #[.bool false, .bool false, .bool false, .bool false, .bool false, .bool false, .string ⟨#[92, 48]⟩, .string ⟨#[]⟩] 108)) w.heap.size k0 ⟨#[]⟩ := by
  have h := heap_alloc_new w (.cells #[.bool false, .bool false, .bool false, .bool false, .bool false, .bool false, .string ⟨#[]⟩, .string ⟨#[]⟩] 108)
  exact (((Keeps.refl [] (w.alloc (.cells #[.bool false, .bool false, .bool false, .bool false, .bool false, .bool false, .string ⟨#[]⟩, .string ⟨#[]⟩] 108))).alloc (.cells #[.bool false, .bool false, .bool false, .bool false, .bool false, .bool false, .string ⟨#[92, 48]⟩, .string ⟨#[]⟩] 108)).block _ (Array.getElem?_eq_some_iff.1 h).1 (by simp)).trans h
 have hb0 : AB ((w.alloc (.cells #[.bool false, .bool false, .bool false, .bool false, .bool false, .bool false, .string ⟨#[]⟩, .string ⟨#[]⟩] 108)).alloc (.cells #[.bool false, .bool false, .bool false, .bool false, .bool false, .bool false, .string ⟨#[92, 48]⟩, .string ⟨#[]⟩] 108)) (w.heap.size + 1) kI ⟨#[]⟩ := by
  have h := heap_alloc_new (w.alloc (.cells #[.bool false, .bool false, .bool false, .bool false, .bool false, .bool false, .string ⟨#[]⟩, .string ⟨#[]⟩] 108)) (.cells #[.bool false, .bool false, .bool false, .bool false, .bool false, .bool false, .string ⟨#[92, 48]⟩, .string ⟨#[]⟩] 108)
  rw [show (w.alloc (.cells #[.bool false, .bool false, .bool false, .bool false, .bool false, .bool false, .string ⟨#[]⟩, .string ⟨#[]⟩] 108)).heap.size = w.heap.size + 1 by simp] at h
  exact h
 have hk0 : Keeps [] w ((w.alloc (.cells #[.bool false, .bool false, .bool false, .bool false, .bool false, .bool false, .string ⟨#[]⟩, .string ⟨#[]⟩] 108)).alloc (.cells #[.bool false, .bool false, .bool false, .bool false, .bool false, .bool false, .string ⟨#[92, 48]⟩, .string ⟨#[]⟩] 108)) := ((Keeps.refl [] w).alloc _).alloc _
 have hL0 : RaL w _ (w.heap.size + 1) w.heap.size l (.slice va l.length vc) l kI := ⟨hl, hb0, hr0, hk0, fun q h => h⟩
 clear hr0 hb0 hk0 hl
 go_enter Tryz.func41, Tryz.ntmps41
 go_upto_region 2 with (fail)
 generalize (w.alloc (.cells #[.bool false, .bool false, .bool false, .bool false, .bool false, .bool false, .string ⟨#[]⟩, .string ⟨#[]⟩] 108)).alloc (.cells #[.bool false, .bool false, .bool false, .bool false, .bool false, .bool false, .string ⟨#[92, 48]⟩, .string ⟨#[]⟩] 108) = W at *
 obtain ⟨r, hre⟩ : ∃ r, w.heap.size = r := ⟨_, rfl⟩
 have HR : Hid (w.heap.size = r) := hre
 rw [hre] at hL0 ⊢
 obtain ⟨b, hbe⟩ : ∃ b, b = r + 1 := ⟨_, rfl⟩
 have HB : Hid (b = r + 1) := hbe
 rw [← hbe] at hL0 ⊢
 clear hre hbe
 go_loopw [0] (fun q0 wr => ∃ (l' : List ByteArray) (k : Cmd), RaL w wr b r l q0 l' k) (fun q _ => slLen q)
 case atStart => exact ⟨l, kI, hL0⟩
 case round =>
  clear hL0
  obtain ⟨l', k, L⟩ := hrel
  obtain ⟨xa, xc, hv⟩ := L.args.sl
  subst hv
  have HL : Hid (RaL w wr b r l (.slice xa l'.length xc) l' k) := L
  have hrd := L.rd
  have hia := infoArgs k ⟨#[]⟩
  have hlen := L.args.len
  have hlen' : (l'.length : Int) ≤ 9223372036854775807 := by omega
  by_cases hgo : ∃ a r', l' = a :: r' ∧ isOpt a
  rotate_left
  ·have HE : Hid (OptA l kI (oneF k l')) := L.says _ (.left l' k fun a r' e ho => hgo ⟨a, r', e, ho⟩)
   have hwp := withPattern_any k ⟨#[]⟩ (.slice xa l'.length xc) l' wr (L.args.keep L.keep)
   cases l' with
   | nil =>
    clear L hgo
    simp only [List.length_nil] at hwp ⊢
    go_wp2_with (first | (refine wpList_load_row rfl 108 _ rfl b rfl _ _ _ _ hrd Tryz.underlying108 rfl hia ?_))
    refine hwp.mono ?_
    rintro e w2 hw2
    obtain ⟨hk2, k2, p2, b2, rfl, hq2⟩ := hw2.one
    have hres := HL.out.res.keep hk2 (by simp)
    have hia2 := infoArgs k2 p2
    have hone2 := cells_one k2 p2
    have hszz : (k0.cells ⟨#[]⟩).size = (k2.cells p2).size := rfl
    have HQ2 : Hid (raE (oneF k []) = .returned (.tuple #[.agg (Cmd.cells k2 p2), .bool b2])) := hq2
    have hkE : Keeps [] w w2 := HL.out.keep.trans hk2
    clear hwp hw2 hq2
    go_wp2_with (first | (refine wpList_store_row rfl 108 _ _ rfl r (k2.cells p2) rfl rfl _ _ hres hia2 hszz hone2 ?_))
    have hkR := (Keeps.refl [r] w2).setRow (g := r) (by simp) (k2.cells p2)
    refine bodyPost_ret (results_ra _ _ r k2 p2 _ rfl rfl (setRow_heap _ _ _ _ _ _ hres)) rfl ?_
    exact ⟨hkE.fresh hkR (by intro x hx; simp at hx; have := HR.out; exact Or.inr (by omega)), _, HE.out, HQ2.out.symm⟩
   | cons a r' =>
    have hno : decide (isOpt a) = false := decide_eq_false fun ho => hgo ⟨a, r', rfl, ho⟩
    obtain ⟨g, o, c, hv, hca0, hc1, hc2, hasz, hrest⟩ := L.args.cons
    have hca := keep_cell L.keep hca0
    rw [List.length_cons] at hv hwp hlen' ⊢
    cases hv
    have hbo := beginsOption_any a wr
    rw [hno] at hbo
    have hn1 : (0 : Int) < ((r'.length + 1 : Nat) : Int) := by omega
    have hn2 : decide ((0 : Int) < ((r'.length + 1 : Nat) : Int)) = true := decide_eq_true hn1
    obtain ⟨n, hn⟩ : ∃ n, n = r'.length + 1 := ⟨_, rfl⟩
    rw [← hn] at hn1 hn2 hlen' hwp ⊢
    clear L hgo hno hrest hc1 hc2 hn hlen
    go_wp2_with (first | (go_at_call 76; refine hbo.mono ?_; rintro e w1 ⟨rfl, hw1⟩; rw [hw1]; clear hw1) | (refine wpList_load_row rfl 108 _ rfl b rfl _ _ _ _ hrd Tryz.underlying108 rfl hia ?_))
    refine hwp.mono ?_
    rintro e w2 hw2
    obtain ⟨hk2, k2, p2, b2, rfl, hq2⟩ := hw2.one
    have hres := HL.out.res.keep hk2 (by simp)
    have hia2 := infoArgs k2 p2
    have hone2 := cells_one k2 p2
    have hszz : (k0.cells ⟨#[]⟩).size = (k2.cells p2).size := rfl
    have HQ2 : Hid (raE (oneF k (a :: r')) = .returned (.tuple #[.agg (Cmd.cells k2 p2), .bool b2])) := hq2
    have hkE : Keeps [] w w2 := HL.out.keep.trans hk2
    clear hwp hw2 hq2
    go_wp2_with (first | (refine wpList_store_row rfl 108 _ _ rfl r (k2.cells p2) rfl rfl _ _ hres hia2 hszz hone2 ?_))
    have hkR := (Keeps.refl [r] w2).setRow (g := r) (by simp) (k2.cells p2)
    refine bodyPost_ret (results_ra _ _ r k2 p2 _ rfl rfl (setRow_heap _ _ _ _ _ _ hres)) rfl ?_
    exact ⟨hkE.fresh hkR (by intro x hx; simp at hx; have := HR.out; exact Or.inr (by omega)), _, HE.out, HQ2.out.symm⟩
  obtain ⟨a, r', rfl, ho⟩ := hgo
  have hyes : decide (isOpt a) = true := decide_eq_true ho
  obtain ⟨g, o, c, hv, hca0, hc1, hc2, hasz, hrest⟩ := L.args.cons
  have hca := keep_cell L.keep hca0
  rw [List.length_cons] at hv hlen' ⊢
  cases hv
  have hbo := beginsOption_any a wr
  rw [hyes] at hbo
  have hdd := isDD a
  have hdt := isDT a
  have HO : Hid (isOpt a) := ho
  obtain ⟨n, hn⟩ : ∃ n, n = r'.length + 1 := ⟨_, rfl⟩
  have hrl : r'.length = n - 1 := by omega
  rw [← hn] at hlen' hc1 ⊢
  rw [hrl] at hrest
  have HNN : Hid (n = r'.length + 1 ∧ 1 ≤ n ∧ n ≤ xc ∧ xc ≤ 9223372036854775807) := ⟨hn, by omega, hc1, hc2⟩
  have hn5 : (xc : Int) ≤ 9223372036854775807 := by omega
  have hsaN : (1 : Int) ≤ (a.size : Int) := by have := ho.1; omega
  have hsaM : (a.size : Int) ≤ 9223372036854775807 := by omega
  have hal := addLetters_any b k ⟨#[]⟩ (a.extract 1 a.size) (by rw [ByteArray.size_extract]; omega) wr hrd
  rw [letF_tail, ByteArray.size_extract, Nat.min_self] at hal
  have HG : Hid (g < w.heap.size) := World.block_lt_of_cell? _ _ hca0
  clear L hyes ho hlen hn hrl hc1 hc2
  by_cases hx1 : xc = 1
  ·subst hx1
   have hn1e : n = 1 := by have := HNN.out; omega
   subst hn1e
   have hr0 : r' = [] := List.eq_nil_of_length_eq_zero (by have := HNN.out; omega)
   subst hr0
   have hrest1 : ArgIs w (.slice (some ⟨g, o, none⟩) 0 0) [] := ⟨by simp, Or.inl ⟨rfl, _, _, rfl⟩, by simp⟩
   clear hrest
   by_cases h1 : a = ddS
   ·rw [decide_eq_true h1] at hdd
    have HE : Hid (OptA l kI (oneF k [])) := HL.out.says _ (by rw [h1]; exact .dd [] k)
    have hwp := withPattern_any k ⟨#[]⟩ _ [] wr (hrest1.keep HL.out.keep)
    clear hdt h1 hal
    go_wp2_with (first | (go_at_call 76; refine hbo.mono ?_; rintro e w1 ⟨rfl, hw1⟩; rw [hw1]; clear hw1) | (refine wpList_load_row rfl 108 _ rfl b rfl _ _ _ _ hrd Tryz.underlying108 rfl hia ?_))
    refine hwp.mono ?_
    rintro e w2 hw2
    obtain ⟨hk2, k2, p2, b2, rfl, hq2⟩ := hw2.one
    have hres := HL.out.res.keep hk2 (by simp)
    have hia2 := infoArgs k2 p2
    have hone2 := cells_one k2 p2
    have hszz : (k0.cells ⟨#[]⟩).size = (k2.cells p2).size := rfl
    have HQ2 : Hid (raE (oneF k []) = .returned (.tuple #[.agg (Cmd.cells k2 p2), .bool b2])) := hq2
    have hkE : Keeps [] w w2 := HL.out.keep.trans hk2
    clear hwp hw2 hq2
    go_wp2_with (first | (refine wpList_store_row rfl 108 _ _ rfl r (k2.cells p2) rfl rfl _ _ hres hia2 hszz hone2 ?_))
    have hkR := (Keeps.refl [r] w2).setRow (g := r) (by simp) (k2.cells p2)
    refine bodyPost_ret (results_ra _ _ r k2 p2 _ rfl rfl (setRow_heap _ _ _ _ _ _ hres)) rfl ?_
    exact ⟨hkE.fresh hkR (by intro x hx; simp at hx; have := HR.out; exact Or.inr (by omega)), _, HE.out, HQ2.out.symm⟩
   rw [decide_eq_false h1] at hdd
   by_cases h2 : a = dtS
   ·rw [decide_eq_true h2] at hdt
    have H2 : Hid (a = dtS) := h2
    clear h1 h2 hal
    have HE : Hid (OptA l kI none) := HL.out.says _ (by rw [H2.out]; exact .dt0 k)
    have hres := HL.out.res.keep (Keeps.refl [] wr) (by simp)
    have hia2 := infoArgs k0 ⟨#[]⟩
    have hone2 := cells_one k0 ⟨#[]⟩
    have hkE : Keeps [] w wr := HL.out.keep.trans (Keeps.refl [] wr)
    go_wp2_with (first | (go_at_call 76; refine hbo.mono ?_; rintro e w1 ⟨rfl, hw1⟩; rw [hw1]; clear hw1) | (refine wpList_store_row rfl 108 _ _ rfl r (k0.cells ⟨#[]⟩) rfl rfl _ _ hres hia2 rfl hone2 ?_))
    have hkR := (Keeps.refl [r] wr).setRow (g := r) (by simp) (k0.cells ⟨#[]⟩)
    refine bodyPost_ret (results_ra _ _ r k0 ⟨#[]⟩ _ rfl rfl (setRow_heap _ _ _ _ _ _ hres)) rfl ?_
    exact ⟨hkE.fresh hkR (by intro x hx; simp at hx; have := HR.out; exact Or.inr (by omega)), none, HE.out, rfl⟩
   rw [decide_eq_false h2] at hdt
   have HN1 : Hid (a ≠ ddS ∧ a ≠ dtS) := ⟨h1, h2⟩
   clear h1 h2
   cases hlf : letF a k (a.size - 1) (0 + 1) with
   | none =>
    rw [hlf] at hal
    have HE : Hid (OptA l kI none) := HL.out.says _ (.bad a [] k HO.out HN1.out.1 HN1.out.2 (by rw [Nat.zero_add] at hlf; exact hlf))
    clear hlf
    go_upto_region 6 with (first | (go_at_call 76; refine hbo.mono ?_; rintro e w1 ⟨rfl, hw1⟩; rw [hw1]; clear hw1))
    go_wp2_with fail
    refine hal.mono ?_
    rintro e w2 ⟨hk2, rfl⟩
    have hres := HL.out.res.keep hk2 (by simp; have := HB.out; omega)
    have hia2 := infoArgs k0 ⟨#[]⟩
    have hone2 := cells_one k0 ⟨#[]⟩
    have hkE : Keeps [] w w2 := HL.out.keep.fresh hk2 (by intro x hx; simp at hx; have := HB.out; have := HR.out; exact Or.inr (by omega))
    clear hal hrd
    go_wp2_with (first | (refine wpList_store_row rfl 108 _ _ rfl r (k0.cells ⟨#[]⟩) rfl rfl _ _ hres hia2 rfl hone2 ?_))
    have hkR := (Keeps.refl [r] w2).setRow (g := r) (by simp) (k0.cells ⟨#[]⟩)
    refine bodyPost_ret (results_ra _ _ r k0 ⟨#[]⟩ _ rfl rfl (setRow_heap _ _ _ _ _ _ hres)) rfl ?_
    exact ⟨hkE.fresh hkR (by intro x hx; simp at hx; have := HR.out; exact Or.inr (by omega)), none, HE.out, rfl⟩
   | some k2 =>
    rw [hlf] at hal
    have HS2 : Hid (∀ q, OptA [] k2 q → OptA l kI q) := fun q hq => HL.out.says q (.let' a [] k k2 q HO.out HN1.out.1 HN1.out.2 (by rw [Nat.zero_add] at hlf; exact hlf) hq)
    clear hlf
    go_upto_region 6 with (first | (go_at_call 76; refine hbo.mono ?_; rintro e w1 ⟨rfl, hw1⟩; rw [hw1]; clear hw1))
    go_wp2_with fail
    refine hal.mono ?_
    rintro e w2 ⟨hk2, rfl, hrd2⟩
    have HL2 : Hid (RaL w w2 b r l (.slice (some ⟨g, o, none⟩) 0 0) [] k2) := ⟨hrest1, hrd2, HL.out.res.keep hk2 (by simp; have := HB.out; omega), HL.out.keep.fresh hk2 (by intro x hx; simp at hx; have := HB.out; have := HR.out; exact Or.inr (by omega)), HS2.out⟩
    clear hal hrd hrd2 hk2
    go_wp2_with fail
    go_roundw
    case rel => exact ⟨[], k2, HL2.out⟩
    case measure => have := HNN.out; simp [slLen]; try omega
  have hn1 : (0 : Int) < (n : Int) := by have := HNN.out; omega
  have hn2 : decide ((0 : Int) < (n : Int)) = true := decide_eq_true hn1
  have hn3 : (1 : Int) ≤ (n : Int) := by omega
  have hn4 : (n : Int) ≤ (xc : Int) := by have := HNN.out; omega
  have hx1' : ¬ (xc : Int) = 1 := by omega
  have hx1'' : ¬ xc - 1 = 0 := by have := HNN.out; omega
  have hrest1 := hrest
  clear hrest
  by_cases h1 : a = ddS
  ·rw [decide_eq_true h1] at hdd
   have HE : Hid (OptA l kI (oneF k r')) := HL.out.says _ (by rw [h1]; exact .dd r' k)
   have hwp := withPattern_any k ⟨#[]⟩ _ r' wr (hrest1.keep HL.out.keep)
   clear hdt h1 hal
   go_wp2_with (first | (go_at_call 76; refine hbo.mono ?_; rintro e w1 ⟨rfl, hw1⟩; rw [hw1]; clear hw1) | (refine wpList_load_row rfl 108 _ rfl b rfl _ _ _ _ hrd Tryz.underlying108 rfl hia ?_))
   refine hwp.mono ?_
   rintro e w2 hw2
   obtain ⟨hk2, k2, p2, b2, rfl, hq2⟩ := hw2.one
   have hres := HL.out.res.keep hk2 (by simp)
   have hia2 := infoArgs k2 p2
   have hone2 := cells_one k2 p2
   have hszz : (k0.cells ⟨#[]⟩).size = (k2.cells p2).size := rfl
   have HQ2 : Hid (raE (oneF k r') = .returned (.tuple #[.agg (Cmd.cells k2 p2), .bool b2])) := hq2
   have hkE : Keeps [] w w2 := HL.out.keep.trans hk2
   clear hwp hw2 hq2
   go_wp2_with (first | (refine wpList_store_row rfl 108 _ _ rfl r (k2.cells p2) rfl rfl _ _ hres hia2 hszz hone2 ?_))
   have hkR := (Keeps.refl [r] w2).setRow (g := r) (by simp) (k2.cells p2)
   refine bodyPost_ret (results_ra _ _ r k2 p2 _ rfl rfl (setRow_heap _ _ _ _ _ _ hres)) rfl ?_
   exact ⟨hkE.fresh hkR (by intro x hx; simp at hx; have := HR.out; exact Or.inr (by omega)), _, HE.out, HQ2.out.symm⟩
  rw [decide_eq_false h1] at hdd
  by_cases h2 : a = dtS
  ·rw [decide_eq_true h2] at hdt
   have H2 : Hid (a = dtS) := h2
   clear h1 h2 hal
   by_cases hnil : r' = []
   ·subst hnil
    have hne1 : n = 1 := by have := HNN.out.1; simpa using this
    subst hne1
    have HE : Hid (OptA l kI none) := HL.out.says _ (by rw [H2.out]; exact .dt0 k)
    have hres := HL.out.res.keep (Keeps.refl [] wr) (by simp)
    have hia2 := infoArgs k0 ⟨#[]⟩
    have hone2 := cells_one k0 ⟨#[]⟩
    have hkE : Keeps [] w wr := HL.out.keep.trans (Keeps.refl [] wr)
    go_wp2_with (first | (go_at_call 76; refine hbo.mono ?_; rintro e w1 ⟨rfl, hw1⟩; rw [hw1]; clear hw1) | (refine wpList_store_row rfl 108 _ _ rfl r (k0.cells ⟨#[]⟩) rfl rfl _ _ hres hia2 rfl hone2 ?_))
    have hkR := (Keeps.refl [r] wr).setRow (g := r) (by simp) (k0.cells ⟨#[]⟩)
    refine bodyPost_ret (results_ra _ _ r k0 ⟨#[]⟩ _ rfl rfl (setRow_heap _ _ _ _ _ _ hres)) rfl ?_
    exact ⟨hkE.fresh hkR (by intro x hx; simp at hx; have := HR.out; exact Or.inr (by omega)), none, HE.out, rfl⟩
   obtain ⟨t, r2, rfl⟩ : ∃ t r2, r' = t :: r2 := by
    cases r' with
    | nil => exact absurd rfl hnil
    | cons t r2 => exact ⟨t, r2, rfl⟩
   have hnn2 : n = r2.length + 2 := by have := HNN.out.1; rw [List.length_cons] at this; omega
   obtain ⟨g', o', c', hv', hct0, hd1, hd2, htsz, hrest2⟩ := hrest1.cons
   have hv2 : g' = g ∧ o' = o + 1 ∧ c' = xc - 1 := by
    simp only [Value.slice.injEq, Option.some.injEq, Addr.mk.injEq, and_true] at hv'
    exact ⟨hv'.1.1.symm, hv'.1.2.symm, hv'.2.2.symm⟩
   obtain ⟨rfl, rfl, rfl⟩ := hv2
   have hct := keep_cell HL.out.keep hct0
   obtain ⟨c0, c1, c2, c3, c4, c5, c6, c7⟩ := hrd.main
   have f3 := hrd.frz 3
   have f6 := hrd.frz 6
   have hset := hrd.set_t t
   have hkS : Keeps [b] wr ((wr.setCell ⟨b, 3, none⟩ (.bool true)).setCell ⟨b, 6, none⟩ (.string t)) := ((Keeps.refl [b] wr).setCell (p := ⟨b, 3, none⟩) (by simp) _).setCell (p := ⟨b, 6, none⟩) (by simp) _
   have c6' : (wr.setCell ⟨b, 3, none⟩ (.bool true)).cell? ⟨b, 6, none⟩ = some (.string k.tp) := (World.cell?_setCell_other _ _ _ _ (by simp)).trans c6
   have HRES : Hid (AB ((wr.setCell ⟨b, 3, none⟩ (.bool true)).setCell ⟨b, 6, none⟩ (.string t)) b { k with o := true, tp := t } ⟨#[]⟩ ∧ AB ((wr.setCell ⟨b, 3, none⟩ (.bool true)).setCell ⟨b, 6, none⟩ (.string t)) r k0 ⟨#[]⟩ ∧ Keeps [] w ((wr.setCell ⟨b, 3, none⟩ (.bool true)).setCell ⟨b, 6, none⟩ (.string t)) ∧ ∀ q, OptA r2 { k with o := true, tp := t } q → OptA l kI q) :=
    ⟨hset, HL.out.res.keep hkS (by simp; have := HB.out; omega), HL.out.keep.fresh hkS (by intro x hx; simp at hx; have := HB.out; have := HR.out; exact Or.inr (by omega)), fun q hq => HL.out.says q (by rw [H2.out]; exact .dt t r2 k q hq)⟩
   have HN2 : Hid (n = r2.length + 2) := hnn2
   have hn2i : (2 : Int) ≤ (n : Int) := by omega
   have hnz : ¬ n - 1 = 0 := by omega
   have hnz' : (((n - 1 : Nat) : Int) == 0) = false := by have h : ¬ ((n - 1 : Nat) : Int) = 0 := by omega
                                                          simpa using h
   clear hset hkS hct0 c0 c1 c2 c4 c5 c6 c7 hca0 hnil hnn2 hd1 hd2 hv'
   by_cases hx2 : xc - 1 = 1
   ·have hr20 : r2 = [] := List.eq_nil_of_length_eq_zero (by have := HNN.out; have := HN2.out; omega)
    subst hr20
    have hn2e : n = 2 := HN2.out
    subst hn2e
    have hxe : xc = 2 := by omega
    subst hxe
    have HL2 : Hid (RaL w ((wr.setCell ⟨b, 3, none⟩ (.bool true)).setCell ⟨b, 6, none⟩ (.string t)) b r l (.slice (some ⟨g', o + 1, none⟩) 0 0) [] { k with o := true, tp := t }) := ⟨⟨by simp, Or.inl ⟨rfl, _, _, rfl⟩, by simp⟩, HRES.out.1, HRES.out.2.1, HRES.out.2.2.1, HRES.out.2.2.2⟩
    clear hrest1 hrest2 hx2
    go_wp2_with (first | (go_at_call 76; refine hbo.mono ?_; rintro e w1 ⟨rfl, hw1⟩; rw [hw1]; clear hw1))
    go_roundw
    case rel => exact ⟨[], _, HL2.out⟩
    case measure => simp [slLen]
   ·have hr2l : r2.length = n - 1 - 1 := by have := HN2.out; omega
    rw [hr2l] at hrest2
    have HL2 : Hid (RaL w ((wr.setCell ⟨b, 3, none⟩ (.bool true)).setCell ⟨b, 6, none⟩ (.string t)) b r l (.slice (some ⟨g', o + 1 + 1, none⟩) (n - 1 - 1) (xc - 1 - 1)) r2 { k with o := true, tp := t }) := ⟨hrest2, HRES.out.1, HRES.out.2.1, HRES.out.2.2.1, HRES.out.2.2.2⟩
    have hx2' : ¬ xc - 1 - 1 = 0 := by have := HNN.out; omega
    have hx2i : ¬ ((xc - 1 : Nat) : Int) = 1 := by omega
    have hm1 : (1 : Int) ≤ ((n - 1 : Nat) : Int) := by omega
    have hm2 : ((n - 1 : Nat) : Int) ≤ ((xc - 1 : Nat) : Int) := by have := HNN.out; omega
    have hm3 : ((xc - 1 : Nat) : Int) ≤ 9223372036854775807 := by omega
    clear hrest1 hrest2
    go_wp2_with (first | (go_at_call 76; refine hbo.mono ?_; rintro e w1 ⟨rfl, hw1⟩; rw [hw1]; clear hw1))
    go_roundw
    case rel => exact ⟨r2, _, HL2.out⟩
    case measure => have := HN2.out; simp [slLen]; omega
  rw [decide_eq_false h2] at hdt
  have HN1 : Hid (a ≠ ddS ∧ a ≠ dtS) := ⟨h1, h2⟩
  clear h1 h2
  cases hlf : letF a k (a.size - 1) (0 + 1) with
  | none =>
   rw [hlf] at hal
   have HE : Hid (OptA l kI none) := HL.out.says _ (.bad a r' k HO.out HN1.out.1 HN1.out.2 (by rw [Nat.zero_add] at hlf; exact hlf))
   clear hlf
   go_upto_region 6 with (first | (go_at_call 76; refine hbo.mono ?_; rintro e w1 ⟨rfl, hw1⟩; rw [hw1]; clear hw1))
   go_wp2_with fail
   refine hal.mono ?_
   rintro e w2 ⟨hk2, rfl⟩
   have hres := HL.out.res.keep hk2 (by simp; have := HB.out; omega)
   have hia2 := infoArgs k0 ⟨#[]⟩
   have hone2 := cells_one k0 ⟨#[]⟩
   have hkE : Keeps [] w w2 := HL.out.keep.fresh hk2 (by intro x hx; simp at hx; have := HB.out; have := HR.out; exact Or.inr (by omega))
   clear hal hrd
   go_wp2_with (first | (refine wpList_store_row rfl 108 _ _ rfl r (k0.cells ⟨#[]⟩) rfl rfl _ _ hres hia2 rfl hone2 ?_))
   have hkR := (Keeps.refl [r] w2).setRow (g := r) (by simp) (k0.cells ⟨#[]⟩)
   refine bodyPost_ret (results_ra _ _ r k0 ⟨#[]⟩ _ rfl rfl (setRow_heap _ _ _ _ _ _ hres)) rfl ?_
   exact ⟨hkE.fresh hkR (by intro x hx; simp at hx; have := HR.out; exact Or.inr (by omega)), none, HE.out, rfl⟩
  | some k2 =>
   rw [hlf] at hal
   have HS2 : Hid (∀ q, OptA r' k2 q → OptA l kI q) := fun q hq => HL.out.says q (.let' a r' k k2 q HO.out HN1.out.1 HN1.out.2 (by rw [Nat.zero_add] at hlf; exact hlf) hq)
   clear hlf
   go_upto_region 6 with (first | (go_at_call 76; refine hbo.mono ?_; rintro e w1 ⟨rfl, hw1⟩; rw [hw1]; clear hw1))
   go_wp2_with fail
   refine hal.mono ?_
   rintro e w2 ⟨hk2, rfl, hrd2⟩
   have HL2 : Hid (RaL w w2 b r l (.slice (some ⟨g, o + 1, none⟩) (n - 1) (xc - 1)) r' k2) := ⟨hrest1, hrd2, HL.out.res.keep hk2 (by simp; have := HB.out; omega), HL.out.keep.fresh hk2 (by intro x hx; simp at hx; have := HB.out; have := HR.out; exact Or.inr (by omega)), HS2.out⟩
   clear hal hrd hrd2 hk2
   go_wp2_with fail
   go_roundw
   case rel => exact ⟨r', k2, HL2.out⟩
   case measure => have := HNN.out; simp [slLen]; try omega
end Go.Proofs.YtnfojonmohijpabGreatDoor
