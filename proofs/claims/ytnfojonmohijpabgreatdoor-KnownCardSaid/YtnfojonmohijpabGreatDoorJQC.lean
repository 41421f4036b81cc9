/-
  DERIVED. Contracts of strings.Builder: WriteByte, WriteString, String. Conditions: the builder is the call's own, what it holds stays below 2^47 bytes.
-/
import Derived.Test.YtnfojonmohijpabGreatDoorJPW
import Derived.Lib.Strings
import Derived.Lib.Slices
import Derived.Lib.Walk
import Derived.Lib.Builder
import Derived.Lib.AppendStr
import Derived.Lib.UnsafeStr
import Derived.Laws.Externs
import Derived.Lib.OthersKept
import Derived.Lib.FrozenHead
import Derived.Test.YtnfojonmohijpabGreatDoorJSpec
import Derived.Test.YtnfojonmohijpabGreatDoorJMA
import Derived.Test.YtnfojonmohijpabGreatDoorJSG
set_option linter.unusedSimpArgs false
set_option linter.unusedVariables false
namespace Go.Proofs.YtnfojonmohijpabGreatDoor
open Go.RowKit
def upB (B n : Nat) : List Nat := (List.range n).filter fun k => decide (B ≤ k)
theorem upB_not {B n g : Nat} (h : g < B) : g ∉ upB B n := by
 intro hm
 simp [upB] at hm
 omega
theorem Keeps.ofBelow {B : Nat} {w w' : World} (h : Below B w w') : Keeps (upB B w.heap.size) w w' :=
 ⟨h.os, h.tape, h.output, h.size, fun j hj hn => h.block j (by
   apply Classical.byContradiction
   intro hc
   exact hn (by simp [upB]; omega))⟩
theorem Below.ofKeeps {B : Nat} {w w' : World} {S : List Nat} (h : Keeps S w w') (hB : B ≤ w.heap.size) (hs : ∀ g, g ∈ S → B ≤ g) : Below B w w' :=
 ⟨h.os, h.tape, h.output, h.size, fun k hk => h.block k (by omega) (fun hm => by have := hs k hm; omega)⟩
theorem Below.join {B : Nat} {a w w' : World} (h : Below B a w) (k : Below B w w') : Below B a w' :=
 ⟨k.os.trans h.os, k.tape.trans h.tape, k.output.trans h.output, Nat.le_trans h.size k.size, fun j hj => (k.block j hj).trans (h.block j hj)⟩
def BD (w : World) (B b : Nat) (l : List UInt8) : Prop :=
 B ≤ b ∧ ∃ p v, (p = .pointer none ∨ p = .pointer (some ⟨b, 0, none⟩)) ∧ w.heap[b]? = some (.cells #[p, v] 119 (0, 0)) ∧ w.ownsRow B 5 1 v l.length (Lib.byteCells l) ∧ v.ownBlock ≠ some b ∧ (l = [] → v = .slice none 0 0)
theorem BD.keep {w w' : World} {B b : Nat} {l : List UInt8} (h : BD w B b l) (hk : Keeps [] w w') : BD w' B b l := by
 obtain ⟨hB, p, v, hp, hb, ho, hn, h0⟩ := h
 exact ⟨hB, p, v, hp, (hk.block b (Array.getElem?_eq_some_iff.1 hb).1 (by simp)).trans hb, ho.keep hk (by simp), hn, h0⟩
theorem sizeBld : (Tryz.prog.info? 119).map (·.size) = some 2 := by kernel_rfl
theorem liesBld : liesAt Tryz.prog Tryz.prog.depth 119 (2 / Tryz.prog.cellsOf 119) 0 119 1 = true := by kernel_rfl
theorem undPB : Tryz.prog.underlying 117 = some (.pointer 119) := by kernel_rfl
theorem undUP : Tryz.prog.underlying 213 = some .unsafePointer := by kernel_rfl
set_option maxHeartbeats 1000000 in
set_option maxRecDepth 100000 in
theorem copyCheck_used (b : Nat) (w : World) (h0 : w.cell? ⟨b, 0, none⟩ = some (.pointer (some ⟨b, 0, none⟩))) :
    Calls Tryz.prog 88 #[.pointer (some ⟨b, 0, none⟩)] w fun e w' => e = .returned (.tuple #[]) ∧ w' = w := by
 obtain ⟨j, hj, _⟩ := Option.map_eq_some_iff.1 sizeBld
 have hne := Lib.run_neq_ptr_same (P := Tryz.prog) w ⟨b, 0, none⟩ undPB hj
 go_enter Tryz.func88, Tryz.ntmps88
 go_wp2_with fail
 go_end0
 exact ⟨rfl, rfl⟩
set_option maxHeartbeats 1000000 in
set_option maxRecDepth 100000 in
theorem copyCheck_fresh (b : Nat) (w : World) (h0 : w.cell? ⟨b, 0, none⟩ = some (.pointer none)) (hsh : w.shape? b = some (119, 2)) (hfz : w.frozen? ⟨b, 0, none⟩ = false) :
    Calls Tryz.prog 88 #[.pointer (some ⟨b, 0, none⟩)] w fun e w' => e = .returned (.tuple #[]) ∧ w' = w.setCell ⟨b, 0, none⟩ (.pointer (some ⟨b, 0, none⟩)) := by
 obtain ⟨j, hj, hjs⟩ := Option.map_eq_some_iff.1 sizeBld
 have e1 := Lib.run_to_unsafe (P := Tryz.prog) w ⟨b, 0, none⟩ undPB undUP hj (by rw [hjs]; decide) hsh (Nat.zero_lt_succ 1)
 have e2 : (callFunc 119 #[.pointer (some ⟨b, 0, none⟩)]).run Tryz.prog w = .ok (.value (.pointer (some ⟨b, 0, none⟩))) w := by
  rw [run_callFunc_extern Tryz.func119 (by kernel_rfl) (by kernel_rfl) (by kernel_rfl) (e := Extern.AbiNoEscape.same) (by kernel_rfl), Lib.run_noEscape]
  rfl
 have e3 := Lib.run_from_unsafe (P := Tryz.prog) w ⟨b, 0, none⟩ undUP undPB hj hsh liesBld
 go_enter Tryz.func88, Tryz.ntmps88
 go_wp2_with fail
 go_end0
 exact ⟨rfl, rfl⟩
theorem copyCheck_any (B b : Nat) (l : List UInt8) (w : World) (h : BD w B b l) :
    Calls Tryz.prog 88 #[.pointer (some ⟨b, 0, none⟩)] w fun e w' => e = .returned (.tuple #[]) ∧ Below B w w' ∧ Lib.OthersKept 5 (some b) w w' ∧ ∃ v, w'.heap[b]? = some (.cells #[.pointer (some ⟨b, 0, none⟩), v] 119 (0, 0)) ∧ w'.ownsRow B 5 1 v l.length (Lib.byteCells l) ∧ v.ownBlock ≠ some b ∧ (l = [] → v = .slice none 0 0) := by
 obtain ⟨hB, p, v, hp, hb, ho, hn, h0⟩ := h
 rcases hp with rfl | rfl
 ·have hc : Lib.BuilderAt 119 5 B b (.pointer none) (Lib.byteCells l) w := ⟨hB, v, hb, by rw [Lib.byteCells_length]; exact ho, hn⟩
  refine (copyCheck_fresh b w hc.cell0 hc.shape hc.frozen0).mono ?_
  rintro e w' ⟨rfl, rfl⟩
  refine ⟨rfl, (Below.refl B w).setCell (p := ⟨b, 0, none⟩) hB _, (Lib.OthersKept.refl _ _ w).setCell ⟨b, 0, none⟩ rfl _, v, ?_, ho.setOther (a := ⟨b, 0, none⟩) hn _, hn, h0⟩
  simp [World.setCell, Array.getElem?_modify, hb]
 ·refine (copyCheck_used b w (by rw [Lib.cell_of_heap hb]; rfl)).mono ?_
  rintro e w' ⟨rfl, rfl⟩
  exact ⟨rfl, Below.refl B _, Lib.OthersKept.refl _ _ _, v, hb, ho, hn, h0⟩
theorem BD.put {w : World} {B b : Nat} {p v v' : Value} {l : List UInt8} (hB : B ≤ b) (hp : p = .pointer none ∨ p = .pointer (some ⟨b, 0, none⟩)) (hb : w.heap[b]? = some (.cells #[p, v] 119 (0, 0))) (ho : w.ownsRow B 5 1 v' l.length (Lib.byteCells l)) (h0 : l = [] → v' = .slice none 0 0) : BD (w.setCell ⟨b, 1, none⟩ v') B b l := by
 have hne := Lib.ownBlock_ne ho hb (by decide)
 refine ⟨hB, p, v', hp, ?_, ho.setOther (a := ⟨b, 1, none⟩) hne _, hne, h0⟩
 simp [World.setCell, Array.getElem?_modify, hb]
theorem byteCells_snoc (l : List UInt8) (u : UInt8) : Lib.byteCells (l ++ [u]) = Lib.byteCells l ++ [.int .u8 (u.toNat : Int)] := by simp [Lib.byteCells]
theorem byteCells_app (l m : List UInt8) : Lib.byteCells (l ++ m) = Lib.byteCells l ++ Lib.byteCells m := by simp [Lib.byteCells]
theorem strCells_nmB (l : List UInt8) : Lib.strCells (nmB l) = Lib.byteCells l := by simp [Lib.strCells, Lib.byteCells, nmB]
set_option maxHeartbeats 2000000 in
set_option maxRecDepth 100000 in
theorem writeByte_any (B b : Nat) (l : List UInt8) (u : UInt8) (c : Int) (hc : c = (u.toNat : Int)) (w : World) (h : BD w B b l) (hlen : l.length ≤ 1000000000) (hBw : B ≤ w.heap.size) :
    Calls Tryz.prog 53 #[.pointer (some ⟨b, 0, none⟩), .int .u8 c] w fun e w' => e = .returned .nilIface ∧ BD w' B b (l ++ [u]) ∧ Below B w w' ∧ Lib.OthersKept 5 (some b) w w' := by
 subst hc
 obtain ⟨i0, hi0, hz0, hz1, hz2⟩ := info_parts Tryz.infoByte
 have hB := h.1
 go_enter Tryz.func53, Tryz.ntmps53
 go_wp2_with fail
 refine (copyCheck_any B b l _ h).mono ?_
 rintro e w1 ⟨rfl, hb1, hk1, v, hbk, hown, hne, h0⟩
 have c0 : w1.cell? ⟨b, 0, none⟩ = some (.pointer (some ⟨b, 0, none⟩)) := by rw [Lib.cell_of_heap hbk]; rfl
 have c1 : w1.cell? ⟨b, 1, none⟩ = some v := by rw [Lib.cell_of_heap hbk]; rfl
 have hlt : b < w1.heap.size := (Array.getElem?_eq_some_iff.1 hbk).1
 have hsz := hb1.size
 have hun := Tryz.underlying44
 have hlm : l.length + 1 ≤ maxLen := by unfold maxLen; omega
 go_wp2_with (at_builtin; refine wpList_append_lies _ rfl _ _ _ rfl B 5 i0 (.int .u8 0) 1 1 hun hi0 hz0 hz1 hz2 rfl (by decide) v l.length _ rfl (hown.alloc _) ⟨w1.heap.size, 0, none⟩ 1 1 [.int .u8 (u.toNat : Int)] rfl rfl ?c1 ?c2 ?c3 hlm ?c4 ?c5 (w1.heap.size + 1) ?c6 ?_)
 case c1 =>
  intro j u hj
  match j, hj with
  | 0, hj => simp at hj; subst hj; simp [Addr.add]
 case c2 => intro u hu; simp at hu; subst hu; rfl
 case c3 => omega
 case c4 => omega
 case c5 => simp; omega
 case c6 => simp
 intro g cap w4 hown4 hgrow hat hlt4
 have hb4 : w4.heap[b]? = some (.cells #[.pointer (some ⟨b, 0, none⟩), v] 119 (0, 0)) := by
  rw [hgrow.block b (by simp; omega) (fun e => hne e.symm), Lib.alloc_old w1 _ b hlt]
  exact hbk
 have d0 : w4.cell? ⟨b, 0, none⟩ = some (.pointer (some ⟨b, 0, none⟩)) := by rw [Lib.cell_of_heap hb4]; rfl
 have d1 : w4.cell? ⟨b, 1, none⟩ = some v := by rw [Lib.cell_of_heap hb4]; rfl
 have f1 : w4.frozen? ⟨b, 1, none⟩ = false := Lib.frozen_of_heap hb4 1
 go_wp2_with fail
 go_ret
 refine ⟨rfl, BD.put hB (Or.inr rfl) hb4 (by rw [byteCells_snoc, List.length_append, List.length_singleton]; exact hown4) (by intro h; simp at h), ?_, ((hk1.alloc _).grown hgrow (Lib.ownsRowF_kind (World.ownsRowF_of (hown.alloc _)))).setCell ⟨b, 1, none⟩ rfl _⟩
 exact ((hb1.alloc (by omega) _).grown hgrow (by simp; omega) (fun k hk => (hown.lt k hk).1)).setCell (p := ⟨b, 1, none⟩) hB _
set_option maxHeartbeats 2000000 in
set_option maxRecDepth 100000 in
theorem writeString_any (B b : Nat) (l m : List UInt8) (w : World) (h : BD w B b l) (hlen : l.length ≤ 1000000000) (hlm' : m.length ≤ 1000000000) (hBw : B ≤ w.heap.size) :
    Calls Tryz.prog 50 #[.pointer (some ⟨b, 0, none⟩), .string (nmB m)] w fun e w' => (∃ v, e = .returned v) ∧ BD w' B b (l ++ m) ∧ Below B w w' ∧ Lib.OthersKept 5 (some b) w w' := by
 obtain ⟨i0, hi0, hz0, hz1, hz2⟩ := info_parts Tryz.infoByte
 have hB := h.1
 have hms : (nmB m).size = m.length := nmB_size m
 go_enter Tryz.func50, Tryz.ntmps50
 go_wp2_with fail
 refine (copyCheck_any B b l _ h).mono ?_
 rintro e w1 ⟨rfl, hb1, hk1, v, hbk, hown, hne, h0⟩
 have c0 : w1.cell? ⟨b, 0, none⟩ = some (.pointer (some ⟨b, 0, none⟩)) := by rw [Lib.cell_of_heap hbk]; rfl
 have c1 : w1.cell? ⟨b, 1, none⟩ = some v := by rw [Lib.cell_of_heap hbk]; rfl
 have hlt : b < w1.heap.size := (Array.getElem?_eq_some_iff.1 hbk).1
 have hsz := hb1.size
 have hun := Tryz.underlying44
 have hus := Tryz.underlying9
 have hlm : l.length + (nmB m).size ≤ maxLen := by unfold maxLen; omega
 have hlb : l.length + (nmB m).size ≤ 140737488355328 := by omega
 clear hms
 go_wp2_with (at_builtin; refine Lib.wpList_append_own_string _ rfl _ _ 44 9 rfl B 5 i0 hun hus hi0 hz0 hz1 hz2 _ _ _ rfl hown (nmB m) rfl ?c3 ?c4 ?c5 ?_)
 case c3 => exact hlm
 case c4 => exact hlb
 case c5 => omega
 intro v' w4 hown4 hgrow hnil
 have hb4 : w4.heap[b]? = some (.cells #[.pointer (some ⟨b, 0, none⟩), v] 119 (0, 0)) := by
  rw [hgrow.block b hlt (fun e => hne e.symm)]
  exact hbk
 have d0 : w4.cell? ⟨b, 0, none⟩ = some (.pointer (some ⟨b, 0, none⟩)) := by rw [Lib.cell_of_heap hb4]; rfl
 have d1 : w4.cell? ⟨b, 1, none⟩ = some v := by rw [Lib.cell_of_heap hb4]; rfl
 have f1 : w4.frozen? ⟨b, 1, none⟩ = false := Lib.frozen_of_heap hb4 1
 obtain ⟨va, vn, vc, rfl⟩ : ∃ a n c, v' = .slice a n c := by
  rcases hown4.2 with ⟨hv, _⟩ | ⟨g, cap, cur, hv, _⟩
  ·exact ⟨_, _, _, hv⟩
  ·exact ⟨_, _, _, hv⟩
 go_wp2_with fail
 go_ret2
 refine ⟨⟨_, rfl⟩, BD.put hB (Or.inr rfl) hb4 (by rw [byteCells_app, List.length_append, ← strCells_nmB m]; simpa [nmB_size] using hown4) ?_, ?_, (hk1.grown hgrow (Lib.ownsRowF_kind (World.ownsRowF_of hown))).setCell ⟨b, 1, none⟩ rfl _⟩
 ·intro hn
  have h1 := List.append_eq_nil_iff.1 hn
  exact hnil.2 ⟨h0 h1.1, by rw [h1.2]; rfl⟩
 ·exact (hb1.grown hgrow (by omega) (fun k hk => (hown.lt k hk).1)).setCell (p := ⟨b, 1, none⟩) hB _
set_option maxHeartbeats 2000000 in
set_option maxRecDepth 100000 in
theorem string_nil (B b : Nat) (p : Value) (w : World) (hbk : w.heap[b]? = some (.cells #[p, .slice none 0 0] 119 (0, 0))) :
    Calls Tryz.prog 52 #[.pointer (some ⟨b, 0, none⟩)] w fun e w' => e = .returned (.string (nmB [])) ∧ Below B w w' := by
 have hUS : ∀ (W : World) (q : Option Addr), (Builtin.unsafeString_ #[172, 3] 9 #[.pointer q, .int .i64 0]).run Tryz.prog W = .ok (.string .empty) W := fun W q => Lib.run_unsafeString_none W _ _ _ q
 have c1 : w.drew.cell? ⟨b, 1, none⟩ = some (.slice none 0 0) := by
  have : w.drew.heap[b]? = some (.cells #[p, .slice none 0 0] 119 (0, 0)) := hbk
  rw [Lib.cell_of_heap this]; rfl
 have hSD : (Builtin.unsafeSliceData_ #[44] 172 #[.slice none 0 0]).run Tryz.prog w.drew = .ok (.pointer none) w.drew := rfl
 go_enter Tryz.func52, Tryz.ntmps52
 go_wp2_with fail
 go_region
 all_goals (go_wp2_with fail; go_ret; exact ⟨rfl, Below.drew (Below.refl B w)⟩)
set_option maxHeartbeats 2000000 in
set_option maxRecDepth 100000 in
theorem string_some (B b : Nat) (l : List UInt8) (w : World) (h : BD w B b l) (h0 : l ≠ []) :
    Calls Tryz.prog 52 #[.pointer (some ⟨b, 0, none⟩)] w fun e w' => e = .returned (.string (nmB l)) ∧ Below B w w' := by
 obtain ⟨hB, p, v, hp, hbk, hown, hne, _⟩ := h
 have hl0 : l.length ≠ 0 := by simpa using h0
 obtain ⟨g, cap, cur, rfl, hbg, hg, hnc, hcm, hcs, htake⟩ : ∃ g cap cur, v = .slice (some ⟨g, 0, none⟩) l.length cap ∧ B ≤ g ∧ w.heap[g]? = some (.cells cur 5 (0, 0)) ∧ l.length ≤ cap ∧ cap ≤ maxLen ∧ cur.size = cap * 1 ∧ cur.toList.take (l.length * 1) = Lib.byteCells l := by
  rcases hown.2 with ⟨_, hz⟩ | ⟨g, cap, cur, hv, r⟩
  ·exact absurd hz hl0
  ·exact ⟨g, cap, cur, hv, r⟩
 have c1 : w.drew.cell? ⟨b, 1, none⟩ = some (.slice (some ⟨g, 0, none⟩) l.length cap) := by
  have : w.drew.heap[b]? = some (.cells #[p, .slice (some ⟨g, 0, none⟩) l.length cap] 119 (0, 0)) := hbk
  rw [Lib.cell_of_heap this]; rfl
 have hSD : (Builtin.unsafeSliceData_ #[44] 172 #[.slice (some ⟨g, 0, none⟩) l.length cap]).run Tryz.prog w.drew = .ok (.pointer (some ⟨g, 0, none⟩)) w.drew :=
  Lib.run_unsafeSliceData_row _ _ _ _ _ _ (by omega)
 have hUS : (Builtin.unsafeString_ #[172, 3] 9 #[.pointer (some ⟨g, 0, none⟩), .int .i64 l.length]).run Tryz.prog w.drew = .ok (.string (nmB l)) (w.drew.freeze ⟨g, 0, none⟩ l.length) := by
  refine Lib.run_unsafeString_row w.drew 172 3 9 5 Tryz.underlying172 (by kernel_rfl) g cur.size (by have hg' : w.drew.heap[g]? = some (.cells cur 5 (0, 0)) := hg; simp [World.shape?, hg']) l h0 (by omega) (by unfold maxLen at hcm; omega) ?_
  intro j x hx
  have := hown.cells (g := g) rfl j (.int .u8 x.toNat) (by simp [Lib.byteCells, hx])
  exact this
 go_enter Tryz.func52, Tryz.ntmps52
 go_wp2_with fail
 go_region
 all_goals (go_wp2_with fail; go_ret; exact ⟨rfl, Lib.below_freeze (Below.drew (Below.refl B w)) (p := ⟨g, 0, none⟩) hbg _⟩)
theorem string_any (B b : Nat) (l : List UInt8) (w : World) (h : BD w B b l) :
    Calls Tryz.prog 52 #[.pointer (some ⟨b, 0, none⟩)] w fun e w' => e = .returned (.string (nmB l)) ∧ Below B w w' := by
 by_cases h0 : l = []
 ·subst h0
  obtain ⟨hB, p, v, hp, hbk, hown, hne, hv⟩ := h
  rw [hv rfl] at hbk
  exact string_nil B b p w hbk
 ·exact string_some B b l w h h0
end Go.Proofs.YtnfojonmohijpabGreatDoor
namespace Go.Proofs.YtnfojonmohijpabGreatDoor
open Go.RowKit
theorem add_off (g off j : Nat) : (⟨g, off, none⟩ : Addr).add j = ⟨g, off + j, none⟩ := by unfold Addr.add; split <;> simp_all
theorem run_loadVar_at (w : World) (g off : Nat) (ty : TypeId) (cs : List Value) (d : TypeDesc) (hc : ∀ j v, cs[j]? = some v → w.cell? ⟨g, off + j, none⟩ = some v)
    (hu : Tryz.prog.underlying ty = some d) (hd : (match d with | .struct _ | .array _ _ => true | _ => false) = true) (hi : (Tryz.prog.info? ty).map (·.size) = some cs.length) :
    (loadVar ty ⟨g, off, none⟩).run Tryz.prog w = .ok (.agg cs.toArray) w := by
 have hl : (loadCells ⟨g, off, none⟩ cs.length).run Tryz.prog w = .ok cs.toArray w :=
  run_loadCells_list (P := Tryz.prog) w ⟨g, off, none⟩ cs (fun j v hv => by rw [add_off]; exact hc j v hv)
 cases hq : Tryz.prog.info? ty with
 | none => simp [hq] at hi
 | some i =>
  have hs : i.size = cs.length := by simpa [hq] using hi
  have hagg : (isAgg ty).run Tryz.prog w = .ok true w := by
   unfold isAgg
   rw [Sem.run_bind, run_underlying hu w]
   cases d <;> simp_all
  simp [loadVar, Sem.run_bind, hagg, sizeOf, typeInfo, hq, hs, hl]
theorem wpList_load_at {ops : Array Oper} {rest : List Oper} {o : Oper} {a : Act} {w : World} {Q : Exit → Act → World → Prop} (hgd : o.guard = none) (ty : TypeId) (x : Operand) (ho : o.op = .load ty x)
    (g off : Nat) (hx : a.eval x = .pointer (some ⟨g, off, none⟩)) (cs : List Value) (d : TypeDesc) (hc : ∀ j v, cs[j]? = some v → w.cell? ⟨g, off + j, none⟩ = some v)
    (hu : Tryz.prog.underlying ty = some d) (hd : (match d with | .struct _ | .array _ _ => true | _ => false) = true) (hi : (Tryz.prog.info? ty).map (·.size) = some cs.length)
    (h : wpList Tryz.prog ops Q rest (a.put o.dst (.agg cs.toArray)) w) : wpList Tryz.prog ops Q (o :: rest) a w := by
 refine wpList_plain hgd fun K hK => ?_
 unfold Oper.wp execOp
 simp only [ho, hx, Instr.loadAt, Instr.sureAddr, Sem.run_bind, Sem.run_pure, Result.andThen_ok, run_loadVar_at w g off ty cs d hc hu hd hi]
 exact hK _ _ h
def wl : Pat → List Pat
 | .wone x => [x]
 | .wcons x r => x :: wl r
 | _ => []
def pl : Pat → List Pat
 | .pcons x r => x :: pl r
 | _ => []
def tw : Nat → List Pat → List UInt8
 | _, [] => []
 | k, x :: r => (if 0 < k then [124] else []) ++ patT x ++ tw (k + 1) r
def tp (l : List Pat) : List UInt8 := l.flatMap patT
theorem Rep.wl_text {w : World} {S : Nat → Prop} {x : Pat} {vs : List Value} (h : Rep w S .wlist x vs) : (∀ k, tw k (wl x) = (if 0 < k then [124] else []) ++ patT x) ∧ (wl x).length = vs.length ∧ (∀ (i : Nat) (y : Pat), (wl x)[i]? = some y → ∃ u, vs[i]? = some u ∧ Rep w S .way y [u] ∧ y.sz < x.sz) := by
 generalize hk : Kr.wlist = kk at h
 induction h with
 | wone x v h1 _ =>
  refine ⟨fun k => by simp [wl, tw, patT], rfl, ?_⟩
  intro i y hy
  match i, hy with
  | 0, hy => simp [wl] at hy; subst hy; exact ⟨v, rfl, h1, by simp [Pat.sz]⟩
 | wcons x r v vs h1 _ _ ih =>
  obtain ⟨a, b, c⟩ := ih rfl
  refine ⟨fun k => by simp [wl, tw, patT, a (k + 1)], by simp [wl, b], ?_⟩
  intro i y hy
  match i, hy with
  | 0, hy => simp [wl] at hy; subst hy; exact ⟨v, rfl, h1, by simp [Pat.sz]; omega⟩
  | i + 1, hy =>
   obtain ⟨u, h2, h3, h4⟩ := c i y (by simpa [wl] using hy)
   exact ⟨u, by simpa using h2, h3, by simp [Pat.sz]; omega⟩
 | _ => cases hk
theorem Rep.pl_text {w : World} {S : Nat → Prop} {x : Pat} {cs : List Value} (h : Rep w S .plist x cs) : tp (pl x) = patT x ∧ cs.length = (pl x).length * 261 ∧ (∀ (i : Nat) (y : Pat), (pl x)[i]? = some y → ∃ ds, Rep w S .piece y ds ∧ (∀ (j : Nat) (u : Value), ds[j]? = some u → cs[i * 261 + j]? = some u) ∧ y.sz < x.sz) := by
 generalize hk : Kr.plist = kk at h
 induction h with
 | pnil => exact ⟨rfl, rfl, by intro i y hy; simp [pl] at hy⟩
 | pcons x r cs ds h1 _ _ ih =>
  obtain ⟨a, b, c⟩ := ih rfl
  have hl : cs.length = 261 := h1.cells.2
  refine ⟨by simp [pl, tp, patT] at a ⊢; exact a, by simp [pl, b, hl]; omega, ?_⟩
  intro i y hy
  match i, hy with
  | 0, hy =>
   simp [pl] at hy
   subst hy
   refine ⟨cs, h1, ?_, by simp [Pat.sz]; omega⟩
   intro j u hu
   have hj : j < cs.length := by
    rcases Nat.lt_or_ge j cs.length with h | h
    ·exact h
    ·rw [List.getElem?_eq_none h] at hu; cases hu
   rw [Nat.zero_mul, Nat.zero_add, List.getElem?_append_left hj]
   exact hu
  | i + 1, hy =>
   obtain ⟨es, h2, h3, h4⟩ := c i y (by simpa [pl] using hy)
   refine ⟨es, h2, ?_, by simp [Pat.sz]; omega⟩
   intro j u hu
   have := h3 j u hu
   rw [List.getElem?_append_right (by omega), hl]
   have e : (i + 1) * 261 + j - 261 = i * 261 + j := by omega
   rw [e]
   exact this
 | _ => cases hk
theorem sz_rep (x : Pat) (o : Option (Nat × Int)) : x.sz ≤ (withRep x o).sz := by
 cases o with
 | none => exact Nat.le_refl _
 | some p => obtain ⟨m, n⟩ := p; simp [withRep, Pat.sz]
theorem sz_pos (x : Pat) : 0 < x.sz := by cases x <;> simp [Pat.sz] <;> omega
theorem tw_take (l : List Pat) : ∀ (k i : Nat) (y : Pat), l[i]? = some y → tw k (l.take (i + 1)) = tw k (l.take i) ++ ((if 0 < k + i then [124] else []) ++ patT y) := by
 induction l with
 | nil => intro k i y h; simp at h
 | cons x l ih =>
  intro k i y h
  cases i with
  | zero => simp at h; subst h; simp [tw]
  | succ i =>
   have := ih (k + 1) i y (by simpa using h)
   simp only [List.take_succ_cons, tw]
   rw [this]
   have e : k + 1 + i = k + (i + 1) := by omega
   rw [e]
   simp
theorem tp_take (l : List Pat) (i : Nat) (y : Pat) (h : l[i]? = some y) : tp (l.take (i + 1)) = tp (l.take i) ++ patT y := by
 rw [List.take_add_one, h]
 simp [tp]
theorem tw_len (l : List Pat) : ∀ (k i : Nat), (tw k (l.take i)).length ≤ (tw k l).length := by
 induction l with
 | nil => intro k i; simp
 | cons x l ih =>
  intro k i
  cases i with
  | zero => simp [tw]
  | succ i => have := ih (k + 1) i; simp only [List.take_succ_cons, tw, List.length_append]; omega
theorem tp_len (l : List Pat) (i : Nat) : (tp (l.take i)).length ≤ (tp l).length := by
 induction l generalizing i with
 | nil => simp
 | cons x l ih =>
  cases i with
  | zero => simp [tp]
  | succ i => have := ih i; simp only [List.take_succ_cons, tp, List.flatMap_cons, List.length_append] at this ⊢; omega
theorem tw_mem (l : List Pat) : ∀ (k i : Nat) (y : Pat), l[i]? = some y → (tw k (l.take i)).length + 1 + (patT y).length ≤ (tw k l).length + 1 := by
 intro k i y h
 have h1 := tw_take l k i y h
 have h2 := tw_len l k (i + 1)
 rw [h1] at h2
 simp only [List.length_append] at h2
 omega
end Go.Proofs.YtnfojonmohijpabGreatDoor
namespace Go.Proofs.YtnfojonmohijpabGreatDoor
open Go.RowKit
structure WF (B b : Nat) (w w' : World) : Prop where
 below : Below B w w'
 others : Lib.OthersKept 5 (some b) w w'
theorem WF.refl (B b : Nat) (w : World) : WF B b w w := ⟨Below.refl B w, Lib.OthersKept.refl _ _ w⟩
theorem WF.trans {B b : Nat} {a w w' : World} (h : WF B b a w) (k : WF B b w w') : WF B b a w' := ⟨Below.join h.below k.below, h.others.trans k.others⟩
theorem WF.ofKeeps {B b : Nat} {w w' : World} (h : Keeps [] w w') (hB : B ≤ w.heap.size) : WF B b w w' :=
 ⟨Below.ofKeeps h hB (by simp), fun k o hk _ _ => (h.block k (Array.getElem?_eq_some_iff.1 hk).1 (by simp)).trans hk⟩
theorem Rep.wf {w w' : World} {S : Nat → Prop} {k : Kr} {x : Pat} {cs : List Value} {B b : Nat} (h : Rep w S k x cs) (hS : ∀ g, S g → g < B) (hf : WF B b w w') : Rep w' S k x cs := h.keep (Keeps.ofBelow hf.below) fun g hg => upB_not (hS g hg)
theorem row_wf {w w' : World} {B b g : Nat} {cs : Array Value} {T : TypeId} {fr : Nat × Nat} (h : w.heap[g]? = some (.cells cs T fr)) (hT : T ≠ 5) (hg : g ≠ b) (hf : WF B b w w') : w'.heap[g]? = some (.cells cs T fr) :=
 hf.others g _ h (by simpa using hg) (by intro c fz e; cases e; exact hT rfl)
theorem BD.lt {w : World} {B b : Nat} {l : List UInt8} (h : BD w B b l) : b < w.heap.size := by
 obtain ⟨_, p, v, _, hb, _⟩ := h
 exact (Array.getElem?_eq_some_iff.1 hb).1
theorem sc_cells {w : World} {g : Nat} {k v : Value} {f : Nat → Bool} {T : TypeId} {fr : Nat × Nat} (h : w.heap[g]? = some (.cells (sc k v f).toArray T fr)) :
    w.cell? ⟨g, 0, none⟩ = some k ∧ w.cell? ⟨g, 1, none⟩ = some v ∧ ∀ j u, (hcells f).toList[j]? = some u → w.cell? ⟨g, 2 + j, none⟩ = some u := by
 refine ⟨by rw [Lib.cell_of_heap h]; rfl, by rw [Lib.cell_of_heap h]; rfl, ?_⟩
 intro j u hu
 rw [Lib.cell_of_heap h]
 have e : 2 + j = j + 1 + 1 := by omega
 rw [e]
 simpa [sc] using hu
end Go.Proofs.YtnfojonmohijpabGreatDoor
namespace Go.Proofs.YtnfojonmohijpabGreatDoor
def shp : Pat → Kd → Prop
 | .set _, .single => True
 | .set _, .piece => True
 | .grp _ x, .single => shp x .ways
 | .grp _ x, .piece => shp x .ways
 | .rep mn mx x, .piece => mn ≤ 5 ∧ -1 ≤ mx ∧ mx ≤ 5 ∧ shp x .single
 | .pnil, .way => True
 | .pcons x r, .way => shp x .piece ∧ shp r .way
 | .wone x, .ways => shp x .way
 | .wcons x r, .ways => shp x .way ∧ shp r .ways
 | _, _ => False
theorem shp_up {x : Pat} (h : shp x .single) : shp x .piece := by
 cases x <;> first | exact h | exact h.elim
theorem RepR.bd {s : ByteArray} {j k mn : Nat} {mx : Int} (h : RepR s j (.ok (Option.some (mn, mx)) k)) : mn ≤ 5 ∧ -1 ≤ mx ∧ mx ≤ 5 := by
 rcases h with ⟨_, _, _, _, e⟩ | ⟨_, e⟩ | ⟨_, e⟩ | ⟨_, e⟩ | ⟨_, q1, n, e⟩
 ·cases e
 ·cases e; omega
 ·cases e; omega
 ·cases e; omega
 ·cases q1 with
  | bad l => cases e
  | ok m l =>
   have hm := (n.ok m l rfl).2.2.1 (by omega)
   rcases e with ⟨_, _, e⟩ | ⟨_, _, q2, n', e⟩ | ⟨_, e⟩
   ·cases e; omega
   ·cases q2 with
    | bad x => cases e
    | ok y x =>
     have hy := (n'.ok y x rfl).2.2.1 (by omega)
     simp only [Rep3] at e
     by_cases h5 : at' s x = 125
     ·rw [if_pos h5] at e; cases e; omega
     ·rw [if_neg h5] at e; cases e
   ·by_cases h5 : at' s l = 125
    ·rw [if_pos h5] at e; cases e; omega
    ·rw [if_neg h5] at e; cases e
def szL : Kd → Nat
 | .single => 2
 | .piece => 2
 | _ => 0
def szR : Kd → Nat
 | .way => 1
 | .ways => 2
 | _ => 0
theorem G.shp {s : ByteArray} {k : Kd} {d g i : Nat} {q : R (Pat × Nat)} (h : G s k d g i q) : ∀ x g1 j, q = .ok (x, g1) j → shp x k ∧ x.sz + szL k ≤ 4 * (j - i) + szR k := by
 induction h with
 | one d g i g1 j x hg e ih => intro x' g1' j' e'; cases e'; have := ih x g1 j rfl; exact ⟨this.1, by simp only [Pat.sz, szL, szR] at this ⊢; omega⟩
 | more d g i g1 j x q hg e hg2 ih ih2 =>
  intro x' g1' j' e'
  cases q with
  | bad l => cases e'
  | ok y l =>
   have h1 := ih x g1 j rfl
   have h2 := ih2 y.1 y.2 l rfl
   have o1 := hg.okb x g1 j rfl
   have o2 := hg2.okb y.1 y.2 l rfl
   cases e'
   refine ⟨⟨h1.1, h2.1⟩, ?_⟩
   simp only [Pat.sz, szL, szR] at h1 h2 ⊢; omega
 | wbad => intro x' g1' j' e'; cases e'
 | nil d g i e => intro x' g1' j' e'; cases e'; exact ⟨trivial, by simp [Pat.sz, szL, szR]⟩
 | cons d g i g1 j x q e hg hg2 ih ih2 =>
  intro x' g1' j' e'
  cases q with
  | bad l => cases e'
  | ok y l =>
   have h1 := ih x g1 j rfl
   have h2 := ih2 y.1 y.2 l rfl
   have o1 := hg.okb x g1 j rfl
   have o2 := hg2.okb y.1 y.2 l rfl
   cases e'
   refine ⟨⟨h1.1, h2.1⟩, ?_⟩
   simp only [Pat.sz, szL, szR] at h1 h2 ⊢; omega
 | pbad => intro x' g1' j' e'; cases e'
 | rep d g i g1 j x q hg r ih =>
  intro x' g1' j' e'
  have o1 := hg.okb x g1 j rfl
  have h1 := ih x g1 j rfl
  cases q with
  | bad l => cases e'
  | ok o l =>
   have hr := r.ok
   cases o with
   | none => cases e'; exact ⟨shp_up h1.1, by simp only [withRep, szL, szR] at h1 ⊢; omega⟩
   | some mm =>
    obtain ⟨mn, mx⟩ := mm
    obtain ⟨b1, b2, b3⟩ := r.bd
    have hlt : j < l := by
     rcases r with ⟨_, _, _, _, e⟩ | ⟨_, e⟩ | ⟨_, e⟩ | ⟨_, e⟩ | ⟨_, q1, n, e⟩
     ·cases e
     ·cases e; omega
     ·cases e; omega
     ·cases e; omega
     ·cases q1 with
      | bad z => cases e
      | ok m z =>
       have hm := n.ok m z rfl
       rcases e with ⟨_, _, e⟩ | ⟨_, _, q2, n', e⟩ | ⟨_, e⟩
       ·cases e; omega
       ·cases q2 with
        | bad y => cases e
        | ok y y' =>
         have hy := n'.ok y y' rfl
         simp only [Rep3] at e
         by_cases h5 : at' s y' = 125
         ·rw [if_pos h5] at e; cases e; omega
         ·rw [if_neg h5] at e; cases e
       ·by_cases h5 : at' s z = 125
        ·rw [if_pos h5] at e; cases e; omega
        ·rw [if_neg h5] at e; cases e
    cases e'
    refine ⟨⟨b1, b2, b3, h1.1⟩, ?_⟩
    simp only [withRep, Pat.sz, szL, szR] at h1 ⊢; omega
 | sbad => intro x' g1' j' e'; cases e'
 | deep => intro x' g1' j' e'; cases e'
 | grp d g i g1 j x e o hg c ih => intro x' g1' j' e'; have o1 := hg.okb x g1 j rfl; cases e'; have := ih x g1 j rfl; exact ⟨this.1, by simp only [Pat.sz, szL, szR] at this ⊢; omega⟩
 | gopen => intro x' g1' j' e'; cases e'
 | gbad => intro x' g1' j' e'; cases e'
 | set d g i q e r =>
  intro x' g1' j' e'
  have hG := G.set (s := s) d g i q e r
  cases q with
  | bad l => cases e'
  | ok y l => cases e'; have := (hG.okb _ _ _ rfl).2.2.1 (Or.inr rfl); exact ⟨trivial, by simp only [Pat.sz, szL, szR]; omega⟩
 | dot d g i e => intro x' g1' j' e'; cases e'; exact ⟨trivial, by simp only [Pat.sz, szL, szR]; omega⟩
 | esc d g i e =>
  intro x' g1' j' e'
  cases r : escS s 0 (i + 1) with
  | bad l => rw [r] at e'; cases e'
  | ok y l => rw [r] at e'; cases e'; have := escS_ok r; exact ⟨trivial, by simp only [Pat.sz, szL, szR]; omega⟩
 | no => intro x' g1' j' e'; cases e'
 | lit d g i a => intro x' g1' j' e'; cases e'; exact ⟨trivial, by simp only [Pat.sz, szL, szR]; omega⟩
end Go.Proofs.YtnfojonmohijpabGreatDoor
namespace Go.Proofs.YtnfojonmohijpabGreatDoor
def Pat.fair (g : Nat) : Pat → Prop
 | .set _ => True
 | .grp k x => 0 < k ∧ k ≤ g ∧ x.fair g
 | .rep mn mx x => (mx < 0 ∨ (mn : Int) ≤ mx) ∧ x.fair g
 | .pnil => True
 | .pcons x r => x.fair g ∧ r.fair g
 | .wone x => x.fair g
 | .wcons x r => x.fair g ∧ r.fair g
theorem Pat.fair.up {g h : Nat} (hg : g ≤ h) : ∀ {x : Pat}, x.fair g → x.fair h
 | .set _, _ => trivial
 | .grp _ x, hx => ⟨hx.1, Nat.le_trans hx.2.1 hg, Pat.fair.up hg (x := x) hx.2.2⟩
 | .rep _ _ x, hx => ⟨hx.1, Pat.fair.up hg (x := x) hx.2⟩
 | .pnil, _ => trivial
 | .pcons x r, hx => ⟨Pat.fair.up hg (x := x) hx.1, Pat.fair.up hg (x := r) hx.2⟩
 | .wone x, hx => Pat.fair.up hg (x := x) hx
 | .wcons x r, hx => ⟨Pat.fair.up hg (x := x) hx.1, Pat.fair.up hg (x := r) hx.2⟩
end Go.Proofs.YtnfojonmohijpabGreatDoor
namespace Go.Proofs.YtnfojonmohijpabGreatDoor
open Go.RowKit
def pdrop : Nat → Pat → Pat
 | 0, x => x
 | d + 1, .pcons _ r => pdrop d r
 | _ + 1, _ => .pnil
inductive Mk (w : World) (S : Nat → Prop) (s : ByteArray) (N : Nat) : Kr → Pat → List Value → Prop
 | set (f : Nat → Bool) (v : Value) : MP w S N v (Mt s (.set f)) → Mk w S s N .single (.set f) [.int .i64 0, .slice none 0 0, .slice none 0 0, v]
 | grp (k : Nat) (x : Pat) (a c : Value) : 0 < k → k ≤ 9 → Mk w S s N .ways x [a, c] → Mk w S s N .single (.grp k x) [.int .i64 k, a, c, c]
 | piece (x : Pat) (cs : List Value) : Mk w S s N .single x cs → Mk w S s N .piece x (cs ++ [.bool false, .int .i64 0, .int .i64 0, .slice none 0 0])
 | rep (mn : Nat) (mx : Int) (x : Pat) (cs : List Value) (v : Value) : mn ≤ 5 → -1 ≤ mx → mx ≤ 5 → (mx < 0 ∨ (mn : Int) ≤ mx) → Mk w S s N .single x cs → RR w S N (steps mn mx + 1) v (Left (Mt s x) mn mx) →
     Mk w S s N .piece (.rep mn mx x) (cs ++ [.bool true, .int .i64 mn, .int .i64 mx, v])
 | pnil : Mk w S s N .plist .pnil []
 | pcons (x r : Pat) (cs ds : List Value) : Mk w S s N .piece x cs → Mk w S s N .plist r ds → Mk w S s N .plist (.pcons x r) (cs ++ ds)
 | way (x : Pat) (cs : List Value) (v r : Value) (n : Nat) : Mk w S s N .plist x cs → w.ownsRow 0 193 8 v n cs → (∀ g, v.ownBlock = some g → S g) → RR w S N (n + 1) r (fun d => Mt s (pdrop d x)) → Mk w S s N .way x [v, r]
 | wone (x : Pat) (cs : List Value) : Mk w S s N .way x cs → Mk w S s N .wlist (.wone x) cs
 | wcons (x r : Pat) (cs ds : List Value) : Mk w S s N .way x cs → Mk w S s N .wlist r ds → Mk w S s N .wlist (.wcons x r) (cs ++ ds)
 | ways (x : Pat) (cs : List Value) (v c : Value) (n : Nat) : Mk w S s N .wlist x cs → w.ownsRow 0 150 2 v n cs → (∀ g, v.ownBlock = some g → S g) → MP w S N c (Mt s x) → Mk w S s N .ways x [v, c]
theorem Mk.keep {w w' : World} {S : Nat → Prop} {s : ByteArray} {N : Nat} {L : List Nat} (hk : Keeps L w w') (hs : ∀ g, S g → g ∉ L) {k : Kr} {x : Pat} {cs : List Value} (h : Mk w S s N k x cs) : Mk w' S s N k x cs := by
 induction h with
 | set f v hm => exact .set f v (hm.keep hk hs)
 | grp k x a c h0 h9 _ ih => exact .grp k x a c h0 h9 ih
 | piece x cs _ ih => exact .piece x cs ih
 | rep mn mx x cs v h1 h2 h3 h4 _ hr ih => exact .rep mn mx x cs v h1 h2 h3 h4 ih (hr.keep hk hs)
 | pnil => exact .pnil
 | pcons x r cs ds _ _ i1 i2 => exact .pcons x r cs ds i1 i2
 | way x cs v r n _ ho hp hr ih => exact .way x cs v r n ih (ho.keep hk fun g hg => hs g (hp g hg)) hp (hr.keep hk hs)
 | wone x cs _ ih => exact .wone x cs ih
 | wcons x r cs ds _ _ i1 i2 => exact .wcons x r cs ds i1 i2
 | ways x cs v c n _ ho hp hm ih => exact .ways x cs v c n ih (ho.keep hk fun g hg => hs g (hp g hg)) hp (hm.keep hk hs)
theorem Mk.mono {w : World} {S S' : Nat → Prop} {s : ByteArray} {N : Nat} (hs : ∀ g, S g → g < w.heap.size → S' g) {k : Kr} {x : Pat} {cs : List Value} (h : Mk w S s N k x cs) : Mk w S' s N k x cs := by
 have hb : ∀ {e : TypeId} {size : Nat} {v : Value} {n : Nat} {xs : List Value}, w.ownsRow 0 e size v n xs → (∀ g, v.ownBlock = some g → S g) → ∀ g, v.ownBlock = some g → S' g := fun ho hp g hg => hs g (hp g hg) (ho.lt g hg).2
 induction h with
 | set f v hm => exact .set f v (hm.mono hs)
 | grp k x a c h0 h9 _ ih => exact .grp k x a c h0 h9 ih
 | piece x cs _ ih => exact .piece x cs ih
 | rep mn mx x cs v h1 h2 h3 h4 _ hr ih => exact .rep mn mx x cs v h1 h2 h3 h4 ih (hr.mono hs)
 | pnil => exact .pnil
 | pcons x r cs ds _ _ i1 i2 => exact .pcons x r cs ds i1 i2
 | way x cs v r n _ ho hp hr ih => exact .way x cs v r n ih ho (hb ho hp) (hr.mono hs)
 | wone x cs _ ih => exact .wone x cs ih
 | wcons x r cs ds _ _ i1 i2 => exact .wcons x r cs ds i1 i2
 | ways x cs v c n _ ho hp hm ih => exact .ways x cs v c n ih ho (hb ho hp) (hm.mono hs)
theorem RR.one {w : World} {S : Nat → Prop} {N M : Nat} {v : Value} {F : Nat → Nat → Nat → Prop} (h : RR w S N M v F) : v.oneCell' = true := by
 obtain ⟨g, c, vs, rfl, _⟩ := h
 rfl
theorem Mk.form {w : World} {S : Nat → Prop} {s : ByteArray} {N : Nat} {k : Kr} {x : Pat} {cs : List Value} (h : Mk w S s N k x cs) :
    (∀ u ∈ cs, u.oneCell' = true) ∧ (match k with
      | .single => ∃ k' a c v, cs = [.int .i64 (k' : Nat), a, c, v] ∧ MP w S N v (Mt s x)
      | .ways => ∃ a c, cs = [a, c] ∧ MP w S N c (Mt s x)
      | .way => ∃ a r, cs = [a, r]
      | .piece => cs.length = 8
      | _ => True) := by
 induction h with
 | set f v hm => exact ⟨by intro u hu; simp at hu; rcases hu with rfl | rfl | rfl <;> first | rfl | exact hm.one.1, 0, _, _, v, rfl, hm⟩
 | grp k x a c h0 h9 _ ih =>
  obtain ⟨i1, a', c', e, hm⟩ := ih
  simp only [List.cons.injEq, and_true] at e
  obtain ⟨rfl, rfl⟩ := e
  refine ⟨?_, k, a, c, c, rfl, hm⟩
  intro u hu
  simp at hu
  rcases hu with rfl | rfl | rfl
  ·rfl
  ·exact i1 _ (by simp)
  ·exact i1 _ (by simp)
 | piece x cs _ ih =>
  obtain ⟨i1, k', a, c, v, e, hm⟩ := ih
  refine ⟨?_, by show (cs ++ _).length = 8; rw [List.length_append, e]; rfl⟩
  intro u hu
  rcases List.mem_append.1 hu with hu | hu
  ·exact i1 u hu
  ·simp at hu; rcases hu with rfl | rfl | rfl <;> rfl
 | rep mn mx x cs v h1 h2 h3 h4 _ hr ih =>
  obtain ⟨i1, k', a, c, v', e, hm⟩ := ih
  refine ⟨?_, by show (cs ++ _).length = 8; rw [List.length_append, e]; rfl⟩
  intro u hu
  rcases List.mem_append.1 hu with hu | hu
  ·exact i1 u hu
  ·simp at hu; rcases hu with rfl | rfl | rfl | rfl <;> first | rfl | exact hr.one
 | pnil => exact ⟨by simp, trivial⟩
 | pcons x r cs ds _ _ i1 i2 =>
  refine ⟨?_, trivial⟩
  intro u hu
  rcases List.mem_append.1 hu with hu | hu
  ·exact i1.1 u hu
  ·exact i2.1 u hu
 | way x cs v r n _ ho hp hr ih => exact ⟨by intro u hu; simp at hu; rcases hu with rfl | rfl; exact (ownsRow_one ho).1; exact hr.one, v, r, rfl⟩
 | wone x cs _ ih => exact ⟨ih.1, trivial⟩
 | wcons x r cs ds _ _ i1 i2 =>
  refine ⟨?_, trivial⟩
  intro u hu
  rcases List.mem_append.1 hu with hu | hu
  ·exact i1.1 u hu
  ·exact i2.1 u hu
 | ways x cs v c n _ ho hp hm ih => exact ⟨by intro u hu; simp at hu; rcases hu with rfl | rfl; exact (ownsRow_one ho).1; exact hm.one.1, v, c, rfl, hm⟩
def NewMk (w : World) (s : ByteArray) (N : Nat) (k : Kr) (x : Pat) (e : Ending) (w' : World) : Prop := ∃ cs, e = .returned (.agg cs.toArray) ∧ Mk w' (fun g => w.heap.size ≤ g) s N k x cs ∧ Keeps [] w w'
def WaysN (s : ByteArray) (N n : Nat) : Prop := ∀ (x : Pat), x.sz ≤ n → x.fair 9 → ∀ (w : World) (S : Nat → Prop) (v : Value), Rep w S .ways x [v] → Calls Tryz.prog 34 #[v, .string s] w (NewMk w s N .ways x)
def SingleN (s : ByteArray) (N n : Nat) : Prop := ∀ (x : Pat), x.sz ≤ n → x.fair 9 → ∀ (w : World) (S : Nat → Prop) (cs : List Value), Rep w S .single x cs → Calls Tryz.prog 127 #[.agg cs.toArray, .string s] w (NewMk w s N .single x)
def PieceN (s : ByteArray) (N n : Nat) : Prop := ∀ (x : Pat), x.sz ≤ n → x.fair 9 → ∀ (w : World) (S : Nat → Prop) (cs : List Value), Rep w S .piece x cs → Calls Tryz.prog 103 #[.agg cs.toArray, .string s] w (NewMk w s N .piece x)
def WayN (s : ByteArray) (N n : Nat) : Prop := ∀ (x : Pat), x.sz ≤ n → x.fair 9 → ∀ (w : World) (S : Nat → Prop) (v : Value), Rep w S .way x [v] → Calls Tryz.prog 68 #[v, .string s] w (NewMk w s N .way x)
end Go.Proofs.YtnfojonmohijpabGreatDoor
namespace Go.Proofs.YtnfojonmohijpabGreatDoor
open Go.RowKit
theorem info4 (a b c d : Value) : (Tryz.prog.info? 191).map (·.size) = some (#[a, b, c, d] : Array Value).size := by kernel_rfl
theorem all4 {a b c d : Value} (ha : a.oneCell' = true) (hb : b.oneCell' = true) (hc : c.oneCell' = true) (hd : d.oneCell' = true) : (#[a, b, c, d] : Array Value).all (·.oneCell') = true := by simp [ha, hb, hc, hd]
theorem info2w (a b : Value) : (Tryz.prog.info? 65).map (·.size) = some (#[a, b] : Array Value).size := by kernel_rfl
theorem all2 {a b : Value} (ha : a.oneCell' = true) (hb : b.oneCell' = true) : (#[a, b] : Array Value).all (·.oneCell') = true := by simp [ha, hb]
set_option maxRecDepth 100000 in
set_option maxHeartbeats 2000000 in
theorem newSingle_any (s : ByteArray) (N : Nat) (HN : Hid (N = s.size + 1)) (hs : s.size ≤ 100) (n : Nat) (IW : WaysN s N n) : SingleN s N (n + 1) := by
 intro x hx hfair w S cs hrep
 cases hrep with
 | set f =>
  have hz0 : ((w.alloc (.cells (sc (.int .i64 0) (.slice none 0 0) f).toArray 176)).alloc (.cells #[.int .i64 0, .slice none 0 0, .slice none 0 0, .slice none 0 0] 191)).heap[w.heap.size]? = some (.cells (sc (.int .i64 0) (.slice none 0 0) f).toArray 176 (0, 0)) := heap_alloc2_old w _ _
  have hr0 : ((w.alloc (.cells (sc (.int .i64 0) (.slice none 0 0) f).toArray 176)).alloc (.cells #[.int .i64 0, .slice none 0 0, .slice none 0 0, .slice none 0 0] 191)).heap[w.heap.size + 1]? = some (.cells #[.int .i64 0, .slice none 0 0, .slice none 0 0, .slice none 0 0] 191 (0, 0)) := heap_alloc2_new w _ _
  have hk0 : Keeps [] w ((w.alloc (.cells (sc (.int .i64 0) (.slice none 0 0) f).toArray 176)).alloc (.cells #[.int .i64 0, .slice none 0 0, .slice none 0 0, .slice none 0 0] 191)) := ((Keeps.refl [] w).alloc _).alloc _
  obtain ⟨c0, c1, c2⟩ := sc_cells hz0
  have hll : (Tryz.prog.info? 174).map (·.size) = some (hcells f).toList.length := by rw [Tryz.infoSet]; simp [hcells_size]
  generalize (sc (.int .i64 0) (.slice none 0 0) f).toArray = C at *
  go_enter Tryz.func127, Tryz.ntmps127
  go_upto_if 8 with (fail)
  generalize ((w.alloc (.cells C 176)).alloc (.cells #[.int .i64 0, .slice none 0 0, .slice none 0 0, .slice none 0 0] 191)) = W at *
  obtain ⟨g0, hg0⟩ : ∃ g0, g0 = w.heap.size := ⟨_, rfl⟩
  obtain ⟨g1, hg1⟩ : ∃ g1, g1 = w.heap.size + 1 := ⟨_, rfl⟩
  rw [← hg1] at hr0 ⊢
  rw [← hg0] at c0 c1 c2 ⊢
  have hlo : w.heap.size ≤ W.heap.size := hk0.size
  have hg1w : w.heap.size ≤ g1 := by omega
  have hg1W : g1 < W.heap.size := (Array.getElem?_eq_some_iff.1 hr0).1
  clear hz0 hg0 hg1 c1
  go_wp2_with (first | (refine wpList_load_at rfl 174 _ rfl g0 2 rfl (hcells f).toList _ c2 Tryz.underlying174 rfl hll ?_))
  rw [Array.toArray_toList]
  refine (bytesOf_any f s N HN hs W).mono ?_
  rintro e w1 ⟨v, rfl, hm, hk1⟩
  obtain ⟨gv, cv, fv, rfl, _⟩ := id hm
  have hr1 := (hk1.block g1 (Array.getElem?_eq_some_iff.1 hr0).1 (by simp)).trans hr0
  have hkA := hk0.trans hk1
  go_wp2_with (first | (refine wpList_store_row rfl 191 _ _ rfl g1 #[.int .i64 0, .slice none 0 0, .slice none 0 0, .slice (some ⟨gv, 0, none⟩) N cv] rfl rfl _ _ hr1 (info4 _ _ _ _) rfl (all4 rfl rfl rfl rfl) ?_))
  refine bodyPost_ret (results_cell_row rfl _ _ g1 _ _ _ _ rfl (setRow_heap _ _ _ _ _ _ hr1) Tryz.underlying191 rfl (info4 _ _ _ _)) rfl ?_
  refine ⟨[.int .i64 0, .slice none 0 0, .slice none 0 0, .slice (some ⟨gv, 0, none⟩) N cv], rfl, ?_, ?_⟩
  ·exact .set f _ ((hm.keep ((Keeps.refl [g1] w1).setRow (g := g1) (by simp) _) (by intro x hx; simp; omega)).mono fun x hx _ => by omega)
  ·exact hkA.setRow (Or.inr hg1w) _
 | grp k y v h0 h9 hr =>
  obtain ⟨va, vn, vc, rfl⟩ : IsSl v := by
   cases hr with
   | ways _ _ _ _ _ ho _ => exact ownsRow_sl ho
  have hz0 : ((w.alloc (.cells (sc (.int .i64 k) (.slice va vn vc) fun _ => false).toArray 176)).alloc (.cells #[.int .i64 0, .slice none 0 0, .slice none 0 0, .slice none 0 0] 191)).heap[w.heap.size]? = some (.cells (sc (.int .i64 k) (.slice va vn vc) fun _ => false).toArray 176 (0, 0)) := heap_alloc2_old w _ _
  have hr0 : ((w.alloc (.cells (sc (.int .i64 k) (.slice va vn vc) fun _ => false).toArray 176)).alloc (.cells #[.int .i64 0, .slice none 0 0, .slice none 0 0, .slice none 0 0] 191)).heap[w.heap.size + 1]? = some (.cells #[.int .i64 0, .slice none 0 0, .slice none 0 0, .slice none 0 0] 191 (0, 0)) := heap_alloc2_new w _ _
  have hk0 : Keeps [] w ((w.alloc (.cells (sc (.int .i64 k) (.slice va vn vc) fun _ => false).toArray 176)).alloc (.cells #[.int .i64 0, .slice none 0 0, .slice none 0 0, .slice none 0 0] 191)) := ((Keeps.refl [] w).alloc _).alloc _
  obtain ⟨c0, c1, c2⟩ := sc_cells hz0
  have hysz : y.sz ≤ n := by simp [Pat.sz] at hx; omega
  have hyf : y.fair 9 := hfair.2.2
  have hkne : ((k : Int) == 0) = false := by simpa using (by omega : ¬ (k : Int) = 0)
  have hrW := hr.keep hk0 (by simp)
  clear c2
  generalize (sc (.int .i64 k) (.slice va vn vc) fun _ => false).toArray = C at *
  go_enter Tryz.func127, Tryz.ntmps127
  go_upto_if 8 with (fail)
  generalize ((w.alloc (.cells C 176)).alloc (.cells #[.int .i64 0, .slice none 0 0, .slice none 0 0, .slice none 0 0] 191)) = W at *
  obtain ⟨g0, hg0⟩ : ∃ g0, g0 = w.heap.size := ⟨_, rfl⟩
  obtain ⟨g1, hg1⟩ : ∃ g1, g1 = w.heap.size + 1 := ⟨_, rfl⟩
  rw [← hg1] at hr0 ⊢
  rw [← hg0] at c0 c1 hz0 ⊢
  have hlo : w.heap.size ≤ W.heap.size := hk0.size
  have hg1w : w.heap.size ≤ g1 := by omega
  have hg1W : g1 < W.heap.size := (Array.getElem?_eq_some_iff.1 hr0).1
  have hg0W : g0 < W.heap.size := (Array.getElem?_eq_some_iff.1 hz0).1
  clear hg0 hg1 hr hx hfair
  go_wp2_with fail
  refine (IW y hysz hyf W S _ hrW).mono ?_
  rintro e w1 ⟨cs, rfl, hm, hk1⟩
  obtain ⟨hone, a, c, rfl, hmp⟩ := id hm.form
  obtain ⟨gc, cc, fc, rfl, _⟩ := id hmp
  obtain ⟨aa, an, ac, rfl⟩ : IsSl a := by
   cases hm with
   | ways _ _ _ _ _ _ ho _ _ => exact ownsRow_sl ho
  have hr1 := (hk1.block g1 hg1W (by simp)).trans hr0
  have c01 : w1.cell? ⟨g0, 0, none⟩ = some (.int .i64 k) := (World.cell?_of_block (hk1.block g0 hg0W (by simp))).trans c0
  have hkA := hk0.trans hk1
  have hq0 : (w1.alloc (.cells #[.slice none 0 0, .slice none 0 0] 65)).heap[w1.heap.size]? = some (.cells #[.slice none 0 0, .slice none 0 0] 65 (0, 0)) := heap_alloc_new w1 _
  have hkQ : Keeps [] w1 ((w1.alloc (.cells #[.slice none 0 0, .slice none 0 0] 65)).setRow w1.heap.size #[.slice aa an ac, .slice (some ⟨gc, 0, none⟩) N cc]) := ((Keeps.refl [] w1).alloc _).setRow (Or.inr (Nat.le_refl _)) _
  have hqR : ((w1.alloc (.cells #[.slice none 0 0, .slice none 0 0] 65)).setRow w1.heap.size #[.slice aa an ac, .slice (some ⟨gc, 0, none⟩) N cc]).heap[w1.heap.size]? = some (.cells #[.slice aa an ac, .slice (some ⟨gc, 0, none⟩) N cc] 65 (0, 0)) := setRow_heap _ _ _ _ _ _ hq0
  have c03 := (World.cell?_of_block (hkQ.block g0 (Nat.lt_of_lt_of_le hg0W hk1.size) (by simp))).trans c01
  have hr3 := (hkQ.block g1 (Nat.lt_of_lt_of_le hg1W hk1.size) (by simp)).trans hr1
  have hm3 := hm.keep hkQ (by simp)
  have q0 : ((w1.alloc (.cells #[.slice none 0 0, .slice none 0 0] 65)).setRow w1.heap.size #[.slice aa an ac, .slice (some ⟨gc, 0, none⟩) N cc]).cell? ⟨w1.heap.size, 0, none⟩ = some (.slice aa an ac) := by rw [Lib.cell_of_heap hqR]; rfl
  have q1 : ((w1.alloc (.cells #[.slice none 0 0, .slice none 0 0] 65)).setRow w1.heap.size #[.slice aa an ac, .slice (some ⟨gc, 0, none⟩) N cc]).cell? ⟨w1.heap.size, 1, none⟩ = some (.slice (some ⟨gc, 0, none⟩) N cc) := by rw [Lib.cell_of_heap hqR]; rfl
  have hkB := hkA.trans hkQ
  clear hz0 hr0 c0 c1 hrW hk0 hqR hm hmp hr1 c01
  go_wp2_with (first | (refine wpList_store_row rfl 191 _ _ rfl g1 #[.int .i64 k, .slice aa an ac, .slice (some ⟨gc, 0, none⟩) N cc, .slice (some ⟨gc, 0, none⟩) N cc] rfl rfl _ _ hr3 (info4 _ _ _ _) rfl (all4 rfl rfl rfl rfl) ?_) | (refine wpList_store_row rfl 65 _ _ rfl w1.heap.size #[.slice aa an ac, .slice (some ⟨gc, 0, none⟩) N cc] rfl rfl _ _ hq0 (info2w _ _) rfl (all2 rfl rfl) ?_; generalize (w1.alloc (.cells #[.slice none 0 0, .slice none 0 0] 65)).setRow w1.heap.size #[.slice aa an ac, .slice (some ⟨gc, 0, none⟩) N cc] = W3 at *))
  refine bodyPost_ret (results_cell_row rfl _ _ g1 _ _ _ _ rfl (setRow_heap _ _ _ _ _ _ hr3) Tryz.underlying191 rfl (info4 _ _ _ _)) rfl ?_
  refine ⟨[.int .i64 k, .slice aa an ac, .slice (some ⟨gc, 0, none⟩) N cc, .slice (some ⟨gc, 0, none⟩) N cc], rfl, ?_, ?_⟩
  ·exact .grp k y _ _ h0 h9 ((hm3.keep ((Keeps.refl [g1] W3).setRow (g := g1) (by simp) _) (by intro x hx; simp; omega)).mono fun x hx _ => by omega)
  ·exact hkB.setRow (Or.inr hg1w) _
end Go.Proofs.YtnfojonmohijpabGreatDoor
