/-
  DERIVED. Contracts of strings.Builder: WriteByte, WriteString, String. Conditions: the builder is the call's own, what it holds stays below 2^47 bytes.
-/
import Derived.Test.YtnfojonmohijpaaGreatDoorJPW
import Derived.Lib.Strings
import Derived.Lib.Slices
import Derived.Lib.Walk
import Derived.Lib.Builder
import Derived.Lib.AppendStr
import Derived.Lib.UnsafeStr
import Derived.Laws.Externs
import Derived.Lib.OthersKept
import Derived.Lib.FrozenHead
import Derived.Test.YtnfojonmohijpaaGreatDoorJRM
import Derived.Test.YtnfojonmohijpaaGreatDoorJRU
import Derived.Test.YtnfojonmohijpaaGreatDoorJQI0
set_option linter.unusedSimpArgs false
set_option linter.unusedVariables false
namespace Go.Proofs.YtnfojonmohijpaaGreatDoor
open Go.RowKit
def upB (B n : Nat) : List Nat := (List.range n).filter fun k => decide (B ≤ k)
theorem upB_not {B n g : Nat} (h : g < B) : g ∉ upB B n := by
  intro hm
  simp [upB] at hm
  omega
theorem Keeps.ofBelow {B : Nat} {w w' : World} (h : Below B w w') : Keeps (upB B w.heap.size) w w' :=
  ⟨h.os, h.tape, h.output, h.size, fun j hj hn => h.block j (by
    apply Classical.byContradiction
    intro hc
    exact hn (by simp [upB]; omega))⟩
theorem Below.ofKeeps {B : Nat} {w w' : World} {S : List Nat} (h : Keeps S w w') (hB : B ≤ w.heap.size) (hs : ∀ g, g ∈ S → B ≤ g) : Below B w w' :=
  ⟨h.os, h.tape, h.output, h.size, fun k hk => h.block k (by omega) (fun hm => by have := hs k hm; omega)⟩
theorem Below.join {B : Nat} {a w w' : World} (h : Below B a w) (k : Below B w w') : Below B a w' :=
  ⟨k.os.trans h.os, k.tape.trans h.tape, k.output.trans h.output, Nat.le_trans h.size k.size, fun j hj => (k.block j hj).trans (h.block j hj)⟩
def BD (w : World) (B b : Nat) (l : List UInt8) : Prop :=
  B ≤ b ∧ ∃ p v, (p = .pointer none ∨ p = .pointer (some ⟨b, 0, none⟩)) ∧ w.heap[b]? = some (.cells #[p, v] 133 (0, 0)) ∧ w.ownsRow B 5 1 v l.length (Lib.byteCells l) ∧ v.ownBlock ≠ some b ∧ (l = [] → v = .slice none 0 0)
theorem BD.keep {w w' : World} {B b : Nat} {l : List UInt8} (h : BD w B b l) (hk : Keeps [] w w') : BD w' B b l := by
  obtain ⟨hB, p, v, hp, hb, ho, hn, h0⟩ := h
  exact ⟨hB, p, v, hp, (hk.block b (Array.getElem?_eq_some_iff.1 hb).1 (by simp)).trans hb, ho.keep hk (by simp), hn, h0⟩
theorem sizeBld : (Tryz.prog.info? 133).map (·.size) = some 2 := by kernel_rfl
theorem liesBld : liesAt Tryz.prog Tryz.prog.depth 133 (2 / Tryz.prog.cellsOf 133) 0 133 1 = true := by kernel_rfl
theorem undPB : Tryz.prog.underlying 131 = some (.pointer 133) := by kernel_rfl
theorem undUP : Tryz.prog.underlying 267 = some .unsafePointer := by kernel_rfl
set_option maxHeartbeats 1000000 in
set_option maxRecDepth 100000 in
theorem copyCheck_used (b : Nat) (w : World) (h0 : w.cell? ⟨b, 0, none⟩ = some (.pointer (some ⟨b, 0, none⟩))) :
    Calls Tryz.prog 119 #[.pointer (some ⟨b, 0, none⟩)] w fun e w' => e = .returned (.tuple #[]) ∧ w' = w := by
  obtain ⟨j, hj, _⟩ := Option.map_eq_some_iff.1 sizeBld
  have hne := Lib.run_neq_ptr_same (P := Tryz.prog) w ⟨b, 0, none⟩ undPB hj
  go_enter Tryz.func119, Tryz.ntmps119
  go_wp2_with fail
  go_end0
  exact ⟨rfl, rfl⟩
set_option maxHeartbeats 1000000 in
set_option maxRecDepth 100000 in
theorem copyCheck_fresh (b : Nat) (w : World) (h0 : w.cell? ⟨b, 0, none⟩ = some (.pointer none)) (hsh : w.shape? b = some (133, 2)) (hfz : w.frozen? ⟨b, 0, none⟩ = false) :
    Calls Tryz.prog 119 #[.pointer (some ⟨b, 0, none⟩)] w fun e w' => e = .returned (.tuple #[]) ∧ w' = w.setCell ⟨b, 0, none⟩ (.pointer (some ⟨b, 0, none⟩)) := by
  obtain ⟨j, hj, hjs⟩ := Option.map_eq_some_iff.1 sizeBld
  have e1 := Lib.run_to_unsafe (P := Tryz.prog) w ⟨b, 0, none⟩ undPB undUP hj (by rw [hjs]; decide) hsh (Nat.zero_lt_succ 1)
  have e2 : (callFunc 169 #[.pointer (some ⟨b, 0, none⟩)]).run Tryz.prog w = .ok (.value (.pointer (some ⟨b, 0, none⟩))) w := by
    rw [run_callFunc_extern Tryz.func169 (by kernel_rfl) (by kernel_rfl) (by kernel_rfl) (e := Extern.AbiNoEscape.same) (by kernel_rfl), Lib.run_noEscape]
    rfl
  have e3 := Lib.run_from_unsafe (P := Tryz.prog) w ⟨b, 0, none⟩ undUP undPB hj hsh liesBld
  go_enter Tryz.func119, Tryz.ntmps119
  go_wp2_with fail
  go_end0
  exact ⟨rfl, rfl⟩
theorem copyCheck_any (B b : Nat) (l : List UInt8) (w : World) (h : BD w B b l) :
    Calls Tryz.prog 119 #[.pointer (some ⟨b, 0, none⟩)] w fun e w' => e = .returned (.tuple #[]) ∧ Below B w w' ∧ Lib.OthersKept 5 (some b) w w' ∧ ∃ v, w'.heap[b]? = some (.cells #[.pointer (some ⟨b, 0, none⟩), v] 133 (0, 0)) ∧ w'.ownsRow B 5 1 v l.length (Lib.byteCells l) ∧ v.ownBlock ≠ some b ∧ (l = [] → v = .slice none 0 0) := by
  obtain ⟨hB, p, v, hp, hb, ho, hn, h0⟩ := h
  rcases hp with rfl | rfl
  · have hc : Lib.BuilderAt 133 5 B b (.pointer none) (Lib.byteCells l) w := ⟨hB, v, hb, by rw [Lib.byteCells_length]; exact ho, hn⟩
    refine (copyCheck_fresh b w hc.cell0 hc.shape hc.frozen0).mono ?_
    rintro e w' ⟨rfl, rfl⟩
    refine ⟨rfl, (Below.refl B w).setCell (p := ⟨b, 0, none⟩) hB _, (Lib.OthersKept.refl _ _ w).setCell ⟨b, 0, none⟩ rfl _, v, ?_, ho.setOther (a := ⟨b, 0, none⟩) hn _, hn, h0⟩
    simp [World.setCell, Array.getElem?_modify, hb]
  · refine (copyCheck_used b w (by rw [Lib.cell_of_heap hb]; rfl)).mono ?_
    rintro e w' ⟨rfl, rfl⟩
    exact ⟨rfl, Below.refl B _, Lib.OthersKept.refl _ _ _, v, hb, ho, hn, h0⟩
theorem BD.put {w : World} {B b : Nat} {p v v' : Value} {l : List UInt8} (hB : B ≤ b) (hp : p = .pointer none ∨ p = .pointer (some ⟨b, 0, none⟩)) (hb : w.heap[b]? = some (.cells #[p, v] 133 (0, 0))) (ho : w.ownsRow B 5 1 v' l.length (Lib.byteCells l)) (h0 : l = [] → v' = .slice none 0 0) : BD (w.setCell ⟨b, 1, none⟩ v') B b l := by
  have hne := Lib.ownBlock_ne ho hb (by decide)
  refine ⟨hB, p, v', hp, ?_, ho.setOther (a := ⟨b, 1, none⟩) hne _, hne, h0⟩
  simp [World.setCell, Array.getElem?_modify, hb]
theorem byteCells_snoc (l : List UInt8) (u : UInt8) : Lib.byteCells (l ++ [u]) = Lib.byteCells l ++ [.int .u8 (u.toNat : Int)] := by simp [Lib.byteCells]
theorem byteCells_app (l m : List UInt8) : Lib.byteCells (l ++ m) = Lib.byteCells l ++ Lib.byteCells m := by simp [Lib.byteCells]
theorem strCells_nmB (l : List UInt8) : Lib.strCells (nmB l) = Lib.byteCells l := by simp [Lib.strCells, Lib.byteCells, nmB]
set_option maxHeartbeats 2000000 in
set_option maxRecDepth 100000 in
theorem writeByte_any (B b : Nat) (l : List UInt8) (u : UInt8) (c : Int) (hc : c = (u.toNat : Int)) (w : World) (h : BD w B b l) (hlen : l.length ≤ 1000000000) (hBw : B ≤ w.heap.size) :
    Calls Tryz.prog 68 #[.pointer (some ⟨b, 0, none⟩), .int .u8 c] w fun e w' => e = .returned .nilIface ∧ BD w' B b (l ++ [u]) ∧ Below B w w' ∧ Lib.OthersKept 5 (some b) w w' := by
  subst hc
  obtain ⟨i0, hi0, hz0, hz1, hz2⟩ := info_parts Tryz.infoByte
  have hB := h.1
  go_enter Tryz.func68, Tryz.ntmps68
  go_wp2_with fail
  refine (copyCheck_any B b l _ h).mono ?_
  rintro e w1 ⟨rfl, hb1, hk1, v, hbk, hown, hne, h0⟩
  have c0 : w1.cell? ⟨b, 0, none⟩ = some (.pointer (some ⟨b, 0, none⟩)) := by rw [Lib.cell_of_heap hbk]; rfl
  have c1 : w1.cell? ⟨b, 1, none⟩ = some v := by rw [Lib.cell_of_heap hbk]; rfl
  have hlt : b < w1.heap.size := (Array.getElem?_eq_some_iff.1 hbk).1
  have hsz := hb1.size
  have hun := Tryz.underlying64
  have hlm : l.length + 1 ≤ maxLen := by unfold maxLen; omega
  go_wp2_with (at_builtin; refine wpList_append_lies _ rfl _ _ _ rfl B 5 i0 (.int .u8 0) 1 1 hun hi0 hz0 hz1 hz2 rfl (by decide) v l.length _ rfl (hown.alloc _) ⟨w1.heap.size, 0, none⟩ 1 1 [.int .u8 (u.toNat : Int)] rfl rfl ?c1 ?c2 ?c3 hlm ?c4 ?c5 (w1.heap.size + 1) ?c6 ?_)
  case c1 =>
    intro j u hj
    match j, hj with
    | 0, hj => simp at hj; subst hj; simp [Addr.add]
  case c2 => intro u hu; simp at hu; subst hu; rfl
  case c3 => omega
  case c4 => omega
  case c5 => simp; omega
  case c6 => simp
  intro g cap w4 hown4 hgrow hat hlt4
  have hb4 : w4.heap[b]? = some (.cells #[.pointer (some ⟨b, 0, none⟩), v] 133 (0, 0)) := by
    rw [hgrow.block b (by simp; omega) (fun e => hne e.symm), Lib.alloc_old w1 _ b hlt]
    exact hbk
  have d0 : w4.cell? ⟨b, 0, none⟩ = some (.pointer (some ⟨b, 0, none⟩)) := by rw [Lib.cell_of_heap hb4]; rfl
  have d1 : w4.cell? ⟨b, 1, none⟩ = some v := by rw [Lib.cell_of_heap hb4]; rfl
  have f1 : w4.frozen? ⟨b, 1, none⟩ = false := Lib.frozen_of_heap hb4 1
  go_wp2_with fail
  go_ret
  refine ⟨rfl, BD.put hB (Or.inr rfl) hb4 (by rw [byteCells_snoc, List.length_append, List.length_singleton]; exact hown4) (by intro h; simp at h), ?_, ((hk1.alloc _).grown hgrow (Lib.ownsRowF_kind (World.ownsRowF_of (hown.alloc _)))).setCell ⟨b, 1, none⟩ rfl _⟩
  exact ((hb1.alloc (by omega) _).grown hgrow (by simp; omega) (fun k hk => (hown.lt k hk).1)).setCell (p := ⟨b, 1, none⟩) hB _
set_option maxHeartbeats 2000000 in
set_option maxRecDepth 100000 in
theorem writeString_any (B b : Nat) (l m : List UInt8) (w : World) (h : BD w B b l) (hlen : l.length ≤ 1000000000) (hlm' : m.length ≤ 1000000000) (hBw : B ≤ w.heap.size) :
    Calls Tryz.prog 104 #[.pointer (some ⟨b, 0, none⟩), .string (nmB m)] w fun e w' => (∃ v, e = .returned v) ∧ BD w' B b (l ++ m) ∧ Below B w w' ∧ Lib.OthersKept 5 (some b) w w' := by
  obtain ⟨i0, hi0, hz0, hz1, hz2⟩ := info_parts Tryz.infoByte
  have hB := h.1
  have hms : (nmB m).size = m.length := nmB_size m
  go_enter Tryz.func104, Tryz.ntmps104
  go_wp2_with fail
  refine (copyCheck_any B b l _ h).mono ?_
  rintro e w1 ⟨rfl, hb1, hk1, v, hbk, hown, hne, h0⟩
  have c0 : w1.cell? ⟨b, 0, none⟩ = some (.pointer (some ⟨b, 0, none⟩)) := by rw [Lib.cell_of_heap hbk]; rfl
  have c1 : w1.cell? ⟨b, 1, none⟩ = some v := by rw [Lib.cell_of_heap hbk]; rfl
  have hlt : b < w1.heap.size := (Array.getElem?_eq_some_iff.1 hbk).1
  have hsz := hb1.size
  have hun := Tryz.underlying64
  have hus := Tryz.underlying9
  have hlm : l.length + (nmB m).size ≤ maxLen := by unfold maxLen; omega
  have hlb : l.length + (nmB m).size ≤ 140737488355328 := by omega
  clear hms
  go_wp2_with (at_builtin; refine Lib.wpList_append_own_string _ rfl _ _ 64 9 rfl B 5 i0 hun hus hi0 hz0 hz1 hz2 _ _ _ rfl hown (nmB m) rfl ?c3 ?c4 ?c5 ?_)
  case c3 => exact hlm
  case c4 => exact hlb
  case c5 => omega
  intro v' w4 hown4 hgrow hnil
  have hb4 : w4.heap[b]? = some (.cells #[.pointer (some ⟨b, 0, none⟩), v] 133 (0, 0)) := by
    rw [hgrow.block b hlt (fun e => hne e.symm)]
    exact hbk
  have d0 : w4.cell? ⟨b, 0, none⟩ = some (.pointer (some ⟨b, 0, none⟩)) := by rw [Lib.cell_of_heap hb4]; rfl
  have d1 : w4.cell? ⟨b, 1, none⟩ = some v := by rw [Lib.cell_of_heap hb4]; rfl
  have f1 : w4.frozen? ⟨b, 1, none⟩ = false := Lib.frozen_of_heap hb4 1
  obtain ⟨va, vn, vc, rfl⟩ : ∃ a n c, v' = .slice a n c := by
    rcases hown4.2 with ⟨hv, _⟩ | ⟨g, cap, cur, hv, _⟩
    · exact ⟨_, _, _, hv⟩
    · exact ⟨_, _, _, hv⟩
  go_wp2_with fail
  go_ret2
  refine ⟨⟨_, rfl⟩, BD.put hB (Or.inr rfl) hb4 (by rw [byteCells_app, List.length_append, ← strCells_nmB m]; simpa [nmB_size] using hown4) ?_, ?_, (hk1.grown hgrow (Lib.ownsRowF_kind (World.ownsRowF_of hown))).setCell ⟨b, 1, none⟩ rfl _⟩
  · intro hn
    have h1 := List.append_eq_nil_iff.1 hn
    exact hnil.2 ⟨h0 h1.1, by rw [h1.2]; rfl⟩
  · exact (hb1.grown hgrow (by omega) (fun k hk => (hown.lt k hk).1)).setCell (p := ⟨b, 1, none⟩) hB _
set_option maxHeartbeats 2000000 in
set_option maxRecDepth 100000 in
theorem string_nil (B b : Nat) (p : Value) (w : World) (hbk : w.heap[b]? = some (.cells #[p, .slice none 0 0] 133 (0, 0))) :
    Calls Tryz.prog 70 #[.pointer (some ⟨b, 0, none⟩)] w fun e w' => e = .returned (.string (nmB [])) ∧ Below B w w' := by
  have hUS : ∀ (W : World) (q : Option Addr), (Builtin.unsafeString_ #[215, 3] 9 #[.pointer q, .int .i64 0]).run Tryz.prog W = .ok (.string .empty) W := fun W q => Lib.run_unsafeString_none W _ _ _ q
  have c1 : w.drew.cell? ⟨b, 1, none⟩ = some (.slice none 0 0) := by
    have : w.drew.heap[b]? = some (.cells #[p, .slice none 0 0] 133 (0, 0)) := hbk
    rw [Lib.cell_of_heap this]; rfl
  have hSD : (Builtin.unsafeSliceData_ #[64] 215 #[.slice none 0 0]).run Tryz.prog w.drew = .ok (.pointer none) w.drew := rfl
  go_enter Tryz.func70, Tryz.ntmps70
  go_wp2_with fail
  go_region
  all_goals (go_wp2_with fail; go_ret; exact ⟨rfl, Below.drew (Below.refl B w)⟩)
set_option maxHeartbeats 2000000 in
set_option maxRecDepth 100000 in
theorem string_some (B b : Nat) (l : List UInt8) (w : World) (h : BD w B b l) (h0 : l ≠ []) :
    Calls Tryz.prog 70 #[.pointer (some ⟨b, 0, none⟩)] w fun e w' => e = .returned (.string (nmB l)) ∧ Below B w w' := by
  obtain ⟨hB, p, v, hp, hbk, hown, hne, _⟩ := h
  have hl0 : l.length ≠ 0 := by simpa using h0
  obtain ⟨g, cap, cur, rfl, hbg, hg, hnc, hcm, hcs, htake⟩ : ∃ g cap cur, v = .slice (some ⟨g, 0, none⟩) l.length cap ∧ B ≤ g ∧ w.heap[g]? = some (.cells cur 5 (0, 0)) ∧ l.length ≤ cap ∧ cap ≤ maxLen ∧ cur.size = cap * 1 ∧ cur.toList.take (l.length * 1) = Lib.byteCells l := by
    rcases hown.2 with ⟨_, hz⟩ | ⟨g, cap, cur, hv, r⟩
    · exact absurd hz hl0
    · exact ⟨g, cap, cur, hv, r⟩
  have c1 : w.drew.cell? ⟨b, 1, none⟩ = some (.slice (some ⟨g, 0, none⟩) l.length cap) := by
    have : w.drew.heap[b]? = some (.cells #[p, .slice (some ⟨g, 0, none⟩) l.length cap] 133 (0, 0)) := hbk
    rw [Lib.cell_of_heap this]; rfl
  have hSD : (Builtin.unsafeSliceData_ #[64] 215 #[.slice (some ⟨g, 0, none⟩) l.length cap]).run Tryz.prog w.drew = .ok (.pointer (some ⟨g, 0, none⟩)) w.drew :=
    Lib.run_unsafeSliceData_row _ _ _ _ _ _ (by omega)
  have hUS : (Builtin.unsafeString_ #[215, 3] 9 #[.pointer (some ⟨g, 0, none⟩), .int .i64 l.length]).run Tryz.prog w.drew = .ok (.string (nmB l)) (w.drew.freeze ⟨g, 0, none⟩ l.length) := by
    refine Lib.run_unsafeString_row w.drew 215 3 9 5 Tryz.underlying215 (by kernel_rfl) g cur.size (by have hg' : w.drew.heap[g]? = some (.cells cur 5 (0, 0)) := hg; simp [World.shape?, hg']) l h0 (by omega) (by unfold maxLen at hcm; omega) ?_
    intro j x hx
    have := hown.cells (g := g) rfl j (.int .u8 x.toNat) (by simp [Lib.byteCells, hx])
    exact this
  go_enter Tryz.func70, Tryz.ntmps70
  go_wp2_with fail
  go_region
  all_goals (go_wp2_with fail; go_ret; exact ⟨rfl, Lib.below_freeze (Below.drew (Below.refl B w)) (p := ⟨g, 0, none⟩) hbg _⟩)
theorem string_any (B b : Nat) (l : List UInt8) (w : World) (h : BD w B b l) :
    Calls Tryz.prog 70 #[.pointer (some ⟨b, 0, none⟩)] w fun e w' => e = .returned (.string (nmB l)) ∧ Below B w w' := by
  by_cases h0 : l = []
  · subst h0
    obtain ⟨hB, p, v, hp, hbk, hown, hne, hv⟩ := h
    rw [hv rfl] at hbk
    exact string_nil B b p w hbk
  · exact string_some B b l w h h0
end Go.Proofs.YtnfojonmohijpaaGreatDoor
namespace Go.Proofs.YtnfojonmohijpaaGreatDoor
open Go.RowKit
theorem add_off (g off j : Nat) : (⟨g, off, none⟩ : Addr).add j = ⟨g, off + j, none⟩ := by unfold Addr.add; split <;> simp_all
theorem run_loadVar_at (w : World) (g off : Nat) (ty : TypeId) (cs : List Value) (d : TypeDesc) (hc : ∀ j v, cs[j]? = some v → w.cell? ⟨g, off + j, none⟩ = some v)
    (hu : Tryz.prog.underlying ty = some d) (hd : (match d with | .struct _ | .array _ _ => true | _ => false) = true) (hi : (Tryz.prog.info? ty).map (·.size) = some cs.length) :
    (loadVar ty ⟨g, off, none⟩).run Tryz.prog w = .ok (.agg cs.toArray) w := by
  have hl : (loadCells ⟨g, off, none⟩ cs.length).run Tryz.prog w = .ok cs.toArray w :=
    run_loadCells_list (P := Tryz.prog) w ⟨g, off, none⟩ cs (fun j v hv => by rw [add_off]; exact hc j v hv)
  cases hq : Tryz.prog.info? ty with
  | none => simp [hq] at hi
  | some i =>
    have hs : i.size = cs.length := by simpa [hq] using hi
    have hagg : (isAgg ty).run Tryz.prog w = .ok true w := by
      unfold isAgg
      rw [Sem.run_bind, run_underlying hu w]
      cases d <;> simp_all
    simp [loadVar, Sem.run_bind, hagg, sizeOf, typeInfo, hq, hs, hl]
theorem wpList_load_at {ops : Array Oper} {rest : List Oper} {o : Oper} {a : Act} {w : World} {Q : Exit → Act → World → Prop} (hgd : o.guard = none) (ty : TypeId) (x : Operand) (ho : o.op = .load ty x)
    (g off : Nat) (hx : a.eval x = .pointer (some ⟨g, off, none⟩)) (cs : List Value) (d : TypeDesc) (hc : ∀ j v, cs[j]? = some v → w.cell? ⟨g, off + j, none⟩ = some v)
    (hu : Tryz.prog.underlying ty = some d) (hd : (match d with | .struct _ | .array _ _ => true | _ => false) = true) (hi : (Tryz.prog.info? ty).map (·.size) = some cs.length)
    (h : wpList Tryz.prog ops Q rest (a.put o.dst (.agg cs.toArray)) w) : wpList Tryz.prog ops Q (o :: rest) a w := by
  refine wpList_plain hgd fun K hK => ?_
  unfold Oper.wp execOp
  simp only [ho, hx, Instr.loadAt, Instr.sureAddr, Sem.run_bind, Sem.run_pure, Result.andThen_ok, run_loadVar_at w g off ty cs d hc hu hd hi]
  exact hK _ _ h
def wl : Pat → List Pat
  | .wone x => [x]
  | .wcons x r => x :: wl r
  | _ => []
def pl : Pat → List Pat
  | .pcons x r => x :: pl r
  | _ => []
def tw : Nat → List Pat → List UInt8
  | _, [] => []
  | k, x :: r => (if 0 < k then [124] else []) ++ patT x ++ tw (k + 1) r
def tp (l : List Pat) : List UInt8 := l.flatMap patT
theorem Rep.wl_text {w : World} {S : Nat → Prop} {x : Pat} {vs : List Value} (h : Rep w S .wlist x vs) : (∀ k, tw k (wl x) = (if 0 < k then [124] else []) ++ patT x) ∧ (wl x).length = vs.length ∧ (∀ (i : Nat) (y : Pat), (wl x)[i]? = some y → ∃ u, vs[i]? = some u ∧ Rep w S .way y [u] ∧ y.sz < x.sz) := by
  generalize hk : Kr.wlist = kk at h
  induction h with
  | wone x v h1 _ =>
    refine ⟨fun k => by simp [wl, tw, patT], rfl, ?_⟩
    intro i y hy
    match i, hy with
    | 0, hy => simp [wl] at hy; subst hy; exact ⟨v, rfl, h1, by simp [Pat.sz]⟩
  | wcons x r v vs h1 _ _ ih =>
    obtain ⟨a, b, c⟩ := ih rfl
    refine ⟨fun k => by simp [wl, tw, patT, a (k + 1)], by simp [wl, b], ?_⟩
    intro i y hy
    match i, hy with
    | 0, hy => simp [wl] at hy; subst hy; exact ⟨v, rfl, h1, by simp [Pat.sz]; omega⟩
    | i + 1, hy =>
      obtain ⟨u, h2, h3, h4⟩ := c i y (by simpa [wl] using hy)
      exact ⟨u, by simpa using h2, h3, by simp [Pat.sz]; omega⟩
  | _ => cases hk
theorem Rep.pl_text {w : World} {S : Nat → Prop} {x : Pat} {cs : List Value} (h : Rep w S .plist x cs) : tp (pl x) = patT x ∧ cs.length = (pl x).length * 261 ∧ (∀ (i : Nat) (y : Pat), (pl x)[i]? = some y → ∃ ds, Rep w S .piece y ds ∧ (∀ (j : Nat) (u : Value), ds[j]? = some u → cs[i * 261 + j]? = some u) ∧ y.sz < x.sz) := by
  generalize hk : Kr.plist = kk at h
  induction h with
  | pnil => exact ⟨rfl, rfl, by intro i y hy; simp [pl] at hy⟩
  | pcons x r cs ds h1 _ _ ih =>
    obtain ⟨a, b, c⟩ := ih rfl
    have hl : cs.length = 261 := h1.cells.2
    refine ⟨by simp [pl, tp, patT] at a ⊢; exact a, by simp [pl, b, hl]; omega, ?_⟩
    intro i y hy
    match i, hy with
    | 0, hy =>
      simp [pl] at hy
      subst hy
      refine ⟨cs, h1, ?_, by simp [Pat.sz]; omega⟩
      intro j u hu
      have hj : j < cs.length := by
        rcases Nat.lt_or_ge j cs.length with h | h
        · exact h
        · rw [List.getElem?_eq_none h] at hu; cases hu
      rw [Nat.zero_mul, Nat.zero_add, List.getElem?_append_left hj]
      exact hu
    | i + 1, hy =>
      obtain ⟨es, h2, h3, h4⟩ := c i y (by simpa [pl] using hy)
      refine ⟨es, h2, ?_, by simp [Pat.sz]; omega⟩
      intro j u hu
      have := h3 j u hu
      rw [List.getElem?_append_right (by omega), hl]
      have e : (i + 1) * 261 + j - 261 = i * 261 + j := by omega
      rw [e]
      exact this
  | _ => cases hk
theorem sz_rep (x : Pat) (o : Option (Nat × Int)) : x.sz ≤ (withRep x o).sz := by
  cases o with
  | none => exact Nat.le_refl _
  | some p => obtain ⟨m, n⟩ := p; simp [withRep, Pat.sz]
theorem sz_pos (x : Pat) : 0 < x.sz := by cases x <;> simp [Pat.sz] <;> omega
theorem tw_take (l : List Pat) : ∀ (k i : Nat) (y : Pat), l[i]? = some y → tw k (l.take (i + 1)) = tw k (l.take i) ++ ((if 0 < k + i then [124] else []) ++ patT y) := by
  induction l with
  | nil => intro k i y h; simp at h
  | cons x l ih =>
    intro k i y h
    cases i with
    | zero => simp at h; subst h; simp [tw]
    | succ i =>
      have := ih (k + 1) i y (by simpa using h)
      simp only [List.take_succ_cons, tw]
      rw [this]
      have e : k + 1 + i = k + (i + 1) := by omega
      rw [e]
      simp
theorem tp_take (l : List Pat) (i : Nat) (y : Pat) (h : l[i]? = some y) : tp (l.take (i + 1)) = tp (l.take i) ++ patT y := by
  rw [List.take_add_one, h]
  simp [tp]
theorem tw_len (l : List Pat) : ∀ (k i : Nat), (tw k (l.take i)).length ≤ (tw k l).length := by
  induction l with
  | nil => intro k i; simp
  | cons x l ih =>
    intro k i
    cases i with
    | zero => simp [tw]
    | succ i => have := ih (k + 1) i; simp only [List.take_succ_cons, tw, List.length_append]; omega
theorem tp_len (l : List Pat) (i : Nat) : (tp (l.take i)).length ≤ (tp l).length := by
  induction l generalizing i with
  | nil => simp
  | cons x l ih =>
    cases i with
    | zero => simp [tp]
    | succ i => have := ih i; simp only [List.take_succ_cons, tp, List.flatMap_cons, List.length_append] at this ⊢; omega
theorem tw_mem (l : List Pat) : ∀ (k i : Nat) (y : Pat), l[i]? = some y → (tw k (l.take i)).length + 1 + (patT y).length ≤ (tw k l).length + 1 := by
  intro k i y h
  have h1 := tw_take l k i y h
  have h2 := tw_len l k (i + 1)
  rw [h1] at h2
  simp only [List.length_append] at h2
  omega
end Go.Proofs.YtnfojonmohijpaaGreatDoor
namespace Go.Proofs.YtnfojonmohijpaaGreatDoor
open Go.RowKit
structure WF (B b : Nat) (w w' : World) : Prop where
  below : Below B w w'
  others : Lib.OthersKept 5 (some b) w w'
theorem WF.refl (B b : Nat) (w : World) : WF B b w w := ⟨Below.refl B w, Lib.OthersKept.refl _ _ w⟩
theorem WF.trans {B b : Nat} {a w w' : World} (h : WF B b a w) (k : WF B b w w') : WF B b a w' := ⟨Below.join h.below k.below, h.others.trans k.others⟩
theorem WF.ofKeeps {B b : Nat} {w w' : World} (h : Keeps [] w w') (hB : B ≤ w.heap.size) : WF B b w w' :=
  ⟨Below.ofKeeps h hB (by simp), fun k o hk _ _ => (h.block k (Array.getElem?_eq_some_iff.1 hk).1 (by simp)).trans hk⟩
theorem Rep.wf {w w' : World} {S : Nat → Prop} {k : Kr} {x : Pat} {cs : List Value} {B b : Nat} (h : Rep w S k x cs) (hS : ∀ g, S g → g < B) (hf : WF B b w w') : Rep w' S k x cs := h.keep (Keeps.ofBelow hf.below) fun g hg => upB_not (hS g hg)
theorem row_wf {w w' : World} {B b g : Nat} {cs : Array Value} {T : TypeId} {fr : Nat × Nat} (h : w.heap[g]? = some (.cells cs T fr)) (hT : T ≠ 5) (hg : g ≠ b) (hf : WF B b w w') : w'.heap[g]? = some (.cells cs T fr) :=
  hf.others g _ h (by simpa using hg) (by intro c fz e; cases e; exact hT rfl)
theorem BD.lt {w : World} {B b : Nat} {l : List UInt8} (h : BD w B b l) : b < w.heap.size := by
  obtain ⟨_, p, v, _, hb, _⟩ := h
  exact (Array.getElem?_eq_some_iff.1 hb).1
theorem sc_cells {w : World} {g : Nat} {k v : Value} {f : Nat → Bool} {T : TypeId} {fr : Nat × Nat} (h : w.heap[g]? = some (.cells (sc k v f).toArray T fr)) :
    w.cell? ⟨g, 0, none⟩ = some k ∧ w.cell? ⟨g, 1, none⟩ = some v ∧ ∀ j u, (hcells f).toList[j]? = some u → w.cell? ⟨g, 2 + j, none⟩ = some u := by
  refine ⟨by rw [Lib.cell_of_heap h]; rfl, by rw [Lib.cell_of_heap h]; rfl, ?_⟩
  intro j u hu
  rw [Lib.cell_of_heap h]
  have e : 2 + j = j + 1 + 1 := by omega
  rw [e]
  simpa [sc] using hu
end Go.Proofs.YtnfojonmohijpaaGreatDoor
namespace Go.Proofs.YtnfojonmohijpaaGreatDoor
inductive JN where
  | node (k : Nat)
  | row (l : List Nat)
  | it (c n : Nat)
inductive MN (s : ByteArray) (nds : List Nd) : JN → Nat → Nat → Prop
  | byte (k : Nat) (nd : Nd) (i : Nat) : nds[k]? = some nd → nd.kind = 98 → i < s.size → nd.f (at' s i).toNat = true → MN s nds (.node k) i (i + 1)
  | grp (k : Nat) (nd : Nd) (c i j : Nat) : nds[k]? = some nd → nd.kind = 103 → nd.kids = [c] → MN s nds (.node c) i j → MN s nds (.node k) i j
  | alt (k : Nat) (nd : Nd) (c i j : Nat) : nds[k]? = some nd → nd.kind = 111 → c ∈ nd.kids → MN s nds (.node c) i j → MN s nds (.node k) i j
  | way (k : Nat) (nd : Nd) (i j : Nat) : nds[k]? = some nd → nd.kind = 119 → MN s nds (.row nd.kids) i j → MN s nds (.node k) i j
  | rep (k : Nat) (nd : Nd) (c n i j : Nat) : nds[k]? = some nd → nd.kind = 114 → nd.kids = [c] → nd.mn ≤ n → (nd.mx < 0 ∨ (n : Int) ≤ nd.mx) → MN s nds (.it c n) i j → MN s nds (.node k) i j
  | rnil (i : Nat) : MN s nds (.row []) i i
  | rcons (c : Nat) (l : List Nat) (i m j : Nat) : MN s nds (.node c) i m → MN s nds (.row l) m j → MN s nds (.row (c :: l)) i j
  | izero (c i : Nat) : MN s nds (.it c 0) i i
  | isucc (c n i m j : Nat) : MN s nds (.node c) i m → MN s nds (.it c n) m j → MN s nds (.it c (n + 1)) i j
theorem MN.row_nil {s : ByteArray} {nds : List Nd} {i j : Nat} : MN s nds (.row []) i j ↔ i = j :=
  ⟨fun h => by cases h; rfl, fun h => by cases h; exact .rnil i⟩
theorem MN.row_cons {s : ByteArray} {nds : List Nd} {c : Nat} {l : List Nat} {i j : Nat} : MN s nds (.row (c :: l)) i j ↔ ∃ m, MN s nds (.node c) i m ∧ MN s nds (.row l) m j :=
  ⟨fun h => by cases h with | rcons _ _ _ m _ a b => exact ⟨m, a, b⟩, fun ⟨m, a, b⟩ => .rcons c l i m j a b⟩
theorem MN.row_one {s : ByteArray} {nds : List Nd} {c : Nat} {i j : Nat} : MN s nds (.row [c]) i j ↔ MN s nds (.node c) i j := by
  rw [MN.row_cons]
  constructor
  · rintro ⟨m, a, b⟩
    rw [MN.row_nil] at b
    subst b
    exact a
  · intro h
    exact ⟨j, h, MN.row_nil.2 rfl⟩
theorem MN.it_iff {s : ByteArray} {nds : List Nd} {c : Nat} {R : Nat → Nat → Prop} (h : ∀ i j, R i j ↔ MN s nds (.node c) i j) : ∀ n i j, It R n i j ↔ MN s nds (.it c n) i j
  | 0, i, j => ⟨fun e => by cases e; exact .izero c i, fun e => by cases e; rfl⟩
  | n + 1, i, j => by
    constructor
    · rintro ⟨m, a, b⟩
      exact .isucc c n i m j ((h i m).1 a) ((MN.it_iff h n m j).1 b)
    · intro e
      cases e with
      | isucc _ _ _ m _ a b => exact ⟨m, (h i m).2 a, (MN.it_iff h n m j).2 b⟩
def ML (s : ByteArray) (nds : List Nd) (kd : Kd) (l : List Nat) (i j : Nat) : Prop :=
  match kd with
  | .ways => ∃ c, c ∈ l ∧ MN s nds (.node c) i j
  | _ => MN s nds (.row l) i j
theorem MN.byte_iff {s : ByteArray} {nds : List Nd} {k : Nat} {nd : Nd} (e : nds[k]? = some nd) (hk : nd.kind = 98) {i j : Nat} : MN s nds (.node k) i j ↔ i < s.size ∧ nd.f (at' s i).toNat = true ∧ j = i + 1 := by
  constructor
  · intro h
    cases h with
    | byte _ nd' _ e' k' a b => cases e.symm.trans e'; exact ⟨a, b, rfl⟩
    | grp _ nd' _ _ _ e' k' => cases e.symm.trans e'; omega
    | alt _ nd' _ _ _ e' k' => cases e.symm.trans e'; omega
    | way _ nd' _ _ e' k' => cases e.symm.trans e'; omega
    | rep _ nd' _ _ _ _ e' k' => cases e.symm.trans e'; omega
  · rintro ⟨a, b, rfl⟩
    exact .byte k nd i e hk a b
theorem MN.grp_iff {s : ByteArray} {nds : List Nd} {k c : Nat} {nd : Nd} (e : nds[k]? = some nd) (hk : nd.kind = 103) (hc : nd.kids = [c]) {i j : Nat} : MN s nds (.node k) i j ↔ MN s nds (.node c) i j := by
  constructor
  · intro h
    cases h with
    | byte _ nd' _ e' k' a b => cases e.symm.trans e'; omega
    | grp _ nd' c' _ _ e' k' hc' h' => cases e.symm.trans e'; rw [hc] at hc'; cases hc'; exact h'
    | alt _ nd' _ _ _ e' k' => cases e.symm.trans e'; omega
    | way _ nd' _ _ e' k' => cases e.symm.trans e'; omega
    | rep _ nd' _ _ _ _ e' k' => cases e.symm.trans e'; omega
  · exact .grp k nd c i j e hk hc
theorem MN.alt_iff {s : ByteArray} {nds : List Nd} {k : Nat} {nd : Nd} (e : nds[k]? = some nd) (hk : nd.kind = 111) {i j : Nat} : MN s nds (.node k) i j ↔ ∃ c, c ∈ nd.kids ∧ MN s nds (.node c) i j := by
  constructor
  · intro h
    cases h with
    | byte _ nd' _ e' k' a b => cases e.symm.trans e'; omega
    | grp _ nd' _ _ _ e' k' => cases e.symm.trans e'; omega
    | alt _ nd' c _ _ e' k' hc h' => cases e.symm.trans e'; exact ⟨c, hc, h'⟩
    | way _ nd' _ _ e' k' => cases e.symm.trans e'; omega
    | rep _ nd' _ _ _ _ e' k' => cases e.symm.trans e'; omega
  · rintro ⟨c, hc, h⟩
    exact .alt k nd c i j e hk hc h
theorem MN.way_iff {s : ByteArray} {nds : List Nd} {k : Nat} {nd : Nd} (e : nds[k]? = some nd) (hk : nd.kind = 119) {i j : Nat} : MN s nds (.node k) i j ↔ MN s nds (.row nd.kids) i j := by
  constructor
  · intro h
    cases h with
    | byte _ nd' _ e' k' a b => cases e.symm.trans e'; omega
    | grp _ nd' _ _ _ e' k' => cases e.symm.trans e'; omega
    | alt _ nd' _ _ _ e' k' => cases e.symm.trans e'; omega
    | way _ nd' _ _ e' k' h' => cases e.symm.trans e'; exact h'
    | rep _ nd' _ _ _ _ e' k' => cases e.symm.trans e'; omega
  · exact .way k nd i j e hk
theorem MN.rep_iff {s : ByteArray} {nds : List Nd} {k c : Nat} {nd : Nd} (e : nds[k]? = some nd) (hk : nd.kind = 114) (hc : nd.kids = [c]) {i j : Nat} : MN s nds (.node k) i j ↔ ∃ n, nd.mn ≤ n ∧ (nd.mx < 0 ∨ (n : Int) ≤ nd.mx) ∧ MN s nds (.it c n) i j := by
  constructor
  · intro h
    cases h with
    | byte _ nd' _ e' k' a b => cases e.symm.trans e'; omega
    | grp _ nd' _ _ _ e' k' => cases e.symm.trans e'; omega
    | alt _ nd' _ _ _ e' k' => cases e.symm.trans e'; omega
    | way _ nd' _ _ e' k' => cases e.symm.trans e'; omega
    | rep _ nd' c' n _ _ e' k' hc' a b h' => cases e.symm.trans e'; rw [hc] at hc'; cases hc'; exact ⟨n, a, b, h'⟩
  · rintro ⟨n, a, b, h⟩
    exact .rep k nd c n i j e hk hc a b h
theorem ListN.way_iff {s : ByteArray} {nds : List Nd} {l : List Nat} {c : Nat} (h : ListN nds 119 l c) {i j : Nat} : MN s nds (.row l) i j ↔ MN s nds (.node c) i j := by
  rcases h with rfl | ⟨_, nd, e, hk, rfl⟩
  · exact MN.row_one
  · exact (MN.way_iff e hk).symm
theorem ListN.alt_iff {s : ByteArray} {nds : List Nd} {l : List Nat} {c : Nat} (h : ListN nds 111 l c) {i j : Nat} : (∃ d, d ∈ l ∧ MN s nds (.node d) i j) ↔ MN s nds (.node c) i j := by
  rcases h with rfl | ⟨_, nd, e, hk, rfl⟩
  · simp
  · exact (MN.alt_iff e hk).symm
theorem at'_nat {s : ByteArray} {i : Nat} (h : i < s.size) : (at' s i).toNat < 256 := by
  have h1 := (at'_bd s i).2
  have h2 := at'_lt h
  omega
theorem rep_Mt {s : ByteArray} {nds : List Nd} : ∀ {x : Pat} {kd : Kd}, shp x kd → ∀ {l : List Nat}, rep nds x l → ∀ {i j : Nat}, Mt s x i j ↔ ML s nds kd l i j := by
  intro x
  induction x with
  | set f =>
    intro kd hs l h i j
    obtain ⟨k, nd, rfl, e, hk, _, hf⟩ := h
    have : Mt s (.set f) i j ↔ MN s nds (.row [k]) i j := by
      rw [MN.row_one, MN.byte_iff e hk]
      show i < s.size ∧ f (at' s i).toNat = true ∧ j = i + 1 ↔ _
      constructor
      · rintro ⟨a, b, c⟩; exact ⟨a, by rw [hf _ (at'_nat a)]; exact b, c⟩
      · rintro ⟨a, b, c⟩; exact ⟨a, by rw [← hf _ (at'_nat a)]; exact b, c⟩
    cases kd with
    | ways => exact hs.elim
    | way => exact hs.elim
    | piece => exact this
    | single => exact this
  | grp m x ih =>
    intro kd hs l h i j
    obtain ⟨k, nd, c, lw, rfl, e, hk, _, hc, hr, hl⟩ := h
    have : shp x .ways → (Mt s (.grp m x) i j ↔ MN s nds (.row [k]) i j) := fun hw => by
      rw [MN.row_one, MN.grp_iff e hk hc, ← hl.alt_iff]
      exact ih hw hr
    cases kd with
    | ways => exact hs.elim
    | way => exact hs.elim
    | piece => exact this hs
    | single => exact this hs
  | rep mn mx x ih =>
    intro kd hs l h i j
    obtain ⟨k, nd, c, rfl, e, hk, rfl, rfl, hc, hr⟩ := h
    have : shp x .single → (Mt s (.rep nd.mn nd.mx x) i j ↔ MN s nds (.row [k]) i j) := fun hw => by
      rw [MN.row_one, MN.rep_iff e hk hc]
      have h1 : ∀ i j, Mt s x i j ↔ MN s nds (.node c) i j := fun i j => by rw [← MN.row_one]; exact ih hw hr
      constructor
      · rintro ⟨n, a, b, h⟩; exact ⟨n, a, b, (MN.it_iff h1 n i j).1 h⟩
      · rintro ⟨n, a, b, h⟩; exact ⟨n, a, b, (MN.it_iff h1 n i j).2 h⟩
    cases kd with
    | ways => exact hs.elim
    | way => exact hs.elim
    | piece => exact this hs.2.2.2
    | single => exact hs.elim
  | pnil =>
    intro kd hs l h i j
    cases h
    cases kd with
    | way => exact MN.row_nil.symm
    | ways => exact hs.elim
    | piece => exact hs.elim
    | single => exact hs.elim
  | pcons x r ih1 ih2 =>
    intro kd hs l h i j
    obtain ⟨k, l', rfl, h1, h2⟩ := h
    cases kd with
    | way =>
      show (∃ m, Mt s x i m ∧ Mt s r m j) ↔ MN s nds (.row (k :: l')) i j
      rw [MN.row_cons]
      constructor
      · rintro ⟨m, a, b⟩; exact ⟨m, MN.row_one.1 ((ih1 hs.1 h1).1 a), (ih2 hs.2 h2).1 b⟩
      · rintro ⟨m, a, b⟩; exact ⟨m, (ih1 hs.1 h1).2 (MN.row_one.2 a), (ih2 hs.2 h2).2 b⟩
    | ways => exact hs.elim
    | piece => exact hs.elim
    | single => exact hs.elim
  | wone x ih =>
    intro kd hs l h i j
    obtain ⟨c, lp, rfl, hr, hl⟩ := h
    cases kd with
    | ways =>
      show Mt s x i j ↔ ∃ d, d ∈ [c] ∧ MN s nds (.node d) i j
      rw [show Mt s x i j ↔ MN s nds (.row lp) i j from ih hs hr, hl.way_iff]
      simp
    | way => exact hs.elim
    | piece => exact hs.elim
    | single => exact hs.elim
  | wcons x r ih1 ih2 =>
    intro kd hs l h i j
    obtain ⟨c, lp, l', rfl, ⟨hr, hl⟩, h2⟩ := h
    cases kd with
    | ways =>
      show (Mt s x i j ∨ Mt s r i j) ↔ ∃ d, d ∈ c :: l' ∧ MN s nds (.node d) i j
      rw [show Mt s x i j ↔ MN s nds (.row lp) i j from ih1 hs.1 hr, hl.way_iff, show Mt s r i j ↔ ∃ d, d ∈ l' ∧ MN s nds (.node d) i j from ih2 hs.2 h2]
      constructor
      · rintro (h | ⟨d, a, b⟩)
        · exact ⟨c, by simp, h⟩
        · exact ⟨d, by simp [a], b⟩
      · rintro ⟨d, a, b⟩
        rcases List.mem_cons.1 a with rfl | a
        · exact Or.inl b
        · exact Or.inr ⟨d, a, b⟩
    | way => exact hs.elim
    | piece => exact hs.elim
    | single => exact hs.elim
end Go.Proofs.YtnfojonmohijpaaGreatDoor
namespace Go.Proofs.YtnfojonmohijpaaGreatDoor
def Pat.fair (g : Nat) : Pat → Prop
  | .set _ => True
  | .grp k x => 0 < k ∧ k ≤ g ∧ x.fair g
  | .rep mn mx x => (mx < 0 ∨ (mn : Int) ≤ mx) ∧ x.fair g
  | .pnil => True
  | .pcons x r => x.fair g ∧ r.fair g
  | .wone x => x.fair g
  | .wcons x r => x.fair g ∧ r.fair g
theorem Pat.fair.up {g h : Nat} (hg : g ≤ h) : ∀ {x : Pat}, x.fair g → x.fair h
  | .set _, _ => trivial
  | .grp _ x, hx => ⟨hx.1, Nat.le_trans hx.2.1 hg, Pat.fair.up hg (x := x) hx.2.2⟩
  | .rep _ _ x, hx => ⟨hx.1, Pat.fair.up hg (x := x) hx.2⟩
  | .pnil, _ => trivial
  | .pcons x r, hx => ⟨Pat.fair.up hg (x := x) hx.1, Pat.fair.up hg (x := r) hx.2⟩
  | .wone x, hx => Pat.fair.up hg (x := x) hx
  | .wcons x r, hx => ⟨Pat.fair.up hg (x := x) hx.1, Pat.fair.up hg (x := r) hx.2⟩
def Pat.wn : Pat → Nat
  | .wcons _ r => r.wn + 1
  | _ => 1
def Pat.thn : Pat → Prop
  | .set _ => True
  | .grp _ x => x.thn
  | .rep _ _ x => x.thn
  | .pnil => True
  | .pcons x r => x.thn ∧ r.thn
  | .wone x => x.thn
  | .wcons x r => r.wn ≤ 98 ∧ x.thn ∧ r.thn
def NK (nds : List Nd) (n k : Nat) : Prop := ∃ (kd : Kd) (x : Pat), repK nds kd x k ∧ shp x kd ∧ x.sz < n ∧ x.fair 9 ∧ x.thn
theorem NK.up {nds : List Nd} {n m k : Nat} (h : NK nds n k) (hm : n ≤ m) : NK nds m k := by
  obtain ⟨kd, x, a, b, c, d⟩ := h
  exact ⟨kd, x, a, b, by omega, d⟩
theorem way_len {nds : List Nd} : ∀ {x : Pat} {l : List Nat}, rep nds x l → shp x .way → l.length ≤ x.sz
  | .pnil, l, h, _ => by cases h; simp
  | .pcons x r, l, h, hs => by
    obtain ⟨k, l', rfl, h1, h2⟩ := h
    have := way_len h2 hs.2
    simp only [Pat.sz, List.length_cons]
    omega
  | .set _, _, _, hs => hs.elim
  | .grp _ _, _, _, hs => hs.elim
  | .rep _ _ _, _, _, hs => hs.elim
  | .wone _, _, _, hs => hs.elim
  | .wcons _ _, _, _, hs => hs.elim
theorem ways_len {nds : List Nd} : ∀ {x : Pat} {l : List Nat}, rep nds x l → shp x .ways → l.length ≤ x.sz ∧ l.length = x.wn
  | .wone x, l, h, hs => by
    obtain ⟨c', lp, rfl, hr, hl⟩ := h
    refine ⟨?_, rfl⟩
    simp only [Pat.sz, List.length_cons, List.length_nil]
    omega
  | .wcons x r, l, h, hs => by
    obtain ⟨c', lp, l', rfl, ⟨hr, hl⟩, h2⟩ := h
    have h3 := ways_len h2 hs.2
    have h4 : (Pat.wcons x r).wn = r.wn + 1 := rfl
    rw [h4]
    simp only [Pat.sz, List.length_cons]
    omega
  | .pnil, _, _, hs => hs.elim
  | .pcons _ _, _, _, hs => hs.elim
  | .set _, _, _, hs => hs.elim
  | .grp _ _, _, _, hs => hs.elim
  | .rep _ _ _, _, _, hs => hs.elim
def Sub (nds : List Nd) (n : Nat) (nd : Nd) : Prop :=
  (nd.kind = 98 ∧ nd.kids = []) ∨ (nd.kind = 103 ∧ ∃ c, nd.kids = [c] ∧ NK nds n c) ∨ (nd.kind = 114 ∧ nd.mn ≤ 5 ∧ -1 ≤ nd.mx ∧ (nd.mx ≤ 5 ∧ (nd.mx < 0 ∨ (nd.mn : Int) ≤ nd.mx)) ∧ ∃ c, nd.kids = [c] ∧ NK nds n c) ∨
  ((nd.kind = 119 ∨ (nd.kind = 111 ∧ nd.kids.length ≤ 99)) ∧ nd.kids.length ≤ n ∧ ∀ c, c ∈ nd.kids → NK nds n c)
theorem Sub.up {nds : List Nd} {n m : Nat} {nd : Nd} (h : Sub nds n nd) (hm : n ≤ m) : Sub nds m nd := by
  rcases h with h | ⟨a, c, b, d⟩ | ⟨a, e1, e2, e3, c, b, d⟩ | ⟨a, l, b⟩
  · exact Or.inl h
  · exact Or.inr (Or.inl ⟨a, c, b, d.up hm⟩)
  · exact Or.inr (Or.inr (Or.inl ⟨a, e1, e2, e3, c, b, d.up hm⟩))
  · exact Or.inr (Or.inr (Or.inr ⟨a, Nat.le_trans l hm, fun c hc => (b c hc).up hm⟩))
theorem kids_way {nds : List Nd} : ∀ {x : Pat} {l : List Nat}, rep nds x l → shp x .way → x.fair 9 → x.thn → ∀ c, c ∈ l → NK nds x.sz c
  | .pnil, l, h, _, _, _, c, hc => by cases h; cases hc
  | .pcons x r, l, h, hs, hf, ht, c, hc => by
    obtain ⟨k, l', rfl, h1, h2⟩ := h
    rcases List.mem_cons.1 hc with rfl | hc
    · exact ⟨.piece, x, h1, hs.1, by simp only [Pat.sz]; omega, hf.1, ht.1⟩
    · exact (kids_way h2 hs.2 hf.2 ht.2 c hc).up (by simp only [Pat.sz]; omega)
  | .set _, _, _, hs, _, _, _, _ => hs.elim
  | .grp _ _, _, _, hs, _, _, _, _ => hs.elim
  | .rep _ _ _, _, _, hs, _, _, _, _ => hs.elim
  | .wone _, _, _, hs, _, _, _, _ => hs.elim
  | .wcons _ _, _, _, hs, _, _, _, _ => hs.elim
theorem kids_ways {nds : List Nd} : ∀ {x : Pat} {l : List Nat}, rep nds x l → shp x .ways → x.fair 9 → x.thn → ∀ c, c ∈ l → NK nds x.sz c
  | .wone x, l, h, hs, hf, ht, c, hc => by
    obtain ⟨c', lp, rfl, hr, hl⟩ := h
    simp only [List.mem_singleton] at hc
    subst hc
    exact ⟨.way, x, ⟨lp, hr, hl⟩, hs, by simp only [Pat.sz]; omega, hf, ht⟩
  | .wcons x r, l, h, hs, hf, ht, c, hc => by
    obtain ⟨c', lp, l', rfl, ⟨hr, hl⟩, h2⟩ := h
    rcases List.mem_cons.1 hc with rfl | hc
    · exact ⟨.way, x, ⟨lp, hr, hl⟩, hs.1, by simp only [Pat.sz]; omega, hf.1, ht.2.1⟩
    · exact (kids_ways h2 hs.2 hf.2 ht.2.2 c hc).up (by simp only [Pat.sz]; omega)
  | .pnil, _, _, hs, _, _, _, _ => hs.elim
  | .pcons _ _, _, _, hs, _, _, _, _ => hs.elim
  | .set _, _, _, hs, _, _, _, _ => hs.elim
  | .grp _ _, _, _, hs, _, _, _, _ => hs.elim
  | .rep _ _ _, _, _, hs, _, _, _, _ => hs.elim
theorem NK.cases {nds : List Nd} : ∀ (n : Nat) {kd : Kd} {x : Pat} {k : Nat}, repK nds kd x k → shp x kd → x.sz ≤ n → x.fair 9 → x.thn → ∃ nd, nds[k]? = some nd ∧ Sub nds x.sz nd := by
  intro n
  induction n with
  | zero => intro kd x k _ _ hn _ _; exact absurd hn (by cases x <;> simp [Pat.sz])
  | succ n ih =>
    intro kd x k h hs hn hf ht
    have hone : (kd = .piece ∨ kd = .single) → rep nds x [k] → ∃ nd, nds[k]? = some nd ∧ Sub nds x.sz nd := by
      intro hkd hr
      cases x with
      | set f =>
        obtain ⟨k', nd, hk', e, hk, h0, _⟩ := hr
        simp only [List.cons.injEq, and_true] at hk'
        subst hk'
        exact ⟨nd, e, Or.inl ⟨hk, h0⟩⟩
      | grp m y =>
        obtain ⟨k', nd, c, lw, hk', e, hk, _, hc, hr, hl⟩ := hr
        simp only [List.cons.injEq, and_true] at hk'
        subst hk'
        have hy : shp y .ways := by rcases hkd with rfl | rfl <;> exact hs
        exact ⟨nd, e, Or.inr (Or.inl ⟨hk, c, hc, .ways, y, ⟨lw, hr, hl⟩, hy, by simp only [Pat.sz]; omega, hf.2.2, ht⟩)⟩
      | rep mn mx y =>
        obtain ⟨k', nd, c, hk', e, hk, rfl, rfl, hc, hr⟩ := hr
        simp only [List.cons.injEq, and_true] at hk'
        subst hk'
        rcases hkd with rfl | rfl
        · exact ⟨nd, e, Or.inr (Or.inr (Or.inl ⟨hk, hs.1, hs.2.1, ⟨hs.2.2.1, hf.1⟩, c, hc, .single, y, hr, hs.2.2.2, by simp only [Pat.sz]; omega, hf.2, ht⟩))⟩
        · exact hs.elim
      | pnil => rcases hkd with rfl | rfl <;> exact hs.elim
      | pcons _ _ => rcases hkd with rfl | rfl <;> exact hs.elim
      | wone _ => rcases hkd with rfl | rfl <;> exact hs.elim
      | wcons _ _ => rcases hkd with rfl | rfl <;> exact hs.elim
    cases kd with
    | single => exact hone (Or.inr rfl) h
    | piece => exact hone (Or.inl rfl) h
    | way =>
      obtain ⟨lp, hr, hl⟩ := h
      rcases hl with rfl | ⟨_, nd, e, hk, rfl⟩
      · cases x with
        | pcons y r =>
          obtain ⟨k', l', e, h1, h2⟩ := hr
          simp only [List.cons.injEq] at e
          obtain ⟨rfl, rfl⟩ := e
          have hy : y.sz ≤ n := by simp only [Pat.sz] at hn; omega
          obtain ⟨nd, a, b⟩ := ih (kd := .piece) h1 hs.1 hy hf.1 ht.1
          exact ⟨nd, a, b.up (by simp only [Pat.sz]; omega)⟩
        | pnil => cases hr
        | _ => exact hs.elim
      · exact ⟨nd, e, Or.inr (Or.inr (Or.inr ⟨Or.inl hk, way_len hr hs, kids_way hr hs hf ht⟩))⟩
    | ways =>
      obtain ⟨lw, hr, hl⟩ := h
      rcases hl with rfl | ⟨_, nd, e, hk, rfl⟩
      · cases x with
        | wone y =>
          obtain ⟨c, lp, e, h1, h2⟩ := hr
          simp only [List.cons.injEq, and_true] at e
          subst e
          have hy : y.sz ≤ n := by simp only [Pat.sz] at hn; omega
          obtain ⟨nd, a, b⟩ := ih (kd := .way) ⟨lp, h1, h2⟩ hs hy hf ht
          exact ⟨nd, a, b.up (by simp only [Pat.sz]; omega)⟩
        | wcons y r =>
          obtain ⟨c, lp, l', e, ⟨h1, h2⟩, h3⟩ := hr
          simp only [List.cons.injEq] at e
          obtain ⟨rfl, rfl⟩ := e
          cases r with
          | wone z => obtain ⟨_, _, e, _⟩ := h3; cases e
          | wcons z q => obtain ⟨_, _, _, e, _⟩ := h3; cases e
          | _ => exact hs.2.elim
        | _ => exact hs.elim
      · obtain ⟨l1, l2⟩ := ways_len hr hs
        have h99 : x.wn ≤ 99 := by
          cases x with
          | wcons y r => have h1 := ht.1; have h4 : (Pat.wcons y r).wn = r.wn + 1 := rfl; omega
          | wone y => exact (by decide : 1 ≤ 99)
          | _ => exact hs.elim
        exact ⟨nd, e, Or.inr (Or.inr (Or.inr ⟨Or.inr ⟨hk, by omega⟩, l1, kids_ways hr hs hf ht⟩))⟩
end Go.Proofs.YtnfojonmohijpaaGreatDoor
