/-
  DERIVED. Contracts of strings.Builder inside the tree's writer: WriteString, String, Len. Conditions: the builder is the call's own.
-/
import Derived.Test.YtnfojonmohijpaaGreatDoorJOF
import Derived.Test.YtnfojonmohijpaaGreatDoorJSG
import Derived.Test.YtnfojonmohijpaaGreatDoorJOI0
import Derived.Test.YtnfojonmohijpaaGreatDoorJPW
import Derived.Test.YtnfojonmohijpaaGreatDoorJSpec
set_option linter.unusedSimpArgs false
set_option linter.unusedVariables false
namespace Go.Proofs.YtnfojonmohijpaaGreatDoor
open Go.RowKit
theorem ownsRow_sl' {w : World} {B : Nat} {e : TypeId} {size : Nat} {v : Value} {n : Nat} {xs : List Value} (h : w.ownsRow B e size v n xs) : IsSl v := by
  rcases h.2 with ⟨rfl, _⟩ | ⟨g, cap, cur, rfl, _⟩ <;> exact ⟨_, _, _, rfl⟩
theorem ownsRow_len' {w : World} {B : Nat} {e : TypeId} {size n : Nat} {va : Option Addr} {vn vc : Nat} {cs : List Value} (h : w.ownsRow B e size (.slice va vn vc) n cs) : vn = n := by
  rcases h.2 with ⟨e, e2⟩ | ⟨g, cap, cur, e, _⟩
  · cases e; exact e2.symm
  · cases e; rfl
def BW (w : World) (B b : Nat) (l : List UInt8) : Prop :=
  B ≤ b ∧ ∃ p v, (p = .pointer none ∨ p = .pointer (some ⟨b, 0, none⟩)) ∧ w.heap[b]? = some (.cells #[p, v] 226 (0, 0)) ∧ w.ownsRow B 5 1 v l.length (Lib.byteCells l) ∧ v.ownBlock ≠ some b ∧ (l = [] → v = .slice none 0 0)
theorem BW.keep {w w' : World} {B b : Nat} {l : List UInt8} (h : BW w B b l) (hk : Keeps [] w w') : BW w' B b l := by
  obtain ⟨hB, p, v, hp, hb, ho, hn, h0⟩ := h
  exact ⟨hB, p, v, hp, (hk.block b (Array.getElem?_eq_some_iff.1 hb).1 (by simp)).trans hb, ho.keep hk (by simp), hn, h0⟩
theorem liesWr : liesAt Tryz.prog Tryz.prog.depth 226 (2 / Tryz.prog.cellsOf 226) 0 133 1 = true := by kernel_rfl
set_option maxHeartbeats 1000000 in
set_option maxRecDepth 100000 in
theorem wcopyCheck_used (b : Nat) (w : World) (h0 : w.cell? ⟨b, 0, none⟩ = some (.pointer (some ⟨b, 0, none⟩))) :
    Calls Tryz.prog 119 #[.pointer (some ⟨b, 0, none⟩)] w fun e w' => e = .returned (.tuple #[]) ∧ w' = w := by
  obtain ⟨j, hj, _⟩ := Option.map_eq_some_iff.1 sizeBld
  have hne := Lib.run_neq_ptr_same (P := Tryz.prog) w ⟨b, 0, none⟩ undPB hj
  go_enter Tryz.func119, Tryz.ntmps119
  go_wp2_with fail
  go_end0
  exact ⟨rfl, rfl⟩
set_option maxHeartbeats 1000000 in
set_option maxRecDepth 100000 in
theorem wcopyCheck_fresh (b : Nat) (w : World) (h0 : w.cell? ⟨b, 0, none⟩ = some (.pointer none)) (hsh : w.shape? b = some (226, 2)) (hfz : w.frozen? ⟨b, 0, none⟩ = false) :
    Calls Tryz.prog 119 #[.pointer (some ⟨b, 0, none⟩)] w fun e w' => e = .returned (.tuple #[]) ∧ w' = w.setCell ⟨b, 0, none⟩ (.pointer (some ⟨b, 0, none⟩)) := by
  obtain ⟨j, hj, hjs⟩ := Option.map_eq_some_iff.1 sizeBld
  have e1 := Lib.run_to_unsafe (P := Tryz.prog) w ⟨b, 0, none⟩ undPB undUP hj (by rw [hjs]; decide) hsh (Nat.zero_lt_succ 1)
  have e2 : (callFunc 169 #[.pointer (some ⟨b, 0, none⟩)]).run Tryz.prog w = .ok (.value (.pointer (some ⟨b, 0, none⟩))) w := by
    rw [run_callFunc_extern Tryz.func169 (by kernel_rfl) (by kernel_rfl) (by kernel_rfl) (e := Extern.AbiNoEscape.same) (by kernel_rfl), Lib.run_noEscape]
    rfl
  have e3 := Lib.run_from_unsafe (P := Tryz.prog) w ⟨b, 0, none⟩ undUP undPB hj hsh liesWr
  go_enter Tryz.func119, Tryz.ntmps119
  go_wp2_with fail
  go_end0
  exact ⟨rfl, rfl⟩
theorem wcopyCheck_any (B b : Nat) (l : List UInt8) (w : World) (h : BW w B b l) :
    Calls Tryz.prog 119 #[.pointer (some ⟨b, 0, none⟩)] w fun e w' => e = .returned (.tuple #[]) ∧ Below B w w' ∧ Lib.OthersKept 5 (some b) w w' ∧ ∃ v, w'.heap[b]? = some (.cells #[.pointer (some ⟨b, 0, none⟩), v] 226 (0, 0)) ∧ w'.ownsRow B 5 1 v l.length (Lib.byteCells l) ∧ v.ownBlock ≠ some b ∧ (l = [] → v = .slice none 0 0) := by
  obtain ⟨hB, p, v, hp, hb, ho, hn, h0⟩ := h
  rcases hp with rfl | rfl
  · have hc : Lib.BuilderAt 226 5 B b (.pointer none) (Lib.byteCells l) w := ⟨hB, v, hb, by rw [Lib.byteCells_length]; exact ho, hn⟩
    refine (wcopyCheck_fresh b w hc.cell0 hc.shape hc.frozen0).mono ?_
    rintro e w' ⟨rfl, rfl⟩
    refine ⟨rfl, (Below.refl B w).setCell (p := ⟨b, 0, none⟩) hB _, (Lib.OthersKept.refl _ _ w).setCell ⟨b, 0, none⟩ rfl _, v, ?_, ho.setOther (a := ⟨b, 0, none⟩) hn _, hn, h0⟩
    simp [World.setCell, Array.getElem?_modify, hb]
  · refine (wcopyCheck_used b w (by rw [Lib.cell_of_heap hb]; rfl)).mono ?_
    rintro e w' ⟨rfl, rfl⟩
    exact ⟨rfl, Below.refl B _, Lib.OthersKept.refl _ _ _, v, hb, ho, hn, h0⟩
theorem BW.put {w : World} {B b : Nat} {p v v' : Value} {l : List UInt8} (hB : B ≤ b) (hp : p = .pointer none ∨ p = .pointer (some ⟨b, 0, none⟩)) (hb : w.heap[b]? = some (.cells #[p, v] 226 (0, 0))) (ho : w.ownsRow B 5 1 v' l.length (Lib.byteCells l)) (h0 : l = [] → v' = .slice none 0 0) : BW (w.setCell ⟨b, 1, none⟩ v') B b l := by
  have hne := Lib.ownBlock_ne ho hb (by decide)
  refine ⟨hB, p, v', hp, ?_, ho.setOther (a := ⟨b, 1, none⟩) hne _, hne, h0⟩
  simp [World.setCell, Array.getElem?_modify, hb]
set_option maxHeartbeats 2000000 in
set_option maxRecDepth 100000 in
theorem wwriteString_any (B b : Nat) (l m : List UInt8) (w : World) (h : BW w B b l) (hlen : l.length ≤ 1000000000) (hlm' : m.length ≤ 1000000000) (hBw : B ≤ w.heap.size) :
    Calls Tryz.prog 104 #[.pointer (some ⟨b, 0, none⟩), .string (nmB m)] w fun e w' => (∃ v, e = .returned v) ∧ BW w' B b (l ++ m) ∧ Below B w w' ∧ Lib.OthersKept 5 (some b) w w' := by
  obtain ⟨i0, hi0, hz0, hz1, hz2⟩ := info_parts Tryz.infoByte
  have hB := h.1
  have hms : (nmB m).size = m.length := nmB_size m
  go_enter Tryz.func104, Tryz.ntmps104
  go_wp2_with fail
  refine (wcopyCheck_any B b l _ h).mono ?_
  rintro e w1 ⟨rfl, hb1, hk1, v, hbk, hown, hne, h0⟩
  have c0 : w1.cell? ⟨b, 0, none⟩ = some (.pointer (some ⟨b, 0, none⟩)) := by rw [Lib.cell_of_heap hbk]; rfl
  have c1 : w1.cell? ⟨b, 1, none⟩ = some v := by rw [Lib.cell_of_heap hbk]; rfl
  have hlt : b < w1.heap.size := (Array.getElem?_eq_some_iff.1 hbk).1
  have hsz := hb1.size
  have hun := Tryz.underlying64
  have hus := Tryz.underlying9
  have hlm : l.length + (nmB m).size ≤ maxLen := by unfold maxLen; omega
  have hlb : l.length + (nmB m).size ≤ 140737488355328 := by omega
  clear hms
  go_wp2_with (at_builtin; refine Lib.wpList_append_own_string _ rfl _ _ 64 9 rfl B 5 i0 hun hus hi0 hz0 hz1 hz2 _ _ _ rfl hown (nmB m) rfl ?c3 ?c4 ?c5 ?_)
  case c3 => exact hlm
  case c4 => exact hlb
  case c5 => omega
  intro v' w4 hown4 hgrow hnil
  have hb4 : w4.heap[b]? = some (.cells #[.pointer (some ⟨b, 0, none⟩), v] 226 (0, 0)) := by
    rw [hgrow.block b hlt (fun e => hne e.symm)]
    exact hbk
  have d0 : w4.cell? ⟨b, 0, none⟩ = some (.pointer (some ⟨b, 0, none⟩)) := by rw [Lib.cell_of_heap hb4]; rfl
  have d1 : w4.cell? ⟨b, 1, none⟩ = some v := by rw [Lib.cell_of_heap hb4]; rfl
  have f1 : w4.frozen? ⟨b, 1, none⟩ = false := Lib.frozen_of_heap hb4 1
  obtain ⟨va, vn, vc, rfl⟩ : ∃ a n c, v' = .slice a n c := by
    rcases hown4.2 with ⟨hv, _⟩ | ⟨g, cap, cur, hv, _⟩
    · exact ⟨_, _, _, hv⟩
    · exact ⟨_, _, _, hv⟩
  go_wp2_with fail
  go_ret2
  refine ⟨⟨_, rfl⟩, BW.put hB (Or.inr rfl) hb4 (by rw [byteCells_app, List.length_append, ← strCells_nmB m]; simpa [nmB_size] using hown4) ?_, ?_, (hk1.grown hgrow (Lib.ownsRowF_kind (World.ownsRowF_of hown))).setCell ⟨b, 1, none⟩ rfl _⟩
  · intro hn
    have h1 := List.append_eq_nil_iff.1 hn
    exact hnil.2 ⟨h0 h1.1, by rw [h1.2]; rfl⟩
  · exact (hb1.grown hgrow (by omega) (fun k hk => (hown.lt k hk).1)).setCell (p := ⟨b, 1, none⟩) hB _
set_option maxHeartbeats 2000000 in
set_option maxRecDepth 100000 in
theorem wstring_nil (B b : Nat) (p : Value) (w : World) (hbk : w.heap[b]? = some (.cells #[p, .slice none 0 0] 226 (0, 0))) :
    Calls Tryz.prog 70 #[.pointer (some ⟨b, 0, none⟩)] w fun e w' => e = .returned (.string (nmB [])) ∧ Below B w w' := by
  have hUS : ∀ (W : World) (q : Option Addr), (Builtin.unsafeString_ #[215, 3] 9 #[.pointer q, .int .i64 0]).run Tryz.prog W = .ok (.string .empty) W := fun W q => Lib.run_unsafeString_none W _ _ _ q
  have c1 : w.drew.cell? ⟨b, 1, none⟩ = some (.slice none 0 0) := by
    have : w.drew.heap[b]? = some (.cells #[p, .slice none 0 0] 226 (0, 0)) := hbk
    rw [Lib.cell_of_heap this]; rfl
  have hSD : (Builtin.unsafeSliceData_ #[64] 215 #[.slice none 0 0]).run Tryz.prog w.drew = .ok (.pointer none) w.drew := rfl
  go_enter Tryz.func70, Tryz.ntmps70
  go_wp2_with fail
  go_region
  all_goals (go_wp2_with fail; go_ret; exact ⟨rfl, Below.drew (Below.refl B w)⟩)
set_option maxHeartbeats 2000000 in
set_option maxRecDepth 100000 in
theorem wstring_some (B b : Nat) (l : List UInt8) (w : World) (h : BW w B b l) (h0 : l ≠ []) :
    Calls Tryz.prog 70 #[.pointer (some ⟨b, 0, none⟩)] w fun e w' => e = .returned (.string (nmB l)) ∧ Below B w w' := by
  obtain ⟨hB, p, v, hp, hbk, hown, hne, _⟩ := h
  have hl0 : l.length ≠ 0 := by simpa using h0
  obtain ⟨g, cap, cur, rfl, hbg, hg, hnc, hcm, hcs, htake⟩ : ∃ g cap cur, v = .slice (some ⟨g, 0, none⟩) l.length cap ∧ B ≤ g ∧ w.heap[g]? = some (.cells cur 5 (0, 0)) ∧ l.length ≤ cap ∧ cap ≤ maxLen ∧ cur.size = cap * 1 ∧ cur.toList.take (l.length * 1) = Lib.byteCells l := by
    rcases hown.2 with ⟨_, hz⟩ | ⟨g, cap, cur, hv, r⟩
    · exact absurd hz hl0
    · exact ⟨g, cap, cur, hv, r⟩
  have c1 : w.drew.cell? ⟨b, 1, none⟩ = some (.slice (some ⟨g, 0, none⟩) l.length cap) := by
    have : w.drew.heap[b]? = some (.cells #[p, .slice (some ⟨g, 0, none⟩) l.length cap] 226 (0, 0)) := hbk
    rw [Lib.cell_of_heap this]; rfl
  have hSD : (Builtin.unsafeSliceData_ #[64] 215 #[.slice (some ⟨g, 0, none⟩) l.length cap]).run Tryz.prog w.drew = .ok (.pointer (some ⟨g, 0, none⟩)) w.drew :=
    Lib.run_unsafeSliceData_row _ _ _ _ _ _ (by omega)
  have hUS : (Builtin.unsafeString_ #[215, 3] 9 #[.pointer (some ⟨g, 0, none⟩), .int .i64 l.length]).run Tryz.prog w.drew = .ok (.string (nmB l)) (w.drew.freeze ⟨g, 0, none⟩ l.length) := by
    refine Lib.run_unsafeString_row w.drew 215 3 9 5 Tryz.underlying215 (by kernel_rfl) g cur.size (by have hg' : w.drew.heap[g]? = some (.cells cur 5 (0, 0)) := hg; simp [World.shape?, hg']) l h0 (by omega) (by unfold maxLen at hcm; omega) ?_
    intro j x hx
    have := hown.cells (g := g) rfl j (.int .u8 x.toNat) (by simp [Lib.byteCells, hx])
    exact this
  go_enter Tryz.func70, Tryz.ntmps70
  go_wp2_with fail
  go_region
  all_goals (go_wp2_with fail; go_ret; exact ⟨rfl, Lib.below_freeze (Below.drew (Below.refl B w)) (p := ⟨g, 0, none⟩) hbg _⟩)
theorem wstring_any (B b : Nat) (l : List UInt8) (w : World) (h : BW w B b l) :
    Calls Tryz.prog 70 #[.pointer (some ⟨b, 0, none⟩)] w fun e w' => e = .returned (.string (nmB l)) ∧ Below B w w' := by
  by_cases h0 : l = []
  · subst h0
    obtain ⟨hB, p, v, hp, hbk, hown, hne, hv⟩ := h
    rw [hv rfl] at hbk
    exact wstring_nil B b p w hbk
  · exact wstring_some B b l w h h0
set_option maxHeartbeats 1000000 in
set_option maxRecDepth 100000 in
theorem wlen_any (B b : Nat) (l : List UInt8) (w : World) (h : BW w B b l) :
    Calls Tryz.prog 214 #[.pointer (some ⟨b, 0, none⟩)] w fun e w' => e = .returned (.int .i64 l.length) ∧ w' = w := by
  obtain ⟨hB, p, v, hp, hb, ho, hn, h0⟩ := h
  obtain ⟨va, vn, vc, rfl⟩ := ownsRow_sl' ho
  have hvn : vn = l.length := ownsRow_len' ho
  subst hvn
  have c1 : w.cell? ⟨b, 1, none⟩ = some (.slice va l.length vc) := by rw [Lib.cell_of_heap hb]; rfl
  go_enter Tryz.func214, Tryz.ntmps214
  go_wp2_with fail
  go_ret
  exact ⟨rfl, rfl⟩
end Go.Proofs.YtnfojonmohijpaaGreatDoor
namespace Go.Proofs.YtnfojonmohijpaaGreatDoor
open Go.RowKit
theorem eq_nmB {b : ByteArray} {l : List UInt8} (h : b.data.toList = l) : b = nmB l := by
  subst h
  cases b
  simp [nmB]
def digsA : ByteArray := ⟨#[48, 49, 50, 51, 52, 53, 54, 55, 56, 57, 97, 98, 99, 100, 101, 102, 103, 104, 105, 106, 107, 108, 109, 110, 111, 112, 113, 114, 115, 116, 117, 118, 119, 120, 121, 122]⟩
def pairs : ByteArray := ⟨#[48, 48, 48, 49, 48, 50, 48, 51, 48, 52, 48, 53, 48, 54, 48, 55, 48, 56, 48, 57, 49, 48, 49, 49, 49, 50, 49, 51, 49, 52, 49, 53, 49, 54, 49, 55, 49, 56, 49, 57, 50, 48, 50, 49, 50, 50, 50, 51, 50, 52, 50, 53, 50, 54, 50, 55, 50, 56, 50, 57, 51, 48, 51, 49, 51, 50, 51, 51, 51, 52, 51, 53, 51, 54, 51, 55, 51, 56, 51, 57, 52, 48, 52, 49, 52, 50, 52, 51, 52, 52, 52, 53, 52, 54, 52, 55, 52, 56, 52, 57, 53, 48, 53, 49, 53, 50, 53, 51, 53, 52, 53, 53, 53, 54, 53, 55, 53, 56, 53, 57, 54, 48, 54, 49, 54, 50, 54, 51, 54, 52, 54, 53, 54, 54, 54, 55, 54, 56, 54, 57, 55, 48, 55, 49, 55, 50, 55, 51, 55, 52, 55, 53, 55, 54, 55, 55, 55, 56, 55, 57, 56, 48, 56, 49, 56, 50, 56, 51, 56, 52, 56, 53, 56, 54, 56, 55, 56, 56, 56, 57, 57, 48, 57, 49, 57, 50, 57, 51, 57, 52, 57, 53, 57, 54, 57, 55, 57, 56, 57, 57]⟩
theorem digs_at (n : Nat) (h : n < 10) : digsA.extract n (n + 1) = nmB (decT n) := by
  have := of_decide_eq_true (p := ∀ i : Fin 10, (digsA.extract i.val (i.val + 1)).data.toList = decT i.val) (by kernel_rfl) ⟨n, h⟩
  exact eq_nmB this
theorem pairs_at (n : Nat) (h : 10 ≤ n) (h2 : n < 100) : pairs.extract (n * 2) (n * 2 + 2) = nmB (decT n) := by
  have := of_decide_eq_true (p := ∀ i : Fin 90, (pairs.extract ((i.val + 10) * 2) ((i.val + 10) * 2 + 2)).data.toList = decT (i.val + 10)) (by kernel_rfl) ⟨n - 10, by omega⟩
  simp only [Nat.sub_add_cancel h] at this
  exact eq_nmB this
set_option maxRecDepth 100000 in
set_option maxHeartbeats 1000000 in
theorem small100 (n : Nat) (hn : n < 100) (w : World) : Calls Tryz.prog 240 #[.int .i64 (n : Int)] w fun e w' => e = .returned (.string (nmB (decT n))) ∧ Keeps [] w w' := by
  have hn0 : (0 : Int) ≤ (n : Int) := by omega
  by_cases h : n < 10
  · have hlt : (n : Int) < 10 := by omega
    obtain ⟨m, HM⟩ : ∃ m : Nat, Hid (m = n + 1) := ⟨_, rfl⟩
    have hw : IntKind.i64.wrap ((n : Int) + 1) = (m : Int) := by have := HM.out; rw [wrap_small (by omega) (by omega)]; omega
    have h1 : (n : Int) ≤ (m : Int) := by have := HM.out; omega
    have h2 : (m : Int) ≤ 36 := by have := HM.out; omega
    have h3 : (0 : Int) ≤ (m : Int) := by omega
    go_enter Tryz.func240, Tryz.ntmps240
    go_wp2_with fail
    go_ret
    exact ⟨by rw [HM.out]; exact congrArg (fun z => Ending.returned (Value.string z)) (digs_at n h), Keeps.refl [] w⟩
  · have hlt : ¬ (n : Int) < 10 := by omega
    obtain ⟨m, HM⟩ : ∃ m : Nat, Hid (m = n * 2) := ⟨_, rfl⟩
    obtain ⟨m2, HM2⟩ : ∃ m2 : Nat, Hid (m2 = m + 2) := ⟨_, rfl⟩
    have hw : IntKind.i64.wrap ((n : Int) * 2) = (m : Int) := by have := HM.out; rw [wrap_small (by omega) (by omega)]; omega
    have hw2 : IntKind.i64.wrap ((m : Int) + 2) = (m2 : Int) := by have := HM.out; have := HM2.out; rw [wrap_small (by omega) (by omega)]; omega
    have h1 : (m : Int) ≤ (m2 : Int) := by have := HM2.out; omega
    have h2 : (m2 : Int) ≤ 200 := by have := HM2.out; have := HM.out; omega
    have h3 : (0 : Int) ≤ (m : Int) := by omega
    have h4 : (0 : Int) ≤ (m2 : Int) := by omega
    go_enter Tryz.func240, Tryz.ntmps240
    go_wp2_with fail
    go_ret
    exact ⟨by rw [HM2.out, HM.out]; exact congrArg (fun z => Ending.returned (Value.string z)) (pairs_at n (by omega) hn), Keeps.refl [] w⟩
set_option maxRecDepth 100000 in
set_option maxHeartbeats 1000000 in
theorem fmt100 (n : Nat) (hn : n < 100) (w : World) : Calls Tryz.prog 201 #[.int .i64 (n : Int), .int .i64 10] w fun e w' => e = .returned (.string (nmB (decT n))) ∧ Keeps [] w w' := by
  have h0 : (0 : Int) ≤ (n : Int) := by omega
  have h1 : (n : Int) < 100 := by omega
  go_enter Tryz.func201, Tryz.ntmps201
  go_wp2_with (first | (go_at_call 240; refine (small100 n hn _).mono ?_; rintro e w1 ⟨rfl, hk1⟩))
  go_ret
  exact ⟨rfl, hk1⟩
set_option maxRecDepth 100000 in
set_option maxHeartbeats 1000000 in
theorem iitoa100 (n : Nat) (hn : n < 100) (w : World) : Calls Tryz.prog 161 #[.int .i64 (n : Int)] w fun e w' => e = .returned (.string (nmB (decT n))) ∧ Keeps [] w w' := by
  go_enter Tryz.func161, Tryz.ntmps161
  go_wp2_with (first | (go_at_call 201; refine (fmt100 n hn _).mono ?_; rintro e w1 ⟨rfl, hk1⟩))
  go_ret
  exact ⟨rfl, hk1⟩
set_option maxRecDepth 100000 in
set_option maxHeartbeats 1000000 in
theorem itoa100 (n : Nat) (hn : n < 100) (w : World) : Calls Tryz.prog 105 #[.int .i64 (n : Int)] w fun e w' => e = .returned (.string (nmB (decT n))) ∧ Keeps [] w w' := by
  go_enter Tryz.func105, Tryz.ntmps105
  go_wp2_with (first | (go_at_call 161; refine (iitoa100 n hn _).mono ?_; rintro e w1 ⟨rfl, hk1⟩))
  go_ret
  exact ⟨rfl, hk1⟩
end Go.Proofs.YtnfojonmohijpaaGreatDoor
namespace Go.Proofs.YtnfojonmohijpaaGreatDoor
open Go.RowKit
def tooLong : Ending := .panicked [{ v := .iface 144 (.agg #[]), recovered := false }]
structure WPut (B b : Nat) (l m : List UInt8) (w : World) (e : Ending) (w' : World) : Prop where
  fits : l.length + m.length ≤ 20000 → e = .returned (.tuple #[]) ∧ BW w' B b (l ++ m)
  long : 20000 < l.length + m.length → e = tooLong
  frame : WF B b w w'
theorem BW.lt {w : World} {B b : Nat} {l : List UInt8} (h : BW w B b l) : b < w.heap.size := by
  obtain ⟨_, p, v, _, hb, _⟩ := h
  exact (Array.getElem?_eq_some_iff.1 hb).1
set_option maxRecDepth 100000 in
set_option maxHeartbeats 1000000 in
theorem put_any (B b : Nat) (l m : List UInt8) (w : World) (h : BW w B b l) (hl : l.length ≤ 20000) (hm : m.length ≤ 1000000) (hBw : B ≤ w.heap.size) :
    Calls Tryz.prog 177 #[.pointer (some ⟨b, 0, none⟩), .string (nmB m)] w (WPut B b l m w) := by
  have hms : (nmB m).size = m.length := nmB_size m
  have hl' : (l.length : Int) ≤ 20000 := by omega
  have hm' : ((nmB m).size : Int) ≤ 1000000 := by omega
  by_cases hf : l.length + m.length ≤ 20000
  · have hg : ¬ (20000 : Int) < (l.length : Int) + ((nmB m).size : Int) := by omega
    have HF : Hid (l.length + m.length ≤ 20000) := hf
    clear hms hf
    go_enter Tryz.func177, Tryz.ntmps177
    go_wp2_with (first | (go_at_call 214; refine (wlen_any B b l _ h).mono ?_; rintro e w1 ⟨rfl, hw1⟩; rw [hw1]; clear hw1 w1) | (go_at_call 104; refine (wwriteString_any B b l m w h (by omega) (by omega) hBw).mono ?_; rintro e w2 ⟨⟨v, rfl⟩, hb2, hbel, hoth⟩))
    go_end0
    exact ⟨fun _ => ⟨rfl, hb2⟩, fun h => by have := HF.out; omega, ⟨hbel, hoth⟩⟩
  · have hg : (20000 : Int) < (l.length : Int) + ((nmB m).size : Int) := by omega
    have HF : Hid (20000 < l.length + m.length) := by show 20000 < l.length + m.length; omega
    clear hms hf
    go_enter Tryz.func177, Tryz.ntmps177
    go_wp2_with (first | (go_at_call 214; refine (wlen_any B b l _ h).mono ?_; rintro e w1 ⟨rfl, hw1⟩; rw [hw1]; clear hw1 w1))
    refine ⟨rfl, ⟨fun h => ?_, fun _ => rfl, WF.refl B b w⟩⟩
    have := HF.out
    omega
theorem TV.wf {w w' : World} {S : Nat → Prop} {b0 : Bool} {t : Tr} {cs : List Value} {B b : Nat} (h : TV w S b0 t cs) (hS : ∀ g, S g → g < B) (hf : WF B b w w') : TV w' S b0 t cs := h.keep (Keeps.ofBelow hf.below) fun g hg => upB_not (hS g hg)
theorem ownsRow_wf {w w' : World} {B b n : Nat} {e : TypeId} {size : Nat} {v : Value} {cs : List Value} (h : w.ownsRow 0 e size v n cs) (hS : ∀ g, v.ownBlock = some g → g < B) (hf : WF B b w w') : w'.ownsRow 0 e size v n cs := h.keep (Keeps.ofBelow hf.below) fun g hg => upB_not (hS g hg)
def TreeW (n : Nat) : Prop := ∀ (t : Tr), t.sz ≤ n → t.thin → ∀ (w : World) (S : Nat → Prop) (B b : Nat) (l : List UInt8) (cs : List Value), TV w S true t cs → (∀ g, S g → g < B) → BW w B b l → B ≤ w.heap.size → l.length ≤ 20000 →
  Calls Tryz.prog 127 #[.pointer (some ⟨b, 0, none⟩), .agg cs.toArray] w (WPut B b l t.text w)
def BracketW (n : Nat) : Prop := ∀ (t : Tr), t.sz ≤ n → t.thin → ∀ (w : World) (S : Nat → Prop) (B b k : Nat) (l h : List UInt8) (v : Value) (cs : List Value), TV w S false t cs → w.ownsRow 0 88 3 v k cs → (∀ g, v.ownBlock = some g → S g) → (∀ g, S g → g < B) → BW w B b l → B ≤ w.heap.size → l.length ≤ 20000 → h.length ≤ 10 →
  Calls Tryz.prog 179 #[.pointer (some ⟨b, 0, none⟩), .string (nmB h), v] w (WPut B b l (h ++ t.text ++ [41]) w)
end Go.Proofs.YtnfojonmohijpaaGreatDoor
namespace Go.Proofs.YtnfojonmohijpaaGreatDoor
open Go.RowKit
set_option maxRecDepth 100000 in
set_option maxHeartbeats 2000000 in
theorem bracket_any (n : Nat) (IT : TreeW n) : BracketW (n + 1) := by
  intro t ht hthin w S B b k l h v cs htv hown hSv hS hbw hBw hl hh
  obtain ⟨hcl, htx, hat⟩ := htv.tl_at
  obtain ⟨va, vn, vc, rfl⟩ := ownsRow_sl hown
  obtain rfl := ownsRow_lenT hown
  have HK : Hid (vn = (tl t).length) := by
    have := hown.1
    show vn = (tl t).length
    omega
  have HT : Hid (h ++ t.text ++ [41] = h ++ txts (tl t) ++ [41]) := by show _ = _; rw [htx]
  have hbl := hbw.lt
  have hvm : (vn : Int) ≤ 9223372036854775807 := by
    rcases hown.2 with ⟨_, e⟩ | ⟨g, cap, cur, _, _, _, h1, h2, _⟩
    · omega
    · unfold maxLen at h2; omega
  clear htx hcl
  go_enter Tryz.func179, Tryz.ntmps179
  go_wp2_with fail
  refine (put_any B b l h w hbw hl (by omega) hBw).mono ?_
  rintro e w1 P1
  by_cases hf1 : l.length + h.length ≤ 20000
  · obtain ⟨rfl, hb1⟩ := P1.fits hf1
    have hF1 := P1.frame
    clear P1
    go_wp2_with fail
    go_loopw [7, 13] (fun _ q wr => ∃ i : Nat, i ≤ vn ∧ q = .int .i64 i ∧ BW wr B b (l ++ h ++ txts ((tl t).take i)) ∧ Hid ((l ++ h ++ txts ((tl t).take i)).length ≤ 20000) ∧ WF B b w wr) (fun _ q _ => vn - (intOf q).toNat)
    case atStart => exact ⟨0, Nat.zero_le _, rfl, by simpa [txts] using hb1, (by show (l ++ h ++ txts ((tl t).take 0)).length ≤ 20000; simp [txts]; omega), hF1⟩
    case round =>
      clear hb1 hF1
      obtain ⟨i, hi, rfl, hb, HLN, hF⟩ := hrel
      have hsz := hF.below.size
      by_cases hlt : i < vn
      · obtain ⟨x, hx⟩ : ∃ x, (tl t)[i]? = some x := ⟨_, List.getElem?_eq_getElem (by have := HK.out; omega)⟩
        obtain ⟨ds, hds, hdc, hxsz, hxth⟩ := hat i x hx
        obtain ⟨k1, n1, da, dn, dc, rfl⟩ := hds.form
        obtain ⟨gv, vc', hv, _, hgv⟩ := hown.form (by omega)
        cases hv
        have hgB : gv < B := hS gv (hSv gv rfl)
        have hownr := ownsRow_wf hown (by intro g hg; exact hS g (hSv g hg)) hF
        have hrg : wr.rangeAt gv (i * 3) [.int .u8 k1, .int .i64 n1, .slice da dn dc] := fun j u hu => by
          have hj : j < 3 := (List.getElem?_eq_some_iff.1 hu).1
          exact (World.ownsRow.cellAt hownr (i * 3 + j) (by omega)).trans (hdc j u hu)
        have hi3 : (Tryz.prog.info? 88).map (·.size) = some 3 := by kernel_rfl
        have hi0 : (0 : Int) ≤ (i : Int) := by omega
        have hi1 : (i : Int) < (vn : Int) := by omega
        have HI : Hid (i < vn) := hlt
        have HTN : Hid (txts ((tl t).take (i + 1)) = txts ((tl t).take i) ++ ([32] ++ x.text)) := txts_take _ i x hx
        have hfin := txts_len (tl t) (i + 1)
        have HLT : Hid ((txts ((tl t).take i)).length + 1 + x.text.length ≤ (txts (tl t)).length) := by
          have h1 := HTN.out
          rw [h1] at hfin
          simp only [List.length_append, List.length_singleton] at hfin
          show _ ≤ _
          omega
        have hq0 : (wr.alloc (.cells #[.int .u8 0, .int .i64 0, .slice none 0 0] 88)).heap[wr.heap.size]? = some (.cells #[.int .u8 0, .int .i64 0, .slice none 0 0] 88 (0, 0)) := heap_alloc_new wr _
        have hk1 : Keeps [] wr ((wr.alloc (.cells #[.int .u8 0, .int .i64 0, .slice none 0 0] 88)).setRow wr.heap.size #[.int .u8 k1, .int .i64 n1, .slice da dn dc]) := ((Keeps.refl [] wr).alloc _).setRow (Or.inr (Nat.le_refl _)) _
        have hq1 : ((wr.alloc (.cells #[.int .u8 0, .int .i64 0, .slice none 0 0] 88)).setRow wr.heap.size #[.int .u8 k1, .int .i64 n1, .slice da dn dc]).heap[wr.heap.size]? = some (.cells #[.int .u8 k1, .int .i64 n1, .slice da dn dc] 88 (0, 0)) := setRow_heap _ _ _ _ _ _ hq0
        have hbk := hb.keep hk1
        have hblr := hb.lt
        have hFk : WF B b wr ((wr.alloc (.cells #[.int .u8 0, .int .i64 0, .slice none 0 0] 88)).setRow wr.heap.size #[.int .u8 k1, .int .i64 n1, .slice da dn dc]) := WF.ofKeeps hk1 (by omega)
        clear hi hlt hx hfin
        go_upto_region 4 with (first | (refine wpList_load_mid rfl 88 _ rfl gv (i * 3) rfl _ _ hrg Tryz.underlying88 rfl hi3 ?_) | (refine wpList_store_row rfl 88 _ _ rfl wr.heap.size #[.int .u8 k1, .int .i64 n1, .slice da dn dc] rfl rfl _ _ hq0 (info3 _ _ _) rfl (all3 rfl rfl rfl) ?_; generalize (wr.alloc (.cells #[.int .u8 0, .int .i64 0, .slice none 0 0] 88)).setRow wr.heap.size #[.int .u8 k1, .int .i64 n1, .slice da dn dc] = w2 at *))
        obtain ⟨gq, hgq⟩ : ∃ g, g = wr.heap.size := ⟨_, rfl⟩
        rw [← hgq] at hq1 ⊢
        have hgqb : gq ≠ b := by omega
        clear hgq hq0 hrg hownr
        have hF2 := hF.trans hFk
        have hs2 := hFk.below.size
        go_wp2_with fail
        refine (put_any B b (l ++ h ++ txts ((tl t).take i)) [32] w2 hbk HLN.out (by simp) (by omega)).mono ?_
        rintro e w3 P3
        by_cases hf3 : (l ++ h ++ txts ((tl t).take i)).length + ([32] : List UInt8).length ≤ 20000
        · obtain ⟨rfl, hb3⟩ := P3.fits hf3
          have hF3 := hF2.trans P3.frame
          have hq3 := row_wf hq1 (by decide) hgqb P3.frame
          have hs3 := P3.frame.below.size
          clear P3 hbk hb hq1
          go_wp2_with (first | (refine wpList_load_row rfl 88 _ rfl gq rfl _ _ _ _ hq3 Tryz.underlying88 rfl (info3 _ _ _) ?_))
          refine (IT x (by omega) (hxth hthin) w3 S B b _ _ (hds.wf hS hF3) hS hb3 (by omega) (by rw [List.length_append]; exact hf3)).mono ?_
          rintro e w4 P4
          have hl3 : (l ++ h ++ txts ((tl t).take i) ++ [32]).length = (l ++ h ++ txts ((tl t).take i)).length + 1 := by simp; omega
          by_cases hf4 : (l ++ h ++ txts ((tl t).take i) ++ [32]).length + x.text.length ≤ 20000
          · obtain ⟨rfl, hb4⟩ := P4.fits hf4
            have hF4 := hF3.trans P4.frame
            have hb5 : BW w4 B b (l ++ h ++ txts ((tl t).take (i + 1))) := by rw [HTN.out]; simpa using hb4
            have HL5 : Hid ((l ++ h ++ txts ((tl t).take (i + 1))).length ≤ 20000) := by
              show (l ++ h ++ txts ((tl t).take (i + 1))).length ≤ 20000
              rw [HTN.out]
              simp only [List.length_append, List.length_singleton] at hf4 ⊢
              omega
            clear P4 hb3 hb4 hq3 hf4 hl3 hf3
            go_wp2_with fail
            go_roundw
            case rel => exact ⟨i + 1, HI.out, by go_num, hb5, HL5, hF4⟩
            case measure => have := HI.out; simp [intOf]; omega
          · obtain rfl := P4.long (by omega)
            simp only [tooLong]
            have h1 := HLT.out
            have hlong : 20000 < l.length + (h ++ t.text ++ [41]).length := by
              rw [HT.out]
              simp only [List.length_append, List.length_singleton] at hf4 ⊢
              omega
            exact ⟨rfl, ⟨fun hc => by first | omega | (simp only [List.length_append, List.length_singleton] at hc hlong; omega), fun _ => rfl, hF3.trans P4.frame⟩⟩
        · obtain rfl := P3.long (by omega)
          simp only [tooLong]
          have h1 := HLT.out
          have hlong : 20000 < l.length + (h ++ t.text ++ [41]).length := by
            rw [HT.out]
            simp only [List.length_append, List.length_singleton] at hf3 ⊢
            omega
          exact ⟨rfl, ⟨fun hc => by first | omega | (simp only [List.length_append, List.length_singleton] at hc hlong; omega), fun _ => rfl, hF2.trans P3.frame⟩⟩
      · have hie : i = vn := by omega
        have hni : ¬ (i : Int) < (vn : Int) := by omega
        have hall : (tl t).take i = tl t := by rw [hie, HK.out]; exact List.take_length
        have hb' : BW wr B b (l ++ h ++ txts (tl t)) := by rw [hall] at hb; exact hb
        have HL' : Hid ((l ++ h ++ txts (tl t)).length ≤ 20000) := by have := HLN.out; rw [hall] at this; exact this
        clear hie hlt hi hall hb HLN
        go_wp2_with fail
        refine (put_any B b (l ++ h ++ txts (tl t)) [41] wr hb' HL'.out (by simp) (by omega)).mono ?_
        rintro e w3 P3
        have HE : Hid (l ++ (h ++ t.text ++ [41]) = l ++ h ++ txts (tl t) ++ [41]) := by
          have := HT.out
          show l ++ (h ++ t.text ++ [41]) = l ++ h ++ txts (tl t) ++ [41]
          rw [this]
          simp
        have hle : l.length + (h ++ t.text ++ [41]).length = (l ++ h ++ txts (tl t)).length + ([41] : List UInt8).length := by
          have := congrArg List.length HE.out
          simp only [List.length_append] at this ⊢
          omega
        by_cases hf3 : (l ++ h ++ txts (tl t)).length + ([41] : List UInt8).length ≤ 20000
        · obtain ⟨rfl, hb3⟩ := P3.fits hf3
          have hF3 := hF.trans P3.frame
          have hb9 : BW w3 B b (l ++ (h ++ t.text ++ [41])) := by rw [HE.out]; exact hb3
          have HLE : Hid (l.length + (h ++ t.text ++ [41]).length ≤ 20000) := by show _ ≤ _; omega
          clear P3 hb' hb3 hle hf3
          go_wp2_with fail
          go_end0
          exact ⟨fun _ => ⟨rfl, hb9⟩, fun h => by have := HLE.out; omega, hF3⟩
        · obtain rfl := P3.long (by omega)
          simp only [tooLong]
          have hlong : 20000 < l.length + (h ++ t.text ++ [41]).length := by rw [hle]; omega
          exact ⟨rfl, ⟨fun hc => by first | omega | (simp only [List.length_append, List.length_singleton] at hc hlong; omega), fun _ => rfl, hF.trans P3.frame⟩⟩
  · obtain rfl := P1.long (by omega)
    simp only [tooLong]
    have hlong : 20000 < l.length + (h ++ t.text ++ [41]).length := by
      simp only [List.length_append]
      omega
    exact ⟨rfl, ⟨fun hc => by first | omega | (simp only [List.length_append, List.length_singleton] at hc hlong; omega), fun _ => rfl, P1.frame⟩⟩
end Go.Proofs.YtnfojonmohijpaaGreatDoor
namespace Go.Proofs.YtnfojonmohijpaaGreatDoor
open Go.RowKit
set_option maxRecDepth 100000 in
theorem and15 (c : Nat) (hc : c < 256) : bits BinOp.and IntKind.u8 (c : Int) 15 = (c : Int) % 16 := by
  have key : ∀ m : Fin 256, bits BinOp.and IntKind.u8 ((m.val : Nat) : Int) 15 = ((m.val : Nat) : Int) % 16 := by decide
  exact key ⟨c, hc⟩
theorem conv_two (w : World) (x y : UInt8) : (convert 64 9 (.slice (some ⟨w.heap.size, 0, none⟩) 2 2)).run Tryz.prog (w.alloc (.cells #[.int .u8 (x.toNat : Int), .int .u8 (y.toNat : Int)] 5)).drew = .ok (.string (nmB [x, y])) (w.alloc (.cells #[.int .u8 (x.toNat : Int), .int .u8 (y.toNat : Int)] 5)).drew :=
  conv_name _ 0 _ [x, y] ⟨by simp, Or.inr ⟨_, 2, #[.int .u8 (x.toNat : Int), .int .u8 (y.toNat : Int)], rfl, Nat.zero_le _, heap_alloc_new w _, Nat.le_refl _, by decide, rfl, rfl⟩⟩
theorem hexs_at (k : Nat) (h : k < 16) (h' : k < (ByteArray.mk #[48, 49, 50, 51, 52, 53, 54, 55, 56, 57, 97, 98, 99, 100, 101, 102]).size) : (ByteArray.mk #[48, 49, 50, 51, 52, 53, 54, 55, 56, 57, 97, 98, 99, 100, 101, 102])[k] = hexs.getD k 0 := by
  have key : ∀ m : Fin 16, ∀ hm, (ByteArray.mk #[48, 49, 50, 51, 52, 53, 54, 55, 56, 57, 97, 98, 99, 100, 101, 102])[m.val]'hm = hexs.getD m.val 0 := by decide
  exact key ⟨k, h⟩ h'
set_option maxRecDepth 100000 in
set_option maxHeartbeats 1000000 in
theorem hexPair_text (c : Nat) (hc : c < 256) (w : World) :
    Calls Tryz.prog 178 #[.int .u8 (c : Int)] w fun e w' => e = .returned (.string (nmB [hexs.getD (c / 16) 0, hexs.getD (c % 16) 0])) ∧ Keeps [] w w' := by
  have d1 : (0 : Int) ≤ (c : Int) / 16 := by omega
  have d2 : (c : Int) / 16 < 16 := by omega
  have d3 : (0 : Int) ≤ (c : Int) % 16 := by omega
  have d4 : (c : Int) % 16 < 16 := by omega
  have d5 := and15 c hc
  have cv := fun x y => conv_two w x y
  go_enter Tryz.func178, Tryz.ntmps178
  go_wp2_with fail
  go_region
  all_goals
    go_wp2_with fail
    go_ret
    refine ⟨?_, ((Keeps.refl [] w).alloc _).drewN 1⟩
    show Ending.returned (.string (nmB [_, _])) = _
    rw [hexs_at (c / 16) (by omega), hexs_at (c % 16) (by omega)]
end Go.Proofs.YtnfojonmohijpaaGreatDoor
