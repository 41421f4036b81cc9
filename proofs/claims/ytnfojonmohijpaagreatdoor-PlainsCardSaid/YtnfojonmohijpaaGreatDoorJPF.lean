/-
  DERIVED. The contract of className: a slice of bytes that is the call's own, its text, and the test that className hands to Take. Conditions: the text is at most 60 bytes long, the place is within it, the variable classNames holds the seven names.
-/
import Derived.Test.YtnfojonmohijpaaGreatDoorJPE
import Derived.Test.YtnfojonmohijpaaGreatDoorJRS
import Derived.Laws.BytesString
set_option linter.unusedSimpArgs false
set_option linter.unusedVariables false
namespace Go.Proofs.YtnfojonmohijpaaGreatDoor
open Go.RowKit

def byteV (u : UInt8) : Value := .int .u8 (u.toNat : Int)
/-- A slice of bytes that holds these, in a block from base on. -/
def BY (w : World) (base : Nat) (v : Value) (word : List UInt8) : Prop := w.ownsRow base 5 1 v word.length (word.map byteV)

theorem push_bytes (l : List UInt8) (s : ByteArray) : (l.map fun u => (u.toNat : Int)).foldl (fun r n => r.push (UInt8.ofNat n.toNat)) s = s ++ nmB l := by
  induction l generalizing s with
  | nil =>
    apply ByteArray.ext
    simp [nmB, ByteArray.data_append]
  | cons u l ih =>
    rw [List.map_cons, List.foldl_cons, ih]
    apply ByteArray.ext
    apply Array.ext'
    simp [nmB, ByteArray.data_append, ByteArray.data_push]

theorem conv_name (w : World) (base : Nat) (v : Value) (word : List UInt8) (h : BY w base v word) : (convert 64 9 v).run Tryz.prog w = .ok (.string (nmB word)) w := by
  have hl := h.1
  rcases h.2 with ⟨rfl, hn⟩ | ⟨g, cap, cur, rfl, hb, hgg, hnc, hcm, hcs, htk⟩
  · have : word = [] := List.length_eq_zero_iff.1 hn
    subst this
    rw [run_convert_bytes_string w _ _ 5 none 0 0 Tryz.underlying64 Tryz.underlying5 Tryz.underlying9]
    rfl
  · rw [run_convert_bytes_string w _ _ 5 _ _ _ Tryz.underlying64 Tryz.underlying5 Tryz.underlying9]
    have hld : (loadCells ⟨g, 0, none⟩ word.length).run Tryz.prog w = .ok ((word.map fun u => (u.toNat : Int)).map (Value.int .u8)).toArray w := by
      have := run_loadCells_list (P := Tryz.prog) w ⟨g, 0, none⟩ (word.map byteV) (World.ownsRow.cells h rfl)
      rw [List.length_map] at this
      rw [this, List.map_map]
      rfl
    rw [run_bytesToString w _ _ _ _ hld, push_bytes]
    congr 2

/-- The bytes lie in a block that stands still. -/
theorem BY.keep {w w' : World} {base : Nat} {v : Value} {word : List UInt8} {S : List Nat} (h : BY w base v word) (hk : Keeps S w w') (hs : ∀ g, v.ownBlock = some g → g ∉ S) : BY w' base v word := World.ownsRow.keep h hk hs

theorem conv_one (w : World) (u : UInt8) : (convert 64 9 (.slice (some ⟨w.heap.size, 0, none⟩) 1 1)).run Tryz.prog (w.alloc (.cells #[.int .u8 (u.toNat : Int)] 5)) = .ok (.string (nmB [u])) (w.alloc (.cells #[.int .u8 (u.toNat : Int)] 5)) :=
  conv_name _ 0 _ [u] ⟨by simp, Or.inr ⟨_, 1, #[.int .u8 (u.toNat : Int)], rfl, Nat.zero_le _, heap_alloc_new w _, Nat.le_refl _, by decide, rfl, rfl⟩⟩

theorem nmB_append (a b : List UInt8) : nmB a ++ nmB b = nmB (a ++ b) := by
  apply ByteArray.ext
  simp [nmB, ByteArray.data_append]

set_option maxRecDepth 100000 in
set_option maxHeartbeats 1000000 in
theorem cls1_any (u : UInt8) (nb base : Nat) (v : Value) (word : List UInt8) (hw : word.length ≤ 10) (w : World) (hc : w.cell? ⟨nb, 0, none⟩ = some v) (hby : BY w base v word) (hg : GN w) :
    Calls Tryz.prog 298 #[.int .u8 (u.toNat : Int), .pointer (some ⟨nb, 0, none⟩)] w fun e w' => e = .returned (.bool (goesOn word (u.toNat : Int))) ∧ Keeps [] w w' := by
  have hcv := conv_name w base v word hby
  have hc1 := fun w => conv_one w u
  have hsz : ¬ 9223372036854775807 < (nmB word).size + (nmB [u]).size := by rw [nmB_size, nmB_size]; simp; omega
  have hap := nmB_append word [u]
  have hg2 : GN (w.alloc (.cells #[.int .u8 (u.toNat : Int)] 5)) := hg.keep ((Keeps.refl [] w).alloc _) (by simp)
  have BE := begins_any (word ++ [u]) (by simp; omega) _ hg2
  rw [begB_snoc, ← hap] at BE
  clear hap hg2
  go_enter Tryz.func298, Tryz.ntmps298
  go_wp2_with (go_at_call 299; refine BE.mono ?_; rintro e w' ⟨rfl, rfl⟩)
  go_ret
  exact ⟨rfl, (Keeps.refl [] w).alloc _⟩

theorem cf_cls1 (args : Array Value) (w : World) : (callFunc 298 args).run Tryz.prog w = .ok (.enter 298 args) w := by kernel_rfl
theorem may_cls1 (u : UInt8) (nb base : Nat) (v : Value) (word : List UInt8) (hw : word.length ≤ 10) (w : World) (hc : w.cell? ⟨nb, 0, none⟩ = some v) (hby : BY w base v word) (hg : GN w) :
    May 298 #[.pointer (some ⟨nb, 0, none⟩)] (u.toNat : Int) (goesOn word (u.toNat : Int)) w :=
  ⟨cf_cls1, fun w1 hk => cls1_any u nb base v word hw w1 (keep_cell hk hc) (hby.keep hk (by simp)) (hg.keep hk (by simp))⟩
end Go.Proofs.YtnfojonmohijpaaGreatDoor
