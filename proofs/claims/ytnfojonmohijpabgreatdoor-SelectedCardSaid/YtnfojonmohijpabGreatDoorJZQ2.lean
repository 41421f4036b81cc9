/-
  DERIVED. The tied card of Selected: the lines that the command tells with v are those that it does not tell without, its count is theirs, its status says whether there are any, and with o it tells what Search finds: for all raw patterns and lines. No conditions.
-/
import Derived.Test.YtnfojonmohijpabGreatDoorJZQ1
import Derived.Test.YtnfojonmohijpabGreatDoorCards
import Derived.Test.YtnfojonmohijpabGreatDoorTie
import Derived.SevenTiedAt
set_option linter.unusedSimpArgs false
set_option linter.unusedVariables false
namespace Go.Proofs.YtnfojonmohijpabGreatDoor
open Go
theorem selected_card : Rows.SelectedCardSaid :=
 Claim7.holds_tied_plain_at .later [] [.data, .data, .data, .data, .data, .pinned] true (true, "800661e012b56fe53915191adfc0628d15bb71f5813f9b752b910074bac104bc") true
  selected_row (fun _ h => by cases h) (by kernel_rfl) (fun _ h => by cases h) selected_row_tie rfl ⟨rfl, rfl⟩ (by kernel_rfl) (by kernel_rfl)
  (fun f fn hf hfn => by
    obtain rfl : f = 4 := Option.some.inj ((show Tryz.prog.funcNamed Rows.selectedRow.func = some 4 by kernel_rfl).symm.trans hf) |>.symm
    obtain rfl : fn = Tryz.f4 := (Option.some.inj (Tryz.func4.symm.trans hfn)).symm
    exact ⟨by kernel_rfl, fun j t ht => by
      rw [Tryz.params4] at ht
      have hm : t ∈ [22, 26] := by simpa using Array.mem_of_getElem? ht
      have hall : ([22, 26].all fun u => !Tryz.prog.wantsStandIn u) = true := by kernel_rfl
      exact (show Tryz.prog.wantsStandIn t = false by simpa using List.all_eq_true.1 hall t hm)⟩)
  (by kernel_rfl)
end Go.Proofs.YtnfojonmohijpabGreatDoor
