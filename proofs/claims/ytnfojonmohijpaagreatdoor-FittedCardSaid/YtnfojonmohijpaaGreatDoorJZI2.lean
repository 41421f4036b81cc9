/-
  DERIVED. The tied card of Fitted: for every row of numbers and every text, without the document's answer: of the pattern that is made of the numbers, the tree that Match tells fits and its flat text is the text; the pattern's Plain matches the same texts, with the same trees, and is its own Plain. No conditions.
-/
import Derived.Test.YtnfojonmohijpaaGreatDoorJZI1
import Derived.Test.YtnfojonmohijpaaGreatDoorCards
import Derived.Test.YtnfojonmohijpaaGreatDoorTie
import Derived.SevenTiedAt
set_option linter.unusedSimpArgs false
set_option linter.unusedVariables false
namespace Go.Proofs.YtnfojonmohijpaaGreatDoor
open Go
theorem fitted_card : Rows.FittedCardSaid :=
 Claim7.holds_tied_plain_at .later [] [.data, .data, .data, .data] true (true, "3969d867ba051e7378f48f06f4102c5b58184871ad748235cb29629b5e458aca") true
  fitted_row (fun _ h => by cases h) (by kernel_rfl) (fun _ h => by cases h) fitted_row_tie rfl ⟨rfl, rfl⟩ (by kernel_rfl) (by kernel_rfl)
  (fun f fn hf hfn => by
    obtain rfl : f = 10 := Option.some.inj ((show Tryz.prog.funcNamed Rows.fittedRow.func = some 10 by kernel_rfl).symm.trans hf) |>.symm
    obtain rfl : fn = Tryz.f10 := (Option.some.inj (Tryz.func10.symm.trans hfn)).symm
    exact ⟨by kernel_rfl, fun j t ht => by
      rw [Tryz.params10] at ht
      have hm : t ∈ [32, 9] := by simpa using Array.mem_of_getElem? ht
      have hall : ([32, 9].all fun u => !Tryz.prog.wantsStandIn u) = true := by kernel_rfl
      exact (show Tryz.prog.wantsStandIn t = false by simpa using List.all_eq_true.1 hall t hm)⟩)
  (by kernel_rfl)
end Go.Proofs.YtnfojonmohijpaaGreatDoor
