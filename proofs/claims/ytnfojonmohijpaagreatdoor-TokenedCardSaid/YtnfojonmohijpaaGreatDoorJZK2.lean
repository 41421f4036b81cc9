/-
  DERIVED. The tied card of Tokened: for all rules and every text the program's Tokens answers what the document asks. No conditions.
-/
import Derived.Test.YtnfojonmohijpaaGreatDoorJZK1
import Derived.Test.YtnfojonmohijpaaGreatDoorCards
import Derived.Test.YtnfojonmohijpaaGreatDoorTie
import Derived.SevenTiedAt
set_option linter.unusedSimpArgs false
set_option linter.unusedVariables false
namespace Go.Proofs.YtnfojonmohijpaaGreatDoor
open Go
theorem tokened_card : Rows.TokenedCardSaid :=
 Claim7.holds_tied_plain_at .later [] [.data] true (true, "3969d867ba051e7378f48f06f4102c5b58184871ad748235cb29629b5e458aca") true
  tokened_row (fun _ h => by cases h) (by kernel_rfl) (fun _ h => by cases h) tokened_row_tie rfl ⟨rfl, rfl⟩ (by kernel_rfl) (by kernel_rfl)
  (fun f fn hf hfn => by
    obtain rfl : f = 7 := Option.some.inj ((show Tryz.prog.funcNamed Rows.tokenedRow.func = some 7 by kernel_rfl).symm.trans hf) |>.symm
    obtain rfl : fn = Tryz.f7 := (Option.some.inj (Tryz.func7.symm.trans hfn)).symm
    exact ⟨by kernel_rfl, fun j t ht => by
      rw [Tryz.params7] at ht
      have hm : t ∈ [36, 9] := by simpa using Array.mem_of_getElem? ht
      have hall : ([36, 9].all fun u => !Tryz.prog.wantsStandIn u) = true := by kernel_rfl
      exact (show Tryz.prog.wantsStandIn t = false by simpa using List.all_eq_true.1 hall t hm)⟩)
  (by kernel_rfl)
end Go.Proofs.YtnfojonmohijpaaGreatDoor
