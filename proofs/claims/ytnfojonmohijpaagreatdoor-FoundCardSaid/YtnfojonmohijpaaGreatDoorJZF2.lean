/-
  DERIVED. The tied card of Found: for all raw numbers, every raw text and every number the law of what Search finds answers true. No conditions.
-/
import Derived.Test.YtnfojonmohijpaaGreatDoorJZF1
import Derived.Test.YtnfojonmohijpaaGreatDoorCards
import Derived.Test.YtnfojonmohijpaaGreatDoorTie
import Derived.SevenTiedAt
set_option linter.unusedSimpArgs false
set_option linter.unusedVariables false
namespace Go.Proofs.YtnfojonmohijpaaGreatDoor
open Go
theorem found_card : Rows.FoundCardSaid :=
  Claim7.holds_tied_plain_at .later [] [.data, .data, .data, .data] true (true, "3969d867ba051e7378f48f06f4102c5b58184871ad748235cb29629b5e458aca") true
    found_row (fun _ h => by cases h) (by kernel_rfl) (fun _ h => by cases h) found_row_tie rfl ⟨rfl, rfl⟩ (by kernel_rfl) (by kernel_rfl)
    (fun f fn hf hfn => by
      obtain rfl : f = 13 := Option.some.inj ((show Tryz.prog.funcNamed Rows.foundRow.func = some 13 by kernel_rfl).symm.trans hf) |>.symm
      obtain rfl : fn = Tryz.f13 := (Option.some.inj (Tryz.func13.symm.trans hfn)).symm
      exact ⟨by kernel_rfl, fun j t ht => by
        rw [Tryz.params13] at ht
        have hm : t ∈ [32, 9, 3] := by simpa using Array.mem_of_getElem? ht
        have hall : ([32, 9, 3].all fun u => !Tryz.prog.wantsStandIn u) = true := by kernel_rfl
        exact (show Tryz.prog.wantsStandIn t = false by simpa using List.all_eq_true.1 hall t hm)⟩)
    (by kernel_rfl)
end Go.Proofs.YtnfojonmohijpaaGreatDoor
