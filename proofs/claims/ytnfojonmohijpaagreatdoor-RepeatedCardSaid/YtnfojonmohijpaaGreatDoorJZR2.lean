/-
  DERIVED. The tied card of Repeated: for all raw numbers, every raw text and every number the law of repeats answers true. No conditions.
-/
import Derived.Test.YtnfojonmohijpaaGreatDoorJZR1
import Derived.Test.YtnfojonmohijpaaGreatDoorCards
import Derived.Test.YtnfojonmohijpaaGreatDoorTie
import Derived.SevenTiedAt
set_option linter.unusedSimpArgs false
set_option linter.unusedVariables false
namespace Go.Proofs.YtnfojonmohijpaaGreatDoor
open Go
theorem repeated_card : Rows.RepeatedCardSaid :=
  Claim7.holds_tied_plain_at .later [] [.data, .data, .data, .data] true (true, "3969d867ba051e7378f48f06f4102c5b58184871ad748235cb29629b5e458aca") true
    repeated_row (fun _ h => by cases h) (by kernel_rfl) (fun _ h => by cases h) repeated_row_tie rfl ⟨rfl, rfl⟩ (by kernel_rfl) (by kernel_rfl)
    (fun f fn hf hfn => by
      obtain rfl : f = 12 := Option.some.inj ((show Tryz.prog.funcNamed Rows.repeatedRow.func = some 12 by kernel_rfl).symm.trans hf) |>.symm
      obtain rfl : fn = Tryz.f12 := (Option.some.inj (Tryz.func12.symm.trans hfn)).symm
      exact ⟨by kernel_rfl, fun j t ht => by
        rw [Tryz.params12] at ht
        have hm : t ∈ [32, 9, 3] := by simpa using Array.mem_of_getElem? ht
        have hall : ([32, 9, 3].all fun u => !Tryz.prog.wantsStandIn u) = true := by kernel_rfl
        exact (show Tryz.prog.wantsStandIn t = false by simpa using List.all_eq_true.1 hall t hm)⟩)
    (by kernel_rfl)
end Go.Proofs.YtnfojonmohijpaaGreatDoor
