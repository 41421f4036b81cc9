/-
  DERIVED. The tied card of Munched: for all rows of numbers, every text and either choice of skip, without the document's answer: the tokens lie one behind the other, are the longest, by the first rule that matches; where they end nothing matches. No conditions.
-/
import Derived.Test.YtnfojonmohijpabGreatDoorJZN1
import Derived.Test.YtnfojonmohijpabGreatDoorCards
import Derived.Test.YtnfojonmohijpabGreatDoorTie
import Derived.SevenTiedAt
set_option linter.unusedSimpArgs false
set_option linter.unusedVariables false
namespace Go.Proofs.YtnfojonmohijpabGreatDoor
open Go
theorem munched_card : Rows.MunchedCardSaid :=
 Claim7.holds_tied_plain_at .later [] [.data, .data, .data, .data] true (true, "800661e012b56fe53915191adfc0628d15bb71f5813f9b752b910074bac104bc") true
  munched_row (fun _ h => by cases h) (by kernel_rfl) (fun _ h => by cases h) munched_row_tie rfl ⟨rfl, rfl⟩ (by kernel_rfl) (by kernel_rfl)
  (fun f fn hf hfn => by
    obtain rfl : f = 3 := Option.some.inj ((show Tryz.prog.funcNamed Rows.munchedRow.func = some 3 by kernel_rfl).symm.trans hf) |>.symm
    obtain rfl : fn = Tryz.f3 := (Option.some.inj (Tryz.func3.symm.trans hfn)).symm
    exact ⟨by kernel_rfl, fun j t ht => by
      rw [Tryz.params3] at ht
      have hm : t ∈ [22, 22, 9, 4] := by simpa using Array.mem_of_getElem? ht
      have hall : ([22, 22, 9, 4].all fun u => !Tryz.prog.wantsStandIn u) = true := by kernel_rfl
      exact (show Tryz.prog.wantsStandIn t = false by simpa using List.all_eq_true.1 hall t hm)⟩)
  (by kernel_rfl)
end Go.Proofs.YtnfojonmohijpabGreatDoor
