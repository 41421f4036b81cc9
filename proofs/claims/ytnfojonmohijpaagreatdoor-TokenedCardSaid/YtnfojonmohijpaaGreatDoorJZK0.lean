/-
  DERIVED. The row of Tokened: its closed facts on the program's text, the great ones one by one.
-/
import Derived.Test.YtnfojonmohijpaaGreatDoorRows
import Derived.ProofKit
set_option linter.unusedSimpArgs false
set_option linter.unusedVariables false
namespace Go.Proofs.YtnfojonmohijpaaGreatDoor
open Go
theorem tokened_inPlace : Tryz.prog.inPlace 7 = ["internal/bytealg.IndexByteString", "internal/bytealg.CountString", "internal/bytealg.IndexString"] := by kernel_rfl
theorem tokened_unf : Tryz.prog.unfollowed 7 = true := by kernel_rfl
theorem tokened_rec : Tryz.prog.recurses 7 = true := by kernel_rfl
theorem tokened_vars : Tryz.prog.varsNamed 7 = ["yarrow/byteset.classNames", "internal/bytealg.MaxLen"] := by kernel_rfl
theorem tokened_closed : joinedFacts Tryz.prog 7 Tryz.f7 Rows.tokenedSpec Rows.tokenedRow = true := by
 unfold joinedFacts
 rw [tokened_inPlace, tokened_unf, tokened_rec, tokened_vars]
 kernel_rfl
end Go.Proofs.YtnfojonmohijpaaGreatDoor
