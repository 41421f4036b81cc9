/-
  DERIVED. The row of Trees: its closed facts on the program's text, the great ones one by one.
-/
import Derived.Test.YtnfojonmohijpaaGreatDoorRows
import Derived.ProofKit
set_option linter.unusedSimpArgs false
set_option linter.unusedVariables false
namespace Go.Proofs.YtnfojonmohijpaaGreatDoor
open Go
theorem trees_inPlace : Tryz.prog.inPlace 5 = ["internal/bytealg.IndexByteString"] := by kernel_rfl
theorem trees_unf : Tryz.prog.unfollowed 5 = true := by kernel_rfl
theorem trees_rec : Tryz.prog.recurses 5 = true := by kernel_rfl
theorem trees_vars : Tryz.prog.varsNamed 5 = ["yarrow/byteset.classNames"] := by kernel_rfl
theorem trees_closed : joinedFacts Tryz.prog 5 Tryz.f5 Rows.treesSpec Rows.treesRow = true := by
 unfold joinedFacts
 rw [trees_inPlace, trees_unf, trees_rec, trees_vars]
 kernel_rfl
end Go.Proofs.YtnfojonmohijpaaGreatDoor
