/-
  DERIVED. The row of Searches: its closed facts on the program's text, the great ones one by one.
-/
import Derived.Test.YtnfojonmohijpaaGreatDoorRows
import Derived.ProofKit
set_option linter.unusedSimpArgs false
set_option linter.unusedVariables false
namespace Go.Proofs.YtnfojonmohijpaaGreatDoor
open Go
theorem searches_inPlace : Tryz.prog.inPlace 6 = ["internal/bytealg.IndexByteString"] := by kernel_rfl
theorem searches_unf : Tryz.prog.unfollowed 6 = true := by kernel_rfl
theorem searches_rec : Tryz.prog.recurses 6 = true := by kernel_rfl
theorem searches_vars : Tryz.prog.varsNamed 6 = ["yarrow/byteset.classNames"] := by kernel_rfl
theorem searches_closed : joinedFacts Tryz.prog 6 Tryz.f6 Rows.searchesSpec Rows.searchesRow = true := by
  unfold joinedFacts
  rw [searches_inPlace, searches_unf, searches_rec, searches_vars]
  kernel_rfl
end Go.Proofs.YtnfojonmohijpaaGreatDoor
