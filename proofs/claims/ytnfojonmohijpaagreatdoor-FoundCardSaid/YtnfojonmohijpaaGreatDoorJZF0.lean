/-
  DERIVED. The row of Found: its closed facts on the program's text, the great ones one by one.
-/
import Derived.Test.YtnfojonmohijpaaGreatDoorRows
import Derived.ProofKit
set_option linter.unusedSimpArgs false
set_option linter.unusedVariables false
namespace Go.Proofs.YtnfojonmohijpaaGreatDoor
open Go
theorem found_inPlace : Tryz.prog.inPlace 13 = ["internal/bytealg.IndexByteString", "internal/abi.NoEscape"] := by kernel_rfl
theorem found_unf : Tryz.prog.unfollowed 13 = true := by kernel_rfl
theorem found_rec : Tryz.prog.recurses 13 = true := by kernel_rfl
theorem found_vars : Tryz.prog.varsNamed 13 = ["yarrow/byteset.classNames", "internal/strconv.uint64pow10", "math/bits.deBruijn32tab", "math/bits.deBruijn64tab"] := by kernel_rfl
theorem found_closed : joinedFacts Tryz.prog 13 Tryz.f13 Rows.foundSpec Rows.foundRow = true := by
  unfold joinedFacts
  rw [found_inPlace, found_unf, found_rec, found_vars]
  kernel_rfl
end Go.Proofs.YtnfojonmohijpaaGreatDoor
