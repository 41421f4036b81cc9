/-
  DERIVED. The row of Fitted: its closed facts on the program's text, the great ones one by one.
-/
import Derived.Test.YtnfojonmohijpaaGreatDoorRows
import Derived.ProofKit
set_option linter.unusedSimpArgs false
set_option linter.unusedVariables false
namespace Go.Proofs.YtnfojonmohijpaaGreatDoor
open Go
theorem fitted_inPlace : Tryz.prog.inPlace 10 = ["internal/bytealg.IndexByteString", "internal/abi.NoEscape"] := by kernel_rfl
theorem fitted_unf : Tryz.prog.unfollowed 10 = true := by kernel_rfl
theorem fitted_rec : Tryz.prog.recurses 10 = true := by kernel_rfl
theorem fitted_vars : Tryz.prog.varsNamed 10 = ["yarrow/byteset.classNames", "internal/strconv.uint64pow10", "math/bits.deBruijn32tab", "math/bits.deBruijn64tab"] := by kernel_rfl
theorem fitted_closed : joinedFacts Tryz.prog 10 Tryz.f10 Rows.fittedSpec Rows.fittedRow = true := by
 unfold joinedFacts
 rw [fitted_inPlace, fitted_unf, fitted_rec, fitted_vars]
 kernel_rfl
end Go.Proofs.YtnfojonmohijpaaGreatDoor
