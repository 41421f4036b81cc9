/-
  DERIVED. The row of Repeated: its closed facts on the program's text, the great ones one by one.
-/
import Derived.Test.YtnfojonmohijpaaGreatDoorRows
import Derived.ProofKit
set_option linter.unusedSimpArgs false
set_option linter.unusedVariables false
namespace Go.Proofs.YtnfojonmohijpaaGreatDoor
open Go
theorem repeated_inPlace : Tryz.prog.inPlace 12 = ["internal/bytealg.IndexByteString", "internal/abi.NoEscape"] := by kernel_rfl
theorem repeated_unf : Tryz.prog.unfollowed 12 = true := by kernel_rfl
theorem repeated_rec : Tryz.prog.recurses 12 = true := by kernel_rfl
theorem repeated_vars : Tryz.prog.varsNamed 12 = ["yarrow/byteset.classNames", "internal/strconv.uint64pow10", "math/bits.deBruijn32tab", "math/bits.deBruijn64tab"] := by kernel_rfl
theorem repeated_closed : joinedFacts Tryz.prog 12 Tryz.f12 Rows.repeatedSpec Rows.repeatedRow = true := by
  unfold joinedFacts
  rw [repeated_inPlace, repeated_unf, repeated_rec, repeated_vars]
  kernel_rfl
end Go.Proofs.YtnfojonmohijpaaGreatDoor
