/-
  DERIVED. The row of Joined: its closed facts on the program's text, the great ones one by one.
-/
import Derived.Test.YtnfojonmohijpaaGreatDoorRows
import Derived.ProofKit
set_option linter.unusedSimpArgs false
set_option linter.unusedVariables false
namespace Go.Proofs.YtnfojonmohijpaaGreatDoor
open Go
theorem joined_inPlace : Tryz.prog.inPlace 11 = ["internal/bytealg.IndexByteString", "internal/abi.NoEscape"] := by kernel_rfl
theorem joined_unf : Tryz.prog.unfollowed 11 = true := by kernel_rfl
theorem joined_rec : Tryz.prog.recurses 11 = true := by kernel_rfl
theorem joined_vars : Tryz.prog.varsNamed 11 = ["yarrow/byteset.classNames", "internal/strconv.uint64pow10", "math/bits.deBruijn32tab", "math/bits.deBruijn64tab"] := by kernel_rfl
theorem joined_closed : joinedFacts Tryz.prog 11 Tryz.f11 Rows.joinedSpec Rows.joinedRow = true := by
  unfold joinedFacts
  rw [joined_inPlace, joined_unf, joined_rec, joined_vars]
  kernel_rfl
end Go.Proofs.YtnfojonmohijpaaGreatDoor
