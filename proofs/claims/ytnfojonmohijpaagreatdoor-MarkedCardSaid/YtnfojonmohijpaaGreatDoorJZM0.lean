/-
  DERIVED. The row of Marked: its closed facts on the program's text, the great ones one by one.
-/
import Derived.Test.YtnfojonmohijpaaGreatDoorRows
import Derived.ProofKit
set_option linter.unusedSimpArgs false
set_option linter.unusedVariables false
namespace Go.Proofs.YtnfojonmohijpaaGreatDoor
open Go
theorem marked_inPlace : Tryz.prog.inPlace 14 = ["internal/bytealg.IndexByteString", "internal/abi.NoEscape"] := by kernel_rfl
theorem marked_unf : Tryz.prog.unfollowed 14 = true := by kernel_rfl
theorem marked_rec : Tryz.prog.recurses 14 = true := by kernel_rfl
theorem marked_vars : Tryz.prog.varsNamed 14 = ["yarrow/byteset.classNames", "internal/strconv.uint64pow10", "math/bits.deBruijn32tab", "math/bits.deBruijn64tab"] := by kernel_rfl
theorem marked_closed : joinedFacts Tryz.prog 14 Tryz.f14 Rows.markedSpec Rows.markedRow = true := by
  unfold joinedFacts
  rw [marked_inPlace, marked_unf, marked_rec, marked_vars]
  kernel_rfl
end Go.Proofs.YtnfojonmohijpaaGreatDoor
