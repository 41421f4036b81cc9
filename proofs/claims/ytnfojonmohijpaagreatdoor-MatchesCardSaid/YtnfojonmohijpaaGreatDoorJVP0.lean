/-
  DERIVED. The row of Matches: its closed facts on the program's text, the great ones one by one.
-/
import Derived.Test.YtnfojonmohijpaaGreatDoorRows
import Derived.ProofKit
set_option linter.unusedSimpArgs false
set_option linter.unusedVariables false
namespace Go.Proofs.YtnfojonmohijpaaGreatDoor
open Go
theorem mf_inPlace : Tryz.prog.inPlace 4 = ["internal/bytealg.IndexByteString", "internal/abi.NoEscape"] := by kernel_rfl
theorem mf_unf : Tryz.prog.unfollowed 4 = true := by kernel_rfl
theorem mf_rec : Tryz.prog.recurses 4 = true := by kernel_rfl
theorem mf_vars : Tryz.prog.varsNamed 4 = ["yarrow/byteset.classNames", "internal/strconv.uint64pow10", "math/bits.deBruijn32tab", "math/bits.deBruijn64tab"] := by kernel_rfl
theorem matches_closed : joinedFacts Tryz.prog 4 Tryz.f4 Rows.matchesSpec Rows.matchesRow = true := by
  unfold joinedFacts
  rw [mf_inPlace, mf_unf, mf_rec, mf_vars]
  kernel_rfl
end Go.Proofs.YtnfojonmohijpaaGreatDoor
