/-
  DERIVED. The row of Munched: its closed facts on the program's text, the great ones one by one.
-/
import Derived.Test.YtnfojonmohijpabGreatDoorRows
import Derived.ProofKit
set_option linter.unusedSimpArgs false
set_option linter.unusedVariables false
namespace Go.Proofs.YtnfojonmohijpabGreatDoor
open Go
theorem munched_inPlace : Tryz.prog.inPlace 3 = ["internal/bytealg.IndexByteString", "internal/abi.NoEscape", "internal/bytealg.CountString", "internal/bytealg.IndexString"] := by kernel_rfl
theorem munched_unf : Tryz.prog.unfollowed 3 = true := by kernel_rfl
theorem munched_rec : Tryz.prog.recurses 3 = true := by kernel_rfl
theorem munched_vars : Tryz.prog.varsNamed 3 = ["yarrow/byteset.classNames", "internal/strconv.uint64pow10", "math/bits.deBruijn32tab", "math/bits.deBruijn64tab", "internal/bytealg.MaxLen"] := by kernel_rfl
theorem munched_closed : joinedFacts Tryz.prog 3 Tryz.f3 Rows.munchedSpec Rows.munchedRow = true := by
 unfold joinedFacts
 rw [munched_inPlace, munched_unf, munched_rec, munched_vars]
 kernel_rfl
end Go.Proofs.YtnfojonmohijpabGreatDoor
