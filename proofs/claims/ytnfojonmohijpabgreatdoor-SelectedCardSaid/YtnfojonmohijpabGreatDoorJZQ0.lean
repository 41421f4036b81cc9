/-
  DERIVED. The row of Selected: its closed facts on the program's text, the great ones one by one.
-/
import Derived.Test.YtnfojonmohijpabGreatDoorRows
import Derived.ProofKit
set_option linter.unusedSimpArgs false
set_option linter.unusedVariables false
namespace Go.Proofs.YtnfojonmohijpabGreatDoor
open Go
theorem selected_inPlace : Tryz.prog.inPlace 4 = ["internal/bytealg.IndexByteString", "internal/abi.NoEscape", "internal/bytealg.CountString", "internal/bytealg.IndexString"] := by kernel_rfl
theorem selected_unf : Tryz.prog.unfollowed 4 = true := by kernel_rfl
theorem selected_rec : Tryz.prog.recurses 4 = true := by kernel_rfl
theorem selected_vars : Tryz.prog.varsNamed 4 = ["yarrow/byteset.classNames", "internal/strconv.uint64pow10", "math/bits.deBruijn32tab", "math/bits.deBruijn64tab", "unicode/utf8.first", "unicode/utf8.acceptRanges", "internal/bytealg.MaxLen"] := by kernel_rfl
theorem selected_closed : joinedFacts Tryz.prog 4 Tryz.f4 Rows.selectedSpec Rows.selectedRow = true := by
 unfold joinedFacts
 rw [selected_inPlace, selected_unf, selected_rec, selected_vars]
 kernel_rfl
end Go.Proofs.YtnfojonmohijpabGreatDoor
