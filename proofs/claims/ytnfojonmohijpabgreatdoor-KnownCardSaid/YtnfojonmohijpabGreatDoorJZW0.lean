/-
  DERIVED. The row of Known: its closed facts on the program's text, the great ones one by one.
-/
import Derived.Test.YtnfojonmohijpabGreatDoorRows
import Derived.ProofKit
set_option linter.unusedSimpArgs false
set_option linter.unusedVariables false
namespace Go.Proofs.YtnfojonmohijpabGreatDoor
open Go
theorem known_inPlace : Tryz.prog.inPlace 5 = ["internal/bytealg.IndexByteString", "internal/abi.NoEscape", "internal/bytealg.CountString", "internal/bytealg.IndexString"] := by kernel_rfl
theorem known_unf : Tryz.prog.unfollowed 5 = true := by kernel_rfl
theorem known_rec : Tryz.prog.recurses 5 = true := by kernel_rfl
theorem known_vars : Tryz.prog.varsNamed 5 = ["yarrow/byteset.classNames", "internal/strconv.uint64pow10", "math/bits.deBruijn32tab", "math/bits.deBruijn64tab", "internal/bytealg.MaxLen", "unicode/utf8.first", "unicode/utf8.acceptRanges"] := by kernel_rfl
theorem known_closed : joinedFacts Tryz.prog 5 Tryz.f5 Rows.knownSpec Rows.knownRow = true := by
 unfold joinedFacts
 rw [known_inPlace, known_unf, known_rec, known_vars]
 kernel_rfl
end Go.Proofs.YtnfojonmohijpabGreatDoor
