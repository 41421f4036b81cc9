/-
  DERIVED. The row of Extracts: its closed facts on the program's text, the great ones one by one.
-/
import Derived.Test.YtnfojonmohijpaaGreatDoorRows
import Derived.ProofKit
import Derived.JoinedCond
set_option linter.all false
set_option maxRecDepth 100000
set_option maxHeartbeats 8000000
namespace Go.Proofs.YtnfojonmohijpaaGreatDoor
open Go
theorem XM:Tryz.prog.inPlace 8=["internal/bytealg.IndexByteString", "internal/bytealg.CountString", "internal/bytealg.IndexString", "internal/abi.NoEscape"]:=by kernel_rfl
theorem XN:Tryz.prog.unfollowed 8=true:=by kernel_rfl
theorem XO:Tryz.prog.recurses 8=true:=by kernel_rfl
theorem XP:Tryz.prog.varsNamed 8=["yarrow/byteset.classNames", "unicode/utf8.first", "unicode/utf8.acceptRanges", "internal/bytealg.MaxLen", "internal/strconv.uint64pow10", "math/bits.deBruijn32tab", "math/bits.deBruijn64tab"]:=by kernel_rfl
theorem XQ:joinedFacts Tryz.prog 8 Tryz.f8 (Rows.OpenSpec.upto Rows.extractsSpec).bare Rows.extractsUptoRow=true:=by
 unfold joinedFacts;rw[XM,XN,XO,XP]
 kernel_rfl
