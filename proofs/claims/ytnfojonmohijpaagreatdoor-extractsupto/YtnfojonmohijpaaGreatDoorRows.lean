/-
  NARROWER THAN 'FOR EVERY INPUT', by the rows' own cells (each row's printed sentence says how): Plains: laid · Matches: laid · Trees: laid · Searches: laid · Tokened: laid · Extracts: laid · All: laid · Fitted: laid · Joined: laid · Repeated: laid · Found: laid · Marked: laid.
  DERIVED. THE GIVEN ROWS OF THIS SEAT. 12 by the template 'for every input the law returns true; each argument reads behind the call as it read before'; 0 by the template 'total and deterministic' (their statements: YtnfojonmohijpaaGreatDoorTotals.lean).
  GIVEN WITH THE SEED: the statements are not yours to turn. If you find one false, say at which input.
  Laid BY PROGRAM, IN A SANDBOX (cutbox-rows.mjs): the forced cells as the released guide's own fill.sh prints them over the translation d613784396e7bfca… (all of the seat's roots in one cut). By AI agents, Wed Nov 11 2026. No macro, syntax, notation, axiom, sorry.
-/
import Derived.Test.YtnfojonmohijpaaGreatDoorChecked
import GoSem.PinnedTables
import GoSem.Claim
import GoSem.ClaimJoined
import GoSem.ClaimMapViews
import Derived.JoinedTies
import Derived.KernelRfl
namespace Go.Proofs.YtnfojonmohijpaaGreatDoor
/- THE CELL 'sum', in the pinned program and in every row, IS THE sha256 OF THE DUMP (.gsa) THAT YtnfojonmohijpaaGreatDoorProg.lean LOADS. Nothing in Lean hashes anything: it is a label: what it is worth is what the hold of that sum in a sandbox is worth. -/
noncomputable def Tryz.pinned : Pinned := { name := "ytnfojonmohijpaagreatdoor", sum := "d613784396e7bfca27310a8fb073cef8780540f0e2422943fb5c1400ab741528", checked := Tryz.checked }
namespace Rows
def none {H : Type} : Left H := { results := [], args := [] }

/- WHAT THE LISTED PACKAGE-LEVEL VARIABLES READ AS WHEN THE CALL BEGINS. Each datum BY PROGRAM (the guide's laid-datum.mjs) off the statement by which the dump's own 'gosem.cut.vars' lays the variable. In a bare row this is a premise. The card (YtnfojonmohijpaaGreatDoorCards.lean) ties it to the program's text. -/
def laid_math_bits_deBruijn32tab {H : Type} : DataW H := .agg [.lit (.int .u8 0), .lit (.int .u8 1), .lit (.int .u8 28), .lit (.int .u8 2), .lit (.int .u8 29), .lit (.int .u8 14), .lit (.int .u8 24), .lit (.int .u8 3), .lit (.int .u8 30), .lit (.int .u8 22), .lit (.int .u8 20), .lit (.int .u8 15), .lit (.int .u8 25), .lit (.int .u8 17), .lit (.int .u8 4), .lit (.int .u8 8), .lit (.int .u8 31), .lit (.int .u8 27), .lit (.int .u8 13), .lit (.int .u8 23), .lit (.int .u8 21), .lit (.int .u8 19), .lit (.int .u8 16), .lit (.int .u8 7), .lit (.int .u8 26), .lit (.int .u8 12), .lit (.int .u8 18), .lit (.int .u8 6), .lit (.int .u8 11), .lit (.int .u8 5), .lit (.int .u8 10), .lit (.int .u8 9)]
def laid_math_bits_deBruijn64tab {H : Type} : DataW H := .agg [.lit (.int .u8 0), .lit (.int .u8 1), .lit (.int .u8 56), .lit (.int .u8 2), .lit (.int .u8 57), .lit (.int .u8 49), .lit (.int .u8 28), .lit (.int .u8 3), .lit (.int .u8 61), .lit (.int .u8 58), .lit (.int .u8 42), .lit (.int .u8 50), .lit (.int .u8 38), .lit (.int .u8 29), .lit (.int .u8 17), .lit (.int .u8 4), .lit (.int .u8 62), .lit (.int .u8 47), .lit (.int .u8 59), .lit (.int .u8 36), .lit (.int .u8 45), .lit (.int .u8 43), .lit (.int .u8 51), .lit (.int .u8 22), .lit (.int .u8 53), .lit (.int .u8 39), .lit (.int .u8 33), .lit (.int .u8 30), .lit (.int .u8 24), .lit (.int .u8 18), .lit (.int .u8 12), .lit (.int .u8 5), .lit (.int .u8 63), .lit (.int .u8 55), .lit (.int .u8 48), .lit (.int .u8 27), .lit (.int .u8 60), .lit (.int .u8 41), .lit (.int .u8 37), .lit (.int .u8 16), .lit (.int .u8 46), .lit (.int .u8 35), .lit (.int .u8 44), .lit (.int .u8 21), .lit (.int .u8 52), .lit (.int .u8 32), .lit (.int .u8 23), .lit (.int .u8 11), .lit (.int .u8 54), .lit (.int .u8 26), .lit (.int .u8 40), .lit (.int .u8 15), .lit (.int .u8 34), .lit (.int .u8 20), .lit (.int .u8 31), .lit (.int .u8 10), .lit (.int .u8 25), .lit (.int .u8 14), .lit (.int .u8 19), .lit (.int .u8 9), .lit (.int .u8 13), .lit (.int .u8 8), .lit (.int .u8 7), .lit (.int .u8 6)]
def laid_internal_strconv_uint64pow10 {H : Type} : DataW H := .agg [.lit (.int .u64 1), .lit (.int .u64 10), .lit (.int .u64 100), .lit (.int .u64 1000), .lit (.int .u64 10000), .lit (.int .u64 100000), .lit (.int .u64 1000000), .lit (.int .u64 10000000), .lit (.int .u64 100000000), .lit (.int .u64 1000000000), .lit (.int .u64 10000000000), .lit (.int .u64 100000000000), .lit (.int .u64 1000000000000), .lit (.int .u64 10000000000000), .lit (.int .u64 100000000000000), .lit (.int .u64 1000000000000000), .lit (.int .u64 10000000000000000), .lit (.int .u64 100000000000000000), .lit (.int .u64 1000000000000000000), .lit (.int .u64 10000000000000000000)]
def laid_yarrow_byteset_classNames {H : Type} : DataW H := .agg [.lit (.string [100, 105, 103, 105, 116]), .lit (.string [108, 111, 119, 101, 114]), .lit (.string [117, 112, 112, 101, 114]), .lit (.string [97, 108, 112, 104, 97]), .lit (.string [97, 108, 110, 117, 109]), .lit (.string [115, 112, 97, 99, 101]), .lit (.string [112, 117, 110, 99, 116])]
def laid_unicode_utf8_acceptRanges {H : Type} : DataW H := .agg [.agg [.lit (.int .u8 128), .lit (.int .u8 191)], .agg [.lit (.int .u8 160), .lit (.int .u8 191)], .agg [.lit (.int .u8 128), .lit (.int .u8 159)], .agg [.lit (.int .u8 144), .lit (.int .u8 191)], .agg [.lit (.int .u8 128), .lit (.int .u8 143)], .agg [.lit (.int .u8 0), .lit (.int .u8 0)], .agg [.lit (.int .u8 0), .lit (.int .u8 0)], .agg [.lit (.int .u8 0), .lit (.int .u8 0)], .agg [.lit (.int .u8 0), .lit (.int .u8 0)], .agg [.lit (.int .u8 0), .lit (.int .u8 0)], .agg [.lit (.int .u8 0), .lit (.int .u8 0)], .agg [.lit (.int .u8 0), .lit (.int .u8 0)], .agg [.lit (.int .u8 0), .lit (.int .u8 0)], .agg [.lit (.int .u8 0), .lit (.int .u8 0)], .agg [.lit (.int .u8 0), .lit (.int .u8 0)], .agg [.lit (.int .u8 0), .lit (.int .u8 0)]]
/-- One of Go's own tables, pinned by name: the form's constant. -/
def laid_unicode_utf8_first : DataW Unit := Go.Pinned.utf8First

/-- 'yarrowlaw.Plains': WHATEVER THE INPUT: true; the input reads as it did. -/
def plainsSpec : ChangeSpec := { name := "plains", fn := fun _ => fun
  | [d] => { results := [.lit (.bool true)], args := [d] }
  | _ => none }
def plainsRow : OpenClaim := { program := "ytnfojonmohijpaagreatdoor", sum := "d613784396e7bfca27310a8fb073cef8780540f0e2422943fb5c1400ab741528", func := "yarrow/yarrowlaw.Plains", spec := "plains", inPlace := ["internal/bytealg.IndexByteString", "internal/abi.NoEscape"], unfollowed := true, recurses := true, named := ["yarrow/byteset.classNames", "internal/strconv.uint64pow10", "math/bits.deBruijn32tab", "math/bits.deBruijn64tab"], apart := false, laid := [("math/bits.deBruijn32tab", laid_math_bits_deBruijn32tab), ("math/bits.deBruijn64tab", laid_math_bits_deBruijn64tab), ("internal/strconv.uint64pow10", laid_internal_strconv_uint64pow10), ("yarrow/byteset.classNames", laid_yarrow_byteset_classNames)] }
def PlainsSaid : Prop := plainsRow.holds Tryz.pinned (OpenSpec.ofChange plainsSpec)

/-- ITS FALSE NEIGHBOUR: 'it returns false'. Refute it at one input. -/
def plainsWrong : ChangeSpec := { name := "plains", fn := fun _ => fun
  | [d] => { results := [.lit (.bool false)], args := [d] }
  | _ => none }
def PlainsWrongFalsely : Prop := plainsRow.holds Tryz.pinned (OpenSpec.ofChange plainsWrong)

/-- 'yarrowlaw.Matches': WHATEVER THE INPUT: true; the input reads as it did. -/
def matchesSpec : ChangeSpec := { name := "matches", fn := fun _ => fun
  | [d1, d2] => { results := [.lit (.bool true)], args := [d1, d2] }
  | _ => none }
def matchesRow : OpenClaim := { program := "ytnfojonmohijpaagreatdoor", sum := "d613784396e7bfca27310a8fb073cef8780540f0e2422943fb5c1400ab741528", func := "yarrow/yarrowlaw.Matches", spec := "matches", inPlace := ["internal/bytealg.IndexByteString", "internal/abi.NoEscape"], unfollowed := true, recurses := true, named := ["yarrow/byteset.classNames", "internal/strconv.uint64pow10", "math/bits.deBruijn32tab", "math/bits.deBruijn64tab"], apart := false, laid := [("math/bits.deBruijn32tab", laid_math_bits_deBruijn32tab), ("math/bits.deBruijn64tab", laid_math_bits_deBruijn64tab), ("internal/strconv.uint64pow10", laid_internal_strconv_uint64pow10), ("yarrow/byteset.classNames", laid_yarrow_byteset_classNames)] }
def MatchesSaid : Prop := matchesRow.holds Tryz.pinned (OpenSpec.ofChange matchesSpec)

/-- ITS FALSE NEIGHBOUR: 'it returns false'. Refute it at one input. -/
def matchesWrong : ChangeSpec := { name := "matches", fn := fun _ => fun
  | [d1, d2] => { results := [.lit (.bool false)], args := [d1, d2] }
  | _ => none }
def MatchesWrongFalsely : Prop := matchesRow.holds Tryz.pinned (OpenSpec.ofChange matchesWrong)

/-- 'yarrowlaw.Trees': WHATEVER THE INPUT: true; the input reads as it did. -/
def treesSpec : ChangeSpec := { name := "trees", fn := fun _ => fun
  | [d1, d2, d3] => { results := [.lit (.bool true)], args := [d1, d2, d3] }
  | _ => none }
def treesRow : OpenClaim := { program := "ytnfojonmohijpaagreatdoor", sum := "d613784396e7bfca27310a8fb073cef8780540f0e2422943fb5c1400ab741528", func := "yarrow/yarrowlaw.Trees", spec := "trees", inPlace := ["internal/bytealg.IndexByteString"], unfollowed := true, recurses := true, named := ["yarrow/byteset.classNames"], apart := false, laid := [("yarrow/byteset.classNames", laid_yarrow_byteset_classNames)] }
def TreesSaid : Prop := treesRow.holds Tryz.pinned (OpenSpec.ofChange treesSpec)

/-- ITS FALSE NEIGHBOUR: 'it returns false'. Refute it at one input. -/
def treesWrong : ChangeSpec := { name := "trees", fn := fun _ => fun
  | [d1, d2, d3] => { results := [.lit (.bool false)], args := [d1, d2, d3] }
  | _ => none }
def TreesWrongFalsely : Prop := treesRow.holds Tryz.pinned (OpenSpec.ofChange treesWrong)

/-- 'yarrowlaw.Searches': WHATEVER THE INPUT: true; the input reads as it did. -/
def searchesSpec : ChangeSpec := { name := "searches", fn := fun _ => fun
  | [d1, d2, d3] => { results := [.lit (.bool true)], args := [d1, d2, d3] }
  | _ => none }
def searchesRow : OpenClaim := { program := "ytnfojonmohijpaagreatdoor", sum := "d613784396e7bfca27310a8fb073cef8780540f0e2422943fb5c1400ab741528", func := "yarrow/yarrowlaw.Searches", spec := "searches", inPlace := ["internal/bytealg.IndexByteString"], unfollowed := true, recurses := true, named := ["yarrow/byteset.classNames"], apart := false, laid := [("yarrow/byteset.classNames", laid_yarrow_byteset_classNames)] }
def SearchesSaid : Prop := searchesRow.holds Tryz.pinned (OpenSpec.ofChange searchesSpec)

/-- ITS FALSE NEIGHBOUR: 'it returns false'. Refute it at one input. -/
def searchesWrong : ChangeSpec := { name := "searches", fn := fun _ => fun
  | [d1, d2, d3] => { results := [.lit (.bool false)], args := [d1, d2, d3] }
  | _ => none }
def SearchesWrongFalsely : Prop := searchesRow.holds Tryz.pinned (OpenSpec.ofChange searchesWrong)

/-- 'yarrowlaw.Tokened': WHATEVER THE INPUT: true; the input reads as it did. -/
def tokenedSpec : ChangeSpec := { name := "tokened", fn := fun _ => fun
  | [d1, d2] => { results := [.lit (.bool true)], args := [d1, d2] }
  | _ => none }
def tokenedRow : OpenClaim := { program := "ytnfojonmohijpaagreatdoor", sum := "d613784396e7bfca27310a8fb073cef8780540f0e2422943fb5c1400ab741528", func := "yarrow/yarrowlaw.Tokened", spec := "tokened", inPlace := ["internal/bytealg.IndexByteString", "internal/bytealg.CountString", "internal/bytealg.IndexString"], unfollowed := true, recurses := true, named := ["yarrow/byteset.classNames", "internal/bytealg.MaxLen"], apart := false, laid := [("yarrow/byteset.classNames", laid_yarrow_byteset_classNames)] }
def TokenedSaid : Prop := tokenedRow.holds Tryz.pinned (OpenSpec.ofChange tokenedSpec)

/-- ITS FALSE NEIGHBOUR: 'it returns false'. Refute it at one input. -/
def tokenedWrong : ChangeSpec := { name := "tokened", fn := fun _ => fun
  | [d1, d2] => { results := [.lit (.bool false)], args := [d1, d2] }
  | _ => none }
def TokenedWrongFalsely : Prop := tokenedRow.holds Tryz.pinned (OpenSpec.ofChange tokenedWrong)

/-- 'yarrowlaw.Extracts': WHATEVER THE INPUT: true; the input reads as it did. -/
def extractsSpec : ChangeSpec := { name := "extracts", fn := fun _ => fun
  | [d1, d2] => { results := [.lit (.bool true)], args := [d1, d2] }
  | _ => none }
def extractsRow : OpenClaim := { program := "ytnfojonmohijpaagreatdoor", sum := "d613784396e7bfca27310a8fb073cef8780540f0e2422943fb5c1400ab741528", func := "yarrow/yarrowlaw.Extracts", spec := "extracts", inPlace := ["internal/bytealg.IndexByteString", "internal/bytealg.CountString", "internal/bytealg.IndexString", "internal/abi.NoEscape"], unfollowed := true, recurses := true, named := ["yarrow/byteset.classNames", "unicode/utf8.first", "unicode/utf8.acceptRanges", "internal/bytealg.MaxLen", "internal/strconv.uint64pow10", "math/bits.deBruijn32tab", "math/bits.deBruijn64tab"], apart := false, laid := [("math/bits.deBruijn32tab", laid_math_bits_deBruijn32tab), ("math/bits.deBruijn64tab", laid_math_bits_deBruijn64tab), ("internal/strconv.uint64pow10", laid_internal_strconv_uint64pow10), ("unicode/utf8.acceptRanges", laid_unicode_utf8_acceptRanges), ("yarrow/byteset.classNames", laid_yarrow_byteset_classNames), ("unicode/utf8.first", laid_unicode_utf8_first)] }
def ExtractsSaid : Prop := extractsRow.holds Tryz.pinned (OpenSpec.ofChange extractsSpec)

/-- ITS FALSE NEIGHBOUR: 'it returns false'. Refute it at one input. -/
def extractsWrong : ChangeSpec := { name := "extracts", fn := fun _ => fun
  | [d1, d2] => { results := [.lit (.bool false)], args := [d1, d2] }
  | _ => none }
def ExtractsWrongFalsely : Prop := extractsRow.holds Tryz.pinned (OpenSpec.ofChange extractsWrong)

/-- 'yarrowlaw.All': WHATEVER THE INPUT: true; the input reads as it did. -/
def allSpec : ChangeSpec := { name := "all", fn := fun _ => fun
  | [d] => { results := [.lit (.bool true)], args := [d] }
  | _ => none }
def allRow : OpenClaim := { program := "ytnfojonmohijpaagreatdoor", sum := "d613784396e7bfca27310a8fb073cef8780540f0e2422943fb5c1400ab741528", func := "yarrow/yarrowlaw.All", spec := "all", inPlace := ["internal/bytealg.IndexByteString", "internal/abi.NoEscape", "internal/bytealg.CountString", "internal/bytealg.IndexString"], unfollowed := true, recurses := true, named := ["yarrow/byteset.classNames", "internal/strconv.uint64pow10", "math/bits.deBruijn32tab", "math/bits.deBruijn64tab", "internal/bytealg.MaxLen", "unicode/utf8.first", "unicode/utf8.acceptRanges"], apart := false, laid := [("math/bits.deBruijn32tab", laid_math_bits_deBruijn32tab), ("math/bits.deBruijn64tab", laid_math_bits_deBruijn64tab), ("internal/strconv.uint64pow10", laid_internal_strconv_uint64pow10), ("unicode/utf8.acceptRanges", laid_unicode_utf8_acceptRanges), ("yarrow/byteset.classNames", laid_yarrow_byteset_classNames), ("unicode/utf8.first", laid_unicode_utf8_first)] }
def AllSaid : Prop := allRow.holds Tryz.pinned (OpenSpec.ofChange allSpec)

/-- ITS FALSE NEIGHBOUR: 'it returns false'. Refute it at one input. -/
def allWrong : ChangeSpec := { name := "all", fn := fun _ => fun
  | [d] => { results := [.lit (.bool false)], args := [d] }
  | _ => none }
def AllWrongFalsely : Prop := allRow.holds Tryz.pinned (OpenSpec.ofChange allWrong)

/-- 'yarrowkeep.Fitted': WHATEVER THE INPUT: true; the input reads as it did. -/
def fittedSpec : ChangeSpec := { name := "fitted", fn := fun _ => fun
  | [d1, d2] => { results := [.lit (.bool true)], args := [d1, d2] }
  | _ => none }
def fittedRow : OpenClaim := { program := "ytnfojonmohijpaagreatdoor", sum := "d613784396e7bfca27310a8fb073cef8780540f0e2422943fb5c1400ab741528", func := "yarrow/yarrowkeep.Fitted", spec := "fitted", inPlace := ["internal/bytealg.IndexByteString", "internal/abi.NoEscape"], unfollowed := true, recurses := true, named := ["yarrow/byteset.classNames", "internal/strconv.uint64pow10", "math/bits.deBruijn32tab", "math/bits.deBruijn64tab"], apart := false, laid := [("math/bits.deBruijn32tab", laid_math_bits_deBruijn32tab), ("math/bits.deBruijn64tab", laid_math_bits_deBruijn64tab), ("internal/strconv.uint64pow10", laid_internal_strconv_uint64pow10), ("yarrow/byteset.classNames", laid_yarrow_byteset_classNames)] }
def FittedSaid : Prop := fittedRow.holds Tryz.pinned (OpenSpec.ofChange fittedSpec)

/-- ITS FALSE NEIGHBOUR: 'it returns false'. Refute it at one input. -/
def fittedWrong : ChangeSpec := { name := "fitted", fn := fun _ => fun
  | [d1, d2] => { results := [.lit (.bool false)], args := [d1, d2] }
  | _ => none }
def FittedWrongFalsely : Prop := fittedRow.holds Tryz.pinned (OpenSpec.ofChange fittedWrong)

/-- 'yarrowkeep.Joined': WHATEVER THE INPUT: true; the input reads as it did. -/
def joinedSpec : ChangeSpec := { name := "joined", fn := fun _ => fun
  | [d1, d2, d3] => { results := [.lit (.bool true)], args := [d1, d2, d3] }
  | _ => none }
def joinedRow : OpenClaim := { program := "ytnfojonmohijpaagreatdoor", sum := "d613784396e7bfca27310a8fb073cef8780540f0e2422943fb5c1400ab741528", func := "yarrow/yarrowkeep.Joined", spec := "joined", inPlace := ["internal/bytealg.IndexByteString", "internal/abi.NoEscape"], unfollowed := true, recurses := true, named := ["yarrow/byteset.classNames", "internal/strconv.uint64pow10", "math/bits.deBruijn32tab", "math/bits.deBruijn64tab"], apart := false, laid := [("math/bits.deBruijn32tab", laid_math_bits_deBruijn32tab), ("math/bits.deBruijn64tab", laid_math_bits_deBruijn64tab), ("internal/strconv.uint64pow10", laid_internal_strconv_uint64pow10), ("yarrow/byteset.classNames", laid_yarrow_byteset_classNames)] }
def JoinedSaid : Prop := joinedRow.holds Tryz.pinned (OpenSpec.ofChange joinedSpec)

/-- ITS FALSE NEIGHBOUR: 'it returns false'. Refute it at one input. -/
def joinedWrong : ChangeSpec := { name := "joined", fn := fun _ => fun
  | [d1, d2, d3] => { results := [.lit (.bool false)], args := [d1, d2, d3] }
  | _ => none }
def JoinedWrongFalsely : Prop := joinedRow.holds Tryz.pinned (OpenSpec.ofChange joinedWrong)

/-- 'yarrowkeep.Repeated': WHATEVER THE INPUT: true; the input reads as it did. -/
def repeatedSpec : ChangeSpec := { name := "repeated", fn := fun _ => fun
  | [d1, d2, d3] => { results := [.lit (.bool true)], args := [d1, d2, d3] }
  | _ => none }
def repeatedRow : OpenClaim := { program := "ytnfojonmohijpaagreatdoor", sum := "d613784396e7bfca27310a8fb073cef8780540f0e2422943fb5c1400ab741528", func := "yarrow/yarrowkeep.Repeated", spec := "repeated", inPlace := ["internal/bytealg.IndexByteString", "internal/abi.NoEscape"], unfollowed := true, recurses := true, named := ["yarrow/byteset.classNames", "internal/strconv.uint64pow10", "math/bits.deBruijn32tab", "math/bits.deBruijn64tab"], apart := false, laid := [("math/bits.deBruijn32tab", laid_math_bits_deBruijn32tab), ("math/bits.deBruijn64tab", laid_math_bits_deBruijn64tab), ("internal/strconv.uint64pow10", laid_internal_strconv_uint64pow10), ("yarrow/byteset.classNames", laid_yarrow_byteset_classNames)] }
def RepeatedSaid : Prop := repeatedRow.holds Tryz.pinned (OpenSpec.ofChange repeatedSpec)

/-- ITS FALSE NEIGHBOUR: 'it returns false'. Refute it at one input. -/
def repeatedWrong : ChangeSpec := { name := "repeated", fn := fun _ => fun
  | [d1, d2, d3] => { results := [.lit (.bool false)], args := [d1, d2, d3] }
  | _ => none }
def RepeatedWrongFalsely : Prop := repeatedRow.holds Tryz.pinned (OpenSpec.ofChange repeatedWrong)

/-- 'yarrowkeep.Found': WHATEVER THE INPUT: true; the input reads as it did. -/
def foundSpec : ChangeSpec := { name := "found", fn := fun _ => fun
  | [d1, d2, d3] => { results := [.lit (.bool true)], args := [d1, d2, d3] }
  | _ => none }
def foundRow : OpenClaim := { program := "ytnfojonmohijpaagreatdoor", sum := "d613784396e7bfca27310a8fb073cef8780540f0e2422943fb5c1400ab741528", func := "yarrow/yarrowkeep.Found", spec := "found", inPlace := ["internal/bytealg.IndexByteString", "internal/abi.NoEscape"], unfollowed := true, recurses := true, named := ["yarrow/byteset.classNames", "internal/strconv.uint64pow10", "math/bits.deBruijn32tab", "math/bits.deBruijn64tab"], apart := false, laid := [("math/bits.deBruijn32tab", laid_math_bits_deBruijn32tab), ("math/bits.deBruijn64tab", laid_math_bits_deBruijn64tab), ("internal/strconv.uint64pow10", laid_internal_strconv_uint64pow10), ("yarrow/byteset.classNames", laid_yarrow_byteset_classNames)] }
def FoundSaid : Prop := foundRow.holds Tryz.pinned (OpenSpec.ofChange foundSpec)

/-- ITS FALSE NEIGHBOUR: 'it returns false'. Refute it at one input. -/
def foundWrong : ChangeSpec := { name := "found", fn := fun _ => fun
  | [d1, d2, d3] => { results := [.lit (.bool false)], args := [d1, d2, d3] }
  | _ => none }
def FoundWrongFalsely : Prop := foundRow.holds Tryz.pinned (OpenSpec.ofChange foundWrong)

/-- 'yarrowkeep.Marked': WHATEVER THE INPUT: true; the input reads as it did. -/
def markedSpec : ChangeSpec := { name := "marked", fn := fun _ => fun
  | [d1, d2] => { results := [.lit (.bool true)], args := [d1, d2] }
  | _ => none }
def markedRow : OpenClaim := { program := "ytnfojonmohijpaagreatdoor", sum := "d613784396e7bfca27310a8fb073cef8780540f0e2422943fb5c1400ab741528", func := "yarrow/yarrowkeep.Marked", spec := "marked", inPlace := ["internal/bytealg.IndexByteString", "internal/abi.NoEscape"], unfollowed := true, recurses := true, named := ["yarrow/byteset.classNames", "internal/strconv.uint64pow10", "math/bits.deBruijn32tab", "math/bits.deBruijn64tab"], apart := false, laid := [("math/bits.deBruijn32tab", laid_math_bits_deBruijn32tab), ("math/bits.deBruijn64tab", laid_math_bits_deBruijn64tab), ("internal/strconv.uint64pow10", laid_internal_strconv_uint64pow10), ("yarrow/byteset.classNames", laid_yarrow_byteset_classNames)] }
def MarkedSaid : Prop := markedRow.holds Tryz.pinned (OpenSpec.ofChange markedSpec)

/-- ITS FALSE NEIGHBOUR: 'it returns false'. Refute it at one input. -/
def markedWrong : ChangeSpec := { name := "marked", fn := fun _ => fun
  | [d1, d2] => { results := [.lit (.bool false)], args := [d1, d2] }
  | _ => none }
def MarkedWrongFalsely : Prop := markedRow.holds Tryz.pinned (OpenSpec.ofChange markedWrong)

/- THE SECOND FORM. 'bulk': how many values and letters a reading holds, each counted each time it is reached (what is shared counts as often as it is met; a slice's spare places count too). A statement '..UptoSaid' is the law's where the arguments, and the package variables that the reading takes, are together of bulk at most 1048576: NARROWER than '..Said'. Prove '..Said' where nothing that the law and all that it calls make is longer than what came in: it says more and counts as full. Else prove '..UptoSaid'. A law counts once. -/
mutual
def uptoBulk {H : Type} : DataW H → Nat
  | .lit (.string bytes) => bytes.length + 1
  | .lit _ => 1
  | .nil => 1
  | .ptr d => uptoBulk d + 1
  | .slice elems spare => uptoBulkAll elems + uptoBulkAll spare + 1
  | .agg parts => uptoBulkAll parts + 1
  | .iface _ d => uptoBulk d + 1
  | .map entries => uptoBulkEntries entries + 1
  | .held _ => 1
def uptoBulkAll {H : Type} : List (DataW H) → Nat
  | [] => 0
  | d :: r => uptoBulk d + uptoBulkAll r
def uptoBulkEntries {H : Type} : List (Lit × DataW H) → Nat
  | [] => 0
  | x :: r => uptoBulkEntry x + uptoBulkEntries r
def uptoBulkEntry {H : Type} : Lit × DataW H → Nat
  | (.string bytes, d) => bytes.length + uptoBulk d + 1
  | (_, d) => uptoBulk d + 1
 end
def uptoSmall : (H : Type) → List (DataW H) → Bool := fun _ ds => decide (uptoBulkAll ds ≤ 1048576)
def OpenSpec.upto (s : _root_.Go.ChangeSpec) : _root_.Go.OpenSpec := { _root_.Go.OpenSpec.ofChange s with cond := some uptoSmall }

/-- 'yarrowlaw.Plains', WHERE WHAT IT READS IS OF BULK AT MOST 1048576: true; the input reads as it did. -/
def plainsUptoRow : OpenClaim := { program := "ytnfojonmohijpaagreatdoor", sum := "d613784396e7bfca27310a8fb073cef8780540f0e2422943fb5c1400ab741528", func := "yarrow/yarrowlaw.Plains", spec := "plains", inPlace := ["internal/bytealg.IndexByteString", "internal/abi.NoEscape"], unfollowed := true, recurses := true, named := ["yarrow/byteset.classNames", "internal/strconv.uint64pow10", "math/bits.deBruijn32tab", "math/bits.deBruijn64tab"], apart := false, laid := [("math/bits.deBruijn32tab", laid_math_bits_deBruijn32tab), ("math/bits.deBruijn64tab", laid_math_bits_deBruijn64tab), ("internal/strconv.uint64pow10", laid_internal_strconv_uint64pow10), ("yarrow/byteset.classNames", laid_yarrow_byteset_classNames)], narrowed := true }
def PlainsUptoSaid : Prop := plainsUptoRow.holds Tryz.pinned (OpenSpec.upto plainsSpec)

/-- 'yarrowlaw.Matches', WHERE WHAT IT READS IS OF BULK AT MOST 1048576: true; the input reads as it did. -/
def matchesUptoRow : OpenClaim := { program := "ytnfojonmohijpaagreatdoor", sum := "d613784396e7bfca27310a8fb073cef8780540f0e2422943fb5c1400ab741528", func := "yarrow/yarrowlaw.Matches", spec := "matches", inPlace := ["internal/bytealg.IndexByteString", "internal/abi.NoEscape"], unfollowed := true, recurses := true, named := ["yarrow/byteset.classNames", "internal/strconv.uint64pow10", "math/bits.deBruijn32tab", "math/bits.deBruijn64tab"], apart := false, laid := [("math/bits.deBruijn32tab", laid_math_bits_deBruijn32tab), ("math/bits.deBruijn64tab", laid_math_bits_deBruijn64tab), ("internal/strconv.uint64pow10", laid_internal_strconv_uint64pow10), ("yarrow/byteset.classNames", laid_yarrow_byteset_classNames)], narrowed := true }
def MatchesUptoSaid : Prop := matchesUptoRow.holds Tryz.pinned (OpenSpec.upto matchesSpec)

/-- 'yarrowlaw.Trees', WHERE WHAT IT READS IS OF BULK AT MOST 1048576: true; the input reads as it did. -/
def treesUptoRow : OpenClaim := { program := "ytnfojonmohijpaagreatdoor", sum := "d613784396e7bfca27310a8fb073cef8780540f0e2422943fb5c1400ab741528", func := "yarrow/yarrowlaw.Trees", spec := "trees", inPlace := ["internal/bytealg.IndexByteString"], unfollowed := true, recurses := true, named := ["yarrow/byteset.classNames"], apart := false, laid := [("yarrow/byteset.classNames", laid_yarrow_byteset_classNames)], narrowed := true }
def TreesUptoSaid : Prop := treesUptoRow.holds Tryz.pinned (OpenSpec.upto treesSpec)

/-- 'yarrowlaw.Searches', WHERE WHAT IT READS IS OF BULK AT MOST 1048576: true; the input reads as it did. -/
def searchesUptoRow : OpenClaim := { program := "ytnfojonmohijpaagreatdoor", sum := "d613784396e7bfca27310a8fb073cef8780540f0e2422943fb5c1400ab741528", func := "yarrow/yarrowlaw.Searches", spec := "searches", inPlace := ["internal/bytealg.IndexByteString"], unfollowed := true, recurses := true, named := ["yarrow/byteset.classNames"], apart := false, laid := [("yarrow/byteset.classNames", laid_yarrow_byteset_classNames)], narrowed := true }
def SearchesUptoSaid : Prop := searchesUptoRow.holds Tryz.pinned (OpenSpec.upto searchesSpec)

/-- 'yarrowlaw.Tokened', WHERE WHAT IT READS IS OF BULK AT MOST 1048576: true; the input reads as it did. -/
def tokenedUptoRow : OpenClaim := { program := "ytnfojonmohijpaagreatdoor", sum := "d613784396e7bfca27310a8fb073cef8780540f0e2422943fb5c1400ab741528", func := "yarrow/yarrowlaw.Tokened", spec := "tokened", inPlace := ["internal/bytealg.IndexByteString", "internal/bytealg.CountString", "internal/bytealg.IndexString"], unfollowed := true, recurses := true, named := ["yarrow/byteset.classNames", "internal/bytealg.MaxLen"], apart := false, laid := [("yarrow/byteset.classNames", laid_yarrow_byteset_classNames)], narrowed := true }
def TokenedUptoSaid : Prop := tokenedUptoRow.holds Tryz.pinned (OpenSpec.upto tokenedSpec)

/-- 'yarrowlaw.Extracts', WHERE WHAT IT READS IS OF BULK AT MOST 1048576: true; the input reads as it did. -/
def extractsUptoRow : OpenClaim := { program := "ytnfojonmohijpaagreatdoor", sum := "d613784396e7bfca27310a8fb073cef8780540f0e2422943fb5c1400ab741528", func := "yarrow/yarrowlaw.Extracts", spec := "extracts", inPlace := ["internal/bytealg.IndexByteString", "internal/bytealg.CountString", "internal/bytealg.IndexString", "internal/abi.NoEscape"], unfollowed := true, recurses := true, named := ["yarrow/byteset.classNames", "unicode/utf8.first", "unicode/utf8.acceptRanges", "internal/bytealg.MaxLen", "internal/strconv.uint64pow10", "math/bits.deBruijn32tab", "math/bits.deBruijn64tab"], apart := false, laid := [("math/bits.deBruijn32tab", laid_math_bits_deBruijn32tab), ("math/bits.deBruijn64tab", laid_math_bits_deBruijn64tab), ("internal/strconv.uint64pow10", laid_internal_strconv_uint64pow10), ("unicode/utf8.acceptRanges", laid_unicode_utf8_acceptRanges), ("yarrow/byteset.classNames", laid_yarrow_byteset_classNames), ("unicode/utf8.first", laid_unicode_utf8_first)], narrowed := true }
def ExtractsUptoSaid : Prop := extractsUptoRow.holds Tryz.pinned (OpenSpec.upto extractsSpec)

/-- 'yarrowlaw.All', WHERE WHAT IT READS IS OF BULK AT MOST 1048576: true; the input reads as it did. -/
def allUptoRow : OpenClaim := { program := "ytnfojonmohijpaagreatdoor", sum := "d613784396e7bfca27310a8fb073cef8780540f0e2422943fb5c1400ab741528", func := "yarrow/yarrowlaw.All", spec := "all", inPlace := ["internal/bytealg.IndexByteString", "internal/abi.NoEscape", "internal/bytealg.CountString", "internal/bytealg.IndexString"], unfollowed := true, recurses := true, named := ["yarrow/byteset.classNames", "internal/strconv.uint64pow10", "math/bits.deBruijn32tab", "math/bits.deBruijn64tab", "internal/bytealg.MaxLen", "unicode/utf8.first", "unicode/utf8.acceptRanges"], apart := false, laid := [("math/bits.deBruijn32tab", laid_math_bits_deBruijn32tab), ("math/bits.deBruijn64tab", laid_math_bits_deBruijn64tab), ("internal/strconv.uint64pow10", laid_internal_strconv_uint64pow10), ("unicode/utf8.acceptRanges", laid_unicode_utf8_acceptRanges), ("yarrow/byteset.classNames", laid_yarrow_byteset_classNames), ("unicode/utf8.first", laid_unicode_utf8_first)], narrowed := true }
def AllUptoSaid : Prop := allUptoRow.holds Tryz.pinned (OpenSpec.upto allSpec)

/-- 'yarrowkeep.Fitted', WHERE WHAT IT READS IS OF BULK AT MOST 1048576: true; the input reads as it did. -/
def fittedUptoRow : OpenClaim := { program := "ytnfojonmohijpaagreatdoor", sum := "d613784396e7bfca27310a8fb073cef8780540f0e2422943fb5c1400ab741528", func := "yarrow/yarrowkeep.Fitted", spec := "fitted", inPlace := ["internal/bytealg.IndexByteString", "internal/abi.NoEscape"], unfollowed := true, recurses := true, named := ["yarrow/byteset.classNames", "internal/strconv.uint64pow10", "math/bits.deBruijn32tab", "math/bits.deBruijn64tab"], apart := false, laid := [("math/bits.deBruijn32tab", laid_math_bits_deBruijn32tab), ("math/bits.deBruijn64tab", laid_math_bits_deBruijn64tab), ("internal/strconv.uint64pow10", laid_internal_strconv_uint64pow10), ("yarrow/byteset.classNames", laid_yarrow_byteset_classNames)], narrowed := true }
def FittedUptoSaid : Prop := fittedUptoRow.holds Tryz.pinned (OpenSpec.upto fittedSpec)

/-- 'yarrowkeep.Joined', WHERE WHAT IT READS IS OF BULK AT MOST 1048576: true; the input reads as it did. -/
def joinedUptoRow : OpenClaim := { program := "ytnfojonmohijpaagreatdoor", sum := "d613784396e7bfca27310a8fb073cef8780540f0e2422943fb5c1400ab741528", func := "yarrow/yarrowkeep.Joined", spec := "joined", inPlace := ["internal/bytealg.IndexByteString", "internal/abi.NoEscape"], unfollowed := true, recurses := true, named := ["yarrow/byteset.classNames", "internal/strconv.uint64pow10", "math/bits.deBruijn32tab", "math/bits.deBruijn64tab"], apart := false, laid := [("math/bits.deBruijn32tab", laid_math_bits_deBruijn32tab), ("math/bits.deBruijn64tab", laid_math_bits_deBruijn64tab), ("internal/strconv.uint64pow10", laid_internal_strconv_uint64pow10), ("yarrow/byteset.classNames", laid_yarrow_byteset_classNames)], narrowed := true }
def JoinedUptoSaid : Prop := joinedUptoRow.holds Tryz.pinned (OpenSpec.upto joinedSpec)

/-- 'yarrowkeep.Repeated', WHERE WHAT IT READS IS OF BULK AT MOST 1048576: true; the input reads as it did. -/
def repeatedUptoRow : OpenClaim := { program := "ytnfojonmohijpaagreatdoor", sum := "d613784396e7bfca27310a8fb073cef8780540f0e2422943fb5c1400ab741528", func := "yarrow/yarrowkeep.Repeated", spec := "repeated", inPlace := ["internal/bytealg.IndexByteString", "internal/abi.NoEscape"], unfollowed := true, recurses := true, named := ["yarrow/byteset.classNames", "internal/strconv.uint64pow10", "math/bits.deBruijn32tab", "math/bits.deBruijn64tab"], apart := false, laid := [("math/bits.deBruijn32tab", laid_math_bits_deBruijn32tab), ("math/bits.deBruijn64tab", laid_math_bits_deBruijn64tab), ("internal/strconv.uint64pow10", laid_internal_strconv_uint64pow10), ("yarrow/byteset.classNames", laid_yarrow_byteset_classNames)], narrowed := true }
def RepeatedUptoSaid : Prop := repeatedUptoRow.holds Tryz.pinned (OpenSpec.upto repeatedSpec)

/-- 'yarrowkeep.Found', WHERE WHAT IT READS IS OF BULK AT MOST 1048576: true; the input reads as it did. -/
def foundUptoRow : OpenClaim := { program := "ytnfojonmohijpaagreatdoor", sum := "d613784396e7bfca27310a8fb073cef8780540f0e2422943fb5c1400ab741528", func := "yarrow/yarrowkeep.Found", spec := "found", inPlace := ["internal/bytealg.IndexByteString", "internal/abi.NoEscape"], unfollowed := true, recurses := true, named := ["yarrow/byteset.classNames", "internal/strconv.uint64pow10", "math/bits.deBruijn32tab", "math/bits.deBruijn64tab"], apart := false, laid := [("math/bits.deBruijn32tab", laid_math_bits_deBruijn32tab), ("math/bits.deBruijn64tab", laid_math_bits_deBruijn64tab), ("internal/strconv.uint64pow10", laid_internal_strconv_uint64pow10), ("yarrow/byteset.classNames", laid_yarrow_byteset_classNames)], narrowed := true }
def FoundUptoSaid : Prop := foundUptoRow.holds Tryz.pinned (OpenSpec.upto foundSpec)

/-- 'yarrowkeep.Marked', WHERE WHAT IT READS IS OF BULK AT MOST 1048576: true; the input reads as it did. -/
def markedUptoRow : OpenClaim := { program := "ytnfojonmohijpaagreatdoor", sum := "d613784396e7bfca27310a8fb073cef8780540f0e2422943fb5c1400ab741528", func := "yarrow/yarrowkeep.Marked", spec := "marked", inPlace := ["internal/bytealg.IndexByteString", "internal/abi.NoEscape"], unfollowed := true, recurses := true, named := ["yarrow/byteset.classNames", "internal/strconv.uint64pow10", "math/bits.deBruijn32tab", "math/bits.deBruijn64tab"], apart := false, laid := [("math/bits.deBruijn32tab", laid_math_bits_deBruijn32tab), ("math/bits.deBruijn64tab", laid_math_bits_deBruijn64tab), ("internal/strconv.uint64pow10", laid_internal_strconv_uint64pow10), ("yarrow/byteset.classNames", laid_yarrow_byteset_classNames)], narrowed := true }
def MarkedUptoSaid : Prop := markedUptoRow.holds Tryz.pinned (OpenSpec.upto markedSpec)

end Rows
end Go.Proofs.YtnfojonmohijpaaGreatDoor
