/-
  DERIVED. The tied card of Extracts: of all arguments and inputs, together of bulk at most 1048576, Extract answers what the reference answers. No other conditions.
-/
import Derived.Test.YtnfojonmohijpaaGreatDoorJZX1
import Derived.Test.YtnfojonmohijpaaGreatDoorCards
import Derived.Test.YtnfojonmohijpaaGreatDoorTie
import Derived.SevenTiedAt
set_option linter.all false
set_option maxRecDepth 100000
set_option maxHeartbeats 8000000
namespace Go.Proofs.YtnfojonmohijpaaGreatDoor
open Go
theorem extracts_card:Rows.ExtractsUptoCardSaid:=
 Claim7.holds_tied_plain_at .later [] _ _ _ _
  XW (fun _ h=>by cases h) (by kernel_rfl) (fun _ h=>by cases h) extractsUpto_row_tie rfl ⟨rfl,rfl⟩ (by kernel_rfl) (by kernel_rfl)
  (fun f fn d b=>by
   obtain rfl:f=8:=DC ((show Tryz.prog.funcNamed Rows.extractsUptoRow.func=some 8 by kernel_rfl).symm.trans d) |>.symm;obtain rfl:fn=Tryz.f8:=(DC (Tryz.func8.symm.trans b)).symm;exact⟨by kernel_rfl,fun j t c=>by
    rw[Tryz.params8]at c;have hm:t∈[43,9]:=by simpa using Array.mem_of_getElem? c
    have a:([43,9].all fun u=> !Tryz.prog.wantsStandIn u)=true:=by kernel_rfl
    exact(show Tryz.prog.wantsStandIn t=false by simpa using List.all_eq_true.1 a t hm)⟩)
  (by kernel_rfl)
