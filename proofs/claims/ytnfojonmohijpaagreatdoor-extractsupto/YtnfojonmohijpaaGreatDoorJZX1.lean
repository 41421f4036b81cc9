/-
  DERIVED. The row of Extracts: the witness, the lifting of the law's contract.
-/
import Derived.Test.YtnfojonmohijpaaGreatDoorJEM
import Derived.Test.YtnfojonmohijpaaGreatDoorJZX0
import Derived.Deep.DeepHandedRow
import Derived.Lay
set_option linter.all false
set_option maxRecDepth 100000
set_option maxHeartbeats 8000000
namespace Go.Proofs.YtnfojonmohijpaaGreatDoor
open Go.ChangeShapes Go.WideShapes Go.ChangeAt Go.WideMaps Go.WideElems Go.RowKit
theorem XR:laidOutB Tryz.prog=true:=by kernel_rfl
theorem XS(os:Os){H:Type}(a:TypeId×Value->H):∃places,DataW.whole a Tryz.prog ((World.laidAll Tryz.prog os Rows.extractsUptoRow.laid).forCall (fun _ _=>0) ⟨#[],#[.slice none 0 0,.string .empty],[]⟩).memory Tryz.f8.params.toList Rows.extractsSpec.vars false #[Value.slice none 0 0,.string .empty].toList 8=some ([.nil,.lit (.string [])],[],places):=
 ⟨[],by kernel_rfl⟩
theorem XT(os:Os):laidMetH Tryz.prog Rows.extractsUptoRow.laid ((World.laidAll Tryz.prog os Rows.extractsUptoRow.laid).forCall (fun _ _=>0) ⟨#[],#[.slice none 0 0,.string .empty],[]⟩).memory:=by
 rw[MakeChecks.laidMetH_plain _ _ _ (by kernel_rfl)];exact laidMet_laidAll _ (by kernel_rfl) (by kernel_rfl)
theorem XU(os:Os):((World.laidAll Tryz.prog os Rows.extractsUptoRow.laid).forCall (fun _ _=>0) ⟨#[],#[.slice none 0 0,.string .empty],[]⟩).Shaped Tryz.prog:=World.shaped_of_ZipB (by kernel_rfl) (by kernel_rfl)
theorem P2(os:Os):Input.okWideB Tryz.prog ((World.laidAll Tryz.prog os Rows.extractsUptoRow.laid).forCall (fun _ _=>0) ⟨#[],#[.slice none 0 0,.string .empty],[]⟩) 8 ⟨#[],#[.slice none 0 0,.string .empty],[]⟩=true:=by kernel_rfl
theorem XV(os:Os)(started:os.Started)(H:Type)(c:TypeId×Value->H)(F:Stop.Interp):ReturnsInHanded {} Tryz.checked os 8 .any ((Rows.OpenSpec.upto Rows.extractsSpec).preRow c Tryz.prog Tryz.f8 Rows.extractsUptoRow.domain false Rows.extractsUptoRow.laid) (((Rows.OpenSpec.upto Rows.extractsSpec).at F).post c Tryz.prog Tryz.f8 false true false false):=by
 obtain⟨places,B⟩:=XS os c;refine returnsInHanded_of_row (C:=Tryz.checked) (s:=Rows.OpenSpec.upto Rows.extractsSpec) W7 started (by kernel_rfl) Tryz.func8
  ⟨World.laidAll Tryz.prog os Rows.extractsUptoRow.laid,fun _ _=>0,⟨#[],#[.slice none 0 0,.string .empty],[]⟩,World.laidAll_os _ _ _,XU os,(Input.okWide_of_okWideB (base:=0) (P2 os)).1,(Input.okWide_of_okWideB (P2 os)).2,
   OpenSpec.preRow_of_cond 8 B (by kernel_rfl) (fun k i=>by cases i;kernel_rfl) (by kernel_rfl) (XT os),by
    simp only[Assume.holds];exact⟨by simp,by simp,fun _=>Modest.zero,by simp,by simp⟩⟩ ?_
 intro W base args ds gs before a z _ d _ D _ _;have b:∀(j:Nat) t v,Tryz.f8.params[j]? =some t->args[j]? =some v->Value.okWide Tryz.prog W .any base t v:=a;have n:=z;obtain⟨p,q,f,E,rfl,G,I⟩:=z;have A:DataW.TrodAll c Tryz.prog W 0 (fun _=>true) true Tryz.f8.params.toList args.toList ds p:=f;rw[Tryz.params8]at A b;obtain⟨v0,v1,d0,d1,p0,p1,rfl,rfl,rfl,o,J⟩:=trodAll_two A;obtain⟨rfl,rfl⟩:=trodVars_none E;have r:=d _ rfl;have hle:=of_decide_eq_true r;simp only[Rows.uptoBulkAll,CT]at hle;have u:∀x∈p0,x.block<W.heap.size:=by obtain⟨m,hm⟩:=o;exact DataW.trod_lt m _ _ _ hm
 obtain⟨l,K,hb⟩:=W5 (b 0 43 v0 rfl rfl) o;obtain⟨L,rfl,rfl,rfl,M⟩:=ChangeMaps.open_string GQ (b 1 9 v1 rfl rfl) J;obtain⟨w,y⟩:=XL D;clear f a;refine(W1 v0 l L W K (by omega) (by omega) w y).mono fun e N⟨he,i⟩=>?_
 subst he;have g:=Ed i (AP _) (by simp);exact⟨_,rfl,_,_,_,[],_,[],n,trodAll_mk1 (shut_bool Tryz.underlying4 _),(trodAll_cons_mk (Below.trod XR (by kernel_rfl) (of_decide_eq_true (by kernel_rfl)) o g u) (trodAll_mk1 (ChangeMaps.shut_string GQ M))),rfl,g.frame _,fun h=>by cases h⟩
theorem XW:Rows.ExtractsUptoSaid:=
 OpenClaim.holds_of_cond 8 Tryz.f8 rfl rfl rfl rfl rfl rfl rfl ⟨rfl,rfl,rfl,rfl,rfl⟩ rfl rfl rfl rfl rfl (by kernel_rfl) Tryz.func8 XQ
  (of_decide_eq_true (by kernel_rfl)) (by unfold Func.isWrapper;first|(rw[AL (by decide+kernel)];kernel_rfl)|(rw[AK (by decide+kernel)];exact⟨rfl,rfl⟩))
  (fun os started H a _ F=>by rw[OpenClaim.pre_eq_preRow];exact XV os started H a F)
