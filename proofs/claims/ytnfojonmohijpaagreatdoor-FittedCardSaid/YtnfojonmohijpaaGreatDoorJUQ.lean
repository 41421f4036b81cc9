/-
  DERIVED. The program's wayFits, over pieceFits of what is smaller. No conditions.
-/
import Derived.Test.YtnfojonmohijpaaGreatDoorJFC
import Derived.Test.YtnfojonmohijpaaGreatDoorJNA
import Derived.Test.YtnfojonmohijpaaGreatDoorJPC
import Derived.Test.YtnfojonmohijpaaGreatDoorJTF0
set_option linter.unusedSimpArgs false
set_option linter.unusedVariables false
namespace Go.Proofs.YtnfojonmohijpaaGreatDoor
open Go.RowKit
theorem alloc_pieceU (w : World) : (Instr.alloc 212 true (.tuple #[])).run Tryz.prog w = .ok (.pointer (some ⟨w.heap.size, 0, none⟩)) (w.alloc (.cells pz.toArray 212)) := by kernel_rfl
theorem wpList_zeroPieceU {ops : Array Oper} {rest : List Oper} {o : Oper} {a : Act} {w : World} {Q : Exit → Act → World → Prop} (hg : o.guard = none) (ho : o.op = .alloc 212) (d : Option Tmp) (hd : o.dst = d)
    (h : wpList Tryz.prog ops Q rest (a.put d (.pointer (some ⟨w.heap.size, 0, none⟩))) (w.alloc (.cells pz.toArray 212))) : wpList Tryz.prog ops Q (o :: rest) a w := by
 subst hd
 refine wpList_plain hg fun K hK => ?_
 unfold Oper.wp execOp
 simp only [ho, Sem.run_bind, alloc_pieceU, Sem.run_pure, Result.andThen_ok]
 exact hK _ _ h
theorem infoPcU (cs : List Value) (h : cs.length = 261) : (Tryz.prog.info? 212).map (·.size) = some cs.length := by rw [h]; kernel_rfl
theorem Rep.isPl {w : World} {S : Nat → Prop} {x : Pat} {cs : List Value} (h : Rep w S .plist x cs) : isP x := by
 generalize hk : Kr.plist = k at h
 induction h with
 | pnil => trivial
 | pcons _ _ _ _ _ _ _ ih => exact ih rfl
 | _ => cases hk
theorem way_kind {x : Pat} (h : isP x) : ((pl x).length = 0 ∧ x = .pnil) ∨ ((pl x).length = 1 ∧ ∃ y, x = .pcons y .pnil) ∨ (2 ≤ (pl x).length ∧ ∃ y z r, x = .pcons y (.pcons z r)) := by
 cases x with
 | pnil => exact Or.inl ⟨rfl, rfl⟩
 | pcons y r =>
  cases r with
  | pnil => exact Or.inr (Or.inl ⟨rfl, y, rfl⟩)
  | pcons z r => exact Or.inr (Or.inr ⟨by simp [pl], y, z, r, rfl⟩)
  | _ => exact h.elim
 | _ => exact h.elim
set_option maxRecDepth 100000 in
set_option maxHeartbeats 4000000 in
theorem wayFits_any (n : Nat) (IP : PieceF n) : WayF (n + 1) := by
 intro x hx w S S' v a b c t hrep htv
 obtain ⟨rfl, rfl, va, vn, vc, rfl⟩ := htv.face
 cases hrep with
 | way _ cs _ pn hpl hown hSv =>
 obtain ⟨pa, pn', pc, rfl⟩ := ownsRow_sl hown
 obtain rfl := ownsRow_lenT hown
 have hP := hpl.isPl
 obtain ⟨_, hcl, hat⟩ := hpl.pl_text
 have HL : Hid (pn' = (pl x).length) := by
  have := hown.1
  show pn' = (pl x).length
  omega
 have hpm : (pn' : Int) ≤ 9223372036854775807 := by
  rcases hown.2 with ⟨_, e⟩ | ⟨g, cap, cur, _, _, _, h1, h2, _⟩
  ·omega
  ·unfold maxLen at h2; omega
 have hpc : ∀ (d : Nat) (y : Pat), (pl x)[d]? = some y → ∃ g es, pa = some ⟨g, 0, none⟩ ∧ Rep w S .piece y es ∧ y.sz < x.sz ∧ es.length = 261 ∧ ∀ X' : World, Keeps [] w X' → X'.rangeAt g (d * 261) es := by
  intro d y hy
  obtain ⟨es, h1, h2, h3⟩ := hat d y hy
  have h8 : es.length = 261 := h1.cells.2
  have hd : d < pn' := by have := HL.out; have := (List.getElem?_eq_some_iff.1 hy).1; omega
  obtain ⟨g, cap, hv, _, hgl⟩ := hown.form (by omega)
  cases hv
  refine ⟨g, es, rfl, h1, h3, h8, fun X' hk q u hu => ?_⟩
  have hq : q < 261 := by rw [← h8]; exact (List.getElem?_eq_some_iff.1 hu).1
  exact (World.cell?_of_block (hk.block g hgl (by simp))).trans ((World.ownsRow.cellAt hown (d * 261 + q) (by omega)).trans (h2 q u hu))
 have h3 : P3 (w.alloc (.cells #[.int .u8 t.ltr, .int .i64 t.num, .slice va vn vc] 88)) w.heap.size (.int .u8 t.ltr) (.int .i64 t.num) (.slice va vn vc) := heap_alloc_new w _
 have hk0 : Keeps [] w (w.alloc (.cells #[.int .u8 t.ltr, .int .i64 t.num, .slice va vn vc] 88)) := (Keeps.refl [] w).alloc _
 obtain ⟨d0, d1, d2⟩ := h3.main
 clear hcl hat
 go_enter Tryz.func133, Tryz.ntmps133
 go_upto_region 1 with (fail)
 generalize w.alloc (.cells #[.int .u8 t.ltr, .int .i64 t.num, .slice va vn vc] 88) = W at *
 obtain ⟨g3, hg3⟩ : ∃ g, w.heap.size = g := ⟨_, rfl⟩
 rw [hg3] at h3 d0 d1 d2 ⊢
 rcases way_kind hP with ⟨h0, rfl⟩ | ⟨h1, y, rfl⟩ | ⟨hge, y, z, r, rfl⟩
 ·have hp0 : ((pn' : Int) == 0) = true := by have := HL.out; simp; omega
  by_cases hb : t.ltr = 101
  ·have hkE : ((t.ltr : Int) == 101) = true := by simp; omega
   have HF : Hid (Ft .pnil t) := by
    show Ft .pnil t
    cases t <;> simp [Tr.ltr] at hb
    exact .nil
   clear hb h0
   go_wp2_with fail
   go_ret
   exact ⟨_, rfl, ⟨fun _ => HF.out, fun _ => rfl⟩, hk0⟩
  ·have hkE : ((t.ltr : Int) == 101) = false := by simp; omega
   have HF : Hid (¬ Ft .pnil t) := fun h => by cases h; exact hb rfl
   clear hb h0
   go_wp2_with fail
   go_ret
   exact ⟨_, rfl, ⟨(nomatch ·), fun h => absurd h HF.out⟩, hk0⟩
 ·have hp0 : ((pn' : Int) == 0) = false := by have := HL.out; simp; omega
  have hp1 : ((pn' : Int) == 1) = true := by have := HL.out; simp; omega
  have hpp : (0 : Int) < (pn' : Int) := by have := HL.out; omega
  have hpp' : 0 < pn' := by have := HL.out; omega
  obtain ⟨gp, es, rfl, hmy, hysz, h8, hrg⟩ := hpc 0 y rfl
  have hisz8 := infoPcU es h8
  have hi3 : (Tryz.prog.info? 88).map (·.size) = some [Value.int .u8 t.ltr, .int .i64 t.num, .slice va vn vc].length := by kernel_rfl
  have hS0 : P3 W.drew g3 (.int .u8 t.ltr) (.int .i64 t.num) (.slice va vn vc) ∧ Keeps [] w W.drew := ⟨h3, hk0.drewN 1⟩
  clear h1
  go_upto_region 5 with (fail)
  refine wp_region_held (S := fun X => P3 X g3 (.int .u8 t.ltr) (.int .i64 t.num) (.slice va vn vc) ∧ Keeps [] w X) (by kernel_rfl) ?_
  change wpAnyH _ _ _ _ _ _ _ _ (World.drew _)
  generalize W.drew = X0 at *
  refine wpAnyH_tk 0 _ (some 16) (.slice (some ⟨gp, 0, none⟩) pn' pc) rfl rfl (by kernel_rfl) (by kernel_rfl) (by kernel_rfl) (fun _ _ _ h => h) (Or.inl ⟨by rfl, fun X hX => by go_simp⟩) hS0 ?_
  simp only [Act.put, List.setIfInBounds_toArray, List.set_cons_zero, List.set_cons_succ]
  refine wpAnyH_tk 1 _ (some 17) (.pointer (some ⟨gp, 0 * 261, none⟩)) rfl rfl (by kernel_rfl) (by kernel_rfl) (by kernel_rfl) (fun _ _ _ h => h) (Or.inl ⟨by rfl, fun X hX => by go_simp⟩) hS0 ?_
  simp only [Act.put, List.setIfInBounds_toArray, List.set_cons_zero, List.set_cons_succ]
  refine wpAnyH_tk 2 _ (some 18) (.agg es.toArray) rfl rfl (by kernel_rfl) (by kernel_rfl) (by kernel_rfl) (fun _ _ _ h => h) (yieldsIf_load_mid (by rfl) 212 _ rfl gp (0 * 261) rfl es _ (fun X hX => hrg X hX.2) Tryz.underlying212 rfl hisz8) hS0 ?_
  simp only [Act.put, List.setIfInBounds_toArray, List.set_cons_zero, List.set_cons_succ]
  refine wpAnyH_tk 3 _ (some 19) (.agg #[.int .u8 t.ltr, .int .i64 t.num, .slice va vn vc]) rfl rfl (by kernel_rfl) (by kernel_rfl) (by kernel_rfl) (fun _ _ _ h => h) (yieldsIf_load_mid (by rfl) 88 _ rfl g3 0 rfl [.int .u8 t.ltr, .int .i64 t.num, .slice va vn vc] _ (fun X hX => rangeAll hX.1) Tryz.underlying88 rfl hi3) hS0 ?_
  simp only [Act.put, List.setIfInBounds_toArray, List.set_cons_zero, List.set_cons_succ]
  refine wpAnyH_ready (rs := [4]) (by kernel_rfl) (by simp) ?_
  refine AllReadyH.cons rfl (fun K hK => ?_) AllReadyH.nil
  go_simp
  refine (IP y (by omega) X0 S S' es _ _ _ t (hmy.keep hS0.2 (by simp)) (htv.keep hS0.2 (by simp))).mono ?_
  rintro e w1 ⟨b, rfl, hbi, hk1⟩
  have hS1 : P3 w1 g3 (.int .u8 t.ltr) (.int .i64 t.num) (.slice va vn vc) ∧ Keeps [] w w1 := ⟨hS0.1.keep hk1 (by simp), hS0.2.trans hk1⟩
  refine hK.out _ _ hS1 (fun _ => ?_)
  clear hK K
  refine wpAnyH_tk 5 _ (some 4) (.bool b) rfl rfl (by kernel_rfl) (by kernel_rfl) (by kernel_rfl) (fun _ _ _ h => h) (Or.inl ⟨by rfl, fun X hX => by go_simp⟩) hS1 ?_
  simp only [Act.put, List.setIfInBounds_toArray, List.set_cons_zero, List.set_cons_succ]
  refine wpAnyH_done (by kernel_rfl) ?_ _
  go_wp2_with fail
  go_ret
  exact ⟨b, rfl, ⟨fun h => .lone y t (hbi.1 h), fun h => by cases h; exact hbi.2 (by assumption)⟩, hS1.2⟩
 ·have hp0 : ((pn' : Int) == 0) = false := by have := HL.out; simp; omega
  have hp1 : ((pn' : Int) == 1) = false := by have := HL.out; simp; omega
  by_cases hb : t.ltr = 115
  ·obtain ⟨l, rfl⟩ : ∃ l, t = .tser l := by cases t <;> simp [Tr.ltr] at hb; exact ⟨_, rfl⟩
   have e1 : (((Tr.tser l).ltr : Nat) : Int) = 115 := rfl
   have e2 : (((Tr.tser l).num : Nat) : Int) = 0 := rfl
   rw [e1] at h3 d0 ⊢
   rw [e2] at h3 d1 ⊢
   cases htv with
   | tser _ _ m rs hrow hownt hSt =>
   obtain rfl := ownsRow_lenT hownt
   obtain ⟨hcl, _, hatt⟩ := hrow.tl_at
   have HK : Hid (vn = (tl l).length) := by
    have := hownt.1
    show vn = (tl l).length
    omega
   have hvm : (vn : Int) ≤ 9223372036854775807 := by
    rcases hownt.2 with ⟨_, e⟩ | ⟨g, cap, cur, _, _, _, h1, h2, _⟩
    ·omega
    ·unfold maxLen at h2; omega
   clear hb e1 e2 hcl hge
   by_cases hlen : vn = pn'
   ·subst hlen
    have hi3 : (Tryz.prog.info? 88).map (·.size) = some 3 := by kernel_rfl
    go_upto_region 9 with (fail)
    go_loopw [5, 6, 34] (fun _ _ q34 wr => ∃ i : Nat, q34 = .int .i64 i ∧ i ≤ vn ∧ (∀ (j : Nat) (p : Pat) (u : Tr), j < i → (pl (.pcons y (.pcons z r)))[j]? = some p → (tl l)[j]? = some u → Ft p u) ∧ Keeps [] W wr) (fun _ _ q _ => vn - (intOf q).toNat)
    case atStart => exact ⟨0, rfl, Nat.zero_le _, fun j p u h => absurd h (Nat.not_lt_zero _), Keeps.refl _ _⟩
    case round =>
     obtain ⟨i, rfl, hi', hall, hkr⟩ := hrel
     have HALL : Hid (∀ (j : Nat) (p : Pat) (u : Tr), j < i → (pl (.pcons y (.pcons z r)))[j]? = some p → (tl l)[j]? = some u → Ft p u) := hall
     clear hall
     have hkB := hk0.trans hkr
     have h3r := h3.keep hkr (by simp)
     by_cases hlt : i < vn
     ·obtain ⟨p, hp⟩ : ∃ p, (pl (.pcons y (.pcons z r)))[i]? = some p := ⟨_, List.getElem?_eq_getElem (by have := HL.out; omega)⟩
      obtain ⟨u, hu⟩ : ∃ u, (tl l)[i]? = some u := ⟨_, List.getElem?_eq_getElem (by have := HK.out; omega)⟩
      obtain ⟨gp, es, hpa, hmy, hysz, h8, hrgp⟩ := hpc i p hp
      subst hpa
      obtain ⟨ds, hds, hdc, _, _⟩ := hatt i u hu
      obtain ⟨k1, n1, da, dn, dc, rfl⟩ := hds.form
      obtain ⟨gv, vc', hv, _, hgv⟩ := hownt.form (by omega)
      cases hv
      have hgv' : gv < w.heap.size := hgv
      have hrg : ∀ X : World, Keeps [] w X → X.rangeAt gv (i * 3) [.int .u8 k1, .int .i64 n1, .slice da dn dc] := fun X hk j z hz => by
       have hj : j < 3 := (List.getElem?_eq_some_iff.1 hz).1
       exact (World.cell?_of_block (hk.block gv hgv' (by simp))).trans ((World.ownsRow.cellAt hownt (i * 3 + j) (by omega)).trans (hdc j z hz))
      have hi0 : (0 : Int) ≤ (i : Int) := by omega
      have hi1 : (i : Int) < (vn : Int) := by omega
      have HI : Hid (i < vn) := hlt
      have HU : Hid ((pl (.pcons y (.pcons z r)))[i]? = some p ∧ (tl l)[i]? = some u) := ⟨hp, hu⟩
      have hinf := infoPcU es h8
      have hinf2 : (Tryz.prog.info? 212).map (·.size) = some es.toArray.size := by rw [List.size_toArray]; exact hinf
      have hzz : pz.toArray.size = es.toArray.size := by rw [List.size_toArray, List.size_toArray, pz_len, h8]
      have hone := one_all hmy.cells.1
      have hz0 : (wr.alloc (.cells pz.toArray 212)).heap[wr.heap.size]? = some (.cells pz.toArray 212 (0, 0)) := heap_alloc_new wr _
      have hq1 : ((wr.alloc (.cells pz.toArray 212)).setRow wr.heap.size es.toArray).heap[wr.heap.size]? = some (.cells es.toArray 212 (0, 0)) := setRow_heap _ _ _ _ _ _ hz0
      have hk4 : Keeps [] wr ((wr.alloc (.cells pz.toArray 212)).setRow wr.heap.size es.toArray) := ((Keeps.refl [] wr).alloc _).setRow (Or.inr (Nat.le_refl _)) _
      have hrp := hrgp wr hkB
      clear hi' hlt hp hu hatt hpc
      go_upto_region 11 with (first | (refine wpList_load_mid rfl 212 _ rfl gp (i * 261) rfl es _ hrp Tryz.underlying212 rfl hinf ?_) | (refine wpList_zeroPieceU rfl rfl (some 6) rfl ?_; generalize wr.alloc (.cells pz.toArray 212) = wz at *) | (refine wpList_store_row rfl 212 _ _ rfl wr.heap.size es.toArray rfl rfl _ _ hz0 hinf2 hzz hone ?_))
      obtain ⟨gq, hgq⟩ : ∃ g, wr.heap.size = g := ⟨_, rfl⟩
      rw [hgq] at hq1 hz0 hk4 ⊢
      generalize wz.setRow gq es.toArray = w2 at *
      have h3s := h3r.keep hk4 (by simp)
      have hkC := hkB.trans hk4
      have hkF := hkr.trans hk4
      have hS0 : w2.drew.heap[gq]? = some (.cells es.toArray 212 (0, 0)) ∧ P3 w2.drew g3 (.int .u8 115) (.int .i64 0) (.slice (some ⟨gv, 0, none⟩) vn vc) ∧ Keeps [] w2 w2.drew := ⟨hq1, h3s, (Keeps.refl [] w2).drewN 1⟩
      clear hz0 hk4
      refine wp_region_held (S := fun X => X.heap[gq]? = some (.cells es.toArray 212 (0, 0)) ∧ P3 X g3 (.int .u8 115) (.int .i64 0) (.slice (some ⟨gv, 0, none⟩) vn vc) ∧ Keeps [] w2 X) (by kernel_rfl) ?_
      change wpAnyH _ _ _ _ _ _ _ _ (World.drew _)
      generalize w2.drew = X0 at *
      refine wpAnyH_tk 0 _ (some 39) (.agg es.toArray) rfl rfl (by kernel_rfl) (by kernel_rfl) (by kernel_rfl) (fun _ _ _ h => h) (yieldsIf_load_mid (by rfl) 212 _ rfl gq 0 rfl es _ (fun X hX => rangeAll hX.1) Tryz.underlying212 rfl hinf) hS0 ?_
      simp only [Act.put, List.setIfInBounds_toArray, List.set_cons_zero, List.set_cons_succ]
      refine wpAnyH_tk 1 _ (some 40) (.pointer (some ⟨g3, 2, none⟩)) rfl rfl (by kernel_rfl) (by kernel_rfl) (by kernel_rfl) (fun _ _ _ h => h) (Or.inl ⟨by rfl, fun X hX => by go_simp⟩) hS0 ?_
      simp only [Act.put, List.setIfInBounds_toArray, List.set_cons_zero, List.set_cons_succ]
      refine wpAnyH_tk 2 _ (some 41) (.slice (some ⟨gv, 0, none⟩) vn vc) rfl rfl (by kernel_rfl) (by kernel_rfl) (by kernel_rfl) (fun _ _ _ h => h) (Or.inl ⟨by rfl, fun X hX => by (obtain ⟨q0, q1, q2⟩ := hX.2.1.main; go_simp)⟩) hS0 ?_
      simp only [Act.put, List.setIfInBounds_toArray, List.set_cons_zero, List.set_cons_succ]
      refine wpAnyH_tk 3 _ (some 42) (.int .i64 i) rfl rfl (by kernel_rfl) (by kernel_rfl) (by kernel_rfl) (fun _ _ _ h => h) (Or.inl ⟨by rfl, fun X hX => by go_simp⟩) hS0 ?_
      simp only [Act.put, List.setIfInBounds_toArray, List.set_cons_zero, List.set_cons_succ]
      refine wpAnyH_tk 4 _ (some 43) (.pointer (some ⟨gv, i * 3, none⟩)) rfl rfl (by kernel_rfl) (by kernel_rfl) (by kernel_rfl) (fun _ _ _ h => h) (Or.inl ⟨by rfl, fun X hX => by go_simp⟩) hS0 ?_
      simp only [Act.put, List.setIfInBounds_toArray, List.set_cons_zero, List.set_cons_succ]
      refine wpAnyH_tk 5 _ (some 44) (.agg #[.int .u8 k1, .int .i64 n1, .slice da dn dc]) rfl rfl (by kernel_rfl) (by kernel_rfl) (by kernel_rfl) (fun _ _ _ h => h) (yieldsIf_load_mid (by rfl) 88 _ rfl gv (i * 3) rfl [.int .u8 k1, .int .i64 n1, .slice da dn dc] _ (fun X hX => hrg X (hkC.trans hX.2.2)) Tryz.underlying88 rfl hi3) hS0 ?_
      simp only [Act.put, List.setIfInBounds_toArray, List.set_cons_zero, List.set_cons_succ]
      refine wpAnyH_ready (rs := [6]) (by kernel_rfl) (by simp) ?_
      refine AllReadyH.cons rfl (fun K hK => ?_) AllReadyH.nil
      go_simp
      refine (IP p (by omega) X0 S S' es _ _ _ u (hmy.keep (hkC.trans hS0.2.2) (by simp)) (hds.keep (hkC.trans hS0.2.2) (by simp))).mono ?_
      rintro e w4 ⟨b, rfl, hbi, hk5⟩
      have hS1 : w4.heap[gq]? = some (.cells es.toArray 212 (0, 0)) ∧ P3 w4 g3 (.int .u8 115) (.int .i64 0) (.slice (some ⟨gv, 0, none⟩) vn vc) ∧ Keeps [] w2 w4 := ⟨(hk5.block gq (Array.getElem?_eq_some_iff.1 hS0.1).1 (by simp)).trans hS0.1, hS0.2.1.keep hk5 (by simp), hS0.2.2.trans hk5⟩
      refine hK.out _ _ hS1 (fun _ => ?_)
      clear hK K
      have HB : Hid (b = true ↔ Ft p u) := hbi
      have hkD := hkC.trans hS1.2.2
      have hkE := hkF.trans hS1.2.2
      clear hbi
      cases b with
      | true =>
       refine wpAnyH_tk 7 _ (some 46) (.bool false) rfl rfl (by kernel_rfl) (by kernel_rfl) (by kernel_rfl) (fun _ _ _ h => h) (Or.inl ⟨by rfl, fun X hX => by go_simp⟩) hS1 ?_
       simp only [Act.put, List.setIfInBounds_toArray, List.set_cons_zero, List.set_cons_succ]
       refine wpAnyH_done (by kernel_rfl) ?_ _
       go_wp2_with fail
       go_roundw
       case rel => exact ⟨i + 1, by go_num, HI.out, fun j p' u' hj hp' hu' => by
         rcases Nat.lt_or_ge j i with h | h
         · exact HALL.out j p' u' h hp' hu'
         · obtain rfl : j = i := by omega
           obtain ⟨h1, h2⟩ := HU.out
           rw [h1] at hp'
           rw [h2] at hu'
           cases hp'
           cases hu'
           exact HB.out.1 (by trivial), hkE⟩
       case measure => have := HI.out; simp [intOf]; omega
      | false =>
       have HF : Hid (¬ Ft (.pcons y (.pcons z r)) (.tser l)) := fun h => by
        cases h with
        | ser _ _ _ _ h1 h2 => exact Bool.noConfusion (HB.out.2 (h2 i p u HU.out.1 HU.out.2))
       refine wpAnyH_tk 7 _ (some 46) (.bool true) rfl rfl (by kernel_rfl) (by kernel_rfl) (by kernel_rfl) (fun _ _ _ h => h) (Or.inl ⟨by rfl, fun X hX => by go_simp⟩) hS1 ?_
       simp only [Act.put, List.setIfInBounds_toArray, List.set_cons_zero, List.set_cons_succ]
       refine wpAnyH_done (by kernel_rfl) ?_ _
       go_wp2_with fail
       go_ret
       exact ⟨_, rfl, ⟨(nomatch ·), fun h => absurd h HF.out⟩, hkD⟩
     ·have hni : ¬ (i : Int) < (vn : Int) := by omega
      have HF : Hid (Ft (.pcons y (.pcons z r)) (.tser l)) := by
       have h5 := HK.out
       have h6 := HL.out
       refine .ser y z r l (by omega) fun j p' u' hp' hu' => ?_
       have := (List.getElem?_eq_some_iff.1 hu').1
       exact HALL.out j p' u' (by omega) hp' hu'
      clear hlt hi'
      go_wp2_with fail
      go_ret
      exact ⟨_, rfl, ⟨fun _ => HF.out, fun _ => rfl⟩, hkB⟩
   ·have hnE : ((vn : Int) == (pn' : Int)) = false := by simp; omega
    have hnN : ((vn : Int) != (pn' : Int)) = true := by simp; omega
    have hnE' : (vn == pn') = false := by simp; omega
    have HF : Hid (¬ Ft (.pcons y (.pcons z r)) (.tser l)) := fun h => by
     cases h with
     | ser _ _ _ _ h1 _ => apply hlen; have h3 := HL.out; have h4 := HK.out; omega
    clear hlen
    go_wp2_with fail
    go_ret
    exact ⟨_, rfl, ⟨(nomatch ·), fun h => absurd h HF.out⟩, hk0⟩
  ·have hkE : ((t.ltr : Int) == 115) = false := by simp; omega
   have hkN : ((t.ltr : Int) != 115) = true := by simp; omega
   have HF : Hid (¬ Ft (.pcons y (.pcons z r)) t) := fun h => by cases h; exact hb rfl
   clear hb
   go_wp2_with fail
   go_ret
   exact ⟨_, rfl, ⟨(nomatch ·), fun h => absurd h HF.out⟩, hk0⟩
end Go.Proofs.YtnfojonmohijpaaGreatDoor
namespace Go.Proofs.YtnfojonmohijpaaGreatDoor
open Go.RowKit
theorem Rep.isWl {w : World} {S : Nat → Prop} {x : Pat} {vs : List Value} (h : Rep w S .wlist x vs) : isW x := by
 generalize hk : Kr.wlist = k at h
 induction h with
 | wone => trivial
 | wcons _ _ _ _ _ _ _ ih => exact ih rfl
 | _ => cases hk
theorem wl_pos : ∀ {x : Pat}, isW x → 0 < (wl x).length
 | .wone _, _ => by simp [wl]
 | .wcons _ _, _ => by simp [wl]
theorem ways_kind {x : Pat} (h : isW x) : ((wl x).length = 1 ∧ ∃ y, x = .wone y) ∨ (2 ≤ (wl x).length ∧ ∃ y r, x = .wcons y r) := by
 cases x with
 | wone y => exact Or.inl ⟨rfl, y, rfl⟩
 | wcons y r => exact Or.inr ⟨by have := wl_pos (x := r) h; simp [wl]; omega, y, r, rfl⟩
 | _ => exact h.elim
set_option maxRecDepth 100000 in
set_option maxHeartbeats 4000000 in
theorem waysFit_any (n : Nat) (IW : WayF n) : WaysF (n + 1) := by
 intro x hx w S S' v a b c t hrep htv
 obtain ⟨rfl, rfl, va, vn, vc, rfl⟩ := htv.face
 cases hrep with
 | ways _ vs _ wn hwl hown hSv =>
 obtain ⟨wa, wn', wc, rfl⟩ := ownsRow_sl hown
 obtain rfl := ownsRow_lenT hown
 have hW := hwl.isWl
 obtain ⟨_, hll, hat⟩ := hwl.wl_text
 have HL : Hid (wn' = (wl x).length) := by
  have := hown.1
  show wn' = (wl x).length
  omega
 have hwm : (wn' : Int) ≤ 9223372036854775807 := by
  rcases hown.2 with ⟨_, e⟩ | ⟨g, cap, cur, _, _, _, h1, h2, _⟩
  ·omega
  ·unfold maxLen at h2; omega
 have hpos : 0 < wn' := by have := HL.out; have := wl_pos hW; omega
 have hwc : ∀ (d : Nat) (y : Pat), (wl x)[d]? = some y → ∃ u, Rep w S .way y [u] ∧ y.sz < x.sz ∧ vs[d]? = some u := by
  intro d y hy
  obtain ⟨u, h1, h2, h3⟩ := hat d y hy
  exact ⟨u, h2, h3, h1⟩
 obtain ⟨gw, cap, hv, _, hgw⟩ := hown.form hpos
 cases hv
 have hwcell : ∀ (d : Nat) (u : Value), vs[d]? = some u → d < wn' → ∀ X : World, Keeps [] w X → X.cell? ⟨gw, d, none⟩ = some u := fun d u hu hd X hk =>
  (World.cell?_of_block (hk.block gw hgw (by simp))).trans ((World.ownsRow.cellAt hown d (by omega)).trans hu)
 have h3 : P3 (w.alloc (.cells #[.int .u8 t.ltr, .int .i64 t.num, .slice va vn vc] 88)) w.heap.size (.int .u8 t.ltr) (.int .i64 t.num) (.slice va vn vc) := heap_alloc_new w _
 have hk0 : Keeps [] w (w.alloc (.cells #[.int .u8 t.ltr, .int .i64 t.num, .slice va vn vc] 88)) := (Keeps.refl [] w).alloc _
 obtain ⟨d0, d1, d2⟩ := h3.main
 clear hll hat
 go_enter Tryz.func80, Tryz.ntmps80
 go_upto_region 1 with (fail)
 generalize w.alloc (.cells #[.int .u8 t.ltr, .int .i64 t.num, .slice va vn vc] 88) = W at *
 obtain ⟨g3, hg3⟩ : ∃ g, w.heap.size = g := ⟨_, rfl⟩
 rw [hg3] at h3 d0 d1 d2 ⊢
 rcases ways_kind hW with ⟨h1, y, rfl⟩ | ⟨hge, y, r, rfl⟩
 ·have hp1 : ((wn' : Int) == 1) = true := by have := HL.out; simp; omega
  have hpp : (0 : Int) < (wn' : Int) := by have := HL.out; omega
  obtain ⟨u, hru, hysz, hvu⟩ := hwc 0 y rfl
  obtain ⟨ua, un, uc, rfl⟩ : IsSl u := by
   cases hru with
   | way _ _ _ _ _ ho _ => exact ownsRow_sl ho
  have hcu := hwcell 0 _ hvu hpos
  have hi3 : (Tryz.prog.info? 88).map (·.size) = some [Value.int .u8 t.ltr, .int .i64 t.num, .slice va vn vc].length := by kernel_rfl
  have hS0 : P3 W.drew g3 (.int .u8 t.ltr) (.int .i64 t.num) (.slice va vn vc) ∧ Keeps [] w W.drew := ⟨h3, hk0.drewN 1⟩
  clear h1
  go_upto_region 2 with (fail)
  refine wp_region_held (S := fun X => P3 X g3 (.int .u8 t.ltr) (.int .i64 t.num) (.slice va vn vc) ∧ Keeps [] w X) (by kernel_rfl) ?_
  change wpAnyH _ _ _ _ _ _ _ _ (World.drew _)
  generalize W.drew = X0 at *
  refine wpAnyH_tk 0 _ (some 8) (.slice (some ⟨gw, 0, none⟩) wn' wc) rfl rfl (by kernel_rfl) (by kernel_rfl) (by kernel_rfl) (fun _ _ _ h => h) (Or.inl ⟨by rfl, fun X hX => by go_simp⟩) hS0 ?_
  simp only [Act.put, List.setIfInBounds_toArray, List.set_cons_zero, List.set_cons_succ]
  refine wpAnyH_tk 1 _ (some 9) (.pointer (some ⟨gw, 0, none⟩)) rfl rfl (by kernel_rfl) (by kernel_rfl) (by kernel_rfl) (fun _ _ _ h => h) (Or.inl ⟨by rfl, fun X hX => by go_simp⟩) hS0 ?_
  simp only [Act.put, List.setIfInBounds_toArray, List.set_cons_zero, List.set_cons_succ]
  refine wpAnyH_tk 2 _ (some 10) (.slice ua un uc) rfl rfl (by kernel_rfl) (by kernel_rfl) (by kernel_rfl) (fun _ _ _ h => h) (Or.inl ⟨by rfl, fun X hX => by (have hc := hcu X hX.2; go_simp)⟩) hS0 ?_
  simp only [Act.put, List.setIfInBounds_toArray, List.set_cons_zero, List.set_cons_succ]
  refine wpAnyH_tk 3 _ (some 11) (.agg #[.int .u8 t.ltr, .int .i64 t.num, .slice va vn vc]) rfl rfl (by kernel_rfl) (by kernel_rfl) (by kernel_rfl) (fun _ _ _ h => h) (yieldsIf_load_mid (by rfl) 88 _ rfl g3 0 rfl [.int .u8 t.ltr, .int .i64 t.num, .slice va vn vc] _ (fun X hX => rangeAll hX.1) Tryz.underlying88 rfl hi3) hS0 ?_
  simp only [Act.put, List.setIfInBounds_toArray, List.set_cons_zero, List.set_cons_succ]
  refine wpAnyH_ready (rs := [4]) (by kernel_rfl) (by simp) ?_
  refine AllReadyH.cons rfl (fun K hK => ?_) AllReadyH.nil
  go_simp
  refine (IW y (by omega) X0 S S' _ _ _ _ t (hru.keep hS0.2 (by simp)) (htv.keep hS0.2 (by simp))).mono ?_
  rintro e w1 ⟨b, rfl, hbi, hk1⟩
  have hS1 : P3 w1 g3 (.int .u8 t.ltr) (.int .i64 t.num) (.slice va vn vc) ∧ Keeps [] w w1 := ⟨hS0.1.keep hk1 (by simp), hS0.2.trans hk1⟩
  refine hK.out _ _ hS1 (fun _ => ?_)
  clear hK K
  refine wpAnyH_tk 5 _ (some 4) (.bool b) rfl rfl (by kernel_rfl) (by kernel_rfl) (by kernel_rfl) (fun _ _ _ h => h) (Or.inl ⟨by rfl, fun X hX => by go_simp⟩) hS1 ?_
  simp only [Act.put, List.setIfInBounds_toArray, List.set_cons_zero, List.set_cons_succ]
  refine wpAnyH_done (by kernel_rfl) ?_ _
  go_wp2_with fail
  go_ret
  exact ⟨b, rfl, ⟨fun h => .one y t (hbi.1 h), fun h => by cases h; exact hbi.2 (by assumption)⟩, hS1.2⟩
 ·have hp1 : ((wn' : Int) == 1) = false := by have := HL.out; simp; omega
  by_cases hb : t.ltr = 97
  ·obtain ⟨p, u, rfl⟩ : ∃ p u, t = .talt p u := by cases t <;> simp [Tr.ltr] at hb; exact ⟨_, _, rfl⟩
   have e1 : (((Tr.talt p u).ltr : Nat) : Int) = 97 := rfl
   have e2 : (((Tr.talt p u).num : Nat) : Int) = (p : Int) := rfl
   rw [e1] at h3 d0 ⊢
   rw [e2] at h3 d1 ⊢
   clear hge
   by_cases hlt : p < wn'
   ·obtain ⟨yp, hyp⟩ : ∃ yp, (wl (.wcons y r))[p]? = some yp := ⟨_, List.getElem?_eq_getElem (by have := HL.out; omega)⟩
    obtain ⟨uu, hru, hysz, hvu⟩ := hwc p yp hyp
    obtain ⟨ua, un, uc, rfl⟩ : IsSl uu := by
     cases hru with
     | way _ _ _ _ _ ho _ => exact ownsRow_sl ho
    have hcu := hwcell p _ hvu hlt
    cases htv with
    | talt _ _ _ us hu ho hSt =>
    obtain ⟨gv, vc', hv, _, hgv⟩ := ho.form (by decide)
    cases hv
    obtain ⟨k1, n1, da, dn, dc, rfl⟩ := hu.form
    have hgv' : gv < w.heap.size := hgv
    have hrg : ∀ X : World, Keeps [] w X → X.rangeAt gv 0 [.int .u8 k1, .int .i64 n1, .slice da dn dc] := fun X hk j z hz => by
     have hj : j < 3 := (List.getElem?_eq_some_iff.1 hz).1
     rw [Nat.zero_add]
     exact (World.cell?_of_block (hk.block gv hgv' (by simp))).trans ((World.ownsRow.cellAt ho j (by omega)).trans hz)
    have hi3 : (Tryz.prog.info? 88).map (·.size) = some [Value.int .u8 k1, .int .i64 n1, .slice da dn dc].length := by kernel_rfl
    have hpi : (p : Int) < (wn' : Int) := by omega
    have hp0 : (0 : Int) ≤ (p : Int) := by omega
    have HP : Hid ((wl (.wcons y r))[p]? = some yp) := hyp
    have hS0 : P3 W.drew g3 (.int .u8 97) (.int .i64 p) (.slice (some ⟨gv, 0, none⟩) 1 vc) ∧ Keeps [] w W.drew := ⟨h3, hk0.drewN 1⟩
    clear hb e1 e2 hlt hyp hwc hwcell
    go_upto_region 3 with (fail)
    clear d0 d1 d2
    refine wp_region_held (S := fun X => P3 X g3 (.int .u8 97) (.int .i64 p) (.slice (some ⟨gv, 0, none⟩) 1 vc) ∧ Keeps [] w X) (by kernel_rfl) ?_
    change wpAnyH _ _ _ _ _ _ _ _ (World.drew _)
    generalize W.drew = X0 at *
    refine wpAnyH_tk 0 _ (some 13) (.pointer (some ⟨g3, 0, none⟩)) rfl rfl (by kernel_rfl) (by kernel_rfl) (by kernel_rfl) (fun _ _ _ h => h) (Or.inl ⟨by rfl, fun X hX => by go_simp⟩) hS0 ?_
    simp only [Act.put, List.setIfInBounds_toArray, List.set_cons_zero, List.set_cons_succ]
    refine wpAnyH_tk 1 _ (some 14) (.int .u8 97) rfl rfl (by kernel_rfl) (by kernel_rfl) (by kernel_rfl) (fun _ _ _ h => h) (Or.inl ⟨by rfl, fun X hX => by (obtain ⟨q0, q1, q2⟩ := hX.1.main; go_simp)⟩) hS0 ?_
    simp only [Act.put, List.setIfInBounds_toArray, List.set_cons_zero, List.set_cons_succ]
    refine wpAnyH_tk 2 _ (some 15) (.bool true) rfl rfl (by kernel_rfl) (by kernel_rfl) (by kernel_rfl) (fun _ _ _ h => h) (Or.inl ⟨by rfl, fun X hX => by go_simp⟩) hS0 ?_
    simp only [Act.put, List.setIfInBounds_toArray, List.set_cons_zero, List.set_cons_succ]
    refine wpAnyH_tk 3 _ (some 16) (.bool true) rfl rfl (by kernel_rfl) (by kernel_rfl) (by kernel_rfl) (fun _ _ _ h => h) (Or.inl ⟨by rfl, fun X hX => by go_simp⟩) hS0 ?_
    simp only [Act.put, List.setIfInBounds_toArray, List.set_cons_zero, List.set_cons_succ]
    refine wpAnyH_tk 4 _ (some 17) (.pointer (some ⟨g3, 1, none⟩)) rfl rfl (by kernel_rfl) (by kernel_rfl) (by kernel_rfl) (fun _ _ _ h => h) (Or.inl ⟨by rfl, fun X hX => by go_simp⟩) hS0 ?_
    simp only [Act.put, List.setIfInBounds_toArray, List.set_cons_zero, List.set_cons_succ]
    refine wpAnyH_tk 5 _ (some 18) (.int .i64 p) rfl rfl (by kernel_rfl) (by kernel_rfl) (by kernel_rfl) (fun _ _ _ h => h) (Or.inl ⟨by rfl, fun X hX => by (obtain ⟨q0, q1, q2⟩ := hX.1.main; go_simp)⟩) hS0 ?_
    simp only [Act.put, List.setIfInBounds_toArray, List.set_cons_zero, List.set_cons_succ]
    refine wpAnyH_tk 6 _ (some 19) (.slice (some ⟨gw, 0, none⟩) wn' wc) rfl rfl (by kernel_rfl) (by kernel_rfl) (by kernel_rfl) (fun _ _ _ h => h) (Or.inl ⟨by rfl, fun X hX => by go_simp⟩) hS0 ?_
    simp only [Act.put, List.setIfInBounds_toArray, List.set_cons_zero, List.set_cons_succ]
    refine wpAnyH_tk 7 _ (some 20) (.int .i64 wn') rfl rfl (by kernel_rfl) (by kernel_rfl) (by kernel_rfl) (fun _ _ _ h => h) (Or.inl ⟨by rfl, fun X hX => by go_simp⟩) hS0 ?_
    simp only [Act.put, List.setIfInBounds_toArray, List.set_cons_zero, List.set_cons_succ]
    refine wpAnyH_tk 8 _ (some 21) (.bool true) rfl rfl (by kernel_rfl) (by kernel_rfl) (by kernel_rfl) (fun _ _ _ h => h) (Or.inl ⟨by rfl, fun X hX => by go_simp⟩) hS0 ?_
    simp only [Act.put, List.setIfInBounds_toArray, List.set_cons_zero, List.set_cons_succ]
    refine wpAnyH_tk 9 _ (some 22) (.bool true) rfl rfl (by kernel_rfl) (by kernel_rfl) (by kernel_rfl) (fun _ _ _ h => h) (Or.inl ⟨by rfl, fun X hX => by go_simp⟩) hS0 ?_
    simp only [Act.put, List.setIfInBounds_toArray, List.set_cons_zero, List.set_cons_succ]
    refine wpAnyH_tk 10 _ (some 23) (.bool true) rfl rfl (by kernel_rfl) (by kernel_rfl) (by kernel_rfl) (fun _ _ _ h => h) (Or.inl ⟨by rfl, fun X hX => by go_simp⟩) hS0 ?_
    simp only [Act.put, List.setIfInBounds_toArray, List.set_cons_zero, List.set_cons_succ]
    refine wpAnyH_tk 11 _ (some 24) (.slice (some ⟨gw, 0, none⟩) wn' wc) rfl rfl (by kernel_rfl) (by kernel_rfl) (by kernel_rfl) (fun _ _ _ h => h) (Or.inl ⟨by rfl, fun X hX => by go_simp⟩) hS0 ?_
    simp only [Act.put, List.setIfInBounds_toArray, List.set_cons_zero, List.set_cons_succ]
    refine wpAnyH_tk 12 _ (some 25) (.pointer (some ⟨g3, 1, none⟩)) rfl rfl (by kernel_rfl) (by kernel_rfl) (by kernel_rfl) (fun _ _ _ h => h) (Or.inl ⟨by rfl, fun X hX => by go_simp⟩) hS0 ?_
    simp only [Act.put, List.setIfInBounds_toArray, List.set_cons_zero, List.set_cons_succ]
    refine wpAnyH_tk 13 _ (some 26) (.int .i64 p) rfl rfl (by kernel_rfl) (by kernel_rfl) (by kernel_rfl) (fun _ _ _ h => h) (Or.inl ⟨by rfl, fun X hX => by (obtain ⟨q0, q1, q2⟩ := hX.1.main; go_simp)⟩) hS0 ?_
    simp only [Act.put, List.setIfInBounds_toArray, List.set_cons_zero, List.set_cons_succ]
    refine wpAnyH_tk 14 _ (some 27) (.pointer (some ⟨gw, p, none⟩)) rfl rfl (by kernel_rfl) (by kernel_rfl) (by kernel_rfl) (fun _ _ _ h => h) (Or.inl ⟨by rfl, fun X hX => by go_simp⟩) hS0 ?_
    simp only [Act.put, List.setIfInBounds_toArray, List.set_cons_zero, List.set_cons_succ]
    refine wpAnyH_tk 15 _ (some 28) (.slice ua un uc) rfl rfl (by kernel_rfl) (by kernel_rfl) (by kernel_rfl) (fun _ _ _ h => h) (Or.inl ⟨by rfl, fun X hX => by (have hc := hcu X hX.2; go_simp)⟩) hS0 ?_
    simp only [Act.put, List.setIfInBounds_toArray, List.set_cons_zero, List.set_cons_succ]
    refine wpAnyH_tk 16 _ (some 29) (.pointer (some ⟨g3, 2, none⟩)) rfl rfl (by kernel_rfl) (by kernel_rfl) (by kernel_rfl) (fun _ _ _ h => h) (Or.inl ⟨by rfl, fun X hX => by go_simp⟩) hS0 ?_
    simp only [Act.put, List.setIfInBounds_toArray, List.set_cons_zero, List.set_cons_succ]
    refine wpAnyH_tk 17 _ (some 30) (.slice (some ⟨gv, 0, none⟩) 1 vc) rfl rfl (by kernel_rfl) (by kernel_rfl) (by kernel_rfl) (fun _ _ _ h => h) (Or.inl ⟨by rfl, fun X hX => by (obtain ⟨q0, q1, q2⟩ := hX.1.main; go_simp)⟩) hS0 ?_
    simp only [Act.put, List.setIfInBounds_toArray, List.set_cons_zero, List.set_cons_succ]
    refine wpAnyH_tk 18 _ (some 31) (.pointer (some ⟨gv, 0, none⟩)) rfl rfl (by kernel_rfl) (by kernel_rfl) (by kernel_rfl) (fun _ _ _ h => h) (Or.inl ⟨by rfl, fun X hX => by go_simp⟩) hS0 ?_
    simp only [Act.put, List.setIfInBounds_toArray, List.set_cons_zero, List.set_cons_succ]
    refine wpAnyH_tk 19 _ (some 32) (.agg #[.int .u8 k1, .int .i64 n1, .slice da dn dc]) rfl rfl (by kernel_rfl) (by kernel_rfl) (by kernel_rfl) (fun _ _ _ h => h) (yieldsIf_load_mid (by rfl) 88 _ rfl gv 0 rfl [.int .u8 k1, .int .i64 n1, .slice da dn dc] _ (fun X hX => hrg X hX.2) Tryz.underlying88 rfl hi3) hS0 ?_
    simp only [Act.put, List.setIfInBounds_toArray, List.set_cons_zero, List.set_cons_succ]
    refine wpAnyH_ready (rs := [20]) (by kernel_rfl) (by simp) ?_
    refine AllReadyH.cons rfl (fun K hK => ?_) AllReadyH.nil
    go_simp
    refine (IW yp (by omega) X0 S S' _ _ _ _ u (hru.keep hS0.2 (by simp)) (hu.keep hS0.2 (by simp))).mono ?_
    rintro e w1 ⟨b, rfl, hbi, hk1⟩
    have hS1 : P3 w1 g3 (.int .u8 97) (.int .i64 p) (.slice (some ⟨gv, 0, none⟩) 1 vc) ∧ Keeps [] w w1 := ⟨hS0.1.keep hk1 (by simp), hS0.2.trans hk1⟩
    refine hK.out _ _ hS1 (fun _ => ?_)
    clear hK K
    refine wpAnyH_tk 21 _ (some 34) (.bool b) rfl rfl (by kernel_rfl) (by kernel_rfl) (by kernel_rfl) (fun _ _ _ h => h) (Or.inl ⟨by rfl, fun X hX => by go_simp⟩) hS1 ?_
    simp only [Act.put, List.setIfInBounds_toArray, List.set_cons_zero, List.set_cons_succ]
    refine wpAnyH_tk 22 _ (some 4) (.bool b) rfl rfl (by kernel_rfl) (by kernel_rfl) (by kernel_rfl) (fun _ _ _ h => h) (Or.inl ⟨by rfl, fun X hX => by go_simp⟩) hS1 ?_
    simp only [Act.put, List.setIfInBounds_toArray, List.set_cons_zero, List.set_cons_succ]
    refine wpAnyH_done (by kernel_rfl) ?_ _
    go_wp2_with fail
    go_ret
    refine ⟨b, rfl, ⟨fun h => .alt y r p yp u HP.out (hbi.1 h), fun h => ?_⟩, hS1.2⟩
    cases h with
    | alt _ _ _ y' _ h1 h2 =>
     rw [HP.out] at h1
     cases h1
     exact hbi.2 h2
   ·have hnL : decide ((p : Int) < (wn' : Int)) = false := by simp; omega
    have hnL' : decide (p < wn') = false := by simp; omega
    have HF : Hid (¬ Ft (.wcons y r) (.talt p u)) := fun h => by
     cases h with
     | alt _ _ _ y' _ h1 h2 =>
      have := (List.getElem?_eq_some_iff.1 h1).1
      have h5 := HL.out
      omega
    clear hb hlt e1 e2
    go_wp2_with fail
    go_quiet (fail)
    go_wp2_with fail
    go_ret
    exact ⟨_, rfl, ⟨(nomatch ·), fun h => absurd h HF.out⟩, hk0.drewN _⟩
  ·have hkE : ((t.ltr : Int) == 97) = false := by simp; omega
   have hkE' : (t.ltr == 97) = false := by simp; omega
   have HF : Hid (¬ Ft (.wcons y r) t) := fun h => by cases h; exact hb rfl
   clear hb
   go_wp2_with fail
   go_quiet (fail)
   go_wp2_with fail
   go_ret
   exact ⟨_, rfl, ⟨(nomatch ·), fun h => absurd h HF.out⟩, hk0.drewN _⟩
theorem way_zero : WayF 0 := by
 intro x hx w S S' v a b c t hrep _
 exfalso
 cases hrep with
 | way _ _ _ _ h =>
  cases h with
  | pnil => simp [Pat.sz] at hx
  | pcons => simp [Pat.sz] at hx
theorem single_zero : SingleF 0 := by
 intro x hx w S S' cs a b c t hrep _
 exfalso
 cases hrep with
 | set => simp [Pat.sz] at hx
 | grp => simp [Pat.sz] at hx
theorem ways_zero : WaysF 0 := by
 intro x hx w S S' v a b c t hrep _
 exfalso
 cases hrep with
 | ways _ _ _ _ h =>
  cases h with
  | wone => simp [Pat.sz] at hx
  | wcons => simp [Pat.sz] at hx
theorem waysFit_all : ∀ n, WaysF n
 | 0 => ways_zero
 | 1 => waysFit_any 0 way_zero
 | 2 => waysFit_any 1 (wayFits_any 0 (pieceFits_any 0 single_zero))
 | n + 3 => waysFit_any (n + 2) (wayFits_any (n + 1) (pieceFits_any (n + 1) (singleFits_any n (waysFit_all n))))
set_option maxRecDepth 100000 in
set_option maxHeartbeats 1000000 in
theorem mfits_any (x : Pat) (bg en v g a b c : Value) (t : Tr) (w : World) (S S' : Nat → Prop) (ho : bg.oneCell' = true ∧ en.oneCell' = true ∧ v.oneCell' = true ∧ g.oneCell' = true) (hrep : Rep w S .ways x [v]) (htv : TV w S' true t [a, b, c]) :
    Calls Tryz.prog 45 #[.agg #[bg, en, v, g], .agg #[a, b, c]] w (FtA w x t) := by
 obtain ⟨k, nn, va, vn, vc, hf⟩ := htv.form
 simp only [List.cons.injEq, and_true] at hf
 obtain ⟨rfl, rfl, rfl⟩ := hf
 obtain ⟨wa, wn, wc, rfl⟩ : IsSl v := by
  cases hrep with
  | ways _ _ _ _ _ ho _ => exact ownsRow_sl ho
 have h2 : ((w.alloc (.cells #[bg, en, .slice wa wn wc, g] 70)).alloc (.cells #[.int .u8 k, .int .i64 nn, .slice va vn vc] 88)).heap[w.heap.size]? = some (.cells #[bg, en, .slice wa wn wc, g] 70 (0, 0)) := heap_alloc2_old w _ _
 have h3 : P3 ((w.alloc (.cells #[bg, en, .slice wa wn wc, g] 70)).alloc (.cells #[.int .u8 k, .int .i64 nn, .slice va vn vc] 88)) (w.heap.size + 1) (.int .u8 k) (.int .i64 nn) (.slice va vn vc) := heap_alloc2_new w _ _
 have hk0 : Keeps [] w ((w.alloc (.cells #[bg, en, .slice wa wn wc, g] 70)).alloc (.cells #[.int .u8 k, .int .i64 nn, .slice va vn vc] 88)) := ((Keeps.refl [] w).alloc _).alloc _
 have c2 : ((w.alloc (.cells #[bg, en, .slice wa wn wc, g] 70)).alloc (.cells #[.int .u8 k, .int .i64 nn, .slice va vn vc] 88)).cell? ⟨w.heap.size, 2, none⟩ = some (.slice wa wn wc) := by rw [Lib.cell_of_heap h2]; rfl
 go_enter Tryz.func45, Tryz.ntmps45
 go_upto_region 1 with (fail)
 generalize (w.alloc (.cells #[bg, en, .slice wa wn wc, g] 70)).alloc (.cells #[.int .u8 k, .int .i64 nn, .slice va vn vc] 88) = W at *
 go_wp2_with (first | (refine wpList_load_row rfl 88 _ rfl (w.heap.size + 1) rfl _ _ _ _ h3 Tryz.underlying88 rfl (info3 _ _ _) ?_))
 refine (waysFit_all x.sz x (Nat.le_refl _) W S S' _ _ _ _ t (hrep.keep hk0 (by simp)) (htv.keep hk0 (by simp))).mono ?_
 rintro e w1 ⟨b, rfl, hbi, hk1⟩
 go_wp2_with fail
 go_ret
 exact ⟨b, rfl, hbi, hk0.trans hk1⟩
end Go.Proofs.YtnfojonmohijpaaGreatDoor
namespace Go.Proofs.YtnfojonmohijpaaGreatDoor
open Go.RowKit
def FlatA (s : ByteArray) (t : List UInt8) (j n : Int) : Prop :=
 (20000 < s.size ∧ t = [] ∧ j = 0 ∧ n = 1) ∨ (s.size ≤ 20000 ∧ ∃ q, TreeR s q ∧ match q with
   | .bad k => t = [] ∧ j = (k : Int) ∧ n = 3
   | .ok u _ => t = u.flat ∧ j = 0 ∧ n = 0)
def FitsA (p s : ByteArray) (b : Bool) (n : Int) : Prop :=
 (60 < p.size ∧ b = false ∧ n = 1) ∨ (p.size ≤ 60 ∧ ∃ q, PatR p q ∧ match q with
   | .bad _ => b = false ∧ n = 2
   | .ok W _ => (20000 < s.size ∧ b = false ∧ n = 1) ∨ (s.size ≤ 20000 ∧ ∃ q', TreeR s q' ∧ match q' with
       | .bad _ => b = false ∧ n = 3
       | .ok t _ => (b = true ↔ Ft W.x t) ∧ n = 0))
theorem TreeR.flat {s : ByteArray} {t : Tr} {j : Nat} (h : TreeR s (.ok t j)) (hs : s.size ≤ 20000) : t.flat.length ≤ 20000 := by
 obtain ⟨q0, h, e⟩ := h
 cases q0 with
 | bad => cases e
 | ok u k =>
  by_cases hk : k < s.size
  ·simp only [wholeR, if_pos hk] at e; cases e
  ·simp only [wholeR, if_neg hk, R.ok.injEq] at e
   obtain ⟨rfl, rfl⟩ := e
   have := h.flat _ _ rfl (Nat.zero_le _)
   have := (h.bd (Nat.zero_le _)).2.1
   omega
set_option maxRecDepth 100000 in
set_option maxHeartbeats 2000000 in
theorem yflat_any (s : ByteArray) (w : World) :
    Calls Tryz.prog 19 #[.string s] w fun e w' => ∃ t j n, e = .returned (.tuple #[.string (nmB t), .int .i64 j, .int .i64 n]) ∧ FlatA s t j n ∧ Keeps [] w w' := by
 go_enter Tryz.func19, Tryz.ntmps19
 go_wp2_with fail
 refine (readTree_prog s w).mono ?_
 rintro e w1 ⟨hk1, hc1⟩
 have hz0 : P3 (w1.alloc (.cells #[.int .u8 0, .int .i64 0, .slice none 0 0] 88)) w1.heap.size (.int .u8 0) (.int .i64 0) (.slice none 0 0) := heap_alloc_new w1 _
 have hk2 : Keeps [] w1 (w1.alloc (.cells #[.int .u8 0, .int .i64 0, .slice none 0 0] 88)) := (Keeps.refl [] w1).alloc _
 have hC : (∃ (a b c : Value) (x y : Int), e = .returned (.tuple #[.agg #[a, b, c], .int .i64 x, .int .i64 y]) ∧ a.oneCell' = true ∧ b.oneCell' = true ∧ c.oneCell' = true ∧ y ≠ 0 ∧ FlatA s [] x y) ∨
     ∃ (t : Tr) (a b c : Value) (j : Nat), e = .returned (.tuple #[.agg #[a, b, c], .int .i64 0, .int .i64 0]) ∧ a.oneCell' = true ∧ b.oneCell' = true ∧ c.oneCell' = true ∧ s.size ≤ 20000 ∧ TreeR s (.ok t j) ∧ TV w1 (fun g => w.heap.size ≤ g) true t [a, b, c] := by
  rcases hc1 with ⟨hl, he⟩ | ⟨hs, q, hq, h⟩
  ·exact Or.inl ⟨_, _, _, _, _, he, rfl, rfl, rfl, by decide, Or.inl ⟨hl, rfl, rfl, rfl⟩⟩
  ·cases q with
   | bad j => exact Or.inl ⟨_, _, _, _, _, h, rfl, rfl, rfl, by decide, Or.inr ⟨hs, _, hq, rfl, rfl, rfl⟩⟩
   | ok t j =>
    obtain ⟨a, b, c, he, ha, hb, hc, htv⟩ := h
    exact Or.inr ⟨t, a, b, c, j, he, ha, hb, hc, hs, hq, htv⟩
 clear hc1
 rcases hC with ⟨a, b, c, x, y, rfl, ha, hb, hc, hy, hF⟩ | ⟨t, a, b, c, j, rfl, ha, hb, hc, hs, hq, htv⟩
 ·have hne : (y == 0) = false := by simpa using hy
  have hnn : (y != 0) = true := by simpa using hy
  have HF : Hid (FlatA s [] x y) := hF
  have hkS := (hk1.trans hk2).setRow (g := w1.heap.size) (Or.inr hk1.size) #[a, b, c]
  clear hF hy
  go_wp2_with (first | (refine wpList_store_row rfl 88 _ _ rfl w1.heap.size #[a, b, c] rfl rfl _ _ hz0 (info3 _ _ _) rfl (all3 ha hb hc) ?_))
  go_ret3
  exact ⟨[], x, y, rfl, HF.out, hkS⟩
 ·obtain ⟨k, nn, va, vn, vc, hf⟩ := htv.form
  simp only [List.cons.injEq, and_true] at hf
  obtain ⟨rfl, rfl, rfl⟩ := hf
  have hfl := hq.flat hs
  have HF : Hid (FlatA s t.flat 0 0) := Or.inr ⟨hs, _, hq, rfl, rfl, rfl⟩
  have hkS : Keeps [] w1 ((w1.alloc (.cells #[.int .u8 0, .int .i64 0, .slice none 0 0] 88)).setRow w1.heap.size #[.int .u8 k, .int .i64 nn, .slice va vn vc]) := hk2.setRow (Or.inr (Nat.le_refl _)) _
  have h1 : P3 ((w1.alloc (.cells #[.int .u8 0, .int .i64 0, .slice none 0 0] 88)).setRow w1.heap.size #[.int .u8 k, .int .i64 nn, .slice va vn vc]) w1.heap.size (.int .u8 k) (.int .i64 nn) (.slice va vn vc) := setRow_heap _ _ _ _ _ _ hz0
  have htv1 := htv.keep hkS (by simp)
  have hkA := hk1.trans hkS
  clear hq hs
  go_upto_region 2 with (first | (refine wpList_store_row rfl 88 _ _ rfl w1.heap.size #[.int .u8 k, .int .i64 nn, .slice va vn vc] rfl rfl _ _ hz0 (info3 _ _ _) rfl (all3 rfl rfl rfl) ?_))
  generalize (w1.alloc (.cells #[.int .u8 0, .int .i64 0, .slice none 0 0] 88)).setRow w1.heap.size #[.int .u8 k, .int .i64 nn, .slice va vn vc] = W at *
  go_wp2_with (first | (refine wpList_load_row rfl 88 _ rfl w1.heap.size rfl _ _ _ _ h1 Tryz.underlying88 rfl (info3 _ _ _) ?_))
  refine (tflat_any t _ _ _ W _ htv1 (by omega)).mono ?_
  rintro e w2 ⟨rfl, hk3⟩
  go_wp2_with fail
  go_ret3
  exact ⟨t.flat, 0, 0, rfl, HF.out, hkA.trans hk3⟩
end Go.Proofs.YtnfojonmohijpaaGreatDoor
namespace Go.Proofs.YtnfojonmohijpaaGreatDoor
open Go.RowKit
def PlainA (s : ByteArray) (t : List UInt8) (place errno : Int) : Prop :=
 (60 < s.size ∧ t = [] ∧ place = 0 ∧ errno = 1) ∨
 (s.size ≤ 60 ∧ ∃ q, PatR s q ∧ match q with
   | .bad j => t = [] ∧ place = (j : Int) ∧ errno = 2
   | .ok W _ => t = wholeT W ∧ place = 0 ∧ errno = 0)
end Go.Proofs.YtnfojonmohijpaaGreatDoor
