/-
  DERIVED. The contract of the program's plainSet. No conditions.
-/
import Derived.Test.YtnfojonmohijpaaGreatDoorJPY
import Derived.Test.YtnfojonmohijpaaGreatDoorJYE
import Derived.DeepKeys
import Derived.Deep.CutRange
import Derived.WalkLawsBesides
import Derived.Test.YtnfojonmohijpaaGreatDoorJNJ
set_option linter.unusedSimpArgs false
set_option linter.unusedVariables false
namespace Go.Proofs.YtnfojonmohijpaaGreatDoor
open Go.RowKit
theorem part_set (f : Nat → Bool) (m : Nat) (h : m < 256) (w : World) : (part 4 (hcells f) m).run Tryz.prog w = .ok (.bool (f m)) w := by
 have hc := hcells_get f h
 have hz : (Go.sizeOf 4).run Tryz.prog w = .ok 1 w := by kernel_rfl
 have ha : (isAgg 4).run Tryz.prog w = .ok false w := by kernel_rfl
 unfold part
 simp [ha, hz, hc]
theorem eq_items (f : Nat → Bool) (d : Nat) (w : World) : ∀ is : List Nat, (∀ i ∈ is, i < 256) → (Op.eqItems (d + 1) 4 1 (hcells f) (hcells fun _ => true) is).run Tryz.prog w = .ok (is.all f) w
 | [], _ => by simp [Op.eqItems]
 | i :: is, h => by
  have hi := h i (by simp)
  have h1 := part_set f i hi w
  have h2 := part_set (fun _ => true) i hi w
  have h3 := run_equalIn_bool (P := Tryz.prog) w d 4 (f i) true Tryz.underlying4
  have ih := eq_items f d w is (fun j hj => h j (by simp [hj]))
  unfold Op.eqItems
  simp only [Nat.mul_one, Sem.run_bind, h1, h2, h3, Result.andThen_ok]
  cases hf : f i
  ·simp [hf]
  ·simpa [hf] using ih
theorem eq_set (f : Nat → Bool) (w : World) : (binOp BinOp.eql 206 (.agg (hcells f)) (.agg (hcells fun _ => true))).run Tryz.prog w = .ok (.bool ((List.range 256).all f)) w := by
 obtain ⟨i, hi⟩ : ∃ i, Tryz.prog.info? 4 = some i := by
  have : (Tryz.prog.info? 4).isSome = true := by kernel_rfl
  exact Option.isSome_iff_exists.1 this
 have hc : Tryz.prog.cellsOf 4 = 1 := by kernel_rfl
 have h1 := run_equalIn_array (P := Tryz.prog) w 9999 (hcells f) (hcells fun _ => true) Tryz.underlying206 hi
 rw [hc, eq_items f 9998 w (List.range 256) (fun i hi => List.mem_range.1 hi)] at h1
 rw [run_eql_struct, h1]
 rfl
theorem all_iff (f : Nat → Bool) : (List.range 256).all f = true ↔ ∀ n, n < 256 → f n = true :=
 ⟨fun h n hn => List.all_eq_true.1 h n (List.mem_range.2 hn), fun h => List.all_eq_true.2 fun n hn => h n (List.mem_range.1 hn)⟩
theorem setT_nil (f : Nat → Bool) (h : (strs f 256).length = 0) : setT f = [91, 94, 92, 120, 48, 48, 45, 92, 120, 102, 102, 93] := by rw [setT_strs, if_pos h]
theorem setT_all (f : Nat → Bool) (h : ¬ (strs f 256).length = 0) (ha : ∀ n, n < 256 → f n = true) : setT f = [46] := by rw [setT_strs, if_neg h, if_pos ha]
theorem setT_one (f : Nat → Bool) (h : ¬ (strs f 256).length = 0) (ha : ¬ ∀ n, n < 256 → f n = true) (h1 : ∃ a, strs f 256 = [(a, a)]) : setT f = outS (strs f 256) := by rw [setT_strs, if_neg h, if_neg ha, if_pos h1]
theorem setT_more (f : Nat → Bool) (h : ¬ (strs f 256).length = 0) (ha : ¬ ∀ n, n < 256 → f n = true) (h1 : ¬ ∃ a, strs f 256 = [(a, a)]) : setT f = [91] ++ outS (strs f 256) ++ [93] := by rw [setT_strs, if_neg h, if_neg ha, if_neg h1]
theorem guard_set (x y : Operand) (u v : Array Value) (w : World) : (eqGuard BinOp.eql 206 x y (.agg u) (.agg v)).run Tryz.prog w = .ok () w := by kernel_rfl
theorem wp_eqSet {o : Oper} {a : Act} {w : World} {K : Act → World → Prop} {Q : Exit → Act → World → Prop} (x y : Operand) (ho : o.op = .binOp BinOp.eql 206 x y 206) (f : Nat → Bool) (B : Bool) (hB : Hid ((List.range 256).all f = B)) (h0 : a.eval x = .agg (hcells f)) (h1 : a.eval y = .agg (hcells fun _ => true))
    (h : K (a.put o.dst (.bool B)) w) : o.wp Tryz.prog a w K Q := by
 have hB' := hB.out
 unfold Oper.wp execOp
 simp only [ho, h0, h1]
 simp only [Sem.run_bind, guard_set, Result.andThen_ok, eq_set]
 rw [hB']
 exact h
theorem outS_len (l : List (Nat × Nat)) : (outS l).length ≤ 9 * l.length := by
 induction l with
 | nil => simp [outS]
 | cons p l ih =>
  have h1 := oneT_len p.1
  have h2 := oneT_len p.2
  have h3 : (strT p.1 p.2).length ≤ 9 := by
   unfold strT
   split
   ·omega
   ·simp; omega
  simp only [outS, List.flatMap_cons, List.length_append, List.length_cons] at ih ⊢
  omega
theorem outS_take (l : List (Nat × Nat)) (i : Nat) (p : Nat × Nat) (h : l[i]? = some p) : outS (l.take (i + 1)) = outS (l.take i) ++ strT p.1 p.2 := by
 rw [List.take_add_one, h]
 simp [outS]
theorem strC_at (l : List (Nat × Nat)) (i : Nat) (p : Nat × Nat) (h : l[i]? = some p) : (strC l)[i * 2]? = some (.int .u8 (p.1 : Int)) ∧ (strC l)[i * 2 + 1]? = some (.int .u8 (p.2 : Int)) := by
 induction l generalizing i with
 | nil => simp at h
 | cons q l ih =>
  have e : strC (q :: l) = .int .u8 (q.1 : Int) :: .int .u8 (q.2 : Int) :: strC l := rfl
  rw [e]
  cases i with
  | zero => simp at h; subst h; simp
  | succ i =>
   have := ih i (by simpa using h)
   have e1 : (i + 1) * 2 = i * 2 + 1 + 1 := by omega
   rw [e1]
   simpa using this
theorem addz (g j : Nat) : (⟨g, 0, none⟩ : Addr).add j = ⟨g, j, none⟩ := by unfold Addr.add; split <;> simp_all
set_option maxRecDepth 100000 in
set_option maxHeartbeats 2000000 in
theorem plainSet_text (f : Nat → Bool) (w : World) :
    Calls Tryz.prog 170 #[.agg (hcells f)] w fun e w' => e = .returned (.string (nmB (setT f))) ∧ Keeps [] w w' := by
 have hz0 : HQ (w.alloc (.cells (hcells f) 206)) w.heap.size f := heap_alloc_new w _
 have hk0 : Keeps [] w (w.alloc (.cells (hcells f) 206)) := (Keeps.refl [] w).alloc _
 have SP := stretches_prog f
 generalize hC : hcells f = C at *
 go_enter Tryz.func170, Tryz.ntmps170
 go_wp2_with (first | (refine wpList_load_row rfl 206 _ rfl w.heap.size rfl _ _ _ _ hz0 Tryz.underlying206 rfl (infoSetC _) ?_))
 generalize w.alloc (.cells C 206) = W at *
 obtain ⟨g0, hg0⟩ : ∃ g0, w.heap.size = g0 := ⟨_, rfl⟩
 rw [hg0] at hz0 ⊢
 refine (SP _).mono ?_
 rintro e w1 ⟨v, rfl, hown, hfr, hk1⟩
 have hz1 := hz0.keep hk1 (by simp)
 have hkA := hk0.trans hk1
 have hgl := hz0.lt
 have hle := strs_len f 256 (Nat.le_refl _)
 have H0 : Hid ((strs f 256).length = 0 → setT f = [91, 94, 92, 120, 48, 48, 45, 92, 120, 102, 102, 93]) := setT_nil f
 have H1 : Hid (¬ (strs f 256).length = 0 → (∀ n, n < 256 → f n = true) → setT f = [46]) := setT_all f
 have H2 : Hid (¬ (strs f 256).length = 0 → (¬ ∀ n, n < 256 → f n = true) → (∃ a, strs f 256 = [(a, a)]) → setT f = outS (strs f 256)) := setT_one f
 have H3 : Hid (¬ (strs f 256).length = 0 → (¬ ∀ n, n < 256 → f n = true) → (¬ ∃ a, strs f 256 = [(a, a)]) → setT f = [91] ++ outS (strs f 256) ++ [93]) := setT_more f
 have HIN : Hid (∀ p ∈ strs f 256, p.1 ≤ p.2 ∧ p.2 < 256) := (cnt_lens f 256 (Nat.le_refl _)).2
 generalize strs f 256 = L at *
 clear hz0 hk0 hk1
 by_cases h0 : L.length = 0
 ·have HX : Hid (setT f = [91, 94, 92, 120, 48, 48, 45, 92, 120, 102, 102, 93]) := H0.out h0
  have hL0 : L = [] := List.length_eq_zero_iff.1 h0
  subst hL0
  clear H0 H1 H2 H3 HIN
  rcases hown.2 with ⟨rfl, _⟩ | ⟨g, cap, cur, rfl, _⟩
  ·clear hown hfr
   go_wp2_with fail
   go_ret
   exact ⟨by rw [HX.out]; rfl, hkA⟩
  ·clear hown hfr
   go_wp2_with fail
   go_ret
   exact ⟨by rw [HX.out]; rfl, hkA⟩
 ·obtain ⟨g, cap, hv, _, _⟩ := hown.form (by omega)
  subst hv
  have hl0 : ((L.length : Int) == 0) = false := by simpa using (by omega : ¬ (L.length : Int) = 0)
  have hgg : W.heap.size ≤ g := hfr g rfl
  clear hfr H0
  go_wp2_with fail
  have hwD : Keeps [] w1 w1.drew := (Keeps.refl [] w1).drewN 1
  have hzD := hz1.keep hwD (by simp)
  have hownD := hown.keep hwD (by simp)
  have hkD := hkA.trans hwD
  clear hz1 hown hkA hwD
  obtain ⟨B, HB⟩ : ∃ B, Hid ((List.range 256).all f = B) := ⟨_, rfl⟩
  go_cut [13] from 14 to 16 (fun u wx => u = .bool B ∧ Keeps [] w1.drew wx)
  case first =>
   subst hC
   refine wp_region_any (by kernel_rfl) ?_
   change wpAny _ _ _ _ _ _ _ (World.drew _)
   generalize w1.drew = Y at *
   refine wpAny_ready (rs := [0, 1]) (by kernel_rfl) (by simp) ?_
   refine AllReady.cons rfl (fun K hK => ?_) (AllReady.cons rfl (fun K hK => ?_) AllReady.nil)
   ·rw [if_pos (by rfl)]
    refine wp_load_row 206 _ rfl g0 rfl _ _ _ _ hzD Tryz.underlying206 rfl (infoSetC _) (hK _ _ ?_)
    clear hK K
    refine wpAny_ready (rs := [1]) (by kernel_rfl) (by simp) ?_
    refine AllReady.cons rfl (fun K hK => ?_) AllReady.nil
    go_simp
    refine (all_set _).mono ?_
    rintro e w2 ⟨rfl, hk2⟩
    refine hK _ _ ?_
    clear hK K
    refine wpAny_ready (rs := [2]) (by kernel_rfl) (by simp) ?_
    refine AllReady.cons rfl (fun K hK => ?_) AllReady.nil
    rw [if_pos (by rfl)]
    refine wp_eqSet _ _ rfl f B HB rfl rfl (hK _ _ ?_)
    clear hK K
    refine wpAny_ready (rs := [3]) (by kernel_rfl) (by simp) ?_
    refine AllReady.cons rfl (fun K hK => ?_) AllReady.nil
    go_simp
    refine hK _ _ ?_
    clear hK K
    refine wpAny_done (by kernel_rfl) ?_ _
    go_wp2_with fail
    go_meet
    case rel => exact ⟨rfl, hk2⟩
   ·go_simp
    refine (all_set _).mono ?_
    rintro e w2 ⟨rfl, hk2⟩
    have hz2 := hzD.keep hk2 (by simp)
    refine hK _ _ ?_
    clear hK K
    refine wpAny_ready (rs := [0]) (by kernel_rfl) (by simp) ?_
    refine AllReady.cons rfl (fun K hK => ?_) AllReady.nil
    rw [if_pos (by rfl)]
    refine wp_load_row 206 _ rfl g0 rfl _ _ _ _ hz2 Tryz.underlying206 rfl (infoSetC _) (hK _ _ ?_)
    clear hK K
    refine wpAny_ready (rs := [2]) (by kernel_rfl) (by simp) ?_
    refine AllReady.cons rfl (fun K hK => ?_) AllReady.nil
    rw [if_pos (by rfl)]
    refine wp_eqSet _ _ rfl f B HB rfl rfl (hK _ _ ?_)
    clear hK K
    refine wpAny_ready (rs := [3]) (by kernel_rfl) (by simp) ?_
    refine AllReady.cons rfl (fun K hK => ?_) AllReady.nil
    go_simp
    refine hK _ _ ?_
    clear hK K
    refine wpAny_done (by kernel_rfl) ?_ _
    go_wp2_with fail
    go_meet
    case rel => exact ⟨rfl, hk2⟩
  case rest =>
   clear hC
   obtain ⟨rfl, hkx⟩ := hcut
   have hownX := hownD.keep hkx (by simp)
   have hkX := hkD.trans hkx
   clear hownD hkD hkx hzD SP
   cases B with
   | true =>
    have HX : Hid (setT f = [46]) := H1.out h0 ((all_iff f).1 HB.out)
    clear H1 H2 H3 HIN HB
    go_wp2_with fail
    go_ret
    exact ⟨by rw [HX.out]; rfl, hkX⟩
   | false =>
    have hna : ¬ ∀ n, n < 256 → f n = true := fun h => by have h1 := HB.out; rw [(all_iff f).2 h] at h1; cases h1
    have H2' : Hid ((∃ a, L = [(a, a)]) → setT f = outS L) := H2.out h0 hna
    have H3' : Hid ((¬ ∃ a, L = [(a, a)]) → setT f = [91] ++ outS L ++ [93]) := H3.out h0 hna
    clear H1 H2 H3 hna HB
    go_wp2_with fail
    have hcell : ∀ i p, L[i]? = some p → wc.cell? ⟨g, i * 2, none⟩ = some (.int .u8 (p.1 : Int)) ∧ wc.cell? ⟨g, i * 2 + 1, none⟩ = some (.int .u8 (p.2 : Int)) := by
     intro i p hp
     have h1 := World.ownsRow.cells hownX rfl (i * 2) _ (strC_at L i p hp).1
     have h2 := World.ownsRow.cells hownX rfl (i * 2 + 1) _ (strC_at L i p hp).2
     rw [addz] at h1 h2
     exact ⟨h1, h2⟩
    have HCL : Hid (∀ i p, L[i]? = some p → wc.cell? ⟨g, i * 2, none⟩ = some (.int .u8 (p.1 : Int)) ∧ wc.cell? ⟨g, i * 2 + 1, none⟩ = some (.int .u8 (p.2 : Int))) := hcell
    have hglt := (hownX.lt g rfl).2
    clear hcell hownX
    obtain ⟨wo, hwo⟩ : ∃ wo : World, wo = wc := ⟨_, rfl⟩
    subst hwo
    by_cases hone : ∃ a, L = [(a, a)]
    ·have HX : Hid (setT f = outS L) := H2'.out hone
     obtain ⟨a, rfl⟩ := hone
     have ha : a < 256 := (HIN.out (a, a) (by simp)).2
     obtain ⟨d0, d1⟩ := HCL.out 0 (a, a) rfl
     simp only [Nat.zero_mul, Nat.zero_add] at d0 d1
     have HX2 : Hid (setT f = oneT a) := by
      show setT f = oneT a
      rw [HX.out]; simp [outS, strT]
     clear H2' H3' HIN HX HCL
     go_quiet (fail)
     go_wp2_with (first | (go_at_call 208; refine (plainByte_text a ha _).mono ?_; rintro e w3 ⟨rfl, hk3⟩))
     go_ret
     exact ⟨by rw [HX2.out]; rfl, (hkX.drewN _).trans hk3⟩
    ·have HX : Hid (setT f = [91] ++ outS L ++ [93]) := H3'.out hone
     have hHO : Hid (¬ ∃ a, L = [(a, a)]) := hone
     clear H2' H3' hone
     go_cut [17] from 18 to 31 (fun u wx => u = .bool false ∧ ∃ n, wx = wo.drewN n)
     case first =>
      by_cases hl1 : L.length = 1
      ·obtain ⟨p, hp⟩ := List.length_eq_one_iff.1 hl1
       subst hp
       obtain ⟨a, b⟩ := p
       have hab : ((a : Int) == (b : Int)) = false := by
        have : ¬ a = b := fun h => hHO.out ⟨a, by rw [h]⟩
        simpa using (by omega : ¬ (a : Int) = (b : Int))
       obtain ⟨d0, d1⟩ := HCL.out 0 (a, b) rfl
       simp only [Nat.zero_mul, Nat.zero_add] at d0 d1
       clear HIN HX HCL hHO
       go_quiet (fail)
       go_wp2_with fail
       go_meet
       case rel => exact ⟨rfl, _, rfl⟩
      ·have hl1' : ((L.length : Int) == 1) = false := by simpa using (by omega : ¬ (L.length : Int) = 1)
       clear HIN HX HCL hHO
       go_quiet (fail)
       go_wp2_with fail
       go_meet
       case rel => exact ⟨rfl, _, rfl⟩
     case rest =>
      obtain ⟨rfl, nd, rfl⟩ := hcut
      have hkN : Keeps [] wo (wo.drewN nd) := (Keeps.refl [] wo).drewN nd
      have hcl2 : ∀ i p wr, L[i]? = some p → Keeps [] wo wr → wr.cell? ⟨g, i * 2, none⟩ = some (.int .u8 (p.1 : Int)) ∧ wr.cell? ⟨g, i * 2 + 1, none⟩ = some (.int .u8 (p.2 : Int)) := fun i p wr hp hk => ⟨keep_cell hk (HCL.out i p hp).1, keep_cell hk (HCL.out i p hp).2⟩
      have HC2 : Hid (∀ i p wr, L[i]? = some p → Keeps [] wo wr → wr.cell? ⟨g, i * 2, none⟩ = some (.int .u8 (p.1 : Int)) ∧ wr.cell? ⟨g, i * 2 + 1, none⟩ = some (.int .u8 (p.2 : Int))) := hcl2
      clear hcl2 HCL hHO
      generalize wo.drewN nd = wN at *
      go_wp2_with fail
      go_loopw [4, 39] (fun u q wr => ∃ i : Nat, i ≤ L.length ∧ u = .string (nmB ([91] ++ outS (L.take i))) ∧ q = .int .i64 i ∧ Keeps [] wo wr) (fun _ q _ => L.length - (intOf q).toNat)
      case atStart => exact ⟨0, by omega, rfl, rfl, hkN⟩
      case round =>
       clear hkN
       obtain ⟨i, hi, rfl, rfl, hkr⟩ := hrel
       by_cases hil : i < L.length
       ·obtain ⟨p, hpi⟩ : ∃ p, L[i]? = some p := ⟨_, List.getElem?_eq_getElem hil⟩
        obtain ⟨a, b⟩ := p
        obtain ⟨d0, d1⟩ := HC2.out i (a, b) wr hpi hkr
        have hab := HIN.out (a, b) (List.mem_of_getElem? hpi)
        have ha : a < 256 := by have := hab.1; have := hab.2; simp at *; omega
        have hb : b < 256 := by have := hab.2; simp at *; omega
        have HO : Hid (outS (L.take (i + 1)) = outS (L.take i) ++ strT a b) := outS_take L i (a, b) hpi
        have hol := outS_len (L.take i)
        have htl : (L.take i).length ≤ i := by simp; omega
        have hsl : (strT a b).length ≤ 9 := by
         have h1 := oneT_len a
         have h2 := oneT_len b
         unfold strT
         split
         ·omega
         ·simp; omega
        have hz : ¬ 9223372036854775807 < (nmB ([91] ++ outS (L.take i))).size + (nmB (strT a b)).size := by
         rw [nmB_size, nmB_size, List.length_append, List.length_singleton]
         omega
        have HAP : Hid (nmB ([91] ++ outS (L.take i)) ++ nmB (strT a b) = nmB ([91] ++ outS (L.take (i + 1)))) := by
         show nmB ([91] ++ outS (L.take i)) ++ nmB (strT a b) = _
         rw [nmB_append, HO.out, List.append_assoc]
        have PS := plainStretch_text a b ha hb
        have hi0 : (0 : Int) ≤ (i : Int) := by omega
        have hi1 : (i : Int) < (L.length : Int) := by omega
        have hi2 : (i : Int) ≤ 256 := by omega
        have HI : Hid (i < L.length) := hil
        simp only at d0 d1
        clear hab hol htl hsl hpi HX HIN HC2 hi HO
        generalize nmB (strT a b) = S at *
        generalize nmB ([91] ++ outS (L.take i)) = T at *
        go_wp2_with fail
        have hkq : Keeps [] wr (wr.alloc (.cells #[.int .u8 (a : Int), .int .u8 (b : Int)] 307)) := (Keeps.refl [] wr).alloc _
        refine (PS _).mono ?_
        rintro e w3 ⟨rfl, hk3⟩
        have hk4 := (hkr.trans hkq).trans hk3
        clear hkq hk3 hkr PS d0 d1
        go_wp2_with fail
        go_roundw
        case rel => exact ⟨i + 1, HI.out, by rw [← HAP.out], by go_num, hk4⟩
        case measure => have := HI.out; simp [intOf]; omega
       ·have hie : i = L.length := by omega
        have hni : ¬ (i : Int) < (L.length : Int) := by omega
        have hol := outS_len L
        have hz : ¬ 9223372036854775807 < (nmB ([91] ++ outS (L.take i))).size + (ByteArray.mk #[93]).size := by
         rw [hie, List.take_length, nmB_size, List.length_append, List.length_singleton]
         show ¬ 9223372036854775807 < _ + 1
         omega
        have hap := nmB_append ([91] ++ outS (L.take i)) [93]
        have HF : Hid (setT f = ([91] ++ outS (L.take i)) ++ [93]) := by show setT f = _; rw [HX.out, hie, List.take_length]
        clear hol HX hie hil hi HIN HC2
        go_wp2_with fail
        go_ret
        exact ⟨by rw [HF.out, ← nmB_append]; rfl, hkX.trans hkr⟩
end Go.Proofs.YtnfojonmohijpaaGreatDoor
namespace Go.Proofs.YtnfojonmohijpaaGreatDoor
open Go.RowKit
def GP (w : World) : Prop := w.cell? ⟨1, 0, none⟩ = some (.int .u64 1)
set_option maxRecDepth 100000 in
set_option maxHeartbeats 1000000 in
theorem len64_one (w : World) : Calls Tryz.prog 271 #[.int .u64 1] w fun e w' => e = .returned (.int .i64 1) ∧ w' = w := by
 go_enter Tryz.func271, Tryz.ntmps271
 go_wp2_with fail
 go_ret
 exact ⟨ret_int (by kernel_rfl), rfl⟩
set_option maxRecDepth 100000 in
set_option maxHeartbeats 1000000 in
theorem log_one (w : World) : Calls Tryz.prog 270 #[.int .i64 1] w fun e w' => e = .returned (.int .i64 0) ∧ w' = w := by
 go_enter Tryz.func270, Tryz.ntmps270
 go_wp2_with fail
 go_ret
 exact ⟨ret_int (by decide), rfl⟩
set_option maxRecDepth 100000 in
set_option maxHeartbeats 1000000 in
theorem bool2_true (w : World) : Calls Tryz.prog 272 #[.bool true] w fun e w' => e = .returned (.int .i64 1) ∧ w' = w := by
 go_enter Tryz.func272, Tryz.ntmps272
 go_wp2_with fail
 go_ret
 exact ⟨rfl, rfl⟩
set_option maxRecDepth 100000 in
set_option maxHeartbeats 1000000 in
theorem numDigits_one (w : World) (hg : GP w) : Calls Tryz.prog 241 #[.int .u64 1] w fun e w' => e = .returned (.int .i64 1) ∧ Keeps [] w w' := by
 have hg' : w.cell? ⟨1, 0, none⟩ = some (.int .u64 1) := hg
 go_enter Tryz.func241, Tryz.ntmps241
 go_wp2_with (first | (go_at_call 271; refine (len64_one _).mono ?_; rintro e w1 ⟨rfl, rfl⟩) | (go_at_call 270; refine (log_one _).mono ?_; rintro e w1 ⟨rfl, rfl⟩) | (go_at_call 272; refine (bool2_true _).mono ?_; rintro e w1 ⟨rfl, rfl⟩))
 go_ret
 exact ⟨rfl, Keeps.refl _ _⟩
set_option maxRecDepth 100000 in
set_option maxHeartbeats 1000000 in
theorem small_any (n : Nat) (hn : n ≤ 5) (w : World) : Calls Tryz.prog 240 #[.int .i64 (n : Int)] w fun e w' => e = .returned (.string (nmB (digT n))) ∧ Keeps [] w w' := by
 have h0 : n = 0 ∨ n = 1 ∨ n = 2 ∨ n = 3 ∨ n = 4 ∨ n = 5 := by omega
 rcases h0 with rfl | rfl | rfl | rfl | rfl | rfl
 all_goals
  go_enter Tryz.func240, Tryz.ntmps240
  go_wp2_with fail
  go_ret
  exact ⟨by kernel_rfl, Keeps.refl [] w⟩
set_option maxRecDepth 100000 in
set_option maxHeartbeats 1000000 in
theorem fmt_small (n : Nat) (hn : n ≤ 5) (w : World) : Calls Tryz.prog 201 #[.int .i64 (n : Int), .int .i64 10] w fun e w' => e = .returned (.string (nmB (digT n))) ∧ Keeps [] w w' := by
 have h0 : (0 : Int) ≤ (n : Int) := by omega
 have h1 : (n : Int) < 100 := by omega
 go_enter Tryz.func201, Tryz.ntmps201
 go_wp2_with (first | (go_at_call 240; refine (small_any n hn _).mono ?_; rintro e w1 ⟨rfl, hk1⟩))
 go_ret
 exact ⟨rfl, hk1⟩
theorem conv_at (w : World) (g cap : Nat) (x y : UInt8) (h0 : w.cell? ⟨g, 0, none⟩ = some (.int .u8 (x.toNat : Int))) (h1 : w.cell? ⟨g, 1, none⟩ = some (.int .u8 (y.toNat : Int))) : (convert 64 9 (.slice (some ⟨g, 0, none⟩) 2 cap)).run Tryz.prog w = .ok (.string (nmB [x, y])) w := by
 rw [run_convert_bytes_string w _ _ 5 _ _ _ Tryz.underlying64 Tryz.underlying5 Tryz.underlying9]
 have hld : (loadCells ⟨g, 0, none⟩ 2).run Tryz.prog w = .ok (([x, y].map fun u => (u.toNat : Int)).map (Value.int .u8)).toArray w := by
  refine run_loadCells_list (P := Tryz.prog) w ⟨g, 0, none⟩ [.int .u8 (x.toNat : Int), .int .u8 (y.toNat : Int)] ?_
  intro j u hu
  match j, hu with
  | 0, hu => simp at hu; subst hu; simpa [Addr.add] using h0
  | 1, hu => simp at hu; subst hu; simpa [Addr.add] using h1
 rw [run_bytesToString w _ _ _ _ hld, push_bytes]
 congr 2
set_option maxRecDepth 100000 in
set_option maxHeartbeats 1000000 in
theorem fmt10_one (b off cap : Nat) (v : Value) (w : World) (hc : w.cell? ⟨b, off, none⟩ = some v) (hf : w.frozen? ⟨b, off, none⟩ = false) :
    Calls Tryz.prog 242 #[.slice (some ⟨b, off, none⟩) 1 cap, .int .u64 1] w fun e w' => e = .returned (.tuple #[]) ∧ w' = w.setCell ⟨b, off, none⟩ (.int .u8 49) := by
 go_enter Tryz.func242, Tryz.ntmps242
 go_wp2_with fail
 go_loopw [1, 4] (fun u v wr => u = .int .u64 1 ∧ v = .int .i64 1 ∧ wr = w) (fun _ _ _ => 0)
 case atStart => exact ⟨rfl, rfl, rfl⟩
 case round =>
  obtain ⟨rfl, rfl, rfl⟩ := hrel
  go_wp2_with fail
  go_end0
  exact ⟨rfl, rfl⟩
set_option maxRecDepth 100000 in
set_option maxHeartbeats 1000000 in
theorem fmt_neg (w : World) (hg : GP w) : Calls Tryz.prog 201 #[.int .i64 (-1), .int .i64 10] w fun e w' => (∃ t, e = .returned (.string t)) ∧ Keeps [] w w' := by
 go_enter Tryz.func201, Tryz.ntmps201
 go_wp2_with fail
 have e1 : IntKind.u64.wrap (-IntKind.u64.wrap (-1)) = 1 := by decide
 rw [e1]
 have hk0 := (Keeps.refl [] w).alloc (.cells (Array.replicate 24 (.int .u8 0)) 325)
 have hg0 : GP _ := keep_cell hk0 hg
 have c0 : (w.alloc (.cells (Array.replicate 24 (.int .u8 0)) 325)).cell? ⟨w.heap.size, 0, none⟩ = some (.int .u8 0) := by simp
 have c1 : (w.alloc (.cells (Array.replicate 24 (.int .u8 0)) 325)).cell? ⟨w.heap.size, 1, none⟩ = some (.int .u8 0) := by simp
 have f0 : (w.alloc (.cells (Array.replicate 24 (.int .u8 0)) 325)).frozen? ⟨w.heap.size, 0, none⟩ = false := by simp
 have f1 : (w.alloc (.cells (Array.replicate 24 (.int .u8 0)) 325)).frozen? ⟨w.heap.size, 1, none⟩ = false := by simp
 refine (numDigits_one _ hg0).mono ?_
 rintro e w1 ⟨rfl, hk1⟩
 have d0 := keep_cell hk1 c0
 have d1 := keep_cell hk1 c1
 have k0 : w1.frozen? ⟨w.heap.size, 0, none⟩ = false := (World.frozen?_of_block (hk1.block _ (World.block_lt_of_cell? _ _ c0) (by simp))).trans f0
 have k1 : w1.frozen? ⟨w.heap.size, 1, none⟩ = false := (World.frozen?_of_block (hk1.block _ (World.block_lt_of_cell? _ _ c1) (by simp))).trans f1
 have hkA := hk0.trans hk1
 have hlt := World.block_lt_of_cell? _ _ d0
 clear c0 c1 f0 f1 hg0 hk0 hk1 e1 hg
 have d0' : (w1.setCell ⟨w.heap.size, 1, none⟩ (.int .u8 49)).cell? ⟨w.heap.size, 0, none⟩ = some (.int .u8 0) := (World.cell?_setCell_other _ _ _ _ (by simp)).trans d0
 have k0' : (w1.setCell ⟨w.heap.size, 1, none⟩ (.int .u8 49)).frozen? ⟨w.heap.size, 0, none⟩ = false := by rw [World.frozen?_setCell]; exact k0
 have cv := conv_at ((w1.setCell ⟨w.heap.size, 1, none⟩ (.int .u8 49)).setCell ⟨w.heap.size, 0, none⟩ (.int .u8 45)) w.heap.size 24 45 49 (World.cell?_setCell_same _ _ _ d0') ((World.cell?_setCell_other _ _ _ _ (by simp)).trans (World.cell?_setCell_same _ _ _ d1))
 go_wp2_with (first | (go_at_call 242; refine (fmt10_one w.heap.size 1 _ _ _ d1 k1).mono ?_; rintro e w2 ⟨rfl, rfl⟩))
 go_ret
 exact ⟨⟨_, rfl⟩, (hkA.setCell (Or.inr (Nat.le_refl _)) _).setCell (Or.inr (Nat.le_refl _)) _⟩
set_option maxRecDepth 100000 in
set_option maxHeartbeats 1000000 in
theorem iitoa_small (n : Nat) (hn : n ≤ 5) (w : World) : Calls Tryz.prog 161 #[.int .i64 (n : Int)] w fun e w' => e = .returned (.string (nmB (digT n))) ∧ Keeps [] w w' := by
 go_enter Tryz.func161, Tryz.ntmps161
 go_wp2_with (first | (go_at_call 201; refine (fmt_small n hn _).mono ?_; rintro e w1 ⟨rfl, hk1⟩))
 go_ret
 exact ⟨rfl, hk1⟩
set_option maxRecDepth 100000 in
set_option maxHeartbeats 1000000 in
theorem itoa_small (n : Nat) (hn : n ≤ 5) (w : World) : Calls Tryz.prog 105 #[.int .i64 (n : Int)] w fun e w' => e = .returned (.string (nmB (digT n))) ∧ Keeps [] w w' := by
 go_enter Tryz.func105, Tryz.ntmps105
 go_wp2_with (first | (go_at_call 161; refine (iitoa_small n hn _).mono ?_; rintro e w1 ⟨rfl, hk1⟩))
 go_ret
 exact ⟨rfl, hk1⟩
set_option maxRecDepth 100000 in
set_option maxHeartbeats 1000000 in
theorem iitoa_neg (w : World) (hg : GP w) : Calls Tryz.prog 161 #[.int .i64 (-1)] w fun e w' => (∃ t, e = .returned (.string t)) ∧ Keeps [] w w' := by
 go_enter Tryz.func161, Tryz.ntmps161
 go_wp2_with (first | (go_at_call 201; refine (fmt_neg _ hg).mono ?_; rintro e w1 ⟨⟨t, rfl⟩, hk1⟩))
 go_ret
 exact ⟨⟨t, rfl⟩, hk1⟩
set_option maxRecDepth 100000 in
set_option maxHeartbeats 1000000 in
theorem itoa_neg (w : World) (hg : GP w) : Calls Tryz.prog 105 #[.int .i64 (-1)] w fun e w' => (∃ t, e = .returned (.string t)) ∧ Keeps [] w w' := by
 go_enter Tryz.func105, Tryz.ntmps105
 go_wp2_with (first | (go_at_call 161; refine (iitoa_neg _ hg).mono ?_; rintro e w1 ⟨⟨t, rfl⟩, hk1⟩))
 go_ret
 exact ⟨⟨t, rfl⟩, hk1⟩
end Go.Proofs.YtnfojonmohijpaaGreatDoor
namespace Go.Proofs.YtnfojonmohijpaaGreatDoor
open Go.RowKit
theorem GP.keep {w w' : World} (h : GP w) (hk : Keeps [] w w') : GP w' := keep_cell hk h
theorem itoa_any (n : Int) (hn : n = -1 ∨ ∃ k : Nat, n = k ∧ k ≤ 5) (w : World) (hg : GP w) :
    Calls Tryz.prog 105 #[.int .i64 n] w fun e w' => ∃ t, e = .returned (.string t) ∧ (∀ k : Nat, n = k → t = nmB (digT k)) ∧ Keeps [] w w' := by
 rcases hn with rfl | ⟨k, rfl, hk⟩
 ·refine (itoa_neg w hg).mono ?_
  rintro e w' ⟨⟨t, rfl⟩, hk⟩
  exact ⟨t, rfl, by intro k h; omega, hk⟩
 ·refine (itoa_small k hk w).mono ?_
  rintro e w' ⟨rfl, hk⟩
  exact ⟨_, rfl, by intro k' h; have : k = k' := by omega
                    rw [this], hk⟩
def repO : Option (Nat × Int) → List UInt8
 | none => []
 | some (m, n) => repT m n
theorem digT_sz (m : Nat) : (nmB (digT m)).size = 1 := rfl
theorem one_app (x : UInt8) (l : List UInt8) : (ByteArray.mk #[x]) ++ nmB l = nmB ([x] ++ l) := nmB_append [x] l
theorem app_one (x : UInt8) (l : List UInt8) : nmB l ++ (ByteArray.mk #[x]) = nmB (l ++ [x]) := nmB_append l [x]
theorem app_two (x y : UInt8) (l : List UInt8) : nmB l ++ (ByteArray.mk #[x, y]) = nmB (l ++ [x, y]) := nmB_append l [x, y]
theorem small_sz {a b : Nat} (ha : a ≤ 10) (hb : b ≤ 10) : ¬ 9223372036854775807 < a + b := by omega
set_option maxRecDepth 100000 in
set_option maxHeartbeats 4000000 in
theorem plainRepeat_gen (on : Bool) (m : Nat) (n : Int) (hm : m ≤ 5) (hn : n = -1 ∨ ∃ k : Nat, n = k ∧ k ≤ 5) (hoff : on = false → m = 0 ∧ n = 0) (w : World) (hg : GP w) :
    Calls Tryz.prog 121 #[.agg #[.bool on, .int .i64 (m : Int), .int .i64 n]] w fun e w' => e = .returned (.string (nmB (if on then repT m n else []))) ∧ Keeps [] w w' := by
 have k0 : Keeps [] w (w.alloc (.cells #[.bool on, .int .i64 (m : Int), .int .i64 n] 210)) := (Keeps.refl [] w).alloc _
 have c0 : (w.alloc (.cells #[.bool on, .int .i64 (m : Int), .int .i64 n] 210)).cell? ⟨w.heap.size, 0, none⟩ = some (.bool on) := by simp
 have c1 : (w.alloc (.cells #[.bool on, .int .i64 (m : Int), .int .i64 n] 210)).cell? ⟨w.heap.size, 1, none⟩ = some (.int .i64 (m : Int)) := by simp
 have c2 : (w.alloc (.cells #[.bool on, .int .i64 (m : Int), .int .i64 n] 210)).cell? ⟨w.heap.size, 2, none⟩ = some (.int .i64 n) := by simp
 have HT : Hid (∃ X, (if on then repT m n else []) = X) := ⟨_, rfl⟩
 obtain ⟨X, hX⟩ := HT.out
 rw [hX]
 have HX : Hid ((if on then repT m n else []) = X) := hX
 have HM : Hid (m ≤ 5) := hm
 clear hX HT
 go_enter Tryz.func121, Tryz.ntmps121
 go_wp2_with fail
 generalize w.alloc (.cells #[.bool on, .int .i64 (m : Int), .int .i64 n] 210) = W at *
 have kD : Keeps [] W W.drew := (Keeps.refl [] W).drewN 1
 have d1 := keep_cell kD c1
 have d2 := keep_cell kD c2
 have gD := (hg.keep k0).keep kD
 go_cut [3, 4] from 5 to 10 (fun u v wx => u = .string (nmB (digT m)) ∧ (∃ t, v = .string t ∧ ∀ k : Nat, n = k → t = nmB (digT k)) ∧ Keeps [] W wx)
 case first =>
  go_region_with (first
    | (go_at_call 105; refine (itoa_small m hm _).mono ?_; rintro e w1 ⟨rfl, hk1⟩; have gE := gD.keep hk1; have e2 := keep_cell hk1 d2; clear gD d2 hm)
    | (go_at_call 105; refine (itoa_any n hn _ gE).mono ?_; rintro e w2 ⟨t2, rfl, ht2, hk2⟩))
  all_goals
   go_wp2_with fail
   go_meet
   case rel => exact ⟨rfl, ⟨_, rfl, ht2⟩, (kD.trans hk1).trans hk2⟩
 case rest =>
  obtain ⟨rfl, ⟨t, rfl, ht⟩, hkx⟩ := hcut
  have HTT : Hid (∀ k : Nat, n = k → t = nmB (digT k)) := ht
  have c0 := keep_cell hkx c0
  have c1 := keep_cell hkx c1
  have c2 := keep_cell hkx c2
  have hkF := k0.trans hkx
  clear ht d1 d2 gD kD k0 hkx hg
  cases on with
  | false =>
   obtain ⟨h1, h2⟩ := hoff rfl
   subst h1 h2
   have hx := HX.out
   simp only [Bool.false_eq_true, if_false] at hx
   subst hx
   clear HTT HX
   go_wp2_with fail
   go_ret
   exact ⟨rfl, hkF⟩
  | true =>
   have hx := HX.out
   simp only [if_true] at hx
   clear HX hoff
   have hHX : Hid (repT m n = X) := hx
   clear hx
   rcases hn with rfl | ⟨k, rfl, hk⟩
   ·by_cases h0 : m = 0
    ·subst h0
     have hx := hHX.out
     subst hx
     clear HTT hHX
     go_wp2_with fail
     go_ret
     exact ⟨rfl, hkF⟩
    ·by_cases h1 : m = 1
     ·subst h1
      have hx := hHX.out
      subst hx
      clear HTT hHX
      go_wp2_with fail
      go_ret
      exact ⟨rfl, hkF⟩
     ·have a0 : ¬ (m : Int) = 0 := by omega
      have a1 : ¬ (m : Int) = 1 := by omega
      have hx : [123] ++ digT m ++ [44, 125] = X := by
       rw [← hHX.out]
       simp [repT, h0, h1]
      have p1 := one_app 123 (digT m)
      have p2 := app_two 44 125 ([123] ++ digT m)
      have z1 : ¬ 9223372036854775807 < (ByteArray.mk #[123]).size + (nmB (digT m)).size := small_sz (by decide) (by rw [digT_sz]; decide)
      have z2 : ¬ 9223372036854775807 < (nmB ([123] ++ digT m)).size + (ByteArray.mk #[44, 125]).size := small_sz (by rw [nmB_size]; simp [digT]) (by decide)
      subst hx
      clear HTT hHX h0 h1
      go_wp2_with fail
      go_ret
      exact ⟨rfl, hkF⟩
   ·have hkt := HTT.out k rfl
    subst hkt
    by_cases hq : m = 0 ∧ k = 1
    ·obtain ⟨rfl, rfl⟩ := hq
     have hx := hHX.out
     subst hx
     clear HTT hHX
     go_wp2_with fail
     go_ret
     exact ⟨rfl, hkF⟩
    ·have b1 : ¬ (k : Int) = -1 := by omega
     by_cases hmk : m = k
     ·subst hmk
      have b2 : ¬ ((m : Int) = 0 ∧ (m : Int) = 1) := by omega
      have hx : [123] ++ digT m ++ [125] = X := by
       rw [← hHX.out]
       have : ¬ (m : Int) < 0 := by omega
       simp [repT, this]
       intro h1 h2
       omega
      have p1 := one_app 123 (digT m)
      have p2 := app_one 125 ([123] ++ digT m)
      have z1 : ¬ 9223372036854775807 < (ByteArray.mk #[123]).size + (nmB (digT m)).size := small_sz (by decide) (by rw [digT_sz]; decide)
      have z2 : ¬ 9223372036854775807 < (nmB ([123] ++ digT m)).size + (ByteArray.mk #[125]).size := small_sz (by rw [nmB_size]; simp [digT]) (by decide)
      subst hx
      clear HTT hHX hq
      by_cases hm0 : m = 0
      ·subst hm0
       go_wp2_with fail
       go_ret
       exact ⟨rfl, hkF⟩
      ·have hm0' : ¬ (m : Int) = 0 := by omega
       go_wp2_with fail
       go_ret
       exact ⟨rfl, hkF⟩
     ·have b3 : ¬ (k : Int) = (m : Int) := by omega
      have hx : [123] ++ digT m ++ [44] ++ digT k ++ [125] = X := by
       rw [← hHX.out]
       have : ¬ (k : Int) < 0 := by omega
       have h4 : ¬ ((k : Int) = 1 ∧ m = 0) := by omega
       simp only [repT, this, false_and, if_false, h4, b3]
       simp
      have p1 := one_app 123 (digT m)
      have p2 := app_one 44 ([123] ++ digT m)
      have p3 := nmB_append ([123] ++ digT m ++ [44]) (digT k)
      have p4 := app_one 125 ([123] ++ digT m ++ [44] ++ digT k)
      have z1 : ¬ 9223372036854775807 < (ByteArray.mk #[123]).size + (nmB (digT m)).size := small_sz (by decide) (by rw [digT_sz]; decide)
      have z2 : ¬ 9223372036854775807 < (nmB ([123] ++ digT m)).size + (ByteArray.mk #[44]).size := small_sz (by rw [nmB_size]; simp [digT]) (by decide)
      have z3 : ¬ 9223372036854775807 < (nmB ([123] ++ digT m ++ [44])).size + (nmB (digT k)).size := small_sz (by rw [nmB_size]; simp [digT]) (by rw [digT_sz]; decide)
      have z4 : ¬ 9223372036854775807 < (nmB ([123] ++ digT m ++ [44] ++ digT k)).size + (ByteArray.mk #[125]).size := small_sz (by rw [nmB_size]; simp [digT]) (by decide)
      subst hx
      clear HTT hHX
      by_cases hm0 : m = 0
      ·subst hm0
       have hk1 : ¬ (k : Int) = 1 := by omega
       clear hq
       go_wp2_with fail
       go_ret
       exact ⟨rfl, hkF⟩
      ·have hm0' : ¬ (m : Int) = 0 := by omega
       clear hq
       go_wp2_with fail
       go_ret
       exact ⟨rfl, hkF⟩
theorem plainRepeat_text (o : Option (Nat × Int)) (ho : okRep o) (w : World) (hg : GP w) :
    Calls Tryz.prog 121 #[.agg (repC o).toArray] w fun e w' => e = .returned (.string (nmB (repO o))) ∧ Keeps [] w w' := by
 cases o with
 | none => exact plainRepeat_gen false 0 0 (by omega) (Or.inr ⟨0, rfl, by omega⟩) (fun _ => ⟨rfl, rfl⟩) w hg
 | some p =>
  obtain ⟨m, n⟩ := p
  exact plainRepeat_gen true m n ho.1 ho.2 (fun h => by cases h) w hg
end Go.Proofs.YtnfojonmohijpaaGreatDoor
namespace Go.Proofs.YtnfojonmohijpaaGreatDoor
open Go.RowKit
theorem patT_rep (x : Pat) (o : Option (Nat × Int)) : patT (withRep x o) = patT x ++ repO o := by
 cases o with
 | none => simp [withRep, repO]
 | some p => obtain ⟨m, n⟩ := p; rfl
end Go.Proofs.YtnfojonmohijpaaGreatDoor
namespace Go.Proofs.YtnfojonmohijpaaGreatDoor
open Go.RowKit
theorem GP.wf {w w' : World} {B b : Nat} (h : GP w) (hB : 1 < B) (hf : WF B b w w') : GP w' := (World.cell?_of_block (hf.below.block _ hB)).trans h
def WPt (B b : Nat) (l t : List UInt8) (w : World) (e : Ending) (w' : World) : Prop := e = .returned (.tuple #[]) ∧ BD w' B b (l ++ t) ∧ WF B b w w'
def WaysW (n : Nat) : Prop := ∀ (x : Pat), x.sz ≤ n → ∀ (w : World) (S : Nat → Prop) (B b : Nat) (l : List UInt8) (v : Value), Rep w S .ways x [v] → (∀ g, S g → g < B) → BD w B b l → GP w → 1 < B → B ≤ w.heap.size → l.length + (patT x).length ≤ 100000000 →
 Calls Tryz.prog 69 #[.pointer (some ⟨b, 0, none⟩), v] w (WPt B b l (patT x) w)
def SingleW (n : Nat) : Prop := ∀ (x : Pat), x.sz ≤ n → ∀ (w : World) (S : Nat → Prop) (B b : Nat) (l : List UInt8) (cs : List Value), Rep w S .single x cs → (∀ g, S g → g < B) → BD w B b l → GP w → 1 < B → B ≤ w.heap.size → l.length + (patT x).length ≤ 100000000 →
 Calls Tryz.prog 120 #[.pointer (some ⟨b, 0, none⟩), .agg cs.toArray] w (WPt B b l (patT x) w)
set_option maxRecDepth 100000 in
set_option maxHeartbeats 2000000 in
theorem single_write (n : Nat) (IW : WaysW n) : SingleW (n + 1) := by
 intro x hx w S B b l cs hrep hS hbd hgp hB0 hBw hlen
 have hbl := hbd.lt
 cases hrep with
 | set f =>
  have hz0 : (w.alloc (.cells (sc (.int .i64 0) (.slice none 0 0) f).toArray 208)).heap[w.heap.size]? = some (.cells (sc (.int .i64 0) (.slice none 0 0) f).toArray 208 (0, 0)) := heap_alloc_new w _
  have hk0 : Keeps [] w (w.alloc (.cells (sc (.int .i64 0) (.slice none 0 0) f).toArray 208)) := (Keeps.refl [] w).alloc _
  obtain ⟨c0, c1, c2⟩ := sc_cells hz0
  have hbd0 := hbd.keep hk0
  have hls := setT_len f
  have hlen' : l.length ≤ 1000000000 := by omega
  have hll : (Tryz.prog.info? 206).map (·.size) = some (hcells f).toList.length := by rw [Tryz.infoSet]; simp [hcells_size]
  generalize (sc (.int .i64 0) (.slice none 0 0) f).toArray = C at *
  go_enter Tryz.func120, Tryz.ntmps120
  go_wp2_with (first | (refine wpList_load_at rfl 206 _ rfl w.heap.size 2 rfl (hcells f).toList _ c2 Tryz.underlying206 rfl hll ?_))
  refine (plainSet_text f _).mono ?_
  rintro e w1 ⟨rfl, hk1⟩
  have hbd1 := hbd0.keep hk1
  have hkA := hk0.trans hk1
  have hsz := hkA.size
  clear hz0 c0 c1 c2 hbd0 hk0 hk1 hll
  go_wp2_with fail
  refine (writeString_any B b l (setT f) _ hbd1 hlen' (by omega) (by omega)).mono ?_
  rintro e w2 ⟨⟨v, rfl⟩, hb2, hbel, hoth⟩
  go_wp2_with fail
  refine bodyPost_ret (results_none rfl _ _ _) rfl ?_
  exact ⟨rfl, hb2, (WF.ofKeeps hkA hBw).trans ⟨hbel, hoth⟩⟩
 | grp k y v h0 h9 hr =>
  have hz0 : (w.alloc (.cells (sc (.int .i64 k) v fun _ => false).toArray 208)).heap[w.heap.size]? = some (.cells (sc (.int .i64 k) v fun _ => false).toArray 208 (0, 0)) := heap_alloc_new w _
  have hk0 : Keeps [] w (w.alloc (.cells (sc (.int .i64 k) v fun _ => false).toArray 208)) := (Keeps.refl [] w).alloc _
  obtain ⟨c0, c1, c2⟩ := sc_cells hz0
  have hbd0 := hbd.keep hk0
  have hr0 := hr.keep hk0 (by simp)
  have hg0 := hgp.keep hk0
  have hz : (w.alloc (.cells (sc (.int .i64 k) v fun _ => false).toArray 208)).heap.size = w.heap.size + 1 := by simp
  have hpt : (patT (.grp k y)).length = (patT y).length + 2 := by simp [patT]
  have hysz : y.sz ≤ n := by simp [Pat.sz] at hx; omega
  have hkne : ((k : Int) == 0) = false := by simpa using (by omega : ¬ (k : Int) = 0)
  obtain ⟨va, vn, vc, rfl⟩ : IsSl v := by
   cases hr with
   | ways _ _ _ _ _ ho _ => exact ownsRow_sl ho
  generalize (sc (.int .i64 k) (.slice va vn vc) fun _ => false).toArray = C at *
  go_enter Tryz.func120, Tryz.ntmps120
  go_wp2_with fail
  generalize w.alloc (.cells C 208) = W at *
  refine (writeByte_any B b l 40 40 rfl W hbd0 (by omega) (by omega)).mono ?_
  rintro e w1 ⟨rfl, hb1, hbel1, hoth1⟩
  have f1 : WF B b W w1 := ⟨hbel1, hoth1⟩
  have z1 := hbel1.size
  have hz1 := row_wf hz0 (by decide) (by omega) f1
  have d1 : w1.cell? ⟨w.heap.size, 1, none⟩ = some (.slice va vn vc) := by
   rw [Lib.cell_of_heap hz1, ← Lib.cell_of_heap hz0]; exact c1
  have hr1 := hr0.wf hS f1
  have hg1 := hg0.wf hB0 f1
  clear c0 c1 c2 hz0 hbd0 hr0 hg0
  go_wp2_with fail
  refine (IW y hysz w1 S B b (l ++ [40]) _ hr1 hS hb1 hg1 hB0 (by omega) (by rw [List.length_append, List.length_singleton]; omega)).mono ?_
  rintro e w2 ⟨rfl, hb2, f2⟩
  have z2 := f2.below.size
  go_wp2_with fail
  refine (writeByte_any B b (l ++ [40] ++ patT y) 41 41 rfl w2 hb2 (by simp; omega) (by omega)).mono ?_
  rintro e w3 ⟨rfl, hb3, hbel3, hoth3⟩
  go_wp2_with fail
  go_end0
  refine ⟨rfl, ?_, ((WF.ofKeeps hk0 hBw).trans f1).trans (f2.trans ⟨hbel3, hoth3⟩)⟩
  have e : l ++ [40] ++ patT y ++ [41] = l ++ patT (.grp k y) := by simp [patT]
  rw [← e]
  exact hb3
end Go.Proofs.YtnfojonmohijpaaGreatDoor
