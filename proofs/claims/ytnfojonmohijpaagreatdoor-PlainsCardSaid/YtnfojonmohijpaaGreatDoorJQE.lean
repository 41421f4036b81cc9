/-
  DERIVED. The contract of the program's plainSet. No conditions.
-/
import Derived.Test.YtnfojonmohijpaaGreatDoorJQD
import Derived.Test.YtnfojonmohijpaaGreatDoorJPZ
import Derived.DeepKeys
import Derived.Deep.CutRange
set_option linter.unusedSimpArgs false
set_option linter.unusedVariables false
namespace Go.Proofs.YtnfojonmohijpaaGreatDoor
open Go.RowKit

theorem part_set (f : Nat → Bool) (m : Nat) (h : m < 256) (w : World) : (part 4 (hcells f) m).run Tryz.prog w = .ok (.bool (f m)) w := by
  have hc := hcells_get f h
  have hz : (Go.sizeOf 4).run Tryz.prog w = .ok 1 w := by kernel_rfl
  have ha : (isAgg 4).run Tryz.prog w = .ok false w := by kernel_rfl
  unfold part
  simp [ha, hz, hc]
theorem eq_items (f : Nat → Bool) (d : Nat) (w : World) : ∀ is : List Nat, (∀ i ∈ is, i < 256) → (Op.eqItems (d + 1) 4 1 (hcells f) (hcells fun _ => true) is).run Tryz.prog w = .ok (is.all f) w
  | [], _ => by simp [Op.eqItems]
  | i :: is, h => by
    have hi := h i (by simp)
    have h1 := part_set f i hi w
    have h2 := part_set (fun _ => true) i hi w
    have h3 := run_equalIn_bool (P := Tryz.prog) w d 4 (f i) true Tryz.underlying4
    have ih := eq_items f d w is (fun j hj => h j (by simp [hj]))
    unfold Op.eqItems
    simp only [Nat.mul_one, Sem.run_bind, h1, h2, h3, Result.andThen_ok]
    cases hf : f i
    · simp [hf]
    · simpa [hf] using ih
theorem eq_set (f : Nat → Bool) (w : World) : (binOp BinOp.eql 206 (.agg (hcells f)) (.agg (hcells fun _ => true))).run Tryz.prog w = .ok (.bool ((List.range 256).all f)) w := by
  obtain ⟨i, hi⟩ : ∃ i, Tryz.prog.info? 4 = some i := by
    have : (Tryz.prog.info? 4).isSome = true := by kernel_rfl
    exact Option.isSome_iff_exists.1 this
  have hc : Tryz.prog.cellsOf 4 = 1 := by kernel_rfl
  have h1 := run_equalIn_array (P := Tryz.prog) w 9999 (hcells f) (hcells fun _ => true) Tryz.underlying206 hi
  rw [hc, eq_items f 9998 w (List.range 256) (fun i hi => List.mem_range.1 hi)] at h1
  rw [run_eql_struct, h1]
  rfl
theorem all_iff (f : Nat → Bool) : (List.range 256).all f = true ↔ ∀ n, n < 256 → f n = true :=
  ⟨fun h n hn => List.all_eq_true.1 h n (List.mem_range.2 hn), fun h => List.all_eq_true.2 fun n hn => h n (List.mem_range.1 hn)⟩

theorem setT_nil (f : Nat → Bool) (h : (strs f 256).length = 0) : setT f = [91, 94, 92, 120, 48, 48, 45, 92, 120, 102, 102, 93] := by rw [setT_strs, if_pos h]
theorem setT_all (f : Nat → Bool) (h : ¬ (strs f 256).length = 0) (ha : ∀ n, n < 256 → f n = true) : setT f = [46] := by rw [setT_strs, if_neg h, if_pos ha]
theorem setT_one (f : Nat → Bool) (h : ¬ (strs f 256).length = 0) (ha : ¬ ∀ n, n < 256 → f n = true) (h1 : ∃ a, strs f 256 = [(a, a)]) : setT f = outS (strs f 256) := by rw [setT_strs, if_neg h, if_neg ha, if_pos h1]
theorem setT_more (f : Nat → Bool) (h : ¬ (strs f 256).length = 0) (ha : ¬ ∀ n, n < 256 → f n = true) (h1 : ¬ ∃ a, strs f 256 = [(a, a)]) : setT f = [91] ++ outS (strs f 256) ++ [93] := by rw [setT_strs, if_neg h, if_neg ha, if_neg h1]

theorem guard_set (x y : Operand) (u v : Array Value) (w : World) : (eqGuard BinOp.eql 206 x y (.agg u) (.agg v)).run Tryz.prog w = .ok () w := by kernel_rfl
theorem wp_eqSet {o : Oper} {a : Act} {w : World} {K : Act → World → Prop} {Q : Exit → Act → World → Prop} (x y : Operand) (ho : o.op = .binOp BinOp.eql 206 x y 206) (f : Nat → Bool) (B : Bool) (hB : Hid ((List.range 256).all f = B)) (h0 : a.eval x = .agg (hcells f)) (h1 : a.eval y = .agg (hcells fun _ => true))
    (h : K (a.put o.dst (.bool B)) w) : o.wp Tryz.prog a w K Q := by
  have hB' := hB.out
  unfold Oper.wp execOp
  simp only [ho, h0, h1]
  simp only [Sem.run_bind, guard_set, Result.andThen_ok, eq_set]
  rw [hB']
  exact h

theorem outS_len (l : List (Nat × Nat)) : (outS l).length ≤ 9 * l.length := by
  induction l with
  | nil => simp [outS]
  | cons p l ih =>
    have h1 := oneT_len p.1
    have h2 := oneT_len p.2
    have h3 : (strT p.1 p.2).length ≤ 9 := by
      unfold strT
      split
      · omega
      · simp; omega
    simp only [outS, List.flatMap_cons, List.length_append, List.length_cons] at ih ⊢
    omega
theorem outS_take (l : List (Nat × Nat)) (i : Nat) (p : Nat × Nat) (h : l[i]? = some p) : outS (l.take (i + 1)) = outS (l.take i) ++ strT p.1 p.2 := by
  rw [List.take_add_one, h]
  simp [outS]
theorem strC_at (l : List (Nat × Nat)) (i : Nat) (p : Nat × Nat) (h : l[i]? = some p) : (strC l)[i * 2]? = some (.int .u8 (p.1 : Int)) ∧ (strC l)[i * 2 + 1]? = some (.int .u8 (p.2 : Int)) := by
  induction l generalizing i with
  | nil => simp at h
  | cons q l ih =>
    have e : strC (q :: l) = .int .u8 (q.1 : Int) :: .int .u8 (q.2 : Int) :: strC l := rfl
    rw [e]
    cases i with
    | zero => simp at h; subst h; simp
    | succ i =>
      have := ih i (by simpa using h)
      have e1 : (i + 1) * 2 = i * 2 + 1 + 1 := by omega
      rw [e1]
      simpa using this

theorem addz (g j : Nat) : (⟨g, 0, none⟩ : Addr).add j = ⟨g, j, none⟩ := by unfold Addr.add; split <;> simp_all

set_option maxRecDepth 100000 in
set_option maxHeartbeats 2000000 in
theorem plainSet_text (f : Nat → Bool) (w : World) :
    Calls Tryz.prog 170 #[.agg (hcells f)] w fun e w' => e = .returned (.string (nmB (setT f))) ∧ Keeps [] w w' := by
  have hz0 : HQ (w.alloc (.cells (hcells f) 206)) w.heap.size f := heap_alloc_new w _
  have hk0 : Keeps [] w (w.alloc (.cells (hcells f) 206)) := (Keeps.refl [] w).alloc _
  have SP := stretches_prog f
  generalize hC : hcells f = C at *
  go_enter Tryz.func170, Tryz.ntmps170
  go_wp2_with (first | (refine wpList_load_row rfl 206 _ rfl w.heap.size rfl _ _ _ _ hz0 Tryz.underlying206 rfl (infoSetC _) ?_))
  generalize w.alloc (.cells C 206) = W at *
  obtain ⟨g0, hg0⟩ : ∃ g0, w.heap.size = g0 := ⟨_, rfl⟩
  rw [hg0] at hz0 ⊢
  refine (SP _).mono ?_
  rintro e w1 ⟨v, rfl, hown, hfr, hk1⟩
  have hz1 := hz0.keep hk1 (by simp)
  have hkA := hk0.trans hk1
  have hgl := hz0.lt
  have hle := strs_len f 256 (Nat.le_refl _)
  have H0 : Hid ((strs f 256).length = 0 → setT f = [91, 94, 92, 120, 48, 48, 45, 92, 120, 102, 102, 93]) := setT_nil f
  have H1 : Hid (¬ (strs f 256).length = 0 → (∀ n, n < 256 → f n = true) → setT f = [46]) := setT_all f
  have H2 : Hid (¬ (strs f 256).length = 0 → (¬ ∀ n, n < 256 → f n = true) → (∃ a, strs f 256 = [(a, a)]) → setT f = outS (strs f 256)) := setT_one f
  have H3 : Hid (¬ (strs f 256).length = 0 → (¬ ∀ n, n < 256 → f n = true) → (¬ ∃ a, strs f 256 = [(a, a)]) → setT f = [91] ++ outS (strs f 256) ++ [93]) := setT_more f
  have HIN : Hid (∀ p ∈ strs f 256, p.1 ≤ p.2 ∧ p.2 < 256) := (cnt_lens f 256 (Nat.le_refl _)).2
  generalize strs f 256 = L at *
  clear hz0 hk0 hk1
  by_cases h0 : L.length = 0
  · have HX : Hid (setT f = [91, 94, 92, 120, 48, 48, 45, 92, 120, 102, 102, 93]) := H0.out h0
    have hL0 : L = [] := List.length_eq_zero_iff.1 h0
    subst hL0
    clear H0 H1 H2 H3 HIN
    rcases hown.2 with ⟨rfl, _⟩ | ⟨g, cap, cur, rfl, _⟩
    · clear hown hfr
      go_wp2_with fail
      go_ret
      exact ⟨by rw [HX.out]; rfl, hkA⟩
    · clear hown hfr
      go_wp2_with fail
      go_ret
      exact ⟨by rw [HX.out]; rfl, hkA⟩
  · obtain ⟨g, cap, hv, _, _⟩ := hown.form (by omega)
    subst hv
    have hl0 : ((L.length : Int) == 0) = false := by simpa using (by omega : ¬ (L.length : Int) = 0)
    have hgg : W.heap.size ≤ g := hfr g rfl
    clear hfr H0
    go_wp2_with fail
    have hwD : Keeps [] w1 w1.drew := (Keeps.refl [] w1).drewN 1
    have hzD := hz1.keep hwD (by simp)
    have hownD := hown.keep hwD (by simp)
    have hkD := hkA.trans hwD
    clear hz1 hown hkA hwD
    obtain ⟨B, HB⟩ : ∃ B, Hid ((List.range 256).all f = B) := ⟨_, rfl⟩
    go_cut [13] from 14 to 16 (fun u wx => u = .bool B ∧ Keeps [] w1.drew wx)
    case first =>
      subst hC
      refine wp_region_any (by kernel_rfl) ?_
      change wpAny _ _ _ _ _ _ _ (World.drew _)
      generalize w1.drew = Y at *
      refine wpAny_ready (rs := [0, 1]) (by kernel_rfl) (by simp) ?_
      refine AllReady.cons rfl (fun K hK => ?_) (AllReady.cons rfl (fun K hK => ?_) AllReady.nil)
      · rw [if_pos (by rfl)]
        refine wp_load_row 206 _ rfl g0 rfl _ _ _ _ hzD Tryz.underlying206 rfl (infoSetC _) (hK _ _ ?_)
        clear hK K
        refine wpAny_ready (rs := [1]) (by kernel_rfl) (by simp) ?_
        refine AllReady.cons rfl (fun K hK => ?_) AllReady.nil
        go_simp
        refine (all_set _).mono ?_
        rintro e w2 ⟨rfl, hk2⟩
        refine hK _ _ ?_
        clear hK K
        refine wpAny_ready (rs := [2]) (by kernel_rfl) (by simp) ?_
        refine AllReady.cons rfl (fun K hK => ?_) AllReady.nil
        rw [if_pos (by rfl)]
        refine wp_eqSet _ _ rfl f B HB rfl rfl (hK _ _ ?_)
        clear hK K
        refine wpAny_ready (rs := [3]) (by kernel_rfl) (by simp) ?_
        refine AllReady.cons rfl (fun K hK => ?_) AllReady.nil
        go_simp
        refine hK _ _ ?_
        clear hK K
        refine wpAny_done (by kernel_rfl) ?_ _
        go_wp2_with fail
        go_meet
        case rel => exact ⟨rfl, hk2⟩
      · go_simp
        refine (all_set _).mono ?_
        rintro e w2 ⟨rfl, hk2⟩
        have hz2 := hzD.keep hk2 (by simp)
        refine hK _ _ ?_
        clear hK K
        refine wpAny_ready (rs := [0]) (by kernel_rfl) (by simp) ?_
        refine AllReady.cons rfl (fun K hK => ?_) AllReady.nil
        rw [if_pos (by rfl)]
        refine wp_load_row 206 _ rfl g0 rfl _ _ _ _ hz2 Tryz.underlying206 rfl (infoSetC _) (hK _ _ ?_)
        clear hK K
        refine wpAny_ready (rs := [2]) (by kernel_rfl) (by simp) ?_
        refine AllReady.cons rfl (fun K hK => ?_) AllReady.nil
        rw [if_pos (by rfl)]
        refine wp_eqSet _ _ rfl f B HB rfl rfl (hK _ _ ?_)
        clear hK K
        refine wpAny_ready (rs := [3]) (by kernel_rfl) (by simp) ?_
        refine AllReady.cons rfl (fun K hK => ?_) AllReady.nil
        go_simp
        refine hK _ _ ?_
        clear hK K
        refine wpAny_done (by kernel_rfl) ?_ _
        go_wp2_with fail
        go_meet
        case rel => exact ⟨rfl, hk2⟩
    case rest =>
      clear hC
      obtain ⟨rfl, hkx⟩ := hcut
      have hownX := hownD.keep hkx (by simp)
      have hkX := hkD.trans hkx
      clear hownD hkD hkx hzD SP
      cases B with
      | true =>
        have HX : Hid (setT f = [46]) := H1.out h0 ((all_iff f).1 HB.out)
        clear H1 H2 H3 HIN HB
        go_wp2_with fail
        go_ret
        exact ⟨by rw [HX.out]; rfl, hkX⟩
      | false =>
        have hna : ¬ ∀ n, n < 256 → f n = true := fun h => by have h1 := HB.out; rw [(all_iff f).2 h] at h1; cases h1
        have H2' : Hid ((∃ a, L = [(a, a)]) → setT f = outS L) := H2.out h0 hna
        have H3' : Hid ((¬ ∃ a, L = [(a, a)]) → setT f = [91] ++ outS L ++ [93]) := H3.out h0 hna
        clear H1 H2 H3 hna HB
        go_wp2_with fail
        have hcell : ∀ i p, L[i]? = some p → wc.cell? ⟨g, i * 2, none⟩ = some (.int .u8 (p.1 : Int)) ∧ wc.cell? ⟨g, i * 2 + 1, none⟩ = some (.int .u8 (p.2 : Int)) := by
          intro i p hp
          have h1 := World.ownsRow.cells hownX rfl (i * 2) _ (strC_at L i p hp).1
          have h2 := World.ownsRow.cells hownX rfl (i * 2 + 1) _ (strC_at L i p hp).2
          rw [addz] at h1 h2
          exact ⟨h1, h2⟩
        have HCL : Hid (∀ i p, L[i]? = some p → wc.cell? ⟨g, i * 2, none⟩ = some (.int .u8 (p.1 : Int)) ∧ wc.cell? ⟨g, i * 2 + 1, none⟩ = some (.int .u8 (p.2 : Int))) := hcell
        have hglt := (hownX.lt g rfl).2
        clear hcell hownX
        obtain ⟨wo, hwo⟩ : ∃ wo : World, wo = wc := ⟨_, rfl⟩
        subst hwo
        by_cases hone : ∃ a, L = [(a, a)]
        · have HX : Hid (setT f = outS L) := H2'.out hone
          obtain ⟨a, rfl⟩ := hone
          have ha : a < 256 := (HIN.out (a, a) (by simp)).2
          obtain ⟨d0, d1⟩ := HCL.out 0 (a, a) rfl
          simp only [Nat.zero_mul, Nat.zero_add] at d0 d1
          have HX2 : Hid (setT f = oneT a) := by
            show setT f = oneT a
            rw [HX.out]; simp [outS, strT]
          clear H2' H3' HIN HX HCL
          go_quiet (fail)
          go_wp2_with (first | (go_at_call 208; refine (plainByte_text a ha _).mono ?_; rintro e w3 ⟨rfl, hk3⟩))
          go_ret
          exact ⟨by rw [HX2.out]; rfl, (hkX.drewN _).trans hk3⟩
        · have HX : Hid (setT f = [91] ++ outS L ++ [93]) := H3'.out hone
          have hHO : Hid (¬ ∃ a, L = [(a, a)]) := hone
          clear H2' H3' hone
          go_cut [17] from 18 to 31 (fun u wx => u = .bool false ∧ ∃ n, wx = wo.drewN n)
          case first =>
            by_cases hl1 : L.length = 1
            · obtain ⟨p, hp⟩ := List.length_eq_one_iff.1 hl1
              subst hp
              obtain ⟨a, b⟩ := p
              have hab : ((a : Int) == (b : Int)) = false := by
                have : ¬ a = b := fun h => hHO.out ⟨a, by rw [h]⟩
                simpa using (by omega : ¬ (a : Int) = (b : Int))
              obtain ⟨d0, d1⟩ := HCL.out 0 (a, b) rfl
              simp only [Nat.zero_mul, Nat.zero_add] at d0 d1
              clear HIN HX HCL hHO
              go_quiet (fail)
              go_wp2_with fail
              go_meet
              case rel => exact ⟨rfl, _, rfl⟩
            · have hl1' : ((L.length : Int) == 1) = false := by simpa using (by omega : ¬ (L.length : Int) = 1)
              clear HIN HX HCL hHO
              go_quiet (fail)
              go_wp2_with fail
              go_meet
              case rel => exact ⟨rfl, _, rfl⟩
          case rest =>
            obtain ⟨rfl, nd, rfl⟩ := hcut
            have hkN : Keeps [] wo (wo.drewN nd) := (Keeps.refl [] wo).drewN nd
            have hcl2 : ∀ i p wr, L[i]? = some p → Keeps [] wo wr → wr.cell? ⟨g, i * 2, none⟩ = some (.int .u8 (p.1 : Int)) ∧ wr.cell? ⟨g, i * 2 + 1, none⟩ = some (.int .u8 (p.2 : Int)) := fun i p wr hp hk => ⟨keep_cell hk (HCL.out i p hp).1, keep_cell hk (HCL.out i p hp).2⟩
            have HC2 : Hid (∀ i p wr, L[i]? = some p → Keeps [] wo wr → wr.cell? ⟨g, i * 2, none⟩ = some (.int .u8 (p.1 : Int)) ∧ wr.cell? ⟨g, i * 2 + 1, none⟩ = some (.int .u8 (p.2 : Int))) := hcl2
            clear hcl2 HCL hHO
            generalize wo.drewN nd = wN at *
            go_wp2_with fail
            go_loopw [4, 39] (fun u q wr => ∃ i : Nat, i ≤ L.length ∧ u = .string (nmB ([91] ++ outS (L.take i))) ∧ q = .int .i64 i ∧ Keeps [] wo wr) (fun _ q _ => L.length - (intOf q).toNat)
            case atStart => exact ⟨0, by omega, rfl, rfl, hkN⟩
            case round =>
              clear hkN
              obtain ⟨i, hi, rfl, rfl, hkr⟩ := hrel
              by_cases hil : i < L.length
              · obtain ⟨p, hpi⟩ : ∃ p, L[i]? = some p := ⟨_, List.getElem?_eq_getElem hil⟩
                obtain ⟨a, b⟩ := p
                obtain ⟨d0, d1⟩ := HC2.out i (a, b) wr hpi hkr
                have hab := HIN.out (a, b) (List.mem_of_getElem? hpi)
                have ha : a < 256 := by have := hab.1; have := hab.2; simp at *; omega
                have hb : b < 256 := by have := hab.2; simp at *; omega
                have HO : Hid (outS (L.take (i + 1)) = outS (L.take i) ++ strT a b) := outS_take L i (a, b) hpi
                have hol := outS_len (L.take i)
                have htl : (L.take i).length ≤ i := by simp; omega
                have hsl : (strT a b).length ≤ 9 := by
                  have h1 := oneT_len a
                  have h2 := oneT_len b
                  unfold strT
                  split
                  · omega
                  · simp; omega
                have hz : ¬ 9223372036854775807 < (nmB ([91] ++ outS (L.take i))).size + (nmB (strT a b)).size := by
                  rw [nmB_size, nmB_size, List.length_append, List.length_singleton]
                  omega
                have HAP : Hid (nmB ([91] ++ outS (L.take i)) ++ nmB (strT a b) = nmB ([91] ++ outS (L.take (i + 1)))) := by
                  show nmB ([91] ++ outS (L.take i)) ++ nmB (strT a b) = _
                  rw [nmB_append, HO.out, List.append_assoc]
                have PS := plainStretch_text a b ha hb
                have hi0 : (0 : Int) ≤ (i : Int) := by omega
                have hi1 : (i : Int) < (L.length : Int) := by omega
                have hi2 : (i : Int) ≤ 256 := by omega
                have HI : Hid (i < L.length) := hil
                simp only at d0 d1
                clear hab hol htl hsl hpi HX HIN HC2 hi HO
                generalize nmB (strT a b) = S at *
                generalize nmB ([91] ++ outS (L.take i)) = T at *
                go_wp2_with fail
                have hkq : Keeps [] wr (wr.alloc (.cells #[.int .u8 (a : Int), .int .u8 (b : Int)] 307)) := (Keeps.refl [] wr).alloc _
                refine (PS _).mono ?_
                rintro e w3 ⟨rfl, hk3⟩
                have hk4 := (hkr.trans hkq).trans hk3
                clear hkq hk3 hkr PS d0 d1
                go_wp2_with fail
                go_roundw
                case rel => exact ⟨i + 1, HI.out, by rw [← HAP.out], by go_num, hk4⟩
                case measure => have := HI.out; simp [intOf]; omega
              · have hie : i = L.length := by omega
                have hni : ¬ (i : Int) < (L.length : Int) := by omega
                have hol := outS_len L
                have hz : ¬ 9223372036854775807 < (nmB ([91] ++ outS (L.take i))).size + (ByteArray.mk #[93]).size := by
                  rw [hie, List.take_length, nmB_size, List.length_append, List.length_singleton]
                  show ¬ 9223372036854775807 < _ + 1
                  omega
                have hap := nmB_append ([91] ++ outS (L.take i)) [93]
                have HF : Hid (setT f = ([91] ++ outS (L.take i)) ++ [93]) := by show setT f = _; rw [HX.out, hie, List.take_length]
                clear hol HX hie hil hi HIN HC2
                go_wp2_with fail
                go_ret
                exact ⟨by rw [HF.out, ← nmB_append]; rfl, hkX.trans hkr⟩
end Go.Proofs.YtnfojonmohijpaaGreatDoor
