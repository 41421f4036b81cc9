/-
  DERIVED. The contract of the program's writeWays, by induction on the pattern. Conditions: the builder and the pattern lie apart, the variable uint64pow10 begins with 1.
-/
import Derived.Test.YtnfojonmohijpaaGreatDoorJQF
set_option linter.unusedSimpArgs false
set_option linter.unusedVariables false
namespace Go.Proofs.YtnfojonmohijpaaGreatDoor
open Go.RowKit

theorem alloc_piece (w : World) : (Instr.alloc 212 true (.tuple #[])).run Tryz.prog w = .ok (.pointer (some ⟨w.heap.size, 0, none⟩)) (w.alloc (.cells pz.toArray 212)) := by kernel_rfl
theorem wpList_zeroPiece {ops : Array Oper} {rest : List Oper} {o : Oper} {a : Act} {w : World} {Q : Exit → Act → World → Prop} (hg : o.guard = none) (ho : o.op = .alloc 212) (d : Option Tmp) (hd : o.dst = d)
    (h : wpList Tryz.prog ops Q rest (a.put d (.pointer (some ⟨w.heap.size, 0, none⟩))) (w.alloc (.cells pz.toArray 212))) : wpList Tryz.prog ops Q (o :: rest) a w := by
  subst hd
  refine wpList_plain hg fun K hK => ?_
  unfold Oper.wp execOp
  simp only [ho, Sem.run_bind, alloc_piece, Sem.run_pure, Result.andThen_ok]
  exact hK _ _ h
theorem infoPc (cs : List Value) (h : cs.length = 261) : (Tryz.prog.info? 212).map (·.size) = some cs.length := by rw [h]; kernel_rfl
theorem infoSg (cs : List Value) (h : cs.length = 258) : (Tryz.prog.info? 208).map (·.size) = some cs.length := by rw [h]; kernel_rfl
theorem infoRp (o : Option (Nat × Int)) : (Tryz.prog.info? 210).map (·.size) = some (repC o).length := by rw [repC_len]; kernel_rfl

/-- A slice that owns a row, its length. -/
theorem ownsRow_len {w : World} {e : TypeId} {size : Nat} {v : Value} {n : Nat} {xs : List Value} (h : w.ownsRow 0 e size v n xs) : ∃ a c, v = .slice a n c := by
  rcases h.2 with ⟨rfl, rfl⟩ | ⟨g, cap, cur, rfl, _⟩ <;> exact ⟨_, _, rfl⟩

theorem ownsRow_max {w : World} {e : TypeId} {size : Nat} {v : Value} {n : Nat} {xs : List Value} (h : w.ownsRow 0 e size v n xs) : (n : Int) ≤ 9223372036854775807 := by
  rcases h.2 with ⟨_, rfl⟩ | ⟨g, cap, cur, _, _, _, h1, h2, _⟩
  · omega
  · unfold maxLen at h2; omega

set_option maxRecDepth 100000 in
set_option maxHeartbeats 2000000 in
theorem ways_write (n : Nat) (IS : SingleW n) : WaysW (n + 1) := by
  intro x hx w S B b l v hrep hS hbd hgp hB0 hBw hlen
  have hbl := hbd.lt
  obtain ⟨vs, m, hwl0, hown0, hvS⟩ : ∃ vs m, Rep w S .wlist x vs ∧ w.ownsRow 0 204 1 v m vs ∧ ∀ g, v.ownBlock = some g → S g := by
    cases hrep with
    | ways _ vs _ m h1 h2 h3 => exact ⟨vs, m, h1, h2, h3⟩
  have ht := hwl0.wl_text.1
  have hll := hwl0.wl_text.2.1
  have hmm : m = (wl x).length := by have := hown0.1; omega
  subst hmm
  obtain ⟨va, vc, hv⟩ := ownsRow_len hown0
  have ht0 : tw 0 (wl x) = patT x := by simpa using ht 0
  have HT : Hid (tw 0 (wl x) = patT x) := ht0
  have hwlen := ownsRow_max hown0
  subst hv
  clear ht ht0 hwl0 hll hown0 hvS
  go_enter Tryz.func69, Tryz.ntmps69
  go_wp2_with fail
  go_loopw [10] (fun q wr => ∃ i : Nat, i ≤ (wl x).length ∧ q = .int .i64 i ∧ BD wr B b (l ++ tw 0 ((wl x).take i)) ∧ WF B b w wr) (fun q _ => (wl x).length - (intOf q).toNat)
  case atStart => exact ⟨0, by omega, rfl, by simpa [tw] using hbd, WF.refl _ _ _⟩
  case round =>
    clear hbd
    obtain ⟨i, hi, rfl, hbr, hfr⟩ := hrel
    have hrr := hrep.wf hS hfr
    have hgr := hgp.wf hB0 hfr
    have hsz := hfr.below.size
    by_cases hil : i < (wl x).length
    · obtain ⟨vs, m, hwl, hown, _⟩ : ∃ vs m, Rep wr S .wlist x vs ∧ wr.ownsRow 0 204 1 (.slice va (wl x).length vc) m vs ∧ True := by
        cases hrr with
        | ways _ vs _ m h1 h2 h3 => exact ⟨vs, m, h1, h2, trivial⟩
      obtain ⟨y, hy⟩ : ∃ y, (wl x)[i]? = some y := ⟨_, List.getElem?_eq_getElem hil⟩
      obtain ⟨u, hu, hru, hysz⟩ := hwl.wl_text.2.2 i y hy
      have hm : m = (wl x).length := by have h1 := hown.1; have h2 := hwl.wl_text.2.1; omega
      subst hm
      obtain ⟨g, cap, hv, _, hgl⟩ := hown.form (by omega)
      cases hv
      have hcu := World.ownsRow.cells hown rfl i u hu
      rw [addz] at hcu
      obtain ⟨cs, P, hpl, hownP⟩ : ∃ cs P, Rep wr S .plist y cs ∧ wr.ownsRow 0 212 261 u P cs := by
        cases hru with
        | way _ cs _ P h1 h2 _ => exact ⟨cs, P, h1, h2⟩
      have hP : P = (pl y).length := by have h1 := hownP.1; have h2 := hpl.pl_text.2.1; omega
      subst hP
      have hPmax := ownsRow_max hownP
      obtain ⟨ua, uc, rfl⟩ := ownsRow_len hownP
      have hi0 : (0 : Int) ≤ (i : Int) := by omega
      have hi1 : (i : Int) < ((wl x).length : Int) := by omega
      have HI : Hid (i < (wl x).length) := hil
      have HTK : Hid (tw 0 ((wl x).take (i + 1)) = tw 0 ((wl x).take i) ++ ((if 0 < 0 + i then [124] else []) ++ patT y)) := tw_take (wl x) 0 i y hy
      have hmem := tw_mem (wl x) 0 i y hy
      rw [HT.out] at hmem
      have HL : Hid ((l ++ tw 0 ((wl x).take i)).length + 1 + (patT y).length ≤ 100000001) := by show _ ≤ _; rw [List.length_append]; omega
      have HPT : Hid (tp (pl y) = patT y) := hpl.pl_text.1
      have HRW : Hid (Rep wr S .way y [.slice ua (pl y).length uc]) := hru
      have hszy : y.sz ≤ n := by omega
      clear hu hwl hown hrr hil hi hmem hpl hownP hru hy
      go_upto_if 16 with (fail)
      go_cut [] from 16 to 18 (fun wx => BD wx B b (l ++ tw 0 ((wl x).take i) ++ (if 0 < 0 + i then [124] else [])) ∧ WF B b wr wx)
      case first =>
        by_cases hz : i = 0
        · have hzi : ¬ (0 : Int) < (i : Int) := by omega
          have hb' : BD wr B b (l ++ tw 0 ((wl x).take i) ++ (if 0 < 0 + i then [124] else [])) := by rw [if_neg (by omega), List.append_nil]; exact hbr
          clear hz hbr
          go_wp2_with fail
          go_meet
          case rel => exact ⟨hb', WF.refl _ _ _⟩
        · have hzi : (0 : Int) < (i : Int) := by omega
          have hq : (if 0 < 0 + i then [124] else ([] : List UInt8)) = [124] := if_pos (by omega)
          have HQ2 : Hid ((if 0 < 0 + i then [124] else ([] : List UInt8)) = [124]) := hq
          clear hz hq
          go_wp2_with fail
          refine (writeByte_any B b (l ++ tw 0 ((wl x).take i)) 124 124 rfl wr hbr (by have := HL.out; omega) (by omega)).mono ?_
          rintro e w1 ⟨rfl, hb1, hbel1, hoth1⟩
          go_wp2_with fail
          go_meet
          case rel => exact ⟨by rw [HQ2.out]; exact hb1, hbel1, hoth1⟩
      case rest =>
        obtain ⟨hbx, hfx⟩ := hcut
        obtain ⟨wo, hwo⟩ : ∃ wo : World, wo = wc := ⟨_, rfl⟩
        subst hwo
        have hrW := HRW.out.wf hS hfx
        have hgo := hgr.wf hB0 hfx
        have hfA := hfr.trans hfx
        have hszA := hfA.below.size
        have HL2 : Hid ((l ++ tw 0 ((wl x).take i) ++ (if 0 < 0 + i then [124] else [])).length + (patT y).length ≤ 100000000) := by
          show _ ≤ _
          have h1 := tw_len (wl x) 0 (i + 1)
          rw [HTK.out, HT.out] at h1
          simp only [List.length_append] at h1 ⊢
          omega
        generalize hl2 : l ++ tw 0 ((wl x).take i) ++ (if 0 < 0 + i then [124] else []) = l2 at *
        have HTN : Hid (l ++ tw 0 ((wl x).take (i + 1)) = l2 ++ patT y) := by
          show _ = _
          rw [HTK.out, ← hl2]
          simp
        clear HRW HTK HL hfr hfx hgr hbr hl2 hcu
        obtain ⟨wr0, hwr0⟩ : ∃ wr0 : World, wr0 = wr := ⟨_, rfl⟩
        subst hwr0
        go_wp2_with fail
        go_loopw [21] (fun q wq => ∃ j : Nat, j ≤ (pl y).length ∧ q = .int .i64 j ∧ BD wq B b (l2 ++ tp ((pl y).take j)) ∧ WF B b wo wq) (fun q _ => (pl y).length - (intOf q).toNat)
        case atStart => exact ⟨0, by omega, rfl, by simpa [tp] using hbx, WF.refl _ _ _⟩
        case round =>
          clear hbx
          obtain ⟨j, hj, rfl, hbq, hfq⟩ := hrel
          have hrq := hrW.wf hS hfq
          have hgq := hgo.wf hB0 hfq
          have hszq := hfq.below.size
          by_cases hjl : j < (pl y).length
          · obtain ⟨cs, P, hpl, hownP⟩ : ∃ cs P, Rep wr S .plist y cs ∧ wr.ownsRow 0 212 261 (.slice ua (pl y).length uc) P cs := by
              cases hrq with
              | way _ cs _ P h1 h2 _ => exact ⟨cs, P, h1, h2⟩
            have hP : P = (pl y).length := by have h1 := hownP.1; have h2 := hpl.pl_text.2.1; omega
            subst hP
            obtain ⟨z, hzj⟩ : ∃ z, (pl y)[j]? = some z := ⟨_, List.getElem?_eq_getElem hjl⟩
            obtain ⟨ds, hrz, hds, hzsz⟩ := hpl.pl_text.2.2 j z hzj
            obtain ⟨g2, cap2, hv2, _, _⟩ := hownP.form (by omega)
            cases hv2
            have hc0 : ∀ t u, ds[t]? = some u → wr.cell? ⟨g2, j * 261 + t, none⟩ = some u := by
              intro t u hu
              have := World.ownsRow.cells hownP rfl (j * 261 + t) u (hds t u hu)
              rw [addz] at this
              exact this
            have HTP : Hid (tp ((pl y).take (j + 1)) = tp ((pl y).take j) ++ patT z) := tp_take (pl y) j z hzj
            have hlz : (l2 ++ tp ((pl y).take j)).length + (patT z).length ≤ 100000000 := by
              have h1 := tp_len (pl y) (j + 1)
              rw [HTP.out, HPT.out] at h1
              have h2 := HL2.out
              simp only [List.length_append] at h1 h2 ⊢
              omega
            obtain ⟨x1, o, c1, hzx, hdc, hok, hr1⟩ : ∃ x1 o c1, z = withRep x1 o ∧ ds = c1 ++ repC o ∧ okRep o ∧ Rep wr S .single x1 c1 := by
              cases hrz with
              | piece x1 o c1 h1 h2 => exact ⟨x1, o, c1, rfl, rfl, h1, h2⟩
            subst hdc
            have hl1 : c1.length = 258 := hr1.cells.2
            have hld : (c1 ++ repC o).length = 261 := hrz.cells.2
            have hone := hrz.cells.1
            have hx1 : x1.sz ≤ n := by have := sz_rep x1 o; rw [← hzx] at this; omega
            have HPZ : Hid (patT z = patT x1 ++ repO o) := by show patT z = _; rw [hzx, patT_rep]
            have hlz2 : (l2 ++ tp ((pl y).take j)).length + (patT x1).length + (repO o).length ≤ 100000000 := by
              simp only [HPZ.out, List.length_append] at hlz ⊢; omega
            have hj0 : (0 : Int) ≤ (j : Int) := by omega
            have hj1 : (j : Int) < ((pl y).length : Int) := by omega
            have HJ : Hid (j < (pl y).length) := hjl
            have hzz : pz.toArray.size = (c1 ++ repC o).toArray.size := by rw [List.size_toArray, List.size_toArray, pz_len, hld]
            have hinf := infoPc (c1 ++ repC o) hld
            have hinf2 : (Tryz.prog.info? 212).map (·.size) = some (c1 ++ repC o).toArray.size := by rw [List.size_toArray]; exact hinf
            have hz0 : (wr.alloc (.cells pz.toArray 212)).heap[wr.heap.size]? = some (.cells pz.toArray 212 (0, 0)) := heap_alloc_new wr _
            have hk0 : Keeps [] wr (wr.alloc (.cells pz.toArray 212)) := (Keeps.refl [] wr).alloc _
            have hrow : ((wr.alloc (.cells pz.toArray 212)).setRow wr.heap.size (c1 ++ repC o).toArray).heap[wr.heap.size]? = some (.cells (c1 ++ repC o).toArray 212 (0, 0)) := setRow_heap _ _ _ _ _ _ hz0
            have hc1 : ∀ t u, c1[t]? = some u → ((wr.alloc (.cells pz.toArray 212)).setRow wr.heap.size (c1 ++ repC o).toArray).cell? ⟨wr.heap.size, 0 + t, none⟩ = some u := by
              intro t u hu
              have ht : t < c1.length := by
                rcases Nat.lt_or_ge t c1.length with h | h
                · exact h
                · rw [List.getElem?_eq_none h] at hu; cases hu
              rw [Lib.cell_of_heap hrow, Nat.zero_add, List.getElem?_toArray, List.getElem?_append_left ht]
              exact hu
            have hk1 : Keeps [] wr ((wr.alloc (.cells pz.toArray 212)).setRow wr.heap.size (c1 ++ repC o).toArray) := hk0.setRow (Or.inr (Nat.le_refl _)) _
            have hbq1 := hbq.keep hk1
            have hrx1 := hr1.keep hk1 (by simp)
            have hgq1 := hgq.keep hk1
            have hszk := hk1.size
            have hisg := infoSg c1 hl1
            have HZX : Hid (z = withRep x1 o) := hzx
            clear hpl hownP hrq hds hzj hzsz hrz hjl hj hlz hrW hzx hk0 hbq hr1 hgq
            go_wp2_with (first | (refine wpList_load_at rfl 208 _ rfl wr.heap.size 0 rfl c1 _ hc1 Tryz.underlying208 rfl hisg ?_) | (refine wpList_load_at rfl 212 _ rfl g2 (j * 261) rfl (c1 ++ repC o) _ hc0 Tryz.underlying212 rfl hinf ?_) | (refine wpList_zeroPiece rfl rfl (some 7) rfl ?_; generalize wr.alloc (.cells pz.toArray 212) = W at *) | (refine wpList_store_row rfl 212 _ _ rfl wr.heap.size _ rfl rfl _ _ hz0 hinf2 hzz (one_all hone) ?_))
            generalize W.setRow wr.heap.size (c1 ++ repC o).toArray = W2 at *
            have hBq : B ≤ wr.heap.size := by omega
            have hhb : wr.heap.size ≠ b := by
              have := hbl
              have h3 := hfA.below.size
              omega
            refine (IS x1 hx1 W2 S B b (l2 ++ tp ((pl y).take j)) c1 hrx1 hS hbq1 hgq1 hB0 (by omega) (by omega)).mono ?_
            rintro e w3 ⟨rfl, hb3, hf3⟩
            have hrow3 := row_wf hrow (by decide) hhb hf3
            have hc3 : ∀ t u, (repC o)[t]? = some u → w3.cell? ⟨wr.heap.size, 258 + t, none⟩ = some u := by
              intro t u hu
              rw [Lib.cell_of_heap hrow3, List.getElem?_toArray, List.getElem?_append_right (by omega), hl1]
              have e : 258 + t - 258 = t := by omega
              rw [e]
              exact hu
            have hg3 := hgq1.wf hB0 hf3
            have hs3 := hf3.below.size
            have hirp := infoRp o
            clear hrow hc1 hbq1 hrx1 hgq1 hc0 hinf hinf2 hzz hisg hz0 hone
            go_wp2_with (first | (refine wpList_load_at rfl 210 _ rfl wr.heap.size 258 rfl (repC o) _ hc3 Tryz.underlying210 rfl hirp ?_))
            refine (plainRepeat_text o hok _ hg3).mono ?_
            rintro e w4 ⟨rfl, hk4⟩
            have hb4 := hb3.keep hk4
            have hs4 := hk4.size
            go_wp2_with fail
            refine (writeString_any B b (l2 ++ tp ((pl y).take j) ++ patT x1) (repO o) w4 hb4 (by simp only [List.length_append] at hlz2 ⊢; omega) (by omega) (by omega)).mono ?_
            rintro e w5 ⟨⟨v5, rfl⟩, hb5, hbel5, hoth5⟩
            have hfin : WF B b wo w5 := ((hfq.trans (WF.ofKeeps hk1 hBq)).trans hf3).trans ((WF.ofKeeps hk4 (by omega)).trans ⟨hbel5, hoth5⟩)
            have hbfin : BD w5 B b (l2 ++ tp ((pl y).take (j + 1))) := by
              rw [HTP.out, HPZ.out]
              simpa using hb5
            clear hb5 hb4 hb3 hf3 hk4 hbel5 hoth5 hg3 hc3 hrow3 hk1 hfq
            go_wp2_with fail
            go_roundw
            case rel => exact ⟨j + 1, HJ.out, by go_num, hbfin, hfin⟩
            case measure => have := HJ.out; simp [intOf]; omega
          · have hje : j = (pl y).length := by omega
            have hnj : ¬ (j : Int) < ((pl y).length : Int) := by omega
            have hbf : BD wr B b (l ++ tw 0 ((wl x).take (i + 1))) := by rw [hje, List.take_length, HPT.out] at hbq; rw [HTN.out]; exact hbq
            have hff := hfA.trans hfq
            clear hbq hje hjl hj hrq
            go_wp2_with fail
            exact ⟨⟨i + 1, HI.out, by go_num, hbf, hff⟩, by have := HI.out; simp [intOf]; omega⟩
    · have hie : i = (wl x).length := by omega
      have hni : ¬ (i : Int) < ((wl x).length : Int) := by omega
      have hbf : BD wr B b (l ++ patT x) := by rw [hie, List.take_length, HT.out] at hbr; exact hbr
      clear hbr hie hil hi hrr
      go_wp2_with fail
      go_end0
      exact ⟨rfl, hbf, hfr⟩
/-- The program's writers. -/
theorem writers (n : Nat) : WaysW n ∧ SingleW n := by
  induction n with
  | zero => exact ⟨fun x hx => by have := sz_pos x; omega, fun x hx => by have := sz_pos x; omega⟩
  | succ n ih => exact ⟨ways_write n ih.2, single_write n ih.1⟩
end Go.Proofs.YtnfojonmohijpaaGreatDoor
