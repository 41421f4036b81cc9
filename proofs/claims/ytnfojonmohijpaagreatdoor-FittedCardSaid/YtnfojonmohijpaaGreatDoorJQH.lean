/-
  DERIVED. The contract of the program's writeWays, by induction on the pattern. Conditions: the builder and the pattern lie apart, the variable uint64pow10 begins with 1.
-/
import Derived.Test.YtnfojonmohijpaaGreatDoorJQE
import Derived.Test.YtnfojonmohijpaaGreatDoorJUQ
import Derived.Test.YtnfojonmohijpaaGreatDoorJUN
import Derived.Test.YtnfojonmohijpaaGreatDoorJYE
import Derived.Test.YtnfojonmohijpaaGreatDoorJOM
import Derived.ProofKit
import Derived.Test.YtnfojonmohijpaaGreatDoorJPE
import Derived.Test.YtnfojonmohijpaaGreatDoorJNJ
import Derived.Test.YtnfojonmohijpaaGreatDoorRows
import Derived.LaidMore
import Derived.OpenShut
import Derived.Stop.Joined
import Derived.ChangeMaps5
set_option linter.unusedSimpArgs false
set_option linter.unusedVariables false
namespace Go.Proofs.YtnfojonmohijpaaGreatDoor
open Go.RowKit
theorem alloc_piece (w : World) : (Instr.alloc 212 true (.tuple #[])).run Tryz.prog w = .ok (.pointer (some ⟨w.heap.size, 0, none⟩)) (w.alloc (.cells pz.toArray 212)) := by kernel_rfl
theorem wpList_zeroPiece {ops : Array Oper} {rest : List Oper} {o : Oper} {a : Act} {w : World} {Q : Exit → Act → World → Prop} (hg : o.guard = none) (ho : o.op = .alloc 212) (d : Option Tmp) (hd : o.dst = d)
    (h : wpList Tryz.prog ops Q rest (a.put d (.pointer (some ⟨w.heap.size, 0, none⟩))) (w.alloc (.cells pz.toArray 212))) : wpList Tryz.prog ops Q (o :: rest) a w := by
 subst hd
 refine wpList_plain hg fun K hK => ?_
 unfold Oper.wp execOp
 simp only [ho, Sem.run_bind, alloc_piece, Sem.run_pure, Result.andThen_ok]
 exact hK _ _ h
theorem infoPcQ (cs : List Value) (h : cs.length = 261) : (Tryz.prog.info? 212).map (·.size) = some cs.length := by rw [h]; kernel_rfl
theorem infoSg (cs : List Value) (h : cs.length = 258) : (Tryz.prog.info? 208).map (·.size) = some cs.length := by rw [h]; kernel_rfl
theorem infoRp (o : Option (Nat × Int)) : (Tryz.prog.info? 210).map (·.size) = some (repC o).length := by rw [repC_len]; kernel_rfl
theorem ownsRow_len {w : World} {e : TypeId} {size : Nat} {v : Value} {n : Nat} {xs : List Value} (h : w.ownsRow 0 e size v n xs) : ∃ a c, v = .slice a n c := by
 rcases h.2 with ⟨rfl, rfl⟩ | ⟨g, cap, cur, rfl, _⟩ <;> exact ⟨_, _, rfl⟩
theorem ownsRow_max {w : World} {e : TypeId} {size : Nat} {v : Value} {n : Nat} {xs : List Value} (h : w.ownsRow 0 e size v n xs) : (n : Int) ≤ 9223372036854775807 := by
 rcases h.2 with ⟨_, rfl⟩ | ⟨g, cap, cur, _, _, _, h1, h2, _⟩
 ·omega
 ·unfold maxLen at h2; omega
set_option maxRecDepth 100000 in
set_option maxHeartbeats 2000000 in
theorem ways_write (n : Nat) (IS : SingleW n) : WaysW (n + 1) := by
 intro x hx w S B b l v hrep hS hbd hgp hB0 hBw hlen
 have hbl := hbd.lt
 obtain ⟨vs, m, hwl0, hown0, hvS⟩ : ∃ vs m, Rep w S .wlist x vs ∧ w.ownsRow 0 204 1 v m vs ∧ ∀ g, v.ownBlock = some g → S g := by
  cases hrep with
  | ways _ vs _ m h1 h2 h3 => exact ⟨vs, m, h1, h2, h3⟩
 have ht := hwl0.wl_text.1
 have hll := hwl0.wl_text.2.1
 have hmm : m = (wl x).length := by have := hown0.1; omega
 subst hmm
 obtain ⟨va, vc, hv⟩ := ownsRow_len hown0
 have ht0 : tw 0 (wl x) = patT x := by simpa using ht 0
 have HT : Hid (tw 0 (wl x) = patT x) := ht0
 have hwlen := ownsRow_max hown0
 subst hv
 clear ht ht0 hwl0 hll hown0 hvS
 go_enter Tryz.func69, Tryz.ntmps69
 go_wp2_with fail
 go_loopw [10] (fun q wr => ∃ i : Nat, i ≤ (wl x).length ∧ q = .int .i64 i ∧ BD wr B b (l ++ tw 0 ((wl x).take i)) ∧ WF B b w wr) (fun q _ => (wl x).length - (intOf q).toNat)
 case atStart => exact ⟨0, by omega, rfl, by simpa [tw] using hbd, WF.refl _ _ _⟩
 case round =>
  clear hbd
  obtain ⟨i, hi, rfl, hbr, hfr⟩ := hrel
  have hrr := hrep.wf hS hfr
  have hgr := hgp.wf hB0 hfr
  have hsz := hfr.below.size
  by_cases hil : i < (wl x).length
  ·obtain ⟨vs, m, hwl, hown, _⟩ : ∃ vs m, Rep wr S .wlist x vs ∧ wr.ownsRow 0 204 1 (.slice va (wl x).length vc) m vs ∧ True := by
      cases hrr with
      | ways _ vs _ m h1 h2 h3 => exact ⟨vs, m, h1, h2, trivial⟩
   obtain ⟨y, hy⟩ : ∃ y, (wl x)[i]? = some y := ⟨_, List.getElem?_eq_getElem hil⟩
   obtain ⟨u, hu, hru, hysz⟩ := hwl.wl_text.2.2 i y hy
   have hm : m = (wl x).length := by have h1 := hown.1; have h2 := hwl.wl_text.2.1; omega
   subst hm
   obtain ⟨g, cap, hv, _, hgl⟩ := hown.form (by omega)
   cases hv
   have hcu := World.ownsRow.cells hown rfl i u hu
   rw [addz] at hcu
   obtain ⟨cs, P, hpl, hownP⟩ : ∃ cs P, Rep wr S .plist y cs ∧ wr.ownsRow 0 212 261 u P cs := by
    cases hru with
    | way _ cs _ P h1 h2 _ => exact ⟨cs, P, h1, h2⟩
   have hP : P = (pl y).length := by have h1 := hownP.1; have h2 := hpl.pl_text.2.1; omega
   subst hP
   have hPmax := ownsRow_max hownP
   obtain ⟨ua, uc, rfl⟩ := ownsRow_len hownP
   have hi0 : (0 : Int) ≤ (i : Int) := by omega
   have hi1 : (i : Int) < ((wl x).length : Int) := by omega
   have HI : Hid (i < (wl x).length) := hil
   have HTK : Hid (tw 0 ((wl x).take (i + 1)) = tw 0 ((wl x).take i) ++ ((if 0 < 0 + i then [124] else []) ++ patT y)) := tw_take (wl x) 0 i y hy
   have hmem := tw_mem (wl x) 0 i y hy
   rw [HT.out] at hmem
   have HL : Hid ((l ++ tw 0 ((wl x).take i)).length + 1 + (patT y).length ≤ 100000001) := by show _ ≤ _; rw [List.length_append]; omega
   have HPT : Hid (tp (pl y) = patT y) := hpl.pl_text.1
   have HRW : Hid (Rep wr S .way y [.slice ua (pl y).length uc]) := hru
   have hszy : y.sz ≤ n := by omega
   clear hu hwl hown hrr hil hi hmem hpl hownP hru hy
   go_upto_if 16 with (fail)
   go_cut [] from 16 to 18 (fun wx => BD wx B b (l ++ tw 0 ((wl x).take i) ++ (if 0 < 0 + i then [124] else [])) ∧ WF B b wr wx)
   case first =>
    by_cases hz : i = 0
    ·have hzi : ¬ (0 : Int) < (i : Int) := by omega
     have hb' : BD wr B b (l ++ tw 0 ((wl x).take i) ++ (if 0 < 0 + i then [124] else [])) := by rw [if_neg (by omega), List.append_nil]; exact hbr
     clear hz hbr
     go_wp2_with fail
     go_meet
     case rel => exact ⟨hb', WF.refl _ _ _⟩
    ·have hzi : (0 : Int) < (i : Int) := by omega
     have hq : (if 0 < 0 + i then [124] else ([] : List UInt8)) = [124] := if_pos (by omega)
     have HQ2 : Hid ((if 0 < 0 + i then [124] else ([] : List UInt8)) = [124]) := hq
     clear hz hq
     go_wp2_with fail
     refine (writeByte_any B b (l ++ tw 0 ((wl x).take i)) 124 124 rfl wr hbr (by have := HL.out; omega) (by omega)).mono ?_
     rintro e w1 ⟨rfl, hb1, hbel1, hoth1⟩
     go_wp2_with fail
     go_meet
     case rel => exact ⟨by rw [HQ2.out]; exact hb1, hbel1, hoth1⟩
   case rest =>
    obtain ⟨hbx, hfx⟩ := hcut
    obtain ⟨wo, hwo⟩ : ∃ wo : World, wo = wc := ⟨_, rfl⟩
    subst hwo
    have hrW := HRW.out.wf hS hfx
    have hgo := hgr.wf hB0 hfx
    have hfA := hfr.trans hfx
    have hszA := hfA.below.size
    have HL2 : Hid ((l ++ tw 0 ((wl x).take i) ++ (if 0 < 0 + i then [124] else [])).length + (patT y).length ≤ 100000000) := by
     show _ ≤ _
     have h1 := tw_len (wl x) 0 (i + 1)
     rw [HTK.out, HT.out] at h1
     simp only [List.length_append] at h1 ⊢
     omega
    generalize hl2 : l ++ tw 0 ((wl x).take i) ++ (if 0 < 0 + i then [124] else []) = l2 at *
    have HTN : Hid (l ++ tw 0 ((wl x).take (i + 1)) = l2 ++ patT y) := by
     show _ = _
     rw [HTK.out, ← hl2]
     simp
    clear HRW HTK HL hfr hfx hgr hbr hl2 hcu
    obtain ⟨wr0, hwr0⟩ : ∃ wr0 : World, wr0 = wr := ⟨_, rfl⟩
    subst hwr0
    go_wp2_with fail
    go_loopw [21] (fun q wq => ∃ j : Nat, j ≤ (pl y).length ∧ q = .int .i64 j ∧ BD wq B b (l2 ++ tp ((pl y).take j)) ∧ WF B b wo wq) (fun q _ => (pl y).length - (intOf q).toNat)
    case atStart => exact ⟨0, by omega, rfl, by simpa [tp] using hbx, WF.refl _ _ _⟩
    case round =>
     clear hbx
     obtain ⟨j, hj, rfl, hbq, hfq⟩ := hrel
     have hrq := hrW.wf hS hfq
     have hgq := hgo.wf hB0 hfq
     have hszq := hfq.below.size
     by_cases hjl : j < (pl y).length
     ·obtain ⟨cs, P, hpl, hownP⟩ : ∃ cs P, Rep wr S .plist y cs ∧ wr.ownsRow 0 212 261 (.slice ua (pl y).length uc) P cs := by
         cases hrq with
         | way _ cs _ P h1 h2 _ => exact ⟨cs, P, h1, h2⟩
      have hP : P = (pl y).length := by have h1 := hownP.1; have h2 := hpl.pl_text.2.1; omega
      subst hP
      obtain ⟨z, hzj⟩ : ∃ z, (pl y)[j]? = some z := ⟨_, List.getElem?_eq_getElem hjl⟩
      obtain ⟨ds, hrz, hds, hzsz⟩ := hpl.pl_text.2.2 j z hzj
      obtain ⟨g2, cap2, hv2, _, _⟩ := hownP.form (by omega)
      cases hv2
      have hc0 : ∀ t u, ds[t]? = some u → wr.cell? ⟨g2, j * 261 + t, none⟩ = some u := by
       intro t u hu
       have := World.ownsRow.cells hownP rfl (j * 261 + t) u (hds t u hu)
       rw [addz] at this
       exact this
      have HTP : Hid (tp ((pl y).take (j + 1)) = tp ((pl y).take j) ++ patT z) := tp_take (pl y) j z hzj
      have hlz : (l2 ++ tp ((pl y).take j)).length + (patT z).length ≤ 100000000 := by
       have h1 := tp_len (pl y) (j + 1)
       rw [HTP.out, HPT.out] at h1
       have h2 := HL2.out
       simp only [List.length_append] at h1 h2 ⊢
       omega
      obtain ⟨x1, o, c1, hzx, hdc, hok, hr1⟩ : ∃ x1 o c1, z = withRep x1 o ∧ ds = c1 ++ repC o ∧ okRep o ∧ Rep wr S .single x1 c1 := by
       cases hrz with
       | piece x1 o c1 h1 h2 => exact ⟨x1, o, c1, rfl, rfl, h1, h2⟩
      subst hdc
      have hl1 : c1.length = 258 := hr1.cells.2
      have hld : (c1 ++ repC o).length = 261 := hrz.cells.2
      have hone := hrz.cells.1
      have hx1 : x1.sz ≤ n := by have := sz_rep x1 o; rw [← hzx] at this; omega
      have HPZ : Hid (patT z = patT x1 ++ repO o) := by show patT z = _; rw [hzx, patT_rep]
      have hlz2 : (l2 ++ tp ((pl y).take j)).length + (patT x1).length + (repO o).length ≤ 100000000 := by
       simp only [HPZ.out, List.length_append] at hlz ⊢; omega
      have hj0 : (0 : Int) ≤ (j : Int) := by omega
      have hj1 : (j : Int) < ((pl y).length : Int) := by omega
      have HJ : Hid (j < (pl y).length) := hjl
      have hzz : pz.toArray.size = (c1 ++ repC o).toArray.size := by rw [List.size_toArray, List.size_toArray, pz_len, hld]
      have hinf := infoPcQ (c1 ++ repC o) hld
      have hinf2 : (Tryz.prog.info? 212).map (·.size) = some (c1 ++ repC o).toArray.size := by rw [List.size_toArray]; exact hinf
      have hz0 : (wr.alloc (.cells pz.toArray 212)).heap[wr.heap.size]? = some (.cells pz.toArray 212 (0, 0)) := heap_alloc_new wr _
      have hk0 : Keeps [] wr (wr.alloc (.cells pz.toArray 212)) := (Keeps.refl [] wr).alloc _
      have hrow : ((wr.alloc (.cells pz.toArray 212)).setRow wr.heap.size (c1 ++ repC o).toArray).heap[wr.heap.size]? = some (.cells (c1 ++ repC o).toArray 212 (0, 0)) := setRow_heap _ _ _ _ _ _ hz0
      have hc1 : ∀ t u, c1[t]? = some u → ((wr.alloc (.cells pz.toArray 212)).setRow wr.heap.size (c1 ++ repC o).toArray).cell? ⟨wr.heap.size, 0 + t, none⟩ = some u := by
       intro t u hu
       have ht : t < c1.length := by
        rcases Nat.lt_or_ge t c1.length with h | h
        ·exact h
        ·rw [List.getElem?_eq_none h] at hu; cases hu
       rw [Lib.cell_of_heap hrow, Nat.zero_add, List.getElem?_toArray, List.getElem?_append_left ht]
       exact hu
      have hk1 : Keeps [] wr ((wr.alloc (.cells pz.toArray 212)).setRow wr.heap.size (c1 ++ repC o).toArray) := hk0.setRow (Or.inr (Nat.le_refl _)) _
      have hbq1 := hbq.keep hk1
      have hrx1 := hr1.keep hk1 (by simp)
      have hgq1 := hgq.keep hk1
      have hszk := hk1.size
      have hisg := infoSg c1 hl1
      have HZX : Hid (z = withRep x1 o) := hzx
      clear hpl hownP hrq hds hzj hzsz hrz hjl hj hlz hrW hzx hk0 hbq hr1 hgq
      go_wp2_with (first | (refine wpList_load_at rfl 208 _ rfl wr.heap.size 0 rfl c1 _ hc1 Tryz.underlying208 rfl hisg ?_) | (refine wpList_load_at rfl 212 _ rfl g2 (j * 261) rfl (c1 ++ repC o) _ hc0 Tryz.underlying212 rfl hinf ?_) | (refine wpList_zeroPiece rfl rfl (some 7) rfl ?_; generalize wr.alloc (.cells pz.toArray 212) = W at *) | (refine wpList_store_row rfl 212 _ _ rfl wr.heap.size _ rfl rfl _ _ hz0 hinf2 hzz (one_all hone) ?_))
      generalize W.setRow wr.heap.size (c1 ++ repC o).toArray = W2 at *
      have hBq : B ≤ wr.heap.size := by omega
      have hhb : wr.heap.size ≠ b := by
       have := hbl
       have h3 := hfA.below.size
       omega
      refine (IS x1 hx1 W2 S B b (l2 ++ tp ((pl y).take j)) c1 hrx1 hS hbq1 hgq1 hB0 (by omega) (by omega)).mono ?_
      rintro e w3 ⟨rfl, hb3, hf3⟩
      have hrow3 := row_wf hrow (by decide) hhb hf3
      have hc3 : ∀ t u, (repC o)[t]? = some u → w3.cell? ⟨wr.heap.size, 258 + t, none⟩ = some u := by
       intro t u hu
       rw [Lib.cell_of_heap hrow3, List.getElem?_toArray, List.getElem?_append_right (by omega), hl1]
       have e : 258 + t - 258 = t := by omega
       rw [e]
       exact hu
      have hg3 := hgq1.wf hB0 hf3
      have hs3 := hf3.below.size
      have hirp := infoRp o
      clear hrow hc1 hbq1 hrx1 hgq1 hc0 hinf hinf2 hzz hisg hz0 hone
      go_wp2_with (first | (refine wpList_load_at rfl 210 _ rfl wr.heap.size 258 rfl (repC o) _ hc3 Tryz.underlying210 rfl hirp ?_))
      refine (plainRepeat_text o hok _ hg3).mono ?_
      rintro e w4 ⟨rfl, hk4⟩
      have hb4 := hb3.keep hk4
      have hs4 := hk4.size
      go_wp2_with fail
      refine (writeString_any B b (l2 ++ tp ((pl y).take j) ++ patT x1) (repO o) w4 hb4 (by simp only [List.length_append] at hlz2 ⊢; omega) (by omega) (by omega)).mono ?_
      rintro e w5 ⟨⟨v5, rfl⟩, hb5, hbel5, hoth5⟩
      have hfin : WF B b wo w5 := ((hfq.trans (WF.ofKeeps hk1 hBq)).trans hf3).trans ((WF.ofKeeps hk4 (by omega)).trans ⟨hbel5, hoth5⟩)
      have hbfin : BD w5 B b (l2 ++ tp ((pl y).take (j + 1))) := by
       rw [HTP.out, HPZ.out]
       simpa using hb5
      clear hb5 hb4 hb3 hf3 hk4 hbel5 hoth5 hg3 hc3 hrow3 hk1 hfq
      go_wp2_with fail
      go_roundw
      case rel => exact ⟨j + 1, HJ.out, by go_num, hbfin, hfin⟩
      case measure => have := HJ.out; simp [intOf]; omega
     ·have hje : j = (pl y).length := by omega
      have hnj : ¬ (j : Int) < ((pl y).length : Int) := by omega
      have hbf : BD wr B b (l ++ tw 0 ((wl x).take (i + 1))) := by rw [hje, List.take_length, HPT.out] at hbq; rw [HTN.out]; exact hbq
      have hff := hfA.trans hfq
      clear hbq hje hjl hj hrq
      go_wp2_with fail
      exact ⟨⟨i + 1, HI.out, by go_num, hbf, hff⟩, by have := HI.out; simp [intOf]; omega⟩
  ·have hie : i = (wl x).length := by omega
   have hni : ¬ (i : Int) < ((wl x).length : Int) := by omega
   have hbf : BD wr B b (l ++ patT x) := by rw [hie, List.take_length, HT.out] at hbr; exact hbr
   clear hbr hie hil hi hrr
   go_wp2_with fail
   go_end0
   exact ⟨rfl, hbf, hfr⟩
theorem writers (n : Nat) : WaysW n ∧ SingleW n := by
 induction n with
 | zero => exact ⟨fun x hx => by have := sz_pos x; omega, fun x hx => by have := sz_pos x; omega⟩
 | succ n ih => exact ⟨ways_write n ih.2, single_write n ih.1⟩
end Go.Proofs.YtnfojonmohijpaaGreatDoor
namespace Go.Proofs.YtnfojonmohijpaaGreatDoor
open Go.RowKit
theorem Keeps.ofBelow0 {w w' : World} (h : Below w.heap.size w w') : Keeps [] w w' := ⟨h.os, h.tape, h.output, h.size, fun j hj _ => h.block j hj⟩
set_option maxRecDepth 100000 in
set_option maxHeartbeats 2000000 in
theorem pplain_any (W : Whole) (v : Value) (S : Nat → Prop) (w : World) (hrep : Rep w S .ways W.x [v]) (hgp : GP w) (hsz : W.x.sz ≤ 1000) :
    Calls Tryz.prog 37 #[.agg #[.bool W.bg, .bool W.en, v, .int .i64 (W.g : Int)]] w fun e w' => e = .returned (.string (nmB (wholeT W))) ∧ Keeps [] w w' := by
 have hrep1 := hrep.mono (S' := fun g => g < w.heap.size) fun g _ h => h
 have hB0 : 1 < w.heap.size := World.block_lt_of_cell? w _ hgp
 have hpl := patT_len W.x
 obtain ⟨va, vn, vc, rfl⟩ : IsSl v := by
  cases hrep with
  | ways _ _ _ _ _ ho _ => exact ownsRow_sl ho
 have hk0 : Keeps [] w ((w.alloc (.cells #[.bool W.bg, .bool W.en, .slice va vn vc, .int .i64 (W.g : Int)] 70)).alloc (.cells #[.pointer none, .slice none 0 0] 133)) := ((Keeps.refl [] w).alloc _).alloc _
 have hp0 : P4 ((w.alloc (.cells #[.bool W.bg, .bool W.en, .slice va vn vc, .int .i64 (W.g : Int)] 70)).alloc (.cells #[.pointer none, .slice none 0 0] 133)) w.heap.size (.bool W.bg) (.bool W.en) (.slice va vn vc) (.int .i64 (W.g : Int)) := heap_alloc2_old w _ _
 have hb0 : BD ((w.alloc (.cells #[.bool W.bg, .bool W.en, .slice va vn vc, .int .i64 (W.g : Int)] 70)).alloc (.cells #[.pointer none, .slice none 0 0] 133)) w.heap.size (w.heap.size + 1) [] :=
  ⟨by omega, .pointer none, .slice none 0 0, Or.inl rfl, heap_alloc2_new w _ _, ⟨rfl, Or.inl ⟨rfl, rfl⟩⟩, by simp [Value.ownBlock], fun _ => rfl⟩
 have hr0 := hrep1.keep hk0 (by simp)
 have hg0 := hgp.keep hk0
 have HW : Hid (wholeT W = (if W.bg then [94] else []) ++ patT W.x ++ (if W.en then [36] else [])) := rfl
 have WW := (writers 1000).1 W.x hsz
 obtain ⟨m0, m1, m2, m3, _⟩ := hp0.main
 have hz : ((w.alloc (.cells #[.bool W.bg, .bool W.en, .slice va vn vc, .int .i64 (W.g : Int)] 70)).alloc (.cells #[.pointer none, .slice none 0 0] 133)).heap.size = w.heap.size + 2 := by simp
 clear hrep hrep1 hgp
 go_enter Tryz.func37, Tryz.ntmps37
 go_upto_if 5 with (fail)
 generalize hW0 : (w.alloc (.cells #[.bool W.bg, .bool W.en, .slice va vn vc, .int .i64 (W.g : Int)] 70)).alloc (.cells #[.pointer none, .slice none 0 0] 133) = W0 at *
 generalize Value.agg #[.bool W.bg, .bool W.en, .slice va vn vc, .int .i64 (W.g : Int)] = ag
 go_cut [] from 5 to 7 (fun wx => BD wx w.heap.size (w.heap.size + 1) (if W.bg then [94] else []) ∧ WF w.heap.size (w.heap.size + 1) W0 wx)
 case first =>
  by_cases hbv : W.bg = true
  ·go_wp2_with fail
   refine (writeByte_any w.heap.size (w.heap.size + 1) [] 94 94 rfl W0 hb0 (by simp) (by omega)).mono ?_
   rintro e w1 ⟨rfl, hb1, hbel1, hoth1⟩
   go_wp2_with fail
   go_meet
   case rel => exact ⟨by simpa [hbv] using hb1, hbel1, hoth1⟩
   all_goals (rename_i hf; rw [hbv] at hf; cases hf)
  ·have hbf : W.bg = false := by simpa using hbv
   go_wp2_with fail
   go_meet
   case rel => exact ⟨by simpa [hbf] using hb0, WF.refl _ _ _⟩
 case rest =>
  obtain ⟨hbx, hfx⟩ := hcut
  obtain ⟨w1, hw1⟩ : ∃ w1 : World, w1 = wc := ⟨_, rfl⟩
  subst hw1
  have hS : ∀ g, (fun g => g < w.heap.size) g → g < w.heap.size := fun g h => h
  have hr1 := hr0.wf hS hfx
  have hg1 := hg0.wf hB0 hfx
  have hp1 : P4 w1 w.heap.size (.bool W.bg) (.bool W.en) (.slice va vn vc) (.int .i64 (W.g : Int)) := row_wf hp0 (by decide) (by omega) hfx
  obtain ⟨n0, n1, n2, n3, _⟩ := hp1.main
  have hs1 := hfx.below.size
  have hlb : (if W.bg = true then [94] else ([] : List UInt8)).length ≤ 1 := by split <;> simp
  clear m0 m1 m2 m3 hp0 hb0 hr0 hg0
  go_wp2_with fail
  refine (WW w1 _ w.heap.size (w.heap.size + 1) _ _ hr1 hS hbx hg1 hB0 (by omega) (by omega)).mono ?_
  rintro e w2 ⟨rfl, hb2, hf2⟩
  have hp2 : P4 w2 w.heap.size (.bool W.bg) (.bool W.en) (.slice va vn vc) (.int .i64 (W.g : Int)) := row_wf hp1 (by decide) (by omega) hf2
  obtain ⟨k0, k1, k2, k3, _⟩ := hp2.main
  have hs2 := hf2.below.size
  clear n0 n1 n2 n3 hp1 hbx hr1 hg1
  go_upto_if 11 with (fail)
  go_cut [] from 11 to 13 (fun wx => BD wx w.heap.size (w.heap.size + 1) (wholeT W) ∧ WF w.heap.size (w.heap.size + 1) w2 wx)
  case first =>
   by_cases hev : W.en = true
   ·go_wp2_with fail
    refine (writeByte_any w.heap.size (w.heap.size + 1) _ 36 36 rfl w2 hb2 (by rw [List.length_append]; omega) (by omega)).mono ?_
    rintro e w3 ⟨rfl, hb3, hbel3, hoth3⟩
    go_wp2_with fail
    go_meet
    case rel => exact ⟨by rw [HW.out]; simpa [hev] using hb3, hbel3, hoth3⟩
    all_goals (rename_i hf; rw [hev] at hf; cases hf)
   ·have hef : W.en = false := by simpa using hev
    go_wp2_with fail
    go_meet
    case rel => exact ⟨by rw [HW.out]; simpa [hef] using hb2, WF.refl _ _ _⟩
  case rest =>
   obtain ⟨hb3, hf3⟩ := hcut
   obtain ⟨w3, hw3⟩ : ∃ w3 : World, w3 = wc := ⟨_, rfl⟩
   subst hw3
   go_wp2_with fail
   refine (string_any w.heap.size (w.heap.size + 1) (wholeT W) w3 hb3).mono ?_
   rintro e w4 ⟨rfl, hbel4⟩
   have hend : Keeps [] w w4 := Keeps.ofBelow0 (Below.join (Below.join (Below.join (Below.ofKeeps hk0 (Nat.le_refl _) (by simp)) hfx.below) hf2.below) (Below.join hf3.below hbel4))
   clear hb3 hf3 hbel4 hb2 hf2 hk0 hfx
   go_wp2_with fail
   go_ret
   exact ⟨rfl, hend⟩
end Go.Proofs.YtnfojonmohijpaaGreatDoor
namespace Go.Proofs.YtnfojonmohijpaaGreatDoor
open Go.RowKit
set_option maxRecDepth 100000 in
set_option maxHeartbeats 2000000 in
theorem yplain_any (s : ByteArray) (w : World) (hgn : GN w) (hgp : GP w) :
    Calls Tryz.prog 15 #[.string s] w fun e w' => ∃ t place errno, e = .returned (.tuple #[.string (nmB t), .int .i64 place, .int .i64 errno]) ∧ PlainA s t place errno ∧ Keeps [] w w' := by
 go_enter Tryz.func15, Tryz.ntmps15
 go_wp2_with fail
 refine (readPattern_prog s w hgn).mono ?_
 rintro e w1 ⟨hk1, hc1⟩
 have hgp1 := hgp.keep hk1
 have hz0 : P4 (w1.alloc (.cells #[.bool false, .bool false, .slice none 0 0, .int .i64 0] 70)) w1.heap.size (.bool false) (.bool false) (.slice none 0 0) (.int .i64 0) := heap_alloc_new w1 _
 have hk2 : Keeps [] w1 (w1.alloc (.cells #[.bool false, .bool false, .slice none 0 0, .int .i64 0] 70)) := (Keeps.refl [] w1).alloc _
 have hC : (∃ x y : Int, y ≠ 0 ∧ e = .returned (.tuple #[.agg #[.bool false, .bool false, .slice none 0 0, .int .i64 0], .int .i64 x, .int .i64 y]) ∧ PlainA s [] x y) ∨
     ∃ W j v, s.size ≤ 60 ∧ PatR s (.ok W j) ∧ e = .returned (.tuple #[.agg #[.bool W.bg, .bool W.en, v, .int .i64 W.g], .int .i64 0, .int .i64 0]) ∧ v.oneCell' = true ∧ Rep w1 (fun g => w.heap.size ≤ g) .ways W.x [v] := by
  rcases hc1 with ⟨hl, he⟩ | ⟨hs, q, hq, h⟩
  ·exact Or.inl ⟨0, 1, by decide, he, Or.inl ⟨hl, rfl, rfl, rfl⟩⟩
  ·cases q with
   | bad j => exact Or.inl ⟨j, 2, by decide, h, Or.inr ⟨hs, .bad j, hq, rfl, rfl, rfl⟩⟩
   | ok W j =>
    obtain ⟨v, he, hv, hrep⟩ := h
    exact Or.inr ⟨W, j, v, hs, hq, he, hv, hrep⟩
 clear hc1
 rcases hC with ⟨x, y, hy0, rfl, hp⟩ | ⟨W, j, v, hs, hq, rfl, hv, hrep⟩
 rotate_left
 ·skip
  have hsz := whole_sz hs hq
  have o4 := four_one (x := W.bg) (y := W.en) (n := (W.g : Int)) hv
  have HQ : Hid (PlainA s (wholeT W) 0 0) := Or.inr ⟨hs, .ok W j, hq, rfl, rfl, rfl⟩
  have hk3 : Keeps [] w1 ((w1.alloc (.cells #[.bool false, .bool false, .slice none 0 0, .int .i64 0] 70)).setRow w1.heap.size #[.bool W.bg, .bool W.en, v, .int .i64 (W.g : Int)]) := hk2.setRow (Or.inr (Nat.le_refl _)) _
  have hrow : ((w1.alloc (.cells #[.bool false, .bool false, .slice none 0 0, .int .i64 0] 70)).setRow w1.heap.size #[.bool W.bg, .bool W.en, v, .int .i64 (W.g : Int)]).heap[w1.heap.size]? = some (.cells #[.bool W.bg, .bool W.en, v, .int .i64 (W.g : Int)] 70 (0, 0)) := setRow_heap _ _ _ _ _ _ hz0
  have hc3 : ∀ t u, [Value.bool W.bg, .bool W.en, v, .int .i64 (W.g : Int)][t]? = some u → ((w1.alloc (.cells #[.bool false, .bool false, .slice none 0 0, .int .i64 0] 70)).setRow w1.heap.size #[.bool W.bg, .bool W.en, v, .int .i64 (W.g : Int)]).cell? ⟨w1.heap.size, 0 + t, none⟩ = some u := by
   intro t u hu
   rw [Lib.cell_of_heap hrow, Nat.zero_add]
   simpa using hu
  have hr3 := hrep.keep hk3 (by simp)
  have hg3 := hgp1.keep hk3
  have hkA := hk1.trans hk3
  have hi4 := infoPat4 (.bool W.bg) (.bool W.en) v (.int .i64 (W.g : Int))
  clear hrep hq hgp1 hgp hgn hs hk1 hk2 hrow
  go_wp2_with (first | (refine wpList_store_row rfl 70 _ _ rfl w1.heap.size _ rfl rfl _ _ hz0 infoPat rfl o4 ?_; generalize (w1.alloc (.cells #[.bool false, .bool false, .slice none 0 0, .int .i64 0] 70)).setRow w1.heap.size #[.bool W.bg, .bool W.en, v, .int .i64 (W.g : Int)] = W3 at *) | (refine wpList_load_at rfl 70 _ rfl w1.heap.size 0 rfl [.bool W.bg, .bool W.en, v, .int .i64 (W.g : Int)] _ hc3 Tryz.underlying70 rfl hi4 ?_))
  refine (pplain_any W v _ _ hr3 hg3 hsz).mono ?_
  rintro e w4 ⟨rfl, hk4⟩
  have hend := hkA.trans hk4
  clear hr3 hg3 hc3 hk4 hkA
  go_wp2_with fail
  go_ret3
  exact ⟨_, _, _, rfl, HQ.out, hend⟩
 have o4 := four_one (x := false) (y := false) (n := 0) (v := .slice none 0 0) rfl
 have hk3 : Keeps [] w1 ((w1.alloc (.cells #[.bool false, .bool false, .slice none 0 0, .int .i64 0] 70)).setRow w1.heap.size #[.bool false, .bool false, .slice none 0 0, .int .i64 0]) := hk2.setRow (Or.inr (Nat.le_refl _)) _
 have hkA := hk1.trans hk3
 have HP : Hid (PlainA s [] x y) := hp
 clear hgp1 hk2 hk3 hp hk1
 go_wp2_with (first | (refine wpList_store_row rfl 70 _ _ rfl w1.heap.size _ rfl rfl _ _ hz0 infoPat rfl o4 ?_; generalize (w1.alloc (.cells #[.bool false, .bool false, .slice none 0 0, .int .i64 0] 70)).setRow w1.heap.size #[.bool false, .bool false, .slice none 0 0, .int .i64 0] = W3 at *))
 go_ret3
 exact ⟨[], x, y, rfl, HP.out, hkA⟩
end Go.Proofs.YtnfojonmohijpaaGreatDoor
namespace Go.Proofs.YtnfojonmohijpaaGreatDoor
open Go.RowKit
set_option maxRecDepth 100000 in
set_option maxHeartbeats 40000000 in
theorem fitted_any_1 (v1 : Value) (z1 : List Int) (s : ByteArray) (w : World) (hr1 : RawIs w v1 z1) (hgn : GN w) (hgp : GP w) (harm : (mdT (cv z1) 3 0).length ≤ 60) :
    Calls Tryz.prog 10 #[v1, .string s] w fun e w' => e = .returned (.bool true) ∧ Keeps [] w w' := by
 have HA : Hid (∀ w, GN w → Calls Tryz.prog 30 #[] w fun e w' => e = .returned (.bool true) ∧ Keeps [] w w') := awake_any
 go_enter Tryz.func10, Tryz.ntmps10
 go_wp2_with fail
 refine (HA.out w hgn).mono ?_
 rintro e w1 ⟨rfl, hk1⟩
 have hg1 := hgn.keep hk1 (by simp)
 have hP1 := hgp.keep hk1
 have hr11 := hr1.keep hk1
 clear hr1 hgn hgp HA
 go_wp2_with fail
 refine (made_any v1 z1 3 (by decide) 0 (by decide) w1 hr11).mono ?_
 rintro e w2 ⟨rfl, hk2⟩
 have hk := hk1.trans hk2
 have hg := hg1.keep hk2 (by simp)
 have hP := hP1.keep hk2
 obtain ⟨p1, hF0⟩ := made3_fit (cv z1) 0
 have hFit : Hid (∀ {t : ByteArray} {u : List UInt8} {is : Bool} {e : Int}, (mdT (cv z1) 3 0).length ≤ 60 → t.size ≤ 12 → MatchA (bOf (mdT (cv z1) 3 0)) t u is e → FitL (mdT (cv z1) 3 0) p1 t u is e) := hF0
 have hLp := mdT_len (cv z1) 3 0
 clear hF0
 generalize mdT (cv z1) 3 0 = p at hFit hLp harm ⊢
 clear hk1 hk2 hr11 hg1 hP1
 have hzp : (bOf p).size = p.length := bOf_size p
 have hp53 : p.length ≤ 109 := by omega
 clear hLp
 go_wp2_with fail
 refine (ktext_any s 12 (by decide) w2).mono ?_
 rintro e w3 ⟨rfl, hk3⟩
 have hkB := hk.trans hk3
 have hg3 := hg.keep hk3 (by simp)
 have hP3 := hP.keep hk3
 have hts := txT_size s 12
 generalize txT s 12 = t at hts ⊢
 have HT : Hid (t.size ≤ 12) := hts
 clear hk3 hk hg hP hts
 ·have i1 : ((bOf p).size : Int) ≤ 60 := by omega
  have i3 : decide ((60 : Int) < ((bOf p).size : Int)) = false := by simp; omega
  have H5 : Hid (p.length ≤ 60) := harm
  clear harm hp53 hzp
  go_wp2_with fail
  clear i3 i1
  refine (ymatch_any _ t w3 hg3).mono ?_
  rintro e w5 ⟨u, is, e0, rfl, h0, hk5⟩
  have hkC := hkB.trans hk5
  have hg5 := hg3.keep hk5 (by simp)
  have hP5 := hP3.keep hk5
  have hL0 := hFit.out H5.out HT.out h0
  obtain rfl := hL0.ok
  have hL : Hid (FitL p p1 t u is 0) := hL0
  clear hk5 hkB hg3 hP3 h0 hL0 hFit H5 HT
  cases is with
  | true =>
   go_wp2_with fail
   refine (yflat_any _ w5).mono ?_
   rintro e w6 ⟨o, j6, n6, rfl, h1, hk6⟩
   have hkD := hkC.trans hk6
   have hg6 := hg5.keep hk6 (by simp)
   have hP6 := hP5.keep hk6
   obtain ⟨eo, rfl⟩ := hL.out.flat rfl _ _ _ h1
   subst t
   clear hk6 hkC hg5 hP5 h1
   go_wp2_with fail
   refine (yfits_any _ _ w6 hg6).mono ?_
   rintro e w7 ⟨b7, n7, rfl, h2, hk7⟩
   have hkE := hkD.trans hk7
   have hg7 := hg6.keep hk7 (by simp)
   have hP7 := hP6.keep hk7
   obtain ⟨rfl, rfl⟩ := hL.out.fits rfl _ _ h2
   clear hk7 hkD hg6 hP6 h2
   go_wp2_with fail
   refine (yplain_any _ w7 hg7 hP7).mono ?_
   rintro e w8 ⟨q8, j8, n8, rfl, h3, hk8⟩
   have hkF := hkE.trans hk8
   have hg8 := hg7.keep hk8 (by simp)
   have hP8 := hP7.keep hk8
   obtain ⟨e8, rfl⟩ := hL.out.plain _ _ _ h3
   subst q8
   clear hk8 hkE hg7 hP7 h3
   have hz8 : (nmB p1).size = p1.length := nmB_size p1
   rcases Nat.lt_or_ge 60 p1.length with hq | hq
   ·have i4 : (60 : Int) < ((nmB p1).size : Int) := by omega
    have i5 : decide ((60 : Int) < ((nmB p1).size : Int)) = true := by simp; omega
    clear hz8
    go_wp2_with fail
    go_ret
    exact ⟨rfl, hkF⟩
   ·have i4 : ((nmB p1).size : Int) ≤ 60 := by omega
    have i5 : decide ((60 : Int) < ((nmB p1).size : Int)) = false := by simp; omega
    have HQ : Hid (p1.length ≤ 60) := hq
    clear hz8 hq
    go_wp2_with fail
    refine (yplain_any _ w8 hg8 hP8).mono ?_
    rintro e w9 ⟨q9, j9, n9, rfl, h4, hk9⟩
    have hkG := hkF.trans hk9
    have hg9 := hg8.keep hk9 (by simp)
    obtain ⟨e9, rfl⟩ := hL.out.again HQ.out _ _ _ h4
    subst q9
    clear hk9 hkF hg8 hP8 h4 i4 i5
    go_wp2_with fail
    refine (ymatch_any _ (nmB o) w9 hg9).mono ?_
    rintro e w10 ⟨v, so, n10, rfl, h5, hk10⟩
    have hkH := hkG.trans hk10
    obtain ⟨ev, eso, rfl⟩ := hL.out.other HQ.out _ _ _ h5
    subst v
    subst so
    clear hk10 hkG hg9 h5 hL HQ
    go_wp2_with fail
    go_ret
    exact ⟨rfl, hkH⟩
  | false =>
   have hkE := hkC
   have hg7 := hg5
   have hP7 := hP5
   clear hkC hg5 hP5
   go_wp2_with fail
   refine (yplain_any _ w5 hg7 hP7).mono ?_
   rintro e w8 ⟨q8, j8, n8, rfl, h3, hk8⟩
   have hkF := hkE.trans hk8
   have hg8 := hg7.keep hk8 (by simp)
   have hP8 := hP7.keep hk8
   obtain ⟨e8, rfl⟩ := hL.out.plain _ _ _ h3
   subst q8
   clear hk8 hkE hg7 hP7 h3
   have hz8 : (nmB p1).size = p1.length := nmB_size p1
   rcases Nat.lt_or_ge 60 p1.length with hq | hq
   ·have i4 : (60 : Int) < ((nmB p1).size : Int) := by omega
    have i5 : decide ((60 : Int) < ((nmB p1).size : Int)) = true := by simp; omega
    clear hz8
    go_wp2_with fail
    go_ret
    exact ⟨rfl, hkF⟩
   ·have i4 : ((nmB p1).size : Int) ≤ 60 := by omega
    have i5 : decide ((60 : Int) < ((nmB p1).size : Int)) = false := by simp; omega
    have HQ : Hid (p1.length ≤ 60) := hq
    clear hz8 hq
    go_wp2_with fail
    refine (yplain_any _ w8 hg8 hP8).mono ?_
    rintro e w9 ⟨q9, j9, n9, rfl, h4, hk9⟩
    have hkG := hkF.trans hk9
    have hg9 := hg8.keep hk9 (by simp)
    obtain ⟨e9, rfl⟩ := hL.out.again HQ.out _ _ _ h4
    subst q9
    clear hk9 hkF hg8 hP8 h4 i4 i5
    go_wp2_with fail
    refine (ymatch_any _ t w9 hg9).mono ?_
    rintro e w10 ⟨v, so, n10, rfl, h5, hk10⟩
    have hkH := hkG.trans hk10
    obtain ⟨ev, eso, rfl⟩ := hL.out.other HQ.out _ _ _ h5
    subst v
    subst so
    clear hk10 hkG hg9 h5 hL HQ
    go_wp2_with fail
    go_ret
    exact ⟨rfl, hkH⟩
end Go.Proofs.YtnfojonmohijpaaGreatDoor
namespace Go.Proofs.YtnfojonmohijpaaGreatDoor
open Go.RowKit
set_option maxRecDepth 100000 in
set_option maxHeartbeats 40000000 in
theorem fitted_any_2 (v1 : Value) (z1 : List Int) (s : ByteArray) (w : World) (hr1 : RawIs w v1 z1) (hgn : GN w) (hgp : GP w) (harm : 60 < (mdT (cv z1) 3 0).length) :
    Calls Tryz.prog 10 #[v1, .string s] w fun e w' => e = .returned (.bool true) ∧ Keeps [] w w' := by
 have HA : Hid (∀ w, GN w → Calls Tryz.prog 30 #[] w fun e w' => e = .returned (.bool true) ∧ Keeps [] w w') := awake_any
 go_enter Tryz.func10, Tryz.ntmps10
 go_wp2_with fail
 refine (HA.out w hgn).mono ?_
 rintro e w1 ⟨rfl, hk1⟩
 have hg1 := hgn.keep hk1 (by simp)
 have hP1 := hgp.keep hk1
 have hr11 := hr1.keep hk1
 clear hr1 hgn hgp HA
 go_wp2_with fail
 refine (made_any v1 z1 3 (by decide) 0 (by decide) w1 hr11).mono ?_
 rintro e w2 ⟨rfl, hk2⟩
 have hk := hk1.trans hk2
 have hg := hg1.keep hk2 (by simp)
 have hP := hP1.keep hk2
 obtain ⟨p1, hF0⟩ := made3_fit (cv z1) 0
 have hFit : Hid (∀ {t : ByteArray} {u : List UInt8} {is : Bool} {e : Int}, (mdT (cv z1) 3 0).length ≤ 60 → t.size ≤ 12 → MatchA (bOf (mdT (cv z1) 3 0)) t u is e → FitL (mdT (cv z1) 3 0) p1 t u is e) := hF0
 have hLp := mdT_len (cv z1) 3 0
 clear hF0
 generalize mdT (cv z1) 3 0 = p0 at hFit hLp harm ⊢
 clear hk1 hk2 hr11 hg1 hP1
 have hzp : (bOf p0).size = p0.length := bOf_size p0
 have hp53 : p0.length ≤ 109 := by omega
 clear hLp
 go_wp2_with fail
 refine (ktext_any s 12 (by decide) w2).mono ?_
 rintro e w3 ⟨rfl, hk3⟩
 have hkB := hk.trans hk3
 have hg3 := hg.keep hk3 (by simp)
 have hP3 := hP.keep hk3
 have hts := txT_size s 12
 generalize txT s 12 = t at hts ⊢
 have HT : Hid (t.size ≤ 12) := hts
 clear hk3 hk hg hP hts
 ·have hS1 := ksingle_any p0.length (by omega)
  have hl1 := sgT_len (p0.length % 9)
  obtain ⟨p2, hF0⟩ := sg_fit (p0.length % 9)
  clear hFit
  have hFit : Hid (∀ {t : ByteArray} {u : List UInt8} {is : Bool} {e : Int}, (sgT (p0.length % 9)).length ≤ 60 → t.size ≤ 12 → MatchA (bOf (sgT (p0.length % 9))) t u is e → FitL (sgT (p0.length % 9)) p2 t u is e) := hF0
  have HS1 : Hid (∀ w, Calls Tryz.prog 33 #[.int .i64 p0.length] w fun e w' => e = .returned (.string (bOf (sgT (p0.length % 9)))) ∧ Keeps [] w w') := hS1
  clear hS1 hF0
  clear p1
  have i3 : decide ((60 : Int) < (p0.length : Int)) = true := by simp; omega
  have j1 := of_decide_eq_true i3
  clear harm
  go_wp2_with fail
  refine (HS1.out w3).mono ?_
  rintro e w4 ⟨rfl, hk31⟩
  have hkB := hkB.trans hk31
  have hg3 := hg3.keep hk31 (by simp)
  have hP3 := hP3.keep hk31
  clear hk31 HS1 i3 j1
  generalize sgT (p0.length % 9) = p at hFit hl1 ⊢
  have H5 : Hid (p.length ≤ 60) := (by omega : p.length ≤ 60)
  obtain ⟨p1, hp1⟩ : ∃ p1, p2 = p1 := ⟨_, rfl⟩
  subst p2
  clear hl1 hp53 hzp
  go_wp2_with fail
  refine (ymatch_any _ t w4 hg3).mono ?_
  rintro e w5 ⟨u, is, e0, rfl, h0, hk5⟩
  have hkC := hkB.trans hk5
  have hg5 := hg3.keep hk5 (by simp)
  have hP5 := hP3.keep hk5
  have hL0 := hFit.out H5.out HT.out h0
  obtain rfl := hL0.ok
  have hL : Hid (FitL p p1 t u is 0) := hL0
  clear hk5 hkB hg3 hP3 h0 hL0 hFit H5 HT
  cases is with
  | true =>
   go_wp2_with fail
   refine (yflat_any _ w5).mono ?_
   rintro e w6 ⟨o, j6, n6, rfl, h1, hk6⟩
   have hkD := hkC.trans hk6
   have hg6 := hg5.keep hk6 (by simp)
   have hP6 := hP5.keep hk6
   obtain ⟨eo, rfl⟩ := hL.out.flat rfl _ _ _ h1
   subst t
   clear hk6 hkC hg5 hP5 h1
   go_wp2_with fail
   refine (yfits_any _ _ w6 hg6).mono ?_
   rintro e w7 ⟨b7, n7, rfl, h2, hk7⟩
   have hkE := hkD.trans hk7
   have hg7 := hg6.keep hk7 (by simp)
   have hP7 := hP6.keep hk7
   obtain ⟨rfl, rfl⟩ := hL.out.fits rfl _ _ h2
   clear hk7 hkD hg6 hP6 h2
   go_wp2_with fail
   refine (yplain_any _ w7 hg7 hP7).mono ?_
   rintro e w8 ⟨q8, j8, n8, rfl, h3, hk8⟩
   have hkF := hkE.trans hk8
   have hg8 := hg7.keep hk8 (by simp)
   have hP8 := hP7.keep hk8
   obtain ⟨e8, rfl⟩ := hL.out.plain _ _ _ h3
   subst q8
   clear hk8 hkE hg7 hP7 h3
   have hz8 : (nmB p1).size = p1.length := nmB_size p1
   rcases Nat.lt_or_ge 60 p1.length with hq | hq
   ·have i4 : (60 : Int) < ((nmB p1).size : Int) := by omega
    have i5 : decide ((60 : Int) < ((nmB p1).size : Int)) = true := by simp; omega
    clear hz8
    go_wp2_with fail
    go_ret
    exact ⟨rfl, hkF⟩
   ·have i4 : ((nmB p1).size : Int) ≤ 60 := by omega
    have i5 : decide ((60 : Int) < ((nmB p1).size : Int)) = false := by simp; omega
    have HQ : Hid (p1.length ≤ 60) := hq
    clear hz8 hq
    go_wp2_with fail
    refine (yplain_any _ w8 hg8 hP8).mono ?_
    rintro e w9 ⟨q9, j9, n9, rfl, h4, hk9⟩
    have hkG := hkF.trans hk9
    have hg9 := hg8.keep hk9 (by simp)
    obtain ⟨e9, rfl⟩ := hL.out.again HQ.out _ _ _ h4
    subst q9
    clear hk9 hkF hg8 hP8 h4 i4 i5
    go_wp2_with fail
    refine (ymatch_any _ (nmB o) w9 hg9).mono ?_
    rintro e w10 ⟨v, so, n10, rfl, h5, hk10⟩
    have hkH := hkG.trans hk10
    obtain ⟨ev, eso, rfl⟩ := hL.out.other HQ.out _ _ _ h5
    subst v
    subst so
    clear hk10 hkG hg9 h5 hL HQ
    go_wp2_with fail
    go_ret
    exact ⟨rfl, hkH⟩
  | false =>
   have hkE := hkC
   have hg7 := hg5
   have hP7 := hP5
   clear hkC hg5 hP5
   go_wp2_with fail
   refine (yplain_any _ w5 hg7 hP7).mono ?_
   rintro e w8 ⟨q8, j8, n8, rfl, h3, hk8⟩
   have hkF := hkE.trans hk8
   have hg8 := hg7.keep hk8 (by simp)
   have hP8 := hP7.keep hk8
   obtain ⟨e8, rfl⟩ := hL.out.plain _ _ _ h3
   subst q8
   clear hk8 hkE hg7 hP7 h3
   have hz8 : (nmB p1).size = p1.length := nmB_size p1
   rcases Nat.lt_or_ge 60 p1.length with hq | hq
   ·have i4 : (60 : Int) < ((nmB p1).size : Int) := by omega
    have i5 : decide ((60 : Int) < ((nmB p1).size : Int)) = true := by simp; omega
    clear hz8
    go_wp2_with fail
    go_ret
    exact ⟨rfl, hkF⟩
   ·have i4 : ((nmB p1).size : Int) ≤ 60 := by omega
    have i5 : decide ((60 : Int) < ((nmB p1).size : Int)) = false := by simp; omega
    have HQ : Hid (p1.length ≤ 60) := hq
    clear hz8 hq
    go_wp2_with fail
    refine (yplain_any _ w8 hg8 hP8).mono ?_
    rintro e w9 ⟨q9, j9, n9, rfl, h4, hk9⟩
    have hkG := hkF.trans hk9
    have hg9 := hg8.keep hk9 (by simp)
    obtain ⟨e9, rfl⟩ := hL.out.again HQ.out _ _ _ h4
    subst q9
    clear hk9 hkF hg8 hP8 h4 i4 i5
    go_wp2_with fail
    refine (ymatch_any _ t w9 hg9).mono ?_
    rintro e w10 ⟨v, so, n10, rfl, h5, hk10⟩
    have hkH := hkG.trans hk10
    obtain ⟨ev, eso, rfl⟩ := hL.out.other HQ.out _ _ _ h5
    subst v
    subst so
    clear hk10 hkG hg9 h5 hL HQ
    go_wp2_with fail
    go_ret
    exact ⟨rfl, hkH⟩
end Go.Proofs.YtnfojonmohijpaaGreatDoor
namespace Go.Proofs.YtnfojonmohijpaaGreatDoor
theorem fitted_any (v1 : Value) (z1 : List Int) (s : ByteArray) (w : World) (hr1 : RawIs w v1 z1) (hgn : GN w) (hgp : GP w) :
    Calls Tryz.prog 10 #[v1, .string s] w fun e w' => e = .returned (.bool true) ∧ Keeps [] w w' := by
 rcases Nat.lt_or_ge 60 (mdT (cv z1) 3 0).length with h | h
 ·exact fitted_any_2 v1 z1 s w hr1 hgn hgp h
 ·exact fitted_any_1 v1 z1 s w hr1 hgn hgp h
end Go.Proofs.YtnfojonmohijpaaGreatDoor
namespace Go.Proofs.YtnfojonmohijpaaGreatDoor
open Go.ChangeShapes Go.WideShapes Go.ChangeAt Go.WideMaps Go.WideElems Go.RowKit
set_option maxRecDepth 100000 in
theorem raw_open {H : Type} {enc : TypeId × Value → H} {W : World} {base : Nat} {v : Value} {d : DataW H} {p : List MemPlace} (hv : Value.okWide Tryz.prog W .any base 32 v)
    (h : DataW.Trod enc Tryz.prog W 0 (fun _ => true) true 32 v d p) : ∃ zs, RawIs W v zs := by
 obtain ⟨a0, len0, cap0, rfl⟩ := okWide_slice Tryz.underlying32 hv
 obtain ⟨fuel, hf⟩ := h
 rcases open_ints Tryz.underlying32 Tryz.underlying3 (by kernel_rfl) hf with ⟨hcs, _⟩ | ⟨x, l, c, zs, hcs, _, hl, hm, hz, _, hcell, hwz⟩
 ·simp [Value.cells] at hcs
  obtain ⟨rfl, rfl, rfl⟩ := hcs
  exact ⟨[], ⟨none, 0, rfl, fun i z h => by simp at h⟩, by simp, fun i z h => by simp at h⟩
 ·simp [Value.cells] at hcs
  obtain ⟨rfl, rfl, rfl⟩ := hcs
  simp only [if_true] at hz
  have hll : (zs.take len0).length = len0 := by simp; omega
  have hget : ∀ (i : Nat) (z : Int), (zs.take len0)[i]? = some z → zs[i]? = some z ∧ i < zs.length := by
   intro i z hi
   have h1 := (List.getElem?_eq_some_iff.1 hi).1
   rw [hll] at h1
   rw [List.getElem?_take_of_lt h1] at hi
   exact ⟨hi, (List.getElem?_eq_some_iff.1 hi).1⟩
  refine ⟨zs.take len0, ⟨some x, cap0, by rw [hll], fun i z hi => ?_⟩, ?_, fun i z hi => ?_⟩
  ·obtain ⟨h1, h2⟩ := hget i z hi
   have h3 := hcell i h2
   rw [List.getD_eq_getElem?_getD, h1] at h3
   have h4 := World.block_lt_of_cell? _ _ h3
   have h5 : (x.add i).block = x.block := by unfold Addr.add; first | rfl | (split <;> rfl)
   exact ⟨x, rfl, by rw [← h5]; exact h4, h3⟩
  ·rw [hll]; unfold maxLen at hm; omega
  ·obtain ⟨h1, _⟩ := hget i z hi
   have h3 := hwz z (List.mem_of_getElem? h1)
   simp [Lit.wf] at h3
   have h6 : IntKind.i64.min = -9223372036854775808 := by decide
   exact ⟨by omega, h3.2⟩
end Go.Proofs.YtnfojonmohijpaaGreatDoor
namespace Go.Proofs.YtnfojonmohijpaaGreatDoor
open Go.ChangeShapes Go.WideShapes Go.ChangeAt Go.WideMaps Go.WideElems Go.RowKit
theorem ownK : ownKnob Tryz.prog.godebug = none := by kernel_rfl
theorem gCls : Tryz.prog.globalNamed "yarrow/byteset.classNames" = some 6 := by kernel_rfl
theorem tCls : (Tryz.prog.globals[6]?).map (·.type) = some 357 := by kernel_rfl
theorem cStr : Tryz.prog.cellsOf 9 = 1 := by kernel_rfl
theorem cCls : Tryz.prog.cellsOf 357 = 7 := by kernel_rfl
theorem str_cell {H : Type} {enc : TypeId × Value → H} {W : World} {base fuel : Nat} {sp : Nat → Bool} {held : Bool} {c : Value} {x : DataW H × List MemPlace} {l : List UInt8}
    (h : DataW.trod enc Tryz.prog W base sp held fuel 9 [c] = some x) (hx : DataW.lit (.string l) = x.1) : c = .string (nmB l) := by
 obtain ⟨s, hc, rfl, _⟩ := DataW.trod_string Tryz.underlying9 h
 simp only [List.cons.injEq, and_true] at hc
 simp only [DataW.lit.injEq, Lit.string.injEq] at hx
 subst hc
 rw [hx]
 congr 1
theorem seven {α : Type} (l : List α) (h : l.length = 7) : ∃ a b c d e f g, l = [a, b, c, d, e, f, g] := by
 match l, h with
 | [a, b, c, d, e, f, g], _ => exact ⟨a, b, c, d, e, f, g, rfl⟩
set_option maxRecDepth 100000 in
theorem of_laidN {W : World} (h : laidMetH Tryz.prog Rows.plainsRow.laid W) : GN W := by
 rw [MakeChecks.laidMetH_plain _ _ _ (by kernel_rfl)] at h
 obtain ⟨ps, ⟨g0, t0, cs0, f0, p0, q0, hg0, ht0, hv0, hd0, ⟨g1, t1, cs1, f1, p1, q1, hg1, ht1, hv1, hd1, ⟨g2, t2, cs2, f2, p2, q2, hg2, ht2, hv2, hd2, ⟨g3, t3, cs3, f3, p3, q3, hg3, ht3, hv3, hd3, _, _⟩, _⟩, _⟩, _⟩, _, _⟩ := h
 obtain rfl := Option.some.inj (gCls.symm.trans hg3)
 obtain rfl := Option.some.inj (tCls.symm.trans ht3)
 clear hd0 hd1 hd2 hv0 hv1 hv2 hg0 hg1 hg2 ht0 ht1 ht2
 obtain ⟨xs, m, rfl, hx, hlen, hn, hel⟩ := DataW.trod_array Tryz.underlying357 hd3
 rw [cCls] at hlen
 rw [cStr] at hel
 have hl : ∃ t fr, W.heap[6]? = some (.cells cs3 t fr) := by
  simp only [World.var?, gCls, Option.bind_some] at hv3
  split at hv3
  ·rename_i c t fr he
   cases hv3
   exact ⟨t, fr, he⟩
  ·cases hv3
 obtain ⟨t, fr, hl⟩ := hl
 refine ⟨t, fr, hl.trans ?_⟩
 obtain ⟨l3⟩ := cs3
 unfold Rows.laid_yarrow_byteset_classNames at hx
 simp only [Prod.mk.injEq, DataW.agg.injEq] at hx
 obtain ⟨hx, _⟩ := hx
 obtain ⟨c0, c1, c2, c3, c4, c5, c6, rfl⟩ := seven l3 hlen
 obtain ⟨x0, x1, x2, x3, x4, x5, x6, rfl⟩ := seven xs hn
 ·simp only [List.map_cons, List.map_nil, List.cons.injEq, and_true] at hx
  obtain ⟨e0, e1, e2, e3, e4, e5, e6⟩ := hx
  have h0 := str_cell (hel 0 (by decide)) e0
  have h1 := str_cell (hel 1 (by decide)) e1
  have h2 := str_cell (hel 2 (by decide)) e2
  have h3 := str_cell (hel 3 (by decide)) e3
  have h4 := str_cell (hel 4 (by decide)) e4
  have h5 := str_cell (hel 5 (by decide)) e5
  have h6 := str_cell (hel 6 (by decide)) e6
  subst h0 h1 h2 h3 h4 h5 h6
  rfl
end Go.Proofs.YtnfojonmohijpaaGreatDoor
namespace Go.Proofs.YtnfojonmohijpaaGreatDoor
open Go.ChangeShapes Go.WideShapes Go.ChangeAt Go.WideMaps Go.WideElems Go.RowKit
theorem gPow : Tryz.prog.globalNamed "internal/strconv.uint64pow10" = some 1 := by kernel_rfl
theorem tPow : (Tryz.prog.globals[1]?).map (·.type) = some 341 := by kernel_rfl
theorem cU64 : Tryz.prog.cellsOf 139 = 1 := by kernel_rfl
set_option maxRecDepth 100000 in
theorem of_laid {W : World} (h : laidMetH Tryz.prog Rows.plainsRow.laid W) : GN W ∧ GP W := by
 have h0 := h
 rw [MakeChecks.laidMetH_plain _ _ _ (by kernel_rfl)] at h
 obtain ⟨ps, ⟨g0, t0, cs0, f0, p0, q0, hg0, ht0, hv0, hd0, ⟨g1, t1, cs1, f1, p1, q1, hg1, ht1, hv1, hd1, ⟨g2, t2, cs2, f2, p2, q2, hg2, ht2, hv2, hd2, ⟨g3, t3, cs3, f3, p3, q3, hg3, ht3, hv3, hd3, _, _⟩, _⟩, _⟩, _⟩, _, _⟩ := h
 obtain rfl := Option.some.inj (gPow.symm.trans hg2)
 obtain rfl := Option.some.inj (gCls.symm.trans hg3)
 obtain rfl := Option.some.inj (tPow.symm.trans ht2)
 obtain rfl := Option.some.inj (tCls.symm.trans ht3)
 clear hd0 hd1 hv0 hv1 hg0 hg1 ht0 ht1
 refine ⟨of_laidN h0, ?_⟩
 obtain ⟨xs, m, rfl, hx, hlen, hn, hel⟩ := DataW.trod_array Tryz.underlying341 hd2
 rw [cU64] at hel
 have h0 := hel 0 (by decide)
 unfold Rows.laid_internal_strconv_uint64pow10 at hx
 simp only [Prod.mk.injEq, DataW.agg.injEq] at hx
 obtain ⟨hx, _⟩ := hx
 match xs, hn, hx, h0 with
 | x0 :: r, _, hx, h0 =>
  simp only [List.map_cons, List.cons.injEq] at hx
  obtain ⟨e0, _⟩ := hx
  obtain ⟨k, e1, e2, _⟩ := DataW.trod_int Tryz.underlying139 (show DataW.trod _ Tryz.prog W 0 _ false m 139 _ = some x0 from h0)
  have hk : k = 1 := by rw [e2] at e0; simpa using e0.symm
  subst hk
  have := World.var?_cell hg2 hv2 0
  obtain ⟨l1⟩ := cs2
  match l1, e1 with
  | c :: _, e1 =>
   simp at e1
   subst e1
   unfold GP
   simpa using this
end Go.Proofs.YtnfojonmohijpaaGreatDoor
