/-
  DERIVED. The contract of the program's plainRepeat. Conditions: the numbers are those that a repeat may have, the variable uint64pow10 begins with 1.
-/
import Derived.Test.YtnfojonmohijpabGreatDoorJDL
import Derived.Deep.CutRange
import Derived.Test.YtnfojonmohijpabGreatDoorJQC
import Derived.Test.YtnfojonmohijpabGreatDoorJOM
import Derived.Test.YtnfojonmohijpabGreatDoorJOI0
import Derived.Test.YtnfojonmohijpabGreatDoorJBN
import Derived.Test.YtnfojonmohijpabGreatDoorJPW
set_option linter.unusedSimpArgs false
set_option linter.unusedVariables false
namespace Go.Proofs.YtnfojonmohijpabGreatDoor
open Go.RowKit
theorem GP.keep {w w' : World} (h : GP w) (hk : Keeps [] w w') : GP w' := keep_cell hk h
theorem itoa_any (n : Int) (hn : n = -1 ∨ ∃ k : Nat, n = k ∧ k ≤ 5) (w : World) (hg : GP w) :
    Calls Tryz.prog 51 #[.int .i64 n] w fun e w' => ∃ t, e = .returned (.string t) ∧ (∀ k : Nat, n = k → t = nmB (digT k)) ∧ Keeps [] w w' := by
 rcases hn with rfl | ⟨k, rfl, hk⟩
 ·refine (itoa_neg w hg).mono ?_
  rintro e w' ⟨⟨t, rfl⟩, hk⟩
  exact ⟨t, rfl, by intro k h; omega, hk⟩
 ·refine (itoa_small k hk w).mono ?_
  rintro e w' ⟨rfl, hk⟩
  exact ⟨_, rfl, by intro k' h; have : k = k' := by omega
                    rw [this], hk⟩
def repO : Option (Nat × Int) → List UInt8
 | none => []
 | some (m, n) => repT m n
theorem digT_sz (m : Nat) : (nmB (digT m)).size = 1 := rfl
theorem one_app (x : UInt8) (l : List UInt8) : (ByteArray.mk #[x]) ++ nmB l = nmB ([x] ++ l) := nmB_append [x] l
theorem app_one (x : UInt8) (l : List UInt8) : nmB l ++ (ByteArray.mk #[x]) = nmB (l ++ [x]) := nmB_append l [x]
theorem app_two (x y : UInt8) (l : List UInt8) : nmB l ++ (ByteArray.mk #[x, y]) = nmB (l ++ [x, y]) := nmB_append l [x, y]
theorem small_sz {a b : Nat} (ha : a ≤ 10) (hb : b ≤ 10) : ¬ 9223372036854775807 < a + b := by omega
set_option maxRecDepth 100000 in
set_option maxHeartbeats 4000000 in
theorem plainRepeat_gen (on : Bool) (m : Nat) (n : Int) (hm : m ≤ 5) (hn : n = -1 ∨ ∃ k : Nat, n = k ∧ k ≤ 5) (hoff : on = false → m = 0 ∧ n = 0) (w : World) (hg : GP w) :
    Calls Tryz.prog 91 #[.agg #[.bool on, .int .i64 (m : Int), .int .i64 n]] w fun e w' => e = .returned (.string (nmB (if on then repT m n else []))) ∧ Keeps [] w w' := by
 have k0 : Keeps [] w (w.alloc (.cells #[.bool on, .int .i64 (m : Int), .int .i64 n] 178)) := (Keeps.refl [] w).alloc _
 have c0 : (w.alloc (.cells #[.bool on, .int .i64 (m : Int), .int .i64 n] 178)).cell? ⟨w.heap.size, 0, none⟩ = some (.bool on) := by simp
 have c1 : (w.alloc (.cells #[.bool on, .int .i64 (m : Int), .int .i64 n] 178)).cell? ⟨w.heap.size, 1, none⟩ = some (.int .i64 (m : Int)) := by simp
 have c2 : (w.alloc (.cells #[.bool on, .int .i64 (m : Int), .int .i64 n] 178)).cell? ⟨w.heap.size, 2, none⟩ = some (.int .i64 n) := by simp
 have HT : Hid (∃ X, (if on then repT m n else []) = X) := ⟨_, rfl⟩
 obtain ⟨X, hX⟩ := HT.out
 rw [hX]
 have HX : Hid ((if on then repT m n else []) = X) := hX
 have HM : Hid (m ≤ 5) := hm
 clear hX HT
 go_enter Tryz.func91, Tryz.ntmps91
 go_wp2_with fail
 generalize w.alloc (.cells #[.bool on, .int .i64 (m : Int), .int .i64 n] 178) = W at *
 have kD : Keeps [] W W.drew := (Keeps.refl [] W).drewN 1
 have d1 := keep_cell kD c1
 have d2 := keep_cell kD c2
 have gD := (hg.keep k0).keep kD
 go_cut [3, 4] from 5 to 10 (fun u v wx => u = .string (nmB (digT m)) ∧ (∃ t, v = .string t ∧ ∀ k : Nat, n = k → t = nmB (digT k)) ∧ Keeps [] W wx)
 case first =>
  go_region_with (first
    | (go_at_call 51; refine (itoa_small m hm _).mono ?_; rintro e w1 ⟨rfl, hk1⟩; have gE := gD.keep hk1; have e2 := keep_cell hk1 d2; clear gD d2 hm)
    | (go_at_call 51; refine (itoa_any n hn _ gE).mono ?_; rintro e w2 ⟨t2, rfl, ht2, hk2⟩))
  all_goals
   go_wp2_with fail
   go_meet
   case rel => exact ⟨rfl, ⟨_, rfl, ht2⟩, (kD.trans hk1).trans hk2⟩
 case rest =>
  obtain ⟨rfl, ⟨t, rfl, ht⟩, hkx⟩ := hcut
  have HTT : Hid (∀ k : Nat, n = k → t = nmB (digT k)) := ht
  have c0 := keep_cell hkx c0
  have c1 := keep_cell hkx c1
  have c2 := keep_cell hkx c2
  have hkF := k0.trans hkx
  clear ht d1 d2 gD kD k0 hkx hg
  cases on with
  | false =>
   obtain ⟨h1, h2⟩ := hoff rfl
   subst h1 h2
   have hx := HX.out
   simp only [Bool.false_eq_true, if_false] at hx
   subst hx
   clear HTT HX
   go_wp2_with fail
   go_ret
   exact ⟨rfl, hkF⟩
  | true =>
   have hx := HX.out
   simp only [if_true] at hx
   clear HX hoff
   have hHX : Hid (repT m n = X) := hx
   clear hx
   rcases hn with rfl | ⟨k, rfl, hk⟩
   ·by_cases h0 : m = 0
    ·subst h0
     have hx := hHX.out
     subst hx
     clear HTT hHX
     go_wp2_with fail
     go_ret
     exact ⟨rfl, hkF⟩
    ·by_cases h1 : m = 1
     ·subst h1
      have hx := hHX.out
      subst hx
      clear HTT hHX
      go_wp2_with fail
      go_ret
      exact ⟨rfl, hkF⟩
     ·have a0 : ¬ (m : Int) = 0 := by omega
      have a1 : ¬ (m : Int) = 1 := by omega
      have hx : [123] ++ digT m ++ [44, 125] = X := by
       rw [← hHX.out]
       simp [repT, h0, h1]
      have p1 := one_app 123 (digT m)
      have p2 := app_two 44 125 ([123] ++ digT m)
      have z1 : ¬ 9223372036854775807 < (ByteArray.mk #[123]).size + (nmB (digT m)).size := small_sz (by decide) (by rw [digT_sz]; decide)
      have z2 : ¬ 9223372036854775807 < (nmB ([123] ++ digT m)).size + (ByteArray.mk #[44, 125]).size := small_sz (by rw [nmB_size]; simp [digT]) (by decide)
      subst hx
      clear HTT hHX h0 h1
      go_wp2_with fail
      go_ret
      exact ⟨rfl, hkF⟩
   ·have hkt := HTT.out k rfl
    subst hkt
    by_cases hq : m = 0 ∧ k = 1
    ·obtain ⟨rfl, rfl⟩ := hq
     have hx := hHX.out
     subst hx
     clear HTT hHX
     go_wp2_with fail
     go_ret
     exact ⟨rfl, hkF⟩
    ·have b1 : ¬ (k : Int) = -1 := by omega
     by_cases hmk : m = k
     ·subst hmk
      have b2 : ¬ ((m : Int) = 0 ∧ (m : Int) = 1) := by omega
      have hx : [123] ++ digT m ++ [125] = X := by
       rw [← hHX.out]
       have : ¬ (m : Int) < 0 := by omega
       simp [repT, this]
       intro h1 h2
       omega
      have p1 := one_app 123 (digT m)
      have p2 := app_one 125 ([123] ++ digT m)
      have z1 : ¬ 9223372036854775807 < (ByteArray.mk #[123]).size + (nmB (digT m)).size := small_sz (by decide) (by rw [digT_sz]; decide)
      have z2 : ¬ 9223372036854775807 < (nmB ([123] ++ digT m)).size + (ByteArray.mk #[125]).size := small_sz (by rw [nmB_size]; simp [digT]) (by decide)
      subst hx
      clear HTT hHX hq
      by_cases hm0 : m = 0
      ·subst hm0
       go_wp2_with fail
       go_ret
       exact ⟨rfl, hkF⟩
      ·have hm0' : ¬ (m : Int) = 0 := by omega
       go_wp2_with fail
       go_ret
       exact ⟨rfl, hkF⟩
     ·have b3 : ¬ (k : Int) = (m : Int) := by omega
      have hx : [123] ++ digT m ++ [44] ++ digT k ++ [125] = X := by
       rw [← hHX.out]
       have : ¬ (k : Int) < 0 := by omega
       have h4 : ¬ ((k : Int) = 1 ∧ m = 0) := by omega
       simp only [repT, this, false_and, if_false, h4, b3]
       simp
      have p1 := one_app 123 (digT m)
      have p2 := app_one 44 ([123] ++ digT m)
      have p3 := nmB_append ([123] ++ digT m ++ [44]) (digT k)
      have p4 := app_one 125 ([123] ++ digT m ++ [44] ++ digT k)
      have z1 : ¬ 9223372036854775807 < (ByteArray.mk #[123]).size + (nmB (digT m)).size := small_sz (by decide) (by rw [digT_sz]; decide)
      have z2 : ¬ 9223372036854775807 < (nmB ([123] ++ digT m)).size + (ByteArray.mk #[44]).size := small_sz (by rw [nmB_size]; simp [digT]) (by decide)
      have z3 : ¬ 9223372036854775807 < (nmB ([123] ++ digT m ++ [44])).size + (nmB (digT k)).size := small_sz (by rw [nmB_size]; simp [digT]) (by rw [digT_sz]; decide)
      have z4 : ¬ 9223372036854775807 < (nmB ([123] ++ digT m ++ [44] ++ digT k)).size + (ByteArray.mk #[125]).size := small_sz (by rw [nmB_size]; simp [digT]) (by decide)
      subst hx
      clear HTT hHX
      by_cases hm0 : m = 0
      ·subst hm0
       have hk1 : ¬ (k : Int) = 1 := by omega
       clear hq
       go_wp2_with fail
       go_ret
       exact ⟨rfl, hkF⟩
      ·have hm0' : ¬ (m : Int) = 0 := by omega
       clear hq
       go_wp2_with fail
       go_ret
       exact ⟨rfl, hkF⟩
theorem plainRepeat_text (o : Option (Nat × Int)) (ho : okRep o) (w : World) (hg : GP w) :
    Calls Tryz.prog 91 #[.agg (repC o).toArray] w fun e w' => e = .returned (.string (nmB (repO o))) ∧ Keeps [] w w' := by
 cases o with
 | none => exact plainRepeat_gen false 0 0 (by omega) (Or.inr ⟨0, rfl, by omega⟩) (fun _ => ⟨rfl, rfl⟩) w hg
 | some p =>
  obtain ⟨m, n⟩ := p
  exact plainRepeat_gen true m n ho.1 ho.2 (fun h => by cases h) w hg
end Go.Proofs.YtnfojonmohijpabGreatDoor
namespace Go.Proofs.YtnfojonmohijpabGreatDoor
open Go.RowKit
theorem patT_rep (x : Pat) (o : Option (Nat × Int)) : patT (withRep x o) = patT x ++ repO o := by
 cases o with
 | none => simp [withRep, repO]
 | some p => obtain ⟨m, n⟩ := p; rfl
end Go.Proofs.YtnfojonmohijpabGreatDoor
namespace Go.Proofs.YtnfojonmohijpabGreatDoor
open Go.RowKit
theorem GP.wf {w w' : World} {B b : Nat} (h : GP w) (hB : 1 < B) (hf : WF B b w w') : GP w' := (World.cell?_of_block (hf.below.block _ hB)).trans h
def WPt (B b : Nat) (l t : List UInt8) (w : World) (e : Ending) (w' : World) : Prop := e = .returned (.tuple #[]) ∧ BD w' B b (l ++ t) ∧ WF B b w w'
def WaysW (n : Nat) : Prop := ∀ (x : Pat), x.sz ≤ n → ∀ (w : World) (S : Nat → Prop) (B b : Nat) (l : List UInt8) (v : Value), Rep w S .ways x [v] → (∀ g, S g → g < B) → BD w B b l → GP w → 1 < B → B ≤ w.heap.size → l.length + (patT x).length ≤ 100000000 →
 Calls Tryz.prog 54 #[.pointer (some ⟨b, 0, none⟩), v] w (WPt B b l (patT x) w)
def SingleW (n : Nat) : Prop := ∀ (x : Pat), x.sz ≤ n → ∀ (w : World) (S : Nat → Prop) (B b : Nat) (l : List UInt8) (cs : List Value), Rep w S .single x cs → (∀ g, S g → g < B) → BD w B b l → GP w → 1 < B → B ≤ w.heap.size → l.length + (patT x).length ≤ 100000000 →
 Calls Tryz.prog 90 #[.pointer (some ⟨b, 0, none⟩), .agg cs.toArray] w (WPt B b l (patT x) w)
set_option maxRecDepth 100000 in
set_option maxHeartbeats 2000000 in
theorem single_write (n : Nat) (IW : WaysW n) : SingleW (n + 1) := by
 intro x hx w S B b l cs hrep hS hbd hgp hB0 hBw hlen
 have hbl := hbd.lt
 cases hrep with
 | set f =>
  have hz0 : (w.alloc (.cells (sc (.int .i64 0) (.slice none 0 0) f).toArray 176)).heap[w.heap.size]? = some (.cells (sc (.int .i64 0) (.slice none 0 0) f).toArray 176 (0, 0)) := heap_alloc_new w _
  have hk0 : Keeps [] w (w.alloc (.cells (sc (.int .i64 0) (.slice none 0 0) f).toArray 176)) := (Keeps.refl [] w).alloc _
  obtain ⟨c0, c1, c2⟩ := sc_cells hz0
  have hbd0 := hbd.keep hk0
  have hls := setT_len f
  have hlen' : l.length ≤ 1000000000 := by omega
  have hll : (Tryz.prog.info? 174).map (·.size) = some (hcells f).toList.length := by rw [Tryz.infoSet]; simp [hcells_size]
  generalize (sc (.int .i64 0) (.slice none 0 0) f).toArray = C at *
  go_enter Tryz.func90, Tryz.ntmps90
  go_wp2_with (first | (refine wpList_load_at rfl 174 _ rfl w.heap.size 2 rfl (hcells f).toList _ c2 Tryz.underlying174 rfl hll ?_))
  refine (plainSet_text f _).mono ?_
  rintro e w1 ⟨rfl, hk1⟩
  have hbd1 := hbd0.keep hk1
  have hkA := hk0.trans hk1
  have hsz := hkA.size
  clear hz0 c0 c1 c2 hbd0 hk0 hk1 hll
  go_wp2_with fail
  refine (writeString_any B b l (setT f) _ hbd1 hlen' (by omega) (by omega)).mono ?_
  rintro e w2 ⟨⟨v, rfl⟩, hb2, hbel, hoth⟩
  go_wp2_with fail
  refine bodyPost_ret (results_none rfl _ _ _) rfl ?_
  exact ⟨rfl, hb2, (WF.ofKeeps hkA hBw).trans ⟨hbel, hoth⟩⟩
 | grp k y v h0 h9 hr =>
  have hz0 : (w.alloc (.cells (sc (.int .i64 k) v fun _ => false).toArray 176)).heap[w.heap.size]? = some (.cells (sc (.int .i64 k) v fun _ => false).toArray 176 (0, 0)) := heap_alloc_new w _
  have hk0 : Keeps [] w (w.alloc (.cells (sc (.int .i64 k) v fun _ => false).toArray 176)) := (Keeps.refl [] w).alloc _
  obtain ⟨c0, c1, c2⟩ := sc_cells hz0
  have hbd0 := hbd.keep hk0
  have hr0 := hr.keep hk0 (by simp)
  have hg0 := hgp.keep hk0
  have hz : (w.alloc (.cells (sc (.int .i64 k) v fun _ => false).toArray 176)).heap.size = w.heap.size + 1 := by simp
  have hpt : (patT (.grp k y)).length = (patT y).length + 2 := by simp [patT]
  have hysz : y.sz ≤ n := by simp [Pat.sz] at hx; omega
  have hkne : ((k : Int) == 0) = false := by simpa using (by omega : ¬ (k : Int) = 0)
  obtain ⟨va, vn, vc, rfl⟩ : IsSl v := by
   cases hr with
   | ways _ _ _ _ _ ho _ => exact ownsRow_sl ho
  generalize (sc (.int .i64 k) (.slice va vn vc) fun _ => false).toArray = C at *
  go_enter Tryz.func90, Tryz.ntmps90
  go_wp2_with fail
  generalize w.alloc (.cells C 176) = W at *
  refine (writeByte_any B b l 40 40 rfl W hbd0 (by omega) (by omega)).mono ?_
  rintro e w1 ⟨rfl, hb1, hbel1, hoth1⟩
  have f1 : WF B b W w1 := ⟨hbel1, hoth1⟩
  have z1 := hbel1.size
  have hz1 := row_wf hz0 (by decide) (by omega) f1
  have d1 : w1.cell? ⟨w.heap.size, 1, none⟩ = some (.slice va vn vc) := by
   rw [Lib.cell_of_heap hz1, ← Lib.cell_of_heap hz0]; exact c1
  have hr1 := hr0.wf hS f1
  have hg1 := hg0.wf hB0 f1
  clear c0 c1 c2 hz0 hbd0 hr0 hg0
  go_wp2_with fail
  refine (IW y hysz w1 S B b (l ++ [40]) _ hr1 hS hb1 hg1 hB0 (by omega) (by rw [List.length_append, List.length_singleton]; omega)).mono ?_
  rintro e w2 ⟨rfl, hb2, f2⟩
  have z2 := f2.below.size
  go_wp2_with fail
  refine (writeByte_any B b (l ++ [40] ++ patT y) 41 41 rfl w2 hb2 (by simp; omega) (by omega)).mono ?_
  rintro e w3 ⟨rfl, hb3, hbel3, hoth3⟩
  go_wp2_with fail
  go_end0
  refine ⟨rfl, ?_, ((WF.ofKeeps hk0 hBw).trans f1).trans (f2.trans ⟨hbel3, hoth3⟩)⟩
  have e : l ++ [40] ++ patT y ++ [41] = l ++ patT (.grp k y) := by simp [patT]
  rw [← e]
  exact hb3
end Go.Proofs.YtnfojonmohijpabGreatDoor
namespace Go.Proofs.YtnfojonmohijpabGreatDoor
open Go.RowKit
theorem alloc_piece (w : World) : (Instr.alloc 180 true (.tuple #[])).run Tryz.prog w = .ok (.pointer (some ⟨w.heap.size, 0, none⟩)) (w.alloc (.cells pz.toArray 180)) := by kernel_rfl
theorem wpList_zeroPiece {ops : Array Oper} {rest : List Oper} {o : Oper} {a : Act} {w : World} {Q : Exit → Act → World → Prop} (hg : o.guard = none) (ho : o.op = .alloc 180) (d : Option Tmp) (hd : o.dst = d)
    (h : wpList Tryz.prog ops Q rest (a.put d (.pointer (some ⟨w.heap.size, 0, none⟩))) (w.alloc (.cells pz.toArray 180))) : wpList Tryz.prog ops Q (o :: rest) a w := by
 subst hd
 refine wpList_plain hg fun K hK => ?_
 unfold Oper.wp execOp
 simp only [ho, Sem.run_bind, alloc_piece, Sem.run_pure, Result.andThen_ok]
 exact hK _ _ h
theorem infoPcQ (cs : List Value) (h : cs.length = 261) : (Tryz.prog.info? 180).map (·.size) = some cs.length := by rw [h]; kernel_rfl
theorem infoSg (cs : List Value) (h : cs.length = 258) : (Tryz.prog.info? 176).map (·.size) = some cs.length := by rw [h]; kernel_rfl
theorem infoRp (o : Option (Nat × Int)) : (Tryz.prog.info? 178).map (·.size) = some (repC o).length := by rw [repC_len]; kernel_rfl
theorem ownsRow_len {w : World} {e : TypeId} {size : Nat} {v : Value} {n : Nat} {xs : List Value} (h : w.ownsRow 0 e size v n xs) : ∃ a c, v = .slice a n c := by
 rcases h.2 with ⟨rfl, rfl⟩ | ⟨g, cap, cur, rfl, _⟩ <;> exact ⟨_, _, rfl⟩
theorem ownsRow_max {w : World} {e : TypeId} {size : Nat} {v : Value} {n : Nat} {xs : List Value} (h : w.ownsRow 0 e size v n xs) : (n : Int) ≤ 9223372036854775807 := by
 rcases h.2 with ⟨_, rfl⟩ | ⟨g, cap, cur, _, _, _, h1, h2, _⟩
 ·omega
 ·unfold maxLen at h2; omega
set_option maxRecDepth 100000 in
set_option maxHeartbeats 2000000 in
theorem ways_write (n : Nat) (IS : SingleW n) : WaysW (n + 1) := by
 intro x hx w S B b l v hrep hS hbd hgp hB0 hBw hlen
 have hbl := hbd.lt
 obtain ⟨vs, m, hwl0, hown0, hvS⟩ : ∃ vs m, Rep w S .wlist x vs ∧ w.ownsRow 0 146 1 v m vs ∧ ∀ g, v.ownBlock = some g → S g := by
  cases hrep with
  | ways _ vs _ m h1 h2 h3 => exact ⟨vs, m, h1, h2, h3⟩
 have ht := hwl0.wl_text.1
 have hll := hwl0.wl_text.2.1
 have hmm : m = (wl x).length := by have := hown0.1; omega
 subst hmm
 obtain ⟨va, vc, hv⟩ := ownsRow_len hown0
 have ht0 : tw 0 (wl x) = patT x := by simpa using ht 0
 have HT : Hid (tw 0 (wl x) = patT x) := ht0
 have hwlen := ownsRow_max hown0
 subst hv
 clear ht ht0 hwl0 hll hown0 hvS
 go_enter Tryz.func54, Tryz.ntmps54
 go_wp2_with fail
 go_loopw [10] (fun q wr => ∃ i : Nat, i ≤ (wl x).length ∧ q = .int .i64 i ∧ BD wr B b (l ++ tw 0 ((wl x).take i)) ∧ WF B b w wr) (fun q _ => (wl x).length - (intOf q).toNat)
 case atStart => exact ⟨0, by omega, rfl, by simpa [tw] using hbd, WF.refl _ _ _⟩
 case round =>
  clear hbd
  obtain ⟨i, hi, rfl, hbr, hfr⟩ := hrel
  have hrr := hrep.wf hS hfr
  have hgr := hgp.wf hB0 hfr
  have hsz := hfr.below.size
  by_cases hil : i < (wl x).length
  ·obtain ⟨vs, m, hwl, hown, _⟩ : ∃ vs m, Rep wr S .wlist x vs ∧ wr.ownsRow 0 146 1 (.slice va (wl x).length vc) m vs ∧ True := by
      cases hrr with
      | ways _ vs _ m h1 h2 h3 => exact ⟨vs, m, h1, h2, trivial⟩
   obtain ⟨y, hy⟩ : ∃ y, (wl x)[i]? = some y := ⟨_, List.getElem?_eq_getElem hil⟩
   obtain ⟨u, hu, hru, hysz⟩ := hwl.wl_text.2.2 i y hy
   have hm : m = (wl x).length := by have h1 := hown.1; have h2 := hwl.wl_text.2.1; omega
   subst hm
   obtain ⟨g, cap, hv, _, hgl⟩ := hown.form (by omega)
   cases hv
   have hcu := World.ownsRow.cells hown rfl i u hu
   rw [addz] at hcu
   obtain ⟨cs, P, hpl, hownP⟩ : ∃ cs P, Rep wr S .plist y cs ∧ wr.ownsRow 0 180 261 u P cs := by
    cases hru with
    | way _ cs _ P h1 h2 _ => exact ⟨cs, P, h1, h2⟩
   have hP : P = (pl y).length := by have h1 := hownP.1; have h2 := hpl.pl_text.2.1; omega
   subst hP
   have hPmax := ownsRow_max hownP
   obtain ⟨ua, uc, rfl⟩ := ownsRow_len hownP
   have hi0 : (0 : Int) ≤ (i : Int) := by omega
   have hi1 : (i : Int) < ((wl x).length : Int) := by omega
   have HI : Hid (i < (wl x).length) := hil
   have HTK : Hid (tw 0 ((wl x).take (i + 1)) = tw 0 ((wl x).take i) ++ ((if 0 < 0 + i then [124] else []) ++ patT y)) := tw_take (wl x) 0 i y hy
   have hmem := tw_mem (wl x) 0 i y hy
   rw [HT.out] at hmem
   have HL : Hid ((l ++ tw 0 ((wl x).take i)).length + 1 + (patT y).length ≤ 100000001) := by show _ ≤ _; rw [List.length_append]; omega
   have HPT : Hid (tp (pl y) = patT y) := hpl.pl_text.1
   have HRW : Hid (Rep wr S .way y [.slice ua (pl y).length uc]) := hru
   have hszy : y.sz ≤ n := by omega
   clear hu hwl hown hrr hil hi hmem hpl hownP hru hy
   go_upto_if 16 with (fail)
   go_cut [] from 16 to 18 (fun wx => BD wx B b (l ++ tw 0 ((wl x).take i) ++ (if 0 < 0 + i then [124] else [])) ∧ WF B b wr wx)
   case first =>
    by_cases hz : i = 0
    ·have hzi : ¬ (0 : Int) < (i : Int) := by omega
     have hb' : BD wr B b (l ++ tw 0 ((wl x).take i) ++ (if 0 < 0 + i then [124] else [])) := by rw [if_neg (by omega), List.append_nil]; exact hbr
     clear hz hbr
     go_wp2_with fail
     go_meet
     case rel => exact ⟨hb', WF.refl _ _ _⟩
    ·have hzi : (0 : Int) < (i : Int) := by omega
     have hq : (if 0 < 0 + i then [124] else ([] : List UInt8)) = [124] := if_pos (by omega)
     have HQ2 : Hid ((if 0 < 0 + i then [124] else ([] : List UInt8)) = [124]) := hq
     clear hz hq
     go_wp2_with fail
     refine (writeByte_any B b (l ++ tw 0 ((wl x).take i)) 124 124 rfl wr hbr (by have := HL.out; omega) (by omega)).mono ?_
     rintro e w1 ⟨rfl, hb1, hbel1, hoth1⟩
     go_wp2_with fail
     go_meet
     case rel => exact ⟨by rw [HQ2.out]; exact hb1, hbel1, hoth1⟩
   case rest =>
    obtain ⟨hbx, hfx⟩ := hcut
    obtain ⟨wo, hwo⟩ : ∃ wo : World, wo = wc := ⟨_, rfl⟩
    subst hwo
    have hrW := HRW.out.wf hS hfx
    have hgo := hgr.wf hB0 hfx
    have hfA := hfr.trans hfx
    have hszA := hfA.below.size
    have HL2 : Hid ((l ++ tw 0 ((wl x).take i) ++ (if 0 < 0 + i then [124] else [])).length + (patT y).length ≤ 100000000) := by
     show _ ≤ _
     have h1 := tw_len (wl x) 0 (i + 1)
     rw [HTK.out, HT.out] at h1
     simp only [List.length_append] at h1 ⊢
     omega
    generalize hl2 : l ++ tw 0 ((wl x).take i) ++ (if 0 < 0 + i then [124] else []) = l2 at *
    have HTN : Hid (l ++ tw 0 ((wl x).take (i + 1)) = l2 ++ patT y) := by
     show _ = _
     rw [HTK.out, ← hl2]
     simp
    clear HRW HTK HL hfr hfx hgr hbr hl2 hcu
    obtain ⟨wr0, hwr0⟩ : ∃ wr0 : World, wr0 = wr := ⟨_, rfl⟩
    subst hwr0
    go_wp2_with fail
    go_loopw [21] (fun q wq => ∃ j : Nat, j ≤ (pl y).length ∧ q = .int .i64 j ∧ BD wq B b (l2 ++ tp ((pl y).take j)) ∧ WF B b wo wq) (fun q _ => (pl y).length - (intOf q).toNat)
    case atStart => exact ⟨0, by omega, rfl, by simpa [tp] using hbx, WF.refl _ _ _⟩
    case round =>
     clear hbx
     obtain ⟨j, hj, rfl, hbq, hfq⟩ := hrel
     have hrq := hrW.wf hS hfq
     have hgq := hgo.wf hB0 hfq
     have hszq := hfq.below.size
     by_cases hjl : j < (pl y).length
     ·obtain ⟨cs, P, hpl, hownP⟩ : ∃ cs P, Rep wr S .plist y cs ∧ wr.ownsRow 0 180 261 (.slice ua (pl y).length uc) P cs := by
         cases hrq with
         | way _ cs _ P h1 h2 _ => exact ⟨cs, P, h1, h2⟩
      have hP : P = (pl y).length := by have h1 := hownP.1; have h2 := hpl.pl_text.2.1; omega
      subst hP
      obtain ⟨z, hzj⟩ : ∃ z, (pl y)[j]? = some z := ⟨_, List.getElem?_eq_getElem hjl⟩
      obtain ⟨ds, hrz, hds, hzsz⟩ := hpl.pl_text.2.2 j z hzj
      obtain ⟨g2, cap2, hv2, _, _⟩ := hownP.form (by omega)
      cases hv2
      have hc0 : ∀ t u, ds[t]? = some u → wr.cell? ⟨g2, j * 261 + t, none⟩ = some u := by
       intro t u hu
       have := World.ownsRow.cells hownP rfl (j * 261 + t) u (hds t u hu)
       rw [addz] at this
       exact this
      have HTP : Hid (tp ((pl y).take (j + 1)) = tp ((pl y).take j) ++ patT z) := tp_take (pl y) j z hzj
      have hlz : (l2 ++ tp ((pl y).take j)).length + (patT z).length ≤ 100000000 := by
       have h1 := tp_len (pl y) (j + 1)
       rw [HTP.out, HPT.out] at h1
       have h2 := HL2.out
       simp only [List.length_append] at h1 h2 ⊢
       omega
      obtain ⟨x1, o, c1, hzx, hdc, hok, hr1⟩ : ∃ x1 o c1, z = withRep x1 o ∧ ds = c1 ++ repC o ∧ okRep o ∧ Rep wr S .single x1 c1 := by
       cases hrz with
       | piece x1 o c1 h1 h2 => exact ⟨x1, o, c1, rfl, rfl, h1, h2⟩
      subst hdc
      have hl1 : c1.length = 258 := hr1.cells.2
      have hld : (c1 ++ repC o).length = 261 := hrz.cells.2
      have hone := hrz.cells.1
      have hx1 : x1.sz ≤ n := by have := sz_rep x1 o; rw [← hzx] at this; omega
      have HPZ : Hid (patT z = patT x1 ++ repO o) := by show patT z = _; rw [hzx, patT_rep]
      have hlz2 : (l2 ++ tp ((pl y).take j)).length + (patT x1).length + (repO o).length ≤ 100000000 := by
       simp only [HPZ.out, List.length_append] at hlz ⊢; omega
      have hj0 : (0 : Int) ≤ (j : Int) := by omega
      have hj1 : (j : Int) < ((pl y).length : Int) := by omega
      have HJ : Hid (j < (pl y).length) := hjl
      have hzz : pz.toArray.size = (c1 ++ repC o).toArray.size := by rw [List.size_toArray, List.size_toArray, pz_len, hld]
      have hinf := infoPcQ (c1 ++ repC o) hld
      have hinf2 : (Tryz.prog.info? 180).map (·.size) = some (c1 ++ repC o).toArray.size := by rw [List.size_toArray]; exact hinf
      have hz0 : (wr.alloc (.cells pz.toArray 180)).heap[wr.heap.size]? = some (.cells pz.toArray 180 (0, 0)) := heap_alloc_new wr _
      have hk0 : Keeps [] wr (wr.alloc (.cells pz.toArray 180)) := (Keeps.refl [] wr).alloc _
      have hrow : ((wr.alloc (.cells pz.toArray 180)).setRow wr.heap.size (c1 ++ repC o).toArray).heap[wr.heap.size]? = some (.cells (c1 ++ repC o).toArray 180 (0, 0)) := setRow_heap _ _ _ _ _ _ hz0
      have hc1 : ∀ t u, c1[t]? = some u → ((wr.alloc (.cells pz.toArray 180)).setRow wr.heap.size (c1 ++ repC o).toArray).cell? ⟨wr.heap.size, 0 + t, none⟩ = some u := by
       intro t u hu
       have ht : t < c1.length := by
        rcases Nat.lt_or_ge t c1.length with h | h
        ·exact h
        ·rw [List.getElem?_eq_none h] at hu; cases hu
       rw [Lib.cell_of_heap hrow, Nat.zero_add, List.getElem?_toArray, List.getElem?_append_left ht]
       exact hu
      have hk1 : Keeps [] wr ((wr.alloc (.cells pz.toArray 180)).setRow wr.heap.size (c1 ++ repC o).toArray) := hk0.setRow (Or.inr (Nat.le_refl _)) _
      have hbq1 := hbq.keep hk1
      have hrx1 := hr1.keep hk1 (by simp)
      have hgq1 := hgq.keep hk1
      have hszk := hk1.size
      have hisg := infoSg c1 hl1
      have HZX : Hid (z = withRep x1 o) := hzx
      clear hpl hownP hrq hds hzj hzsz hrz hjl hj hlz hrW hzx hk0 hbq hr1 hgq
      go_wp2_with (first | (refine wpList_load_at rfl 176 _ rfl wr.heap.size 0 rfl c1 _ hc1 Tryz.underlying176 rfl hisg ?_) | (refine wpList_load_at rfl 180 _ rfl g2 (j * 261) rfl (c1 ++ repC o) _ hc0 Tryz.underlying180 rfl hinf ?_) | (refine wpList_zeroPiece rfl rfl (some 7) rfl ?_; generalize wr.alloc (.cells pz.toArray 180) = W at *) | (refine wpList_store_row rfl 180 _ _ rfl wr.heap.size _ rfl rfl _ _ hz0 hinf2 hzz (one_all hone) ?_))
      generalize W.setRow wr.heap.size (c1 ++ repC o).toArray = W2 at *
      have hBq : B ≤ wr.heap.size := by omega
      have hhb : wr.heap.size ≠ b := by
       have := hbl
       have h3 := hfA.below.size
       omega
      refine (IS x1 hx1 W2 S B b (l2 ++ tp ((pl y).take j)) c1 hrx1 hS hbq1 hgq1 hB0 (by omega) (by omega)).mono ?_
      rintro e w3 ⟨rfl, hb3, hf3⟩
      have hrow3 := row_wf hrow (by decide) hhb hf3
      have hc3 : ∀ t u, (repC o)[t]? = some u → w3.cell? ⟨wr.heap.size, 258 + t, none⟩ = some u := by
       intro t u hu
       rw [Lib.cell_of_heap hrow3, List.getElem?_toArray, List.getElem?_append_right (by omega), hl1]
       have e : 258 + t - 258 = t := by omega
       rw [e]
       exact hu
      have hg3 := hgq1.wf hB0 hf3
      have hs3 := hf3.below.size
      have hirp := infoRp o
      clear hrow hc1 hbq1 hrx1 hgq1 hc0 hinf hinf2 hzz hisg hz0 hone
      go_wp2_with (first | (refine wpList_load_at rfl 178 _ rfl wr.heap.size 258 rfl (repC o) _ hc3 Tryz.underlying178 rfl hirp ?_))
      refine (plainRepeat_text o hok _ hg3).mono ?_
      rintro e w4 ⟨rfl, hk4⟩
      have hb4 := hb3.keep hk4
      have hs4 := hk4.size
      go_wp2_with fail
      refine (writeString_any B b (l2 ++ tp ((pl y).take j) ++ patT x1) (repO o) w4 hb4 (by simp only [List.length_append] at hlz2 ⊢; omega) (by omega) (by omega)).mono ?_
      rintro e w5 ⟨⟨v5, rfl⟩, hb5, hbel5, hoth5⟩
      have hfin : WF B b wo w5 := ((hfq.trans (WF.ofKeeps hk1 hBq)).trans hf3).trans ((WF.ofKeeps hk4 (by omega)).trans ⟨hbel5, hoth5⟩)
      have hbfin : BD w5 B b (l2 ++ tp ((pl y).take (j + 1))) := by
       rw [HTP.out, HPZ.out]
       simpa using hb5
      clear hb5 hb4 hb3 hf3 hk4 hbel5 hoth5 hg3 hc3 hrow3 hk1 hfq
      go_wp2_with fail
      go_roundw
      case rel => exact ⟨j + 1, HJ.out, by go_num, hbfin, hfin⟩
      case measure => have := HJ.out; simp [intOf]; omega
     ·have hje : j = (pl y).length := by omega
      have hnj : ¬ (j : Int) < ((pl y).length : Int) := by omega
      have hbf : BD wr B b (l ++ tw 0 ((wl x).take (i + 1))) := by rw [hje, List.take_length, HPT.out] at hbq; rw [HTN.out]; exact hbq
      have hff := hfA.trans hfq
      clear hbq hje hjl hj hrq
      go_wp2_with fail
      exact ⟨⟨i + 1, HI.out, by go_num, hbf, hff⟩, by have := HI.out; simp [intOf]; omega⟩
  ·have hie : i = (wl x).length := by omega
   have hni : ¬ (i : Int) < ((wl x).length : Int) := by omega
   have hbf : BD wr B b (l ++ patT x) := by rw [hie, List.take_length, HT.out] at hbr; exact hbr
   clear hbr hie hil hi hrr
   go_wp2_with fail
   go_end0
   exact ⟨rfl, hbf, hfr⟩
theorem writers (n : Nat) : WaysW n ∧ SingleW n := by
 induction n with
 | zero => exact ⟨fun x hx => by have := sz_pos x; omega, fun x hx => by have := sz_pos x; omega⟩
 | succ n ih => exact ⟨ways_write n ih.2, single_write n ih.1⟩
end Go.Proofs.YtnfojonmohijpabGreatDoor
namespace Go.Proofs.YtnfojonmohijpabGreatDoor
open Go.RowKit
theorem Keeps.ofBelow0 {w w' : World} (h : Below w.heap.size w w') : Keeps [] w w' := ⟨h.os, h.tape, h.output, h.size, fun j hj _ => h.block j hj⟩
set_option maxRecDepth 100000 in
set_option maxHeartbeats 2000000 in
theorem pplain_any (W : Whole) (v : Value) (S : Nat → Prop) (w : World) (hrep : Rep w S .ways W.x [v]) (hgp : GP w) (hsz : W.x.sz ≤ 1000) :
    Calls Tryz.prog 28 #[.agg #[.bool W.bg, .bool W.en, v, .int .i64 (W.g : Int)]] w fun e w' => e = .returned (.string (nmB (wholeT W))) ∧ Keeps [] w w' := by
 have hrep1 := hrep.mono (S' := fun g => g < w.heap.size) fun g _ h => h
 have hB0 : 1 < w.heap.size := World.block_lt_of_cell? w _ hgp
 have hpl := patT_len W.x
 obtain ⟨va, vn, vc, rfl⟩ : IsSl v := by
  cases hrep with
  | ways _ _ _ _ _ ho _ => exact ownsRow_sl ho
 have hk0 : Keeps [] w ((w.alloc (.cells #[.bool W.bg, .bool W.en, .slice va vn vc, .int .i64 (W.g : Int)] 58)).alloc (.cells #[.pointer none, .slice none 0 0] 119)) := ((Keeps.refl [] w).alloc _).alloc _
 have hp0 : P4 ((w.alloc (.cells #[.bool W.bg, .bool W.en, .slice va vn vc, .int .i64 (W.g : Int)] 58)).alloc (.cells #[.pointer none, .slice none 0 0] 119)) w.heap.size (.bool W.bg) (.bool W.en) (.slice va vn vc) (.int .i64 (W.g : Int)) := heap_alloc2_old w _ _
 have hb0 : BD ((w.alloc (.cells #[.bool W.bg, .bool W.en, .slice va vn vc, .int .i64 (W.g : Int)] 58)).alloc (.cells #[.pointer none, .slice none 0 0] 119)) w.heap.size (w.heap.size + 1) [] :=
  ⟨by omega, .pointer none, .slice none 0 0, Or.inl rfl, heap_alloc2_new w _ _, ⟨rfl, Or.inl ⟨rfl, rfl⟩⟩, by simp [Value.ownBlock], fun _ => rfl⟩
 have hr0 := hrep1.keep hk0 (by simp)
 have hg0 := hgp.keep hk0
 have HW : Hid (wholeT W = (if W.bg then [94] else []) ++ patT W.x ++ (if W.en then [36] else [])) := rfl
 have WW := (writers 1000).1 W.x hsz
 obtain ⟨m0, m1, m2, m3, _⟩ := hp0.main
 have hz : ((w.alloc (.cells #[.bool W.bg, .bool W.en, .slice va vn vc, .int .i64 (W.g : Int)] 58)).alloc (.cells #[.pointer none, .slice none 0 0] 119)).heap.size = w.heap.size + 2 := by simp
 clear hrep hrep1 hgp
 go_enter Tryz.func28, Tryz.ntmps28
 go_upto_if 5 with (fail)
 generalize hW0 : (w.alloc (.cells #[.bool W.bg, .bool W.en, .slice va vn vc, .int .i64 (W.g : Int)] 58)).alloc (.cells #[.pointer none, .slice none 0 0] 119) = W0 at *
 generalize Value.agg #[.bool W.bg, .bool W.en, .slice va vn vc, .int .i64 (W.g : Int)] = ag
 go_cut [] from 5 to 7 (fun wx => BD wx w.heap.size (w.heap.size + 1) (if W.bg then [94] else []) ∧ WF w.heap.size (w.heap.size + 1) W0 wx)
 case first =>
  by_cases hbv : W.bg = true
  ·go_wp2_with fail
   refine (writeByte_any w.heap.size (w.heap.size + 1) [] 94 94 rfl W0 hb0 (by simp) (by omega)).mono ?_
   rintro e w1 ⟨rfl, hb1, hbel1, hoth1⟩
   go_wp2_with fail
   go_meet
   case rel => exact ⟨by simpa [hbv] using hb1, hbel1, hoth1⟩
   all_goals (rename_i hf; rw [hbv] at hf; cases hf)
  ·have hbf : W.bg = false := by simpa using hbv
   go_wp2_with fail
   go_meet
   case rel => exact ⟨by simpa [hbf] using hb0, WF.refl _ _ _⟩
 case rest =>
  obtain ⟨hbx, hfx⟩ := hcut
  obtain ⟨w1, hw1⟩ : ∃ w1 : World, w1 = wc := ⟨_, rfl⟩
  subst hw1
  have hS : ∀ g, (fun g => g < w.heap.size) g → g < w.heap.size := fun g h => h
  have hr1 := hr0.wf hS hfx
  have hg1 := hg0.wf hB0 hfx
  have hp1 : P4 w1 w.heap.size (.bool W.bg) (.bool W.en) (.slice va vn vc) (.int .i64 (W.g : Int)) := row_wf hp0 (by decide) (by omega) hfx
  obtain ⟨n0, n1, n2, n3, _⟩ := hp1.main
  have hs1 := hfx.below.size
  have hlb : (if W.bg = true then [94] else ([] : List UInt8)).length ≤ 1 := by split <;> simp
  clear m0 m1 m2 m3 hp0 hb0 hr0 hg0
  go_wp2_with fail
  refine (WW w1 _ w.heap.size (w.heap.size + 1) _ _ hr1 hS hbx hg1 hB0 (by omega) (by omega)).mono ?_
  rintro e w2 ⟨rfl, hb2, hf2⟩
  have hp2 : P4 w2 w.heap.size (.bool W.bg) (.bool W.en) (.slice va vn vc) (.int .i64 (W.g : Int)) := row_wf hp1 (by decide) (by omega) hf2
  obtain ⟨k0, k1, k2, k3, _⟩ := hp2.main
  have hs2 := hf2.below.size
  clear n0 n1 n2 n3 hp1 hbx hr1 hg1
  go_upto_if 11 with (fail)
  go_cut [] from 11 to 13 (fun wx => BD wx w.heap.size (w.heap.size + 1) (wholeT W) ∧ WF w.heap.size (w.heap.size + 1) w2 wx)
  case first =>
   by_cases hev : W.en = true
   ·go_wp2_with fail
    refine (writeByte_any w.heap.size (w.heap.size + 1) _ 36 36 rfl w2 hb2 (by rw [List.length_append]; omega) (by omega)).mono ?_
    rintro e w3 ⟨rfl, hb3, hbel3, hoth3⟩
    go_wp2_with fail
    go_meet
    case rel => exact ⟨by rw [HW.out]; simpa [hev] using hb3, hbel3, hoth3⟩
    all_goals (rename_i hf; rw [hev] at hf; cases hf)
   ·have hef : W.en = false := by simpa using hev
    go_wp2_with fail
    go_meet
    case rel => exact ⟨by rw [HW.out]; simpa [hef] using hb2, WF.refl _ _ _⟩
  case rest =>
   obtain ⟨hb3, hf3⟩ := hcut
   obtain ⟨w3, hw3⟩ : ∃ w3 : World, w3 = wc := ⟨_, rfl⟩
   subst hw3
   go_wp2_with fail
   refine (string_any w.heap.size (w.heap.size + 1) (wholeT W) w3 hb3).mono ?_
   rintro e w4 ⟨rfl, hbel4⟩
   have hend : Keeps [] w w4 := Keeps.ofBelow0 (Below.join (Below.join (Below.join (Below.ofKeeps hk0 (Nat.le_refl _) (by simp)) hfx.below) hf2.below) (Below.join hf3.below hbel4))
   clear hb3 hf3 hbel4 hb2 hf2 hk0 hfx
   go_wp2_with fail
   go_ret
   exact ⟨rfl, hend⟩
end Go.Proofs.YtnfojonmohijpabGreatDoor
namespace Go.Proofs.YtnfojonmohijpabGreatDoor
open Go.RowKit
set_option maxRecDepth 100000 in
set_option maxHeartbeats 2000000 in
theorem yplain_any (s : ByteArray) (w : World) (hgn : GN w) (hgp : GP w) :
    Calls Tryz.prog 15 #[.string s] w fun e w' => ∃ t place errno, e = .returned (.tuple #[.string (nmB t), .int .i64 place, .int .i64 errno]) ∧ PlainA s t place errno ∧ Keeps [] w w' := by
 go_enter Tryz.func15, Tryz.ntmps15
 go_wp2_with fail
 refine (readPattern_prog s w hgn).mono ?_
 rintro e w1 ⟨hk1, hc1⟩
 have hgp1 := hgp.keep hk1
 have hz0 : P4 (w1.alloc (.cells #[.bool false, .bool false, .slice none 0 0, .int .i64 0] 58)) w1.heap.size (.bool false) (.bool false) (.slice none 0 0) (.int .i64 0) := heap_alloc_new w1 _
 have hk2 : Keeps [] w1 (w1.alloc (.cells #[.bool false, .bool false, .slice none 0 0, .int .i64 0] 58)) := (Keeps.refl [] w1).alloc _
 have hC : (∃ x y : Int, y ≠ 0 ∧ e = .returned (.tuple #[.agg #[.bool false, .bool false, .slice none 0 0, .int .i64 0], .int .i64 x, .int .i64 y]) ∧ PlainA s [] x y) ∨
     ∃ W j v, s.size ≤ 60 ∧ PatR s (.ok W j) ∧ e = .returned (.tuple #[.agg #[.bool W.bg, .bool W.en, v, .int .i64 W.g], .int .i64 0, .int .i64 0]) ∧ v.oneCell' = true ∧ Rep w1 (fun g => w.heap.size ≤ g) .ways W.x [v] := by
  rcases hc1 with ⟨hl, he⟩ | ⟨hs, q, hq, h⟩
  ·exact Or.inl ⟨0, 1, by decide, he, Or.inl ⟨hl, rfl, rfl, rfl⟩⟩
  ·cases q with
   | bad j => exact Or.inl ⟨j, 2, by decide, h, Or.inr ⟨hs, .bad j, hq, rfl, rfl, rfl⟩⟩
   | ok W j =>
    obtain ⟨v, he, hv, hrep⟩ := h
    exact Or.inr ⟨W, j, v, hs, hq, he, hv, hrep⟩
 clear hc1
 rcases hC with ⟨x, y, hy0, rfl, hp⟩ | ⟨W, j, v, hs, hq, rfl, hv, hrep⟩
 rotate_left
 ·skip
  have hsz := whole_sz hs hq
  have o4 := four_one (x := W.bg) (y := W.en) (n := (W.g : Int)) hv
  have HQ : Hid (PlainA s (wholeT W) 0 0) := Or.inr ⟨hs, .ok W j, hq, rfl, rfl, rfl⟩
  have hk3 : Keeps [] w1 ((w1.alloc (.cells #[.bool false, .bool false, .slice none 0 0, .int .i64 0] 58)).setRow w1.heap.size #[.bool W.bg, .bool W.en, v, .int .i64 (W.g : Int)]) := hk2.setRow (Or.inr (Nat.le_refl _)) _
  have hrow : ((w1.alloc (.cells #[.bool false, .bool false, .slice none 0 0, .int .i64 0] 58)).setRow w1.heap.size #[.bool W.bg, .bool W.en, v, .int .i64 (W.g : Int)]).heap[w1.heap.size]? = some (.cells #[.bool W.bg, .bool W.en, v, .int .i64 (W.g : Int)] 58 (0, 0)) := setRow_heap _ _ _ _ _ _ hz0
  have hc3 : ∀ t u, [Value.bool W.bg, .bool W.en, v, .int .i64 (W.g : Int)][t]? = some u → ((w1.alloc (.cells #[.bool false, .bool false, .slice none 0 0, .int .i64 0] 58)).setRow w1.heap.size #[.bool W.bg, .bool W.en, v, .int .i64 (W.g : Int)]).cell? ⟨w1.heap.size, 0 + t, none⟩ = some u := by
   intro t u hu
   rw [Lib.cell_of_heap hrow, Nat.zero_add]
   simpa using hu
  have hr3 := hrep.keep hk3 (by simp)
  have hg3 := hgp1.keep hk3
  have hkA := hk1.trans hk3
  have hi4 := infoPat4 (.bool W.bg) (.bool W.en) v (.int .i64 (W.g : Int))
  clear hrep hq hgp1 hgp hgn hs hk1 hk2 hrow
  go_wp2_with (first | (refine wpList_store_row rfl 58 _ _ rfl w1.heap.size _ rfl rfl _ _ hz0 infoPat rfl o4 ?_; generalize (w1.alloc (.cells #[.bool false, .bool false, .slice none 0 0, .int .i64 0] 58)).setRow w1.heap.size #[.bool W.bg, .bool W.en, v, .int .i64 (W.g : Int)] = W3 at *) | (refine wpList_load_at rfl 58 _ rfl w1.heap.size 0 rfl [.bool W.bg, .bool W.en, v, .int .i64 (W.g : Int)] _ hc3 Tryz.underlying58 rfl hi4 ?_))
  refine (pplain_any W v _ _ hr3 hg3 hsz).mono ?_
  rintro e w4 ⟨rfl, hk4⟩
  have hend := hkA.trans hk4
  clear hr3 hg3 hc3 hk4 hkA
  go_wp2_with fail
  go_ret3
  exact ⟨_, _, _, rfl, HQ.out, hend⟩
 have o4 := four_one (x := false) (y := false) (n := 0) (v := .slice none 0 0) rfl
 have hk3 : Keeps [] w1 ((w1.alloc (.cells #[.bool false, .bool false, .slice none 0 0, .int .i64 0] 58)).setRow w1.heap.size #[.bool false, .bool false, .slice none 0 0, .int .i64 0]) := hk2.setRow (Or.inr (Nat.le_refl _)) _
 have hkA := hk1.trans hk3
 have HP : Hid (PlainA s [] x y) := hp
 clear hgp1 hk2 hk3 hp hk1
 go_wp2_with (first | (refine wpList_store_row rfl 58 _ _ rfl w1.heap.size _ rfl rfl _ _ hz0 infoPat rfl o4 ?_; generalize (w1.alloc (.cells #[.bool false, .bool false, .slice none 0 0, .int .i64 0] 58)).setRow w1.heap.size #[.bool false, .bool false, .slice none 0 0, .int .i64 0] = W3 at *))
 go_ret3
 exact ⟨[], x, y, rfl, HP.out, hkA⟩
end Go.Proofs.YtnfojonmohijpabGreatDoor
namespace Go.Proofs.YtnfojonmohijpabGreatDoor
open Go.RowKit
structure RulIs (w : World) (v : Value) (rs : List Rul) : Prop where
 len : rs.length ≤ 9223372036854775807
 rd : (rs = [] ∧ ∃ a c, v = .slice a 0 c) ∨ ∃ g o c, v = .slice (some ⟨g, o, none⟩) rs.length c ∧ RuC w g o rs ∧ rs.length ≤ c ∧ c ≤ 9223372036854775807
def ruV (W : Whole) (u : Value) (b : Bool) : List Value := [.bool W.bg, .bool W.en, u, .int .i64 W.g, .bool b]
structure RuM (w : World) (S : Nat → Prop) (rs : List Rul) (v : Value) (cs : List Value) (Ws : List Whole) : Prop where
 own : w.ownsRow 0 92 5 v Ws.length cs
 parts : ∀ (k : Nat) (W : Whole), Ws[k]? = some W → RlOk rs k W ∧ ∃ u, u.oneCell' = true ∧ (∀ q c, (ruV W u (skO rs k))[q]? = some c → cs[k * 5 + q]? = some c) ∧ Rep w (fun z => S z ∧ v.ownBlock ≠ some z) .ways W.x [u]
theorem RuM.keep {w w' : World} {S : Nat → Prop} {rs : List Rul} {v : Value} {cs : List Value} {Ws : List Whole} (h : RuM w S rs v cs Ws) (hk : Keeps [] w w') : RuM w' S rs v cs Ws :=
 ⟨h.own.keep hk (by simp), fun k W hW => by
   obtain ⟨h1, u, h2, h3, h4⟩ := h.parts k W hW
   exact ⟨h1, u, h2, h3, h4.keep hk (by simp)⟩⟩
theorem RuM.add {w w3 w5 : World} {rs : List Rul} {v u : Value} {cs : List Value} {Ws : List Whole} {W : Whole} {lo g' cap i : Nat} {b : Bool} (h : RuM w (fun z => lo ≤ z) rs v cs Ws) (hk : Keeps [] w w3) (hlo : lo ≤ w.heap.size) (hi : i = Ws.length) (hb : skO rs i = b) (hW : RlOk rs i W) (hu : u.oneCell' = true) (hr : Rep w3 (fun z => w.heap.size ≤ z) .ways W.x [u])
    (hown : w5.ownsRow 0 92 5 (.slice (some ⟨g', 0, none⟩) (i + 1) cap) (i + 1) (cs ++ ruV W u b)) (hgrow : (w3.alloc (.cells (ruV W u b).toArray 92)).grownBy w5 v.ownBlock) (hat : v.ownBlock = some g' ∨ g' = w3.heap.size + 1) :
    RuM w5 (fun z => lo ≤ z) rs (.slice (some ⟨g', 0, none⟩) (i + 1) cap) (cs ++ ruV W u b) (Ws ++ [W]) := by
 subst hi
 subst hb
 have hk5 : Keeps v.ownBlock.toList w3 w5 := ((Keeps.refl v.ownBlock.toList w3).alloc _).trans (Keeps.ofGrown hgrow)
 have hcl : cs.length = Ws.length * 5 := h.own.1
 have hvl := World.ownsRow.lt h.own
 have s3 := hk.size
 refine ⟨by rw [List.length_append, List.length_singleton]; exact hown, fun k V hV => ?_⟩
 have hno : ∀ z, v.ownBlock ≠ some z → z < w3.heap.size → (Value.slice (some ⟨g', 0, none⟩) (Ws.length + 1) cap).ownBlock ≠ some z := by
  intro z hz hzl e
  simp only [Value.ownBlock, Option.some.injEq] at e
  subst e
  rcases hat with e | e
  ·exact hz e
  ·omega
 by_cases hkl : k < Ws.length
 ·rw [List.getElem?_append_left hkl] at hV
  obtain ⟨h1, u', h2, h3, h4⟩ := h.parts k V hV
  refine ⟨h1, u', h2, fun q c hq => ?_, ?_⟩
  ·have := h3 q c hq
   rw [List.getElem?_append_left (List.getElem?_eq_some_iff.1 this).1]
   exact this
  ·refine (((h4.mono (S' := fun z => (lo ≤ z ∧ v.ownBlock ≠ some z) ∧ z < w.heap.size) fun z hz hl => ⟨hz, hl⟩).keep hk (by simp)).keep hk5 ?_).mono ?_
   ·intro z hz hm
    rw [Option.mem_toList] at hm
    exact hz.1.2 hm
   ·intro z hz _
    exact ⟨hz.1.1, hno z hz.1.2 (by have := hz.2; omega)⟩
 ·have hke : k = Ws.length := by
     have := (List.getElem?_eq_some_iff.1 hV).1
     simp at this
     omega
  subst hke
  have hVW : V = W := by
   rw [List.getElem?_append_right (Nat.le_refl _)] at hV
   simp at hV
   exact hV.symm
  subst hVW
  refine ⟨hW, u, hu, fun q c hq => ?_, ?_⟩
  ·rw [List.getElem?_append_right (by omega), show Ws.length * 5 + q - cs.length = q by omega]
   exact hq
  ·refine ((hr.mono (S' := fun z => w.heap.size ≤ z ∧ z < w3.heap.size) fun z hz hl => ⟨hz, hl⟩).keep hk5 ?_).mono ?_
   ·intro z hz hm
    rw [Option.mem_toList] at hm
    have := (hvl z hm).2
    have := hz.1
    omega
   ·intro z hz _
    refine ⟨by have := hz.1; omega, hno z ?_ hz.2⟩
    intro e
    have := (hvl z e).2
    have := hz.1
    omega
theorem RuM.zero (w : World) (S : Nat → Prop) (rs : List Rul) : RuM w S rs (.slice none 0 0) [] [] := ⟨⟨rfl, .inl ⟨rfl, rfl⟩⟩, fun k W h => by simp at h⟩
theorem infoTRu : (Tryz.prog.info? 92).map (fun i => (i.zero, i.size, i.bytes)) = some (some (.agg #[.bool false, .bool false, .slice none 0 0, .int .i64 0, .bool false]), 5, 48) := by kernel_rfl
def plR : Nat → Option (Nat × Nat) := fun i => (#[(0, 4), (4, 1)] : Array (Nat × Nat))[i]?
theorem built_tru (parts : List (Nat × Value)) : Tryz.prog.built 92 parts = Instr.fill plR #[.bool false, .bool false, .slice none 0 0, .int .i64 0, .bool false] parts := by kernel_rfl
theorem built_ru (W : Whole) (u : Value) (b : Bool) : Tryz.prog.built 92 [(0, .agg #[.bool W.bg, .bool W.en, u, .int .i64 W.g]), (1, .bool b)] = some (ruV W u b).toArray := by
 rw [built_tru]
 have e1 := fill_one plR 0 (.agg #[.bool W.bg, .bool W.en, u, .int .i64 W.g]) [(1, .bool b)] [] [.bool false, .bool false, .slice none 0 0, .int .i64 0] [.bool false] rfl rfl
 have e2 := fill_one plR 1 (.bool b) [] [.bool W.bg, .bool W.en, u, .int .i64 W.g] [.bool false] [] rfl rfl
 simp only [List.append_nil, List.nil_append, Value.cells] at e1 e2
 exact e1.trans (e2.trans rfl)
theorem ru_fill (W : Whole) (u : Value) (b : Bool) : Instr.fill (fun i => some (i * 5, 5)) ((Array.range (1 * 5)).map ((#[.bool false, .bool false, .slice none 0 0, .int .i64 0, .bool false] : Array Value)[· % 5]!)) [(0, .agg (ruV W u b).toArray)] = some (ruV W u b).toArray := by
 have e0 : (Array.range (1 * 5)).map ((#[.bool false, .bool false, .slice none 0 0, .int .i64 0, .bool false] : Array Value)[· % 5]!) = ([.bool false, .bool false, .slice none 0 0, .int .i64 0, .bool false] : List Value).toArray := by kernel_rfl
 rw [e0]
 have h1 := fill_one (fun i => some (i * 5, 5)) 0 (.agg (ruV W u b).toArray) [] [] [.bool false, .bool false, .slice none 0 0, .int .i64 0, .bool false] [] rfl rfl
 simp only [List.append_nil, List.nil_append, Value.cells] at h1
 exact h1.trans rfl
theorem wpList_ruslice {ops : Array Oper} {rest : List Oper} {o : Oper} {a : Act} {w : World} {Q : Exit → Act → World → Prop} (hg : o.guard = none) (x : Operand) (ho : o.op = .buildSlice 51 1 #[(0, x)]) (d : Option Tmp) (hd : o.dst = d) (W : Whole) (u : Value) (b : Bool) (hx : a.eval x = .agg (ruV W u b).toArray)
    (h : wpList Tryz.prog ops Q rest (a.put d (.slice (some ⟨w.heap.size, 0, none⟩) 1 1)) (w.alloc (.cells (ruV W u b).toArray 92))) : wpList Tryz.prog ops Q (o :: rest) a w := by
 subst hd
 obtain ⟨i0, hi0, hz0, hz1, hz2⟩ := info_parts infoTRu
 refine wpList_buildSlice hg 51 92 1 #[(0, x)] ho (ruV W u b).toArray i0 _ Tryz.underlying51 hi0 hz0 (by rw [hz1]; decide) (by rw [hz1]; decide) ?_ h
 rw [hz1]
 have := ru_fill W u b
 have e : (Value.agg #[.bool false, .bool false, .slice none 0 0, .int .i64 0, .bool false]).cells.size = 5 := rfl
 have e2 : ((#[(0, x)] : Array (Nat × Operand)).map fun (i, x) => (i, a.eval x)).toList = [(0, .agg (ruV W u b).toArray)] := by simp [hx]
 rw [e, e2]
 exact this
end Go.Proofs.YtnfojonmohijpabGreatDoor
