/-
  DERIVED. The program's Lines. Conditions: none.
-/
import Derived.Test.YtnfojonmohijpabGreatDoorJBO
import Derived.Test.YtnfojonmohijpabGreatDoorJNQ
import Derived.Test.YtnfojonmohijpabGreatDoorJOF
import Derived.Test.YtnfojonmohijpabGreatDoorJNK
set_option linter.unusedSimpArgs false
set_option linter.unusedVariables false
namespace Go.Proofs.YtnfojonmohijpabGreatDoor
open Go.RowKit
theorem idx_iff : ∀ (l : List UInt8), Lib.indexByte l 10 = -1 ↔ 10 ∉ l
 | [] => by simp [Lib.indexByte]
 | b :: l => by
  have ih := idx_iff l
  have hg := Lib.indexByte_ge l 10
  simp only [Lib.indexByte, List.mem_cons, not_or]
  by_cases h : b = 10
  ·subst h; simp
  ·rw [if_neg (by simpa using h)]
   by_cases h2 : Lib.indexByte l 10 = -1
   ·rw [if_pos (by simpa using h2)]
    exact ⟨fun _ => ⟨fun e => h e.symm, ih.1 h2⟩, fun _ => rfl⟩
   ·rw [if_neg (by simpa using h2)]
    exact ⟨fun e => by omega, fun e => absurd (ih.2 e.2) h2⟩
theorem idx_cut : ∀ (l : List UInt8) (i : Nat), Lib.indexByte l 10 = i → 10 ∉ l.take i ∧ l = l.take i ++ 10 :: l.drop (i + 1)
 | [], i, h => by simp [Lib.indexByte] at h
 | b :: l, i, h => by
  simp only [Lib.indexByte] at h
  have hg := Lib.indexByte_ge l 10
  by_cases hb : b = 10
  ·rw [if_pos (by simpa using hb)] at h
   have : i = 0 := by omega
   subst this; subst hb
   simp
  ·rw [if_neg (by simpa using hb)] at h
   by_cases h2 : Lib.indexByte l 10 = -1
   ·rw [if_pos (by simpa using h2)] at h; omega
   ·rw [if_neg (by simpa using h2)] at h
    obtain ⟨k, rfl⟩ : ∃ k, i = k + 1 := ⟨i - 1, by omega⟩
    obtain ⟨h3, h4⟩ := idx_cut l k (by omega)
    refine ⟨?_, ?_⟩
    ·simp only [List.take_succ_cons, List.mem_cons, not_or]
     exact ⟨fun e => hb e.symm, h3⟩
    ·simp only [List.take_succ_cons, List.drop_succ_cons, List.cons_append]
     exact congrArg (b :: ·) h4
theorem split_pcs : ∀ (k : Nat) (l : List UInt8), l.count 10 = k → Lib.splitK [10] 0 k l = pcsF l
 | 0, l, h => by
  rw [pcsF_miss (fun e => by have := List.count_pos_iff.2 e; omega)]
  rfl
 | k + 1, l, h => by
  have hi : ¬ Lib.indexByte l 10 = -1 := fun e => by
   have := List.count_eq_zero.2 ((idx_iff l).1 e)
   omega
  obtain ⟨i, hi2⟩ : ∃ i : Nat, Lib.indexByte l 10 = i := ⟨(Lib.indexByte l 10).toNat, by have := Lib.indexByte_ge l 10; omega⟩
  obtain ⟨h3, h4⟩ := idx_cut l i hi2
  have hlen : (l.take i).length = i := by
   have := congrArg List.length h4
   simp only [List.length_append, List.length_cons, List.length_take, List.length_drop] at this ⊢
   omega
  have hc : (l.drop (i + 1)).count 10 = k := by
   have := congrArg (List.count 10) h4
   rw [List.count_append, List.count_cons, List.count_eq_zero.2 h3] at this
   simp at this
   omega
  have ih := split_pcs k _ hc
  have e1 : pcsF l = l.take i :: pcsF (l.drop (i + 1)) := by
   conv => lhs; rw [h4]
   exact pcsF_hit h3
  rw [e1, ← ih, Lib.splitK, Lib.index_one, hi2, if_neg (by simp)]
  simp
theorem nmB_dataK (b : ByteArray) : nmB b.data.toList = b := by
 apply ByteArray.ext
 simp [nmB]
def LnR (w : World) (g : Nat) (ls : List ByteArray) : Prop := ∀ (k : Nat) (a : ByteArray), ls[k]? = some a → w.cell? ⟨g, k, none⟩ = some (.string a)
theorem LnR.keep {w w' : World} {g : Nat} {ls : List ByteArray} {S : List Nat} (h : LnR w g ls) (hk : Keeps S w w') (hS : g ∉ S) : LnR w' g ls := fun k a ha => by
 have h1 := h k a ha
 exact (World.cell?_of_block (hk.block g (World.block_lt_of_cell? _ _ h1) hS)).trans h1
def LnS (ls : List ByteArray) (k : Nat) : Prop := ∀ (d : Nat) (a : ByteArray), d < k → ls[d]? = some a → a.size ≤ 100
theorem cf_ln1 : ∀ args w1, (callFunc 46 args).run Tryz.prog w1 = .ok (.enter 46 args) w1 := fun args w1 => by
 kernel_rfl
set_option maxRecDepth 100000 in
set_option maxHeartbeats 2000000 in
theorem ln1_any (a : ByteArray) (w : World) :
    Calls Tryz.prog 46 #[.string a] w fun e w' => e = .returned (.bool (decide (100 < a.size))) ∧ w' = w := by
 obtain ⟨b, hb⟩ : ∃ b, decide (100 < a.size) = b := ⟨_, rfl⟩
 have HB : Hid (decide (100 < a.size) = b) := hb
 have hb2 : decide ((100 : Int) < (a.size : Int)) = b := by rw [← hb]; exact decide_eq_decide.2 (by omega)
 clear hb
 go_enter Tryz.func46, Tryz.ntmps46
 go_wp2_with fail
 go_ret
 exact ⟨by rw [HB.out]; first | rfl | (rw [← hb2]; rfl), rfl⟩
set_option maxRecDepth 100000 in
set_option maxHeartbeats 2000000 in
theorem indexLn_any (ls : List ByteArray) (n g c : Nat) (hn : n ≤ ls.length) (h8 : n ≤ 2001) (w : World) (hc : LnR w g ls) :
    Calls Tryz.prog 84 #[.slice (some ⟨g, 0, none⟩) n c, .func (.func 46) #[] #[]] w fun e w' => ∃ z : Int, e = .returned (.int .i64 z) ∧ ((0 ≤ z ∧ ¬ LnS ls n) ∨ (z < 0 ∧ LnS ls n)) ∧ w' = w := by
 have hcf := cf_ln1
 have h8' : (n : Int) ≤ 2001 := by omega
 have HL : Hid (n ≤ ls.length) := hn
 go_enter Tryz.func84, Tryz.ntmps84
 clear hn h8
 go_wp2_with fail
 go_loopw [5, 8] (fun _ q wr => ∃ k : Nat, k ≤ n ∧ q = .int .i64 k ∧ Hid (LnS ls k) ∧ wr = w) (fun _ q _ => n - (intOf q).toNat)
 case atStart => exact ⟨0, Nat.zero_le _, rfl, fun d z h => by omega, rfl⟩
 case round =>
  obtain ⟨k, hk, rfl, HA, rfl⟩ := hrel
  by_cases hlt : k < n
  ·obtain ⟨r, hr⟩ : ∃ r, ls[k]? = some r := ⟨_, List.getElem?_eq_getElem (by have := HL.out; omega)⟩
   have hrg := hc k r hr
   have hC := ln1_any r wr
   have hk0 : (0 : Int) ≤ (k : Int) := by omega
   have hk1 : (k : Int) < (n : Int) := by omega
   have HK : Hid (k < n) := hlt
   have HY : Hid (ls[k]? = some r) := hr
   clear hk hlt hr
   go_wp2_with fail
   refine hC.mono ?_
   rintro e w2 ⟨rfl, hw2⟩
   rw [hw2]
   clear hw2
   by_cases hb : 100 < r.size
   ·have HM : Hid (¬ LnS ls n) := fun h => by have := h k r HK.out HY.out; omega
    have e1 : decide (100 < r.size) = true := by simp [hb]
    rw [e1]
    clear hC hb e1
    go_wp2_with fail
    go_ret
    exact ⟨k, rfl, Or.inl ⟨by omega, HM.out⟩, rfl⟩
   ·have HA2 : Hid (LnS ls (k + 1)) := fun d q hd hq => by
       by_cases e : d < k
       ·exact HA.out d q e hq
       ·have : d = k := by omega
        subst this
        have h := HY.out
        rw [h] at hq
        cases hq
        omega
    have e1 : decide (100 < r.size) = false := by simp [hb]
    rw [e1]
    clear hC hb e1
    go_wp2_with fail
    exact ⟨⟨k + 1, HK.out, by go_num, HA2.out, by first | rfl | trivial⟩, by have := HK.out; simp [intOf]; omega⟩
  ·have he : k = n := by omega
   subst he
   clear hk hlt
   go_wp2_with fail
   go_ret
   exact ⟨-1, rfl, Or.inr ⟨by decide, HA.out⟩, rfl⟩
set_option maxRecDepth 100000 in
set_option maxHeartbeats 2000000 in
theorem containsLn_any (ls : List ByteArray) (n g c : Nat) (hn : n ≤ ls.length) (h8 : n ≤ 2001) (w : World) (hc : LnR w g ls) :
    Calls Tryz.prog 45 #[.slice (some ⟨g, 0, none⟩) n c, .func (.func 46) #[] #[]] w fun e w' => ∃ b, e = .returned (.bool b) ∧ (b = false ↔ LnS ls n) ∧ w' = w := by
 have hI := indexLn_any ls n g c hn h8 w hc
 go_enter Tryz.func45, Tryz.ntmps45
 clear hn h8
 go_wp2_with fail
 refine hI.mono ?_
 rintro e w1 ⟨z, rfl, hz, hw1⟩
 rw [hw1]
 clear hI hw1
 rcases hz with ⟨hz, hF⟩ | ⟨hz, hF⟩
 ·have HF : Hid (¬ LnS ls n) := hF
  have e1 : decide ((0 : Int) ≤ z) = true := by simpa using hz
  clear hF
  go_wp2_with fail
  go_ret
  exact ⟨true, rfl, ⟨(nomatch ·), fun h => absurd h HF.out⟩, rfl⟩
 ·have HF : Hid (LnS ls n) := hF
  have e1 : decide ((0 : Int) ≤ z) = false := by simpa using hz
  have e2 : ¬ (0 : Int) ≤ z := by omega
  clear hF
  go_wp2_with fail
  go_ret
  exact ⟨false, rfl, ⟨fun _ => HF.out, fun _ => rfl⟩, rfl⟩
def lnF (s : ByteArray) : List ByteArray := (linesF s.data.toList).map nmB
theorem lnF_cases (s : ByteArray) : ∃ x, (Lib.splitB nlS 0 (Lib.countB s nlS) s)[Lib.countB s nlS]? = some x ∧ (Lib.splitB nlS 0 (Lib.countB s nlS) s).length = Lib.countB s nlS + 1 ∧ ((x = ⟨#[]⟩ ∧ lnF s = (Lib.splitB nlS 0 (Lib.countB s nlS) s).take (Lib.countB s nlS)) ∨ (x ≠ ⟨#[]⟩ ∧ lnF s = Lib.splitB nlS 0 (Lib.countB s nlS) s)) := by
 have hlen := Lib.splitB_all nlS (by decide) 0 _ s rfl
 have hd := Lib.splitB_data nlS 0 (Lib.countB s nlS) s
 have hc : s.data.toList.count 10 = Lib.countB s nlS := (Lib.count_one 10 s.data.toList).symm
 have hd2 : (Lib.splitB nlS 0 (Lib.countB s nlS) s).map (·.data.toList) = pcsF s.data.toList := hd.trans (split_pcs _ _ hc)
 have hl := lines_pcs s.data.toList
 rw [← hd2] at hl
 unfold lnF
 rw [hl]
 clear hl hd hd2
 generalize Lib.splitB nlS 0 (Lib.countB s nlS) s = ps at *
 generalize Lib.countB s nlS = n at *
 have hnb : ∀ l : List ByteArray, (l.map (·.data.toList)).map nmB = l := fun l => by
  rw [List.map_map]
  conv => rhs; rw [← List.map_id l]
  exact List.map_congr_left (fun a _ => nmB_dataK a)
 have hx : ps[n]? = some (ps[n]'(by omega)) := List.getElem?_eq_getElem (by omega)
 refine ⟨ps[n]'(by omega), hx, hlen, ?_⟩
 have hgl : (ps.map (·.data.toList)).getLast? = some (ps[n]'(by omega)).data.toList := by
  rw [List.getLast?_eq_getElem?, List.length_map, List.getElem?_map, show ps.length - 1 = n by omega, hx]
  rfl
 rw [hgl]
 by_cases h : (ps[n]'(by omega)).data.toList = []
 ·left
  refine ⟨?_, ?_⟩
  ·rw [← nmB_dataK (ps[n]'(by omega)), h]; rfl
  ·rw [if_pos (by rw [h]), List.dropLast_eq_take, ← List.map_take, hnb, List.length_map, hlen]; rfl
 ·right
  refine ⟨fun e => h (by rw [e]), ?_⟩
  rw [if_neg (fun e => h (by simpa using e)), hnb]
def LinesPost (s : ByteArray) (w : World) (e : Ending) (w' : World) : Prop :=
 Keeps [] w w' ∧ ((∃ g c, e = .returned (.tuple #[.slice (some ⟨g, 0, none⟩) (lnF s).length c, .bool true]) ∧ s.size ≤ 2000 ∧ (∀ a ∈ lnF s, a.size ≤ 100) ∧ (lnF s).length ≤ 2001 ∧ LnR w' g (lnF s) ∧ w.heap.size ≤ g ∧ g < w'.heap.size) ∨ (e = .returned (.tuple #[.slice none 0 0, .bool false]) ∧ (2000 < s.size ∨ ∃ a ∈ lnF s, 100 < a.size)))
theorem LnS.all {ls : List ByteArray} (h : LnS ls ls.length) : ∀ a ∈ ls, a.size ≤ 100 := fun a ha => by
 obtain ⟨d, hd, rfl⟩ := List.mem_iff_getElem.1 ha
 exact h d _ hd (List.getElem?_eq_getElem hd)
theorem LnS.no {ls : List ByteArray} {k : Nat} (h : ¬ LnS ls k) : ∃ a ∈ ls, 100 < a.size := Classical.byContradiction fun h2 => h fun d a _ ha => Nat.le_of_not_lt fun h3 => h2 ⟨a, List.mem_of_getElem? ha, h3⟩
set_option maxRecDepth 100000 in
set_option maxHeartbeats 2000000 in
theorem lines_any (s : ByteArray) (w : World) : Calls Tryz.prog 26 #[.string s] w (LinesPost s w) := by
 by_cases hs : s.size ≤ 2000
 ·have hC := split_nl s w hs
  obtain ⟨x, hx, hlen, hcs⟩ := lnF_cases s
  have hle := Lib.countB_le nlS (by decide) s.size s (Nat.le_refl _)
  have HS : Hid (s.size ≤ 2000) := hs
  generalize Lib.splitB nlS 0 (Lib.countB s nlS) s = ps at *
  generalize Lib.countB s nlS = n at *
  obtain ⟨W, hW⟩ : ∃ W, W = w.alloc (.cells (ps.map Value.string).toArray 9) := ⟨_, rfl⟩
  have hk0 : Keeps [] w W := by rw [hW]; exact (Keeps.refl [] w).alloc _
  have hR : LnR W w.heap.size ps := fun k a ha => by
   rw [hW, Lib.cell_of_heap (heap_alloc_new w _)]
   simp [ha]
  rw [← hW] at hC
  obtain ⟨g, hg⟩ : ∃ g, g = w.heap.size := ⟨_, rfl⟩
  have HG : Hid (w.heap.size ≤ g ∧ g < W.heap.size) := by
   show w.heap.size ≤ g ∧ g < W.heap.size
   have : W.heap.size = w.heap.size + 1 := by rw [hW]; simp
   omega
  rw [← hg] at hC hR
  have hcl := hR n x hx
  have hsz : ¬ (2000 : Int) < (s.size : Int) := by omega
  have hn0 : (0 : Int) ≤ (n : Int) := by omega
  have hn1 : (n : Int) ≤ 2000 := by omega
  have HNL : Hid (ps.length = n + 1) := hlen
  have hn1' : ((n : Int) + 1) - 1 = (n : Int) := by omega
  have e0 : (x.toList == ([] : List UInt8)) = decide (x = ⟨#[]⟩) := by
   have h1 : ([] : List UInt8) = (⟨#[]⟩ : ByteArray).toList := by rw [ByteArray.toList_eq]
   exact (congrArg (x.toList == ·) h1).trans (strEqB x _)
  rcases hcs with ⟨he, hF⟩ | ⟨he, hF⟩
  ·rw [decide_eq_true he] at e0
   have HF : Hid (lnF s = ps.take n) := hF
   have hRt : LnR W g (ps.take n) := fun k a ha => hR k a (by
     rw [List.getElem?_take] at ha
     split at ha
     · exact ha
     · cases ha)
   have HRT : Hid (LnR W g (ps.take n)) := hRt
   have HLT : Hid ((ps.take n).length = n) := by show (ps.take n).length = n; rw [List.length_take, hlen]; omega
   have hT := containsLn_any (ps.take n) n g (n + 1) (by rw [HLT.out]; exact Nat.le_refl n) (by omega) W hRt
   clear hs hle hx hlen hF he hW hg
   go_enter Tryz.func26, Tryz.ntmps26
   go_wp2_with (first | (go_at_call 44; refine hC.mono ?_; rintro e w1 ⟨rfl, hw⟩; rw [hw]; clear hw))
   refine hT.mono ?_
   rintro e w1 ⟨b, rfl, hb, hw1⟩
   rw [hw1]
   clear hw1 hT hC hcl hR hRt
   cases b with
   | true =>
    have HB : Hid (¬ LnS (ps.take n) n) := fun h => nomatch (hb.2 h)
    clear hb
    go_wp2_with fail
    go_ret2
    exact ⟨hk0, Or.inr ⟨rfl, Or.inr (by rw [HF.out]; exact LnS.no HB.out)⟩⟩
   | false =>
    have HB : Hid (LnS (ps.take n) n) := hb.1 rfl
    clear hb
    go_wp2_with fail
    go_ret2
    refine ⟨hk0, Or.inl ⟨g, n + 1, ?_, HS.out, ?_, ?_, ?_, HG.out⟩⟩
    ·rw [HF.out, HLT.out]; rfl
    ·rw [HF.out]; exact LnS.all (by rw [HLT.out]; exact HB.out)
    ·rw [HF.out, HLT.out]; omega
    ·rw [HF.out]; exact HRT.out
  ·rw [decide_eq_false he] at e0
   have HF : Hid (lnF s = ps) := hF
   have HRT : Hid (LnR W g ps) := hR
   have HLT : Hid (ps.length = n + 1) := hlen
   have hT := containsLn_any ps (n + 1) g (n + 1) (by omega) (by omega) W hR
   have hRt := True.intro
   clear hs hle hx hlen hF he hW hg
   go_enter Tryz.func26, Tryz.ntmps26
   go_wp2_with (first | (go_at_call 44; refine hC.mono ?_; rintro e w1 ⟨rfl, hw⟩; rw [hw]; clear hw))
   refine hT.mono ?_
   rintro e w1 ⟨b, rfl, hb, hw1⟩
   rw [hw1]
   clear hw1 hT hC hcl hR hRt
   cases b with
   | true =>
    have HB : Hid (¬ LnS ps (n + 1)) := fun h => nomatch (hb.2 h)
    clear hb
    go_wp2_with fail
    go_ret2
    exact ⟨hk0, Or.inr ⟨rfl, Or.inr (by rw [HF.out]; exact LnS.no HB.out)⟩⟩
   | false =>
    have HB : Hid (LnS ps (n + 1)) := hb.1 rfl
    clear hb
    go_wp2_with fail
    go_ret2
    refine ⟨hk0, Or.inl ⟨g, n + 1, ?_, HS.out, ?_, ?_, ?_, HG.out⟩⟩
    ·rw [HF.out, HLT.out]; rfl
    ·rw [HF.out]; exact LnS.all (by rw [HLT.out]; exact HB.out)
    ·rw [HF.out, HLT.out]; omega
    ·rw [HF.out]; exact HRT.out
 ·have hsz : (2000 : Int) < (s.size : Int) := by omega
  have HS : Hid (2000 < s.size) := Nat.lt_of_not_le hs
  clear hs
  go_enter Tryz.func26, Tryz.ntmps26
  go_wp2_with fail
  go_ret2
  exact ⟨Keeps.refl _ _, Or.inr ⟨rfl, Or.inl HS.out⟩⟩
end Go.Proofs.YtnfojonmohijpabGreatDoor
namespace Go.Proofs.YtnfojonmohijpabGreatDoor
open Go.RowKit
def StR (w : World) (v : Value) (ls : List ByteArray) : Prop := w.ownsRow 0 9 1 v ls.length (ls.map Value.string)
theorem StR.keep {w w' : World} {v : Value} {ls : List ByteArray} (h : StR w v ls) (hk : Keeps [] w w') : StR w' v ls := World.ownsRow.keep h hk (by simp)
def TextsA (k : Cmd) (s : ByteArray) (W : Whole) (ps : List Part) (ts : List ByteArray) : Prop :=
 if k.o = false then ts = [s] else if k.v = true then ts = [] else if k.x = true then ∃ sp, WholeA s W (some sp) ∧ ts = [nmB (fillP ps s sp)] else ∃ fs, SinA s W 0 fs ∧ ts = fs.map fun sp => nmB (fillP ps s sp)
structure TxL (w wr : World) (s : ByteArray) (ps : List Part) (fs : List (List Int)) (i : Nat) (v : Value) : Prop where
 row : StR wr v ((fs.take i).map fun sp => nmB (fillP ps s sp))
 fresh : ∀ g, v.ownBlock = some g → w.heap.size ≤ g
 keep : Keeps [] w wr
theorem SinA.sp {s : ByteArray} {W : Whole} {fr : Nat} {fs : List (List Int)} (h : SinA s W fr fs) (hg : ∀ m, W.x.has m → 0 < m ∧ m ≤ W.g) : (∀ sp ∈ fs, SpOk s sp W.g) ∧ (fr ≤ s.size → fs.length ≤ s.size - fr) ∧ (s.size < fr → fs = []) := by
 induction h with
 | fin fr h => exact ⟨by simp, by simp, by simp⟩
 | none fr h _ => exact ⟨by simp, by simp, by simp⟩
 | hit fr i j r fs h1 h2 h3 _ ih =>
  obtain ⟨a1, i', j', r', e, a2, a3, a4⟩ := h2.sp hg
  simp only [List.cons.injEq] at e
  obtain ⟨e1, e2, _⟩ := e
  refine ⟨fun sp hs => ?_, fun _ => ?_, fun h => by omega⟩
  ·rcases List.mem_cons.1 hs with rfl | hs
   ·exact a1
   ·exact ih.1 sp hs
  ·have := ih.2.1 (by omega)
   simp only [List.length_cons]
   omega
 | empty fr i j r fs h1 h2 h3 _ ih =>
  obtain ⟨a1, i', j', r', e, a2, a3, a4⟩ := h2.sp hg
  simp only [List.cons.injEq] at e
  obtain ⟨e1, e2, _⟩ := e
  refine ⟨ih.1, fun _ => ?_, fun h => by omega⟩
  by_cases hj : j + 1 ≤ s.size
  ·have := ih.2.1 hj
   omega
  ·rw [ih.2.2 (by omega)]
   simp
set_option maxRecDepth 100000 in
set_option maxHeartbeats 4000000 in
theorem textsOf_any (k : Cmd) (tv : Value) (ps : List Part) (s : ByteArray) (W : Whole) (v a c : Value) (w : World) (h : MaI w s W v a c) (hT : TpR w tv ps) (hp : ps.length ≤ 100) (hgr : GrOk W.g ps) (hx : k.o = true → k.v = false → k.x = false) :
    Calls Tryz.prog 49 #[.agg (cmdC k W v tv), .string s, .agg (mat W v s a c)] w fun e w' => ∃ r ts, e = .returned r ∧ TextsA k s W ps ts ∧ StR w' r ts ∧ (∀ g, r.ownBlock = some g → w.heap.size ≤ g) ∧ ts.length ≤ 100 ∧ Keeps [] w w' := by
 obtain ⟨i0, hi0, hz0, hz1, hz2⟩ := info_parts infoStrJ
 have hun := Tryz.underlying26
 obtain ⟨hv, ha, hc⟩ := h.cells
 have HS : Hid (s.size ≤ 100) := h.len
 have hk0 : Keeps [] w ((w.alloc (.cells (cmdC k W v tv) 83)).alloc (.cells (mat W v s a c) 67)) := ((Keeps.refl [] w).alloc _).alloc _
 have hsz1 : (w.alloc (.cells (cmdC k W v tv) 83)).heap.size = w.heap.size + 1 := by simp
 have h0 : ((w.alloc (.cells (cmdC k W v tv) 83)).alloc (.cells (mat W v s a c) 67)).heap[w.heap.size]? = some (.cells (cmdC k W v tv) 83 (0, 0)) := heap_alloc2_old w _ _
 have h1 : ((w.alloc (.cells (cmdC k W v tv) 83)).alloc (.cells (mat W v s a c) 67)).heap[w.heap.size + 1]? = some (.cells (mat W v s a c) 67 (0, 0)) := by rw [← hsz1]; exact heap_alloc_new _ _
 obtain ⟨_, _, c3, c4, c5, c10⟩ := cmd_cells h0
 have hTX := hT.keep hk0 (by simp)
 have hX := h.keep hk0
 have HG : Hid (∀ m, W.x.has m → 0 < m ∧ m ≤ W.g) := h.nest.2
 have HG9 : Hid (W.g ≤ 9 ∧ ps.length ≤ 100 ∧ GrOk W.g ps) := ⟨h.g9, hp, hgr⟩
 obtain ⟨ta, tn, tc, rfl⟩ := ownsRow_sl hT
 unfold cmdC mat at *
 clear h hT hp hgr hsz1
 go_enter Tryz.func49, Tryz.ntmps49
 go_upto_region 1 with (fail)
 generalize (w.alloc (.cells #[.bool k.c, .bool k.i, .bool k.n, .bool k.o, .bool k.v, .bool k.x, .bool W.bg, .bool W.en, v, .int .i64 (W.g : Int), .slice ta tn tc] 83)).alloc (.cells #[.bool W.bg, .bool W.en, v, .int .i64 (W.g : Int), .string s, a, c] 67) = X at *
 obtain ⟨g0, e0⟩ : ∃ g, g = w.heap.size := ⟨_, rfl⟩
 obtain ⟨g1, e1⟩ : ∃ g, g = w.heap.size + 1 := ⟨_, rfl⟩
 rw [← e1] at h1 ⊢
 rw [← e0] at c3 c4 c5 c10 ⊢
 have hg0X : g0 < X.heap.size := World.block_lt_of_cell? _ _ c3
 have HW : Hid (w.heap.size = g0) := e0.symm
 clear e0 e1 h0
 cases hko : k.o
 ·have HA : Hid (TextsA k s W ps [s]) := by show TextsA k s W ps [s]; unfold TextsA; rw [if_pos hko]
  rw [hko] at c3
  have hR : StR (X.alloc (.cells #[.string s] 9)) (.slice (some ⟨X.heap.size, 0, none⟩) 1 1) [s] := by
   refine ⟨rfl, Or.inr ⟨X.heap.size, 1, #[.string s], rfl, Nat.zero_le _, heap_alloc_new X _, Nat.le_refl _, by unfold maxLen; omega, rfl, rfl⟩⟩
  have hkE := hk0.alloc (.cells #[.string s] 9)
  have hsX := hk0.size
  clear hko hx hX hTX h1 c4 c5 c10
  go_wp2_with fail
  go_ret
  exact ⟨_, [s], rfl, HA.out, hR, fun g hg => (by cases hg; exact hsX), by simp, hkE⟩
 cases hkv : k.v
 rotate_left
 ·have HA : Hid (TextsA k s W ps []) := by show TextsA k s W ps []; unfold TextsA; rw [if_neg (by rw [hko]; decide), if_pos hkv]
  rw [hko] at c3
  rw [hkv] at c4
  clear hko hkv hx hX hTX h1 c5 c10
  go_wp2_with fail
  go_ret
  exact ⟨_, [], rfl, HA.out, ⟨rfl, Or.inl ⟨rfl, rfl⟩⟩, fun g hg => (by cases hg), by simp, hk0⟩
 have hkx := hx hko hkv
 have HAA : Hid (∀ fs, SinA s W 0 fs → TextsA k s W ps (fs.map fun sp => nmB (fillP ps s sp))) := fun fs hfs => by
  unfold TextsA
  rw [if_neg (by rw [hko]; decide), if_neg (by rw [hkv]; decide), if_neg (by rw [hkx]; decide)]
  exact ⟨fs, hfs, rfl⟩
 rw [hko] at c3
 rw [hkv] at c4
 rw [hkx] at c5
 have hSI := stretchesIn_any s W v a c X hX
 unfold mat at hSI
 clear hko hkv hkx hx hX
 go_wp2_with (first | (refine wpList_load_row rfl 67 _ rfl g1 rfl _ _ _ _ h1 Tryz.underlying67 rfl (info7 _ _ _ _ _ _ _) ?_))
 refine hSI.mono ?_
 rintro e w2 ⟨r, fs, rfl, hSA, hFs, hk2⟩
 obtain ⟨hsp, hlen, _⟩ := hSA.sp HG.out
 have hfl := hlen (Nat.zero_le _)
 obtain ⟨cs, hown, hfs⟩ := hFs.row
 obtain ⟨xa, xn, xc, rfl⟩ := ownsRow_sl hown
 have hxn : xn = fs.length := by
  rcases hown.2 with ⟨e, e2⟩ | ⟨_, _, _, e, _⟩
  ·cases e; exact e2.symm
  ·cases e; rfl
 have HXN : Hid (xn = fs.length ∧ fs.length ≤ s.size) := ⟨hxn, by omega⟩
 have hxn1 : (xn : Int) ≤ 100 := by have := HS.out; omega
 have HFS : Hid (FsR w2 (.slice xa xn xc) fs ∧ ∀ sp ∈ fs, SpOk s sp W.g) := ⟨hFs, hsp⟩
 have HSA : Hid (SinA s W 0 fs) := hSA
 have HK2 : Hid (Keeps [] w w2) := hk0.trans hk2
 have c10' := keep_cell hk2 c10
 have hTX2 := hTX.keep hk2 (by simp)
 clear hSI hlen hfl hxn hown hfs hFs hsp hSA c3 c4 c5 c10 h1
 go_wp2_with fail
 go_loopw [7, 36] (fun q7 q wr => ∃ i : Nat, q = .int .i64 i ∧ i ≤ xn ∧ TxL w2 wr s ps fs i q7) (fun _ q _ => xn - (intOf q).toNat)
 case atStart => exact ⟨0, rfl, Nat.zero_le _, ⟨⟨rfl, Or.inl ⟨rfl, rfl⟩⟩, fun g hg => (by cases hg), Keeps.refl _ _⟩⟩
 case round =>
  obtain ⟨i, rfl, hi, L⟩ := hrel
  obtain ⟨ya, yn, yc, rfl⟩ := ownsRow_sl L.row
  have HL : Hid (TxL w2 wr s ps fs i (.slice ya yn yc)) := L
  by_cases hlt : i < xn
  rotate_left
  ·have hlt' : ¬ (i : Int) < (xn : Int) := by omega
   have HE : Hid (fs.take i = fs) := List.take_of_length_le (by have := HXN.out; omega)
   clear L hlt hi
   go_wp2_with fail
   go_ret
   refine ⟨_, rfl, (fs.map fun sp => nmB (fillP ps s sp)), HAA.out fs HSA.out, ?_, ?_, ?_, HK2.out.trans HL.out.keep⟩
   ·have := HL.out.row; rw [HE.out] at this; exact this
   ·intro g hg; have := HL.out.fresh g hg; have := HK2.out.size; omega
   ·have := HXN.out; have := HS.out; simp; omega
  have hlt' : (i : Int) < (xn : Int) := by omega
  have hi0' : (0 : Int) ≤ (i : Int) := by omega
  have HI : Hid (i < xn) := hlt
  obtain ⟨sp, hsp⟩ : ∃ sp, fs[i]? = some sp := ⟨_, List.getElem?_eq_getElem (by have := HXN.out; omega)⟩
  have hFr := HFS.out.1.keep L.keep
  obtain ⟨cs, hown, hfs⟩ := hFr.row
  obtain ⟨gf, cf, hcs, hfn, _⟩ := hfs i sp hsp
  obtain ⟨gx, rfl⟩ : ∃ gx, xa = some ⟨gx, 0, none⟩ := by
   rcases hown.2 with ⟨e, e2⟩ | ⟨gx, _, _, e, _⟩
   ·exfalso; have := HXN.out; omega
   ·cases e; exact ⟨gx, rfl⟩
  have hown' : wr.ownsRow 0 22 1 (.slice (some ⟨gx, 0, none⟩) fs.length xc) fs.length cs := by have h := hown; rw [HXN.out.1] at h; exact h
  have hcx : wr.cell? ⟨gx, i, none⟩ = some (.slice (some ⟨gf, 0, none⟩) sp.length cf) := by
   rw [World.ownsRow.cellAt hown' i (by have := HXN.out; omega)]; exact hcs
  have c10'' := keep_cell L.keep c10'
  have hfill := fill_any (.slice ta tn tc) ps s (.slice (some ⟨gf, 0, none⟩) sp.length cf) sp W.g wr (hTX2.keep L.keep (by simp)) hfn HS.out HG9.out.2.1 (HFS.out.2 sp (List.mem_of_getElem? hsp)) HG9.out.2.2 HG9.out.1
  have HSP : Hid (fs[i]? = some sp) := hsp
  obtain ⟨sn, hsn⟩ : ∃ sn, sp.length = sn := ⟨_, rfl⟩
  rw [hsn] at hfill hcx
  clear L hlt hi hsp hFr hown hown' hfs hcs hfn hsn
  go_wp2_with (first | (go_at_call 86; refine hfill.mono ?_))
  rintro e w3 ⟨rfl, hk3⟩
  have hown3 : w3.ownsRow 0 9 1 (.slice ya yn yc) ((fs.take i).map fun sp => nmB (fillP ps s sp)).length (((fs.take i).map fun sp => nmB (fillP ps s sp)).map Value.string) := HL.out.row.keep hk3
  have hti : (fs.take i).length = i := by rw [List.length_take]; have := HXN.out; have := HI.out; omega
  rw [List.length_map, hti] at hown3
  have hkW3 := HL.out.keep.trans hk3
  obtain ⟨u, hu⟩ : ∃ u, nmB (fillP ps s sp) = u := ⟨_, rfl⟩
  have HU : Hid (nmB (fillP ps s sp) = u) := hu
  rw [hu]
  have hlm : i + 1 ≤ maxLen := by unfold maxLen; have := HXN.out; have := HI.out; have := HS.out; omega
  have hbt : (i + 1) * 16 ≤ 140737488355328 := by have := HXN.out; have := HI.out; have := HS.out; omega
  have hH : (w3.alloc (.cells #[.string u] 9)).heap.size = w3.heap.size + 1 := by simp
  have hnews : ∀ q x, ([.string u] : List Value)[q]? = some x → (w3.alloc (.cells #[.string u] 9)).cell? ((⟨w3.heap.size, 0, none⟩ : Addr).add q) = some x := World.news_of_block (cs := #[.string u]) (heap_alloc_new w3 _)
  have h1c : ∀ x ∈ ([.string u] : List Value), x.oneCell' = true := by simp [Value.oneCell']
  clear hu hfill hti hk3 hcx c10''
  go_wp2_with (first | (at_builtin; refine wpList_append_lies _ rfl _ _ _ rfl 0 9 i0 _ 1 16 hun hi0 hz0 hz1 hz2 rfl (by decide) (.slice ya yn yc) i _ rfl (hown3.alloc _) ⟨w3.heap.size, 0, none⟩ 1 1 [.string u] rfl rfl hnews h1c (by omega) hlm hbt (Nat.zero_le _) (w3.heap.size + 1) hH ?_))
  intro g' cap w5 hown5 hgrow hat hlt5
  have hk5 : Keeps (Value.slice ya yn yc).ownBlock.toList w3 w5 := ((Keeps.refl _ w3).alloc _).trans (Keeps.ofGrown hgrow)
  have hfr := HL.out.fresh
  have hg4 : (Value.slice ya yn yc).ownBlock = some g' ∨ w3.heap.size ≤ g' := hat.imp id fun h => by omega
  have L5 : TxL w2 w5 s ps fs (i + 1) (.slice (some ⟨g', 0, none⟩) (i + 1) cap) := by
   refine ⟨?_, ?_, ?_⟩
   ·have e1 : fs.take (i + 1) = fs.take i ++ [sp] := by rw [List.take_add_one, HSP.out]; rfl
    have e2 : (fs.take i).length = i := by rw [List.length_take]; have := HXN.out; have := HI.out; omega
    unfold StR
    rw [e1, List.length_map, List.length_append, e2, List.map_append, List.map_append]
    simp only [List.map_cons, List.map_nil, HU.out]
    have e3 : List.map Value.string (List.map (fun sp => nmB (fillP ps s sp)) (List.take i fs)) = List.take i (List.map (Value.string ∘ fun sp => nmB (fillP ps s sp)) fs) := by rw [List.map_map, List.map_take]
    rw [e3]
    exact hown5
   ·intro y hy
    cases hy
    rcases hg4 with h | h
    ·exact hfr _ h
    ·have := hkW3.size
     show w2.heap.size ≤ g'
     omega
   ·exact hkW3.fresh hk5 (by
      intro y hy
      rw [Option.mem_toList] at hy
      exact Or.inr (hfr y hy))
  have HL5 : Hid (TxL w2 w5 s ps fs (i + 1) (.slice (some ⟨g', 0, none⟩) (i + 1) cap)) := L5
  clear hown5 hgrow hnews hH h1c hk5 hown3 hat hg4 L5 hlt5 hfr
  go_wp2_with fail
  first
   | exact ⟨⟨i + 1, by go_num, HI.out, HL5.out⟩, by have := HI.out; simp [intOf]; omega⟩
   | (go_roundw
      case rel => exact ⟨i + 1, by go_num, HI.out, HL5.out⟩
      case measure => have := HI.out; simp [intOf]; omega)
end Go.Proofs.YtnfojonmohijpabGreatDoor
namespace Go.Proofs.YtnfojonmohijpabGreatDoor
open Go.RowKit
theorem ownsRow_sl' {w : World} {B : Nat} {e : TypeId} {size : Nat} {v : Value} {n : Nat} {xs : List Value} (h : w.ownsRow B e size v n xs) : IsSl v := by
 rcases h.2 with ⟨rfl, _⟩ | ⟨g, cap, cur, rfl, _⟩ <;> exact ⟨_, _, _, rfl⟩
theorem ownsRow_len' {w : World} {B : Nat} {e : TypeId} {size n : Nat} {va : Option Addr} {vn vc : Nat} {cs : List Value} (h : w.ownsRow B e size (.slice va vn vc) n cs) : vn = n := by
 rcases h.2 with ⟨e, e2⟩ | ⟨g, cap, cur, e, _⟩
 ·cases e; exact e2.symm
 ·cases e; rfl
def BW (w : World) (B b : Nat) (l : List UInt8) : Prop :=
 B ≤ b ∧ ∃ p v, (p = .pointer none ∨ p = .pointer (some ⟨b, 0, none⟩)) ∧ w.heap[b]? = some (.cells #[p, v] 154 (0, 0)) ∧ w.ownsRow B 5 1 v l.length (Lib.byteCells l) ∧ v.ownBlock ≠ some b ∧ (l = [] → v = .slice none 0 0)
theorem BW.keep {w w' : World} {B b : Nat} {l : List UInt8} (h : BW w B b l) (hk : Keeps [] w w') : BW w' B b l := by
 obtain ⟨hB, p, v, hp, hb, ho, hn, h0⟩ := h
 exact ⟨hB, p, v, hp, (hk.block b (Array.getElem?_eq_some_iff.1 hb).1 (by simp)).trans hb, ho.keep hk (by simp), hn, h0⟩
theorem liesWr : liesAt Tryz.prog Tryz.prog.depth 154 (2 / Tryz.prog.cellsOf 154) 0 119 1 = true := by kernel_rfl
set_option maxHeartbeats 1000000 in
set_option maxRecDepth 100000 in
theorem wcopyCheck_used (b : Nat) (w : World) (h0 : w.cell? ⟨b, 0, none⟩ = some (.pointer (some ⟨b, 0, none⟩))) :
    Calls Tryz.prog 88 #[.pointer (some ⟨b, 0, none⟩)] w fun e w' => e = .returned (.tuple #[]) ∧ w' = w := by
 obtain ⟨j, hj, _⟩ := Option.map_eq_some_iff.1 sizeBld
 have hne := Lib.run_neq_ptr_same (P := Tryz.prog) w ⟨b, 0, none⟩ undPB hj
 go_enter Tryz.func88, Tryz.ntmps88
 go_wp2_with fail
 go_end0
 exact ⟨rfl, rfl⟩
set_option maxHeartbeats 1000000 in
set_option maxRecDepth 100000 in
theorem wcopyCheck_fresh (b : Nat) (w : World) (h0 : w.cell? ⟨b, 0, none⟩ = some (.pointer none)) (hsh : w.shape? b = some (154, 2)) (hfz : w.frozen? ⟨b, 0, none⟩ = false) :
    Calls Tryz.prog 88 #[.pointer (some ⟨b, 0, none⟩)] w fun e w' => e = .returned (.tuple #[]) ∧ w' = w.setCell ⟨b, 0, none⟩ (.pointer (some ⟨b, 0, none⟩)) := by
 obtain ⟨j, hj, hjs⟩ := Option.map_eq_some_iff.1 sizeBld
 have e1 := Lib.run_to_unsafe (P := Tryz.prog) w ⟨b, 0, none⟩ undPB undUP hj (by rw [hjs]; decide) hsh (Nat.zero_lt_succ 1)
 have e2 : (callFunc 119 #[.pointer (some ⟨b, 0, none⟩)]).run Tryz.prog w = .ok (.value (.pointer (some ⟨b, 0, none⟩))) w := by
  rw [run_callFunc_extern Tryz.func119 (by kernel_rfl) (by kernel_rfl) (by kernel_rfl) (e := Extern.AbiNoEscape.same) (by kernel_rfl), Lib.run_noEscape]
  rfl
 have e3 := Lib.run_from_unsafe (P := Tryz.prog) w ⟨b, 0, none⟩ undUP undPB hj hsh liesWr
 go_enter Tryz.func88, Tryz.ntmps88
 go_wp2_with fail
 go_end0
 exact ⟨rfl, rfl⟩
theorem wcopyCheck_any (B b : Nat) (l : List UInt8) (w : World) (h : BW w B b l) :
    Calls Tryz.prog 88 #[.pointer (some ⟨b, 0, none⟩)] w fun e w' => e = .returned (.tuple #[]) ∧ Below B w w' ∧ Lib.OthersKept 5 (some b) w w' ∧ ∃ v, w'.heap[b]? = some (.cells #[.pointer (some ⟨b, 0, none⟩), v] 154 (0, 0)) ∧ w'.ownsRow B 5 1 v l.length (Lib.byteCells l) ∧ v.ownBlock ≠ some b ∧ (l = [] → v = .slice none 0 0) := by
 obtain ⟨hB, p, v, hp, hb, ho, hn, h0⟩ := h
 rcases hp with rfl | rfl
 ·have hc : Lib.BuilderAt 154 5 B b (.pointer none) (Lib.byteCells l) w := ⟨hB, v, hb, by rw [Lib.byteCells_length]; exact ho, hn⟩
  refine (wcopyCheck_fresh b w hc.cell0 hc.shape hc.frozen0).mono ?_
  rintro e w' ⟨rfl, rfl⟩
  refine ⟨rfl, (Below.refl B w).setCell (p := ⟨b, 0, none⟩) hB _, (Lib.OthersKept.refl _ _ w).setCell ⟨b, 0, none⟩ rfl _, v, ?_, ho.setOther (a := ⟨b, 0, none⟩) hn _, hn, h0⟩
  simp [World.setCell, Array.getElem?_modify, hb]
 ·refine (wcopyCheck_used b w (by rw [Lib.cell_of_heap hb]; rfl)).mono ?_
  rintro e w' ⟨rfl, rfl⟩
  exact ⟨rfl, Below.refl B _, Lib.OthersKept.refl _ _ _, v, hb, ho, hn, h0⟩
theorem BW.put {w : World} {B b : Nat} {p v v' : Value} {l : List UInt8} (hB : B ≤ b) (hp : p = .pointer none ∨ p = .pointer (some ⟨b, 0, none⟩)) (hb : w.heap[b]? = some (.cells #[p, v] 154 (0, 0))) (ho : w.ownsRow B 5 1 v' l.length (Lib.byteCells l)) (h0 : l = [] → v' = .slice none 0 0) : BW (w.setCell ⟨b, 1, none⟩ v') B b l := by
 have hne := Lib.ownBlock_ne ho hb (by decide)
 refine ⟨hB, p, v', hp, ?_, ho.setOther (a := ⟨b, 1, none⟩) hne _, hne, h0⟩
 simp [World.setCell, Array.getElem?_modify, hb]
set_option maxHeartbeats 2000000 in
set_option maxRecDepth 100000 in
theorem wwriteString_any (B b : Nat) (l m : List UInt8) (w : World) (h : BW w B b l) (hlen : l.length ≤ 1000000000) (hlm' : m.length ≤ 1000000000) (hBw : B ≤ w.heap.size) :
    Calls Tryz.prog 50 #[.pointer (some ⟨b, 0, none⟩), .string (nmB m)] w fun e w' => (∃ v, e = .returned v) ∧ BW w' B b (l ++ m) ∧ Below B w w' ∧ Lib.OthersKept 5 (some b) w w' := by
 obtain ⟨i0, hi0, hz0, hz1, hz2⟩ := info_parts Tryz.infoByte
 have hB := h.1
 have hms : (nmB m).size = m.length := nmB_size m
 go_enter Tryz.func50, Tryz.ntmps50
 go_wp2_with fail
 refine (wcopyCheck_any B b l _ h).mono ?_
 rintro e w1 ⟨rfl, hb1, hk1, v, hbk, hown, hne, h0⟩
 have c0 : w1.cell? ⟨b, 0, none⟩ = some (.pointer (some ⟨b, 0, none⟩)) := by rw [Lib.cell_of_heap hbk]; rfl
 have c1 : w1.cell? ⟨b, 1, none⟩ = some v := by rw [Lib.cell_of_heap hbk]; rfl
 have hlt : b < w1.heap.size := (Array.getElem?_eq_some_iff.1 hbk).1
 have hsz := hb1.size
 have hun := Tryz.underlying44
 have hus := Tryz.underlying9
 have hlm : l.length + (nmB m).size ≤ maxLen := by unfold maxLen; omega
 have hlb : l.length + (nmB m).size ≤ 140737488355328 := by omega
 clear hms
 go_wp2_with (at_builtin; refine Lib.wpList_append_own_string _ rfl _ _ 44 9 rfl B 5 i0 hun hus hi0 hz0 hz1 hz2 _ _ _ rfl hown (nmB m) rfl ?c3 ?c4 ?c5 ?_)
 case c3 => exact hlm
 case c4 => exact hlb
 case c5 => omega
 intro v' w4 hown4 hgrow hnil
 have hb4 : w4.heap[b]? = some (.cells #[.pointer (some ⟨b, 0, none⟩), v] 154 (0, 0)) := by
  rw [hgrow.block b hlt (fun e => hne e.symm)]
  exact hbk
 have d0 : w4.cell? ⟨b, 0, none⟩ = some (.pointer (some ⟨b, 0, none⟩)) := by rw [Lib.cell_of_heap hb4]; rfl
 have d1 : w4.cell? ⟨b, 1, none⟩ = some v := by rw [Lib.cell_of_heap hb4]; rfl
 have f1 : w4.frozen? ⟨b, 1, none⟩ = false := Lib.frozen_of_heap hb4 1
 obtain ⟨va, vn, vc, rfl⟩ : ∃ a n c, v' = .slice a n c := by
  rcases hown4.2 with ⟨hv, _⟩ | ⟨g, cap, cur, hv, _⟩
  ·exact ⟨_, _, _, hv⟩
  ·exact ⟨_, _, _, hv⟩
 go_wp2_with fail
 go_ret2
 refine ⟨⟨_, rfl⟩, BW.put hB (Or.inr rfl) hb4 (by rw [byteCells_app, List.length_append, ← strCells_nmB m]; simpa [nmB_size] using hown4) ?_, ?_, (hk1.grown hgrow (Lib.ownsRowF_kind (World.ownsRowF_of hown))).setCell ⟨b, 1, none⟩ rfl _⟩
 ·intro hn
  have h1 := List.append_eq_nil_iff.1 hn
  exact hnil.2 ⟨h0 h1.1, by rw [h1.2]; rfl⟩
 ·exact (hb1.grown hgrow (by omega) (fun k hk => (hown.lt k hk).1)).setCell (p := ⟨b, 1, none⟩) hB _
set_option maxHeartbeats 2000000 in
set_option maxRecDepth 100000 in
theorem wstring_nil (B b : Nat) (p : Value) (w : World) (hbk : w.heap[b]? = some (.cells #[p, .slice none 0 0] 154 (0, 0))) :
    Calls Tryz.prog 52 #[.pointer (some ⟨b, 0, none⟩)] w fun e w' => e = .returned (.string (nmB [])) ∧ Below B w w' := by
 have hUS : ∀ (W : World) (q : Option Addr), (Builtin.unsafeString_ #[172, 3] 9 #[.pointer q, .int .i64 0]).run Tryz.prog W = .ok (.string .empty) W := fun W q => Lib.run_unsafeString_none W _ _ _ q
 have c1 : w.drew.cell? ⟨b, 1, none⟩ = some (.slice none 0 0) := by
  have : w.drew.heap[b]? = some (.cells #[p, .slice none 0 0] 154 (0, 0)) := hbk
  rw [Lib.cell_of_heap this]; rfl
 have hSD : (Builtin.unsafeSliceData_ #[44] 172 #[.slice none 0 0]).run Tryz.prog w.drew = .ok (.pointer none) w.drew := rfl
 go_enter Tryz.func52, Tryz.ntmps52
 go_wp2_with fail
 go_region
 all_goals (go_wp2_with fail; go_ret; exact ⟨rfl, Below.drew (Below.refl B w)⟩)
set_option maxHeartbeats 2000000 in
set_option maxRecDepth 100000 in
theorem wstring_some (B b : Nat) (l : List UInt8) (w : World) (h : BW w B b l) (h0 : l ≠ []) :
    Calls Tryz.prog 52 #[.pointer (some ⟨b, 0, none⟩)] w fun e w' => e = .returned (.string (nmB l)) ∧ Below B w w' := by
 obtain ⟨hB, p, v, hp, hbk, hown, hne, _⟩ := h
 have hl0 : l.length ≠ 0 := by simpa using h0
 obtain ⟨g, cap, cur, rfl, hbg, hg, hnc, hcm, hcs, htake⟩ : ∃ g cap cur, v = .slice (some ⟨g, 0, none⟩) l.length cap ∧ B ≤ g ∧ w.heap[g]? = some (.cells cur 5 (0, 0)) ∧ l.length ≤ cap ∧ cap ≤ maxLen ∧ cur.size = cap * 1 ∧ cur.toList.take (l.length * 1) = Lib.byteCells l := by
  rcases hown.2 with ⟨_, hz⟩ | ⟨g, cap, cur, hv, r⟩
  ·exact absurd hz hl0
  ·exact ⟨g, cap, cur, hv, r⟩
 have c1 : w.drew.cell? ⟨b, 1, none⟩ = some (.slice (some ⟨g, 0, none⟩) l.length cap) := by
  have : w.drew.heap[b]? = some (.cells #[p, .slice (some ⟨g, 0, none⟩) l.length cap] 154 (0, 0)) := hbk
  rw [Lib.cell_of_heap this]; rfl
 have hSD : (Builtin.unsafeSliceData_ #[44] 172 #[.slice (some ⟨g, 0, none⟩) l.length cap]).run Tryz.prog w.drew = .ok (.pointer (some ⟨g, 0, none⟩)) w.drew :=
  Lib.run_unsafeSliceData_row _ _ _ _ _ _ (by omega)
 have hUS : (Builtin.unsafeString_ #[172, 3] 9 #[.pointer (some ⟨g, 0, none⟩), .int .i64 l.length]).run Tryz.prog w.drew = .ok (.string (nmB l)) (w.drew.freeze ⟨g, 0, none⟩ l.length) := by
  refine Lib.run_unsafeString_row w.drew 172 3 9 5 Tryz.underlying172 (by kernel_rfl) g cur.size (by have hg' : w.drew.heap[g]? = some (.cells cur 5 (0, 0)) := hg; simp [World.shape?, hg']) l h0 (by omega) (by unfold maxLen at hcm; omega) ?_
  intro j x hx
  have := hown.cells (g := g) rfl j (.int .u8 x.toNat) (by simp [Lib.byteCells, hx])
  exact this
 go_enter Tryz.func52, Tryz.ntmps52
 go_wp2_with fail
 go_region
 all_goals (go_wp2_with fail; go_ret; exact ⟨rfl, Lib.below_freeze (Below.drew (Below.refl B w)) (p := ⟨g, 0, none⟩) hbg _⟩)
theorem wstring_any (B b : Nat) (l : List UInt8) (w : World) (h : BW w B b l) :
    Calls Tryz.prog 52 #[.pointer (some ⟨b, 0, none⟩)] w fun e w' => e = .returned (.string (nmB l)) ∧ Below B w w' := by
 by_cases h0 : l = []
 ·subst h0
  obtain ⟨hB, p, v, hp, hbk, hown, hne, hv⟩ := h
  rw [hv rfl] at hbk
  exact wstring_nil B b p w hbk
 ·exact wstring_some B b l w h h0
set_option maxHeartbeats 1000000 in
set_option maxRecDepth 100000 in
theorem wlen_any (B b : Nat) (l : List UInt8) (w : World) (h : BW w B b l) :
    Calls Tryz.prog 129 #[.pointer (some ⟨b, 0, none⟩)] w fun e w' => e = .returned (.int .i64 l.length) ∧ w' = w := by
 obtain ⟨hB, p, v, hp, hb, ho, hn, h0⟩ := h
 obtain ⟨va, vn, vc, rfl⟩ := ownsRow_sl' ho
 have hvn : vn = l.length := ownsRow_len' ho
 subst hvn
 have c1 : w.cell? ⟨b, 1, none⟩ = some (.slice va l.length vc) := by rw [Lib.cell_of_heap hb]; rfl
 go_enter Tryz.func129, Tryz.ntmps129
 go_wp2_with fail
 go_ret
 exact ⟨rfl, rfl⟩
end Go.Proofs.YtnfojonmohijpabGreatDoor
namespace Go.Proofs.YtnfojonmohijpabGreatDoor
open Go.RowKit
theorem eq_nmB {b : ByteArray} {l : List UInt8} (h : b.data.toList = l) : b = nmB l := by
 subst h
 cases b
 simp [nmB]
def digsA : ByteArray := ⟨#[48, 49, 50, 51, 52, 53, 54, 55, 56, 57, 97, 98, 99, 100, 101, 102, 103, 104, 105, 106, 107, 108, 109, 110, 111, 112, 113, 114, 115, 116, 117, 118, 119, 120, 121, 122]⟩
def pairs : ByteArray := ⟨#[48, 48, 48, 49, 48, 50, 48, 51, 48, 52, 48, 53, 48, 54, 48, 55, 48, 56, 48, 57, 49, 48, 49, 49, 49, 50, 49, 51, 49, 52, 49, 53, 49, 54, 49, 55, 49, 56, 49, 57, 50, 48, 50, 49, 50, 50, 50, 51, 50, 52, 50, 53, 50, 54, 50, 55, 50, 56, 50, 57, 51, 48, 51, 49, 51, 50, 51, 51, 51, 52, 51, 53, 51, 54, 51, 55, 51, 56, 51, 57, 52, 48, 52, 49, 52, 50, 52, 51, 52, 52, 52, 53, 52, 54, 52, 55, 52, 56, 52, 57, 53, 48, 53, 49, 53, 50, 53, 51, 53, 52, 53, 53, 53, 54, 53, 55, 53, 56, 53, 57, 54, 48, 54, 49, 54, 50, 54, 51, 54, 52, 54, 53, 54, 54, 54, 55, 54, 56, 54, 57, 55, 48, 55, 49, 55, 50, 55, 51, 55, 52, 55, 53, 55, 54, 55, 55, 55, 56, 55, 57, 56, 48, 56, 49, 56, 50, 56, 51, 56, 52, 56, 53, 56, 54, 56, 55, 56, 56, 56, 57, 57, 48, 57, 49, 57, 50, 57, 51, 57, 52, 57, 53, 57, 54, 57, 55, 57, 56, 57, 57]⟩
theorem digs_at (n : Nat) (h : n < 10) : digsA.extract n (n + 1) = nmB (decT n) := by
 have := of_decide_eq_true (p := ∀ i : Fin 10, (digsA.extract i.val (i.val + 1)).data.toList = decT i.val) (by kernel_rfl) ⟨n, h⟩
 exact eq_nmB this
theorem pairs_at (n : Nat) (h : 10 ≤ n) (h2 : n < 100) : pairs.extract (n * 2) (n * 2 + 2) = nmB (decT n) := by
 have := of_decide_eq_true (p := ∀ i : Fin 90, (pairs.extract ((i.val + 10) * 2) ((i.val + 10) * 2 + 2)).data.toList = decT (i.val + 10)) (by kernel_rfl) ⟨n - 10, by omega⟩
 simp only [Nat.sub_add_cancel h] at this
 exact eq_nmB this
set_option maxRecDepth 100000 in
set_option maxHeartbeats 1000000 in
theorem small100 (n : Nat) (hn : n < 100) (w : World) : Calls Tryz.prog 142 #[.int .i64 (n : Int)] w fun e w' => e = .returned (.string (nmB (decT n))) ∧ Keeps [] w w' := by
 have hn0 : (0 : Int) ≤ (n : Int) := by omega
 by_cases h : n < 10
 ·have hlt : (n : Int) < 10 := by omega
  obtain ⟨m, HM⟩ : ∃ m : Nat, Hid (m = n + 1) := ⟨_, rfl⟩
  have hw : IntKind.i64.wrap ((n : Int) + 1) = (m : Int) := by have := HM.out; rw [wrap_small (by omega) (by omega)]; omega
  have h1 : (n : Int) ≤ (m : Int) := by have := HM.out; omega
  have h2 : (m : Int) ≤ 36 := by have := HM.out; omega
  have h3 : (0 : Int) ≤ (m : Int) := by omega
  go_enter Tryz.func142, Tryz.ntmps142
  go_wp2_with fail
  go_ret
  exact ⟨by rw [HM.out]; exact congrArg (fun z => Ending.returned (Value.string z)) (digs_at n h), Keeps.refl [] w⟩
 ·have hlt : ¬ (n : Int) < 10 := by omega
  obtain ⟨m, HM⟩ : ∃ m : Nat, Hid (m = n * 2) := ⟨_, rfl⟩
  obtain ⟨m2, HM2⟩ : ∃ m2 : Nat, Hid (m2 = m + 2) := ⟨_, rfl⟩
  have hw : IntKind.i64.wrap ((n : Int) * 2) = (m : Int) := by have := HM.out; rw [wrap_small (by omega) (by omega)]; omega
  have hw2 : IntKind.i64.wrap ((m : Int) + 2) = (m2 : Int) := by have := HM.out; have := HM2.out; rw [wrap_small (by omega) (by omega)]; omega
  have h1 : (m : Int) ≤ (m2 : Int) := by have := HM2.out; omega
  have h2 : (m2 : Int) ≤ 200 := by have := HM2.out; have := HM.out; omega
  have h3 : (0 : Int) ≤ (m : Int) := by omega
  have h4 : (0 : Int) ≤ (m2 : Int) := by omega
  go_enter Tryz.func142, Tryz.ntmps142
  go_wp2_with fail
  go_ret
  exact ⟨by rw [HM2.out, HM.out]; exact congrArg (fun z => Ending.returned (Value.string z)) (pairs_at n (by omega) hn), Keeps.refl [] w⟩
set_option maxRecDepth 100000 in
set_option maxHeartbeats 1000000 in
theorem fmt100 (n : Nat) (hn : n < 100) (w : World) : Calls Tryz.prog 120 #[.int .i64 (n : Int), .int .i64 10] w fun e w' => e = .returned (.string (nmB (decT n))) ∧ Keeps [] w w' := by
 have h0 : (0 : Int) ≤ (n : Int) := by omega
 have h1 : (n : Int) < 100 := by omega
 go_enter Tryz.func120, Tryz.ntmps120
 go_wp2_with (first | (go_at_call 142; refine (small100 n hn _).mono ?_; rintro e w1 ⟨rfl, hk1⟩))
 go_ret
 exact ⟨rfl, hk1⟩
set_option maxRecDepth 100000 in
set_option maxHeartbeats 1000000 in
theorem iitoa100 (n : Nat) (hn : n < 100) (w : World) : Calls Tryz.prog 89 #[.int .i64 (n : Int)] w fun e w' => e = .returned (.string (nmB (decT n))) ∧ Keeps [] w w' := by
 go_enter Tryz.func89, Tryz.ntmps89
 go_wp2_with (first | (go_at_call 120; refine (fmt100 n hn _).mono ?_; rintro e w1 ⟨rfl, hk1⟩))
 go_ret
 exact ⟨rfl, hk1⟩
set_option maxRecDepth 100000 in
set_option maxHeartbeats 1000000 in
theorem itoa100 (n : Nat) (hn : n < 100) (w : World) : Calls Tryz.prog 51 #[.int .i64 (n : Int)] w fun e w' => e = .returned (.string (nmB (decT n))) ∧ Keeps [] w w' := by
 go_enter Tryz.func51, Tryz.ntmps51
 go_wp2_with (first | (go_at_call 89; refine (iitoa100 n hn _).mono ?_; rintro e w1 ⟨rfl, hk1⟩))
 go_ret
 exact ⟨rfl, hk1⟩
end Go.Proofs.YtnfojonmohijpabGreatDoor
