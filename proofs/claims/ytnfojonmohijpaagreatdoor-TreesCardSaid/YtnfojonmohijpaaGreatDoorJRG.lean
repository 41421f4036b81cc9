/-
  DERIVED. The contract of the reference's 'class'. Conditions: the pattern is at most 60 bytes long, nothing was wrong so far.
-/
import Derived.Test.YtnfojonmohijpaaGreatDoorJRF
import Derived.Lib.Strings
set_option linter.unusedSimpArgs false
set_option linter.unusedVariables false
namespace Go.Proofs.YtnfojonmohijpaaGreatDoor
open Go.RowKit
def strOf : Value → ByteArray | .string s => s | _ => ByteArray.empty
def fit1 (word : List UInt8) (c : Int) (n : List UInt8) : Bool := decide (word.length < n.length) && decide (n.take word.length = word) && decide (((n.getD word.length 0).toNat : Int) = c)
def fitTo (word : List UInt8) (c : Int) (k : Nat) : Bool := (names.take k).any (fit1 word c)
theorem fitTo_succ (word : List UInt8) (c : Int) {k : Nat} (h : k < 7) : fitTo word c (k + 1) = (fitTo word c k || fit1 word c (nm k)) := by
 unfold fitTo
 rw [List.take_succ_eq_append_getElem (by rw [names_count]; exact h), nm_get h, List.any_append, List.any_cons, List.any_nil, Bool.or_false]
theorem fitTo_all (word : List UInt8) (c : Int) : fitTo word c 7 = goesOn word c := rfl
theorem fit1_none (word : List UInt8) (n : List UInt8) : fit1 word (-1) n = false := by
 unfold fit1
 have : ¬ (((n.getD word.length 0).toNat : Int) = -1) := by omega
 simp only [decide_eq_false this, Bool.and_false]
theorem goesOn_none (word : List UInt8) : goesOn word (-1) = false := by
 rw [← fitTo_all]
 unfold fitTo
 simp [fit1_none]
theorem eqX (a b : List UInt8) (n : Nat) : (((nmB a).extract 0 n).toList == (nmB b).toList) = decide (a.take n = b) := by
 rw [ByteArray.toList_eq, ByteArray.toList_eq, nmB_toList]
 have : ((nmB a).extract 0 n).data.toList = a.take n := by
  rw [Lib.extract_data]; simp [nmB]
 rw [this]
 by_cases h : a.take n = b
 ·subst h; simp
 ·simp [h]
def byteN (m n : Nat) : UInt8 := (nm m).getD n 0
theorem nmB_get (m n : Nat) (h : n < (nmB (nm m)).size) : (nmB (nm m))[n]'h = byteN m n := by
 have h' : n < (nm m).length := by rw [nmB_size] at h; exact h
 unfold byteN
 rw [List.getD_eq_getElem?_getD, List.getElem?_eq_getElem h', Option.getD_some]
 rfl
theorem get!_eq {s : ByteArray} {i : Nat} (h : i < s.size) : s.get! i = s[i] := by
 obtain ⟨a⟩ := s
 have h' : i < a.size := h
 show a[i]! = a[i]
 exact getElem!_pos a i h'
theorem nmB_snoc (word : List UInt8) (s : ByteArray) (i : Nat) (h : i < s.size) : nmB word ++ s.extract i (i + 1) = nmB (word ++ [s.get! i]) := by
 have hx : (s.extract i (i + 1)).data.toList = [s[i]] := by
  rw [Lib.extract_data, Nat.add_sub_cancel_left]
  have hl : i < s.data.toList.length := by simpa using h
  rw [List.drop_eq_getElem_cons hl, List.take_succ_cons, List.take_zero]
  rfl
 rw [get!_eq h]
 apply ByteArray.ext
 apply Array.ext'
 rw [ByteArray.data_append, Array.toList_append, hx]
 simp [nmB]
theorem goesOn_mem {word : List UInt8} {s : ByteArray} {i : Nat} (hg : goesOn word (at' s i) = true) (hw : word.length ≤ 4) (hi : i < s.size) : (word ++ [s.get! i]).length = 5 → word ++ [s.get! i] ∈ names := by
 intro h5
 have h4 : word.length = 4 := by simp at h5; omega
 unfold goesOn at hg
 simp only [List.any_eq_true, Bool.and_eq_true, decide_eq_true_eq] at hg
 obtain ⟨n, hn, ⟨hl, ht⟩, hc⟩ := hg
 have hl5 := names_len n hn
 rw [at'_lt hi] at hc
 have hc' : n.getD word.length 0 = s[i] := by
  apply UInt8.toNat_inj.1
  omega
 have : n = word ++ [s.get! i] := by
  rw [get!_eq hi, ← hc']
  rw [h4] at ht ⊢
  match n, hl5 with
  | [a, b, c, d, e], _ =>
   simp at ht
   rw [← ht]; rfl
 rw [← this]; exact hn
theorem class_end (p : PS) (i kk : Nat) (hb : p.bad < 0) (hcls : clsS p.s 6 [] (p.ix + 2) = .ok kk i) (hc : at' p.s (p.ix + 1) = 58) :
    (({ p with ix := i } : PS).needed 58).needed 93 = p.after (classS p.s p.ix) ∧ (∀ k j, classS p.s p.ix = .ok k j → k = kk) := by
 have e : classS p.s p.ix = (needS p.s 58 i).bind fun _ j => (needS p.s 93 j).bind fun _ j => .ok kk j := by
  unfold classS
  rw [show needS p.s 58 (p.ix + 1) = .ok () (p.ix + 2) from by simp [needS, hc]]
  simp only [R.bind, hcls]
 rw [e]
 by_cases h1 : at' p.s i = 58
 ·by_cases h2 : at' p.s (i + 1) = 93
  ·simp [needS, h1, h2, R.bind, PS.needed, PS.cur, hb, PS.after]
  ·simp [needS, h1, h2, R.bind, PS.needed, PS.cur, hb, PS.after, PS.failed]
 ·have : ¬ ((i : Int) < 0) := by omega
  simp [needS, h1, R.bind, PS.needed, PS.cur, hb, PS.after, PS.failed, this]
theorem cls_bad (p : PS) (i : Nat) (hcls : clsS p.s 6 [] (p.ix + 2) = .bad i) (hc : at' p.s (p.ix + 1) = 58) : classS p.s p.ix = .bad i := by
 unfold classS
 rw [show needS p.s 58 (p.ix + 1) = .ok () (p.ix + 2) from by simp [needS, hc]]
 simp only [R.bind, hcls]
set_option maxRecDepth 100000 in
set_option maxHeartbeats 2000000 in
theorem class_run (b h : Nat) (p : PS) (f : Nat → Bool) (w : World) (hp : PB w b p) (hh : HB w h f) (hb : p.bad < 0) (hs : p.s.size ≤ 60) (hk : p.ix < p.s.size)
    (hc : at' p.s (p.ix + 1) = 58) (hne : ¬ b = h) :
    Calls Tryz.prog 281 #[.pointer (some ⟨b, 0, none⟩), .slice (some ⟨h, 0, none⟩) 256 256] w fun e w' =>
     e = .returned (.tuple #[]) ∧ PB w' b (p.after (classS p.s p.ix)) ∧ (∃ f', HB w' h f' ∧ ∀ k j, classS p.s p.ix = .ok k j → ∀ n, n < 256 → f' n = (f n || clsB k n)) ∧ Keeps [b, h] w w' := by
 obtain ⟨c0, h6, h7, f6, f7⟩ := hp.main
 have hk0 : (0 : Int) ≤ (p.ix : Int) := by omega
 have hk6 : (p.ix : Int) ≤ 60 := by omega
 have hp0 := hp.setIx (p.ix + 1)
 have hlt : p.ix + 1 < p.s.size := at'_nn (by omega)
 have hnd : PS.needed { p with ix := p.ix + 1 } 58 = { p with ix := p.ix + 2 } := by simp [PS.needed, PS.cur, hb, hc]
 have NE := fun w1 h1 => need_any b { p with ix := p.ix + 1 } 58 w1 h1 (by omega) hs
 rw [hnd] at NE
 have HC : Hid (at' p.s (p.ix + 1) = 58) := hc
 clear hnd hc
 go_enter Tryz.func281, Tryz.ntmps281
 go_wp2_with (first | (go_at_call 227; refine (NE _ hp0).mono ?_; rintro e w1 ⟨rfl, hp1, hk1⟩))
 have hp2 : PB (w1.alloc (.cells ncells 9)) b { p with ix := p.ix + 2 } := hp1.keep ((Keeps.refl [] w1).alloc _) (by simp)
 have hkA : Keeps [b, h] w w1 := (((Keeps.refl [b] w).setCell (p := ⟨b, 7, none⟩) (by simp) _).trans hk1).mono (by simp)
 have hh1 : HB w1 h f := hh.keep (((Keeps.refl [b] w).setCell (p := ⟨b, 7, none⟩) (by simp) _).trans hk1) (by simp; omega)
 have hh2 : HB (w1.alloc (.cells ncells 9)) h f := hh1.keep ((Keeps.refl [] w1).alloc _) (by simp)
 have hg2 : NB (w1.alloc (.cells ncells 9)) w1.heap.size := heap_alloc_new w1 _
 have hbl := hp1.lt
 have hhl := hh1.lt
 generalize hgg : w1.heap.size = g at *
 have hk2 := hkA.alloc (.cells ncells 9)
 clear hp hh hp0 hp1 hh1 hk1 hkA c0 h6 h7 f6 f7 NE hgg
 go_loopw [5] (fun v wr => ∃ (word : List UInt8) (i : Nat), v = .string (nmB word) ∧ i ≤ p.s.size ∧ word.length ≤ 5 ∧ Hid (word.length = 5 → word ∈ names) ∧ Hid (clsS p.s 6 [] (p.ix + 2) = clsS p.s (6 - word.length) word i) ∧ PB wr b { p with ix := i } ∧ HB wr h f ∧ NB wr g ∧ Keeps [b, h] w wr) (fun v _ => 6 - (strOf v).size)
 case atStart => exact ⟨[], p.ix + 2, rfl, hlt, by simp, by intro h; simp at h, rfl, hp2, hh2, hg2, hk2⟩
 case round =>
  clear hp2 hh2 hg2 hk2
  obtain ⟨word, i, rfl, hi, hwl, hw5, hspec, hp3, hh3, hg3, hk3⟩ := hrel
  obtain ⟨c0, h6, h7, f6, f7⟩ := hp3.main
  go_wp2
  go_loop [6] (fun q => ∃ k : Nat, k ≤ 7 ∧ q = .int .i64 k ∧ Hid (∀ j, j < k → nm j ≠ word)) (fun q => 7 - (intOf q).toNat)
  case atStart => exact ⟨0, by omega, rfl, fun j hj => by omega⟩
  case round =>
   obtain ⟨k, hk7, rfl, hno⟩ := hrel
   by_cases hlt7 : k < 7
   ·have hcell := hg3.cell hlt7
    have hk7i : (k : Int) < 7 := by omega
    have hk7j : (0 : Int) ≤ (k : Int) := by omega
    by_cases heq : nm k = word
    ·have heqb : ((nmB (nm k)).toList == (nmB word).toList) = true := by rw [eqL]; simpa using heq
     have HE : Hid (nm k = word) := heq
     have HL : Hid (clsS p.s 6 [] (p.ix + 2) = .ok k i) := by
      show clsS p.s 6 [] (p.ix + 2) = _
      rw [hspec.out, ← heq, nm_len hlt7, show 6 - 5 = 1 from rfl, clsS, find_some hlt7 (by intro j hj; rw [heq]; exact hno.out j hj) rfl]
     clear heq
     go_wp2_with (first | (go_at_call 227; refine (need_any b _ 93 _ hp4 (by omega) (by rw [needed_s]; exact hs)).mono ?_; rintro e w5 ⟨rfl, hp5, hk5⟩) | (go_at_call 227; refine (need_any b _ 58 _ hp3 (by omega) hs).mono ?_; rintro e w4 ⟨rfl, hp4, hk4⟩))
     have hh5 : HB w5 h f := hh3.keep (hk4.trans hk5) (by simp; omega)
     have hk6 : Keeps [b, h] w w5 := hk3.trans ((hk4.trans hk5).mono (by simp))
     obtain ⟨E1, E2⟩ := class_end p i k hb HL.out HC.out
     have E3 : Hid (∀ k' j, classS p.s p.ix = .ok k' j → k' = k) := E2
     rw [E1] at hp5
     clear E1 E2 hp3 hh3 hg3 hk3 hp4 hk4 hk5 hcell c0 h6 h7 f6 f7 heqb
     subst HE
     go_loopw [7] (fun q wq => ∃ m : Nat, m ≤ 256 ∧ q = .int .i64 m ∧ PB wq b (p.after (classS p.s p.ix)) ∧ HB wq h (fun n => f n || (decide (n < m) && clsB k n)) ∧ Keeps [b, h] w wq) (fun q _ => 256 - (intOf q).toNat)
     case atStart => exact ⟨0, by omega, rfl, hp5, hh5.congr (by simp), hk6⟩
     case round =>
      clear hp5 hh5 hk6
      obtain ⟨m, hm, rfl, hp6, hh6, hk7'⟩ := hrel
      by_cases hm2 : m < 256
      ·have hcm := hh6.cell hm2
       have hfm := hh6.frozen m
       have hmi : (m : Int) < 256 := by omega
       have hmj : (0 : Int) ≤ (m : Int) := by omega
       have hcm' : wr.cell? ⟨h, m, none⟩ = some (.bool (f m)) := by rw [hcm]; simp
       clear hcm
       have fin : ∀ v : Bool, v = (f m || clsB k m) → HB (wr.setCell ⟨h, m, none⟩ (.bool v)) h (fun n => f n || (decide (n < m + 1) && clsB k n)) := by
        intro v hv
        refine (hh6.set m v).congr ?_
        intro n _
        by_cases e : n = m
        ·subst e; simp [hv]
        ·have : decide (n < m + 1) = decide (n < m) := by simp; omega
         simp [e, this]
       have FIN : Hid (∀ v : Bool, v = (f m || clsB k m) → HB (wr.setCell ⟨h, m, none⟩ (.bool v)) h (fun n => f n || (decide (n < m + 1) && clsB k n))) := fin
       clear fin
       cases hfv : f m
       all_goals
        go_wp2_with (go_at_call 296; refine (class_any k hlt7 m _).mono ?_; rintro e w' ⟨rfl, rfl⟩)
        go_roundw
        case rel => exact ⟨m + 1, by omega, by go_num, hp6.setOther (by simp; omega) _, FIN.out _ (by simp [hfv]), hk7'.setCell (by simp) _⟩
        case measure => simp [intOf]; omega
      ·have e : m = 256 := by omega
       subst e
       go_wp2_with fail
       refine bodyPost_ret (results_none rfl _ _ _) rfl ?_
       refine ⟨rfl, hp6, ⟨_, hh6, ?_⟩, hk7'⟩
       intro k' j hkj n hn
       rw [E3.out k' j hkj]
       simp [hn]
    ·have heqb : ((nmB (nm k)).toList == (nmB word).toList) = false := by rw [eqL]; simpa using heq
     have HE : Hid (∀ j, j < k + 1 → nm j ≠ word) := by
      intro j hj
      by_cases e : j = k
      ·subst e; exact heq
      ·exact hno.out j (by omega)
     clear heq
     go_wp2_with fail
     go_round
     case rel => exact ⟨k + 1, by omega, by go_num, HE⟩
     case measure => simp [intOf]; omega
   ·have e7 : k = 7 := by omega
    subst e7
    have hwl4 : word.length ≤ 4 := by
     by_cases h5 : word.length = 5
     ·obtain ⟨j, hj, e⟩ := List.mem_iff_getElem.1 (hw5.out h5)
      exact absurd ((nm_get hj).trans e) (hno.out j hj)
     ·omega
    have HN : Hid (clsS p.s 6 [] (p.ix + 2) = if goesOn word (at' p.s i) then clsS p.s (5 - word.length) (word ++ [p.s.get! i]) (i + 1) else .bad i) := by
     show clsS p.s 6 [] (p.ix + 2) = _
     rw [hspec.out, show 6 - word.length = (5 - word.length) + 1 from by omega, clsS, find_none hno.out]
    clear hspec hw5 hno
    cases hm : moreB { p with ix := i }
    ·have hge := moreB_false_good hm hb
     have hge' : p.s.size ≤ i := hge
     have HB' : Hid (classS p.s p.ix = .bad i) := cls_bad p i (by rw [HN.out, at'_ge hge', goesOn_none]; rfl) HC.out
     clear hge hge' HN
     go_wp2_with (first | (go_at_call 83; refine (more_any b _ _ hp3).mono ?_; rintro e w' ⟨rfl, n, rfl⟩))
     go_loop [9, 11] (fun u q => u = .bool false ∧ q = .int .i64 0) (fun _ _ => 0)
     case atStart => exact ⟨rfl, rfl⟩
     case round =>
      obtain ⟨rfl, rfl⟩ := hrel
      go_wp2_with (first | (go_at_call 84; refine (fail_good b { p with ix := i } _ (hp3.drewN n) hb).mono ?_; rintro e w' ⟨rfl, rfl⟩))
      refine bodyPost_ret (results_none rfl _ _ _) rfl ?_
      refine ⟨rfl, by rw [HB'.out]; exact (hp3.drewN n).setBad _, ⟨f, (hh3.drewN n).setOther (by simp; omega) _, ?_⟩, (hk3.drewN n).setCell (by simp) _⟩
      intro k j hkj
      rw [HB'.out] at hkj
      cases hkj
    ·have hlt' : i < p.s.size := (PS.cur_more hm).1
     go_wp2_with (first | (go_at_call 83; refine (more_any b _ _ hp3).mono ?_; rintro e w' ⟨rfl, n, rfl⟩))
     have ec := at'_lt hlt'
     have hii : (i : Int) < (p.s.size : Int) := by omega
     have hij : (0 : Int) ≤ (i : Int) := by omega
     have hik : (i : Int) ≤ 60 := by omega
     have hwi : (word.length : Int) ≤ 4 := by omega
     have hwj : (0 : Int) ≤ (word.length : Int) := by omega
     have hwk : (word.length : Int) < 5 := by omega
     have hsz2 := nmB_size word
     go_loopw [9, 11] (fun u q wq => ∃ m nn : Nat, m ≤ 7 ∧ q = .int .i64 m ∧ u = .bool (fitTo word (at' p.s i) m) ∧ wq = wr.drewN nn) (fun _ q _ => 7 - (intOf q).toNat)
     case atStart => exact ⟨0, n, by omega, rfl, rfl, rfl⟩
     case round =>
      obtain ⟨m, nn, hm7, rfl, rfl, rfl⟩ := hrel
      by_cases hlm : m < 7
      ·have hcm := hg3.cell hlm
       have hsz1 : (nmB (nm m)).size = 5 := by rw [nmB_size, nm_len hlm]
       have hmi : (m : Int) < 7 := by omega
       have hmj : (0 : Int) ≤ (m : Int) := by omega
       have hlw : word.length < (nm m).length := by rw [nm_len hlm]; omega
       have hng : ∀ hx, (nmB (nm m))[word.length]'hx = byteN m word.length := fun hx => nmB_get _ _ hx
       by_cases hpre : (nm m).take word.length = word
       ·have hpb : (((nmB (nm m)).extract 0 word.length).toList == (nmB word).toList) = true := by rw [eqX]; simpa using hpre
        by_cases hce : ((byteN m word.length).toNat : Int) = (p.s[i].toNat : Int)
        ·have hcb : (((byteN m word.length).toNat : Int) == (p.s[i].toNat : Int)) = true := by simpa using hce
         have HF : Hid (fitTo word (at' p.s i) (m + 1) = true) := by
          show fitTo word (at' p.s i) (m + 1) = true
          rw [fitTo_succ word _ hlm, ec]
          have : fit1 word (p.s[i].toNat : Int) (nm m) = true := by
           unfold fit1
           rw [decide_eq_true hlw, decide_eq_true hpre, decide_eq_true (show (((nm m).getD word.length 0).toNat : Int) = _ from hce)]; rfl
          rw [this]; simp
         clear hce hpre
         go_wp2_with fail
         go_quiet (fail)
         go_wp2_with fail
         go_roundw
         case rel => exact ⟨m + 1, _, by omega, by go_num, by rw [HF.out], rfl⟩
         case measure => simp [intOf]; omega
        ·have hcb : (((byteN m word.length).toNat : Int) == (p.s[i].toNat : Int)) = false := by simpa using hce
         have HF : Hid (fitTo word (at' p.s i) (m + 1) = fitTo word (at' p.s i) m) := by
          show fitTo word (at' p.s i) (m + 1) = fitTo word (at' p.s i) m
          rw [fitTo_succ word _ hlm, ec]
          have : fit1 word (p.s[i].toNat : Int) (nm m) = false := by
           unfold fit1
           rw [decide_eq_false (show ¬ (((nm m).getD word.length 0).toNat : Int) = _ from hce)]; simp
          rw [this]; simp
         clear hce hpre
         go_wp2_with fail
         go_quiet (fail)
         go_wp2_with fail
         go_roundw
         case rel => exact ⟨m + 1, _, by omega, by go_num, by rw [HF.out], rfl⟩
         case measure => simp [intOf]; omega
       ·have hpb : (((nmB (nm m)).extract 0 word.length).toList == (nmB word).toList) = false := by rw [eqX]; simpa using hpre
        have HF : Hid (fitTo word (at' p.s i) (m + 1) = fitTo word (at' p.s i) m) := by
         show fitTo word (at' p.s i) (m + 1) = fitTo word (at' p.s i) m
         rw [fitTo_succ word _ hlm]
         have : fit1 word (at' p.s i) (nm m) = false := by
          unfold fit1
          rw [decide_eq_false hpre]; simp
         rw [this]; simp
        clear hpre
        go_wp2_with fail
        go_quiet (fail)
        go_wp2_with fail
        go_roundw
        case rel => exact ⟨m + 1, _, by omega, by go_num, by rw [HF.out], rfl⟩
        case measure => simp [intOf]; omega
      ·have e7 : m = 7 := by omega
       subst e7
       rw [fitTo_all]
       cases hgo : goesOn word (at' p.s i)
       ·have HB' : Hid (classS p.s p.ix = .bad i) := cls_bad p i (by rw [HN.out, hgo]; rfl) HC.out
        clear hgo HN
        go_wp2_with (first | (go_at_call 84; refine (fail_good b { p with ix := i } _ (hp3.drewN nn) hb).mono ?_; rintro e w' ⟨rfl, rfl⟩))
        refine bodyPost_ret (results_none rfl _ _ _) rfl ?_
        refine ⟨rfl, by rw [HB'.out]; exact (hp3.drewN nn).setBad _, ⟨f, (hh3.drewN nn).setOther (by simp; omega) _, ?_⟩, (hk3.drewN nn).setCell (by simp) _⟩
        intro k j hkj
        rw [HB'.out] at hkj
        cases hkj
       ·have HW := goesOn_mem hgo (by omega) hlt'
        have HS : Hid (clsS p.s 6 [] (p.ix + 2) = clsS p.s (6 - (word ++ [p.s.get! i]).length) (word ++ [p.s.get! i]) (i + 1)) := by
         show clsS p.s 6 [] (p.ix + 2) = _
         rw [HN.out, hgo, if_pos rfl, List.length_append, List.length_singleton]
         congr 1; omega
        have HA : Hid (nmB word ++ p.s.extract i (i + 1) = nmB (word ++ [p.s.get! i])) := nmB_snoc word p.s i hlt'
        have HW' : Hid ((word ++ [p.s.get! i]).length = 5 → word ++ [p.s.get! i] ∈ names) := HW
        clear hgo HN HW
        go_wp2_with fail
        go_quiet (fail)
        go_wp2_with fail
        go_roundw
        case rel => exact ⟨word ++ [p.s.get! i], i + 1, by rw [← HA.out], by omega, by simp; omega, HW', HS, (hp3.drewN _).setIx (i + 1), (hh3.drewN _).setOther (by simp; omega) _, (hg3.drewN _).setOther (by simp; omega) _, (hk3.drewN _).setCell (by simp) _⟩
        case measure => simp only [strOf]; rw [HA.out, nmB_size, nmB_size, List.length_append]; simp; omega
end Go.Proofs.YtnfojonmohijpaaGreatDoor
namespace Go.Proofs.YtnfojonmohijpaaGreatDoor
open Go.RowKit
set_option maxRecDepth 100000 in
set_option maxHeartbeats 1000000 in
theorem class_all (b h : Nat) (p : PS) (f : Nat → Bool) (w : World) (hp : PB w b p) (hh : HB w h f) (hb : p.bad < 0) (hs : p.s.size ≤ 60) (hk : p.ix < p.s.size)
    (hne : ¬ b = h) :
    Calls Tryz.prog 281 #[.pointer (some ⟨b, 0, none⟩), .slice (some ⟨h, 0, none⟩) 256 256] w fun e w' =>
     e = .returned (.tuple #[]) ∧ PB w' b (p.after (classS p.s p.ix)) ∧ (∃ f', HB w' h f' ∧ ∀ k j, classS p.s p.ix = .ok k j → ∀ n, n < 256 → f' n = (f n || clsB k n)) ∧ Keeps [b, h] w w' := by
 by_cases hc : at' p.s (p.ix + 1) = 58
 ·exact class_run b h p f w hp hh hb hs hk hc hne
 ·obtain ⟨c0, h6, h7, f6, f7⟩ := hp.main
  have hk0 : (0 : Int) ≤ (p.ix : Int) := by omega
  have hk6 : (p.ix : Int) ≤ 60 := by omega
  have hp0 := hp.setIx (p.ix + 1)
  have hnd : PS.needed { p with ix := p.ix + 1 } 58 = { p with bad := ((p.ix + 1 : Nat) : Int), ix := p.ix + 1 } := by simp [PS.needed, PS.failed, PS.cur, hb, hc]
  have NE := fun w1 h1 => need_any b { p with ix := p.ix + 1 } 58 w1 h1 (by omega) hs
  rw [hnd] at NE
  have HB' : Hid (classS p.s p.ix = .bad (p.ix + 1)) := by
   show classS p.s p.ix = _
   unfold classS
   rw [show needS p.s 58 (p.ix + 1) = .bad (p.ix + 1) from by simp [needS, hc]]
   rfl
  clear hnd hc
  go_enter Tryz.func281, Tryz.ntmps281
  go_wp2_with (first | (go_at_call 227; refine (NE _ hp0).mono ?_; rintro e w1 ⟨rfl, hp1, hk1⟩))
  have hp2 : PB (w1.alloc (.cells ncells 9)) b { p with bad := ((p.ix + 1 : Nat) : Int), ix := p.ix + 1 } := hp1.keep ((Keeps.refl [] w1).alloc _) (by simp)
  have hkA := ((Keeps.refl [b] w).setCell (p := ⟨b, 7, none⟩) (by simp) _).trans hk1
  have hkB : Keeps [b, h] w w1 := hkA.mono (by simp)
  have hh1 : HB w1 h f := hh.keep hkA (by simp; omega)
  have hh2 : HB (w1.alloc (.cells ncells 9)) h f := hh1.keep ((Keeps.refl [] w1).alloc _) (by simp)
  have hk2 := hkB.alloc (.cells ncells 9)
  clear hp hh hp0 hp1 hh1 hk1 hkA hkB c0 h6 h7 f6 f7 NE
  go_loopw [5] (fun _ wr => PB wr b { p with bad := ((p.ix + 1 : Nat) : Int), ix := p.ix + 1 } ∧ HB wr h f ∧ Keeps [b, h] w wr) (fun _ _ => 0)
  case atStart => exact ⟨hp2, hh2, hk2⟩
  case round =>
   clear hp2 hh2 hk2
   obtain ⟨hp2, hh2, hk2⟩ := hrel
   obtain ⟨d0, d6, d7, _, _⟩ := hp2.main
   have hnn : ¬ ((p.ix + 1 : Nat) : Int) < 0 := by omega
   go_wp2_with fail
   go_end0
   refine ⟨rfl, by rw [HB'.out]; exact hp2, ⟨f, hh2, ?_⟩, hk2⟩
   intro k j hkj
   rw [HB'.out] at hkj
   cases hkj
end Go.Proofs.YtnfojonmohijpaaGreatDoor
namespace Go.Proofs.YtnfojonmohijpaaGreatDoor
open Go.RowKit
def cellInt (w : World) (b o : Nat) : Int := match w.cell? ⟨b, o, none⟩ with
 | some v => intOf v
 | none => 0
def muP (w : World) (b : Nat) : Nat := if 0 ≤ cellInt w b 6 then 0 else 62 - (cellInt w b 7).toNat
theorem muP_eq {w : World} {b : Nat} {p : PS} (hp : PB w b p) : muP w b = if 0 ≤ p.bad then 0 else 62 - p.ix := by
 obtain ⟨_, h6, h7, _, _⟩ := hp.main
 simp [muP, cellInt, h6, h7, intOf]
def SInv (s : ByteArray) (j0 : Nat) (fst : Bool) (i : Nat) (f : Nat → Bool) : Prop :=
 (fst = true ∧ i = j0 ∧ f = fun _ => false) ∨ (fst = false ∧ ∀ q, SetL s f i q → SetU s j0 q)
def SRel (p : PS) (b h j0 : Nat) (w : World) (fst : Bool) (wr : World) : Prop :=
 Keeps [b, h] w wr ∧
 ((∃ (i : Nat) (f : Nat → Bool), PB wr b { p with ix := i } ∧ HB wr h f ∧ i ≤ p.s.size ∧ SInv p.s j0 fst i f) ∨
  (∃ (j : Nat) (f : Nat → Bool), PB wr b { p with bad := (j : Int), ix := j } ∧ HB wr h f ∧ SetU p.s j0 (.bad j)))
theorem SRel.next {p : PS} {b h j0 i : Nat} {w w9 : World} {fst : Bool} {f : Nat → Bool} (hin : SInv p.s j0 fst i f) (h93 : fst = true ∨ at' p.s i ≠ 93)
    (hp : PB w9 b (({ p with ix := i } : PS).after (rangeS p.s i))) (hh : ∃ f', HB w9 h f' ∧ ∀ r j, rangeS p.s i = .ok r j → ∀ n, n < 256 → f' n = (f n || r n)) (hk : Keeps [b, h] w w9) :
    SRel p b h j0 w false w9 := by
 obtain ⟨f', hh, hf⟩ := hh
 refine ⟨hk, ?_⟩
 cases hr : rangeS p.s i with
 | ok r j =>
  left
  rw [hr] at hp
  have hj := rangeS_ok hr
  rcases hin with ⟨e1, e2, e3⟩ | ⟨e1, e2⟩
  ·subst e1 e2 e3
   exact ⟨j, r, hp, hh.congr fun n hn => by rw [hf r j hr n hn]; rfl, hj.2, Or.inr ⟨rfl, fun q hq => .go r _ j q hr hq⟩⟩
  ·refine ⟨j, fun n => f n || r n, hp, hh.congr fun n hn => hf r j hr n hn, hj.2, Or.inr ⟨rfl, fun q hq => e2 q ?_⟩⟩
   rcases h93 with h | h
   ·rw [e1] at h; cases h
   ·exact .more f r i j q h hr hq
 | bad j =>
  right
  rw [hr] at hp
  refine ⟨j, f', hp, hh, ?_⟩
  rcases hin with ⟨e1, e2, e3⟩ | ⟨e1, e2⟩
  ·subst e1 e2 e3
   exact .bad _ j hr
  ·apply e2
   rcases h93 with h | h
   ·rw [e1] at h; cases h
   ·exact .bad f i j h hr
theorem SRel.mu {p : PS} {b h i : Nat} {wr w9 : World} {f : Nat → Bool} (hp : PB wr b { p with ix := i }) (hb : p.bad < 0) (hs : p.s.size ≤ 60) (hi : i ≤ p.s.size)
    (hp9 : PB w9 b (({ p with ix := i } : PS).after (rangeS p.s i))) : muP w9 b < muP wr b := by
 rw [muP_eq hp, muP_eq hp9]
 have hb' : ¬ 0 ≤ p.bad := by omega
 cases hr : rangeS p.s i with
 | ok r j =>
  have hj := rangeS_ok hr
  simp [PS.after, hb']
  omega
 | bad j =>
  simp [PS.after, hb']
  omega
end Go.Proofs.YtnfojonmohijpaaGreatDoor
