/-
  DERIVED. The contract of the reference's 'set'. Conditions: the pattern is at most 60 bytes long, nothing was wrong so far, the set's cells are all false.
-/
import Derived.Test.YtnfojonmohijpaaGreatDoorJRG
set_option linter.unusedSimpArgs false
set_option linter.unusedVariables false
namespace Go.Proofs.YtnfojonmohijpaaGreatDoor
open Go.RowKit
theorem after_map {α β : Type} (p : PS) (r : R α) (g : α → β) : p.after (r.map g) = p.after r := by cases r <;> rfl
theorem after_bindok {α β : Type} (p : PS) (r : R α) (g : α → β) : p.after (r.bind fun a j => .ok (g a) j) = p.after r := by cases r <;> rfl
theorem flip_step {w : World} {h m : Nat} {f : Nat → Bool} (H : HB w h (fun n => if n < m then !f n else f n)) : HB (w.setCell ⟨h, m, none⟩ (.bool (!f m))) h (fun n => if n < m + 1 then !f n else f n) := by
 refine (H.set m (!f m)).congr ?_
 intro n _
 by_cases e : n = m
 ·subst e; simp
 ·have : (n < m + 1) = (n < m) := by simp; omega
  simp [e, this]
theorem stretch_none (f : Nat → Bool) (a : Nat) : ∀ n, n < 256 → f n = (f n || (decide (a ≤ n) && decide (n < a))) := by
 intro n _
 have : (decide (a ≤ n) && decide (n < a)) = false := by simp
 rw [this]; simp
theorem stretch_step {w : World} {h m a : Nat} {f : Nat → Bool} (H : HB w h (fun n => f n || (decide (a ≤ n) && decide (n < m)))) (ha : a ≤ m) : HB (w.setCell ⟨h, m, none⟩ (.bool true)) h (fun n => f n || (decide (a ≤ n) && decide (n < m + 1))) := by
 refine (H.set m true).congr ?_
 intro n _
 by_cases e : n = m
 ·subst e; simp [ha]
 ·have : decide (n < m + 1) = decide (n < m) := by simp; omega
  simp [e, this]
theorem stretch_end {m a c k : Nat} {f : Nat → Bool} (ha : a ≤ m) (hm : m ≤ c + 1 ∨ m = a) (hc : c < m) : ∀ r j, (R.ok (stretch a c) k : R (Nat → Bool)) = .ok r j → ∀ n, n < 256 → (f n || (decide (a ≤ n) && decide (n < m))) = (f n || r n) := by
 intro r j e n _
 cases e
 congr 1
 unfold stretch
 have e1 : decide (a ≤ n) = decide ((a : Int) ≤ (n : Int)) := by simp
 by_cases hm' : m ≤ c + 1
 ·have e2 : decide (n < m) = decide ((n : Int) ≤ (c : Int)) := by simp; omega
  rw [e1, e2]
 ·have hma : m = a := by omega
  subst hma
  by_cases hn : m ≤ n
  ·have h1 : ¬ n < m := by omega
   have h2 : ¬ (n : Int) ≤ (c : Int) := by omega
   simp [h1, h2]
  ·have h1 : ¬ (m : Int) ≤ (n : Int) := by omega
   simp [hn, h1]
theorem nat_of {v : Int} (h0 : 0 ≤ v) (h1 : v ≤ 255) : ∃ a : Nat, v = a ∧ a ≤ 255 := ⟨v.toNat, by omega, by omega⟩
set_option maxRecDepth 100000 in
set_option maxHeartbeats 4000000 in
theorem set_any (b h : Nat) (p : PS) (w : World) (hp : PB w b p) (hh : HB w h (fun _ => false)) (hb : p.bad < 0) (hs : p.s.size ≤ 60) (hpi : p.ix ≤ p.s.size) (hne : ¬ b = h) :
    Calls Tryz.prog 262 #[.pointer (some ⟨b, 0, none⟩), .slice (some ⟨h, 0, none⟩) 256 256] w fun e w' =>
     e = .returned (.tuple #[]) ∧ ∃ q, SetR p.s p.ix q ∧ PB w' b (p.after q) ∧ (∃ f', HB w' h f' ∧ ∀ f j, q = .ok f j → ∀ n, n < 256 → f' n = f n) ∧ Keeps [b, h] w w' := by
 obtain ⟨nt, j0, hd, htk, hj0, hfin⟩ : ∃ (nt : Bool) (j0 : Nat), decide (p.cur = 94) = nt ∧ p.took 94 = { p with ix := j0 } ∧ j0 ≤ p.s.size ∧ (∀ q', SetU p.s j0 q' → SetR p.s p.ix (q'.map (fun f n => f n != nt))) := by
  by_cases h94 : at' p.s p.ix = 94
  ·have hc : p.cur = 94 := by simp [PS.cur, hb, h94]
   refine ⟨true, p.ix + 1, by simp [hc], by simp [PS.took, hc], at'_nn (by omega), fun q' hq => Or.inl ⟨h94, q', hq, ?_⟩⟩
   congr 1; funext f n; simp
  ·have hc : ¬ p.cur = 94 := by simp [PS.cur, hb, h94]
   refine ⟨false, p.ix, by simp [hc], by simp [PS.took, hc], hpi, fun q' hq => Or.inr ⟨h94, ?_⟩⟩
   cases q' with
   | ok f j => simpa [R.map] using hq
   | bad j => exact hq
 go_enter Tryz.func262, Tryz.ntmps262
 go_wp2_with (first | (go_at_call 81; refine (take_any b p 94 _ hp (by omega) hs).mono ?_; rintro e w1 ⟨rfl, hp1, hk1⟩; rw [htk] at hp1))
 have hh1 : HB w1 h (fun _ => false) := hh.keep hk1 (by simp; omega)
 have hk2 : Keeps [b, h] w w1 := hk1.mono (by simp)
 clear hp hh hk1 htk
 go_loopw [5] (fun v wr => ∃ fst : Bool, v = .bool fst ∧ SRel p b h j0 w fst wr) (fun _ wr => muP wr b)
 case atStart => exact ⟨true, rfl, hk2, Or.inl ⟨j0, fun _ => false, hp1, hh1, hj0, Or.inl ⟨rfl, rfl, rfl⟩⟩⟩
 case round =>
  clear hp1 hh1 hk2
  obtain ⟨fst, rfl, hk3, hcase⟩ := hrel
  rcases hcase with ⟨i, f, hp3, hh3, hi, hin⟩ | ⟨j, f, hp3, hh3, hU⟩
  ·obtain ⟨c0, h6, h7, f6, f7⟩ := hp3.main
   have hcur : PS.cur { p with ix := i } = at' p.s i := by simp [PS.cur, hb]
   by_cases e93 : at' p.s i = 93 ∧ fst = false
   ·obtain ⟨e93, rfl⟩ := e93
    have hlt := at'_nn (s := p.s) (i := i) (by omega)
    have hd93 : decide (PS.cur { p with ix := i } = 93) = true := by rw [hcur]; simpa using e93
    have hij : (0 : Int) ≤ (i : Int) := by omega
    have hik : (i : Int) ≤ 60 := by omega
    have HU : Hid (SetU p.s j0 (.ok f (i + 1))) := by
     rcases hin with ⟨e, _⟩ | ⟨_, e⟩
     ·cases e
     ·exact e _ (.done f i e93)
    clear hin hcur e93
    go_wp2_with (first | (go_at_call 134; refine (next_any b _ 93 _ hp3 (by omega)).mono ?_; rintro e w' ⟨rfl, n1, rfl⟩))
    cases nt
    ·go_wp2_with fail
     go_loop [12] (fun q => q = .int .i64 0) (fun _ => 0)
     case atStart => rfl
     case round =>
      subst hrel
      go_wp2_with fail
      go_end0
      exact ⟨rfl, _, hfin (.ok f (i + 1)) HU.out, by rw [after_map]; exact ((hp3.drewN n1).setIx (i + 1)), ⟨f, ((hh3.drewN n1).setOther (a := ⟨b, 7, none⟩) (by simp; omega) _), by intro f' j' e n hn; cases e; simp⟩, ((hk3.drewN n1).setCell (p := ⟨b, 7, none⟩) (by simp) _)⟩
    ·go_wp2_with fail
     go_loopw [12] (fun q wq => ∃ m : Nat, m ≤ 256 ∧ q = .int .i64 m ∧ PB wq b { p with ix := i + 1 } ∧ HB wq h (fun n => if n < m then !f n else f n) ∧ Keeps [b, h] w wq) (fun q _ => 256 - (intOf q).toNat)
     case atStart => exact ⟨0, by omega, rfl, ((hp3.drewN n1).setIx (i + 1)), ((hh3.drewN n1).setOther (a := ⟨b, 7, none⟩) (by simp; omega) _).congr (by simp), ((hk3.drewN n1).setCell (p := ⟨b, 7, none⟩) (by simp) _)⟩
     case round =>
      obtain ⟨m, hm, rfl, hpx, hhx, hkx⟩ := hrel
      by_cases hm2 : m < 256
      ·have hcm : wr.cell? ⟨h, m, none⟩ = some (.bool (f m)) := by rw [hhx.cell hm2]; simp
       have hfm := hhx.frozen m
       have hmi : (m : Int) < 256 := by omega
       have hmj : (0 : Int) ≤ (m : Int) := by omega
       have HX : Hid (HB (wr.setCell ⟨h, m, none⟩ (.bool (!f m))) h (fun n => if n < m + 1 then !f n else f n)) := flip_step hhx
       go_wp2_with fail
       go_roundw
       case rel => exact ⟨m + 1, by omega, by go_num, hpx.setOther (by simp; omega) _, HX.out, hkx.setCell (by simp) _⟩
       case measure => simp [intOf]; omega
      ·have e : m = 256 := by omega
       subst e
       go_wp2_with fail
       go_end0
       exact ⟨rfl, _, hfin (.ok f (i + 1)) HU.out, by rw [after_map]; exact hpx, ⟨_, hhx, by intro f' j' e n hn; cases e; simp [hn]⟩, hkx⟩
   ·have h93 : fst = true ∨ at' p.s i ≠ 93 := by
       cases fst
       ·right; intro e; exact e93 ⟨e, rfl⟩
       ·left; rfl
    have H93 : Hid (fst = true ∨ at' p.s i ≠ 93) := h93
    clear e93
    by_cases e93 : at' p.s i = 93
    ·have hf1 : fst = true := by
        rcases h93 with h | h
        ·exact h
        ·exact absurd e93 h
     subst hf1
     clear h93
     have hd93 : decide (PS.cur { p with ix := i } = 93) = true := by rw [hcur]; simpa using e93
     have e91 : ¬ at' p.s i = 91 := by omega
     have hd91 : decide (PS.cur { p with ix := i } = 91) = false := by rw [hcur]; simpa using e91
     have r1 : innS p.s 0 i = .bad i := by
      unfold innS
      rw [if_neg (by omega), if_pos (by omega)]
     clear hcur e93
     obtain ⟨j, hj⟩ : ∃ j, j = i := ⟨i, rfl⟩
     rw [← hj] at r1
     replace r1 : innS p.s 0 i = .bad j := by rw [← hj] at *; exact r1
     clear hj
     have HR : Hid (rangeS p.s i = .bad j) := by
      show rangeS p.s i = _
      unfold rangeS
      rw [if_neg e91, r1]; rfl
     have H1 : Hid (innS p.s 0 i = .bad j) := r1
     clear r1 e91
     go_wp2_with (first | (go_at_call 282; refine (inner_any b { p with ix := i } _ 0 (by exact hp3) hb hs (by omega) (by omega)).mono ?_; rintro e w4 ⟨v, rfl, ⟨hv0, hv1, hva⟩, hp4, hk4⟩) | (go_at_call 134; refine (next_any b _ 91 _ (hp3.drewN n1) (by omega)).mono ?_; rintro e w' ⟨rfl, n2, rfl⟩) | (go_at_call 134; refine (next_any b _ 93 _ hp3 (by omega)).mono ?_; rintro e w' ⟨rfl, n1, rfl⟩))
     obtain ⟨A, rfl, hA⟩ := nat_of hv0 hv1
     rw [after_bad (show innS _ 0 _ = _ from H1.out)] at hp4
     clear hva
     have htk : PS.took { p with bad := (j : Int), ix := j } 45 = { p with bad := (j : Int), ix := j } := by simp [PS.took, PS.cur]; omega
     have hd45 : decide (PS.cur { p with bad := (j : Int), ix := j } = 45) = false := by simp [PS.cur]; omega
     have hh4 : HB w4 h f := (hh3.drewN (n1 + n2)).keep hk4 (by simp; omega)
     have hk5 : Keeps [b, h] w w4 := (hk3.drewN (n1 + n2)).trans (hk4.mono (by simp))
     go_wp2_with (first | (go_at_call 81; refine (take_any b _ 45 _ hp4 (by omega) hs).mono ?_; rintro e w5 ⟨rfl, hp5, hk6⟩; rw [htk] at hp5))
     have hh5 : HB w5 h f := hh4.keep hk6 (by simp; omega)
     have hk7 : Keeps [b, h] w w5 := hk5.trans (hk6.mono (by simp))
     clear hp4 hk4 hh4 hk5 hk6 htk hd45
     go_loopw [11] (fun q wq => ∃ m : Nat, A ≤ m ∧ m ≤ 256 ∧ (m ≤ A + 1 ∨ m = A) ∧ q = .int .i64 m ∧ PB wq b { p with bad := (j : Int), ix := j } ∧ HB wq h (fun n => f n || (decide (A ≤ n) && decide (n < m))) ∧ Keeps [b, h] w wq) (fun q _ => 256 - (intOf q).toNat)
     case atStart => exact ⟨A, by omega, by omega, Or.inr rfl, rfl, hp5, hh5.congr (stretch_none _ _), hk7⟩
     case round =>
      obtain ⟨m, hm0, hm1, hm2, rfl, hpx, hhx, hkx⟩ := hrel
      by_cases hmC : m ≤ A
      ·have hex := hhx.cell (k := m) (by omega)
       have hfm := hhx.frozen m
       have hmi : (m : Int) < 256 := by omega
       have hmj : (0 : Int) ≤ (m : Int) := by omega
       have hmc : (m : Int) ≤ (A : Int) := by omega
       have HX : Hid (HB (wr.setCell ⟨h, m, none⟩ (.bool true)) h (fun n => f n || (decide (A ≤ n) && decide (n < m + 1)))) := stretch_step hhx hm0
       go_wp2_with fail
       go_roundw
       case rel => exact ⟨m + 1, by omega, by omega, by omega, by go_num, hpx.setOther (by simp; omega) _, HX.out, hkx.setCell (by simp) _⟩
       case measure => simp [intOf]; omega
      ·have hmc : ¬ (m : Int) ≤ (A : Int) := by omega
       go_wp2_with fail
       go_roundw
       case rel => exact ⟨false, rfl, SRel.next hin (Or.inl rfl) (by rw [HR.out]; exact hpx) ⟨_, hhx, by rw [HR.out]; intro r j' e; cases e⟩ hkx⟩
       case measure => exact SRel.mu (h := h) (f := f) hp3 hb hs hi (by rw [HR.out]; exact hpx)
    ·have hd93 : decide (PS.cur { p with ix := i } = 93) = false := by rw [hcur]; simpa using e93
     clear e93 h93
     by_cases e91 : at' p.s i = 91
     ·have hd91 : decide (PS.cur { p with ix := i } = 91) = true := by rw [hcur]; simpa using e91
      have hlt := at'_nn (s := p.s) (i := i) (by omega)
      have HR : Hid (rangeS p.s i = (classS p.s i).bind fun k j => .ok (fun n : Nat => clsB k n) j) := by
       show rangeS p.s i = _
       unfold rangeS
       rw [if_pos e91]
      clear e91 hcur
      go_wp2_with (first | (go_at_call 281; refine (class_all b h { p with ix := i } f _ (by exact hp3) (by exact hh3) hb hs hlt hne).mono ?_; rintro e w4 ⟨rfl, hp4, hh4, hk4⟩) | (go_at_call 134; refine (next_any b _ 91 _ (hp3.drewN n1) (by omega)).mono ?_; rintro e w' ⟨rfl, n2, rfl⟩) | (go_at_call 134; refine (next_any b _ 93 _ hp3 (by omega)).mono ?_; rintro e w' ⟨rfl, n1, rfl⟩))
      have hk5 : Keeps [b, h] w w4 := (hk3.drewN (n1 + n2)).trans hk4
      have hp9 : PB w4 b (({ p with ix := i } : PS).after (rangeS p.s i)) := by rw [HR.out, after_bindok]; exact hp4
      go_roundw
      case rel =>
       refine ⟨false, rfl, SRel.next hin H93.out hp9 ?_ hk5⟩
       obtain ⟨f', hf, hff⟩ := hh4
       refine ⟨f', hf, ?_⟩
       intro r j e n hn
       rw [HR.out] at e
       cases hc : classS p.s i with
       | ok k j' => rw [hc] at e; cases e; exact hff k _ hc n hn
       | bad j' => rw [hc] at e; cases e
      case measure => exact SRel.mu (h := h) (f := f) hp3 hb hs hi hp9
     ·have hd91 : decide (PS.cur { p with ix := i } = 91) = false := by rw [hcur]; simpa using e91
      clear hcur
      cases r1 : innS p.s 0 i with
      | bad j =>
       have HR : Hid (rangeS p.s i = .bad j) := by
        show rangeS p.s i = _
        unfold rangeS
        rw [if_neg e91, r1]; rfl
       have H1 : Hid (innS p.s 0 i = .bad j) := r1
       clear r1 e91
       go_wp2_with (first | (go_at_call 282; refine (inner_any b { p with ix := i } _ 0 (by exact hp3) hb hs (by omega) (by omega)).mono ?_; rintro e w4 ⟨v, rfl, ⟨hv0, hv1, hva⟩, hp4, hk4⟩) | (go_at_call 134; refine (next_any b _ 91 _ (hp3.drewN n1) (by omega)).mono ?_; rintro e w' ⟨rfl, n2, rfl⟩) | (go_at_call 134; refine (next_any b _ 93 _ hp3 (by omega)).mono ?_; rintro e w' ⟨rfl, n1, rfl⟩))
       obtain ⟨A, rfl, hA⟩ := nat_of hv0 hv1
       rw [after_bad (show innS _ 0 _ = _ from H1.out)] at hp4
       clear hva
       have htk : PS.took { p with bad := (j : Int), ix := j } 45 = { p with bad := (j : Int), ix := j } := by simp [PS.took, PS.cur]; omega
       have hd45 : decide (PS.cur { p with bad := (j : Int), ix := j } = 45) = false := by simp [PS.cur]; omega
       have hh4 : HB w4 h f := (hh3.drewN (n1 + n2)).keep hk4 (by simp; omega)
       have hk5 : Keeps [b, h] w w4 := (hk3.drewN (n1 + n2)).trans (hk4.mono (by simp))
       go_wp2_with (first | (go_at_call 81; refine (take_any b _ 45 _ hp4 (by omega) hs).mono ?_; rintro e w5 ⟨rfl, hp5, hk6⟩; rw [htk] at hp5))
       have hh5 : HB w5 h f := hh4.keep hk6 (by simp; omega)
       have hk7 : Keeps [b, h] w w5 := hk5.trans (hk6.mono (by simp))
       clear hp4 hk4 hh4 hk5 hk6 htk hd45
       go_loopw [11] (fun q wq => ∃ m : Nat, A ≤ m ∧ m ≤ 256 ∧ (m ≤ A + 1 ∨ m = A) ∧ q = .int .i64 m ∧ PB wq b { p with bad := (j : Int), ix := j } ∧ HB wq h (fun n => f n || (decide (A ≤ n) && decide (n < m))) ∧ Keeps [b, h] w wq) (fun q _ => 256 - (intOf q).toNat)
       case atStart => exact ⟨A, by omega, by omega, Or.inr rfl, rfl, hp5, hh5.congr (stretch_none _ _), hk7⟩
       case round =>
        obtain ⟨m, hm0, hm1, hm2, rfl, hpx, hhx, hkx⟩ := hrel
        by_cases hmC : m ≤ A
        ·have hex := hhx.cell (k := m) (by omega)
         have hfm := hhx.frozen m
         have hmi : (m : Int) < 256 := by omega
         have hmj : (0 : Int) ≤ (m : Int) := by omega
         have hmc : (m : Int) ≤ (A : Int) := by omega
         have HX : Hid (HB (wr.setCell ⟨h, m, none⟩ (.bool true)) h (fun n => f n || (decide (A ≤ n) && decide (n < m + 1)))) := stretch_step hhx hm0
         go_wp2_with fail
         go_roundw
         case rel => exact ⟨m + 1, by omega, by omega, by omega, by go_num, hpx.setOther (by simp; omega) _, HX.out, hkx.setCell (by simp) _⟩
         case measure => simp [intOf]; omega
        ·have hmc : ¬ (m : Int) ≤ (A : Int) := by omega
         go_wp2_with fail
         go_roundw
         case rel => exact ⟨false, rfl, SRel.next hin H93.out (by rw [HR.out]; exact hpx) ⟨_, hhx, by rw [HR.out]; intro r j' e; cases e⟩ hkx⟩
         case measure => exact SRel.mu (h := h) (f := f) hp3 hb hs hi (by rw [HR.out]; exact hpx)
      | ok a j =>
       obtain ⟨hij2, hjs, ha0, ha1⟩ := innS_ok r1
       have H1 : Hid (innS p.s 0 i = .ok a j) := r1
       obtain ⟨A, rfl, hA⟩ := nat_of ha0 ha1
       by_cases e45 : at' p.s j = 45
       ·have htk : PS.took { p with ix := j } 45 = { p with ix := j + 1 } := by simp [PS.took, PS.cur, hb, e45]
        have hd45 : decide (PS.cur { p with ix := j } = 45) = true := by simp [PS.cur, hb, e45]
        have hj1 := at'_nn (s := p.s) (i := j) (by omega)
        have HR0 : Hid (rangeS p.s i = (innS p.s A (j + 1)).bind fun c k => .ok (stretch A c) k) := by
         show rangeS p.s i = _
         unfold rangeS
         rw [if_neg e91, r1]
         simp only [R.bind]
         rw [if_pos e45]
        clear r1 e91 e45
        go_wp2_with (first | (go_at_call 282; refine (inner_any b _ _ A hp5 hb hs (by omega) (by omega)).mono ?_; rintro e w6 ⟨v6, rfl, ⟨hv60, hv61, hv6a⟩, hp6, hk6⟩) | (go_at_call 81; refine (take_any b _ 45 _ hp4 (by omega) hs).mono ?_; rintro e w5 ⟨rfl, hp5, hk5⟩; rw [htk] at hp5) | (go_at_call 282; refine (inner_any b { p with ix := i } _ 0 (by exact hp3) hb hs (by omega) (by omega)).mono ?_; rintro e w4 ⟨v, rfl, ⟨hv0, hv1, hva⟩, hp4, hk4⟩; rw [after_ok (show innS _ 0 _ = _ from H1.out)] at hp4; have hvA := hva _ _ H1.out; subst hvA; clear hva) | (go_at_call 134; refine (next_any b _ 91 _ (hp3.drewN n1) (by omega)).mono ?_; rintro e w' ⟨rfl, n2, rfl⟩) | (go_at_call 134; refine (next_any b _ 93 _ hp3 (by omega)).mono ?_; rintro e w' ⟨rfl, n1, rfl⟩))
        have hkB : Keeps [b] (wr.drewN (n1 + n2)) w6 := (hk4.trans hk5).trans hk6
        have hh6 : HB w6 h f := (hh3.drewN (n1 + n2)).keep hkB (by simp; omega)
        have hk7 : Keeps [b, h] w w6 := (hk3.drewN (n1 + n2)).trans (hkB.mono (by simp))
        clear hp4 hk4 hp5 hk5 hk6 hkB htk hd45
        obtain ⟨C, rfl, hC⟩ := nat_of hv60 hv61
        cases r2 : innS p.s A (j + 1) with
        | bad k =>
         have HR : Hid (rangeS p.s i = .bad k) := by show rangeS p.s i = _; rw [HR0.out, r2]; rfl
         rw [after_bad (show innS _ _ _ = _ from r2)] at hp6
         clear r2 HR0 hv6a
         go_loopw [11] (fun q wq => ∃ m : Nat, A ≤ m ∧ m ≤ 256 ∧ (m ≤ C + 1 ∨ m = A) ∧ q = .int .i64 m ∧ PB wq b { p with bad := (k : Int), ix := k } ∧ HB wq h (fun n => f n || (decide (A ≤ n) && decide (n < m))) ∧ Keeps [b, h] w wq) (fun q _ => 256 - (intOf q).toNat)
         case atStart => exact ⟨A, by omega, by omega, Or.inr rfl, rfl, hp6, hh6.congr (stretch_none _ _), hk7⟩
         case round =>
          obtain ⟨m, hm0, hm1, hm2, rfl, hpx, hhx, hkx⟩ := hrel
          by_cases hmC : m ≤ C
          ·have hex := hhx.cell (k := m) (by omega)
           have hfm := hhx.frozen m
           have hmi : (m : Int) < 256 := by omega
           have hmj : (0 : Int) ≤ (m : Int) := by omega
           have hmc : (m : Int) ≤ (C : Int) := by omega
           have HX : Hid (HB (wr.setCell ⟨h, m, none⟩ (.bool true)) h (fun n => f n || (decide (A ≤ n) && decide (n < m + 1)))) := stretch_step hhx hm0
           go_wp2_with fail
           go_roundw
           case rel => exact ⟨m + 1, by omega, by omega, by omega, by go_num, hpx.setOther (by simp; omega) _, HX.out, hkx.setCell (by simp) _⟩
           case measure => simp [intOf]; omega
          ·have hmc : ¬ (m : Int) ≤ (C : Int) := by omega
           go_wp2_with fail
           go_roundw
           case rel => exact ⟨false, rfl, SRel.next hin H93.out (by rw [HR.out]; exact hpx) ⟨_, hhx, by rw [HR.out]; intro r j' e; cases e⟩ hkx⟩
           case measure => exact SRel.mu (h := h) (f := f) hp3 hb hs hi (by rw [HR.out]; exact hpx)
        | ok c k =>
         have hcC : (C : Int) = c := hv6a _ _ r2
         subst hcC
         have HR : Hid (rangeS p.s i = .ok (stretch A C) k) := by show rangeS p.s i = _; rw [HR0.out, r2]; rfl
         rw [after_ok (show innS _ _ _ = _ from r2)] at hp6
         clear r2 HR0 hv6a
         go_loopw [11] (fun q wq => ∃ m : Nat, A ≤ m ∧ m ≤ 256 ∧ (m ≤ C + 1 ∨ m = A) ∧ q = .int .i64 m ∧ PB wq b { p with ix := k } ∧ HB wq h (fun n => f n || (decide (A ≤ n) && decide (n < m))) ∧ Keeps [b, h] w wq) (fun q _ => 256 - (intOf q).toNat)
         case atStart => exact ⟨A, by omega, by omega, Or.inr rfl, rfl, hp6, hh6.congr (stretch_none _ _), hk7⟩
         case round =>
          obtain ⟨m, hm0, hm1, hm2, rfl, hpx, hhx, hkx⟩ := hrel
          by_cases hmC : m ≤ C
          ·have hex := hhx.cell (k := m) (by omega)
           have hfm := hhx.frozen m
           have hmi : (m : Int) < 256 := by omega
           have hmj : (0 : Int) ≤ (m : Int) := by omega
           have hmc : (m : Int) ≤ (C : Int) := by omega
           have HX : Hid (HB (wr.setCell ⟨h, m, none⟩ (.bool true)) h (fun n => f n || (decide (A ≤ n) && decide (n < m + 1)))) := stretch_step hhx hm0
           go_wp2_with fail
           go_roundw
           case rel => exact ⟨m + 1, by omega, by omega, by omega, by go_num, hpx.setOther (by simp; omega) _, HX.out, hkx.setCell (by simp) _⟩
           case measure => simp [intOf]; omega
          ·have hmc : ¬ (m : Int) ≤ (C : Int) := by omega
           go_wp2_with fail
           go_roundw
           case rel => exact ⟨false, rfl, SRel.next hin H93.out (by rw [HR.out]; exact hpx) ⟨_, hhx, by rw [HR.out]; exact stretch_end hm0 hm2 (by omega)⟩ hkx⟩
           case measure => exact SRel.mu (h := h) (f := f) hp3 hb hs hi (by rw [HR.out]; exact hpx)
       ·have htk : PS.took { p with ix := j } 45 = { p with ix := j } := by simp [PS.took, PS.cur, hb, e45]
        have hd45 : decide (PS.cur { p with ix := j } = 45) = false := by simp [PS.cur, hb, e45]
        have HR : Hid (rangeS p.s i = .ok (stretch A A) j) := by
         show rangeS p.s i = _
         unfold rangeS
         rw [if_neg e91, r1]
         simp only [R.bind]
         rw [if_neg e45]
        clear r1 e91 e45
        go_wp2_with (first | (go_at_call 81; refine (take_any b _ 45 _ hp4 (by omega) hs).mono ?_; rintro e w5 ⟨rfl, hp5, hk5⟩; rw [htk] at hp5) | (go_at_call 282; refine (inner_any b { p with ix := i } _ 0 (by exact hp3) hb hs (by omega) (by omega)).mono ?_; rintro e w4 ⟨v, rfl, ⟨hv0, hv1, hva⟩, hp4, hk4⟩; rw [after_ok (show innS _ 0 _ = _ from H1.out)] at hp4; have hvA := hva _ _ H1.out; subst hvA; clear hva) | (go_at_call 134; refine (next_any b _ 91 _ (hp3.drewN n1) (by omega)).mono ?_; rintro e w' ⟨rfl, n2, rfl⟩) | (go_at_call 134; refine (next_any b _ 93 _ hp3 (by omega)).mono ?_; rintro e w' ⟨rfl, n1, rfl⟩))
        have hkB : Keeps [b] (wr.drewN (n1 + n2)) w5 := hk4.trans hk5
        have hh6 : HB w5 h f := (hh3.drewN (n1 + n2)).keep hkB (by simp; omega)
        have hk7 : Keeps [b, h] w w5 := (hk3.drewN (n1 + n2)).trans (hkB.mono (by simp))
        clear hp4 hk4 hk5 hkB htk hd45
        go_loopw [11] (fun q wq => ∃ m : Nat, A ≤ m ∧ m ≤ 256 ∧ (m ≤ A + 1 ∨ m = A) ∧ q = .int .i64 m ∧ PB wq b { p with ix := j } ∧ HB wq h (fun n => f n || (decide (A ≤ n) && decide (n < m))) ∧ Keeps [b, h] w wq) (fun q _ => 256 - (intOf q).toNat)
        case atStart => exact ⟨A, by omega, by omega, Or.inr rfl, rfl, hp5, hh6.congr (stretch_none _ _), hk7⟩
        case round =>
         obtain ⟨m, hm0, hm1, hm2, rfl, hpx, hhx, hkx⟩ := hrel
         by_cases hmC : m ≤ A
         ·have hex := hhx.cell (k := m) (by omega)
          have hfm := hhx.frozen m
          have hmi : (m : Int) < 256 := by omega
          have hmj : (0 : Int) ≤ (m : Int) := by omega
          have hmc : (m : Int) ≤ (A : Int) := by omega
          have HX : Hid (HB (wr.setCell ⟨h, m, none⟩ (.bool true)) h (fun n => f n || (decide (A ≤ n) && decide (n < m + 1)))) := stretch_step hhx hm0
          go_wp2_with fail
          go_roundw
          case rel => exact ⟨m + 1, by omega, by omega, by omega, by go_num, hpx.setOther (by simp; omega) _, HX.out, hkx.setCell (by simp) _⟩
          case measure => simp [intOf]; omega
         ·have hmc : ¬ (m : Int) ≤ (A : Int) := by omega
          go_wp2_with fail
          go_roundw
          case rel => exact ⟨false, rfl, SRel.next hin H93.out (by rw [HR.out]; exact hpx) ⟨_, hhx, by rw [HR.out]; exact stretch_end hm0 hm2 (by omega)⟩ hkx⟩
          case measure => exact SRel.mu (h := h) (f := f) hp3 hb hs hi (by rw [HR.out]; exact hpx)
  ·obtain ⟨c0, h6, h7, f6, f7⟩ := hp3.main
   have hnn : ¬ (j : Int) < 0 := by omega
   have HU : Hid (SetU p.s j0 (.bad j)) := hU
   clear hU
   cases nt
   ·go_wp2_with fail
    go_loop [12] (fun q => q = .int .i64 0) (fun _ => 0)
    case atStart => rfl
    case round =>
     subst hrel
     go_wp2_with fail
     go_end0
     exact ⟨rfl, _, hfin (.bad j) HU.out, by rw [after_map]; exact hp3, ⟨f, hh3, by intro f' j' e; cases e⟩, hk3⟩
   ·go_wp2_with fail
    go_loopw [12] (fun q wq => ∃ m : Nat, m ≤ 256 ∧ q = .int .i64 m ∧ PB wq b { p with bad := (j : Int), ix := j } ∧ HB wq h (fun n => if n < m then !f n else f n) ∧ Keeps [b, h] w wq) (fun q _ => 256 - (intOf q).toNat)
    case atStart => exact ⟨0, by omega, rfl, hp3, hh3.congr (by simp), hk3⟩
    case round =>
     obtain ⟨m, hm, rfl, hpx, hhx, hkx⟩ := hrel
     by_cases hm2 : m < 256
     ·have hcm : wr.cell? ⟨h, m, none⟩ = some (.bool (f m)) := by rw [hhx.cell hm2]; simp
      have hfm := hhx.frozen m
      have hmi : (m : Int) < 256 := by omega
      have hmj : (0 : Int) ≤ (m : Int) := by omega
      have HX : Hid (HB (wr.setCell ⟨h, m, none⟩ (.bool (!f m))) h (fun n => if n < m + 1 then !f n else f n)) := flip_step hhx
      go_wp2_with fail
      go_roundw
      case rel => exact ⟨m + 1, by omega, by go_num, hpx.setOther (by simp; omega) _, HX.out, hkx.setCell (by simp) _⟩
      case measure => simp [intOf]; omega
     ·have e : m = 256 := by omega
      subst e
      go_wp2_with fail
      go_end0
      exact ⟨rfl, _, hfin (.bad j) HU.out, by rw [after_map]; exact hpx, ⟨_, hhx, by intro f' j' e; cases e⟩, hkx⟩
end Go.Proofs.YtnfojonmohijpaaGreatDoor
