/-
  DERIVED. The contract of the reference's 'set'. Conditions: the pattern is at most 60 bytes long, nothing was wrong so far, the set's cells are all false.
-/
import Derived.Test.YtnfojonmohijpaaGreatDoorJPA
import Derived.Test.YtnfojonmohijpaaGreatDoorJSpec
import Derived.Deep.RegionHeld3
import Derived.Deep.RegionLaw
import Derived.Deep.AppendLies
import Derived.OwnWalk
import Derived.StillTactics
import Derived.Laws.Pointers
import Derived.KernelRfl
set_option linter.unusedSimpArgs false
set_option linter.unusedVariables false
namespace Go.Proofs.YtnfojonmohijpaaGreatDoor
open Go.RowKit
def cellInt (w : World) (b o : Nat) : Int := match w.cell? ⟨b, o, none⟩ with
 | some v => intOf v
 | none => 0
def muP (w : World) (b : Nat) : Nat := if 0 ≤ cellInt w b 6 then 0 else 62 - (cellInt w b 7).toNat
theorem muP_eq {w : World} {b : Nat} {p : PS} (hp : PB w b p) : muP w b = if 0 ≤ p.bad then 0 else 62 - p.ix := by
 obtain ⟨_, h6, h7, _, _⟩ := hp.main
 simp [muP, cellInt, h6, h7, intOf]
def SInv (s : ByteArray) (j0 : Nat) (fst : Bool) (i : Nat) (f : Nat → Bool) : Prop :=
 (fst = true ∧ i = j0 ∧ f = fun _ => false) ∨ (fst = false ∧ ∀ q, SetL s f i q → SetU s j0 q)
def SRel (p : PS) (b h j0 : Nat) (w : World) (fst : Bool) (wr : World) : Prop :=
 Keeps [b, h] w wr ∧
 ((∃ (i : Nat) (f : Nat → Bool), PB wr b { p with ix := i } ∧ HB wr h f ∧ i ≤ p.s.size ∧ SInv p.s j0 fst i f) ∨
  (∃ (j : Nat) (f : Nat → Bool), PB wr b { p with bad := (j : Int), ix := j } ∧ HB wr h f ∧ SetU p.s j0 (.bad j)))
theorem SRel.next {p : PS} {b h j0 i : Nat} {w w9 : World} {fst : Bool} {f : Nat → Bool} (hin : SInv p.s j0 fst i f) (h93 : fst = true ∨ at' p.s i ≠ 93)
    (hp : PB w9 b (({ p with ix := i } : PS).after (rangeS p.s i))) (hh : ∃ f', HB w9 h f' ∧ ∀ r j, rangeS p.s i = .ok r j → ∀ n, n < 256 → f' n = (f n || r n)) (hk : Keeps [b, h] w w9) :
    SRel p b h j0 w false w9 := by
 obtain ⟨f', hh, hf⟩ := hh
 refine ⟨hk, ?_⟩
 cases hr : rangeS p.s i with
 | ok r j =>
  left
  rw [hr] at hp
  have hj := rangeS_ok hr
  rcases hin with ⟨e1, e2, e3⟩ | ⟨e1, e2⟩
  ·subst e1 e2 e3
   exact ⟨j, r, hp, hh.congr fun n hn => by rw [hf r j hr n hn]; rfl, hj.2, Or.inr ⟨rfl, fun q hq => .go r _ j q hr hq⟩⟩
  ·refine ⟨j, fun n => f n || r n, hp, hh.congr fun n hn => hf r j hr n hn, hj.2, Or.inr ⟨rfl, fun q hq => e2 q ?_⟩⟩
   rcases h93 with h | h
   ·rw [e1] at h; cases h
   ·exact .more f r i j q h hr hq
 | bad j =>
  right
  rw [hr] at hp
  refine ⟨j, f', hp, hh, ?_⟩
  rcases hin with ⟨e1, e2, e3⟩ | ⟨e1, e2⟩
  ·subst e1 e2 e3
   exact .bad _ j hr
  ·apply e2
   rcases h93 with h | h
   ·rw [e1] at h; cases h
   ·exact .bad f i j h hr
theorem SRel.mu {p : PS} {b h i : Nat} {wr w9 : World} {f : Nat → Bool} (hp : PB wr b { p with ix := i }) (hb : p.bad < 0) (hs : p.s.size ≤ 60) (hi : i ≤ p.s.size)
    (hp9 : PB w9 b (({ p with ix := i } : PS).after (rangeS p.s i))) : muP w9 b < muP wr b := by
 rw [muP_eq hp, muP_eq hp9]
 have hb' : ¬ 0 ≤ p.bad := by omega
 cases hr : rangeS p.s i with
 | ok r j =>
  have hj := rangeS_ok hr
  simp [PS.after, hb']
  omega
 | bad j =>
  simp [PS.after, hb']
  omega
end Go.Proofs.YtnfojonmohijpaaGreatDoor
namespace Go.Proofs.YtnfojonmohijpaaGreatDoor
open Go.RowKit
theorem after_map {α β : Type} (p : PS) (r : R α) (g : α → β) : p.after (r.map g) = p.after r := by cases r <;> rfl
theorem after_bindok {α β : Type} (p : PS) (r : R α) (g : α → β) : p.after (r.bind fun a j => .ok (g a) j) = p.after r := by cases r <;> rfl
theorem flip_step {w : World} {h m : Nat} {f : Nat → Bool} (H : HB w h (fun n => if n < m then !f n else f n)) : HB (w.setCell ⟨h, m, none⟩ (.bool (!f m))) h (fun n => if n < m + 1 then !f n else f n) := by
 refine (H.set m (!f m)).congr ?_
 intro n _
 by_cases e : n = m
 ·subst e; simp
 ·have : (n < m + 1) = (n < m) := by simp; omega
  simp [e, this]
theorem stretch_none (f : Nat → Bool) (a : Nat) : ∀ n, n < 256 → f n = (f n || (decide (a ≤ n) && decide (n < a))) := by
 intro n _
 have : (decide (a ≤ n) && decide (n < a)) = false := by simp
 rw [this]; simp
theorem stretch_step {w : World} {h m a : Nat} {f : Nat → Bool} (H : HB w h (fun n => f n || (decide (a ≤ n) && decide (n < m)))) (ha : a ≤ m) : HB (w.setCell ⟨h, m, none⟩ (.bool true)) h (fun n => f n || (decide (a ≤ n) && decide (n < m + 1))) := by
 refine (H.set m true).congr ?_
 intro n _
 by_cases e : n = m
 ·subst e; simp [ha]
 ·have : decide (n < m + 1) = decide (n < m) := by simp; omega
  simp [e, this]
theorem stretch_end {m a c k : Nat} {f : Nat → Bool} (ha : a ≤ m) (hm : m ≤ c + 1 ∨ m = a) (hc : c < m) : ∀ r j, (R.ok (stretch a c) k : R (Nat → Bool)) = .ok r j → ∀ n, n < 256 → (f n || (decide (a ≤ n) && decide (n < m))) = (f n || r n) := by
 intro r j e n _
 cases e
 congr 1
 unfold stretch
 have e1 : decide (a ≤ n) = decide ((a : Int) ≤ (n : Int)) := by simp
 by_cases hm' : m ≤ c + 1
 ·have e2 : decide (n < m) = decide ((n : Int) ≤ (c : Int)) := by simp; omega
  rw [e1, e2]
 ·have hma : m = a := by omega
  subst hma
  by_cases hn : m ≤ n
  ·have h1 : ¬ n < m := by omega
   have h2 : ¬ (n : Int) ≤ (c : Int) := by omega
   simp [h1, h2]
  ·have h1 : ¬ (m : Int) ≤ (n : Int) := by omega
   simp [hn, h1]
theorem nat_of {v : Int} (h0 : 0 ≤ v) (h1 : v ≤ 255) : ∃ a : Nat, v = a ∧ a ≤ 255 := ⟨v.toNat, by omega, by omega⟩
set_option maxRecDepth 100000 in
set_option maxHeartbeats 4000000 in
theorem set_any (b h : Nat) (p : PS) (w : World) (hp : PB w b p) (hh : HB w h (fun _ => false)) (hb : p.bad < 0) (hs : p.s.size ≤ 60) (hpi : p.ix ≤ p.s.size) (hne : ¬ b = h) :
    Calls Tryz.prog 262 #[.pointer (some ⟨b, 0, none⟩), .slice (some ⟨h, 0, none⟩) 256 256] w fun e w' =>
     e = .returned (.tuple #[]) ∧ ∃ q, SetR p.s p.ix q ∧ PB w' b (p.after q) ∧ (∃ f', HB w' h f' ∧ ∀ f j, q = .ok f j → ∀ n, n < 256 → f' n = f n) ∧ Keeps [b, h] w w' := by
 obtain ⟨nt, j0, hd, htk, hj0, hfin⟩ : ∃ (nt : Bool) (j0 : Nat), decide (p.cur = 94) = nt ∧ p.took 94 = { p with ix := j0 } ∧ j0 ≤ p.s.size ∧ (∀ q', SetU p.s j0 q' → SetR p.s p.ix (q'.map (fun f n => f n != nt))) := by
  by_cases h94 : at' p.s p.ix = 94
  ·have hc : p.cur = 94 := by simp [PS.cur, hb, h94]
   refine ⟨true, p.ix + 1, by simp [hc], by simp [PS.took, hc], at'_nn (by omega), fun q' hq => Or.inl ⟨h94, q', hq, ?_⟩⟩
   congr 1; funext f n; simp
  ·have hc : ¬ p.cur = 94 := by simp [PS.cur, hb, h94]
   refine ⟨false, p.ix, by simp [hc], by simp [PS.took, hc], hpi, fun q' hq => Or.inr ⟨h94, ?_⟩⟩
   cases q' with
   | ok f j => simpa [R.map] using hq
   | bad j => exact hq
 go_enter Tryz.func262, Tryz.ntmps262
 go_wp2_with (first | (go_at_call 81; refine (take_any b p 94 _ hp (by omega) hs).mono ?_; rintro e w1 ⟨rfl, hp1, hk1⟩; rw [htk] at hp1))
 have hh1 : HB w1 h (fun _ => false) := hh.keep hk1 (by simp; omega)
 have hk2 : Keeps [b, h] w w1 := hk1.mono (by simp)
 clear hp hh hk1 htk
 go_loopw [5] (fun v wr => ∃ fst : Bool, v = .bool fst ∧ SRel p b h j0 w fst wr) (fun _ wr => muP wr b)
 case atStart => exact ⟨true, rfl, hk2, Or.inl ⟨j0, fun _ => false, hp1, hh1, hj0, Or.inl ⟨rfl, rfl, rfl⟩⟩⟩
 case round =>
  clear hp1 hh1 hk2
  obtain ⟨fst, rfl, hk3, hcase⟩ := hrel
  rcases hcase with ⟨i, f, hp3, hh3, hi, hin⟩ | ⟨j, f, hp3, hh3, hU⟩
  ·obtain ⟨c0, h6, h7, f6, f7⟩ := hp3.main
   have hcur : PS.cur { p with ix := i } = at' p.s i := by simp [PS.cur, hb]
   by_cases e93 : at' p.s i = 93 ∧ fst = false
   ·obtain ⟨e93, rfl⟩ := e93
    have hlt := at'_nn (s := p.s) (i := i) (by omega)
    have hd93 : decide (PS.cur { p with ix := i } = 93) = true := by rw [hcur]; simpa using e93
    have hij : (0 : Int) ≤ (i : Int) := by omega
    have hik : (i : Int) ≤ 60 := by omega
    have HU : Hid (SetU p.s j0 (.ok f (i + 1))) := by
     rcases hin with ⟨e, _⟩ | ⟨_, e⟩
     ·cases e
     ·exact e _ (.done f i e93)
    clear hin hcur e93
    go_wp2_with (first | (go_at_call 134; refine (next_any b _ 93 _ hp3 (by omega)).mono ?_; rintro e w' ⟨rfl, n1, rfl⟩))
    cases nt
    ·go_wp2_with fail
     go_loop [12] (fun q => q = .int .i64 0) (fun _ => 0)
     case atStart => rfl
     case round =>
      subst hrel
      go_wp2_with fail
      go_end0
      exact ⟨rfl, _, hfin (.ok f (i + 1)) HU.out, by rw [after_map]; exact ((hp3.drewN n1).setIx (i + 1)), ⟨f, ((hh3.drewN n1).setOther (a := ⟨b, 7, none⟩) (by simp; omega) _), by intro f' j' e n hn; cases e; simp⟩, ((hk3.drewN n1).setCell (p := ⟨b, 7, none⟩) (by simp) _)⟩
    ·go_wp2_with fail
     go_loopw [12] (fun q wq => ∃ m : Nat, m ≤ 256 ∧ q = .int .i64 m ∧ PB wq b { p with ix := i + 1 } ∧ HB wq h (fun n => if n < m then !f n else f n) ∧ Keeps [b, h] w wq) (fun q _ => 256 - (intOf q).toNat)
     case atStart => exact ⟨0, by omega, rfl, ((hp3.drewN n1).setIx (i + 1)), ((hh3.drewN n1).setOther (a := ⟨b, 7, none⟩) (by simp; omega) _).congr (by simp), ((hk3.drewN n1).setCell (p := ⟨b, 7, none⟩) (by simp) _)⟩
     case round =>
      obtain ⟨m, hm, rfl, hpx, hhx, hkx⟩ := hrel
      by_cases hm2 : m < 256
      ·have hcm : wr.cell? ⟨h, m, none⟩ = some (.bool (f m)) := by rw [hhx.cell hm2]; simp
       have hfm := hhx.frozen m
       have hmi : (m : Int) < 256 := by omega
       have hmj : (0 : Int) ≤ (m : Int) := by omega
       have HX : Hid (HB (wr.setCell ⟨h, m, none⟩ (.bool (!f m))) h (fun n => if n < m + 1 then !f n else f n)) := flip_step hhx
       go_wp2_with fail
       go_roundw
       case rel => exact ⟨m + 1, by omega, by go_num, hpx.setOther (by simp; omega) _, HX.out, hkx.setCell (by simp) _⟩
       case measure => simp [intOf]; omega
      ·have e : m = 256 := by omega
       subst e
       go_wp2_with fail
       go_end0
       exact ⟨rfl, _, hfin (.ok f (i + 1)) HU.out, by rw [after_map]; exact hpx, ⟨_, hhx, by intro f' j' e n hn; cases e; simp [hn]⟩, hkx⟩
   ·have h93 : fst = true ∨ at' p.s i ≠ 93 := by
       cases fst
       ·right; intro e; exact e93 ⟨e, rfl⟩
       ·left; rfl
    have H93 : Hid (fst = true ∨ at' p.s i ≠ 93) := h93
    clear e93
    by_cases e93 : at' p.s i = 93
    ·have hf1 : fst = true := by
        rcases h93 with h | h
        ·exact h
        ·exact absurd e93 h
     subst hf1
     clear h93
     have hd93 : decide (PS.cur { p with ix := i } = 93) = true := by rw [hcur]; simpa using e93
     have e91 : ¬ at' p.s i = 91 := by omega
     have hd91 : decide (PS.cur { p with ix := i } = 91) = false := by rw [hcur]; simpa using e91
     have r1 : innS p.s 0 i = .bad i := by
      unfold innS
      rw [if_neg (by omega), if_pos (by omega)]
     clear hcur e93
     obtain ⟨j, hj⟩ : ∃ j, j = i := ⟨i, rfl⟩
     rw [← hj] at r1
     replace r1 : innS p.s 0 i = .bad j := by rw [← hj] at *; exact r1
     clear hj
     have HR : Hid (rangeS p.s i = .bad j) := by
      show rangeS p.s i = _
      unfold rangeS
      rw [if_neg e91, r1]; rfl
     have H1 : Hid (innS p.s 0 i = .bad j) := r1
     clear r1 e91
     go_wp2_with (first | (go_at_call 282; refine (inner_any b { p with ix := i } _ 0 (by exact hp3) hb hs (by omega) (by omega)).mono ?_; rintro e w4 ⟨v, rfl, ⟨hv0, hv1, hva⟩, hp4, hk4⟩) | (go_at_call 134; refine (next_any b _ 91 _ (hp3.drewN n1) (by omega)).mono ?_; rintro e w' ⟨rfl, n2, rfl⟩) | (go_at_call 134; refine (next_any b _ 93 _ hp3 (by omega)).mono ?_; rintro e w' ⟨rfl, n1, rfl⟩))
     obtain ⟨A, rfl, hA⟩ := nat_of hv0 hv1
     rw [after_bad (show innS _ 0 _ = _ from H1.out)] at hp4
     clear hva
     have htk : PS.took { p with bad := (j : Int), ix := j } 45 = { p with bad := (j : Int), ix := j } := by simp [PS.took, PS.cur]; omega
     have hd45 : decide (PS.cur { p with bad := (j : Int), ix := j } = 45) = false := by simp [PS.cur]; omega
     have hh4 : HB w4 h f := (hh3.drewN (n1 + n2)).keep hk4 (by simp; omega)
     have hk5 : Keeps [b, h] w w4 := (hk3.drewN (n1 + n2)).trans (hk4.mono (by simp))
     go_wp2_with (first | (go_at_call 81; refine (take_any b _ 45 _ hp4 (by omega) hs).mono ?_; rintro e w5 ⟨rfl, hp5, hk6⟩; rw [htk] at hp5))
     have hh5 : HB w5 h f := hh4.keep hk6 (by simp; omega)
     have hk7 : Keeps [b, h] w w5 := hk5.trans (hk6.mono (by simp))
     clear hp4 hk4 hh4 hk5 hk6 htk hd45
     go_loopw [11] (fun q wq => ∃ m : Nat, A ≤ m ∧ m ≤ 256 ∧ (m ≤ A + 1 ∨ m = A) ∧ q = .int .i64 m ∧ PB wq b { p with bad := (j : Int), ix := j } ∧ HB wq h (fun n => f n || (decide (A ≤ n) && decide (n < m))) ∧ Keeps [b, h] w wq) (fun q _ => 256 - (intOf q).toNat)
     case atStart => exact ⟨A, by omega, by omega, Or.inr rfl, rfl, hp5, hh5.congr (stretch_none _ _), hk7⟩
     case round =>
      obtain ⟨m, hm0, hm1, hm2, rfl, hpx, hhx, hkx⟩ := hrel
      by_cases hmC : m ≤ A
      ·have hex := hhx.cell (k := m) (by omega)
       have hfm := hhx.frozen m
       have hmi : (m : Int) < 256 := by omega
       have hmj : (0 : Int) ≤ (m : Int) := by omega
       have hmc : (m : Int) ≤ (A : Int) := by omega
       have HX : Hid (HB (wr.setCell ⟨h, m, none⟩ (.bool true)) h (fun n => f n || (decide (A ≤ n) && decide (n < m + 1)))) := stretch_step hhx hm0
       go_wp2_with fail
       go_roundw
       case rel => exact ⟨m + 1, by omega, by omega, by omega, by go_num, hpx.setOther (by simp; omega) _, HX.out, hkx.setCell (by simp) _⟩
       case measure => simp [intOf]; omega
      ·have hmc : ¬ (m : Int) ≤ (A : Int) := by omega
       go_wp2_with fail
       go_roundw
       case rel => exact ⟨false, rfl, SRel.next hin (Or.inl rfl) (by rw [HR.out]; exact hpx) ⟨_, hhx, by rw [HR.out]; intro r j' e; cases e⟩ hkx⟩
       case measure => exact SRel.mu (h := h) (f := f) hp3 hb hs hi (by rw [HR.out]; exact hpx)
    ·have hd93 : decide (PS.cur { p with ix := i } = 93) = false := by rw [hcur]; simpa using e93
     clear e93 h93
     by_cases e91 : at' p.s i = 91
     ·have hd91 : decide (PS.cur { p with ix := i } = 91) = true := by rw [hcur]; simpa using e91
      have hlt := at'_nn (s := p.s) (i := i) (by omega)
      have HR : Hid (rangeS p.s i = (classS p.s i).bind fun k j => .ok (fun n : Nat => clsB k n) j) := by
       show rangeS p.s i = _
       unfold rangeS
       rw [if_pos e91]
      clear e91 hcur
      go_wp2_with (first | (go_at_call 281; refine (class_all b h { p with ix := i } f _ (by exact hp3) (by exact hh3) hb hs hlt hne).mono ?_; rintro e w4 ⟨rfl, hp4, hh4, hk4⟩) | (go_at_call 134; refine (next_any b _ 91 _ (hp3.drewN n1) (by omega)).mono ?_; rintro e w' ⟨rfl, n2, rfl⟩) | (go_at_call 134; refine (next_any b _ 93 _ hp3 (by omega)).mono ?_; rintro e w' ⟨rfl, n1, rfl⟩))
      have hk5 : Keeps [b, h] w w4 := (hk3.drewN (n1 + n2)).trans hk4
      have hp9 : PB w4 b (({ p with ix := i } : PS).after (rangeS p.s i)) := by rw [HR.out, after_bindok]; exact hp4
      go_roundw
      case rel =>
       refine ⟨false, rfl, SRel.next hin H93.out hp9 ?_ hk5⟩
       obtain ⟨f', hf, hff⟩ := hh4
       refine ⟨f', hf, ?_⟩
       intro r j e n hn
       rw [HR.out] at e
       cases hc : classS p.s i with
       | ok k j' => rw [hc] at e; cases e; exact hff k _ hc n hn
       | bad j' => rw [hc] at e; cases e
      case measure => exact SRel.mu (h := h) (f := f) hp3 hb hs hi hp9
     ·have hd91 : decide (PS.cur { p with ix := i } = 91) = false := by rw [hcur]; simpa using e91
      clear hcur
      cases r1 : innS p.s 0 i with
      | bad j =>
       have HR : Hid (rangeS p.s i = .bad j) := by
        show rangeS p.s i = _
        unfold rangeS
        rw [if_neg e91, r1]; rfl
       have H1 : Hid (innS p.s 0 i = .bad j) := r1
       clear r1 e91
       go_wp2_with (first | (go_at_call 282; refine (inner_any b { p with ix := i } _ 0 (by exact hp3) hb hs (by omega) (by omega)).mono ?_; rintro e w4 ⟨v, rfl, ⟨hv0, hv1, hva⟩, hp4, hk4⟩) | (go_at_call 134; refine (next_any b _ 91 _ (hp3.drewN n1) (by omega)).mono ?_; rintro e w' ⟨rfl, n2, rfl⟩) | (go_at_call 134; refine (next_any b _ 93 _ hp3 (by omega)).mono ?_; rintro e w' ⟨rfl, n1, rfl⟩))
       obtain ⟨A, rfl, hA⟩ := nat_of hv0 hv1
       rw [after_bad (show innS _ 0 _ = _ from H1.out)] at hp4
       clear hva
       have htk : PS.took { p with bad := (j : Int), ix := j } 45 = { p with bad := (j : Int), ix := j } := by simp [PS.took, PS.cur]; omega
       have hd45 : decide (PS.cur { p with bad := (j : Int), ix := j } = 45) = false := by simp [PS.cur]; omega
       have hh4 : HB w4 h f := (hh3.drewN (n1 + n2)).keep hk4 (by simp; omega)
       have hk5 : Keeps [b, h] w w4 := (hk3.drewN (n1 + n2)).trans (hk4.mono (by simp))
       go_wp2_with (first | (go_at_call 81; refine (take_any b _ 45 _ hp4 (by omega) hs).mono ?_; rintro e w5 ⟨rfl, hp5, hk6⟩; rw [htk] at hp5))
       have hh5 : HB w5 h f := hh4.keep hk6 (by simp; omega)
       have hk7 : Keeps [b, h] w w5 := hk5.trans (hk6.mono (by simp))
       clear hp4 hk4 hh4 hk5 hk6 htk hd45
       go_loopw [11] (fun q wq => ∃ m : Nat, A ≤ m ∧ m ≤ 256 ∧ (m ≤ A + 1 ∨ m = A) ∧ q = .int .i64 m ∧ PB wq b { p with bad := (j : Int), ix := j } ∧ HB wq h (fun n => f n || (decide (A ≤ n) && decide (n < m))) ∧ Keeps [b, h] w wq) (fun q _ => 256 - (intOf q).toNat)
       case atStart => exact ⟨A, by omega, by omega, Or.inr rfl, rfl, hp5, hh5.congr (stretch_none _ _), hk7⟩
       case round =>
        obtain ⟨m, hm0, hm1, hm2, rfl, hpx, hhx, hkx⟩ := hrel
        by_cases hmC : m ≤ A
        ·have hex := hhx.cell (k := m) (by omega)
         have hfm := hhx.frozen m
         have hmi : (m : Int) < 256 := by omega
         have hmj : (0 : Int) ≤ (m : Int) := by omega
         have hmc : (m : Int) ≤ (A : Int) := by omega
         have HX : Hid (HB (wr.setCell ⟨h, m, none⟩ (.bool true)) h (fun n => f n || (decide (A ≤ n) && decide (n < m + 1)))) := stretch_step hhx hm0
         go_wp2_with fail
         go_roundw
         case rel => exact ⟨m + 1, by omega, by omega, by omega, by go_num, hpx.setOther (by simp; omega) _, HX.out, hkx.setCell (by simp) _⟩
         case measure => simp [intOf]; omega
        ·have hmc : ¬ (m : Int) ≤ (A : Int) := by omega
         go_wp2_with fail
         go_roundw
         case rel => exact ⟨false, rfl, SRel.next hin H93.out (by rw [HR.out]; exact hpx) ⟨_, hhx, by rw [HR.out]; intro r j' e; cases e⟩ hkx⟩
         case measure => exact SRel.mu (h := h) (f := f) hp3 hb hs hi (by rw [HR.out]; exact hpx)
      | ok a j =>
       obtain ⟨hij2, hjs, ha0, ha1⟩ := innS_ok r1
       have H1 : Hid (innS p.s 0 i = .ok a j) := r1
       obtain ⟨A, rfl, hA⟩ := nat_of ha0 ha1
       by_cases e45 : at' p.s j = 45
       ·have htk : PS.took { p with ix := j } 45 = { p with ix := j + 1 } := by simp [PS.took, PS.cur, hb, e45]
        have hd45 : decide (PS.cur { p with ix := j } = 45) = true := by simp [PS.cur, hb, e45]
        have hj1 := at'_nn (s := p.s) (i := j) (by omega)
        have HR0 : Hid (rangeS p.s i = (innS p.s A (j + 1)).bind fun c k => .ok (stretch A c) k) := by
         show rangeS p.s i = _
         unfold rangeS
         rw [if_neg e91, r1]
         simp only [R.bind]
         rw [if_pos e45]
        clear r1 e91 e45
        go_wp2_with (first | (go_at_call 282; refine (inner_any b _ _ A hp5 hb hs (by omega) (by omega)).mono ?_; rintro e w6 ⟨v6, rfl, ⟨hv60, hv61, hv6a⟩, hp6, hk6⟩) | (go_at_call 81; refine (take_any b _ 45 _ hp4 (by omega) hs).mono ?_; rintro e w5 ⟨rfl, hp5, hk5⟩; rw [htk] at hp5) | (go_at_call 282; refine (inner_any b { p with ix := i } _ 0 (by exact hp3) hb hs (by omega) (by omega)).mono ?_; rintro e w4 ⟨v, rfl, ⟨hv0, hv1, hva⟩, hp4, hk4⟩; rw [after_ok (show innS _ 0 _ = _ from H1.out)] at hp4; have hvA := hva _ _ H1.out; subst hvA; clear hva) | (go_at_call 134; refine (next_any b _ 91 _ (hp3.drewN n1) (by omega)).mono ?_; rintro e w' ⟨rfl, n2, rfl⟩) | (go_at_call 134; refine (next_any b _ 93 _ hp3 (by omega)).mono ?_; rintro e w' ⟨rfl, n1, rfl⟩))
        have hkB : Keeps [b] (wr.drewN (n1 + n2)) w6 := (hk4.trans hk5).trans hk6
        have hh6 : HB w6 h f := (hh3.drewN (n1 + n2)).keep hkB (by simp; omega)
        have hk7 : Keeps [b, h] w w6 := (hk3.drewN (n1 + n2)).trans (hkB.mono (by simp))
        clear hp4 hk4 hp5 hk5 hk6 hkB htk hd45
        obtain ⟨C, rfl, hC⟩ := nat_of hv60 hv61
        cases r2 : innS p.s A (j + 1) with
        | bad k =>
         have HR : Hid (rangeS p.s i = .bad k) := by show rangeS p.s i = _; rw [HR0.out, r2]; rfl
         rw [after_bad (show innS _ _ _ = _ from r2)] at hp6
         clear r2 HR0 hv6a
         go_loopw [11] (fun q wq => ∃ m : Nat, A ≤ m ∧ m ≤ 256 ∧ (m ≤ C + 1 ∨ m = A) ∧ q = .int .i64 m ∧ PB wq b { p with bad := (k : Int), ix := k } ∧ HB wq h (fun n => f n || (decide (A ≤ n) && decide (n < m))) ∧ Keeps [b, h] w wq) (fun q _ => 256 - (intOf q).toNat)
         case atStart => exact ⟨A, by omega, by omega, Or.inr rfl, rfl, hp6, hh6.congr (stretch_none _ _), hk7⟩
         case round =>
          obtain ⟨m, hm0, hm1, hm2, rfl, hpx, hhx, hkx⟩ := hrel
          by_cases hmC : m ≤ C
          ·have hex := hhx.cell (k := m) (by omega)
           have hfm := hhx.frozen m
           have hmi : (m : Int) < 256 := by omega
           have hmj : (0 : Int) ≤ (m : Int) := by omega
           have hmc : (m : Int) ≤ (C : Int) := by omega
           have HX : Hid (HB (wr.setCell ⟨h, m, none⟩ (.bool true)) h (fun n => f n || (decide (A ≤ n) && decide (n < m + 1)))) := stretch_step hhx hm0
           go_wp2_with fail
           go_roundw
           case rel => exact ⟨m + 1, by omega, by omega, by omega, by go_num, hpx.setOther (by simp; omega) _, HX.out, hkx.setCell (by simp) _⟩
           case measure => simp [intOf]; omega
          ·have hmc : ¬ (m : Int) ≤ (C : Int) := by omega
           go_wp2_with fail
           go_roundw
           case rel => exact ⟨false, rfl, SRel.next hin H93.out (by rw [HR.out]; exact hpx) ⟨_, hhx, by rw [HR.out]; intro r j' e; cases e⟩ hkx⟩
           case measure => exact SRel.mu (h := h) (f := f) hp3 hb hs hi (by rw [HR.out]; exact hpx)
        | ok c k =>
         have hcC : (C : Int) = c := hv6a _ _ r2
         subst hcC
         have HR : Hid (rangeS p.s i = .ok (stretch A C) k) := by show rangeS p.s i = _; rw [HR0.out, r2]; rfl
         rw [after_ok (show innS _ _ _ = _ from r2)] at hp6
         clear r2 HR0 hv6a
         go_loopw [11] (fun q wq => ∃ m : Nat, A ≤ m ∧ m ≤ 256 ∧ (m ≤ C + 1 ∨ m = A) ∧ q = .int .i64 m ∧ PB wq b { p with ix := k } ∧ HB wq h (fun n => f n || (decide (A ≤ n) && decide (n < m))) ∧ Keeps [b, h] w wq) (fun q _ => 256 - (intOf q).toNat)
         case atStart => exact ⟨A, by omega, by omega, Or.inr rfl, rfl, hp6, hh6.congr (stretch_none _ _), hk7⟩
         case round =>
          obtain ⟨m, hm0, hm1, hm2, rfl, hpx, hhx, hkx⟩ := hrel
          by_cases hmC : m ≤ C
          ·have hex := hhx.cell (k := m) (by omega)
           have hfm := hhx.frozen m
           have hmi : (m : Int) < 256 := by omega
           have hmj : (0 : Int) ≤ (m : Int) := by omega
           have hmc : (m : Int) ≤ (C : Int) := by omega
           have HX : Hid (HB (wr.setCell ⟨h, m, none⟩ (.bool true)) h (fun n => f n || (decide (A ≤ n) && decide (n < m + 1)))) := stretch_step hhx hm0
           go_wp2_with fail
           go_roundw
           case rel => exact ⟨m + 1, by omega, by omega, by omega, by go_num, hpx.setOther (by simp; omega) _, HX.out, hkx.setCell (by simp) _⟩
           case measure => simp [intOf]; omega
          ·have hmc : ¬ (m : Int) ≤ (C : Int) := by omega
           go_wp2_with fail
           go_roundw
           case rel => exact ⟨false, rfl, SRel.next hin H93.out (by rw [HR.out]; exact hpx) ⟨_, hhx, by rw [HR.out]; exact stretch_end hm0 hm2 (by omega)⟩ hkx⟩
           case measure => exact SRel.mu (h := h) (f := f) hp3 hb hs hi (by rw [HR.out]; exact hpx)
       ·have htk : PS.took { p with ix := j } 45 = { p with ix := j } := by simp [PS.took, PS.cur, hb, e45]
        have hd45 : decide (PS.cur { p with ix := j } = 45) = false := by simp [PS.cur, hb, e45]
        have HR : Hid (rangeS p.s i = .ok (stretch A A) j) := by
         show rangeS p.s i = _
         unfold rangeS
         rw [if_neg e91, r1]
         simp only [R.bind]
         rw [if_neg e45]
        clear r1 e91 e45
        go_wp2_with (first | (go_at_call 81; refine (take_any b _ 45 _ hp4 (by omega) hs).mono ?_; rintro e w5 ⟨rfl, hp5, hk5⟩; rw [htk] at hp5) | (go_at_call 282; refine (inner_any b { p with ix := i } _ 0 (by exact hp3) hb hs (by omega) (by omega)).mono ?_; rintro e w4 ⟨v, rfl, ⟨hv0, hv1, hva⟩, hp4, hk4⟩; rw [after_ok (show innS _ 0 _ = _ from H1.out)] at hp4; have hvA := hva _ _ H1.out; subst hvA; clear hva) | (go_at_call 134; refine (next_any b _ 91 _ (hp3.drewN n1) (by omega)).mono ?_; rintro e w' ⟨rfl, n2, rfl⟩) | (go_at_call 134; refine (next_any b _ 93 _ hp3 (by omega)).mono ?_; rintro e w' ⟨rfl, n1, rfl⟩))
        have hkB : Keeps [b] (wr.drewN (n1 + n2)) w5 := hk4.trans hk5
        have hh6 : HB w5 h f := (hh3.drewN (n1 + n2)).keep hkB (by simp; omega)
        have hk7 : Keeps [b, h] w w5 := (hk3.drewN (n1 + n2)).trans (hkB.mono (by simp))
        clear hp4 hk4 hk5 hkB htk hd45
        go_loopw [11] (fun q wq => ∃ m : Nat, A ≤ m ∧ m ≤ 256 ∧ (m ≤ A + 1 ∨ m = A) ∧ q = .int .i64 m ∧ PB wq b { p with ix := j } ∧ HB wq h (fun n => f n || (decide (A ≤ n) && decide (n < m))) ∧ Keeps [b, h] w wq) (fun q _ => 256 - (intOf q).toNat)
        case atStart => exact ⟨A, by omega, by omega, Or.inr rfl, rfl, hp5, hh6.congr (stretch_none _ _), hk7⟩
        case round =>
         obtain ⟨m, hm0, hm1, hm2, rfl, hpx, hhx, hkx⟩ := hrel
         by_cases hmC : m ≤ A
         ·have hex := hhx.cell (k := m) (by omega)
          have hfm := hhx.frozen m
          have hmi : (m : Int) < 256 := by omega
          have hmj : (0 : Int) ≤ (m : Int) := by omega
          have hmc : (m : Int) ≤ (A : Int) := by omega
          have HX : Hid (HB (wr.setCell ⟨h, m, none⟩ (.bool true)) h (fun n => f n || (decide (A ≤ n) && decide (n < m + 1)))) := stretch_step hhx hm0
          go_wp2_with fail
          go_roundw
          case rel => exact ⟨m + 1, by omega, by omega, by omega, by go_num, hpx.setOther (by simp; omega) _, HX.out, hkx.setCell (by simp) _⟩
          case measure => simp [intOf]; omega
         ·have hmc : ¬ (m : Int) ≤ (A : Int) := by omega
          go_wp2_with fail
          go_roundw
          case rel => exact ⟨false, rfl, SRel.next hin H93.out (by rw [HR.out]; exact hpx) ⟨_, hhx, by rw [HR.out]; exact stretch_end hm0 hm2 (by omega)⟩ hkx⟩
          case measure => exact SRel.mu (h := h) (f := f) hp3 hb hs hi (by rw [HR.out]; exact hpx)
  ·obtain ⟨c0, h6, h7, f6, f7⟩ := hp3.main
   have hnn : ¬ (j : Int) < 0 := by omega
   have HU : Hid (SetU p.s j0 (.bad j)) := hU
   clear hU
   cases nt
   ·go_wp2_with fail
    go_loop [12] (fun q => q = .int .i64 0) (fun _ => 0)
    case atStart => rfl
    case round =>
     subst hrel
     go_wp2_with fail
     go_end0
     exact ⟨rfl, _, hfin (.bad j) HU.out, by rw [after_map]; exact hp3, ⟨f, hh3, by intro f' j' e; cases e⟩, hk3⟩
   ·go_wp2_with fail
    go_loopw [12] (fun q wq => ∃ m : Nat, m ≤ 256 ∧ q = .int .i64 m ∧ PB wq b { p with bad := (j : Int), ix := j } ∧ HB wq h (fun n => if n < m then !f n else f n) ∧ Keeps [b, h] w wq) (fun q _ => 256 - (intOf q).toNat)
    case atStart => exact ⟨0, by omega, rfl, hp3, hh3.congr (by simp), hk3⟩
    case round =>
     obtain ⟨m, hm, rfl, hpx, hhx, hkx⟩ := hrel
     by_cases hm2 : m < 256
     ·have hcm : wr.cell? ⟨h, m, none⟩ = some (.bool (f m)) := by rw [hhx.cell hm2]; simp
      have hfm := hhx.frozen m
      have hmi : (m : Int) < 256 := by omega
      have hmj : (0 : Int) ≤ (m : Int) := by omega
      have HX : Hid (HB (wr.setCell ⟨h, m, none⟩ (.bool (!f m))) h (fun n => if n < m + 1 then !f n else f n)) := flip_step hhx
      go_wp2_with fail
      go_roundw
      case rel => exact ⟨m + 1, by omega, by go_num, hpx.setOther (by simp; omega) _, HX.out, hkx.setCell (by simp) _⟩
      case measure => simp [intOf]; omega
     ·have e : m = 256 := by omega
      subst e
      go_wp2_with fail
      go_end0
      exact ⟨rfl, _, hfin (.bad j) HU.out, by rw [after_map]; exact hpx, ⟨_, hhx, by intro f' j' e; cases e⟩, hkx⟩
end Go.Proofs.YtnfojonmohijpaaGreatDoor
namespace Go.Proofs.YtnfojonmohijpaaGreatDoor
open Go.RowKit
def NAfter (p : PS) (q : R Nat) (p' : PS) : Prop := p' = p.after q ∨ (q = .bad p.s.size ∧ p' = { p with ix := p.s.size })
theorem mu_ix {w w' : World} {b i j : Nat} {p : PS} (hp : PB w b { p with ix := i }) (hp' : PB w' b { p with ix := j }) (hb : p.bad < 0) (hij : i < j) (hi : i ≤ 60) : muP w' b < muP w b := by
 rw [muP_eq hp, muP_eq hp']
 have hb' : ¬ 0 ≤ p.bad := by omega
 simp [hb']; omega
theorem more_w (b : Nat) (p : PS) (w : World) (hp : PB w b p) :
    Calls Tryz.prog 83 #[.pointer (some ⟨b, 0, none⟩)] w fun e w' => e = .returned (.bool (moreB p)) ∧ PB w' b p ∧ Keeps [] w w' := by
 refine (more_any b p w hp).mono ?_
 rintro e w' ⟨rfl, n, rfl⟩
 exact ⟨rfl, hp.drewN n, (Keeps.refl _ _).drewN n⟩
theorem next_w (b : Nat) (p : PS) (c : Int) (w : World) (hp : PB w b p) (hc : 0 ≤ c) :
    Calls Tryz.prog 134 #[.pointer (some ⟨b, 0, none⟩), .int .u8 c] w fun e w' => e = .returned (.bool (decide (p.cur = c))) ∧ PB w' b p ∧ Keeps [] w w' := by
 refine (next_any b p c w hp hc).mono ?_
 rintro e w' ⟨rfl, n, rfl⟩
 exact ⟨rfl, hp.drewN n, (Keeps.refl _ _).drewN n⟩
theorem digit_v (c : Int) (v : Bool) (h : digB c = v) (w : World) :
    Calls Tryz.prog 162 #[.int .u8 c] w fun e w' => e = .returned (.bool v) ∧ w' = w := by
 subst h; exact digit_any c w
set_option maxRecDepth 100000 in
set_option maxHeartbeats 2000000 in
theorem number_any (b : Nat) (p : PS) (least : Nat) (w : World) (hp : PB w b p) (hb : p.bad < 0) (hs : p.s.size ≤ 60) (hpi : p.ix ≤ p.s.size) (hl5 : least ≤ 5) :
    Calls Tryz.prog 226 #[.pointer (some ⟨b, 0, none⟩), .int .i64 least] w fun e w' =>
     ∃ (q : R Nat) (v : Nat) (p' : PS), e = .returned (.int .i64 v) ∧ NumL p.s least 0 false p.ix q ∧ v ≤ 5 ∧ (∀ m j, q = .ok m j → v = m) ∧ NAfter p q p' ∧ PB w' b p' ∧ Keeps [b] w w' := by
 go_enter Tryz.func226, Tryz.ntmps226
 go_wp2_with fail
 go_loopw [5, 6] (fun u v wr => ∃ (n : Nat) (any : Bool) (i : Nat), u = .int .i64 n ∧ v = .bool any ∧ n ≤ 5 ∧ i ≤ p.s.size ∧ PB wr b { p with ix := i } ∧ Hid (∀ q, NumL p.s least n any i q → NumL p.s least 0 false p.ix q) ∧ Keeps [b] w wr) (fun _ _ wr => muP wr b)
 case atStart => exact ⟨0, false, p.ix, rfl, rfl, by omega, hpi, hp, fun q hq => hq, Keeps.refl _ _⟩
 case round =>
  clear hp
  obtain ⟨n, any, i, rfl, rfl, hn5, hi, hp3, hinv, hk3⟩ := hrel
  have hn5i : (n : Int) ≤ 5 := by omega
  have hn0i : (0 : Int) ≤ (n : Int) := by omega
  have hl5i : (least : Int) ≤ 5 := by omega
  have hl0i : (0 : Int) ≤ (least : Int) := by omega
  cases hm : moreB { p with ix := i }
  ·have hge : p.s.size ≤ i := moreB_false_good hm hb
   have hie : i = p.s.size := by omega
   have HD : Hid (digB (at' p.s i) = false) := by show digB (at' p.s i) = false; rw [at'_ge hge]; decide
   have HI : Hid (i = p.s.size) := hie
   clear hge hie
   cases any
   ·go_wp2_with (first | (go_at_call 84; refine (fail_good b { p with ix := i } _ hp5 hb).mono ?_; rintro e w3 ⟨rfl, rfl⟩) | (go_at_call 83; refine (more_w b _ _ hp4).mono ?_; rintro e w2 ⟨rfl, hp5, hk5⟩) | (go_at_call 83; refine (more_w b _ _ hp3).mono ?_; rintro e w1 ⟨rfl, hp4, hk4⟩; obtain ⟨c0, h6, h7, f6, f7⟩ := hp4.main))
    go_ret
    exact ⟨.bad i, n, _, rfl, hinv.out _ (.short n false i HD.out (Or.inl rfl)), hn5, by simp, Or.inl rfl, hp5.setBad _, ((hk3.trans (hk4.mono (by simp))).trans (hk5.mono (by simp))).setCell (by simp) _⟩
   ·go_wp2_with (first | (go_at_call 83; refine (more_w b _ _ hp4).mono ?_; rintro e w2 ⟨rfl, hp5, hk5⟩) | (go_at_call 83; refine (more_w b _ _ hp3).mono ?_; rintro e w1 ⟨rfl, hp4, hk4⟩; obtain ⟨c0, h6, h7, f6, f7⟩ := hp4.main))
    go_ret
    by_cases hle : least ≤ n
    ·exact ⟨.ok n i, n, _, rfl, hinv.out _ (.done n i HD.out hle), hn5, by intro m j e; cases e; rfl, Or.inl rfl, hp5, ((hk3.trans (hk4.mono (by simp))).trans (hk5.mono (by simp)))⟩
    ·exact ⟨.bad i, n, _, rfl, hinv.out _ (.short n true i HD.out (Or.inr (by omega))), hn5, by simp, Or.inr ⟨by rw [HI.out], by rw [← HI.out]⟩, hp5, ((hk3.trans (hk4.mono (by simp))).trans (hk5.mono (by simp)))⟩
  ·have hlt : i < p.s.size := (PS.cur_more hm).1
   have ec := at'_lt hlt
   have hii : (i : Int) < (p.s.size : Int) := by omega
   have hij : (0 : Int) ≤ (i : Int) := by omega
   have hik : (i : Int) ≤ 60 := by omega
   have hc1 := (p.s[i]).toNat_lt
   have hcl : (0 : Int) ≤ (p.s[i].toNat : Int) := by omega
   have hcu : (p.s[i].toNat : Int) ≤ 255 := by omega
   clear hc1
   generalize hgc : (p.s[i].toNat : Int) = c at *
   have EC : Hid (at' p.s i = c) := ec
   clear ec
   cases hdg : digB c
   ·have HD : Hid (digB (at' p.s i) = false) := by show digB (at' p.s i) = false; rw [EC.out]; exact hdg
    have DV := digit_v c false hdg
    clear hdg
    cases any
    ·go_wp2_with (first | (go_at_call 83; refine (more_w b _ _ hp3).mono ?_; rintro e w1 ⟨rfl, hp4, hk4⟩; obtain ⟨c0, h6, h7, f6, f7⟩ := hp4.main))
     go_quiet ((go_at_call 162; exact Calls.quiet_of_same (DV _)))
     replace hp4 := hp4.drewN nq
     replace hk4 := hk4.drewN nq
     go_wp2_with (first | (go_at_call 84; refine (fail_good b { p with ix := i } _ hp5 hb).mono ?_; rintro e w3 ⟨rfl, rfl⟩) | (go_at_call 83; refine (more_w b _ _ hp4).mono ?_; rintro e w2 ⟨rfl, hp5, hk5⟩))
     go_ret
     exact ⟨.bad i, n, _, rfl, hinv.out _ (.short n false i HD.out (Or.inl rfl)), hn5, by simp, Or.inl rfl, hp5.setBad _, ((hk3.trans (hk4.mono (by simp))).trans (hk5.mono (by simp))).setCell (by simp) _⟩
    ·by_cases hle : n < least
     ·have hlei : (n : Int) < (least : Int) := by omega
      go_wp2_with (first | (go_at_call 83; refine (more_w b _ _ hp3).mono ?_; rintro e w1 ⟨rfl, hp4, hk4⟩; obtain ⟨c0, h6, h7, f6, f7⟩ := hp4.main))
      go_quiet ((go_at_call 162; exact Calls.quiet_of_same (DV _)))
      replace hp4 := hp4.drewN nq
      replace hk4 := hk4.drewN nq
      go_wp2_with (first | (go_at_call 84; refine (fail_good b { p with ix := i } _ hp5 hb).mono ?_; rintro e w3 ⟨rfl, rfl⟩) | (go_at_call 83; refine (more_w b _ _ hp4).mono ?_; rintro e w2 ⟨rfl, hp5, hk5⟩))
      go_ret
      exact ⟨.bad i, n, _, rfl, hinv.out _ (.short n true i HD.out (Or.inr hle)), hn5, by simp, Or.inl rfl, hp5.setBad _, ((hk3.trans (hk4.mono (by simp))).trans (hk5.mono (by simp))).setCell (by simp) _⟩
     ·have hlei : ¬ (n : Int) < (least : Int) := by omega
      go_wp2_with (first | (go_at_call 83; refine (more_w b _ _ hp3).mono ?_; rintro e w1 ⟨rfl, hp4, hk4⟩; obtain ⟨c0, h6, h7, f6, f7⟩ := hp4.main))
      go_quiet ((go_at_call 162; exact Calls.quiet_of_same (DV _)))
      replace hp4 := hp4.drewN nq
      replace hk4 := hk4.drewN nq
      go_wp2_with (first | (go_at_call 83; refine (more_w b _ _ hp4).mono ?_; rintro e w2 ⟨rfl, hp5, hk5⟩))
      go_ret
      exact ⟨.ok n i, n, _, rfl, hinv.out _ (.done n i HD.out (by omega)), hn5, by intro m j e; cases e; rfl, Or.inl rfl, hp5, ((hk3.trans (hk4.mono (by simp))).trans (hk5.mono (by simp)))⟩
   ·have hdd : 48 ≤ c ∧ c ≤ 57 := by simpa [digB] using hdg
    obtain ⟨hd1, hd2⟩ := hdd
    have HD : Hid (digB (at' p.s i) = true) := by show digB (at' p.s i) = true; rw [EC.out]; exact hdg
    have DV := digit_v c true hdg
    clear hdg
    obtain ⟨x, hx⟩ : ∃ x : Nat, (x : Int) = 10 * (n : Int) + (c - 48) := ⟨(10 * (n : Int) + (c - 48)).toNat, by omega⟩
    have HX : Hid ((x : Int) = 10 * (n : Int) + (at' p.s i - 48)) := by show (x : Int) = 10 * (n : Int) + (at' p.s i - 48); rw [EC.out]; exact hx
    have hxr : 10 * (n : Int) + (c - 48) = (x : Int) := hx.symm
    clear hx
    by_cases hbig : 5 < x ∨ (0 < x ∧ x < least)
    ·have HBG : Hid (¬ (x ≤ 5 ∧ (x = 0 ∨ least ≤ x))) := by show ¬ _; omega
     rcases hbig with h | ⟨h, h'⟩
     ·have hxi : 5 < (x : Int) := by omega
      go_wp2_with (first | (go_at_call 83; refine (more_w b _ _ hp3).mono ?_; rintro e w1 ⟨rfl, hp4, hk4⟩; obtain ⟨c0, h6, h7, f6, f7⟩ := hp4.main))
      go_quiet ((go_at_call 162; exact Calls.quiet_of_same (DV _)))
      go_wp2_with fail
      go_quiet (fail)
      go_wp2_with (first | (go_at_call 84; refine (fail_good b { p with ix := i } _ (by exact hp4) hb).mono ?_; rintro e w3 ⟨rfl, rfl⟩))
      go_ret
      exact ⟨.bad i, 0, _, rfl, hinv.out _ (.big n x any i HD.out HX.out HBG.out), by omega, by simp, Or.inl rfl, PB.setBad (p := { p with ix := i }) (by exact hp4) _, (Keeps.drewN (hk3.trans (hk4.mono (by simp))) _).setCell (by simp) _⟩
     ·have hxi : ¬ 5 < (x : Int) := by omega
      have hxj : 0 < (x : Int) := by omega
      have hxk : (x : Int) < (least : Int) := by omega
      go_wp2_with (first | (go_at_call 83; refine (more_w b _ _ hp3).mono ?_; rintro e w1 ⟨rfl, hp4, hk4⟩; obtain ⟨c0, h6, h7, f6, f7⟩ := hp4.main))
      go_quiet ((go_at_call 162; exact Calls.quiet_of_same (DV _)))
      go_wp2_with fail
      go_quiet (fail)
      go_wp2_with (first | (go_at_call 84; refine (fail_good b { p with ix := i } _ (by exact hp4) hb).mono ?_; rintro e w3 ⟨rfl, rfl⟩))
      go_ret
      exact ⟨.bad i, 0, _, rfl, hinv.out _ (.big n x any i HD.out HX.out HBG.out), by omega, by simp, Or.inl rfl, PB.setBad (p := { p with ix := i }) (by exact hp4) _, (Keeps.drewN (hk3.trans (hk4.mono (by simp))) _).setCell (by simp) _⟩
    ·have hxi : ¬ 5 < (x : Int) := by omega
     by_cases hx0 : x = 0
     ·have hxj : ¬ 0 < (x : Int) := by omega
      clear hx0
      go_wp2_with (first | (go_at_call 83; refine (more_w b _ _ hp3).mono ?_; rintro e w1 ⟨rfl, hp4, hk4⟩; obtain ⟨c0, h6, h7, f6, f7⟩ := hp4.main))
      go_quiet ((go_at_call 162; exact Calls.quiet_of_same (DV _)))
      go_wp2_with fail
      go_quiet (fail)
      go_wp2_with fail
      go_roundw
      case rel => exact ⟨x, true, i + 1, rfl, rfl, by omega, by omega, PB.setIx (p := { p with ix := i }) (by exact hp4) (i + 1), fun q hq => hinv.out q (.dig n x any i q HD.out HX.out (by omega) (by omega) hq), (Keeps.drewN (hk3.trans (hk4.mono (by simp))) _).setCell (by simp) _⟩
      case measure => exact mu_ix hp3 (PB.setIx (p := { p with ix := i }) (by exact hp4) (i + 1)) hb (by omega) (by omega)
     ·have hxj : 0 < (x : Int) := by omega
      have hxk : ¬ (x : Int) < (least : Int) := by omega
      go_wp2_with (first | (go_at_call 83; refine (more_w b _ _ hp3).mono ?_; rintro e w1 ⟨rfl, hp4, hk4⟩; obtain ⟨c0, h6, h7, f6, f7⟩ := hp4.main))
      go_quiet ((go_at_call 162; exact Calls.quiet_of_same (DV _)))
      go_wp2_with fail
      go_quiet (fail)
      go_wp2_with fail
      go_roundw
      case rel => exact ⟨x, true, i + 1, rfl, rfl, by omega, by omega, PB.setIx (p := { p with ix := i }) (by exact hp4) (i + 1), fun q hq => hinv.out q (.dig n x any i q HD.out HX.out (by omega) (by omega) hq), (Keeps.drewN (hk3.trans (hk4.mono (by simp))) _).setCell (by simp) _⟩
      case measure => exact mu_ix hp3 (PB.setIx (p := { p with ix := i }) (by exact hp4) (i + 1)) hb (by omega) (by omega)
end Go.Proofs.YtnfojonmohijpaaGreatDoor
namespace Go.Proofs.YtnfojonmohijpaaGreatDoor
open Go.RowKit
theorem Tryz.infoNode : (Tryz.prog.info? 157).map (fun i => (i.zero, i.size, i.bytes)) = some (some (.agg #[.int .u8 0, .slice none 0 0, .int .i64 0, .int .i64 0, .int .i64 0, .slice none 0 0]), 6, 80) := by kernel_rfl
theorem PB.nodes {w : World} {b : Nat} {p : PS} (h : PB w b p) : w.cell? ⟨b, 1, none⟩ = some p.nodes ∧ w.frozen? ⟨b, 1, none⟩ = false := by
 unfold PB at h
 simp [World.cell?, World.frozen?, h, PS.cells]
theorem PB.setNodes {w : World} {b : Nat} {p : PS} (h : PB w b p) (v : Value) : PB (w.setCell ⟨b, 1, none⟩ v) b { p with nodes := v } := by
 unfold PB at *
 simp [World.setCell, Array.getElem?_modify, h, PS.cells]
theorem _root_.Go.World.ownsRow.setOther {w : World} {base : Nat} {e : TypeId} {size : Nat} {v : Value} {n : Nat} {xs : List Value} (h : w.ownsRow base e size v n xs) {a : Addr} (ha : v.ownBlock ≠ some a.block) (u : Value) : (w.setCell a u).ownsRow base e size v n xs :=
 h.kept (row := some a.block) ⟨rfl, rfl, rfl, by simp, fun k _ hk => Below.heap_setCell _ _ _ _ (by intro e; exact hk (by rw [e]))⟩ (Or.inr ha)
theorem _root_.Go.World.ownsRow.keep {w w' : World} {base : Nat} {e : TypeId} {size : Nat} {v : Value} {n : Nat} {xs : List Value} {S : List Nat} (h : w.ownsRow base e size v n xs) (hk : Keeps S w w') (hs : ∀ g, v.ownBlock = some g → g ∉ S) : w'.ownsRow base e size v n xs := by
 refine ⟨h.1, ?_⟩
 rcases h.2 with hn | ⟨g, cap, cur, rfl, hb, hgg, rest⟩
 ·exact .inl hn
 ·refine .inr ⟨g, cap, cur, rfl, hb, ?_, rest⟩
  rw [hk.block g (Array.getElem?_eq_some_iff.1 hgg).1 (hs g rfl)]
  exact hgg
set_option maxRecDepth 100000 in
set_option maxHeartbeats 3200000 in
theorem add_any (b : Nat) (p : PS) (w : World) (n : Nat) (xs : List Value) (k n1 n2 n3 : Int) (hv kv : Value) (hv1 : hv.oneCell' = true) (kv1 : kv.oneCell' = true)
    (hp : PB w b p) (hown : w.ownsRow 0 157 6 p.nodes n xs) (hne : p.nodes.ownBlock ≠ some b) (hn : n ≤ 1000) :
    Calls Tryz.prog 136 #[.pointer (some ⟨b, 0, none⟩), .agg #[.int .u8 k, hv, .int .i64 n1, .int .i64 n2, .int .i64 n3, kv]] w fun e w' =>
     ∃ g cap, e = .returned (.int .i64 n) ∧ PB w' b { p with nodes := .slice (some ⟨g, 0, none⟩) (n + 1) cap } ∧
      w'.ownsRow 0 157 6 (.slice (some ⟨g, 0, none⟩) (n + 1) cap) (n + 1) (xs ++ [.int .u8 k, hv, .int .i64 n1, .int .i64 n2, .int .i64 n3, kv]) ∧
      (p.nodes.ownBlock = some g ∨ w.heap.size ≤ g) ∧ Keeps (b :: p.nodes.ownBlock.toList) w w' := by
 obtain ⟨i0, hi0, hz0, hz1, hz2⟩ := info_parts Tryz.infoNode
 obtain ⟨hc, hf⟩ := hp.nodes
 have lg := World.block_lt_of_cell? w _ hc
 have hlm : n + 1 ≤ maxLen := by unfold maxLen; omega
 go_enter Tryz.func136, Tryz.ntmps136
 go_wp2_with fail
 have hp1 : PB (w.alloc (.cells #[.int .u8 k, hv, .int .i64 n1, .int .i64 n2, .int .i64 n3, kv] 157)) b p := hp.keep ((Keeps.refl [] w).alloc _) (by simp)
 have hown1 := hown.alloc (.cells #[.int .u8 k, hv, .int .i64 n1, .int .i64 n2, .int .i64 n3, kv] 157)
 have hblk := heap_alloc_new w (.cells #[.int .u8 k, hv, .int .i64 n1, .int .i64 n2, .int .i64 n3, kv] 157)
 have hk1 := (Keeps.refl (b :: p.nodes.ownBlock.toList) w).alloc (.cells #[.int .u8 k, hv, .int .i64 n1, .int .i64 n2, .int .i64 n3, kv] 157)
 have hH : (w.alloc (.cells #[.int .u8 k, hv, .int .i64 n1, .int .i64 n2, .int .i64 n3, kv] 157)).heap.size = w.heap.size + 1 := by simp
 have hrow : p.nodes.ownBlock ≠ some w.heap.size := by
  intro e
  have := (hown.lt _ e).2
  omega
 generalize w.alloc (.cells #[.int .u8 k, hv, .int .i64 n1, .int .i64 n2, .int .i64 n3, kv] 157) = W at *
 obtain ⟨hc1, hf1⟩ := hp1.nodes
 have e0 : W.cell? ⟨w.heap.size, 0, none⟩ = some (.int .u8 k) := by simp [World.cell?, hblk]
 have e1 : W.cell? ⟨w.heap.size, 1, none⟩ = some hv := by simp [World.cell?, hblk]
 have e2 : W.cell? ⟨w.heap.size, 2, none⟩ = some (.int .i64 n1) := by simp [World.cell?, hblk]
 have e3 : W.cell? ⟨w.heap.size, 3, none⟩ = some (.int .i64 n2) := by simp [World.cell?, hblk]
 have e4 : W.cell? ⟨w.heap.size, 4, none⟩ = some (.int .i64 n3) := by simp [World.cell?, hblk]
 have e5 : W.cell? ⟨w.heap.size, 5, none⟩ = some kv := by simp [World.cell?, hblk]
 generalize hHH : w.heap.size = H at *
 have h1c : ∀ u ∈ [Value.int .u8 k, hv, .int .i64 n1, .int .i64 n2, .int .i64 n3, kv], u.oneCell' = true := by
  intro u hu
  simp only [List.mem_cons, List.not_mem_nil, or_false] at hu
  rcases hu with rfl | rfl | rfl | rfl | rfl | rfl <;> first | rfl | assumption
 have hnew : ∀ o, (W.alloc o).heap[H + 1]? = some o := fun o => by rw [← hH]; exact heap_alloc_new W o
 clear hblk hc hf hp hown
 go_region_law
  ((refine step_append_lies _ (by rfl) _ _ _ (by rfl) 0 157 i0 _ 6 80 Tryz.underlying100 hi0 hz0 hz1 hz2 rfl (by omega) p.nodes n xs (by rfl) ((hown1.alloc _).drew)
      ⟨H + 1, 0, none⟩ 1 1 [.int .u8 k, hv, .int .i64 n1, .int .i64 n2, .int .i64 n3, kv] (by rfl) (by rfl) (World.news_of_block (cs := #[.int .u8 k, hv, .int .i64 n1, .int .i64 n2, .int .i64 n3, kv]) (t := 157) (fr := (0, 0)) (hnew _)) h1c
      (by omega) hlm (by omega) (by simp) (H + 2) (by simp [hH]) ?_; intro g cap w1 hown2 hgrow hat hlt; have hfz : w1.frozen? ⟨b, 1, none⟩ = false := (hgrow.frozen_far ⟨b, 1, none⟩ (by simp; omega) (Ne.symm hne)).trans ((World.frozen?_alloc_old W _ ⟨b, 1, none⟩ (by simp; omega)).trans hf1); have hcz : w1.cell? ⟨b, 1, none⟩ = some p.nodes := (hgrow.cell_far ⟨b, 1, none⟩ (by simp; omega) (Ne.symm hne)).trans ((World.cell?_alloc_old W _ ⟨b, 1, none⟩ (by simp; omega)).trans hc1)))
 all_goals
  have hbg : b ≠ g := by
   rintro rfl
   rcases hat with h | h
   ·exact hne h
   ·omega
  have hge : p.nodes.ownBlock = some g ∨ H ≤ g := by
   rcases hat with h | h
   ·exact Or.inl h
   ·exact Or.inr (by omega)
  have hkk : Keeps (b :: p.nodes.ownBlock.toList) w w1 := hk1.trans (((Keeps.refl _ _).alloc (.cells #[.int .u8 k, hv, .int .i64 n1, .int .i64 n2, .int .i64 n3, kv] 157)).drew.trans ⟨hgrow.os, hgrow.tape, hgrow.output, hgrow.size, fun j hj hnj => hgrow.block j hj (by intro e; apply hnj; rw [← e]; simp)⟩)
  have hp2 : PB w1 b p := by
   have := hgrow.block b (by simp; omega) (Ne.symm hne)
   unfold PB
   rw [this]
   exact hp1.keep ((Keeps.refl [] W).alloc _).drew (by simp)
  clear hat hlt hp1 hown1 hk1
  go_wp2_with fail
  go_ret
  exact ⟨g, cap, ret_int (by omega), hp2.setNodes _, hown2.setOther (by simp [Value.ownBlock]; omega) _, (by rw [hHH]; exact hge), hkk.setCell (by simp) _⟩
end Go.Proofs.YtnfojonmohijpaaGreatDoor
