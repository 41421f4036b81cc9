/-
  DERIVED. The walk of Munched.
-/
import Derived.Test.YtnfojonmohijpabGreatDoorJKG
import Derived.Test.YtnfojonmohijpabGreatDoorJYF
import Derived.Test.YtnfojonmohijpabGreatDoorJOM
import Derived.Test.YtnfojonmohijpabGreatDoorJOF
import Derived.BigQuiet
import Derived.Lib.SliceRun
import Derived.Deep.QuietTactic
import Derived.Test.YtnfojonmohijpabGreatDoorJPC
import Derived.Test.YtnfojonmohijpabGreatDoorJNI
import Derived.Test.YtnfojonmohijpabGreatDoorRows
import Derived.ProofKit
import Derived.LaidMore
import Derived.OpenShut
import Derived.Stop.Joined
import Derived.ChangeMaps5
set_option linter.unusedSimpArgs false
set_option linter.unusedVariables false
namespace Go.Proofs.YtnfojonmohijpabGreatDoor
open Go.RowKit
theorem two_ruc {Y : World} {g : Nat} {p q : ByteArray} {sk : Bool} (h : Y.heap[g]? = some (.cells #[.string nmO, .string p, .bool false, .string nmT, .string q, .bool sk] 28 (0, 0))) : RuC Y g 0 (twoR p q sk) := by
 intro k r hr j u hu
 have hj : j < 3 := (List.getElem?_eq_some_iff.1 hu).1
 rw [Lib.cell_of_heap h]
 match k, hr with
 | 0, hr =>
  cases hr
  match j, hj, hu with
  | 0, _, hu => exact hu
  | 1, _, hu => exact hu
  | 2, _, hu => exact hu
 | 1, hr =>
  cases hr
  match j, hj, hu with
  | 0, _, hu => exact hu
  | 1, _, hu => exact hu
  | 2, _, hu => exact hu
 | k + 2, hr => simp [twoR] at hr
theorem tkr_sl {w : World} {v : Value} {L : List Tok} (h : TkR w v L) : ∃ a c, v = .slice a L.length c := by
 rcases Nat.eq_zero_or_pos L.length with h0 | h0
 ·unfold TkR at h
  rw [h0] at h ⊢
  rcases h.2 with ⟨h1, h2⟩ | ⟨g, cap, cells, h1, _⟩
  ·first | exact ⟨none, 0, h1⟩ | exact ⟨none, 0, h2⟩
  ·exact ⟨_, _, h1⟩
 ·obtain ⟨g, c, h1, _⟩ := World.ownsRow.form h h0
  exact ⟨_, _, h1⟩
theorem tkV_get : ∀ {L : List Tok} {k : Nat} {tk : Tok}, L[k]? = some tk → ∀ (q : Nat) (c : Value), [Value.int .i64 tk.rule, .int .i64 tk.frm, .int .i64 tk.to, .int .i64 tk.line, .int .i64 tk.col][q]? = some c → (tkV L)[k * 5 + q]? = some c
 | [], k, tk, h, q, c, hc => by simp at h
 | x :: L, 0, tk, h, q, c, hc => by
  simp at h
  subst h
  have h5 : q < 5 := (List.getElem?_eq_some_iff.1 hc).1
  rw [tkV, Nat.zero_mul, Nat.zero_add, List.getElem?_append_left (by simpa using h5)]
  exact hc
 | x :: L, k + 1, tk, h, q, c, hc => by
  have ih := tkV_get (L := L) (k := k) (by simpa using h) q c hc
  rw [tkV, List.getElem?_append_right (by simp; omega)]
  simp only [List.length_cons, List.length_nil]
  rw [show (k + 1) * 5 + q - (0 + 1 + 1 + 1 + 1 + 1) = k * 5 + q by omega]
  exact ih
theorem Tks.count {s : ByteArray} {xs : List Pat} {sk : Nat → Bool} {i e : Nat} {l : List Tok} (h : Tks s xs sk i l e) : l.length + i ≤ e := by
 induction h with
 | fin i _ => simp
 | skip i r j l e hb _ _ ih => have := hb.1; omega
 | tok i r j l e hb _ _ ih => have := hb.1; simp only [List.length_cons]; omega
def MuA (m ts i r : Nat) (a b c : Value) : Prop := (∃ z : Nat, c = .int .i64 z ∧ m ≤ z ∧ z ≤ ts ∧ a = .int .i64 (-1) ∧ b = .int .i64 i) ∨ (c = .int .i64 ((m : Int) - 1) ∧ a = .int .i64 r ∧ b = .int .i64 m)
def MuB (z m i r : Nat) (a b c : Value) : Prop := (∃ d : Nat, c = .int .i64 d ∧ d ≤ 2 ∧ a = .int .i64 (-1) ∧ b = .int .i64 i ∧ (z = m → d ≤ r)) ∨ (z = m ∧ a = .int .i64 r ∧ b = .int .i64 m ∧ c = .int .i64 ((r : Int) + 1))
set_option maxRecDepth 100000 in
set_option maxHeartbeats 40000000 in
theorem munched_any (v1 v2 : Value) (z1 z2 : List Int) (s : ByteArray) (sk : Bool) (w : World) (hr1 : RawIs w v1 z1) (hr2 : RawIs w v2 z2) (hgn : GN w) :
    Calls Tryz.prog 3 #[v1, v2, .string s, .bool sk] w fun e w' => e = .returned (.bool true) ∧ Keeps [] w w' := by
 have HA : Hid (∀ w, GN w → Calls Tryz.prog 6 #[] w fun e w' => e = .returned (.bool true) ∧ Keeps [] w w') := awake_any
 go_enter Tryz.func3, Tryz.ntmps3
 go_wp2_with fail
 refine (HA.out w hgn).mono ?_
 rintro e w1 ⟨rfl, hk1⟩
 have hg1 := hgn.keep hk1 (by simp)
 have hr11 := hr1.keep hk1
 have hr21 := hr2.keep hk1
 clear hr1 hr2 hgn HA
 go_wp2_with fail
 refine (ktext_any s 9 (by decide) w1).mono ?_
 rintro e w2 ⟨rfl, hk2⟩
 have hkA := hk1.trans hk2
 have hg2 := hg1.keep hk2 (by simp)
 have hr12 := hr11.keep hk2
 have hr22 := hr21.keep hk2
 have hts := txT_size s 9
 have hnl := txT_no10 s 9
 generalize txT s 9 = t at hts hnl ⊢
 have HT : Hid (t.size ≤ 9) := hts
 have HNL : Hid (∀ i, at' t i ≠ 10) := hnl
 have hts' : (t.size : Int) ≤ 9 := by omega
 clear hk1 hk2 hg1 hr11 hr21 hts hnl
 go_wp2_with fail
 refine (made_any v1 z1 2 (by decide) 0 (by decide) w2 hr12).mono ?_
 rintro e w3 ⟨rfl, hk3⟩
 have hMp := made2_md (cv z1) 0
 have hLp := mdT_len (cv z1) 2 0
 generalize mdT (cv z1) 2 0 = p at hMp hLp ⊢
 have hkB := hkA.trans hk3
 have hg3 := hg2.keep hk3 (by simp)
 have hr23 := hr22.keep hk3
 clear hk3 hkA hg2 hr12 hr22
 go_wp2_with fail
 refine (made_any v2 z2 2 (by decide) 0 (by decide) w3 hr23).mono ?_
 rintro e w4 ⟨rfl, hk4⟩
 have hMq := made2_md (cv z2) 0
 have hLq := mdT_len (cv z2) 2 0
 generalize mdT (cv z2) 2 0 = q at hMq hLq ⊢
 have hkC := hkB.trans hk4
 have hg4 := hg3.keep hk4 (by simp)
 have HMP : Hid (Made2 p ∧ p.length ≤ 60) := ⟨hMp, by omega⟩
 have HMQ : Hid (Made2 q ∧ q.length ≤ 60) := ⟨hMq, by omega⟩
 have hzp : ((bOf p).size : Int) ≤ 60 := by rw [bOf_size]; omega
 have hzq : ((bOf q).size : Int) ≤ 60 := by rw [bOf_size]; omega
 clear hk4 hkB hg3 hr23 hMp hMq hLp hLq
 have hps : (w4.alloc (.cells #[.string (bOf p), .string (bOf q)] 9)).heap[w4.heap.size]? = some (.cells #[.string (bOf p), .string (bOf q)] 9 (0, 0)) := heap_alloc_new w4 _
 have hkD : Keeps [] w4 (w4.alloc (.cells #[.string (bOf p), .string (bOf q)] 9)) := (Keeps.refl [] w4).alloc _
 go_upto_region 6 with (fail)
 obtain ⟨gp, hgp⟩ : ∃ g, w4.heap.size = g := ⟨_, rfl⟩
 rw [hgp] at hps ⊢
 have hkE := hkC.trans hkD
 have hg5 := hg4.keep hkD (by simp)
 generalize w4.alloc (.cells #[.string (bOf p), .string (bOf q)] 9) = X at *
 have c0 : X.cell? ⟨gp, 0, none⟩ = some (.string (bOf p)) := by rw [Lib.cell_of_heap hps]; rfl
 have c1 : X.cell? ⟨gp, 1, none⟩ = some (.string (bOf q)) := by rw [Lib.cell_of_heap hps]; rfl
 have d0 : X.drew.cell? ⟨gp, 0, none⟩ = some (.string (bOf p)) := c0
 have d1 : X.drew.cell? ⟨gp, 1, none⟩ = some (.string (bOf q)) := c1
 clear hgp hkD hkC hg4
 go_region
 have hrw : (X.alloc (.cells #[.string ⟨#[111, 110, 101]⟩, .string (bOf p), .bool false, .string ⟨#[116, 119, 111]⟩, .string (bOf q), .bool sk] 28)).drew.heap[X.heap.size]? = some (.cells #[.string nmO, .string (bOf p), .bool false, .string nmT, .string (bOf q), .bool sk] 28 (0, 0)) := heap_alloc_new X _
 have hkF : Keeps [] X (X.alloc (.cells #[.string ⟨#[111, 110, 101]⟩, .string (bOf p), .bool false, .string ⟨#[116, 119, 111]⟩, .string (bOf q), .bool sk] 28)).drew := ((Keeps.refl [] X).alloc _).drewN 1
 have hRu := two_ruc hrw
 obtain ⟨gr, hgr⟩ : ∃ g, X.heap.size = g := ⟨_, rfl⟩
 rw [hgr] at hRu ⊢
 have hru : RulIs (X.alloc (.cells #[.string ⟨#[111, 110, 101]⟩, .string (bOf p), .bool false, .string ⟨#[116, 119, 111]⟩, .string (bOf q), .bool sk] 28)).drew (.slice (some ⟨gr, 0, none⟩) 2 2) (twoR (bOf p) (bOf q) sk) := ⟨by simp [twoR], Or.inr ⟨gr, 0, 2, rfl, hRu, by simp [twoR], by decide⟩⟩
 have hkG := hkE.trans hkF
 have hg6 := hg5.keep hkF (by simp)
 have e0 := keep_cell hkF c0
 have e1 := keep_cell hkF c1
 generalize (X.alloc (.cells #[.string ⟨#[111, 110, 101]⟩, .string (bOf p), .bool false, .string ⟨#[116, 119, 111]⟩, .string (bOf q), .bool sk] 28)).drew = Y at *
 have i3 : decide ((60 : Int) < ((bOf p).size : Int)) = false := by simp; omega
 have i4 : decide ((60 : Int) < ((bOf q).size : Int)) = false := by simp; omega
 have i5 : ¬ (60 : Int) < ((bOf p).size : Int) := by omega
 have i6 : ¬ (60 : Int) < ((bOf q).size : Int) := by omega
 clear hrw hRu hgr hkF hkE hg5 c0 c1 d0 d1 hps
 go_wp2_with fail
 refine (ytokens_any _ _ t Y hru hg6).mono ?_
 rintro e w6 ⟨vl, L, en, n, rfl, hTk, hrow, hfr, hk6⟩
 obtain ⟨rfl, x, y, hT, mx, my⟩ := munched_math HMP.out.1 HMQ.out.1 HMP.out.2 HMQ.out.2 HT.out hTk
 have hen := hT.ends (Nat.zero_le _)
 obtain ⟨la, lc, rfl⟩ := tkr_sl hrow
 have hkH := hkG.trans hk6
 have hg7 := hg6.keep hk6 (by simp)
 have f0 := keep_cell hk6 e0
 have f1 := keep_cell hk6 e1
 have HT0 : Hid (Tks t [x, y] (skO (twoR (bOf p) (bOf q) sk)) 0 L en) := hT
 have HX : Hid (MtOk p t x ∧ MtOk q t y) := ⟨mx, my⟩
 have HE : Hid (en ≤ t.size) := hen.2
 have j1 : decide ((en : Int) < 0) = false := by simp
 have j2 : decide ((t.size : Int) < (en : Int)) = false := by have := hen.2; simp; omega
 have j6 : decide (t.size < en) = false := by have := hen.2; simp; omega
 have j3 : ¬ (t.size : Int) < (en : Int) := by have := hen.2; omega
 have j4 : ¬ (en : Int) < 0 := by omega
 have j5 : (en : Int) ≤ 9 := by have := hen.2; have := HT.out; omega
 obtain ⟨ll, hll⟩ : ∃ ll, L.length = ll := ⟨_, rfl⟩
 rw [hll]
 have HLL : Hid (L.length = ll) := hll
 have HLE : Hid (L.length ≤ 9) := (by have := HT0.out.count; have := HE.out; have := HT.out; omega : L.length ≤ 9)
 clear hTk hT mx my hen hk6 hkG hg6 e0 e1 hru i3 i4 i5 i6 hll HMP HMQ hzp hzq hfr
 go_wp2_with fail
 go_loopw [16, 17] (fun q16 q17 wr => ∃ (k i : Nat), q16 = .int .i64 k ∧ q17 = .int .i64 i ∧ i ≤ en ∧ k ≤ ll ∧ Hid (Tks t [x, y] (skO (twoR (bOf p) (bOf q) sk)) i (L.drop k) en) ∧ Keeps [] w6 wr) (fun _ q _ => en - (intOf q).toNat)
 case atStart => exact ⟨0, 0, rfl, rfl, Nat.zero_le _, Nat.zero_le _, HT0.out, Keeps.refl _ _⟩
 case round =>
  obtain ⟨k, i, rfl, rfl, hi, hk, HTi, hK⟩ := hrel
  by_cases hlt : i < en
  ·have hlt' : (i : Int) < (en : Int) := by omega
   obtain ⟨r, m, hb, hc⟩ : ∃ r m, BestT t [x, y] i r m ∧ ((skO (twoR (bOf p) (bOf q) sk) r = true ∧ Tks t [x, y] (skO (twoR (bOf p) (bOf q) sk)) m (L.drop k) en) ∨ (skO (twoR (bOf p) (bOf q) sk) r = false ∧ ∃ l', L.drop k = ⟨r, i, m, (lnC t i).1, (lnC t i).2⟩ :: l' ∧ Tks t [x, y] (skO (twoR (bOf p) (bOf q) sk)) m l' en)) := by
    rcases HTi.out.step with ⟨h, _⟩ | h
    ·omega
    ·exact h
   have hr2 := hb.lt2
   have HB : Hid (BestT t [x, y] i r m) := hb
   have HI : Hid (i < en ∧ k ≤ ll ∧ i < m ∧ m ≤ t.size) := ⟨hlt, hk, hb.1, hb.2.1⟩
   clear hi hk hlt hb
   obtain ⟨wA, hwA⟩ : ∃ wA : World, wA = wr := ⟨_, rfl⟩
   subst hwA
   have him : (i : Int) < (m : Int) := by have := HI.out; omega
   have hmI : (m : Int) ≤ 9 := by have := HI.out; have := HT.out; omega
   have hr2' : (r : Int) < 2 := by omega
   have hsel : ∀ d : Nat, d < 2 → ∃ pp xx, w6.cell? ⟨gp, d, none⟩ = some (.string (bOf pp)) ∧ MtOk pp t xx ∧ [x, y][d]? = some xx := by
    intro d hd
    match d, hd with
    | 0, _ => exact ⟨p, x, f0, HX.out.1, rfl⟩
    | 1, _ => exact ⟨q, y, f1, HX.out.2, rfl⟩
   have HSel : Hid (∀ d : Nat, d < 2 → ∃ pp xx, w6.cell? ⟨gp, d, none⟩ = some (.string (bOf pp)) ∧ MtOk pp t xx ∧ [x, y][d]? = some xx) := hsel
   have HR : Hid (r < 2) := hr2
   have HCc : Hid ((skO (twoR (bOf p) (bOf q) sk) r = true ∧ Tks t [x, y] (skO (twoR (bOf p) (bOf q) sk)) m (L.drop k) en) ∨ (skO (twoR (bOf p) (bOf q) sk) r = false ∧ ∃ l', L.drop k = ⟨r, i, m, (lnC t i).1, (lnC t i).2⟩ :: l' ∧ Tks t [x, y] (skO (twoR (bOf p) (bOf q) sk)) m l' en)) := hc
   clear hsel hr2 hc
   go_wp2_with fail
   go_loopw [18, 19, 20] (fun q18 q19 q20 wr => MuA m t.size i r q18 q19 q20 ∧ Keeps [] w6 wr) (fun _ _ q _ => (intOf q).toNat)
   case atStart => exact ⟨Or.inl ⟨t.size, rfl, HI.out.2.2.2, Nat.le_refl _, rfl, rfl⟩, hK⟩
   case round =>
    obtain ⟨hz, hKz⟩ := hrel
    rcases hz with ⟨z, rfl, hmz, hzt, rfl, rfl⟩ | ⟨rfl, rfl, rfl⟩
    ·have hiz : (i : Int) < (z : Int) := by omega
     have hzI : (z : Int) ≤ 9 := by have := HT.out; omega
     have HZ : Hid (m ≤ z ∧ z ≤ t.size) := ⟨hmz, hzt⟩
     obtain ⟨wB, hwB⟩ : ∃ wB : World, wB = wr := ⟨_, rfl⟩
     subst hwB
     clear hmz hzt
     go_wp2_with fail
     go_loopw [18, 19, 21] (fun q18 q19 q21 wr => MuB z m i r q18 q19 q21 ∧ Keeps [] w6 wr) (fun _ _ q _ => 2 - (intOf q).toNat)
     case atStart => exact ⟨Or.inl ⟨0, rfl, by omega, rfl, rfl, fun _ => Nat.zero_le _⟩, hKz⟩
     case round =>
      obtain ⟨hd, hKd⟩ := hrel
      rcases hd with ⟨d, rfl, hd2, rfl, rfl, hdr⟩ | ⟨hzm, rfl, rfl, rfl⟩
      ·by_cases hdl : d < 2
       ·have hd0 : (0 : Int) ≤ (d : Int) := by omega
        have hd2' : (d : Int) < 2 := by omega
        obtain ⟨pp, xx, hcell, hMx, hxx⟩ := HSel.out d hdl
        have hcd := keep_cell hKd hcell
        have hgd := hg7.keep hKd (by simp)
        have HM : Hid (MtOk pp t xx) := hMx
        have HXX : Hid ([x, y][d]? = some xx) := hxx
        have HD : Hid (d < 2 ∧ (z = m → d ≤ r)) := ⟨hdl, hdr⟩
        have hiz0 : (0 : Int) ≤ (i : Int) := by omega
        have hizl : (i : Int) ≤ (z : Int) := by omega
        have hztl : (z : Int) ≤ (t.size : Int) := by have := HZ.out; omega
        clear hd2 hdl hMx hxx hdr hcell
        go_upto_region 23 with (fail)
        have hkQ : Keeps [] wr wr.drew := (Keeps.refl [] wr).drewN 1
        have hS0 : wr.drew.cell? ⟨gp, d, none⟩ = some (.string (bOf pp)) := hcd
        have hgQ := hgd.keep hkQ (by simp)
        clear hcd hgd
        refine wp_region_held (S := fun X => X.cell? ⟨gp, d, none⟩ = some (.string (bOf pp))) (by kernel_rfl) ?_
        change wpAnyH _ _ _ _ _ _ _ _ (World.drew _)
        generalize wr.drew = X0 at *
        refine wpAnyH_tk 0 _ (some 105) (.slice (some ⟨gp, 0, none⟩) 2 2) rfl rfl (by kernel_rfl) (by kernel_rfl) (by kernel_rfl) (fun _ _ _ h => h) (Or.inl ⟨by rfl, fun X hX => by go_simp⟩) hS0 ?_
        simp only [Act.put, List.setIfInBounds_toArray, List.set_cons_zero, List.set_cons_succ]
        refine wpAnyH_tk 1 _ (some 106) (.int .i64 d) rfl rfl (by kernel_rfl) (by kernel_rfl) (by kernel_rfl) (fun _ _ _ h => h) (Or.inl ⟨by rfl, fun X hX => by go_simp⟩) hS0 ?_
        simp only [Act.put, List.setIfInBounds_toArray, List.set_cons_zero, List.set_cons_succ]
        refine wpAnyH_tk 2 _ (some 107) (.pointer (some ⟨gp, d, none⟩)) rfl rfl (by kernel_rfl) (by kernel_rfl) (by kernel_rfl) (fun _ _ _ h => h) (Or.inl ⟨by rfl, fun X hX => by go_simp⟩) hS0 ?_
        simp only [Act.put, List.setIfInBounds_toArray, List.set_cons_zero, List.set_cons_succ]
        refine wpAnyH_tk 3 _ (some 108) (.string (bOf pp)) rfl rfl (by kernel_rfl) (by kernel_rfl) (by kernel_rfl) (fun _ _ _ h => h) (Or.inl ⟨by rfl, fun X hX => by go_simp⟩) hS0 ?_
        simp only [Act.put, List.setIfInBounds_toArray, List.set_cons_zero, List.set_cons_succ]
        refine wpAnyH_tk 4 _ (some 109) (.string t) rfl rfl (by kernel_rfl) (by kernel_rfl) (by kernel_rfl) (fun _ _ _ h => h) (Or.inl ⟨by rfl, fun X hX => by go_simp⟩) hS0 ?_
        simp only [Act.put, List.setIfInBounds_toArray, List.set_cons_zero, List.set_cons_succ]
        refine wpAnyH_tk 5 _ (some 110) (.int .i64 i) rfl rfl (by kernel_rfl) (by kernel_rfl) (by kernel_rfl) (fun _ _ _ h => h) (Or.inl ⟨by rfl, fun X hX => by go_simp⟩) hS0 ?_
        simp only [Act.put, List.setIfInBounds_toArray, List.set_cons_zero, List.set_cons_succ]
        refine wpAnyH_tk 6 _ (some 111) (.int .i64 z) rfl rfl (by kernel_rfl) (by kernel_rfl) (by kernel_rfl) (fun _ _ _ h => h) (Or.inl ⟨by rfl, fun X hX => by go_simp⟩) hS0 ?_
        simp only [Act.put, List.setIfInBounds_toArray, List.set_cons_zero, List.set_cons_succ]
        refine wpAnyH_tk 7 _ (some 112) (.string (t.extract i z)) rfl rfl (by kernel_rfl) (by kernel_rfl) (by kernel_rfl) (fun _ _ _ h => h) (Or.inl ⟨by rfl, fun X hX => by go_simp⟩) hS0 ?_
        simp only [Act.put, List.setIfInBounds_toArray, List.set_cons_zero, List.set_cons_succ]
        refine wpAnyH_ready (rs := [8]) (by kernel_rfl) (by simp) ?_
        refine AllReadyH.cons rfl (fun K hKK => ?_) AllReadyH.nil
        go_simp
        refine (ymatch_any (bOf pp) (t.extract i z) X0 hgQ).mono ?_
        rintro e w9 ⟨u, is, n9, rfl, hm9, hk9⟩
        obtain ⟨rfl, hb9⟩ := HM.out i z (by have := HZ.out; have := HI.out; omega) (by have := HZ.out; have := HI.out; omega) _ _ _ hm9
        have hS1 := keep_cell hk9 hS0
        refine hKK.out _ _ hS1 (fun _ => ?_)
        clear hKK K
        refine wpAnyH_tk 9 _ (some 104) (.tuple #[.string (nmB u), .bool is, .int .i64 0]) rfl rfl (by kernel_rfl) (by kernel_rfl) (by kernel_rfl) (fun _ _ _ h => h) (Or.inl ⟨by rfl, fun X hX => by go_simp⟩) hS1 ?_
        simp only [Act.put, List.setIfInBounds_toArray, List.set_cons_zero, List.set_cons_succ]
        refine wpAnyH_tk 10 _ (some 114) (.string (nmB u)) rfl rfl (by kernel_rfl) (by kernel_rfl) (by kernel_rfl) (fun _ _ _ h => h) (Or.inl ⟨by rfl, fun X hX => by go_simp⟩) hS1 ?_
        simp only [Act.put, List.setIfInBounds_toArray, List.set_cons_zero, List.set_cons_succ]
        refine wpAnyH_tk 11 _ (some 115) (.bool is) rfl rfl (by kernel_rfl) (by kernel_rfl) (by kernel_rfl) (fun _ _ _ h => h) (Or.inl ⟨by rfl, fun X hX => by go_simp⟩) hS1 ?_
        simp only [Act.put, List.setIfInBounds_toArray, List.set_cons_zero, List.set_cons_succ]
        refine wpAnyH_tk 12 _ (some 116) (.int .i64 0) rfl rfl (by kernel_rfl) (by kernel_rfl) (by kernel_rfl) (fun _ _ _ h => h) (Or.inl ⟨by rfl, fun X hX => by go_simp⟩) hS1 ?_
        simp only [Act.put, List.setIfInBounds_toArray, List.set_cons_zero, List.set_cons_succ]
        refine wpAnyH_tk 13 _ (some 22) (.string (nmB u)) rfl rfl (by kernel_rfl) (by kernel_rfl) (by kernel_rfl) (fun _ _ _ h => h) (Or.inl ⟨by rfl, fun X hX => by go_simp⟩) hS1 ?_
        simp only [Act.put, List.setIfInBounds_toArray, List.set_cons_zero, List.set_cons_succ]
        refine wpAnyH_tk 14 _ (some 23) (.bool is) rfl rfl (by kernel_rfl) (by kernel_rfl) (by kernel_rfl) (fun _ _ _ h => h) (Or.inl ⟨by rfl, fun X hX => by go_simp⟩) hS1 ?_
        simp only [Act.put, List.setIfInBounds_toArray, List.set_cons_zero, List.set_cons_succ]
        refine wpAnyH_tk 15 _ (some 24) (.int .i64 0) rfl rfl (by kernel_rfl) (by kernel_rfl) (by kernel_rfl) (fun _ _ _ h => h) (Or.inl ⟨by rfl, fun X hX => by go_simp⟩) hS1 ?_
        simp only [Act.put, List.setIfInBounds_toArray, List.set_cons_zero, List.set_cons_succ]
        refine wpAnyH_done (by kernel_rfl) ?_ _
        have hK9 := hKd.trans (hkQ.trans hk9)
        have HB9 : Hid (is = true ↔ Mt t xx i z) := hb9
        clear hS0 hS1 hkQ hgQ hm9 hk9 hb9
        by_cases hzm : z = m ∧ d = r
        ·have hmt : Mt t xx i z := by
            obtain ⟨x', h1, h2⟩ := HB.out.2.2.1
            rw [← hzm.2, HXX.out] at h1
            cases h1
            rw [hzm.1]
            exact h2
         have his := HB9.out.2 hmt
         subst his
         have HZM : Hid (z = m ∧ d = r) := hzm
         clear HB9 hmt hzm
         go_wp2_with fail
         go_roundw
         case rel => exact ⟨Or.inr ⟨HZM.out.1, by rw [HZM.out.2], by rw [HZM.out.1], by rw [HZM.out.2]⟩, hK9⟩
         case measure => have := HD.out; simp [intOf]; omega
        ·have hmt : ¬ Mt t xx i z := by
            obtain ⟨_, _, _, h4, h5⟩ := HB.out
            by_cases e : z = m
            ·subst e
             exact h4 d xx (by have := HD.out.2 rfl; omega) HXX.out
            ·exact h5 z d xx (by have := HZ.out; omega) HZ.out.2 HXX.out
         have his : is = false := by cases is with | true => exact absurd (HB9.out.1 rfl) hmt | false => rfl
         subst his
         have HZM : Hid (¬ (z = m ∧ d = r)) := hzm
         clear HB9 hmt hzm
         go_wp2_with fail
         go_roundw
         case rel => exact ⟨Or.inl ⟨d + 1, by go_num, HD.out.1, rfl, rfl, fun e => by have := HD.out.2 e; have := HZM.out; omega⟩, hK9⟩
         case measure => have := HD.out; simp [intOf]; omega
       ·have hde : d = 2 := by omega
        subst hde
        have HZm : Hid (m < z) := by
         show m < z
         have := HZ.out
         have := HR.out
         by_cases e : z = m
         ·have := hdr e; omega
         ·omega
        obtain ⟨z', hz'⟩ : ∃ z', z = z' + 1 := ⟨z - 1, by have := HZm.out; omega⟩
        have hzz : (z : Int) - 1 = (z' : Int) := by omega
        have HZ' : Hid (z = z' + 1) := hz'
        clear hd2 hdl hdr hz'
        go_wp2_with fail
        exact ⟨⟨Or.inl ⟨z', rfl, by have := HZm.out; have := HZ'.out; omega, by have := HZ.out; have := HZ'.out; omega, rfl, rfl⟩, hKd⟩, by have := HZ'.out; simp [intOf]; omega⟩
      ·have hr0 : ¬ (r : Int) < 0 := by omega
       have hr1 : (0 : Int) ≤ (r : Int) := by omega
       have hr2 : decide ((r : Int) < 0) = false := by simp
       have HZM : Hid (z = m) := hzm
       clear hzm
       go_wp2_with fail
       all_goals exact ⟨⟨Or.inr ⟨by rw [HZM.out], rfl, rfl⟩, hKd⟩, by have := HZM.out; have := HI.out; simp [intOf]; omega⟩
    ·have hr0 : ¬ (r : Int) < 0 := by omega
     have hr1 : (0 : Int) ≤ (r : Int) := by omega
     have hr3 : decide ((r : Int) < 0) = false := by simp
     have hsko : skO (twoR (bOf p) (bOf q) sk) r = true ↔ (r = 1 ∧ sk = true) := by
      have := HR.out
      rcases (by omega : r = 0 ∨ r = 1) with rfl | rfl
      ·simp [skO, twoR]
      ·simp [skO, twoR]
     rcases HCc.out with ⟨hs1, hT1⟩ | ⟨hs1, l', hl', hT1⟩
     ·obtain ⟨rfl, rfl⟩ := hsko.1 hs1
      have HT1 : Hid (Tks t [x, y] (skO (twoR (bOf p) (bOf q) true)) m (L.drop k) en) := hT1
      have HME : Hid (m ≤ en) := (hT1.ends HI.out.2.2.2).1
      clear hs1 hT1 hsko
      go_wp2_with fail
      all_goals exact ⟨⟨k, m, rfl, rfl, HME.out, HI.out.2.1, HT1.out, hKz⟩, by have := HI.out; have := HME.out; simp [intOf]; omega⟩
     ·have hcs : r = 0 ∨ (r = 1 ∧ sk = false) := by
         have := HR.out
         rcases (by omega : r = 0 ∨ r = 1) with h | h
         ·exact Or.inl h
         ·refine Or.inr ⟨h, ?_⟩
          cases sk with
          | false => rfl
          | true => have := hsko.2 ⟨h, rfl⟩; rw [hs1] at this; cases this
      rw [lnC_flat HNL.out] at hl'
      have hkl : k < L.length := by have := congrArg List.length hl'; simp at this; omega
      have hLk : L[k]? = some ⟨r, i, m, 1, i + 1⟩ := by
       have h0 : (L.drop k)[0]? = some ⟨r, i, m, 1, i + 1⟩ := by rw [hl']; rfl
       rw [List.getElem?_drop] at h0
       simpa using h0
      have hl2 : L.drop (k + 1) = l' := by rw [← List.tail_drop, hl']; rfl
      have HT1 : Hid (Tks t [x, y] (skO (twoR (bOf p) (bOf q) sk)) m (L.drop (k + 1)) en) := by rw [hl2]; exact hT1
      have HME : Hid (m ≤ en) := (hT1.ends HI.out.2.2.2).1
      obtain ⟨gl, gc, hv, _, _⟩ := World.ownsRow.form hrow (by omega : 0 < L.length)
      have hcell : ∀ (q : Nat) (c : Value), [Value.int .i64 r, .int .i64 i, .int .i64 m, .int .i64 1, .int .i64 ((i + 1 : Nat) : Int)][q]? = some c → wr.cell? ⟨gl, k * 5 + q, none⟩ = some c := by
       intro q c hc
       have h5 : q < 5 := (List.getElem?_eq_some_iff.1 hc).1
       have hro : w6.ownsRow 0 37 5 (.slice (some ⟨gl, 0, none⟩) L.length gc) L.length (tkV L) := by rw [← hv]; exact hrow
       have hlt5 : k * 5 + q < L.length * 5 := by omega
       exact keep_cell hKz ((World.ownsRow.cellAt hro (k * 5 + q) hlt5).trans (tkV_get hLk q c hc))
      have t0 : wr.cell? ⟨gl, k * 5, none⟩ = some (.int .i64 r) := hcell 0 _ rfl
      have t1 := hcell 1 _ rfl
      have t2 := hcell 2 _ rfl
      have t3 := hcell 3 _ rfl
      have t4 := hcell 4 _ rfl
      have hla : la = some ⟨gl, 0, none⟩ ∧ lc = gc := by cases hv; exact ⟨rfl, rfl⟩
      obtain ⟨rfl, rfl⟩ := hla
      have hkl1 : (k : Int) < (ll : Int) := by have := HLL.out; omega
      have hkl2 : decide ((ll : Int) ≤ (k : Int)) = false := by simp; omega
      have hkl3 : ¬ (ll : Int) ≤ (k : Int) := by omega
      have hkl4 : k < ll := by omega
      have hk00 : (0 : Int) ≤ (k : Int) := by omega
      have hkI : (k : Int) ≤ 9 := by have := HLL.out; have := HLE.out; omega
      have hii : ((i + 1 : Nat) : Int) = (i : Int) + 1 := by omega
      rw [hii] at t4
      have hi9 : (i : Int) ≤ 9 := by omega
      clear hcell hv hLk hl' hl2 hs1 hT1 hsko hkl hii
      rcases hcs with rfl | ⟨rfl, rfl⟩
      ·go_wp2_with fail
       all_goals exact ⟨⟨k + 1, m, by go_num, rfl, HME.out, by have := HLL.out; omega, HT1.out, hKz⟩, by have := HI.out; have := HME.out; simp [intOf]; omega⟩
      ·go_wp2_with fail
       all_goals exact ⟨⟨k + 1, m, by go_num, rfl, HME.out, by have := HLL.out; omega, HT1.out, hKz⟩, by have := HI.out; have := HME.out; simp [intOf]; omega⟩
  ·have hie : i = en := by omega
   subst hie
   obtain ⟨hd, hno⟩ : L.drop k = [] ∧ NoneT t [x, y] i := by
    rcases HTi.out.step with ⟨_, h1, h2⟩ | ⟨r, m, hb, hc⟩
    ·exact ⟨h1, h2⟩
    ·exfalso
     have h1 := hb.1
     rcases hc with ⟨_, h⟩ | ⟨_, l', _, h⟩
     ·have := (h.ends hb.2.1).1; omega
     ·have := (h.ends hb.2.1).1; omega
   have hkl : k = ll := by
    have h1 := List.drop_eq_nil_iff.1 hd
    have := HLL.out
    omega
   subst hkl
   have HNo : Hid (NoneT t [x, y] i) := hno
   have HSel : Hid (∀ d : Nat, d < 2 → ∃ pp xx, w6.cell? ⟨gp, d, none⟩ = some (.string (bOf pp)) ∧ MtOk pp t xx ∧ [x, y][d]? = some xx) := by
    intro d hd
    match d, hd with
    | 0, _ => exact ⟨p, x, f0, HX.out.1, rfl⟩
    | 1, _ => exact ⟨q, y, f1, HX.out.2, rfl⟩
   have hi9 : (i : Int) ≤ 9 := by have := HE.out; have := HT.out; omega
   have hk9 : (k : Int) ≤ 9 := by have := HLL.out; have := HLE.out; omega
   obtain ⟨wA, hwA⟩ : ∃ wA : World, wA = wr := ⟨_, rfl⟩
   subst hwA
   clear hd hno hlt hi hk
   go_wp2_with fail
   go_loopw [25] (fun q25 wr => ∃ z : Nat, q25 = .int .i64 z ∧ i + 1 ≤ z ∧ z ≤ t.size + 1 ∧ Keeps [] w6 wr) (fun q _ => t.size + 1 - (intOf q).toNat)
   case atStart => exact ⟨i + 1, by go_num, Nat.le_refl _, by have := HE.out; omega, hK⟩
   case round =>
    obtain ⟨z, rfl, hz1, hz2, hKz⟩ := hrel
    by_cases hzl : z ≤ t.size
    ·have hzt : (z : Int) ≤ (t.size : Int) := by omega
     have HZ : Hid (i < z ∧ i ≤ z ∧ z ≤ t.size) := ⟨by omega, by omega, hzl⟩
     obtain ⟨wB, hwB⟩ : ∃ wB : World, wB = wr := ⟨_, rfl⟩
     subst hwB
     clear hz1 hz2 hzl
     go_wp2_with fail
     go_loopw [26] (fun q26 wr => ∃ d : Nat, q26 = .int .i64 d ∧ d ≤ 2 ∧ Keeps [] w6 wr) (fun q _ => 2 - (intOf q).toNat)
     case atStart => exact ⟨0, rfl, by omega, hKz⟩
     case round =>
      obtain ⟨d, rfl, hd2, hKd⟩ := hrel
      by_cases hdl : d < 2
      ·have hd0 : (0 : Int) ≤ (d : Int) := by omega
       have hd2' : (d : Int) < 2 := by omega
       obtain ⟨pp, xx, hcell, hMx, hxx⟩ := HSel.out d hdl
       have hcd := keep_cell hKd hcell
       have hgd := hg7.keep hKd (by simp)
       have HM : Hid (MtOk pp t xx) := hMx
       have HXX : Hid ([x, y][d]? = some xx) := hxx
       have HD : Hid (d < 2) := hdl
       have hiz0 : (0 : Int) ≤ (i : Int) := by omega
       have hizl : (i : Int) ≤ (z : Int) := by have := HZ.out; omega
       clear hd2 hdl hMx hxx hcell
       go_upto_region 42 with (fail)
       have hkQ : Keeps [] wr wr.drew := (Keeps.refl [] wr).drewN 1
       have hS0 : wr.drew.cell? ⟨gp, d, none⟩ = some (.string (bOf pp)) := hcd
       have hgQ := hgd.keep hkQ (by simp)
       clear hcd hgd
       refine wp_region_held (S := fun X => X.cell? ⟨gp, d, none⟩ = some (.string (bOf pp))) (by kernel_rfl) ?_
       change wpAnyH _ _ _ _ _ _ _ _ (World.drew _)
       generalize wr.drew = X0 at *
       refine wpAnyH_tk 0 _ (some 195) (.slice (some ⟨gp, 0, none⟩) 2 2) rfl rfl (by kernel_rfl) (by kernel_rfl) (by kernel_rfl) (fun _ _ _ h => h) (Or.inl ⟨by rfl, fun X hX => by go_simp⟩) hS0 ?_
       simp only [Act.put, List.setIfInBounds_toArray, List.set_cons_zero, List.set_cons_succ]
       refine wpAnyH_tk 1 _ (some 196) (.int .i64 d) rfl rfl (by kernel_rfl) (by kernel_rfl) (by kernel_rfl) (fun _ _ _ h => h) (Or.inl ⟨by rfl, fun X hX => by go_simp⟩) hS0 ?_
       simp only [Act.put, List.setIfInBounds_toArray, List.set_cons_zero, List.set_cons_succ]
       refine wpAnyH_tk 2 _ (some 197) (.pointer (some ⟨gp, d, none⟩)) rfl rfl (by kernel_rfl) (by kernel_rfl) (by kernel_rfl) (fun _ _ _ h => h) (Or.inl ⟨by rfl, fun X hX => by go_simp⟩) hS0 ?_
       simp only [Act.put, List.setIfInBounds_toArray, List.set_cons_zero, List.set_cons_succ]
       refine wpAnyH_tk 3 _ (some 198) (.string (bOf pp)) rfl rfl (by kernel_rfl) (by kernel_rfl) (by kernel_rfl) (fun _ _ _ h => h) (Or.inl ⟨by rfl, fun X hX => by go_simp⟩) hS0 ?_
       simp only [Act.put, List.setIfInBounds_toArray, List.set_cons_zero, List.set_cons_succ]
       refine wpAnyH_tk 4 _ (some 199) (.string t) rfl rfl (by kernel_rfl) (by kernel_rfl) (by kernel_rfl) (fun _ _ _ h => h) (Or.inl ⟨by rfl, fun X hX => by go_simp⟩) hS0 ?_
       simp only [Act.put, List.setIfInBounds_toArray, List.set_cons_zero, List.set_cons_succ]
       refine wpAnyH_tk 5 _ (some 200) (.int .i64 i) rfl rfl (by kernel_rfl) (by kernel_rfl) (by kernel_rfl) (fun _ _ _ h => h) (Or.inl ⟨by rfl, fun X hX => by go_simp⟩) hS0 ?_
       simp only [Act.put, List.setIfInBounds_toArray, List.set_cons_zero, List.set_cons_succ]
       refine wpAnyH_tk 6 _ (some 201) (.int .i64 z) rfl rfl (by kernel_rfl) (by kernel_rfl) (by kernel_rfl) (fun _ _ _ h => h) (Or.inl ⟨by rfl, fun X hX => by go_simp⟩) hS0 ?_
       simp only [Act.put, List.setIfInBounds_toArray, List.set_cons_zero, List.set_cons_succ]
       refine wpAnyH_tk 7 _ (some 202) (.string (t.extract i z)) rfl rfl (by kernel_rfl) (by kernel_rfl) (by kernel_rfl) (fun _ _ _ h => h) (Or.inl ⟨by rfl, fun X hX => by go_simp⟩) hS0 ?_
       simp only [Act.put, List.setIfInBounds_toArray, List.set_cons_zero, List.set_cons_succ]
       refine wpAnyH_ready (rs := [8]) (by kernel_rfl) (by simp) ?_
       refine AllReadyH.cons rfl (fun K hKK => ?_) AllReadyH.nil
       go_simp
       refine (ymatch_any (bOf pp) (t.extract i z) X0 hgQ).mono ?_
       rintro e w9 ⟨u, is, n9, rfl, hm9, hk9⟩
       obtain ⟨rfl, hb9⟩ := HM.out i z (by have := HZ.out; omega) (by have := HZ.out; omega) _ _ _ hm9
       have hS1 := keep_cell hk9 hS0
       refine hKK.out _ _ hS1 (fun _ => ?_)
       clear hKK K
       refine wpAnyH_tk 9 _ (some 194) (.tuple #[.string (nmB u), .bool is, .int .i64 0]) rfl rfl (by kernel_rfl) (by kernel_rfl) (by kernel_rfl) (fun _ _ _ h => h) (Or.inl ⟨by rfl, fun X hX => by go_simp⟩) hS1 ?_
       simp only [Act.put, List.setIfInBounds_toArray, List.set_cons_zero, List.set_cons_succ]
       refine wpAnyH_tk 10 _ (some 204) (.string (nmB u)) rfl rfl (by kernel_rfl) (by kernel_rfl) (by kernel_rfl) (fun _ _ _ h => h) (Or.inl ⟨by rfl, fun X hX => by go_simp⟩) hS1 ?_
       simp only [Act.put, List.setIfInBounds_toArray, List.set_cons_zero, List.set_cons_succ]
       refine wpAnyH_tk 11 _ (some 205) (.bool is) rfl rfl (by kernel_rfl) (by kernel_rfl) (by kernel_rfl) (fun _ _ _ h => h) (Or.inl ⟨by rfl, fun X hX => by go_simp⟩) hS1 ?_
       simp only [Act.put, List.setIfInBounds_toArray, List.set_cons_zero, List.set_cons_succ]
       refine wpAnyH_tk 12 _ (some 206) (.int .i64 0) rfl rfl (by kernel_rfl) (by kernel_rfl) (by kernel_rfl) (fun _ _ _ h => h) (Or.inl ⟨by rfl, fun X hX => by go_simp⟩) hS1 ?_
       simp only [Act.put, List.setIfInBounds_toArray, List.set_cons_zero, List.set_cons_succ]
       refine wpAnyH_tk 13 _ (some 27) (.string (nmB u)) rfl rfl (by kernel_rfl) (by kernel_rfl) (by kernel_rfl) (fun _ _ _ h => h) (Or.inl ⟨by rfl, fun X hX => by go_simp⟩) hS1 ?_
       simp only [Act.put, List.setIfInBounds_toArray, List.set_cons_zero, List.set_cons_succ]
       refine wpAnyH_tk 14 _ (some 28) (.bool is) rfl rfl (by kernel_rfl) (by kernel_rfl) (by kernel_rfl) (fun _ _ _ h => h) (Or.inl ⟨by rfl, fun X hX => by go_simp⟩) hS1 ?_
       simp only [Act.put, List.setIfInBounds_toArray, List.set_cons_zero, List.set_cons_succ]
       refine wpAnyH_tk 15 _ (some 29) (.int .i64 0) rfl rfl (by kernel_rfl) (by kernel_rfl) (by kernel_rfl) (fun _ _ _ h => h) (Or.inl ⟨by rfl, fun X hX => by go_simp⟩) hS1 ?_
       simp only [Act.put, List.setIfInBounds_toArray, List.set_cons_zero, List.set_cons_succ]
       refine wpAnyH_done (by kernel_rfl) ?_ _
       have hK9 := hKd.trans (hkQ.trans hk9)
       have HB9 : Hid (is = true ↔ Mt t xx i z) := hb9
       clear hS0 hS1 hkQ hgQ hm9 hk9 hb9
       have his : is = false := by cases is with | true => exact absurd (HB9.out.1 rfl) (HNo.out z d xx HZ.out.1 HZ.out.2.2 HXX.out) | false => rfl
       subst his
       clear HB9
       go_wp2_with fail
       go_roundw
       case rel => exact ⟨d + 1, by go_num, HD.out, hK9⟩
       case measure => have := HD.out; simp [intOf]; omega
      ·have hde : d = 2 := by omega
       subst hde
       clear hd2 hdl
       go_wp2_with fail
       exact ⟨⟨z + 1, by go_num, by have := HZ.out; omega, by have := HZ.out; omega, hKd⟩, by have := HZ.out; simp [intOf]; omega⟩
    ·have hzt : ¬ (z : Int) ≤ (t.size : Int) := by omega
     have hkE := hkH.trans hKz
     clear hz1 hz2 hzl
     go_wp2_with fail
     go_ret
     exact ⟨rfl, hkE⟩
end Go.Proofs.YtnfojonmohijpabGreatDoor
namespace Go.Proofs.YtnfojonmohijpabGreatDoor
open Go.ChangeShapes Go.WideShapes Go.ChangeAt Go.WideMaps Go.WideElems Go.RowKit
theorem ownK : ownKnob Tryz.prog.godebug = none := by kernel_rfl
theorem gCls : Tryz.prog.globalNamed "yarrow/byteset.classNames" = some 6 := by kernel_rfl
theorem tCls : (Tryz.prog.globals[6]?).map (·.type) = some 267 := by kernel_rfl
theorem cStr : Tryz.prog.cellsOf 9 = 1 := by kernel_rfl
theorem cCls : Tryz.prog.cellsOf 267 = 7 := by kernel_rfl
theorem str_cell {H : Type} {enc : TypeId × Value → H} {W : World} {base fuel : Nat} {sp : Nat → Bool} {held : Bool} {c : Value} {x : DataW H × List MemPlace} {l : List UInt8}
    (h : DataW.trod enc Tryz.prog W base sp held fuel 9 [c] = some x) (hx : DataW.lit (.string l) = x.1) : c = .string (nmB l) := by
 obtain ⟨s, hc, rfl, _⟩ := DataW.trod_string Tryz.underlying9 h
 simp only [List.cons.injEq, and_true] at hc
 simp only [DataW.lit.injEq, Lit.string.injEq] at hx
 subst hc
 rw [hx]
 congr 1
theorem seven {α : Type} (l : List α) (h : l.length = 7) : ∃ a b c d e f g, l = [a, b, c, d, e, f, g] := by
 match l, h with
 | [a, b, c, d, e, f, g], _ => exact ⟨a, b, c, d, e, f, g, rfl⟩
set_option maxRecDepth 100000 in
theorem of_laidN {W : World} (h : laidMetH Tryz.prog Rows.munchedRow.laid W) : GN W := by
 rw [MakeChecks.laidMetH_plain _ _ _ (by kernel_rfl)] at h
 obtain ⟨ps, ⟨g0, t0, cs0, f0, p0, q0, hg0, ht0, hv0, hd0, ⟨g1, t1, cs1, f1, p1, q1, hg1, ht1, hv1, hd1, ⟨g2, t2, cs2, f2, p2, q2, hg2, ht2, hv2, hd2, ⟨g3, t3, cs3, f3, p3, q3, hg3, ht3, hv3, hd3, _, _⟩, _⟩, _⟩, _⟩, _, _⟩ := h
 obtain rfl := Option.some.inj (gCls.symm.trans hg3)
 obtain rfl := Option.some.inj (tCls.symm.trans ht3)
 clear hd0 hd1 hd2 hv0 hv1 hv2 hg0 hg1 hg2 ht0 ht1 ht2
 obtain ⟨xs, m, rfl, hx, hlen, hn, hel⟩ := DataW.trod_array Tryz.underlying267 hd3
 rw [cCls] at hlen
 rw [cStr] at hel
 have hl : ∃ t fr, W.heap[6]? = some (.cells cs3 t fr) := by
  simp only [World.var?, gCls, Option.bind_some] at hv3
  split at hv3
  ·rename_i c t fr he
   cases hv3
   exact ⟨t, fr, he⟩
  ·cases hv3
 obtain ⟨t, fr, hl⟩ := hl
 refine ⟨t, fr, hl.trans ?_⟩
 obtain ⟨l3⟩ := cs3
 unfold Rows.laid_yarrow_byteset_classNames at hx
 simp only [Prod.mk.injEq, DataW.agg.injEq] at hx
 obtain ⟨hx, _⟩ := hx
 obtain ⟨c0, c1, c2, c3, c4, c5, c6, rfl⟩ := seven l3 hlen
 obtain ⟨x0, x1, x2, x3, x4, x5, x6, rfl⟩ := seven xs hn
 ·simp only [List.map_cons, List.map_nil, List.cons.injEq, and_true] at hx
  obtain ⟨e0, e1, e2, e3, e4, e5, e6⟩ := hx
  have h0 := str_cell (hel 0 (by decide)) e0
  have h1 := str_cell (hel 1 (by decide)) e1
  have h2 := str_cell (hel 2 (by decide)) e2
  have h3 := str_cell (hel 3 (by decide)) e3
  have h4 := str_cell (hel 4 (by decide)) e4
  have h5 := str_cell (hel 5 (by decide)) e5
  have h6 := str_cell (hel 6 (by decide)) e6
  subst h0 h1 h2 h3 h4 h5 h6
  rfl
end Go.Proofs.YtnfojonmohijpabGreatDoor
