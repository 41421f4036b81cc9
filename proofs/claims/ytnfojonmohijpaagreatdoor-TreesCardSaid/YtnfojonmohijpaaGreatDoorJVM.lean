/-
  DERIVED. The reference's 'Match', whole: for every pattern and every text it answers what is meant. No conditions.
-/
import Derived.Test.YtnfojonmohijpaaGreatDoorJVB
import Derived.Test.YtnfojonmohijpaaGreatDoorJWQ
import Derived.Test.YtnfojonmohijpaaGreatDoorJWT
import Derived.Test.YtnfojonmohijpaaGreatDoorJWV
import Derived.Test.YtnfojonmohijpaaGreatDoorJUR
import Derived.Test.YtnfojonmohijpaaGreatDoorJPE
import Derived.Test.YtnfojonmohijpaaGreatDoorJPY
import Derived.Test.YtnfojonmohijpaaGreatDoorRows
import Derived.ProofKit
import Derived.LaidMore
import Derived.OpenShut
import Derived.Stop.Joined
import Derived.ChangeMaps5
set_option linter.unusedSimpArgs false
set_option linter.unusedVariables false
namespace Go.Proofs.YtnfojonmohijpaaGreatDoor
open Go.RowKit
theorem wn_wl : ∀ {x : Pat}, shp x .ways → (wl x).length = x.wn
 | .wone x, _ => rfl
 | .wcons x r, h => by
  have h1 := wn_wl (x := r) h.2
  have h2 : (Pat.wcons x r).wn = r.wn + 1 := rfl
  rw [h2, ← h1]
  rfl
 | .pnil, h => h.elim
 | .pcons _ _, h => h.elim
 | .set _, h => h.elim
 | .grp _ _, h => h.elim
 | .rep _ _ _, h => h.elim
theorem thin_thn : ∀ {x : Pat} {kd : Kd}, shp x kd → x.thin → x.thn := by
 intro x
 induction x with
 | set f => intro _ _ _; trivial
 | grp k x ih =>
  intro kd hs ht
  have hx : shp x .ways := by cases kd <;> first | exact hs | exact hs.elim
  exact ih hx ht
 | rep mn mx x ih =>
  intro kd hs ht
  have hx : shp x .single := by cases kd <;> first | exact hs.2.2.2 | exact hs.elim
  exact ih hx ht
 | pnil => intro _ _ _; trivial
 | pcons x r ih1 ih2 =>
  intro kd hs ht
  have hx : shp x .piece ∧ shp r .way := by cases kd <;> first | exact hs | exact hs.elim
  exact ⟨ih1 hx.1 ht.1, ih2 hx.2 ht.2⟩
 | wone x ih =>
  intro kd hs ht
  have hx : shp x .way := by cases kd <;> first | exact hs | exact hs.elim
  exact ih hx ht
 | wcons x r ih1 ih2 =>
  intro kd hs ht
  have hx : shp x .way ∧ shp r .ways := by cases kd <;> first | exact hs | exact hs.elim
  exact ⟨by rw [← wn_wl hx.2]; exact ht.1, ih1 hx.1 ht.2.1, ih2 hx.2 ht.2.2⟩
theorem PatR.all {s : ByteArray} {W : Whole} {j : Nat} (hs : s.size ≤ 60) (h : PatR s (.ok W j)) : shp W.x .ways ∧ W.x.sz < 1000 ∧ W.x.fair W.g ∧ W.x.fair 9 ∧ W.x.thn ∧ W.g ≤ 9 ∧ W.x.dep ≤ 7 := by
 obtain ⟨g1, g2, g3⟩ := h.good hs
 obtain ⟨qw, hG, hqe⟩ := h
 cases qw with
 | bad l => cases hqe
 | ok xg l =>
  obtain ⟨x, g⟩ := xg
  have hwi : wi s ≤ s.size := by
   unfold wi
   by_cases h : at' s 0 = 94
   ·rw [if_pos h]; exact at'_nn (by omega)
   ·rw [if_neg h]; exact Nat.zero_le _
  have h1 := hG.shp x g l rfl
  have h2 := endOf_le hG hwi
  obtain ⟨_, f2, f3, f4⟩ := hG.fair (by omega) (by omega) x g l rfl
  rw [PatE_ok] at hqe
  by_cases hc : 0 ≤ at' s (if at' s l = 36 then l + 1 else l)
  ·rw [if_pos hc] at hqe; cases hqe
  ·rw [if_neg hc] at hqe
   cases hqe
   simp only [szL, szR, endOf, depM] at h1 h2 f4
   exact ⟨h1.1, by show x.sz < 1000; omega, f3, g1, thin_thn h1.1 g2, g3, by show x.dep ≤ 7; omega⟩
set_option maxRecDepth 100000 in
set_option maxHeartbeats 1000000 in
theorem match_ref (q s : ByteArray) (w : World) :
    Calls Tryz.prog 21 #[.string q, .string s] w fun e w' => ∃ t b n, e = .returned (.tuple #[.string (nmB t), .bool b, .int .i64 n]) ∧ MatchA q s t b n ∧ Keeps [] w w' := by
 by_cases hq : 60 < q.size
 ·go_enter Tryz.func21, Tryz.ntmps21
  go_wp2_with (first | (go_at_call 46; refine (read_long q _ hq).mono ?_; rintro e w' ⟨rfl, rfl⟩))
  go_ret3
  exact ⟨[], false, 1, rfl, Or.inl ⟨hq, rfl, rfl, rfl⟩, Keeps.refl _ _⟩
 have hq' : q.size ≤ 60 := by omega
 go_enter Tryz.func21, Tryz.ntmps21
 go_wp2_with fail
 refine (read_any q _ hq').mono ?_
 rintro e w1 ⟨bp, p, nds, R, en, rfl, hb, hR, hp, hinv, hk, hn, hps, hcase⟩
 cases R with
 | bad j =>
  obtain ⟨rfl, hbad⟩ := hcase
  have HA : Hid (MatchA q s [] false 2) := Or.inr ⟨hq', .bad j, hR, rfl, rfl, rfl⟩
  clear hbad hp hinv hR
  go_wp2_with fail
  go_ret3
  exact ⟨[], false, 2, rfl, HA.out, hk⟩
 | ok W j =>
  obtain ⟨rfl, hbg, hen, hgr, hrep⟩ := hcase
  obtain ⟨a1, a2, a3, a4, a5, a6, a7⟩ := hR.all hq'
  have HR : Hid (PatR q (.ok W j)) := hR
  have HREP : Hid (repK nds .ways W.x p.root) := hrep
  have HAL : Hid (shp W.x .ways ∧ W.x.fair W.g ∧ W.x.dep ≤ 7 ∧ W.x.sz < 1000) := ⟨a1, a3, a7, a2⟩
  have hNK : NK nds 1000 p.root := ⟨.ways, W.x, hrep, a1, a2, a4, a5⟩
  have HGR : Hid (p.gr = W.g) := hgr
  have HG9 : Hid (p.gr ≤ 9) := by show p.gr ≤ 9; omega
  obtain ⟨r2, _⟩ := hp.rbe
  clear hbg hen hgr hrep a1 a2 a3 a4 a5 a6 a7 hR
  by_cases hs : s.size ≤ 100
  rotate_left
  ·have hs' : (100 : Int) < (s.size : Int) := by omega
   have HA : Hid (MatchA q s [] false 1) := Or.inr ⟨hq', .ok W j, HR.out, Or.inl ⟨by omega, rfl, rfl, rfl⟩⟩
   clear hp hinv hs
   go_wp2_with fail
   go_ret3
   exact ⟨[], false, 1, rfl, HA.out, hk⟩
  have hs' : ¬ (100 : Int) < (s.size : Int) := by omega
  have HS : Hid (s.size ≤ 100) := hs
  obtain ⟨lw, hr1, hr2⟩ := HREP.out
  have HMt : Hid (Mt s W.x 0 s.size ↔ MN s nds (.node p.root) 0 s.size) := by
   show Mt s W.x 0 s.size ↔ MN s nds (.node p.root) 0 s.size
   rw [show Mt s W.x 0 s.size ↔ ∃ d, d ∈ lw ∧ MN s nds (.node d) 0 s.size from rep_Mt HAL.out.1 hr1]
   exact hr2.alt_iff
  clear hr1 hr2
  go_wp2_with fail
  refine (textNew_any s (s.size + 1) rfl hs nds hn bp p w1 hp hinv).mono ?_
  rintro e w2 ⟨b, D, E, rfl, hT2, hDn, hk2⟩
  have y2 := hT2.pb.rbe.1
  have hkA := hk.trans hk2
  have HND : Hid (∀ x, x ∈ D → w.heap.size ≤ x) := fun x hx => Nat.le_trans hk.size (hDn x hx)
  clear hp hinv r2
  go_wp2_with fail
  refine (ends_all s nds hn 1000 (Nat.le_refl _) p.root hNK w2 b bp p D E [] 0 hT2 (by simp) (Nat.zero_le _)).mono ?_
  rintro e w3 ⟨v, rfl, hEA, hT3, hk3⟩
  obtain ⟨x, c, f, rfl, hRB, hxD, _, hsay⟩ := hEA
  have hcz := hRB.at (j := s.size) (by omega)
  have HSY : Hid (f s.size = true ↔ MN s nds (.node p.root) 0 s.size) := hsay s.size (Nat.le_refl _)
  have hi1 : (s.size : Int) < ((s.size + 1 : Nat) : Int) := by omega
  have hi0 : (0 : Int) ≤ (s.size : Int) := by omega
  have hkB : Keeps [] w w3 := keepsM hkA hk3 fun x hx => Or.inr (HND.out x hx)
  clear hT2 hk3 hsay hRB y2 hDn hk2 hk hkA
  cases hf : f s.size
  ·rw [hf] at hcz
   have HA : Hid (MatchA q s [] false 0) := Or.inr ⟨hq', .ok W j, HR.out, Or.inr ⟨hs, Or.inl ⟨(fun hm => by (have := HSY.out.2 (HMt.out.1 hm); rw [hf] at this; cases this)), rfl, rfl, rfl⟩⟩⟩
   clear hf hT3
   go_wp2_with fail
   go_ret3
   exact ⟨[], false, 0, rfl, HA.out, hkB⟩
  ·rw [hf] at hcz
   have hMN := HSY.out.1 hf
   have hMt := HMt.out.2 hMN
   obtain ⟨t, ev, hTN⟩ := tn_total (g := p.gr) 1000 HREP.out HAL.out.1 (by rw [HGR.out]; exact HAL.out.2.1) (Nat.le_of_lt HAL.out.2.2.2) hMN
   have hTR : TR s (.node W.x) 0 s.size t ev := hTN.toTR (kd := .ways) HREP.out HAL.out.1
   have hlt := tree_len hTR hMt HAL.out.1 HAL.out.2.2.1 (Nat.le_of_lt HAL.out.2.2.2) hs
   have HTR : Hid (TR s (.node W.x) 0 s.size t ev ∧ Mt s W.x 0 s.size) := ⟨hTR, hMt⟩
   clear hf hMt hTR
   go_wp2_with fail
   refine (of_any s nds hn p.root hNK w3 b bp p D E hT3 rfl HG9.out 0 s.size true t ev hTN hMN (Nat.le_refl _) (by omega)).mono ?_
   rintro e w4 ⟨ob, sp, rfl, hS4, hk4⟩
   have hkC : Keeps [] w w4 := keepsM hkB hk4 fun x hx => Or.inr (HND.out x hx)
   obtain ⟨out, hOB, ho, hout⟩ := hS4.ot
   obtain ⟨c0, c1, _, _, _, _⟩ := hOB.main
   clear hT3 hkB hk4 hS4 hOB hcz hTN hMN
   by_cases h2 : t.length ≤ 20000
   ·have h2' : ¬ (20000 : Int) < (t.length : Int) := by omega
    have HA : Hid (MatchA q s t true 0) := Or.inr ⟨hq', .ok W j, HR.out, Or.inr ⟨hs, Or.inr ⟨HTR.out.2, t, ev, HTR.out.1, Or.inl ⟨h2, rfl, rfl, rfl⟩⟩⟩⟩
    have ho2 := hout rfl h2
    subst ho2
    clear h2 hout
    go_wp2_with fail
    go_ret3
    exact ⟨t, true, 0, rfl, HA.out, hkC⟩
   ·have h2' : (20000 : Int) < (t.length : Int) := by omega
    have HA : Hid (MatchA q s [] false 1) := Or.inr ⟨hq', .ok W j, HR.out, Or.inr ⟨hs, Or.inr ⟨HTR.out.2, t, ev, HTR.out.1, Or.inr ⟨by omega, rfl, rfl, rfl⟩⟩⟩⟩
    clear h2 hout
    go_wp2_with fail
    go_ret3
    exact ⟨[], false, 1, rfl, HA.out, hkC⟩
end Go.Proofs.YtnfojonmohijpaaGreatDoor
namespace Go.Proofs.YtnfojonmohijpaaGreatDoor
open Go.RowKit
theorem grp9 {nds : List Nd} : ∀ (n : Nat) {kd : Kd} {x : Pat} {k : Nat}, repK nds kd x k → shp x kd → x.sz ≤ n → x.fair 9 → ∀ nd, nds[k]? = some nd → nd.kind = 103 → nd.n ≤ 9 := by
 intro n
 induction n with
 | zero => intro kd x k _ _ hn _; exact absurd hn (by cases x <;> simp [Pat.sz])
 | succ n ih =>
  intro kd x k h hs hn hf nd e hk
  have hone : (kd = .piece ∨ kd = .single) → rep nds x [k] → nd.n ≤ 9 := by
   intro hkd hr
   cases x with
   | set f =>
    obtain ⟨k', nd', hk', e', hk2, _⟩ := hr
    simp only [List.cons.injEq, and_true] at hk'
    subst hk'
    cases e.symm.trans e'
    omega
   | grp m y =>
    obtain ⟨k', nd', c, lw, hk', e', hk2, hm, _⟩ := hr
    simp only [List.cons.injEq, and_true] at hk'
    subst hk'
    cases e.symm.trans e'
    rw [hm]
    exact hf.2.1
   | rep mn mx y =>
    obtain ⟨k', nd', c, hk', e', hk2, _⟩ := hr
    simp only [List.cons.injEq, and_true] at hk'
    subst hk'
    cases e.symm.trans e'
    omega
   | pnil => rcases hkd with rfl | rfl <;> exact hs.elim
   | pcons _ _ => rcases hkd with rfl | rfl <;> exact hs.elim
   | wone _ => rcases hkd with rfl | rfl <;> exact hs.elim
   | wcons _ _ => rcases hkd with rfl | rfl <;> exact hs.elim
  cases kd with
  | single => exact hone (Or.inr rfl) h
  | piece => exact hone (Or.inl rfl) h
  | way =>
   obtain ⟨lp, hr, hl⟩ := h
   rcases hl with rfl | ⟨_, nd', e', hk', _⟩
   ·cases x with
    | pcons y r =>
     obtain ⟨k', l', e1, h1, h2⟩ := hr
     simp only [List.cons.injEq] at e1
     obtain ⟨rfl, rfl⟩ := e1
     exact ih (kd := .piece) h1 hs.1 (by simp only [Pat.sz] at hn; omega) hf.1 nd e hk
    | pnil => cases hr
    | _ => exact hs.elim
   ·cases e.symm.trans e'
    omega
  | ways =>
   obtain ⟨lw, hr, hl⟩ := h
   rcases hl with rfl | ⟨_, nd', e', hk', _⟩
   ·cases x with
    | wone y =>
     obtain ⟨c, lp, e1, h1, h2⟩ := hr
     simp only [List.cons.injEq, and_true] at e1
     subst e1
     exact ih (kd := .way) ⟨lp, h1, h2⟩ hs (by simp only [Pat.sz] at hn; omega) hf nd e hk
    | wcons y r =>
     obtain ⟨c, lp, l', e1, ⟨h1, h2⟩, _⟩ := hr
     simp only [List.cons.injEq] at e1
     obtain ⟨rfl, _⟩ := e1
     exact ih (kd := .way) ⟨lp, h1, h2⟩ hs.1 (by simp only [Pat.sz] at hn; omega) hf.1 nd e hk
    | _ => exact hs.elim
   ·cases e.symm.trans e'
    omega
theorem fits_all (nds : List Nd) (hn : nds.length ≤ 1000) : ∀ n, n ≤ 1000 → FitOk nds n := by
 intro n
 induction n with
 | zero => intro _ k hk; obtain ⟨kd, x, _, _, h, _⟩ := hk; exact absurd h (Nat.not_lt_zero _)
 | succ n IH =>
  intro hn1 k hk w bp p t hpb hni ht hl
  have IH := IH (by omega)
  obtain ⟨kd, x, h1, h2, h3, h4, h5⟩ := hk
  obtain ⟨nd, hnd, hsub⟩ := NK.cases x.sz h1 h2 (Nat.le_refl _) h4 h5
  have hsub := hsub.up (m := n) (by omega)
  rcases hsub with ⟨hk, hk0⟩ | ⟨hk, c, hkc, hck⟩ | ⟨hk, e1, e2, e3, c, hkc, hck⟩ | ⟨hk | ⟨hk, h99⟩, hkl, hkids⟩
  ·exact fits_byte nds hn n IH k nd hnd hk (by rw [hk0]; simp) w bp p t hpb hni ht hl
  ·exact fits_grp nds hn n IH k nd hnd hk (by rw [hkc]; simp) c hkc hck (grp9 x.sz h1 h2 (Nat.le_refl _) h4 nd hnd hk) w bp p t hpb hni ht hl
  ·exact fits_rep nds hn n IH k nd hnd hk (by rw [hkc]; simp) c hkc hck w bp p t hpb hni ht hl
  ·exact fits_way nds hn n IH k nd hnd hk (by omega) hkids w bp p t hpb hni ht hl
  ·exact fits_alt nds hn n IH k nd hnd hk (by omega) hkids h99 w bp p t hpb hni ht hl
theorem TreeR.is {s : ByteArray} {t : Tr} {j : Nat} (h : TreeR s (.ok t j)) : TO true t ∧ s = nmB t.text := by
 obtain ⟨q0, h, e⟩ := h
 cases q0 with
 | bad => cases e
 | ok u k =>
  by_cases hk : k < s.size
  ·simp only [wholeR, if_pos hk] at e; cases e
  ·simp only [wholeR, if_neg hk, R.ok.injEq] at e
   obtain ⟨rfl, rfl⟩ := e
   exact TreeR.text ⟨_, h, rfl⟩ hk
set_option maxRecDepth 100000 in
set_option maxHeartbeats 1000000 in
theorem rfits_any (q s : ByteArray) (w : World) :
    Calls Tryz.prog 51 #[.string q, .string s] w fun e w' => ∃ b n, e = .returned (.tuple #[.bool b, .int .i64 n]) ∧ FitsA q s b n ∧ Keeps [] w w' := by
 by_cases hq : 60 < q.size
 ·go_enter Tryz.func51, Tryz.ntmps51
  go_wp2_with (first | (go_at_call 46; refine (read_long q _ hq).mono ?_; rintro e w' ⟨rfl, rfl⟩))
  go_ret2
  exact ⟨false, 1, rfl, Or.inl ⟨hq, rfl, rfl⟩, Keeps.refl _ _⟩
 have hq' : q.size ≤ 60 := by omega
 go_enter Tryz.func51, Tryz.ntmps51
 go_wp2_with fail
 refine (read_any q _ hq').mono ?_
 rintro e w1 ⟨bp, p, nds, R, en, rfl, hb, hR, hp, hinv, hk, hn, hps, hcase⟩
 cases R with
 | bad j =>
  obtain ⟨rfl, hbad⟩ := hcase
  have HA : Hid (FitsA q s false 2) := Or.inr ⟨hq', .bad j, hR, rfl, rfl⟩
  clear hbad hp hinv hR
  go_wp2_with fail
  go_ret2
  exact ⟨false, 2, rfl, HA.out, hk⟩
 | ok W j =>
  obtain ⟨rfl, hbg, hen, hgr, hrep⟩ := hcase
  obtain ⟨a1, a2, a3, a4, a5, a6, a7⟩ := hR.all hq'
  have HR : Hid (PatR q (.ok W j)) := hR
  have hNK : NK nds 1000 p.root := ⟨.ways, W.x, hrep, a1, a2, a4, a5⟩
  have HFt : Hid (∀ t, TO true t → (Ft W.x t ↔ FN nds p.root t)) := fun t ht => repK_Ft 1000 (by omega) a1 hrep ht
  clear hbg hen hgr hrep a1 a2 a3 a4 a5 a6 a7 hR
  go_wp2_with fail
  refine (rflat_any s w1).mono ?_
  rintro e w2 ⟨tf, jf, nf, rfl, hFl, hk2⟩
  have hC : (nf ≠ 0 ∧ FitsA q s false nf) ∨ (nf = 0 ∧ s.size ≤ 20000 ∧ ∃ t k, TreeR s (.ok t k)) := by
   rcases hFl with ⟨h1, _, _, rfl⟩ | ⟨h1, q', hq2, h⟩
   ·exact Or.inl ⟨by decide, Or.inr ⟨hq', _, HR.out, Or.inl ⟨h1, rfl, rfl⟩⟩⟩
   ·cases q' with
    | bad k =>
     obtain ⟨_, _, rfl⟩ := h
     exact Or.inl ⟨by decide, Or.inr ⟨hq', _, HR.out, Or.inr ⟨h1, _, hq2, rfl, rfl⟩⟩⟩
    | ok t k =>
     obtain ⟨_, _, rfl⟩ := h
     exact Or.inr ⟨rfl, h1, t, k, hq2⟩
  clear hFl
  rcases hC with ⟨h0, hF⟩ | ⟨rfl, hsz, t, kk, hT⟩
  ·have hne : (nf == 0) = false := by simpa using h0
   have HF : Hid (FitsA q s false nf) := hF
   have hkE := hk.trans hk2
   clear h0 hF hp hinv
   go_wp2_with fail
   go_ret2
   exact ⟨false, nf, rfl, HF.out, hkE⟩
  ·obtain ⟨hTO, hst⟩ := hT.is
   have hp2 := hp.keep0 hk2
   have hinv2 := hinv.keep hk2 (by simp)
   have hcall := fits_all nds hn 1000 (Nat.le_refl _) p.root hNK w2 bp p t hp2 hinv2 hTO (by rw [← nmB_size, ← hst]; exact hsz)
   rw [← hst] at hcall
   obtain ⟨r2, _⟩ := hp2.rbe
   have HA : Hid (∀ b : Bool, (b = true ↔ FN nds p.root t) → FitsA q s b 0) := fun b hb => Or.inr ⟨hq', _, HR.out, Or.inr ⟨hsz, _, hT, hb.trans (HFt.out t hTO).symm, rfl⟩⟩
   clear hp hinv hinv2 hp2 hst hT hsz
   go_wp2_with fail
   refine hcall.mono ?_
   rintro e w3 ⟨r, rfl, hr, hk3⟩
   have HR3 : Hid (r = true ↔ FN nds p.root t) := hr
   have hkE := (hk.trans hk2).trans hk3
   clear hr
   go_wp2_with fail
   go_ret2
   exact ⟨r, 0, rfl, HA.out r HR3.out, hkE⟩
end Go.Proofs.YtnfojonmohijpaaGreatDoor
namespace Go.Proofs.YtnfojonmohijpaaGreatDoor
open Go.RowKit
set_option maxRecDepth 100000 in
set_option maxHeartbeats 4000000 in
theorem yfits_any (p s : ByteArray) (w : World) (hgn : GN w) :
    Calls Tryz.prog 20 #[.string p, .string s] w fun e w' => ∃ b n, e = .returned (.tuple #[.bool b, .int .i64 n]) ∧ FitsA p s b n ∧ Keeps [] w w' := by
 go_enter Tryz.func20, Tryz.ntmps20
 go_wp2_with fail
 refine (readPattern_prog p w hgn).mono ?_
 rintro e w1 ⟨hk1, hc1⟩
 have hz0 : P4 (w1.alloc (.cells #[.bool false, .bool false, .slice none 0 0, .int .i64 0] 70)) w1.heap.size (.bool false) (.bool false) (.slice none 0 0) (.int .i64 0) := heap_alloc_new w1 _
 have hk2 : Keeps [] w1 (w1.alloc (.cells #[.bool false, .bool false, .slice none 0 0, .int .i64 0] 70)) := (Keeps.refl [] w1).alloc _
 have hC : (∃ x y : Int, y ≠ 0 ∧ e = .returned (.tuple #[.agg #[.bool false, .bool false, .slice none 0 0, .int .i64 0], .int .i64 x, .int .i64 y]) ∧ FitsA p s false y) ∨
     ∃ W j v, p.size ≤ 60 ∧ PatR p (.ok W j) ∧ e = .returned (.tuple #[.agg #[.bool W.bg, .bool W.en, v, .int .i64 W.g], .int .i64 0, .int .i64 0]) ∧ v.oneCell' = true ∧ Rep w1 (fun g => w.heap.size ≤ g) .ways W.x [v] := by
  rcases hc1 with ⟨hl, he⟩ | ⟨hs, q, hq, h⟩
  ·exact Or.inl ⟨0, 1, by decide, he, Or.inl ⟨hl, rfl, rfl⟩⟩
  ·cases q with
   | bad j => exact Or.inl ⟨j, 2, by decide, h, Or.inr ⟨hs, _, hq, rfl, rfl⟩⟩
   | ok W j =>
    obtain ⟨v, he, hv, hr⟩ := h
    exact Or.inr ⟨W, j, v, hs, hq, he, hv, hr⟩
 clear hc1
 rcases hC with ⟨x, y, hy, rfl, hF⟩ | ⟨Wh, jp, v, hps, hPR, rfl, hv1, hrep⟩
 ·have hne : (y == 0) = false := by simpa using hy
  have hnn : (y != 0) = true := by simpa using hy
  have HF : Hid (FitsA p s false y) := hF
  have hkS := (hk1.trans hk2).setRow (g := w1.heap.size) (Or.inr hk1.size) #[.bool false, .bool false, .slice none 0 0, .int .i64 0]
  clear hF hy
  go_wp2_with (first | (refine wpList_store_row rfl 70 _ _ rfl w1.heap.size #[.bool false, .bool false, .slice none 0 0, .int .i64 0] rfl rfl _ _ hz0 infoPat rfl (four_one rfl) ?_))
  go_ret2
  exact ⟨false, y, rfl, HF.out, hkS⟩
 ·have hkS : Keeps [] w1 ((w1.alloc (.cells #[.bool false, .bool false, .slice none 0 0, .int .i64 0] 70)).setRow w1.heap.size #[.bool Wh.bg, .bool Wh.en, v, .int .i64 Wh.g]) := hk2.setRow (Or.inr (Nat.le_refl _)) _
  have h1 : P4 ((w1.alloc (.cells #[.bool false, .bool false, .slice none 0 0, .int .i64 0] 70)).setRow w1.heap.size #[.bool Wh.bg, .bool Wh.en, v, .int .i64 Wh.g]) w1.heap.size (.bool Wh.bg) (.bool Wh.en) v (.int .i64 Wh.g) := setRow_heap _ _ _ _ _ _ hz0
  have hrep1 := hrep.keep hkS (by simp)
  have hkA := hk1.trans hkS
  have HPR : Hid (p.size ≤ 60 ∧ PatR p (.ok Wh jp)) := ⟨hps, hPR⟩
  clear hps hPR hrep
  go_upto_region 2 with (first | (refine wpList_store_row rfl 70 _ _ rfl w1.heap.size #[.bool Wh.bg, .bool Wh.en, v, .int .i64 Wh.g] rfl rfl _ _ hz0 infoPat rfl (four_one hv1) ?_))
  generalize (w1.alloc (.cells #[.bool false, .bool false, .slice none 0 0, .int .i64 0] 70)).setRow w1.heap.size #[.bool Wh.bg, .bool Wh.en, v, .int .i64 Wh.g] = w2 at *
  obtain ⟨g1, hg1⟩ : ∃ g, w1.heap.size = g := ⟨_, rfl⟩
  rw [hg1] at h1 ⊢
  go_wp2_with fail
  refine (readTree_prog s w2).mono ?_
  rintro e w3 ⟨hk3, hc3⟩
  have hz3 : P3 (w3.alloc (.cells #[.int .u8 0, .int .i64 0, .slice none 0 0] 88)) w3.heap.size (.int .u8 0) (.int .i64 0) (.slice none 0 0) := heap_alloc_new w3 _
  have hk4 : Keeps [] w3 (w3.alloc (.cells #[.int .u8 0, .int .i64 0, .slice none 0 0] 88)) := (Keeps.refl [] w3).alloc _
  have hkB := hkA.trans hk3
  have hC : (∃ (a b c : Value) (x y : Int), e = .returned (.tuple #[.agg #[a, b, c], .int .i64 x, .int .i64 y]) ∧ a.oneCell' = true ∧ b.oneCell' = true ∧ c.oneCell' = true ∧ y ≠ 0 ∧ FitsA p s false y) ∨
      ∃ (t : Tr) (a b c : Value) (j : Nat), e = .returned (.tuple #[.agg #[a, b, c], .int .i64 0, .int .i64 0]) ∧ a.oneCell' = true ∧ b.oneCell' = true ∧ c.oneCell' = true ∧ (∀ b, (b = true ↔ Ft Wh.x t) → FitsA p s b 0) ∧ TV w3 (fun g => w2.heap.size ≤ g) true t [a, b, c] := by
   obtain ⟨hps, hPR⟩ := HPR.out
   rcases hc3 with ⟨hl, he⟩ | ⟨hs, q, hq, h⟩
   ·exact Or.inl ⟨_, _, _, _, _, he, rfl, rfl, rfl, by decide, Or.inr ⟨hps, _, hPR, Or.inl ⟨hl, rfl, rfl⟩⟩⟩
   ·cases q with
    | bad j => exact Or.inl ⟨_, _, _, _, _, h, rfl, rfl, rfl, by decide, Or.inr ⟨hps, _, hPR, Or.inr ⟨hs, _, hq, rfl, rfl⟩⟩⟩
    | ok t j =>
     obtain ⟨a, b, c, he, ha, hb, hc, htv⟩ := h
     exact Or.inr ⟨t, a, b, c, j, he, ha, hb, hc, fun b hb => Or.inr ⟨hps, _, hPR, Or.inr ⟨hs, _, hq, hb, rfl⟩⟩, htv⟩
  clear hc3 HPR
  have h1r := h1.keep hk3 (by simp)
  have hrep3 := hrep1.keep hk3 (by simp)
  rcases hC with ⟨a, b, c, x, y, rfl, ha, hb, hc, hy, hF⟩ | ⟨t, a, b, c, j, rfl, ha, hb, hc, hF, htv⟩
  ·have hne : (y == 0) = false := by simpa using hy
   have hnn : (y != 0) = true := by simpa using hy
   have HF : Hid (FitsA p s false y) := hF
   have hkT := (hkB.trans hk4).setRow (g := w3.heap.size) (Or.inr hkB.size) #[a, b, c]
   clear hF hy
   go_wp2_with (first | (refine wpList_store_row rfl 88 _ _ rfl w3.heap.size #[a, b, c] rfl rfl _ _ hz3 (info3 _ _ _) rfl (all3 ha hb hc) ?_))
   go_ret2
   exact ⟨false, y, rfl, HF.out, hkT⟩
  ·obtain ⟨k, nn, va, vn, vc, hf⟩ := htv.form
   simp only [List.cons.injEq, and_true] at hf
   obtain ⟨rfl, rfl, rfl⟩ := hf
   have HF : Hid (∀ b, (b = true ↔ Ft Wh.x t) → FitsA p s b 0) := hF
   have hkT : Keeps [] w3 ((w3.alloc (.cells #[.int .u8 0, .int .i64 0, .slice none 0 0] 88)).setRow w3.heap.size #[.int .u8 k, .int .i64 nn, .slice va vn vc]) := hk4.setRow (Or.inr (Nat.le_refl _)) _
   have h4 : P3 ((w3.alloc (.cells #[.int .u8 0, .int .i64 0, .slice none 0 0] 88)).setRow w3.heap.size #[.int .u8 k, .int .i64 nn, .slice va vn vc]) w3.heap.size (.int .u8 k) (.int .i64 nn) (.slice va vn vc) := setRow_heap _ _ _ _ _ _ hz3
   have htv4 := htv.keep hkT (by simp)
   have hrep4 := hrep3.keep hkT (by simp)
   have h14 := h1r.keep hkT (by simp)
   have hkC := hkB.trans hkT
   clear hF htv hrep3
   go_upto_region 5 with (first | (refine wpList_store_row rfl 88 _ _ rfl w3.heap.size #[.int .u8 k, .int .i64 nn, .slice va vn vc] rfl rfl _ _ hz3 (info3 _ _ _) rfl (all3 rfl rfl rfl) ?_))
   generalize (w3.alloc (.cells #[.int .u8 0, .int .i64 0, .slice none 0 0] 88)).setRow w3.heap.size #[.int .u8 k, .int .i64 nn, .slice va vn vc] = w4 at *
   obtain ⟨g4, hg4⟩ : ∃ g, w3.heap.size = g := ⟨_, rfl⟩
   rw [hg4] at h4 ⊢
   go_wp2_with (first
     | (refine wpList_load_row rfl 70 _ rfl g1 rfl _ _ _ _ h14 Tryz.underlying70 rfl infoPat ?_)
     | (refine wpList_load_row rfl 88 _ rfl g4 rfl _ _ _ _ h4 Tryz.underlying88 rfl (info3 _ _ _) ?_))
   refine (mfits_any Wh.x _ _ _ _ _ _ _ t w4 _ _ ⟨rfl, rfl, hv1, rfl⟩ hrep4 htv4).mono ?_
   rintro e w5 ⟨b, rfl, hbi, hk5⟩
   go_wp2_with fail
   go_ret2
   exact ⟨b, 0, rfl, HF.out b hbi, hkC.trans hk5⟩
end Go.Proofs.YtnfojonmohijpaaGreatDoor
namespace Go.Proofs.YtnfojonmohijpaaGreatDoor
theorem lit_piece {s : ByteArray} {d g i : Nat} {c : Int} (h : at' s i = c) (h0 : 0 ≤ c) (h1 : c ≠ 40 ∧ c ≠ 91 ∧ c ≠ 46 ∧ c ≠ 92) (h2 : ¬ notC c) (hn : at' s (i + 1) ≠ 42 ∧ at' s (i + 1) ≠ 43 ∧ at' s (i + 1) ≠ 63 ∧ at' s (i + 1) ≠ 123) :
    G s .piece d g i (.ok (.set (stretch c c), g) (i + 1)) := by
 have a := G.lit (s := s) d g i (by rw [h]; exact h0) (by rw [h]; exact h1.1) (by rw [h]; exact h1.2.1) (by rw [h]; exact h1.2.2.1) (by rw [h]; exact h1.2.2.2) (by rw [h]; exact h2)
 rw [h] at a
 exact G.rep d g i g (i + 1) _ (.ok none (i + 1)) a (Or.inl ⟨hn.1, hn.2.1, hn.2.2.1, hn.2.2.2, rfl⟩)
theorem way_cons {s : ByteArray} {d g i g1 j g2 k : Nat} {x r : Pat} (h : ¬ stopC (at' s i)) (h1 : G s .piece d g i (.ok (x, g1) j)) (h2 : G s .way d g1 j (.ok (r, g2) k)) : G s .way d g i (.ok (.pcons x r, g2) k) := G.cons d g i g1 j x (.ok (r, g2) k) h h1 h2
theorem grp_piece {s : ByteArray} {d g i g1 j : Nat} {x : Pat} (h : at' s i = 40) (hd : ¬ (d = 6 ∨ g = 9)) (h1 : G s .ways (d + 1) (g + 1) (i + 1) (.ok (x, g1) j)) (hc : at' s j = 41) (hn : at' s (j + 1) ≠ 42 ∧ at' s (j + 1) ≠ 43 ∧ at' s (j + 1) ≠ 63 ∧ at' s (j + 1) ≠ 123) :
    G s .piece d g i (.ok (.grp (g + 1) x, g1) (j + 1)) := G.rep d g i g1 (j + 1) _ (.ok none (j + 1)) (G.grp d g i g1 j x h hd h1 hc) (Or.inl ⟨hn.1, hn.2.1, hn.2.2.1, hn.2.2.2, rfl⟩)
def st (c : Int) : Pat := .set (stretch c c)
end Go.Proofs.YtnfojonmohijpaaGreatDoor
namespace Go.Proofs.YtnfojonmohijpaaGreatDoor
open Go.RowKit
def eS : ByteArray := ⟨#[40, 97, 41]⟩
def eT : ByteArray := ⟨#[40, 103, 49, 32, 98, 54, 49, 41]⟩
def eX : Pat := .wone (.pcons (.grp 1 (.wone (.pcons (st 97) .pnil))) .pnil)
theorem e_read : PatR eS (.ok ⟨false, false, eX, 1⟩ 3) := by
 obtain ⟨h0, h1, h2, h3⟩ : at' eS 0 = 40 ∧ at' eS 1 = 97 ∧ at' eS 2 = 41 ∧ at' eS 3 = -1 := by decide
 have a : G eS .way 1 1 1 (.ok (.pcons (st 97) .pnil, 1) 2) := way_cons (by rw [h1]; unfold stopC; decide) (lit_piece h1 (by decide) (by decide) (by unfold notC; decide) (by rw [h2]; decide)) (G.nil 1 1 2 (by rw [h2]; unfold stopC; decide))
 have g1 : G eS .ways 1 1 1 (.ok (.wone (.pcons (st 97) .pnil), 1) 2) := G.one 1 1 1 1 2 _ a (by rw [h2]; decide)
 have p1 : G eS .piece 0 0 0 (.ok (.grp 1 (.wone (.pcons (st 97) .pnil)), 1) 3) := grp_piece h0 (by decide) g1 h2 (by rw [h3]; decide)
 have w1 : G eS .way 0 0 0 (.ok (.pcons (.grp 1 (.wone (.pcons (st 97) .pnil))) .pnil, 1) 3) := way_cons (by rw [h0]; unfold stopC; decide) p1 (G.nil 0 1 3 (by rw [h3]; unfold stopC; decide))
 have hw : wi eS = 0 := by simp [wi, h0]
 refine ⟨.ok (eX, 1) 3, ?_, ?_⟩
 ·rw [hw]
  exact G.one 0 0 0 1 3 _ w1 (by rw [h3]; decide)
 ·simp [PatE_ok, h3, h0]
theorem e_tree : TreeR eT (.ok (.tgrp 1 (.tbyte 97)) 8) := by
 obtain ⟨h0, h1, h2, h3, h4, h5, h6, h7⟩ : at' eT 0 = 40 ∧ at' eT 1 = 103 ∧ at' eT 2 = 49 ∧ at' eT 3 = 32 ∧ at' eT 4 = 98 ∧ at' eT 5 = 54 ∧ at' eT 6 = 49 ∧ at' eT 7 = 41 := by decide
 have b := TG.byte (s := eT) 1 4 h4 (by rw [h5]; decide) (by rw [h6]; decide)
 rw [h5, h6] at b
 have r : TG eT (.row 1 false) 1 3 (.ok (.lcons (.tbyte 97) .lnil) 7) := TG.go 1 false 1 3 7 (.tbyte 97) (.ok .lnil 7) (Or.inl (by decide)) h3 b (TG.fin 1 7)
 have g := TG.grp (s := eT) 1 1 _ h1 (by rw [h2]; decide) (by rw [h2]; decide) r
 rw [h2] at g
 have o := TG.opn (s := eT) 0 0 _ h0 (by decide) g
 refine ⟨_, o, ?_⟩
 have e1 : shut eT (.ok (.tgrp 1 (.tbyte 97)) 7) = .ok (.tgrp 1 (.tbyte 97)) 8 := by simp only [shut, h7, if_pos]
 show _ = wholeR eT (shut eT (.ok (.tgrp 1 (.tbyte 97)) 7))
 rw [e1]
 simp [wholeR, show eT.size = 8 by decide]
theorem e_flat : FlatA eT [97] 0 0 := Or.inr ⟨by decide, _, e_tree, rfl, rfl, rfl⟩
theorem e_fits : FitsA eS eT true 0 := Or.inr ⟨by decide, _, e_read, Or.inr ⟨by decide, _, e_tree, ⟨fun _ => .one _ _ (.lone _ _ (.grp 1 _ _ (.one _ _ (.lone _ _ (.set _ 97 (by decide)))))), fun _ => rfl⟩, rfl⟩⟩
set_option maxRecDepth 100000 in
set_option maxHeartbeats 2000000 in
theorem law_flat (s : ByteArray) (w : World) :
    Calls Tryz.prog 22 #[.string s] w fun e w' => e = .returned (.bool true) ∧ Keeps [] w w' := by
 go_enter Tryz.func22, Tryz.ntmps22
 go_wp2_with fail
 refine (yflat_any s w).mono ?_
 rintro e w1 ⟨t, j, n, rfl, h1, hk1⟩
 have H1 : Hid (FlatA s t j n) := h1
 clear h1
 go_wp2_with fail
 refine (rflat_any s w1).mono ?_
 rintro e w2 ⟨t2, j2, n2, rfl, h2, hk2⟩
 obtain ⟨rfl, rfl, rfl⟩ := H1.out.det h2
 have hk := hk1.trans hk2
 clear h2 hk1 hk2
 go_wp2_with fail
 go_ret
 exact ⟨rfl, hk⟩
set_option maxRecDepth 100000 in
set_option maxHeartbeats 2000000 in
theorem law_fits (p s : ByteArray) (w : World) (hgn : GN w) :
    Calls Tryz.prog 23 #[.string p, .string s] w fun e w' => e = .returned (.bool true) ∧ Keeps [] w w' := by
 go_enter Tryz.func23, Tryz.ntmps23
 go_wp2_with fail
 refine (yfits_any p s w hgn).mono ?_
 rintro e w1 ⟨b, n, rfl, h1, hk1⟩
 have H1 : Hid (FitsA p s b n) := h1
 clear h1 hgn
 go_wp2_with fail
 refine (rfits_any p s w1).mono ?_
 rintro e w2 ⟨b2, n2, rfl, h2, hk2⟩
 obtain ⟨rfl, rfl⟩ := H1.out.det h2
 have hk := hk1.trans hk2
 clear h2 hk1 hk2
 go_wp2_with fail
 go_ret
 exact ⟨rfl, hk⟩
set_option maxRecDepth 100000 in
set_option maxHeartbeats 2000000 in
theorem law_trees (p t s : ByteArray) (w : World) (hgn : GN w) :
    Calls Tryz.prog 5 #[.string p, .string t, .string s] w fun e w' => e = .returned (.bool true) ∧ Keeps [] w w' := by
 go_enter Tryz.func5, Tryz.ntmps5
 go_wp2_with fail
 refine (yflat_any eT w).mono ?_
 rintro e w1 ⟨t1, j1, n1, rfl, h1, hk1⟩
 obtain ⟨rfl, rfl, rfl⟩ := h1.det e_flat
 have hgn1 := hgn.keep hk1 (by simp)
 have hx : nmB [97] = ⟨#[97]⟩ := rfl
 rw [hx]
 clear h1
 go_wp2_with fail
 refine (yfits_any eS eT w1 hgn1).mono ?_
 rintro e w2 ⟨b2, n2, rfl, h2, hk2⟩
 obtain ⟨rfl, rfl⟩ := h2.det e_fits
 have hkA := hk1.trans hk2
 clear h2 hgn1 hk1 hk2
 go_wp2_with fail
 refine (match_ref p s w2).mono ?_
 rintro e w3 ⟨t3, b3, n3, rfl, _, hk3⟩
 have hkB := hkA.trans hk3
 clear hkA hk3
 go_wp2_with fail
 refine (law_flat t w3).mono ?_
 rintro e w4 ⟨rfl, hk4⟩
 have hkC := hkB.trans hk4
 clear hkB hk4
 have hgn4 := hgn.keep hkC (by simp)
 go_wp2_with fail
 refine (law_fits p t w4 hgn4).mono ?_
 rintro e w5 ⟨rfl, hk5⟩
 have hkD := hkC.trans hk5
 clear hkC hk5 hgn4
 go_wp2_with fail
 refine (law_flat (nmB t3) w5).mono ?_
 rintro e w6 ⟨rfl, hk6⟩
 have hkE := hkD.trans hk6
 clear hkD hk6
 have hgn6 := hgn.keep hkE (by simp)
 go_wp2_with fail
 refine (law_fits p (nmB t3) w6 hgn6).mono ?_
 rintro e w7 ⟨rfl, hk7⟩
 have hkF := hkE.trans hk7
 clear hkE hk7 hgn6
 go_wp2_with fail
 go_ret
 exact ⟨rfl, hkF⟩
end Go.Proofs.YtnfojonmohijpaaGreatDoor
namespace Go.Proofs.YtnfojonmohijpaaGreatDoor
open Go.ChangeShapes Go.WideShapes Go.ChangeAt Go.WideMaps Go.WideElems Go.RowKit
theorem ownK : ownKnob Tryz.prog.godebug = none := by kernel_rfl
theorem gCls : Tryz.prog.globalNamed "yarrow/byteset.classNames" = some 6 := by kernel_rfl
theorem tCls : (Tryz.prog.globals[6]?).map (·.type) = some 357 := by kernel_rfl
theorem cStr : Tryz.prog.cellsOf 9 = 1 := by kernel_rfl
theorem cCls : Tryz.prog.cellsOf 357 = 7 := by kernel_rfl
theorem str_cell {H : Type} {enc : TypeId × Value → H} {W : World} {base fuel : Nat} {sp : Nat → Bool} {held : Bool} {c : Value} {x : DataW H × List MemPlace} {l : List UInt8}
    (h : DataW.trod enc Tryz.prog W base sp held fuel 9 [c] = some x) (hx : DataW.lit (.string l) = x.1) : c = .string (nmB l) := by
 obtain ⟨s, hc, rfl, _⟩ := DataW.trod_string Tryz.underlying9 h
 simp only [List.cons.injEq, and_true] at hc
 simp only [DataW.lit.injEq, Lit.string.injEq] at hx
 subst hc
 rw [hx]
 congr 1
theorem seven {α : Type} (l : List α) (h : l.length = 7) : ∃ a b c d e f g, l = [a, b, c, d, e, f, g] := by
 match l, h with
 | [a, b, c, d, e, f, g], _ => exact ⟨a, b, c, d, e, f, g, rfl⟩
theorem post_none {H : Type} {enc : TypeId × Value → H} {P : Program} {f : Func} {s : ChangeSpec} {apart fresh handsOn again : Bool} {W W' : World} {args : Array Value} {v : Value} {ds gs : List (DataW H)}
    (hW : DataW.Whole enc P f.params.toList s.vars apart W args.toList ds gs [])
    (hres : ∀ (b : Nat) (sp : Nat → Bool) (hd : Bool), DataW.TrodAll enc P W' b sp hd f.resultTypes.toList (v.resultList f.resultTypes.size) (s.fn H (ds ++ gs)).results [])
    (hargs : ∀ sp : Nat → Bool, DataW.TrodAll enc P W' 0 sp true f.params.toList args.toList (s.fn H (ds ++ gs)).args [])
    (hvars : ∀ sp : Nat → Bool, DataW.TrodVars enc P W' sp s.vars (s.fn H (ds ++ gs)).vars [])
    (hk : W.keptBut W' fun _ => False)
    (hok : ∀ (j : Nat) (t : TypeId) (r : Value), f.resultTypes[j]? = some t → (v.resultList f.resultTypes.size)[j]? = some r → Value.okWide P W' .any 0 t r) :
    s.post enc P f apart fresh handsOn again W args v W' := by
 refine ⟨ds, gs, [], [], [], [], hW, hres _ _ _, hargs _, hvars _, World.keptBut_mono (fun p hp => hp.elim) hk, fun _ => ?_⟩
 refine ⟨hok, _, _, ([] ++ []) ++ [], ⟨[] ++ [], [], trodAll_append (hargs _) (hres _ _ _), hvars _, rfl, ?_, ?_⟩, ?_⟩
 ·intro b off hp; simp at hp
 ·intro _; simp
 ·intro p hp _; simp at hp
end Go.Proofs.YtnfojonmohijpaaGreatDoor
namespace Go.Proofs.YtnfojonmohijpaaGreatDoor
open Go.ChangeShapes Go.WideShapes Go.ChangeAt Go.WideMaps Go.WideElems Go.RowKit
set_option maxRecDepth 100000 in
theorem of_laid1 {W : World} (h : laidMetH Tryz.prog Rows.searchesRow.laid W) : GN W := by
 rw [MakeChecks.laidMetH_plain _ _ _ (by kernel_rfl)] at h
 obtain ⟨ps, ⟨g3, t3, cs3, f3, p3, q3, hg3, ht3, hv3, hd3, _, _⟩, _, _⟩ := h
 obtain rfl := Option.some.inj (gCls.symm.trans hg3)
 obtain rfl := Option.some.inj (tCls.symm.trans ht3)
 obtain ⟨xs, m, rfl, hx, hlen, hn, hel⟩ := DataW.trod_array Tryz.underlying357 hd3
 rw [cCls] at hlen
 rw [cStr] at hel
 have hl : ∃ t fr, W.heap[6]? = some (.cells cs3 t fr) := by
  simp only [World.var?, gCls, Option.bind_some] at hv3
  split at hv3
  ·rename_i c t fr he
   cases hv3
   exact ⟨t, fr, he⟩
  ·cases hv3
 obtain ⟨t, fr, hl⟩ := hl
 refine ⟨t, fr, hl.trans ?_⟩
 obtain ⟨l3⟩ := cs3
 unfold Rows.laid_yarrow_byteset_classNames at hx
 simp only [Prod.mk.injEq, DataW.agg.injEq] at hx
 obtain ⟨hx, _⟩ := hx
 obtain ⟨c0, c1, c2, c3, c4, c5, c6, rfl⟩ := seven l3 hlen
 obtain ⟨x0, x1, x2, x3, x4, x5, x6, rfl⟩ := seven xs hn
 ·simp only [List.map_cons, List.map_nil, List.cons.injEq, and_true] at hx
  obtain ⟨e0, e1, e2, e3, e4, e5, e6⟩ := hx
  have h0 := str_cell (hel 0 (by decide)) e0
  have h1 := str_cell (hel 1 (by decide)) e1
  have h2 := str_cell (hel 2 (by decide)) e2
  have h3 := str_cell (hel 3 (by decide)) e3
  have h4 := str_cell (hel 4 (by decide)) e4
  have h5 := str_cell (hel 5 (by decide)) e5
  have h6 := str_cell (hel 6 (by decide)) e6
  subst h0 h1 h2 h3 h4 h5 h6
  rfl
end Go.Proofs.YtnfojonmohijpaaGreatDoor
