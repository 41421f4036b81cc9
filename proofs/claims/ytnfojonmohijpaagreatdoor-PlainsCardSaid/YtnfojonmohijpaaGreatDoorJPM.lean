/-
  DERIVED. The contract of the program's set. Conditions: the text is at most 60 bytes long, an opening square bracket is ahead, the variable classNames holds the seven names and lies apart.
-/
import Derived.Test.YtnfojonmohijpaaGreatDoorJPK
set_option linter.unusedSimpArgs false
set_option linter.unusedVariables false
namespace Go.Proofs.YtnfojonmohijpaaGreatDoor
open Go.RowKit

/-- How much is left to be read: a loop's measure. -/
def muQ (w : World) (b : Nat) : Nat := 62 - (cellInt w b 1).toNat
theorem muQ_eq {w : World} {b : Nat} {p : QS} (hp : QB w b p) : muQ w b = 62 - p.ix := by
  have h := hp.main.2.1
  simp [muQ, cellInt, h, intOf]

/-- What set leaves. -/
def SPost (b : Nat) (p : QS) (w : World) (e : Ending) (w' : World) : Prop :=
  ∃ q, SetR p.s (p.ix + 1) q ∧ Keeps [b] w w' ∧ match q with
    | .ok f j => e = .returned (.agg (hcells f)) ∧ QB w' b { p with ix := j }
    | .bad j => e = fault j

/-- The loop's relation. -/
structure SL (p : QS) (b g j0 : Nat) (w wr : World) (f : Nat → Bool) (i : Nat) : Prop where
  qb : QB wr b { p with ix := i }
  held : HQ wr (g + 1) f
  res : HQ wr g (fun _ => false)
  gn : GN wr
  keep : Keeps [b] w wr
  ile : i ≤ p.s.size
  spec : ∀ q, SetL p.s f i q → SetU p.s j0 q

theorem SL.next {p : QS} {b g j0 i j : Nat} {w wr w2 : World} {f r : Nat → Bool} (h : SL p b g j0 w wr f i) (hw : w.heap.size = g) (hb : b < g) (hG : 6 < g) (hbg : b ≠ 6) (h93 : at' p.s i ≠ 93)
    (hr : rangeS p.s i = .ok r j) (hk : Keeps [b, g + 1] wr w2) (hq : QB w2 b { p with ix := j }) (hh : HQ w2 (g + 1) (fun n => f n || r n)) : SL p b g j0 w w2 (fun n => f n || r n) j :=
  ⟨hq, hh, h.res.keep hk (by simp; omega), h.gn.keep hk (by simp; omega), h.keep.fresh hk (by intro x hx; simp at hx ⊢; omega), (rangeS_ok hr).2, fun q hq => h.spec q (.more f r i j q h93 hr hq)⟩

set_option maxRecDepth 100000 in
set_option maxHeartbeats 2000000 in
theorem set_prog (b : Nat) (p : QS) (w : World) (hp : QB w b p) (hs : p.s.size ≤ 60) (h91 : at' p.s p.ix = 91) (hg : GN w) (hbg : b ≠ 6) :
    Calls Tryz.prog 248 #[.pointer (some ⟨b, 0, none⟩)] w (SPost b p w) := by
  have hz0 : HQ ((w.alloc (.cells (hcells fun _ => false) 206)).alloc (.cells (hcells fun _ => false) 206)) w.heap.size (fun _ => false) := heap_alloc2_old w _ _
  have hz1 : HQ ((w.alloc (.cells (hcells fun _ => false) 206)).alloc (.cells (hcells fun _ => false) 206)) (w.heap.size + 1) (fun _ => false) := heap_alloc2_new w _ _
  have hk0 : Keeps [] w ((w.alloc (.cells (hcells fun _ => false) 206)).alloc (.cells (hcells fun _ => false) 206)) := ((Keeps.refl [] w).alloc _).alloc _
  have hbl := hp.lt
  have hgl := hg.lt
  have hlt : p.ix + 1 ≤ p.s.size := at'_nn (by omega)
  obtain ⟨ob, j0, hd, htk, hj0, hfin⟩ : ∃ (ob : Bool) (j0 : Nat), decide (QS.cur { p with ix := p.ix + 1 } = 94) = ob ∧ QS.took { p with ix := p.ix + 1 } 94 = { p with ix := j0 } ∧ j0 ≤ p.s.size ∧ ∀ q', SetU p.s j0 q' → SetR p.s (p.ix + 1) (q'.map fun f n => if ob then !f n else f n) := by
    by_cases h94 : at' p.s (p.ix + 1) = 94
    · obtain ⟨e1, e2⟩ := took_yes (p := { p with ix := p.ix + 1 }) h94
      exact ⟨true, p.ix + 2, e1, e2, at'_nn (by omega), fun q' hq => Or.inl ⟨h94, q', hq, rfl⟩⟩
    · obtain ⟨e1, e2⟩ := took_no (p := { p with ix := p.ix + 1 }) h94
      refine ⟨false, p.ix + 1, e1, e2, hlt, fun q' hq => Or.inr ⟨h94, ?_⟩⟩
      cases q' with
      | ok f j => exact hq
      | bad j => exact hq
  have HF : Hid (∀ q', SetU p.s j0 q' → SetR p.s (p.ix + 1) (q'.map fun f n => if ob then !f n else f n)) := hfin
  have hq0 := hp.keep hk0 (by simp)
  have hg0 := hg.keep hk0 (by simp)
  clear hfin hp hg
  go_enter Tryz.func248, Tryz.ntmps248
  go_wp2_with (first | (refine wpList_zeroSet rfl rfl (some 3) rfl ?_; generalize (w.alloc (.cells (hcells fun _ => false) 206)).alloc (.cells (hcells fun _ => false) 206) = W at *) | (refine wpList_zeroSet rfl rfl (some 2) rfl ?_))
  refine (expect_ok b p 91 (by omega) _ hq0 hs h91).mono ?_
  rintro e w1 ⟨rfl, hq1, hk1⟩
  obtain ⟨g, hgq⟩ : ∃ g, w.heap.size = g := ⟨_, rfl⟩
  rw [hgq] at hz0 hz1 hbl hgl ⊢
  have hz0 := hz0.keep hk1 (by simp; omega)
  have hz1 := hz1.keep hk1 (by simp; omega)
  have hg1 := hg0.keep hk1 (by simp; omega)
  have hkA : Keeps [b] w w1 := (hk0.mono (by simp)).trans hk1
  clear h91 hq0 hg0 hk0 hk1
  go_wp2_with fail
  refine (skip_any b { p with ix := p.ix + 1 } 94 (by omega) _ hq1 hlt hs).mono ?_
  rintro e w2 ⟨rfl, hq2, hk2⟩
  rw [htk] at hq2
  rw [hd]
  have hz0 := hz0.keep hk2 (by simp; omega)
  have hz1 := hz1.keep hk2 (by simp; omega)
  have hg2 := hg1.keep hk2 (by simp; omega)
  have hkB : Keeps [b] w w2 := hkA.trans hk2
  clear hq1 hg1 hk2 hkA hd htk hlt
  go_wp2_with fail
  refine (addRange_prog b (g + 1) { p with ix := j0 } (fun _ => false) _ hq2 hz1 hs hj0 hg2 hbg (by omega)).mono ?_
  rintro e w3 ⟨hk3, hc3⟩
  have hkC : Keeps [b] w w3 := hkB.fresh hk3 (by intro x hx; simp at hx ⊢; omega)
  have hr3' : ∀ r, rangeS p.s j0 = r → rangeS (QS.s { p with ix := j0 }) (QS.ix { p with ix := j0 }) = r := fun r h => h
  cases hr3 : rangeS p.s j0 with
  | bad j =>
    rw [hr3' _ hr3] at hc3
    subst hc3
    simp only [fault]
    exact ⟨rfl, _, HF.out _ (.bad _ j hr3), hkC, rfl⟩
  | ok r j =>
    rw [hr3' _ hr3] at hc3
    obtain ⟨rfl, hq3, hh3⟩ := hc3
    have L0 : SL p b g j0 w w3 r j := ⟨hq3, hh3.congr (fun n _ => rfl), hz0.keep hk3 (by simp; omega), hg2.keep hk3 (by simp; omega), hkC, (rangeS_ok hr3).2, fun q hq => .go r _ j q hr3 hq⟩
    clear hr3 hr3' hq3 hh3 hkC hk3 hz0 hz1 hg2 hkB hq2
    go_wp2_with fail
    go_loopw [19] (fun _ wr => ∃ f i, SL p b g j0 w wr f i) (fun _ wr => muQ wr b)
    case atStart => exact ⟨_, _, L0⟩
    case round =>
      clear L0
      obtain ⟨f, i, L⟩ := hrel
      go_wp2_with fail
      refine (skip_any b { p with ix := i } 93 (by omega) _ L.qb L.ile hs).mono ?_
      rintro e w4 ⟨rfl, hq4, hk4⟩
      have hh4 := L.held.keep hk4 (by simp; omega)
      have hr4 := L.res.keep hk4 (by simp; omega)
      have hg4 := L.gn.keep hk4 (by simp; omega)
      have hk5 := L.keep.trans hk4
      by_cases h93 : at' p.s i = 93
      · obtain ⟨e1, e2⟩ := took_yes (p := { p with ix := i }) h93
        rw [e2] at hq4
        have HQ9 : Hid (SetR p.s (p.ix + 1) ((R.ok f (i + 1)).map fun f n => if ob then !f n else f n)) := HF.out _ (L.spec _ (.done f i h93))
        clear h93 e2
        rw [e1]
        cases ob
        · go_wp2_with (first | (refine wpList_load_row rfl 206 _ rfl (g + 1) rfl _ _ _ _ hh4 Tryz.underlying206 rfl (infoSetC _) ?_) | (refine wpList_store_row rfl 206 _ _ rfl g _ rfl rfl _ _ hr4 (infoSetC _) (by rw [hcells_size, hcells_size]) (hcells_one _) ?_))
          refine bodyPost_ret (results_cell_row rfl _ _ g _ _ _ _ rfl (setRow_heap _ _ _ _ _ _ hr4) Tryz.underlying206 rfl (infoSetC _)) rfl ?_
          exact ⟨_, HQ9.out, hk5.setRow (Or.inr (by omega)) _, rfl, hq4.keep ((Keeps.refl [g] w4).setRow (by simp) _) (by simp; omega)⟩
        · go_wp2_with (first | (refine wpList_load_row rfl 206 _ rfl (g + 1) rfl _ _ _ _ hh4 Tryz.underlying206 rfl (infoSetC _) ?_) | (go_at_call 252; refine (others_any f _).mono ?_; rintro e w6 ⟨rfl, hk6⟩; have hr6 := hr4.keep hk6 (by simp)) | (refine wpList_store_row rfl 206 _ _ rfl g _ rfl rfl _ _ hr6 (infoSetC _) (by rw [hcells_size, hcells_size]) (hcells_one _) ?_))
          refine bodyPost_ret (results_cell_row rfl _ _ g _ _ _ _ rfl (setRow_heap _ _ _ _ _ _ hr6) Tryz.underlying206 rfl (infoSetC _)) rfl ?_
          exact ⟨_, HQ9.out, (hk5.trans (hk6.mono (by simp))).setRow (Or.inr (by omega)) _, rfl, (hq4.keep hk6 (by simp)).keep ((Keeps.refl [g] w6).setRow (by simp) _) (by simp; omega)⟩
      · obtain ⟨e1, e2⟩ := took_no (p := { p with ix := i }) h93
        rw [e2] at hq4
        rw [e1]
        have L4 : SL p b g j0 w w4 f i := ⟨hq4, hh4, hr4, hg4, hk5, L.ile, L.spec⟩
        have hmu := muQ_eq L.qb
        clear e1 e2 L hk5
        go_wp2_with fail
        refine (addRange_prog b (g + 1) { p with ix := i } f _ hq4 hh4 hs L4.ile hg4 hbg (by omega)).mono ?_
        rintro e w5 ⟨hk5, hc5⟩
        have hr5' : ∀ r, rangeS p.s i = r → rangeS (QS.s { p with ix := i }) (QS.ix { p with ix := i }) = r := fun r h => h
        cases hr5 : rangeS p.s i with
        | bad j =>
          rw [hr5' _ hr5] at hc5
          subst hc5
          simp only [fault]
          exact ⟨rfl, _, HF.out _ (L4.spec _ (.bad f i j h93 hr5)), L4.keep.fresh hk5 (by intro x hx; simp at hx ⊢; omega), rfl⟩
        | ok r j =>
          rw [hr5' _ hr5] at hc5
          obtain ⟨rfl, hq5, hh5⟩ := hc5
          have L5 := L4.next hgq hbl hgl hbg h93 hr5 hk5 hq5 hh5
          have hj := rangeS_ok hr5
          clear hr5' h93
          go_wp2_with fail
          go_roundw
          case rel => exact ⟨_, _, L5⟩
          case measure => rw [hmu, muQ_eq L5.qb]; simp; omega
end Go.Proofs.YtnfojonmohijpaaGreatDoor

/-
  DERIVED. Contracts of the closures of digit: the grown value, and the test that is handed to Take. Conditions: the value is at most 5, the least one too.
-/
namespace Go.Proofs.YtnfojonmohijpaaGreatDoor
open Go.RowKit

theorem cf_grown (args : Array Value) (w : World) : (callFunc 301 args).run Tryz.prog w = .ok (.enter 301 args) w := by kernel_rfl
theorem cf_dig2 (args : Array Value) (w : World) : (callFunc 302 args).run Tryz.prog w = .ok (.enter 302 args) w := by kernel_rfl

set_option maxRecDepth 100000 in
set_option maxHeartbeats 400000 in
theorem grown_any (c v : Int) (h0 : 48 ≤ c) (h1 : c ≤ 57) (hv0 : 0 ≤ v) (hv1 : v ≤ 5) (vb : Nat) (w : World) (hc : w.cell? ⟨vb, 0, none⟩ = some (.int .i64 v)) :
    Calls Tryz.prog 301 #[.int .u8 c, .pointer (some ⟨vb, 0, none⟩)] w fun e w' => e = .returned (.int .i64 (10 * v + (c - 48))) ∧ w' = w := by
  go_enter Tryz.func301, Tryz.ntmps301
  go_wp2
  go_ret
  exact ⟨ret_int (by omega), rfl⟩

/-- May this digit stand behind the value? -/
def digOk (v least c : Int) : Bool := digB c && (decide (10 * v + (c - 48) ≤ 5) && (decide (10 * v + (c - 48) = 0) || decide (least ≤ 10 * v + (c - 48))))

set_option maxRecDepth 100000 in
set_option maxHeartbeats 1000000 in
theorem dig2_any (c v least : Int) (h0 : 0 ≤ c) (h1 : c ≤ 255) (hv0 : 0 ≤ v) (hv1 : v ≤ 5) (vb gb lb : Nat) (w : World) (hc : w.cell? ⟨vb, 0, none⟩ = some (.int .i64 v)) (hg : w.cell? ⟨gb, 0, none⟩ = some (.func (.func 301) #[] #[.pointer (some ⟨vb, 0, none⟩)])) (hl : w.cell? ⟨lb, 0, none⟩ = some (.int .i64 least)) :
    Calls Tryz.prog 302 #[.int .u8 c, .pointer (some ⟨gb, 0, none⟩), .pointer (some ⟨lb, 0, none⟩)] w fun e w' => e = .returned (.bool (digOk v least c)) ∧ ∃ n, w' = w.drewN n := by
  by_cases hd : digB c = true
  · have hb : 48 ≤ c ∧ c ≤ 57 := by simp [digB] at hd; exact hd
    have GR := fun w1 h => grown_any c v hb.1 hb.2 hv0 hv1 vb w1 h
    have ID := isDigit_any c
    rw [hd] at ID
    have cfg := cf_grown
    have HX : Hid (digOk v least c = (decide (10 * v + (c - 48) ≤ 5) && (decide (10 * v + (c - 48) = 0) || decide (least ≤ 10 * v + (c - 48))))) := by show digOk v least c = _; unfold digOk; rw [hd, Bool.true_and]
    have hx0 : 0 ≤ 10 * v + (c - 48) := by omega
    have hx1 : 10 * v + (c - 48) ≤ 100 := by omega
    obtain ⟨hb1, hb2⟩ := hb
    clear hd
    generalize hxe : 10 * v + (c - 48) = x at *
    by_cases h5 : x ≤ 5
    · by_cases hz : x = 0
      · subst hz
        go_enter Tryz.func302, Tryz.ntmps302
        go_wp2_with fail
        go_quiet (first | (go_at_call 236; exact Calls.quiet_of_same (ID _)) | (go_at_call 301; exact Calls.quiet_of_same (GR _ hc)))
        go_wp2_with fail
        go_ret
        exact ⟨ret_bool (by rw [HX.out]; simp), _, rfl⟩
      · by_cases hle : least ≤ x
        · go_enter Tryz.func302, Tryz.ntmps302
          go_wp2_with fail
          go_quiet (first | (go_at_call 236; exact Calls.quiet_of_same (ID _)) | (go_at_call 301; exact Calls.quiet_of_same (GR _ hc)))
          go_wp2_with fail
          go_ret
          exact ⟨ret_bool (by rw [HX.out]; simp [h5, hz, hle]), _, rfl⟩
        · go_enter Tryz.func302, Tryz.ntmps302
          go_wp2_with fail
          go_quiet (first | (go_at_call 236; exact Calls.quiet_of_same (ID _)) | (go_at_call 301; exact Calls.quiet_of_same (GR _ hc)))
          go_wp2_with fail
          go_ret
          exact ⟨ret_bool (by rw [HX.out]; simp [h5, hz, hle]), _, rfl⟩
    · have h5' : decide (x ≤ 5) = false := by simpa using h5
      have H5 : Hid (¬ x ≤ 5) := h5
      clear h5 GR
      have GR := fun w1 h => grown_any c v hb1 hb2 hv0 hv1 vb w1 h
      rw [hxe] at GR
      go_enter Tryz.func302, Tryz.ntmps302
      go_wp2_with fail
      go_quiet (first | (go_at_call 236; exact Calls.quiet_of_same (ID _)) | (go_at_call 301; exact Calls.quiet_of_same (GR _ hc)))
      go_wp2_with fail
      go_ret
      exact ⟨ret_bool (by rw [HX.out, h5']; rfl), _, rfl⟩
  · have hd' : digB c = false := Bool.eq_false_iff.2 hd
    have HX : Hid (digOk v least c = false) := by show digOk v least c = _; unfold digOk; rw [hd', Bool.false_and]
    have ID := isDigit_any c
    rw [hd'] at ID
    clear hd hd'
    go_enter Tryz.func302, Tryz.ntmps302
    go_wp2_with fail
    go_quiet (first | (go_at_call 236; exact Calls.quiet_of_same (ID _)))
    go_wp2_with fail
    go_ret
    exact ⟨ret_bool (by rw [HX.out]), _, rfl⟩
end Go.Proofs.YtnfojonmohijpaaGreatDoor
