/-
  DERIVED. The contract of the reference's 'number'. Conditions: the pattern is at most 60 bytes long, nothing was wrong so far. (At the pattern's end a number that is too small is not called wrong by 'number' itself.)
-/
import Derived.Test.YtnfojonmohijpaaGreatDoorJRI
import Derived.Test.YtnfojonmohijpaaGreatDoorJSpec
import Derived.Deep.RegionHeld3
import Derived.Deep.RegionLaw
import Derived.Deep.AppendLies
import Derived.OwnWalk
import Derived.StillTactics
import Derived.Laws.Pointers
import Derived.KernelRfl
set_option linter.unusedSimpArgs false
set_option linter.unusedVariables false
namespace Go.Proofs.YtnfojonmohijpaaGreatDoor
open Go.RowKit

/-- The state behind 'number'. -/
def NAfter (p : PS) (q : R Nat) (p' : PS) : Prop := p' = p.after q ∨ (q = .bad p.s.size ∧ p' = { p with ix := p.s.size })

theorem mu_ix {w w' : World} {b i j : Nat} {p : PS} (hp : PB w b { p with ix := i }) (hp' : PB w' b { p with ix := j }) (hb : p.bad < 0) (hij : i < j) (hi : i ≤ 60) : muP w' b < muP w b := by
  rw [muP_eq hp, muP_eq hp']
  have hb' : ¬ 0 ≤ p.bad := by omega
  simp [hb']; omega
theorem more_w (b : Nat) (p : PS) (w : World) (hp : PB w b p) :
    Calls Tryz.prog 83 #[.pointer (some ⟨b, 0, none⟩)] w fun e w' => e = .returned (.bool (moreB p)) ∧ PB w' b p ∧ Keeps [] w w' := by
  refine (more_any b p w hp).mono ?_
  rintro e w' ⟨rfl, n, rfl⟩
  exact ⟨rfl, hp.drewN n, (Keeps.refl _ _).drewN n⟩
theorem next_w (b : Nat) (p : PS) (c : Int) (w : World) (hp : PB w b p) (hc : 0 ≤ c) :
    Calls Tryz.prog 134 #[.pointer (some ⟨b, 0, none⟩), .int .u8 c] w fun e w' => e = .returned (.bool (decide (p.cur = c))) ∧ PB w' b p ∧ Keeps [] w w' := by
  refine (next_any b p c w hp hc).mono ?_
  rintro e w' ⟨rfl, n, rfl⟩
  exact ⟨rfl, hp.drewN n, (Keeps.refl _ _).drewN n⟩
theorem digit_v (c : Int) (v : Bool) (h : digB c = v) (w : World) :
    Calls Tryz.prog 162 #[.int .u8 c] w fun e w' => e = .returned (.bool v) ∧ w' = w := by
  subst h; exact digit_any c w

set_option maxRecDepth 100000 in
set_option maxHeartbeats 2000000 in
theorem number_any (b : Nat) (p : PS) (least : Nat) (w : World) (hp : PB w b p) (hb : p.bad < 0) (hs : p.s.size ≤ 60) (hpi : p.ix ≤ p.s.size) (hl5 : least ≤ 5) :
    Calls Tryz.prog 226 #[.pointer (some ⟨b, 0, none⟩), .int .i64 least] w fun e w' =>
      ∃ (q : R Nat) (v : Nat) (p' : PS), e = .returned (.int .i64 v) ∧ NumL p.s least 0 false p.ix q ∧ v ≤ 5 ∧ (∀ m j, q = .ok m j → v = m) ∧ NAfter p q p' ∧ PB w' b p' ∧ Keeps [b] w w' := by
  go_enter Tryz.func226, Tryz.ntmps226
  go_wp2_with fail
  go_loopw [5, 6] (fun u v wr => ∃ (n : Nat) (any : Bool) (i : Nat), u = .int .i64 n ∧ v = .bool any ∧ n ≤ 5 ∧ i ≤ p.s.size ∧ PB wr b { p with ix := i } ∧ Hid (∀ q, NumL p.s least n any i q → NumL p.s least 0 false p.ix q) ∧ Keeps [b] w wr) (fun _ _ wr => muP wr b)
  case atStart => exact ⟨0, false, p.ix, rfl, rfl, by omega, hpi, hp, fun q hq => hq, Keeps.refl _ _⟩
  case round =>
    clear hp
    obtain ⟨n, any, i, rfl, rfl, hn5, hi, hp3, hinv, hk3⟩ := hrel
    have hn5i : (n : Int) ≤ 5 := by omega
    have hn0i : (0 : Int) ≤ (n : Int) := by omega
    have hl5i : (least : Int) ≤ 5 := by omega
    have hl0i : (0 : Int) ≤ (least : Int) := by omega
    cases hm : moreB { p with ix := i }
    · have hge : p.s.size ≤ i := moreB_false_good hm hb
      have hie : i = p.s.size := by omega
      have HD : Hid (digB (at' p.s i) = false) := by show digB (at' p.s i) = false; rw [at'_ge hge]; decide
      have HI : Hid (i = p.s.size) := hie
      clear hge hie
      cases any
      · go_wp2_with (first | (go_at_call 84; refine (fail_good b { p with ix := i } _ hp5 hb).mono ?_; rintro e w3 ⟨rfl, rfl⟩) | (go_at_call 83; refine (more_w b _ _ hp4).mono ?_; rintro e w2 ⟨rfl, hp5, hk5⟩) | (go_at_call 83; refine (more_w b _ _ hp3).mono ?_; rintro e w1 ⟨rfl, hp4, hk4⟩; obtain ⟨c0, h6, h7, f6, f7⟩ := hp4.main))
        go_ret
        exact ⟨.bad i, n, _, rfl, hinv.out _ (.short n false i HD.out (Or.inl rfl)), hn5, by simp, Or.inl rfl, hp5.setBad _, ((hk3.trans (hk4.mono (by simp))).trans (hk5.mono (by simp))).setCell (by simp) _⟩
      · go_wp2_with (first | (go_at_call 83; refine (more_w b _ _ hp4).mono ?_; rintro e w2 ⟨rfl, hp5, hk5⟩) | (go_at_call 83; refine (more_w b _ _ hp3).mono ?_; rintro e w1 ⟨rfl, hp4, hk4⟩; obtain ⟨c0, h6, h7, f6, f7⟩ := hp4.main))
        go_ret
        by_cases hle : least ≤ n
        · exact ⟨.ok n i, n, _, rfl, hinv.out _ (.done n i HD.out hle), hn5, by intro m j e; cases e; rfl, Or.inl rfl, hp5, ((hk3.trans (hk4.mono (by simp))).trans (hk5.mono (by simp)))⟩
        · exact ⟨.bad i, n, _, rfl, hinv.out _ (.short n true i HD.out (Or.inr (by omega))), hn5, by simp, Or.inr ⟨by rw [HI.out], by rw [← HI.out]⟩, hp5, ((hk3.trans (hk4.mono (by simp))).trans (hk5.mono (by simp)))⟩
    · have hlt : i < p.s.size := (PS.cur_more hm).1
      have ec := at'_lt hlt
      have hii : (i : Int) < (p.s.size : Int) := by omega
      have hij : (0 : Int) ≤ (i : Int) := by omega
      have hik : (i : Int) ≤ 60 := by omega
      have hc1 := (p.s[i]).toNat_lt
      have hcl : (0 : Int) ≤ (p.s[i].toNat : Int) := by omega
      have hcu : (p.s[i].toNat : Int) ≤ 255 := by omega
      clear hc1
      generalize hgc : (p.s[i].toNat : Int) = c at *
      have EC : Hid (at' p.s i = c) := ec
      clear ec
      cases hdg : digB c
      · have HD : Hid (digB (at' p.s i) = false) := by show digB (at' p.s i) = false; rw [EC.out]; exact hdg
        have DV := digit_v c false hdg
        clear hdg
        cases any
        · go_wp2_with (first | (go_at_call 83; refine (more_w b _ _ hp3).mono ?_; rintro e w1 ⟨rfl, hp4, hk4⟩; obtain ⟨c0, h6, h7, f6, f7⟩ := hp4.main))
          go_quiet ((go_at_call 162; exact Calls.quiet_of_same (DV _)))
          replace hp4 := hp4.drewN nq
          replace hk4 := hk4.drewN nq
          go_wp2_with (first | (go_at_call 84; refine (fail_good b { p with ix := i } _ hp5 hb).mono ?_; rintro e w3 ⟨rfl, rfl⟩) | (go_at_call 83; refine (more_w b _ _ hp4).mono ?_; rintro e w2 ⟨rfl, hp5, hk5⟩))
          go_ret
          exact ⟨.bad i, n, _, rfl, hinv.out _ (.short n false i HD.out (Or.inl rfl)), hn5, by simp, Or.inl rfl, hp5.setBad _, ((hk3.trans (hk4.mono (by simp))).trans (hk5.mono (by simp))).setCell (by simp) _⟩
        · by_cases hle : n < least
          · have hlei : (n : Int) < (least : Int) := by omega
            go_wp2_with (first | (go_at_call 83; refine (more_w b _ _ hp3).mono ?_; rintro e w1 ⟨rfl, hp4, hk4⟩; obtain ⟨c0, h6, h7, f6, f7⟩ := hp4.main))
            go_quiet ((go_at_call 162; exact Calls.quiet_of_same (DV _)))
            replace hp4 := hp4.drewN nq
            replace hk4 := hk4.drewN nq
            go_wp2_with (first | (go_at_call 84; refine (fail_good b { p with ix := i } _ hp5 hb).mono ?_; rintro e w3 ⟨rfl, rfl⟩) | (go_at_call 83; refine (more_w b _ _ hp4).mono ?_; rintro e w2 ⟨rfl, hp5, hk5⟩))
            go_ret
            exact ⟨.bad i, n, _, rfl, hinv.out _ (.short n true i HD.out (Or.inr hle)), hn5, by simp, Or.inl rfl, hp5.setBad _, ((hk3.trans (hk4.mono (by simp))).trans (hk5.mono (by simp))).setCell (by simp) _⟩
          · have hlei : ¬ (n : Int) < (least : Int) := by omega
            go_wp2_with (first | (go_at_call 83; refine (more_w b _ _ hp3).mono ?_; rintro e w1 ⟨rfl, hp4, hk4⟩; obtain ⟨c0, h6, h7, f6, f7⟩ := hp4.main))
            go_quiet ((go_at_call 162; exact Calls.quiet_of_same (DV _)))
            replace hp4 := hp4.drewN nq
            replace hk4 := hk4.drewN nq
            go_wp2_with (first | (go_at_call 83; refine (more_w b _ _ hp4).mono ?_; rintro e w2 ⟨rfl, hp5, hk5⟩))
            go_ret
            exact ⟨.ok n i, n, _, rfl, hinv.out _ (.done n i HD.out (by omega)), hn5, by intro m j e; cases e; rfl, Or.inl rfl, hp5, ((hk3.trans (hk4.mono (by simp))).trans (hk5.mono (by simp)))⟩
      · have hdd : 48 ≤ c ∧ c ≤ 57 := by simpa [digB] using hdg
        obtain ⟨hd1, hd2⟩ := hdd
        have HD : Hid (digB (at' p.s i) = true) := by show digB (at' p.s i) = true; rw [EC.out]; exact hdg
        have DV := digit_v c true hdg
        clear hdg
        obtain ⟨x, hx⟩ : ∃ x : Nat, (x : Int) = 10 * (n : Int) + (c - 48) := ⟨(10 * (n : Int) + (c - 48)).toNat, by omega⟩
        have HX : Hid ((x : Int) = 10 * (n : Int) + (at' p.s i - 48)) := by show (x : Int) = 10 * (n : Int) + (at' p.s i - 48); rw [EC.out]; exact hx
        have hxr : 10 * (n : Int) + (c - 48) = (x : Int) := hx.symm
        clear hx
        by_cases hbig : 5 < x ∨ (0 < x ∧ x < least)
        · have HBG : Hid (¬ (x ≤ 5 ∧ (x = 0 ∨ least ≤ x))) := by show ¬ _; omega
          rcases hbig with h | ⟨h, h'⟩
          · have hxi : 5 < (x : Int) := by omega
            go_wp2_with (first | (go_at_call 83; refine (more_w b _ _ hp3).mono ?_; rintro e w1 ⟨rfl, hp4, hk4⟩; obtain ⟨c0, h6, h7, f6, f7⟩ := hp4.main))
            go_quiet ((go_at_call 162; exact Calls.quiet_of_same (DV _)))
            go_wp2_with fail
            go_quiet (fail)
            go_wp2_with (first | (go_at_call 84; refine (fail_good b { p with ix := i } _ (by exact hp4) hb).mono ?_; rintro e w3 ⟨rfl, rfl⟩))
            go_ret
            exact ⟨.bad i, 0, _, rfl, hinv.out _ (.big n x any i HD.out HX.out HBG.out), by omega, by simp, Or.inl rfl, PB.setBad (p := { p with ix := i }) (by exact hp4) _, (Keeps.drewN (hk3.trans (hk4.mono (by simp))) _).setCell (by simp) _⟩
          · have hxi : ¬ 5 < (x : Int) := by omega
            have hxj : 0 < (x : Int) := by omega
            have hxk : (x : Int) < (least : Int) := by omega
            go_wp2_with (first | (go_at_call 83; refine (more_w b _ _ hp3).mono ?_; rintro e w1 ⟨rfl, hp4, hk4⟩; obtain ⟨c0, h6, h7, f6, f7⟩ := hp4.main))
            go_quiet ((go_at_call 162; exact Calls.quiet_of_same (DV _)))
            go_wp2_with fail
            go_quiet (fail)
            go_wp2_with (first | (go_at_call 84; refine (fail_good b { p with ix := i } _ (by exact hp4) hb).mono ?_; rintro e w3 ⟨rfl, rfl⟩))
            go_ret
            exact ⟨.bad i, 0, _, rfl, hinv.out _ (.big n x any i HD.out HX.out HBG.out), by omega, by simp, Or.inl rfl, PB.setBad (p := { p with ix := i }) (by exact hp4) _, (Keeps.drewN (hk3.trans (hk4.mono (by simp))) _).setCell (by simp) _⟩
        · have hxi : ¬ 5 < (x : Int) := by omega
          by_cases hx0 : x = 0
          · have hxj : ¬ 0 < (x : Int) := by omega
            clear hx0
            go_wp2_with (first | (go_at_call 83; refine (more_w b _ _ hp3).mono ?_; rintro e w1 ⟨rfl, hp4, hk4⟩; obtain ⟨c0, h6, h7, f6, f7⟩ := hp4.main))
            go_quiet ((go_at_call 162; exact Calls.quiet_of_same (DV _)))
            go_wp2_with fail
            go_quiet (fail)
            go_wp2_with fail
            go_roundw
            case rel => exact ⟨x, true, i + 1, rfl, rfl, by omega, by omega, PB.setIx (p := { p with ix := i }) (by exact hp4) (i + 1), fun q hq => hinv.out q (.dig n x any i q HD.out HX.out (by omega) (by omega) hq), (Keeps.drewN (hk3.trans (hk4.mono (by simp))) _).setCell (by simp) _⟩
            case measure => exact mu_ix hp3 (PB.setIx (p := { p with ix := i }) (by exact hp4) (i + 1)) hb (by omega) (by omega)
          · have hxj : 0 < (x : Int) := by omega
            have hxk : ¬ (x : Int) < (least : Int) := by omega
            go_wp2_with (first | (go_at_call 83; refine (more_w b _ _ hp3).mono ?_; rintro e w1 ⟨rfl, hp4, hk4⟩; obtain ⟨c0, h6, h7, f6, f7⟩ := hp4.main))
            go_quiet ((go_at_call 162; exact Calls.quiet_of_same (DV _)))
            go_wp2_with fail
            go_quiet (fail)
            go_wp2_with fail
            go_roundw
            case rel => exact ⟨x, true, i + 1, rfl, rfl, by omega, by omega, PB.setIx (p := { p with ix := i }) (by exact hp4) (i + 1), fun q hq => hinv.out q (.dig n x any i q HD.out HX.out (by omega) (by omega) hq), (Keeps.drewN (hk3.trans (hk4.mono (by simp))) _).setCell (by simp) _⟩
            case measure => exact mu_ix hp3 (PB.setIx (p := { p with ix := i }) (by exact hp4) (i + 1)) hb (by omega) (by omega)
end Go.Proofs.YtnfojonmohijpaaGreatDoor

/-
  DERIVED. The contract of the reference's 'add': a node more. Conditions: the row of nodes is the call's own, and not in the state's block.
-/
namespace Go.Proofs.YtnfojonmohijpaaGreatDoor
open Go.RowKit

theorem Tryz.infoNode : (Tryz.prog.info? 157).map (fun i => (i.zero, i.size, i.bytes)) = some (some (.agg #[.int .u8 0, .slice none 0 0, .int .i64 0, .int .i64 0, .int .i64 0, .slice none 0 0]), 6, 80) := by kernel_rfl

theorem PB.nodes {w : World} {b : Nat} {p : PS} (h : PB w b p) : w.cell? ⟨b, 1, none⟩ = some p.nodes ∧ w.frozen? ⟨b, 1, none⟩ = false := by
  unfold PB at h
  simp [World.cell?, World.frozen?, h, PS.cells]
theorem PB.setNodes {w : World} {b : Nat} {p : PS} (h : PB w b p) (v : Value) : PB (w.setCell ⟨b, 1, none⟩ v) b { p with nodes := v } := by
  unfold PB at *
  simp [World.setCell, Array.getElem?_modify, h, PS.cells]

theorem _root_.Go.World.ownsRow.setOther {w : World} {base : Nat} {e : TypeId} {size : Nat} {v : Value} {n : Nat} {xs : List Value} (h : w.ownsRow base e size v n xs) {a : Addr} (ha : v.ownBlock ≠ some a.block) (u : Value) : (w.setCell a u).ownsRow base e size v n xs :=
  h.kept (row := some a.block) ⟨rfl, rfl, rfl, by simp, fun k _ hk => Below.heap_setCell _ _ _ _ (by intro e; exact hk (by rw [e]))⟩ (Or.inr ha)
theorem _root_.Go.World.ownsRow.keep {w w' : World} {base : Nat} {e : TypeId} {size : Nat} {v : Value} {n : Nat} {xs : List Value} {S : List Nat} (h : w.ownsRow base e size v n xs) (hk : Keeps S w w') (hs : ∀ g, v.ownBlock = some g → g ∉ S) : w'.ownsRow base e size v n xs := by
  refine ⟨h.1, ?_⟩
  rcases h.2 with hn | ⟨g, cap, cur, rfl, hb, hgg, rest⟩
  · exact .inl hn
  · refine .inr ⟨g, cap, cur, rfl, hb, ?_, rest⟩
    rw [hk.block g (Array.getElem?_eq_some_iff.1 hgg).1 (hs g rfl)]
    exact hgg

set_option maxRecDepth 100000 in
set_option maxHeartbeats 3200000 in
theorem add_any (b : Nat) (p : PS) (w : World) (n : Nat) (xs : List Value) (k n1 n2 n3 : Int) (hv kv : Value) (hv1 : hv.oneCell' = true) (kv1 : kv.oneCell' = true)
    (hp : PB w b p) (hown : w.ownsRow 0 157 6 p.nodes n xs) (hne : p.nodes.ownBlock ≠ some b) (hn : n ≤ 1000) :
    Calls Tryz.prog 136 #[.pointer (some ⟨b, 0, none⟩), .agg #[.int .u8 k, hv, .int .i64 n1, .int .i64 n2, .int .i64 n3, kv]] w fun e w' =>
      ∃ g cap, e = .returned (.int .i64 n) ∧ PB w' b { p with nodes := .slice (some ⟨g, 0, none⟩) (n + 1) cap } ∧
        w'.ownsRow 0 157 6 (.slice (some ⟨g, 0, none⟩) (n + 1) cap) (n + 1) (xs ++ [.int .u8 k, hv, .int .i64 n1, .int .i64 n2, .int .i64 n3, kv]) ∧
        (p.nodes.ownBlock = some g ∨ w.heap.size ≤ g) ∧ Keeps (b :: p.nodes.ownBlock.toList) w w' := by
  obtain ⟨i0, hi0, hz0, hz1, hz2⟩ := info_parts Tryz.infoNode
  obtain ⟨hc, hf⟩ := hp.nodes
  have lg := World.block_lt_of_cell? w _ hc
  have hlm : n + 1 ≤ maxLen := by unfold maxLen; omega
  go_enter Tryz.func136, Tryz.ntmps136
  go_wp2_with fail
  have hp1 : PB (w.alloc (.cells #[.int .u8 k, hv, .int .i64 n1, .int .i64 n2, .int .i64 n3, kv] 157)) b p := hp.keep ((Keeps.refl [] w).alloc _) (by simp)
  have hown1 := hown.alloc (.cells #[.int .u8 k, hv, .int .i64 n1, .int .i64 n2, .int .i64 n3, kv] 157)
  have hblk := heap_alloc_new w (.cells #[.int .u8 k, hv, .int .i64 n1, .int .i64 n2, .int .i64 n3, kv] 157)
  have hk1 := (Keeps.refl (b :: p.nodes.ownBlock.toList) w).alloc (.cells #[.int .u8 k, hv, .int .i64 n1, .int .i64 n2, .int .i64 n3, kv] 157)
  have hH : (w.alloc (.cells #[.int .u8 k, hv, .int .i64 n1, .int .i64 n2, .int .i64 n3, kv] 157)).heap.size = w.heap.size + 1 := by simp
  have hrow : p.nodes.ownBlock ≠ some w.heap.size := by
    intro e
    have := (hown.lt _ e).2
    omega
  generalize w.alloc (.cells #[.int .u8 k, hv, .int .i64 n1, .int .i64 n2, .int .i64 n3, kv] 157) = W at *
  obtain ⟨hc1, hf1⟩ := hp1.nodes
  have e0 : W.cell? ⟨w.heap.size, 0, none⟩ = some (.int .u8 k) := by simp [World.cell?, hblk]
  have e1 : W.cell? ⟨w.heap.size, 1, none⟩ = some hv := by simp [World.cell?, hblk]
  have e2 : W.cell? ⟨w.heap.size, 2, none⟩ = some (.int .i64 n1) := by simp [World.cell?, hblk]
  have e3 : W.cell? ⟨w.heap.size, 3, none⟩ = some (.int .i64 n2) := by simp [World.cell?, hblk]
  have e4 : W.cell? ⟨w.heap.size, 4, none⟩ = some (.int .i64 n3) := by simp [World.cell?, hblk]
  have e5 : W.cell? ⟨w.heap.size, 5, none⟩ = some kv := by simp [World.cell?, hblk]
  generalize hHH : w.heap.size = H at *
  have h1c : ∀ u ∈ [Value.int .u8 k, hv, .int .i64 n1, .int .i64 n2, .int .i64 n3, kv], u.oneCell' = true := by
    intro u hu
    simp only [List.mem_cons, List.not_mem_nil, or_false] at hu
    rcases hu with rfl | rfl | rfl | rfl | rfl | rfl <;> first | rfl | assumption
  have hnew : ∀ o, (W.alloc o).heap[H + 1]? = some o := fun o => by rw [← hH]; exact heap_alloc_new W o
  clear hblk hc hf hp hown
  go_region_law
    ((refine step_append_lies _ (by rfl) _ _ _ (by rfl) 0 157 i0 _ 6 80 Tryz.underlying100 hi0 hz0 hz1 hz2 rfl (by omega) p.nodes n xs (by rfl) ((hown1.alloc _).drew)
        ⟨H + 1, 0, none⟩ 1 1 [.int .u8 k, hv, .int .i64 n1, .int .i64 n2, .int .i64 n3, kv] (by rfl) (by rfl) (World.news_of_block (cs := #[.int .u8 k, hv, .int .i64 n1, .int .i64 n2, .int .i64 n3, kv]) (t := 157) (fr := (0, 0)) (hnew _)) h1c
        (by omega) hlm (by omega) (by simp) (H + 2) (by simp [hH]) ?_; intro g cap w1 hown2 hgrow hat hlt; have hfz : w1.frozen? ⟨b, 1, none⟩ = false := (hgrow.frozen_far ⟨b, 1, none⟩ (by simp; omega) (Ne.symm hne)).trans ((World.frozen?_alloc_old W _ ⟨b, 1, none⟩ (by simp; omega)).trans hf1); have hcz : w1.cell? ⟨b, 1, none⟩ = some p.nodes := (hgrow.cell_far ⟨b, 1, none⟩ (by simp; omega) (Ne.symm hne)).trans ((World.cell?_alloc_old W _ ⟨b, 1, none⟩ (by simp; omega)).trans hc1)))
  all_goals
    have hbg : b ≠ g := by
      rintro rfl
      rcases hat with h | h
      · exact hne h
      · omega
    have hge : p.nodes.ownBlock = some g ∨ H ≤ g := by
      rcases hat with h | h
      · exact Or.inl h
      · exact Or.inr (by omega)
    have hkk : Keeps (b :: p.nodes.ownBlock.toList) w w1 := hk1.trans (((Keeps.refl _ _).alloc (.cells #[.int .u8 k, hv, .int .i64 n1, .int .i64 n2, .int .i64 n3, kv] 157)).drew.trans ⟨hgrow.os, hgrow.tape, hgrow.output, hgrow.size, fun j hj hnj => hgrow.block j hj (by intro e; apply hnj; rw [← e]; simp)⟩)
    have hp2 : PB w1 b p := by
      have := hgrow.block b (by simp; omega) (Ne.symm hne)
      unfold PB
      rw [this]
      exact hp1.keep ((Keeps.refl [] W).alloc _).drew (by simp)
    clear hat hlt hp1 hown1 hk1
    go_wp2_with fail
    go_ret
    exact ⟨g, cap, ret_int (by omega), hp2.setNodes _, hown2.setOther (by simp [Value.ownBlock]; omega) _, (by rw [hHH]; exact hge), hkk.setCell (by simp) _⟩
end Go.Proofs.YtnfojonmohijpaaGreatDoor
