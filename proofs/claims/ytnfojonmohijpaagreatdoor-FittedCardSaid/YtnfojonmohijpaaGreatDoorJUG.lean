/-
  DERIVED. The program's reader of what stands behind an open bracket of a tree (opened). Conditions: the text is at most 20000 bytes long.
-/
import Derived.Test.YtnfojonmohijpaaGreatDoorJNW
import Derived.Test.YtnfojonmohijpaaGreatDoorJNS
import Derived.Test.YtnfojonmohijpaaGreatDoorJPC
set_option linter.unusedSimpArgs false
set_option linter.unusedVariables false
namespace Go.Proofs.YtnfojonmohijpaaGreatDoor
open Go.RowKit
theorem TV.only {w : World} {S : Nat → Prop} {t : Tr} {cs : List Value} (h : TV w S false (lapp [t] .lnil) cs) : TV w S true t cs := by
 cases h with
 | lcons _ _ a b h1 h2 =>
  cases h2 with
  | lnil => rwa [List.append_nil]
theorem utake_op (b : Nat) (p : US) (w : World) (hp : UB w b p) (hs : p.s.size ≤ 20000) (hle : p.ix ≤ p.s.size) :
    Calls Tryz.prog 218 #[.pointer (some ⟨b, 0, none⟩), .func (.func 256) #[] #[]] w (UPB b p w (if opB p.cur = true then .ok p.cur (p.ix + 1) else .bad p.ix)) := by
 refine utake_may b p 256 #[] (opB p.cur) w hp hs hle (fun h => may_op1 h (ucur_bd p).2 w) _ ?_
 by_cases h : opB p.cur = true
 ·rw [if_pos h, if_pos ⟨by simp [opB] at h; omega, h⟩]
 ·rw [if_neg h, if_neg (fun e => h e.2)]
theorem UTh.store {b : Nat} {p : US} {w wz : World} {t : Tr} {j : Nat} {k n : Value} {v : Value} {i : Nat} (hi : w.heap.size = i) (hb : b < i) (htv : TV wz (fun g => i < g) true t [k, n, v]) (hq : UB wz b { p with ix := j }) (hk : Keeps [b] w wz) :
    UTh b p w (.ok t j) (.returned (.agg #[k, n, v])) (wz.setRow i #[k, n, v]) := by
 have hkS : Keeps [i] wz (wz.setRow i #[k, n, v]) := (Keeps.refl [i] _).setRow (g := i) (by simp) _
 exact ⟨[k, n, v], rfl, (htv.keep hkS (by intro z hz; simp; omega)).mono fun z hz _ => by omega, hq.keep hkS (by simp; omega), hk.setRow (Or.inr (by omega)) _⟩
theorem lapp_inj : ∀ {l m : List Tr}, lapp l .lnil = lapp m .lnil → l = m
 | [], [], _ => rfl
 | [], _ :: _, h => by cases h
 | _ :: _, [], h => by cases h
 | a :: l, b :: m, h => by
  simp only [lapp, Tr.lcons.injEq] at h
  obtain ⟨rfl, h⟩ := h
  rw [lapp_inj h]
theorem TG.join {s : ByteArray} {d : Nat} : ∀ (n : Nat) {i j : Nat} {l : Tr}, TG s (.row n false) d i (.ok l j) → ∃ ms, l = lapp ms .lnil ∧ ms.length = n ∧ ∀ q, TG s (.row 0 true) d j q → TG s (.row n true) d i (q.map (lapp ms))
 | 0, i, j, l, h => by
  generalize hq : R.ok l j = q at h
  cases h with
  | fin => cases hq; exact ⟨[], rfl, rfl, fun q h => by rw [map_lapp_nil]; exact h⟩
  | need _ _ _ _ h => omega
  | bad _ _ _ _ _ h => rcases h with h | h; omega; cases h
  | go _ _ _ _ _ _ _ h => rcases h with h | h; omega; cases h
 | n + 1, i, j, l, h => by
  generalize hq : R.ok l j = q at h
  cases h with
  | need => cases hq
  | bad => cases hq
  | go _ _ _ _ j' t q' h0 h1 h2 h3 =>
   cases q' with
   | bad => cases hq
   | ok l' j2 =>
    cases hq
    obtain ⟨ms, rfl, hl, hs⟩ := TG.join n (show TG s (.row n false) d j' (.ok l' j) from h3)
    refine ⟨t :: ms, rfl, by simp [hl], fun q hq => ?_⟩
    have := TG.go (n + 1) true d i j' t _ (Or.inr rfl) h1 h2 (show TG s (.row n true) d j' _ from hs q hq)
    cases q <;> exact this
theorem TG.joinBad {s : ByteArray} {d : Nat} : ∀ (n : Nat) {i j : Nat}, TG s (.row n false) d i (.bad j) → TG s (.row n true) d i (.bad j)
 | 0, i, j, h => by
  generalize hq : R.bad j = q at h
  cases h with
  | fin => cases hq
  | need _ _ _ _ h => omega
  | bad _ _ _ _ _ h => rcases h with h | h; omega; cases h
  | go _ _ _ _ _ _ _ h => rcases h with h | h; omega; cases h
 | n + 1, i, j, h => by
  generalize hq : R.bad j = q at h
  cases h with
  | need _ _ _ _ h0 h1 => cases hq; exact .need _ _ _ _ (by omega) h1
  | bad _ _ _ _ j' h0 h1 h2 => cases hq; exact .bad _ _ _ _ _ (Or.inr rfl) h1 h2
  | go _ _ _ _ j' t q' h0 h1 h2 h3 =>
   cases q' with
   | ok => cases hq
   | bad j2 =>
    cases hq
    exact .go (n + 1) true d i j' t _ (Or.inr rfl) h1 h2 (TG.joinBad n (show TG s (.row n false) d j' (.bad j) from h3))
set_option maxRecDepth 100000 in
set_option maxHeartbeats 4000000 in
theorem opened_any (s : ByteArray) (hs : s.size ≤ 20000) (n : Nat) (IH : ThingOk s n) (b : Nat) (p : US) (hps : p.s = s) (w : World) (hp : UB w b p) (hle : p.ix ≤ s.size) (hn : s.size - p.ix ≤ n) (hop : p.op ≤ 60) :
    Calls Tryz.prog 222 #[.pointer (some ⟨b, 0, none⟩)] w fun e w' => ∃ q, TG s .body p.op p.ix q ∧ UTh b p w q e w' := by
 subst hps
 have hk0 : Keeps [] w (w.alloc (.cells #[.int .u8 0, .int .i64 0, .slice none 0 0] 88)) := (Keeps.refl [] w).alloc _
 have h2 : (w.alloc (.cells #[.int .u8 0, .int .i64 0, .slice none 0 0] 88)).heap[w.heap.size]? = some (.cells #[.int .u8 0, .int .i64 0, .slice none 0 0] 88 (0, 0)) := heap_alloc_new w _
 have hbw := hp.lt
 have hsz : (w.alloc (.cells #[.int .u8 0, .int .i64 0, .slice none 0 0] 88)).heap.size = w.heap.size + 1 := by simp
 have hp0 := hp.keep hk0 (by simp)
 go_enter Tryz.func222, Tryz.ntmps222
 go_upto_region 1 with (fail)
 generalize w.alloc (.cells #[.int .u8 0, .int .i64 0, .slice none 0 0] 88) = W at *
 obtain ⟨i, hi⟩ : ∃ i, w.heap.size = i := ⟨_, rfl⟩
 rw [hi] at h2 hsz hbw ⊢
 have hT := utake_op b p W hp0 hs hle
 by_cases ho : opB p.cur = true
 ·rw [if_pos ho] at hT
  have hc : p.cur = 103 ∨ p.cur = 114 ∨ p.cur = 115 ∨ p.cur = 97 := by simpa [opB] using ho
  have hlt : p.ix < p.s.size := at'_nn (by show 0 ≤ p.cur; omega)
  have HL : Hid (p.ix < p.s.size) := hlt
  clear ho hlt hp
  have hkS : ∀ A : World, Keeps [b] W A → A.heap[i]? = some (.cells #[.int .u8 0, .int .i64 0, .slice none 0 0] 88 (0, 0)) := fun A hk => (hk.block i (by omega) (by simp; omega)).trans h2
  rcases hc with hc | hc | hc | hc
  ·have HC : Hid (at' p.s p.ix = 103) := hc
   rw [hc] at hT
   clear hc
   go_wp2_with (first | (go_at_call 218; refine hT.mono ?_; rintro e w1 ⟨hk1, rfl, hq1⟩))
   have hN := groupNumber_any b { p with ix := p.ix + 1 } w1 hq1 hs HL.out
   have hcu : US.cur { p with ix := p.ix + 1 } = at' p.s (p.ix + 1) := rfl
   unfold gnR at hN
   rw [hcu] at hN
   by_cases hg : gnB (at' p.s (p.ix + 1)) = true
   ·rw [if_pos hg] at hN
    have hgg : 49 ≤ at' p.s (p.ix + 1) ∧ at' p.s (p.ix + 1) ≤ 57 := by simpa [gnB] using hg
    have HGG : Hid (49 ≤ at' p.s (p.ix + 1) ∧ at' p.s (p.ix + 1) ≤ 57) := hgg
    have h2l : p.ix + 2 ≤ p.s.size := by have : p.ix + 1 < p.s.size := at'_nn (by omega); omega
    obtain ⟨k, hk⟩ : ∃ k, (at' p.s (p.ix + 1) - 48).toNat = k := ⟨_, rfl⟩
    have hk9 : k ≤ 9 := by omega
    rw [hk] at hN
    have HK : Hid ((at' p.s (p.ix + 1) - 48).toNat = k) := hk
    clear hg hgg hk hcu
    refine hN.mono ?_
    rintro e w2 ⟨hk2, rfl, hq2⟩
    have hR := things_any p.s hs n IH b { p with ix := p.ix + 1 + 1 } 1 (by decide) rfl w2 w2 (.slice none 0 0) [] [] hq2 (GU.start b w2 hq2.lt) (by simp) h2l (by simp only; omega) hop
    clear hN
    go_wp2_with fail
    refine hR.mono ?_
    rintro e w3 ⟨q, hTG, hU⟩
    cases q with
    | bad j =>
     obtain ⟨rfl, hk3⟩ := hU
     simp only [fault]
     exact ⟨rfl, _, .grp _ _ _ HC.out HGG.out.1 HGG.out.2 hTG, rfl, (((hk0.mono (by simp)).trans hk1).trans hk2).trans hk3⟩
    | ok l j =>
     obtain ⟨v, ms, cs, rfl, hl, hG, hq3⟩ := hU
     obtain ⟨t, rfl, _, _⟩ := TG.one hTG
     obtain rfl := lapp_one hl.symm
     rw [List.nil_append] at hG
     obtain ⟨va, vn, vc, rfl⟩ := ownsRow_sl hG.own
     have hkA := (hk1.trans hk2).trans hG.keep
     have h2r := hkS w3 hkA
     have hz2 : i < w2.heap.size := by have := (hk1.trans hk2).size; omega
     have HTG : Hid (TG p.s .body p.op p.ix (.ok (.tgrp k t) j)) := by
      have := TG.grp _ _ _ HC.out HGG.out.1 HGG.out.2 hTG
      rw [HK.out] at this
      exact this
     clear hTG hl hR
     go_wp2_with (first | (refine wpList_store_row rfl 88 _ _ rfl i #[.int .u8 103, .int .i64 k, .slice va vn vc] rfl rfl _ _ h2r (info3 _ _ _) rfl (all3 rfl rfl rfl) ?_))
     refine bodyPost_ret (results_cell_row rfl _ _ i _ _ _ _ rfl (setRow_heap _ _ _ _ _ _ h2r) Tryz.underlying88 rfl (info3 _ _ _)) rfl ?_
     exact ⟨_, HTG.out, UTh.store hi hbw (.tgrp k t _ cs hk9 (hG.row.only.mono fun z hz _ => by omega) hG.own fun z hz => by have := hG.fresh z hz; omega) hq3 ((hk0.mono (by simp)).trans hkA)⟩
   ·rw [if_neg hg] at hN
    have HGG : Hid (at' p.s (p.ix + 1) < 49 ∨ 57 < at' p.s (p.ix + 1)) := by
     show _ ∨ _
     simp [gnB] at hg
     omega
    clear hg hcu
    refine hN.mono ?_
    rintro e w2 ⟨hk2, rfl⟩
    simp only [fault]
    exact ⟨rfl, _, .grp1 _ _ HC.out HGG.out, rfl, ((hk0.mono (by simp)).trans hk1).trans hk2⟩
  ·have HC : Hid (at' p.s p.ix = 114) := hc
   rw [hc] at hT
   clear hc
   go_wp2_with (first | (go_at_call 218; refine hT.mono ?_; rintro e w1 ⟨hk1, rfl, hq1⟩))
   have hR := moreThings_any p.s hs n IH b { p with ix := p.ix + 1 } rfl w1 w1 (.slice none 0 0) [] [] hq1 (GU.start b w1 hq1.lt) (by simp) HL.out (by have := HL.out; simp only; omega) hop
   refine hR.mono ?_
   rintro e w3 ⟨q, hTG, hU⟩
   cases q with
   | bad j =>
    obtain ⟨rfl, hk3⟩ := hU
    simp only [fault]
    exact ⟨rfl, _, .rep _ _ _ HC.out hTG, rfl, ((hk0.mono (by simp)).trans hk1).trans hk3⟩
   | ok l j =>
    obtain ⟨v, ms, cs, rfl, rfl, hG, hq3⟩ := hU
    rw [List.nil_append] at hG
    obtain ⟨va, vn, vc, rfl⟩ := ownsRow_sl hG.own
    have hkA := hk1.trans hG.keep
    have h2r := hkS w3 hkA
    have hz2 : i < w1.heap.size := by have := hk1.size; omega
    have HTG : Hid (TG p.s .body p.op p.ix (.ok (.trep (lapp ms .lnil)) j)) := TG.rep _ _ _ HC.out hTG
    clear hTG hR
    go_wp2_with (first | (refine wpList_store_row rfl 88 _ _ rfl i #[.int .u8 114, .int .i64 0, .slice va vn vc] rfl rfl _ _ h2r (info3 _ _ _) rfl (all3 rfl rfl rfl) ?_))
    refine bodyPost_ret (results_cell_row rfl _ _ i _ _ _ _ rfl (setRow_heap _ _ _ _ _ _ h2r) Tryz.underlying88 rfl (info3 _ _ _)) rfl ?_
    exact ⟨_, HTG.out, UTh.store hi hbw (.trep _ _ _ cs (hG.row.mono fun z hz _ => by omega) hG.own fun z hz => by have := hG.fresh z hz; omega) hq3 ((hk0.mono (by simp)).trans hkA)⟩
  ·have HC : Hid (at' p.s p.ix = 115) := hc
   rw [hc] at hT
   clear hc
   go_wp2_with (first | (go_at_call 218; refine hT.mono ?_; rintro e w1 ⟨hk1, rfl, hq1⟩))
   have hR := things_any p.s hs n IH b { p with ix := p.ix + 1 } 2 (by decide) rfl w1 w1 (.slice none 0 0) [] [] hq1 (GU.start b w1 hq1.lt) (by simp) HL.out (by have := HL.out; simp only; omega) hop
   refine hR.mono ?_
   rintro e w2 ⟨q, hTG, hU⟩
   cases q with
   | bad j =>
    obtain ⟨rfl, hk3⟩ := hU
    simp only [fault]
    exact ⟨rfl, _, .ser _ _ _ HC.out (TG.joinBad 2 hTG), rfl, ((hk0.mono (by simp)).trans hk1).trans hk3⟩
   | ok l j =>
    obtain ⟨v, ms, cs, rfl, hl, hG, hq2⟩ := hU
    obtain ⟨ms', hl', hm2, hjn⟩ := TG.join 2 hTG
    obtain rfl : ms' = ms := lapp_inj (hl'.symm.trans hl)
    rw [List.nil_append] at hG
    have hbd := hTG.bd HL.out
    have hR2 := moreThings_any p.s hs n IH b { p with ix := j } rfl w1 w2 v ms' cs hq2 hG (by omega) hbd.2.1 (by have h9 : p.ix + 1 ≤ j := hbd.1; have := HL.out; simp only; omega) hop
    have HJ : Hid (∀ q, TG p.s (.row 0 true) p.op j q → TG p.s (.row 2 true) p.op (p.ix + 1) (q.map (lapp ms'))) := hjn
    clear hjn hTG hl hl' hm2 hbd hR
    go_wp2_with fail
    refine hR2.mono ?_
    rintro e w3 ⟨q, hTG, hU⟩
    cases q with
    | bad j =>
     obtain ⟨rfl, hk3⟩ := hU
     simp only [fault]
     exact ⟨rfl, _, .ser _ _ _ HC.out (HJ.out _ hTG), rfl, ((hk0.mono (by simp)).trans hk1).trans hk3⟩
    | ok l j =>
     obtain ⟨v, ms, cs, rfl, rfl, hG3, hq3⟩ := hU
     obtain ⟨va, vn, vc, rfl⟩ := ownsRow_sl hG3.own
     have hkA := hk1.trans hG3.keep
     have h2r := hkS w3 hkA
     have hz2 : i < w1.heap.size := by have := hk1.size; omega
     have HTG : Hid (TG p.s .body p.op p.ix (.ok (.tser (lapp (ms' ++ ms) .lnil)) j)) := by
      have := TG.ser _ _ _ HC.out (HJ.out _ hTG)
      rw [lapp_app]
      exact this
     clear hTG hR2 hG
     go_wp2_with (first | (refine wpList_store_row rfl 88 _ _ rfl i #[.int .u8 115, .int .i64 0, .slice va vn vc] rfl rfl _ _ h2r (info3 _ _ _) rfl (all3 rfl rfl rfl) ?_))
     refine bodyPost_ret (results_cell_row rfl _ _ i _ _ _ _ rfl (setRow_heap _ _ _ _ _ _ h2r) Tryz.underlying88 rfl (info3 _ _ _)) rfl ?_
     exact ⟨_, HTG.out, UTh.store hi hbw (.tser _ _ _ cs (hG3.row.mono fun z hz _ => by omega) hG3.own fun z hz => by have := hG3.fresh z hz; omega) hq3 ((hk0.mono (by simp)).trans hkA)⟩
  ·have HC : Hid (at' p.s p.ix = 97) := hc
   rw [hc] at hT
   clear hc
   go_wp2_with (first | (go_at_call 218; refine hT.mono ?_; rintro e w1 ⟨hk1, rfl, hq1⟩))
   have hN := wayPlace_any b { p with ix := p.ix + 1 } w1 hq1 hs HL.out
   have hcu : US.cur { p with ix := p.ix + 1 } = at' p.s (p.ix + 1) := rfl
   unfold wpR at hN
   rw [hcu] at hN
   by_cases hg : digB (at' p.s (p.ix + 1)) = true
   ·rw [if_pos hg] at hN
    have HGG : Hid (digB (at' p.s (p.ix + 1)) = true) := hg
    have hpe := plE_le hg
    clear hg hcu
    refine hN.mono ?_
    rintro e w2 ⟨hk2, rfl, hq2⟩
    have hR := things_any p.s hs n IH b { p with ix := plE p.s (p.ix + 1) } 1 (by decide) rfl w2 w2 (.slice none 0 0) [] [] hq2 (GU.start b w2 hq2.lt) (by simp) hpe.2 (by simp only; omega) hop
    obtain ⟨k, hkk⟩ : ∃ k, plN p.s (p.ix + 1) = k := ⟨_, rfl⟩
    have HK : Hid (plN p.s (p.ix + 1) = k) := hkk
    have hvv : ((({ p with ix := p.ix + 1 } : US).s)) = p.s := rfl
    simp only [hkk]
    clear hN hkk
    go_wp2_with fail
    refine hR.mono ?_
    rintro e w3 ⟨q, hTG, hU⟩
    cases q with
    | bad j =>
     obtain ⟨rfl, hk3⟩ := hU
     simp only [fault]
     exact ⟨rfl, _, .alt _ _ _ HC.out HGG.out hTG, rfl, (((hk0.mono (by simp)).trans hk1).trans hk2).trans hk3⟩
    | ok l j =>
     obtain ⟨v, ms, cs, rfl, hl, hG, hq3⟩ := hU
     obtain ⟨t, rfl, _, _⟩ := TG.one hTG
     obtain rfl := lapp_one hl.symm
     rw [List.nil_append] at hG
     obtain ⟨va, vn, vc, rfl⟩ := ownsRow_sl hG.own
     have hkA := (hk1.trans hk2).trans hG.keep
     have h2r := hkS w3 hkA
     have hz2 : i < w2.heap.size := by have := (hk1.trans hk2).size; omega
     have HTG : Hid (TG p.s .body p.op p.ix (.ok (.talt k t) j)) := by
      have := TG.alt _ _ _ HC.out HGG.out hTG
      rw [HK.out] at this
      exact this
     clear hTG hl hR
     go_wp2_with (first | (refine wpList_store_row rfl 88 _ _ rfl i #[.int .u8 97, .int .i64 k, .slice va vn vc] rfl rfl _ _ h2r (info3 _ _ _) rfl (all3 rfl rfl rfl) ?_))
     refine bodyPost_ret (results_cell_row rfl _ _ i _ _ _ _ rfl (setRow_heap _ _ _ _ _ _ h2r) Tryz.underlying88 rfl (info3 _ _ _)) rfl ?_
     exact ⟨_, HTG.out, UTh.store hi hbw (.talt k t _ cs (hG.row.only.mono fun z hz _ => by omega) hG.own fun z hz => by have := hG.fresh z hz; omega) hq3 ((hk0.mono (by simp)).trans hkA)⟩
   ·rw [if_neg hg] at hN
    have HGG : Hid (digB (at' p.s (p.ix + 1)) = false) := by
     show _ = _
     simpa using hg
    clear hg hcu
    refine hN.mono ?_
    rintro e w2 ⟨hk2, rfl⟩
    simp only [fault]
    exact ⟨rfl, _, .alt1 _ _ HC.out HGG.out, rfl, ((hk0.mono (by simp)).trans hk1).trans hk2⟩
 ·rw [if_neg ho] at hT
  have HO : Hid (at' p.s p.ix ≠ 103 ∧ at' p.s p.ix ≠ 97 ∧ at' p.s p.ix ≠ 115 ∧ at' p.s p.ix ≠ 114) := by
   have : p.cur = at' p.s p.ix := rfl
   rw [this] at ho
   simp [opB] at ho
   exact ⟨by omega, by omega, by omega, by omega⟩
  clear ho
  go_wp2_with (first | (go_at_call 218; refine hT.mono ?_; rintro e w1 ⟨hk1, rfl⟩; simp only [fault]))
  exact ⟨rfl, _, .other _ _ HO.out.1 HO.out.2.1 HO.out.2.2.1 HO.out.2.2.2, rfl, (hk0.mono (by simp)).trans hk1⟩
end Go.Proofs.YtnfojonmohijpaaGreatDoor
namespace Go.Proofs.YtnfojonmohijpaaGreatDoor
open Go.RowKit
def tl : Tr → List Tr
 | .lcons x r => x :: tl r
 | _ => []
def Tr.sz : Tr → Nat
 | .tnil => 1
 | .tbyte _ => 1
 | .tgrp _ x => 3 + x.sz
 | .talt _ x => 3 + x.sz
 | .tser l => 1 + l.sz
 | .trep l => 1 + l.sz
 | .lnil => 1
 | .lcons x r => 1 + x.sz + r.sz
def Tr.thin : Tr → Prop
 | .tnil => True
 | .tbyte _ => True
 | .tgrp _ x => x.thin
 | .talt p x => p < 100 ∧ x.thin
 | .tser l => l.thin
 | .trep l => l.thin
 | .lnil => True
 | .lcons x r => x.thin ∧ r.thin
theorem Tr.sz_pos (t : Tr) : 0 < t.sz := by cases t <;> simp [Tr.sz] <;> omega
def txts (l : List Tr) : List UInt8 := l.flatMap fun t => [32] ++ t.text
theorem txts_take (l : List Tr) (i : Nat) (t : Tr) (h : l[i]? = some t) : txts (l.take (i + 1)) = txts (l.take i) ++ ([32] ++ t.text) := by
 rw [List.take_add_one, h]
 simp [txts]
theorem txts_len (l : List Tr) (i : Nat) : (txts (l.take i)).length ≤ (txts l).length := by
 have : txts l = txts (l.take i) ++ txts (l.drop i) := by
  unfold txts
  rw [← List.flatMap_append, List.take_append_drop]
 rw [this, List.length_append]
 omega
theorem TV.tl_at {w : World} {S : Nat → Prop} {t : Tr} {cs : List Value} (h : TV w S false t cs) : cs.length = (tl t).length * 3 ∧ t.text = txts (tl t) ∧ ∀ (i : Nat) (x : Tr), (tl t)[i]? = some x → ∃ ds, TV w S true x ds ∧ (∀ (j : Nat) (u : Value), ds[j]? = some u → cs[i * 3 + j]? = some u) ∧ x.sz < t.sz ∧ (t.thin → x.thin) := by
 generalize hk : false = b at h
 induction h with
 | lnil => exact ⟨rfl, rfl, by intro i x hx; simp [tl] at hx⟩
 | lcons x r cs ds h1 _ _ ih =>
  obtain ⟨l, e, c⟩ := ih rfl
  obtain ⟨k1, n1, va, vn, vc, hcs⟩ := h1.form
  have hl : cs.length = 3 := by rw [hcs]; rfl
  refine ⟨by simp [tl, l, hl]; omega, by simp [Tr.text, tl, txts, e], ?_⟩
  intro i y hy
  match i, hy with
  | 0, hy =>
   simp [tl] at hy
   subst hy
   refine ⟨cs, h1, ?_, by simp [Tr.sz]; omega, fun h => h.1⟩
   intro j u hu
   rw [Nat.zero_mul, Nat.zero_add, List.getElem?_append_left (List.getElem?_eq_some_iff.1 hu).1]
   exact hu
  | i + 1, hy =>
   obtain ⟨es, h2, h3, h4, h5⟩ := c i y (by simpa [tl] using hy)
   refine ⟨es, h2, ?_, by simp [Tr.sz]; omega, fun h => h5 h.2⟩
   intro j u hu
   have := h3 j u hu
   rw [List.getElem?_append_right (by omega), hl]
   have e : (i + 1) * 3 + j - 3 = i * 3 + j := by omega
   rw [e]
   exact this
 | _ => cases hk
end Go.Proofs.YtnfojonmohijpaaGreatDoor
namespace Go.Proofs.YtnfojonmohijpaaGreatDoor
inductive TO : Bool → Tr → Prop
 | tnil : TO true .tnil
 | tbyte (b : Nat) : b < 256 → TO true (.tbyte b)
 | tgrp (k : Nat) (x : Tr) : 1 ≤ k → k ≤ 9 → TO true x → TO true (.tgrp k x)
 | talt (p : Nat) (x : Tr) : p ≤ 59 → TO true x → TO true (.talt p x)
 | tser (l : Tr) : TO false l → 2 ≤ (tl l).length → TO true (.tser l)
 | trep (l : Tr) : TO false l → TO true (.trep l)
 | lnil : TO false .lnil
 | lcons (x r : Tr) : TO true x → TO false r → TO false (.lcons x r)
def dep : List UInt8 → Int
 | [] => 0
 | c :: l => (if c = 40 then 1 else if c = 41 then -1 else 0) + dep l
def up (l : List UInt8) : Prop := ∀ n, 0 ≤ dep (l.take n)
end Go.Proofs.YtnfojonmohijpaaGreatDoor
namespace Go.Proofs.YtnfojonmohijpaaGreatDoor
def Lies (s : ByteArray) (i : Nat) (p : List UInt8) : Prop := ∀ k c, p[k]? = some c → at' s (i + k) = (c.toNat : Int)
theorem Lies.nil {s : ByteArray} {i : Nat} : Lies s i [] := fun k c h => by simp at h
theorem Lies.cons {s : ByteArray} {i : Nat} {c : UInt8} {p : List UInt8} : Lies s i (c :: p) ↔ at' s i = (c.toNat : Int) ∧ Lies s (i + 1) p := by
 constructor
 ·intro h
  refine ⟨h 0 c rfl, fun k d hd => ?_⟩
  have := h (k + 1) d (by simpa using hd)
  rw [show i + 1 + k = i + (k + 1) by omega]
  exact this
 ·rintro ⟨h1, h2⟩ k d hd
  cases k with
  | zero => simp at hd; subst hd; exact h1
  | succ k =>
   have := h2 k d (by simpa using hd)
   rw [show i + (k + 1) = i + 1 + k by omega]
   exact this
theorem Lies.app {s : ByteArray} {p q : List UInt8} : ∀ {i : Nat}, Lies s i (p ++ q) ↔ Lies s i p ∧ Lies s (i + p.length) q := by
 induction p with
 | nil => intro i; simp [Lies.nil]
 | cons c p ih =>
  intro i
  rw [List.cons_append, Lies.cons, ih, Lies.cons, List.length_cons, show i + 1 + p.length = i + (p.length + 1) by omega]
  exact ⟨fun ⟨a, b, d⟩ => ⟨⟨a, b⟩, d⟩, fun ⟨⟨a, b⟩, d⟩ => ⟨a, b, d⟩⟩
theorem lies_get {s : ByteArray} {i : Nat} {c : UInt8} (h : at' s i = (c.toNat : Int)) : s.get! i = c := by
 have hlt : i < s.size := at'_nn (by omega)
 rw [at'_lt hlt] at h
 have h2 : s[i].toNat = c.toNat := by omega
 have h3 : s[i] = c := UInt8.toNat_inj.1 h2
 have e : s.get! i = s[i] := by
  cases s with
  | mk a => exact getElem!_pos a i hlt
 rw [e, h3]
def noRep (c : Int) : Prop := c ≠ 42 ∧ c ≠ 43 ∧ c ≠ 63 ∧ c ≠ 123
def pre : List Pat → Pat → Pat
 | [], y => y
 | x :: l, y => .pcons x (pre l y)
theorem pre_app (l m : List Pat) (y : Pat) : pre (l ++ m) y = pre l (pre m y) := by
 induction l with
 | nil => rfl
 | cons x l ih => rw [List.cons_append, pre, pre, ih]
structure Wy (p : List UInt8) (f : Nat → List Pat) (n dep : Nat) : Prop where
 hd : ∃ c r, p = c :: r ∧ noRep (c.toNat : Int)
 rd : ∀ (s : ByteArray) (i d g : Nat) (q : R (Pat × Nat)), Lies s i p → d + dep ≤ 6 → g + n ≤ 9 → noRep (at' s (i + p.length)) → G s .way d (g + n) (i + p.length) q → G s .way d g i (q.map fun y => (pre (f g) y.1, y.2))
def Ws (p : List UInt8) (x : Nat → Pat) (n dep : Nat) : Prop :=
 ∀ (s : ByteArray) (i d g : Nat), Lies s i p → d + dep ≤ 6 → g + n ≤ 9 → (at' s (i + p.length) = 41 ∨ at' s (i + p.length) = -1) → G s .ways d g i (.ok (x g, g + n) (i + p.length))
def Sg (p : List UInt8) (x : Pat) : Prop := (∃ c r, p = c :: r ∧ noRep (c.toNat : Int) ∧ ¬ stopC (c.toNat : Int)) ∧ ∀ (s : ByteArray) (i d g : Nat), Lies s i p → G s .single d g i (.ok (x, g) (i + p.length))
def Rx (r : List UInt8) (o : Option (Nat × Int)) : Prop := ∀ (s : ByteArray) (j : Nat), Lies s j r → noRep (at' s (j + r.length)) → RepR s j (.ok o (j + r.length))
theorem Wy.app {p q : List UInt8} {f f' : Nat → List Pat} {n n' a a' : Nat} (h : Wy p f n a) (k : Wy q f' n' a') : Wy (p ++ q) (fun g => f g ++ f' (g + n)) (n + n') (max a a') := by
 obtain ⟨c, r, rfl, hc⟩ := h.hd
 obtain ⟨c', r', rfl, hc'⟩ := k.hd
 refine ⟨⟨c, r ++ (c' :: r'), rfl, hc⟩, ?_⟩
 intro s i d g z hl hd hg he hz
 obtain ⟨l1, l2⟩ := Lies.app.1 hl
 have e : i + ((c :: r) ++ (c' :: r')).length = i + (c :: r).length + (c' :: r').length := by rw [List.length_append]; omega
 rw [e] at he hz
 rw [show g + (n + n') = g + n + n' by omega] at hz
 have h2 := k.rd s (i + (c :: r).length) d (g + n) z l2 (by omega) (by omega) he hz
 have h3 := h.rd s i d g _ l1 (by omega) (by omega) (by rw [(Lies.cons.1 l2).1]; exact hc') h2
 cases z with
 | bad j => exact h3
 | ok y j =>
  have e3 : (R.ok y j).map (fun y => (pre (f g ++ f' (g + n)) y.1, y.2)) = ((R.ok y j).map fun y => (pre (f' (g + n)) y.1, y.2)).map fun y => (pre (f g) y.1, y.2) := by simp [R.map, pre_app]
  rw [e3]
  exact h3
theorem Wy.single {p r : List UInt8} {x : Pat} {o : Option (Nat × Int)} (h : Sg p x) (hr : Rx r o) : Wy (p ++ r) (fun _ => [withRep x o]) 0 0 := by
 obtain ⟨⟨c, t, rfl, hc, hs⟩, h⟩ := h
 refine ⟨⟨c, t ++ r, rfl, hc⟩, ?_⟩
 intro s i d g z hl hd hg he hz
 obtain ⟨l1, l2⟩ := Lies.app.1 hl
 have e : i + ((c :: t) ++ r).length = i + (c :: t).length + r.length := by rw [List.length_append]; omega
 rw [e] at he hz
 have h1 := h s i d g l1
 have h2 := G.rep d g i g (i + (c :: t).length) x (.ok o (i + (c :: t).length + r.length)) h1 (hr s _ l2 he)
 exact G.cons d g i g _ _ z (by rw [(Lies.cons.1 l1).1]; exact hs) h2 hz
theorem Ws.one {p : List UInt8} {f : Nat → List Pat} {n a : Nat} (h : Wy p f n a) : Ws p (fun g => .wone (pre (f g) .pnil)) n a := by
 intro s i d g hl hd hg he
 have h1 := h.rd s i d g (.ok (.pnil, g + n) (i + p.length)) hl hd hg (by unfold noRep; omega) (G.nil d (g + n) _ (by unfold stopC; omega))
 exact G.one d g i (g + n) _ _ h1 (by omega)
theorem Ws.nil : Ws [] (fun _ => .wone .pnil) 0 0 := by
 intro s i d g _ _ _ he
 exact G.one d g i g _ _ (G.nil d g i (by simp only [List.length_nil, Nat.add_zero] at he; unfold stopC; omega)) (by simp only [List.length_nil, Nat.add_zero] at he ⊢; omega)
theorem Ws.cons {p q : List UInt8} {f : Nat → List Pat} {y : Nat → Pat} {n n' a a' : Nat} (h : Wy p f n a) (k : Ws q y n' a') : Ws (p ++ [124] ++ q) (fun g => .wcons (pre (f g) .pnil) (y (g + n))) (n + n') (max a a') := by
 intro s i d g hl hd hg he
 obtain ⟨l12, l3⟩ := Lies.app.1 hl
 obtain ⟨l1, l2⟩ := Lies.app.1 l12
 have hb : at' s (i + p.length) = 124 := (Lies.cons.1 l2).1
 have e1 : i + (p ++ [124]).length = i + p.length + 1 := by rw [List.length_append]; rfl
 have e2 : i + (p ++ [124] ++ q).length = i + p.length + 1 + q.length := by rw [List.length_append, List.length_append]; simp only [List.length_singleton]; omega
 rw [e1] at l3
 rw [e2] at he ⊢
 have h1 := h.rd s i d g (.ok (.pnil, g + n) (i + p.length)) l1 (by omega) (by omega) (by unfold noRep; omega) (G.nil d (g + n) _ (by unfold stopC; omega))
 have h2 := k s (i + p.length + 1) d (g + n) l3 (by omega) (by omega) he
 have h3 := G.more d g i (g + n) (i + p.length) _ (.ok (y (g + n), g + n + n') (i + p.length + 1 + q.length)) h1 hb h2
 rw [show g + (n + n') = g + n + n' by omega]
 exact h3
theorem Wy.grp {p r : List UInt8} {x : Nat → Pat} {n a : Nat} {o : Option (Nat × Int)} (h : Ws p x n a) (hr : Rx r o) : Wy ([40] ++ p ++ [41] ++ r) (fun g => [withRep (.grp (g + 1) (x (g + 1))) o]) (n + 1) (a + 1) := by
 refine ⟨⟨40, p ++ [41] ++ r, by simp, by unfold noRep; decide⟩, ?_⟩
 intro s i d g z hl hd hg he hz
 obtain ⟨l123, l4⟩ := Lies.app.1 hl
 obtain ⟨l12, l3⟩ := Lies.app.1 l123
 obtain ⟨l1, l2⟩ := Lies.app.1 l12
 have e1 : i + ([40] : List UInt8).length = i + 1 := rfl
 have e2 : i + ([40] ++ p).length = i + 1 + p.length := by rw [List.length_append]; simp only [List.length_singleton]; omega
 have e3 : i + ([40] ++ p ++ [41]).length = i + 1 + p.length + 1 := by rw [List.length_append, List.length_append]; simp only [List.length_singleton]; omega
 have e4 : i + ([40] ++ p ++ [41] ++ r).length = i + 1 + p.length + 1 + r.length := by rw [List.length_append]; omega
 rw [e1] at l2
 rw [e2] at l3
 rw [e3] at l4
 rw [e4] at he hz
 have ho : at' s i = 40 := (Lies.cons.1 l1).1
 have hc : at' s (i + 1 + p.length) = 41 := (Lies.cons.1 l3).1
 have h1 := h s (i + 1) (d + 1) (g + 1) l2 (by omega) (by omega) (Or.inl hc)
 have h2 := G.grp d g i (g + 1 + n) (i + 1 + p.length) _ ho (by omega) h1 hc
 have h3 := G.rep d g i (g + 1 + n) (i + 1 + p.length + 1) _ (.ok o (i + 1 + p.length + 1 + r.length)) h2 (hr s _ l4 he)
 rw [show g + (n + 1) = g + 1 + n by omega] at hz
 exact G.cons d g i (g + 1 + n) _ _ z (by rw [ho]; unfold stopC; decide) h3 hz
theorem Rx.none : Rx [] none := fun s j _ he => Or.inl ⟨he.1, he.2.1, he.2.2.1, he.2.2.2, rfl⟩
theorem Rx.star : Rx [42] (some (0, -1)) := fun s j hl _ => Or.inr (Or.inl ⟨(Lies.cons.1 hl).1, rfl⟩)
theorem Rx.plus : Rx [43] (some (1, -1)) := fun s j hl _ => Or.inr (Or.inr (Or.inl ⟨(Lies.cons.1 hl).1, rfl⟩))
theorem Rx.opt : Rx [63] (some (0, 1)) := fun s j hl _ => Or.inr (Or.inr (Or.inr (Or.inl ⟨(Lies.cons.1 hl).1, rfl⟩)))
theorem num1 {s : ByteArray} {least m i : Nat} (h : at' s i = ((48 + m : Nat) : Int)) (hm : m ≤ 5) (hl : least ≤ m) (hn : digB (at' s (i + 1)) = false) : NumL s least 0 false i (.ok m (i + 1)) := by
 refine NumL.dig 0 m false i _ ?_ (by rw [h]; omega) hm (Or.inr hl) (NumL.done m (i + 1) hn hl)
 rw [h]
 simp only [digB, Bool.and_eq_true, decide_eq_true_eq]
 omega
theorem Rx.from {m : Nat} (hm : m ≤ 5) : Rx [123, UInt8.ofNat (48 + m), 44, 125] (some (m, -1)) := by
 intro s j hl _
 obtain ⟨h0, hl⟩ := Lies.cons.1 hl
 obtain ⟨h1, hl⟩ := Lies.cons.1 hl
 obtain ⟨h2, hl⟩ := Lies.cons.1 hl
 obtain ⟨h3, _⟩ := Lies.cons.1 hl
 have e : ((UInt8.ofNat (48 + m)).toNat : Int) = ((48 + m : Nat) : Int) := by
  have : (UInt8.ofNat (48 + m)).toNat = 48 + m := by simp; omega
  rw [this]
 rw [e] at h1
 exact Or.inr (Or.inr (Or.inr (Or.inr ⟨h0, _, num1 h1 hm (Nat.zero_le _) (by rw [h2]; decide), Or.inl ⟨h2, h3, rfl⟩⟩)))
theorem Rx.just {m : Nat} (hm : m ≤ 5) : Rx [123, UInt8.ofNat (48 + m), 125] (some (m, (m : Int))) := by
 intro s j hl _
 obtain ⟨h0, hl⟩ := Lies.cons.1 hl
 obtain ⟨h1, hl⟩ := Lies.cons.1 hl
 obtain ⟨h2, _⟩ := Lies.cons.1 hl
 have e : ((UInt8.ofNat (48 + m)).toNat : Int) = ((48 + m : Nat) : Int) := by
  have : (UInt8.ofNat (48 + m)).toNat = 48 + m := by simp; omega
  rw [this]
 rw [e] at h1
 have h2' : at' s (j + 1 + 1) = 125 := h2
 exact Or.inr (Or.inr (Or.inr (Or.inr ⟨h0, _, num1 h1 hm (Nat.zero_le _) (by rw [h2]; decide), Or.inr (Or.inr ⟨by rw [h2']; decide, by rw [if_pos h2']; rfl⟩)⟩)))
theorem Rx.upto {m n : Nat} (hm : m ≤ n) (hn : n ≤ 5) : Rx [123, UInt8.ofNat (48 + m), 44, UInt8.ofNat (48 + n), 125] (some (m, (n : Int))) := by
 intro s j hl _
 obtain ⟨h0, hl⟩ := Lies.cons.1 hl
 obtain ⟨h1, hl⟩ := Lies.cons.1 hl
 obtain ⟨h2, hl⟩ := Lies.cons.1 hl
 obtain ⟨h3, hl⟩ := Lies.cons.1 hl
 obtain ⟨h4, _⟩ := Lies.cons.1 hl
 have e : ∀ k, k ≤ 5 → ((UInt8.ofNat (48 + k)).toNat : Int) = ((48 + k : Nat) : Int) := fun k hk => by
  have : (UInt8.ofNat (48 + k)).toNat = 48 + k := by simp; omega
  rw [this]
 rw [e m (by omega)] at h1
 rw [e n hn] at h3
 have h4' : at' s (j + 1 + 1 + 1 + 1) = 125 := h4
 exact Or.inr (Or.inr (Or.inr (Or.inr ⟨h0, _, num1 h1 (by omega) (Nat.zero_le _) (by rw [h2]; decide), Or.inr (Or.inl ⟨h2, by rw [h3]; omega, _, num1 h3 hn hm (by rw [h4]; decide), by rw [Rep3, if_pos h4']; rfl⟩)⟩)))
theorem Ws.whole {p : List UInt8} {x : Nat → Pat} {n a : Nat} (h : Ws p x n a) (ha : a ≤ 6) (hn : n ≤ 9) (hp : p.head? ≠ some 94) (s : ByteArray) (hs : s.data.toList = p) : PatR s (.ok ⟨false, false, x 0, n⟩ p.length) := by
 have hsz : s.size = p.length := by rw [← hs, Array.length_toList]; rfl
 have hl : Lies s 0 p := by
  intro k c hc
  have hk : k < s.size := by rw [hsz]; exact (List.getElem?_eq_some_iff.1 hc).1
  rw [Nat.zero_add, at'_lt hk]
  have : s.data.toList[k]? = some c := by rw [hs]; exact hc
  have h2 : s[k] = c := by
   have h3 : s.data[k]? = some c := by simpa using this
   exact (Array.getElem?_eq_some_iff.1 h3).2
  rw [h2]
 have he : at' s p.length = -1 := at'_ge (by omega)
 have h1 := h s 0 0 0 hl (by omega) (by omega) (Or.inr (by rw [Nat.zero_add]; exact he))
 have h0 : at' s 0 ≠ 94 := by
  cases p with
  | nil => rw [at'_ge (by rw [hsz]; simp)]; decide
  | cons c r =>
   have := (Lies.cons.1 hl).1
   rw [this]
   intro hc
   apply hp
   simp only [List.head?_cons, Option.some.injEq]
   apply UInt8.toNat_inj.1
   have : (94 : UInt8).toNat = 94 := rfl
   omega
 have hw : wi s = 0 := by unfold wi; rw [if_neg h0]
 rw [Nat.zero_add, Nat.zero_add] at h1
 refine ⟨_, by rw [hw]; exact h1, ?_⟩
 rw [PatE_ok, he]
 simp [h0, he]
end Go.Proofs.YtnfojonmohijpaaGreatDoor
namespace Go.Proofs.YtnfojonmohijpaaGreatDoor
open Go.RowKit
set_option maxRecDepth 100000 in
set_option maxHeartbeats 4000000 in
theorem ubracket_any (s : ByteArray) (hs : s.size ≤ 20000) (n : Nat) (IH : ThingOk s n) (b : Nat) (p : US) (hps : p.s = s) (w : World) (hp : UB w b p) (hle : p.ix ≤ s.size) (hn : s.size - p.ix ≤ n) (hop : p.op ≤ 60) (hne : at' s p.ix ≠ 101) (hnb : at' s p.ix ≠ 98) :
    Calls Tryz.prog 183 #[.pointer (some ⟨b, 0, none⟩)] w fun e w' => ∃ q, TG s .thing p.op p.ix q ∧ UTh b p w q e w' := by
 subst hps
 have hk0 : Keeps [] w (w.alloc (.cells #[.int .u8 0, .int .i64 0, .slice none 0 0] 88)) := (Keeps.refl [] w).alloc _
 have h2 : (w.alloc (.cells #[.int .u8 0, .int .i64 0, .slice none 0 0] 88)).heap[w.heap.size]? = some (.cells #[.int .u8 0, .int .i64 0, .slice none 0 0] 88 (0, 0)) := heap_alloc_new w _
 have hbw := hp.lt
 have hsz : (w.alloc (.cells #[.int .u8 0, .int .i64 0, .slice none 0 0] 88)).heap.size = w.heap.size + 1 := by simp
 have hp0 := hp.keep hk0 (by simp)
 go_enter Tryz.func183, Tryz.ntmps183
 go_upto_region 1 with (fail)
 generalize w.alloc (.cells #[.int .u8 0, .int .i64 0, .slice none 0 0] 88) = W at *
 obtain ⟨i, hi⟩ : ∃ i, w.heap.size = i := ⟨_, rfl⟩
 rw [hi] at h2 hsz hbw ⊢
 obtain ⟨c0, c1, c2, f1, f2⟩ := hp0.main
 by_cases h60 : p.op = 60
 ·have hd : ((p.op : Int) == 60) = true := by simp [h60]
  have hF := upfail_any b p W hp0
  have H : Hid (p.op = 60) := h60
  have HN : Hid (at' p.s p.ix ≠ 101 ∧ at' p.s p.ix ≠ 98) := ⟨hne, hnb⟩
  clear h60 hne hnb
  go_wp2_with (first | (go_at_call 168; refine hF.mono ?_; rintro e w1 ⟨rfl, rfl⟩; simp only [fault]))
  by_cases h40 : at' p.s p.ix = 40
  ·exact ⟨rfl, _, .deep _ _ h40 (by have := H.out; omega), rfl, hk0.mono (by simp)⟩
  ·exact ⟨rfl, _, .none _ _ HN.out.1 HN.out.2 h40, rfl, hk0.mono (by simp)⟩
 ·have hd : ((p.op : Int) == 60) = false := by simp; omega
  by_cases h40 : at' p.s p.ix = 40
  ·have hE := uexpect_ok b p 40 (by decide) W hp0 hs h40
   have H40 : Hid (at' p.s p.ix = 40) := h40
   have hlt := at'_lt_of h40 (by decide)
   have HO : Hid (p.op < 60 ∧ p.ix < p.s.size) := ⟨by omega, hlt⟩
   have hop1 : (p.op : Int) ≤ 59 := by omega
   have hop0 : (0 : Int) ≤ (p.op : Int) := by omega
   clear h60 hne hnb h40 hlt hp
   go_upto_region 4 with (first | (go_at_call 221; refine hE.mono ?_; rintro e w1 ⟨rfl, hq1, hk1⟩))
   obtain ⟨d0, d1, d2, g1, g2⟩ := hq1.main
   simp only at d2
   have hq2 := hq1.setOp (p.op + 1)
   have hkc : Keeps [b] w1 (w1.setCell ⟨b, 2, none⟩ (.int .i64 ((p.op + 1 : Nat) : Int))) := (Keeps.refl [b] _).setCell (by simp) _
   have hcast : ((p.op + 1 : Nat) : Int) = (p.op : Int) + 1 := by omega
   rw [hcast] at hq2 hkc
   have hR := opened_any p.s hs n IH b { p with ix := p.ix + 1, op := p.op + 1 } rfl _ hq2 (by have := HO.out; simp only; omega) (by have := HO.out; simp only; omega) (by have := HO.out; simp only; omega)
   go_wp2_with fail
   refine hR.mono ?_
   rintro e w3 ⟨q, hTG, hU⟩
   have HTG0 : Hid (TG p.s .thing p.op p.ix (shut p.s q)) := TG.opn _ _ _ H40.out HO.out.1 hTG
   have hbq := hTG.bd (by have := HO.out; omega)
   clear hR hTG
   cases q with
   | bad j =>
    obtain ⟨rfl, hk3⟩ := hU
    simp only [fault]
    exact ⟨rfl, _, HTG0.out, rfl, (((hk0.mono (by simp)).trans hk1).trans hkc).trans hk3⟩
   | ok t j =>
    obtain ⟨cs, rfl, htv, hq3, hk3⟩ := hU
    obtain ⟨k1, n1, ta, tn, tc, rfl⟩ := htv.form
    have hjle : j ≤ p.s.size := hbq.2.1
    have hkA : Keeps [b] W w3 := (hk1.trans hkc).trans hk3
    have hsA := hkA.size
    have hsB : W.heap.size ≤ (w1.setCell ⟨b, 2, none⟩ (.int .i64 ((p.op : Int) + 1))).heap.size := (hk1.trans hkc).size
    have h30 : (w3.alloc (.cells #[.int .u8 0, .int .i64 0, .slice none 0 0] 88)).heap[w3.heap.size]? = some (.cells #[.int .u8 0, .int .i64 0, .slice none 0 0] 88 (0, 0)) := heap_alloc_new w3 _
    have hkB : Keeps [] w3 ((w3.alloc (.cells #[.int .u8 0, .int .i64 0, .slice none 0 0] 88)).setRow w3.heap.size #[.int .u8 k1, .int .i64 n1, .slice ta tn tc]) := ((Keeps.refl [] w3).alloc _).setRow (Or.inr (Nat.le_refl _)) _
    have h31 : ((w3.alloc (.cells #[.int .u8 0, .int .i64 0, .slice none 0 0] 88)).setRow w3.heap.size #[.int .u8 k1, .int .i64 n1, .slice ta tn tc]).heap[w3.heap.size]? = some (.cells #[.int .u8 k1, .int .i64 n1, .slice ta tn tc] 88 (0, 0)) := setRow_heap _ _ _ _ _ _ h30
    clear hbq hq1 hE
    go_upto_region 6 with (first | (refine wpList_store_row rfl 88 _ _ rfl w3.heap.size #[.int .u8 k1, .int .i64 n1, .slice ta tn tc] rfl rfl _ _ h30 (info3 _ _ _) rfl (all3 rfl rfl rfl) ?_))
    obtain ⟨g3, hg3⟩ : ∃ g3, w3.heap.size = g3 := ⟨_, rfl⟩
    rw [hg3] at h31 hkB ⊢
    have hq4 := hq3.keep hkB (by simp)
    have htv4 := (htv.mono (S' := fun g => W.heap.size ≤ g ∧ g < g3) (fun g h1 h2 => ⟨by omega, by omega⟩)).keep hkB (by simp)
    have hkC := hkA.trans (hkB.mono (by simp))
    rw [hg3] at h30
    generalize (w3.alloc (.cells #[.int .u8 0, .int .i64 0, .slice none 0 0] 88)).setRow g3 #[.int .u8 k1, .int .i64 n1, .slice ta tn tc] = w4 at *
    clear h30 hkB htv hq3
    by_cases h41 : at' p.s j = 41
    ·have hE := uexpect_ok b { p with ix := j, op := p.op + 1 } 41 (by decide) w4 hq4 hs h41
     have HR : Hid (TG p.s .thing p.op p.ix (.ok t (j + 1))) := by
      have := HTG0.out
      simp only [shut, if_pos h41] at this
      exact this
     clear h41 HTG0
     go_upto_region 7 with (first | (go_at_call 221; refine hE.mono ?_; rintro e w5 ⟨rfl, hq5, hk5⟩))
     obtain ⟨x0, x1, x2, y1, y2⟩ := hq5.main
     have x2' : w5.cell? ⟨b, 2, none⟩ = some (.int .i64 ((p.op : Int) + 1)) := by rw [← hcast]; exact x2
     have hq6 : UB (w5.setCell ⟨b, 2, none⟩ (.int .i64 (p.op : Int))) b { p with ix := j + 1 } := hq5.setOp p.op
     have hkD : Keeps [b] w5 (w5.setCell ⟨b, 2, none⟩ (.int .i64 (p.op : Int))) := (Keeps.refl [b] _).setCell (by simp) _
     have hk46 := hk5.trans hkD
     have hg4 : g3 < w4.heap.size := (Array.getElem?_eq_some_iff.1 h31).1
     have hW3 : W.heap.size ≤ g3 := by omega
     have h36 := (hk46.block g3 hg4 (by simp; omega)).trans h31
     have h26 := ((hkC.trans hk46).block i (by omega) (by simp; omega)).trans h2
     have htv6 := htv4.keep hk46 (fun g hg => by simp; omega)
     have hkE := (hk0.mono (by simp)).trans (hkC.trans hk46)
     have hop9 : IntKind.i64.wrap ((p.op : Int) + 1 - 1) = (p.op : Int) := by rw [IntKind.wrap_i64]; omega
     clear x2 hk5 hkD htv4 hE hk46 hkC
     go_upto_region 8 with (fail)
     generalize w5.setCell ⟨b, 2, none⟩ (.int .i64 (p.op : Int)) = w6 at *
     go_wp2_with (first
       | (refine wpList_load_row rfl 88 _ rfl g3 rfl _ _ _ _ h36 Tryz.underlying88 rfl (info3 _ _ _) ?_)
       | (refine wpList_store_row rfl 88 _ _ rfl i #[.int .u8 k1, .int .i64 n1, .slice ta tn tc] rfl rfl _ _ h26 (info3 _ _ _) rfl (all3 rfl rfl rfl) ?_))
     refine bodyPost_ret (results_cell_row rfl _ _ i _ _ _ _ rfl (setRow_heap _ _ _ _ _ _ h26) Tryz.underlying88 rfl (info3 _ _ _)) rfl ?_
     exact ⟨_, HR.out, UTh.store hi hbw (htv6.mono fun z hz _ => by omega) hq6 hkE⟩
    ·have hE := uexpect_bad b { p with ix := j, op := p.op + 1 } 41 (by decide) w4 hq4 hjle hs h41
     have HR : Hid (TG p.s .thing p.op p.ix (.bad j)) := by
      have := HTG0.out
      simp only [shut, if_neg h41] at this
      exact this
     clear h41 HTG0
     go_wp2_with (first | (go_at_call 221; refine hE.mono ?_; rintro e w5 ⟨rfl, hk5⟩; simp only [fault]))
     exact ⟨rfl, _, HR.out, rfl, ((hk0.mono (by simp)).trans hkC).trans hk5⟩
  ·have hE := uexpect_bad b p 40 (by decide) W hp0 hle hs h40
   have H40 : Hid (at' p.s p.ix ≠ 40) := h40
   have HN : Hid (at' p.s p.ix ≠ 101 ∧ at' p.s p.ix ≠ 98) := ⟨hne, hnb⟩
   clear h60 hne hnb h40
   go_wp2_with (first | (go_at_call 221; refine hE.mono ?_; rintro e w1 ⟨rfl, hk1⟩; simp only [fault]))
   exact ⟨rfl, _, .none _ _ HN.out.1 HN.out.2 H40.out, rfl, (hk0.mono (by simp)).trans hk1⟩
end Go.Proofs.YtnfojonmohijpaaGreatDoor
namespace Go.Proofs.YtnfojonmohijpaaGreatDoor
open Go.RowKit
set_option maxRecDepth 100000 in
set_option maxHeartbeats 4000000 in
theorem thing_step (s : ByteArray) (hs : s.size ≤ 20000) (n : Nat) (IH : ThingOk s n) : ThingOk s (n + 1) := by
 intro b p w hps hp hle hn hop
 subst hps
 have hk0 : Keeps [] w (w.alloc (.cells #[.int .u8 0, .int .i64 0, .slice none 0 0] 88)) := (Keeps.refl [] w).alloc _
 have h2 : (w.alloc (.cells #[.int .u8 0, .int .i64 0, .slice none 0 0] 88)).heap[w.heap.size]? = some (.cells #[.int .u8 0, .int .i64 0, .slice none 0 0] 88 (0, 0)) := heap_alloc_new w _
 have hbw := hp.lt
 have hsz : (w.alloc (.cells #[.int .u8 0, .int .i64 0, .slice none 0 0] 88)).heap.size = w.heap.size + 1 := by simp
 have hp0 := hp.keep hk0 (by simp)
 go_enter Tryz.func132, Tryz.ntmps132
 go_upto_region 1 with (fail)
 generalize w.alloc (.cells #[.int .u8 0, .int .i64 0, .slice none 0 0] 88) = W at *
 obtain ⟨i, hi⟩ : ∃ i, w.heap.size = i := ⟨_, rfl⟩
 rw [hi] at h2 hsz hbw ⊢
 have hkS : ∀ A : World, Keeps [b] W A → A.heap[i]? = some (.cells #[.int .u8 0, .int .i64 0, .slice none 0 0] 88 (0, 0)) := fun A hk => (hk.block i (by omega) (by simp; omega)).trans h2
 have hE := uskip_any b p 101 (by decide) W hp0 hle hs
 have hcu : p.cur = at' p.s p.ix := rfl
 by_cases h101 : at' p.s p.ix = 101
 ·rw [hcu, show decide (at' p.s p.ix = 101) = true from decide_eq_true h101, show p.took 101 = { p with ix := p.ix + 1 } from if_pos h101] at hE
  have HC : Hid (at' p.s p.ix = 101) := h101
  clear h101 hcu
  go_upto_region 2 with (first | (go_at_call 116; refine hE.mono ?_; rintro e w1 ⟨rfl, hq1, hk1⟩))
  have h2r := hkS w1 hk1
  go_wp2_with (first | (refine wpList_store_row rfl 88 _ _ rfl i #[.int .u8 101, .int .i64 0, .slice none 0 0] rfl rfl _ _ h2r (info3 _ _ _) rfl (all3 rfl rfl rfl) ?_))
  refine bodyPost_ret (results_cell_row rfl _ _ i _ _ _ _ rfl (setRow_heap _ _ _ _ _ _ h2r) Tryz.underlying88 rfl (info3 _ _ _)) rfl ?_
  exact ⟨_, .nil _ _ HC.out, UTh.store hi hbw .tnil hq1 ((hk0.mono (by simp)).trans hk1)⟩
 ·rw [hcu, show decide (at' p.s p.ix = 101) = false from decide_eq_false h101, show p.took 101 = p from if_neg h101] at hE
  have hB := fun w1 (h : UB w1 b p) => uskip_any b p 98 (by decide) w1 h hle hs
  by_cases h98 : at' p.s p.ix = 98
  ·simp only [hcu, show decide (at' p.s p.ix = 98) = true from decide_eq_true h98, show p.took 98 = { p with ix := p.ix + 1 } from if_pos h98] at hB
   have HB : Hid (∀ w1, UB w1 b p → Calls Tryz.prog 116 #[.pointer (some ⟨b, 0, none⟩), .int .u8 98] w1 fun e w' => e = .returned (.bool true) ∧ UB w' b { p with ix := p.ix + 1 } ∧ Keeps [b] w1 w') := hB
   have HC : Hid (at' p.s p.ix = 98) := h98
   have hlt := at'_lt_of h98 (by decide)
   have HL : Hid (p.ix < p.s.size) := hlt
   clear h101 h98 hB hlt
   go_upto_region 4 with (first | (go_at_call 116; refine (HB.out _ hq1).mono ?_; rintro e w2 ⟨rfl, hq2, hk2⟩) | (go_at_call 116; refine hE.mono ?_; rintro e w1 ⟨rfl, hq1, hk1⟩))
   have hH := uhexPair_any b { p with ix := p.ix + 1 } w2 hq2 hs HL.out
   have hcv : US.cur { p with ix := p.ix + 1 } = at' p.s (p.ix + 1) := rfl
   unfold hxR at hH
   simp only [hcv] at hH
   by_cases ha : hexd (at' p.s (p.ix + 1)) < 0
   ·rw [if_pos ha] at hH
    go_wp2_with (first | (go_at_call 182; refine hH.mono ?_; rintro e w3 ⟨hk3, rfl⟩; simp only [fault]))
    exact ⟨rfl, _, .byte1 _ _ HC.out ha, rfl, (((hk0.mono (by simp)).trans hk1).trans hk2).trans hk3⟩
   ·rw [if_neg ha] at hH
    by_cases hz : hexd (at' p.s (p.ix + 1 + 1)) < 0
    ·rw [if_pos hz] at hH
     go_wp2_with (first | (go_at_call 182; refine hH.mono ?_; rintro e w3 ⟨hk3, rfl⟩; simp only [fault]))
     exact ⟨rfl, _, .byte2 _ _ HC.out (by omega) hz, rfl, (((hk0.mono (by simp)).trans hk1).trans hk2).trans hk3⟩
    ·rw [if_neg hz] at hH
     have HTG : Hid (TG p.s .thing p.op p.ix (.ok (.tbyte (16 * hexd (at' p.s (p.ix + 1)) + hexd (at' p.s (p.ix + 2))).toNat) (p.ix + 3))) := .byte _ _ HC.out (by omega) (show 0 ≤ hexd (at' p.s (p.ix + 1 + 1)) by omega)
     have hb1 := hexd_bd (at' p.s (p.ix + 1))
     have hb2 := hexd_bd (at' p.s (p.ix + 1 + 1))
     have h256 : (16 * hexd (at' p.s (p.ix + 1)) + hexd (at' p.s (p.ix + 1 + 1))).toNat < 256 := by omega
     have e3 : at' p.s (p.ix + 2) = at' p.s (p.ix + 1 + 1) := rfl
     rw [e3] at HTG
     generalize (16 * hexd (at' p.s (p.ix + 1)) + hexd (at' p.s (p.ix + 1 + 1))).toNat = N at *
     clear ha hz hb1 hb2 e3
     go_upto_region 5 with (first | (go_at_call 182; refine hH.mono ?_; rintro e w3 ⟨hk3, rfl, hq3⟩; have h2r := hkS w3 ((hk1.trans hk2).trans hk3)) | (refine wpList_store_row rfl 88 _ _ rfl i #[.int .u8 98, .int .i64 N, .slice none 0 0] rfl rfl _ _ h2r (info3 _ _ _) rfl (all3 rfl rfl rfl) ?_))
     refine bodyPost_ret (results_cell_row rfl _ _ i _ _ _ _ rfl (setRow_heap _ _ _ _ _ _ h2r) Tryz.underlying88 rfl (info3 _ _ _)) rfl ?_
     exact ⟨_, HTG.out, UTh.store hi hbw (.tbyte N h256) hq3 ((((hk0.mono (by simp)).trans hk1).trans hk2).trans hk3)⟩
  ·simp only [hcu, show decide (at' p.s p.ix = 98) = false from decide_eq_false h98, show p.took 98 = p from if_neg h98] at hB
   have HB : Hid (∀ w1, UB w1 b p → Calls Tryz.prog 116 #[.pointer (some ⟨b, 0, none⟩), .int .u8 98] w1 fun e w' => e = .returned (.bool false) ∧ UB w' b p ∧ Keeps [b] w1 w') := hB
   have HK : Hid (∀ w1, UB w1 b p → Calls Tryz.prog 183 #[.pointer (some ⟨b, 0, none⟩)] w1 fun e w' => ∃ q, TG p.s .thing p.op p.ix q ∧ UTh b p w1 q e w') := fun w1 h => ubracket_any p.s hs n IH b p rfl w1 h hle (by omega) hop h101 h98
   clear h101 h98 hB
   go_upto_region 5 with (first | (go_at_call 116; refine (HB.out _ hq1).mono ?_; rintro e w2 ⟨rfl, hq2, hk2⟩) | (go_at_call 116; refine hE.mono ?_; rintro e w1 ⟨rfl, hq1, hk1⟩))
   go_wp2_with fail
   refine (HK.out w2 hq2).mono ?_
   rintro e w3 ⟨q, hTG, hU⟩
   have hkA := hk1.trans hk2
   have hsA := hkA.size
   cases q with
   | bad j =>
    obtain ⟨rfl, hk3⟩ := hU
    simp only [fault]
    exact ⟨rfl, _, hTG, rfl, ((hk0.mono (by simp)).trans hkA).trans hk3⟩
   | ok t j =>
    obtain ⟨cs, rfl, htv, hq3, hk3⟩ := hU
    obtain ⟨k1, n1, ta, tn, tc, rfl⟩ := htv.form
    have HTG : Hid (TG p.s .thing p.op p.ix (.ok t j)) := hTG
    have h2r := hkS w3 (hkA.trans hk3)
    clear hTG
    go_wp2_with (first | (refine wpList_store_row rfl 88 _ _ rfl i #[.int .u8 k1, .int .i64 n1, .slice ta tn tc] rfl rfl _ _ h2r (info3 _ _ _) rfl (all3 rfl rfl rfl) ?_))
    refine bodyPost_ret (results_cell_row rfl _ _ i _ _ _ _ rfl (setRow_heap _ _ _ _ _ _ h2r) Tryz.underlying88 rfl (info3 _ _ _)) rfl ?_
    exact ⟨_, HTG.out, UTh.store hi hbw (htv.mono fun z hz _ => by omega) hq3 (((hk0.mono (by simp)).trans hkA).trans hk3)⟩
theorem thing_all (s : ByteArray) (hs : s.size ≤ 20000) : ∀ n, ThingOk s n
 | 0 => fun b p w _ _ _ h => absurd h (Nat.not_lt_zero _)
 | n + 1 => thing_step s hs n (thing_all s hs n)
end Go.Proofs.YtnfojonmohijpaaGreatDoor
