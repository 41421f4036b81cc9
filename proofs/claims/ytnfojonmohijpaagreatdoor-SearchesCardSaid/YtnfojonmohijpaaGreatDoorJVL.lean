/-
  DERIVED. The reference's 'of': what is told of a stretch. Conditions: what it has in memory lies as it should (TX); the stretch matches.
-/
import Derived.Test.YtnfojonmohijpaaGreatDoorJVE
import Derived.Test.YtnfojonmohijpaaGreatDoorJOI0
import Derived.Test.YtnfojonmohijpaaGreatDoorJOF
set_option linter.unusedSimpArgs false
set_option linter.unusedVariables false
namespace Go.Proofs.YtnfojonmohijpaaGreatDoor
open Go.RowKit
structure OW (w wr : World) (ob : Nat) (keep : Bool) (t : Nat) (sp : Value) : Prop where
  blk : OB wr ob ⟨#[]⟩ 0 sp keep
  row : wr.ownsRow 0 3 1 sp t (spV (List.replicate t (-1)))
  new : ∀ g, sp.ownBlock = some g → w.heap.size ≤ g ∧ g ≠ ob
  keep : Keeps [] w wr
theorem OW.step {w wr w3 : World} {ob t g2 cap : Nat} {keep : Bool} {sp : Value} {o : Obj} (L : OW w wr ob keep t sp) (hob : w.heap.size ≤ ob) (hown : w3.ownsRow 0 3 1 (.slice (some ⟨g2, 0, none⟩) (t + 1) cap) (t + 1) (spV (List.replicate t (-1)) ++ [.int .i64 (-1)])) (hgrow : (wr.alloc o).grownBy w3 sp.ownBlock) (hat : sp.ownBlock = some g2 ∨ g2 = wr.heap.size + 1) :
    OW w (w3.setCell ⟨ob, 2, none⟩ (.slice (some ⟨g2, 0, none⟩) (t + 1) cap)) ob keep (t + 1) (.slice (some ⟨g2, 0, none⟩) (t + 1) cap) := by
  have hsz := L.keep.size
  have hol := L.blk.lt
  have hk2 : Keeps [] wr (wr.alloc o) := (Keeps.refl [] wr).alloc o
  have hk3 : Keeps sp.ownBlock.toList wr w3 := ⟨hgrow.os.trans hk2.os, hgrow.tape.trans hk2.tape, hgrow.output.trans hk2.output, Nat.le_trans hk2.size hgrow.size, fun k hk hn => (hgrow.block k (Nat.lt_of_lt_of_le hk hk2.size) (fun e => hn (by rw [← e]; simp))).trans (hk2.block k hk (by simp))⟩
  have hg2 : w.heap.size ≤ g2 ∧ g2 ≠ ob := by
    rcases hat with h | h
    · exact L.new g2 h
    · omega
  have hO3 : OB w3 ob ⟨#[]⟩ 0 sp keep := L.blk.keep' hk3 (by intro hm; simp at hm; exact (L.new ob hm).2 rfl)
  have hkS : Keeps [ob] w3 (w3.setCell ⟨ob, 2, none⟩ (.slice (some ⟨g2, 0, none⟩) (t + 1) cap)) := (Keeps.refl [ob] w3).setCell (p := ⟨ob, 2, none⟩) (by simp) _
  refine ⟨?_, ?_, ?_, ?_⟩
  · unfold OB at *
    simp [World.setCell, Array.getElem?_modify, hO3]
  · have e : spV (List.replicate (t + 1) (-1)) = spV (List.replicate t (-1)) ++ [.int .i64 (-1)] := by simp [spV, List.replicate_succ']
    rw [e]
    exact hown.keep hkS (by intro g hg; simp only [Value.ownBlock, Option.some.injEq] at hg; subst hg; simp; exact hg2.2)
  · intro g hg
    simp only [Value.ownBlock, Option.some.injEq] at hg
    subst hg
    exact hg2
  · refine keepsM (keepsM L.keep hk3 ?_) hkS ?_
    · intro x hx
      simp at hx
      exact Or.inr (L.new x hx).1
    · intro x hx
      simp at hx
      subst hx
      exact Or.inr hob
theorem infoInt1 : (Tryz.prog.info? 3).map (fun i => (i.zero, i.size, i.bytes)) = some (some (.int .i64 0), 1, 8) := by kernel_rfl
set_option maxRecDepth 100000 in
set_option maxHeartbeats 2000000 in
theorem of_any (s : ByteArray) (nds : List Nd) (hn : nds.length ≤ 1000) (k : Nat) (hk : NK nds 1000 k) (w : World) (b bp : Nat) (p : PS) (D : List Nat) (E : Value) (h : TX w b bp s p nds D E []) (hroot : Hid (p.root = k)) (hgr : p.gr ≤ 9)
    (i j : Nat) (keep : Bool) (t : List UInt8) (ev : List (Nat × Nat × Nat)) (HT : Hid (TN s nds p.gr (.node k) i j t ev)) (HM : Hid (MN s nds (.node k) i j)) (hj : j ≤ s.size) (hlen : t.length ≤ 4611686018427387904) :
    Calls Tryz.prog 49 #[.pointer (some ⟨b, 0, none⟩), .int .i64 i, .int .i64 j, .bool keep] w fun e w' => ∃ ob sp, e = .returned (.pointer (some ⟨ob, 0, none⟩)) ∧ TS w' b bp s p nds D E ob sp keep p.gr t (evs (List.replicate (2 * p.gr) (-1)) ev) ∧ Keeps D w w' := by
  obtain ⟨i0, hi0, hz0, hz1, hz2⟩ := info_parts infoInt1
  have hun := Tryz.underlying32
  have hbl := h.xb.lt
  have hpl : bp < w.heap.size := (Array.getElem?_eq_some_iff.1 h.pb).1
  obtain ⟨x0, _, _, _⟩ := h.xb.main
  obtain ⟨r2, _⟩ := h.pb.rbe
  obtain ⟨r5, _⟩ := h.pb.gd
  have hg9 : (p.gr : Int) ≤ 9 := by omega
  have HX : Hid (TX w b bp s p nds D E []) := h
  have hL0 : OW w (w.alloc (.cells #[.string ⟨#[]⟩, .int .i64 0, .slice none 0 0, .bool keep] 106)) w.heap.size keep 0 (.slice none 0 0) :=
    ⟨heap_alloc_new w _, World.ownsRow_nil _ _ _ _, by simp [Value.ownBlock], (Keeps.refl [] w).alloc _⟩
  clear h
  go_enter Tryz.func49, Tryz.ntmps49
  go_upto_region 3 with (fail)
  generalize (w.alloc (.cells #[.string ⟨#[]⟩, .int .i64 0, .slice none 0 0, .bool keep] 106)) = W at *
  obtain ⟨ob, hoe⟩ : ∃ ob, ob = w.heap.size := ⟨_, rfl⟩
  rw [← hoe] at hL0 ⊢
  have hob : w.heap.size ≤ ob := by omega
  have hob2 : ob ≠ b ∧ ob ≠ bp := by omega
  clear hoe
  have hwg : IntKind.i64.wrap (2 * (p.gr : Int)) = 2 * (p.gr : Int) := wrap_small (by omega) (by omega)
  go_loopw [10] (fun q wr => ∃ (m : Nat) (sp : Value), m ≤ 2 * p.gr ∧ q = .int .i64 m ∧ OW w wr ob keep m sp) (fun q _ => 2 * p.gr - (intOf q).toNat)
  case atStart => exact ⟨0, _, by omega, rfl, hL0⟩
  case round =>
    clear hL0
    obtain ⟨m, sp, hm, rfl, L⟩ := hrel
    have y0 := (World.cell?_of_block (L.keep.block b hbl (by simp))).trans x0
    have y5 := (World.cell?_of_block (L.keep.block bp hpl (by simp))).trans r5
    have y2 := (World.cell?_of_block (L.keep.block bp hpl (by simp))).trans r2
    by_cases hml : m < 2 * p.gr
    · have hm1 : (m : Int) < 2 * (p.gr : Int) := by omega
      have HMM : Hid (m < 2 * p.gr) := hml
      obtain ⟨_, _, z2, _, _, _⟩ := L.blk.main
      have hnews : ∀ (j : Nat) (u : Value), [Value.int .i64 (-1)][j]? = some u → (wr.alloc (.cells #[.int .i64 (-1)] 3)).cell? ((⟨wr.heap.size, 0, none⟩ : Addr).add j) = some u := World.news_of_block (cs := #[.int .i64 (-1)]) (heap_alloc_new wr _)
      have hlm : m + 1 ≤ maxLen := by unfold maxLen; omega
      have HL : Hid (OW w wr ob keep m sp) := L
      have hF : wr.frozen? ⟨ob, 2, none⟩ = false := by have hx := L.blk; unfold OB at hx; simp [World.frozen?, hx]
      have HNE : Hid (some ob ≠ sp.ownBlock) := fun e => (L.new ob e.symm).2 rfl
      have HOL : Hid (ob < wr.heap.size) := L.blk.lt
      clear L hm hml y2
      go_wp2_with (first | (at_builtin; refine wpList_append_lies _ rfl _ _ _ rfl 0 3 i0 _ 1 8 hun hi0 hz0 hz1 hz2 rfl (by decide) sp m _ rfl (HL.out.row.alloc _) ⟨wr.heap.size, 0, none⟩ 1 1 [.int .i64 (-1)] rfl rfl hnews (by simp [Value.oneCell']) (by omega) hlm (by have := HMM.out; omega) (Nat.zero_le _) (wr.heap.size + 1) (by simp) ?_; intro g2 cap w3 hown3 hgr3 hat hlt3; have hcz : w3.cell? ⟨ob, 2, none⟩ = some sp := ((hgr3.cell_far ⟨ob, 2, none⟩ (by have := HOL.out; simp; omega) HNE.out).trans (World.cell?_alloc_old wr _ ⟨ob, 2, none⟩ (by have := HOL.out; simp; omega))).trans z2; have hfz : w3.frozen? ⟨ob, 2, none⟩ = false := ((hgr3.frozen_far ⟨ob, 2, none⟩ (by have := HOL.out; simp; omega) HNE.out).trans (World.frozen?_alloc_old wr _ ⟨ob, 2, none⟩ (by have := HOL.out; simp; omega))).trans hF))
      have hst := OW.step HL.out hob hown3 hgr3 hat
      exact ⟨⟨m + 1, _, HMM.out, by go_num, hst⟩, by have := HMM.out; simp [intOf]; omega⟩
    · have hme : m = 2 * p.gr := by omega
      have hnm : ¬ (m : Int) < 2 * (p.gr : Int) := by omega
      subst hme
      have hT : TS wr b bp s p nds D E ob sp keep p.gr [] (List.replicate (2 * p.gr) (-1)) := by
        refine ⟨(HX.out.less (Z' := ob :: sp.ownBlock.toList) ?_).keep L.keep (by simp), ⟨_, L.blk, by decide, fun _ _ => rfl⟩, L.row, fun e => (L.new ob e).2 rfl⟩
        intro x hx
        rcases List.mem_cons.1 hx with rfl | hx
        · exact Or.inr hob
        · exact Or.inr (L.new x (by simpa using hx)).1
      have hkL := L.keep
      have HSP : Hid (∀ x, x ∈ tsB ob sp D → x ∈ D ∨ w.heap.size ≤ x) := by
        intro x hx
        simp only [tsB, List.mem_cons, List.mem_append, Option.mem_toList] at hx
        rcases hx with rfl | hx | hx
        · exact Or.inr hob
        · exact Or.inr (L.new x hx).1
        · exact Or.inl hx
      rw [hroot.out] at y2
      clear L hm hml
      go_wp2_with fail
      refine (tree_all s nds hn 1000 (Nat.le_refl _) k hk wr b bp p D E ob sp keep p.gr [] _ i j t ev hT HT.out HM.out hj hgr (by simpa using hlen)).mono ?_
      rintro e w4 ⟨rfl, hS4, hk4⟩
      rw [List.nil_append] at hS4
      have hkE : Keeps D w w4 := keepsM (hkL.mono (by simp)) hk4 HSP.out
      clear hT hk4 y0 y5 y2
      go_wp2_with fail
      go_ret
      exact ⟨ob, sp, rfl, hS4, hkE⟩
end Go.Proofs.YtnfojonmohijpaaGreatDoor
namespace Go.Proofs.YtnfojonmohijpaaGreatDoor
open Go.RowKit
theorem wn_wl : ∀ {x : Pat}, shp x .ways → (wl x).length = x.wn
  | .wone x, _ => rfl
  | .wcons x r, h => by
    have h1 := wn_wl (x := r) h.2
    have h2 : (Pat.wcons x r).wn = r.wn + 1 := rfl
    rw [h2, ← h1]
    rfl
  | .pnil, h => h.elim
  | .pcons _ _, h => h.elim
  | .set _, h => h.elim
  | .grp _ _, h => h.elim
  | .rep _ _ _, h => h.elim
theorem thin_thn : ∀ {x : Pat} {kd : Kd}, shp x kd → x.thin → x.thn := by
  intro x
  induction x with
  | set f => intro _ _ _; trivial
  | grp k x ih =>
    intro kd hs ht
    have hx : shp x .ways := by cases kd <;> first | exact hs | exact hs.elim
    exact ih hx ht
  | rep mn mx x ih =>
    intro kd hs ht
    have hx : shp x .single := by cases kd <;> first | exact hs.2.2.2 | exact hs.elim
    exact ih hx ht
  | pnil => intro _ _ _; trivial
  | pcons x r ih1 ih2 =>
    intro kd hs ht
    have hx : shp x .piece ∧ shp r .way := by cases kd <;> first | exact hs | exact hs.elim
    exact ⟨ih1 hx.1 ht.1, ih2 hx.2 ht.2⟩
  | wone x ih =>
    intro kd hs ht
    have hx : shp x .way := by cases kd <;> first | exact hs | exact hs.elim
    exact ih hx ht
  | wcons x r ih1 ih2 =>
    intro kd hs ht
    have hx : shp x .way ∧ shp r .ways := by cases kd <;> first | exact hs | exact hs.elim
    exact ⟨by rw [← wn_wl hx.2]; exact ht.1, ih1 hx.1 ht.2.1, ih2 hx.2 ht.2.2⟩
theorem PatR.all {s : ByteArray} {W : Whole} {j : Nat} (hs : s.size ≤ 60) (h : PatR s (.ok W j)) : shp W.x .ways ∧ W.x.sz < 1000 ∧ W.x.fair W.g ∧ W.x.fair 9 ∧ W.x.thn ∧ W.g ≤ 9 ∧ W.x.dep ≤ 7 := by
  obtain ⟨g1, g2, g3⟩ := h.good hs
  obtain ⟨qw, hG, hqe⟩ := h
  cases qw with
  | bad l => cases hqe
  | ok xg l =>
    obtain ⟨x, g⟩ := xg
    have hwi : wi s ≤ s.size := by
      unfold wi
      by_cases h : at' s 0 = 94
      · rw [if_pos h]; exact at'_nn (by omega)
      · rw [if_neg h]; exact Nat.zero_le _
    have h1 := hG.shp x g l rfl
    have h2 := endOf_le hG hwi
    obtain ⟨_, f2, f3, f4⟩ := hG.fair (by omega) (by omega) x g l rfl
    rw [PatE_ok] at hqe
    by_cases hc : 0 ≤ at' s (if at' s l = 36 then l + 1 else l)
    · rw [if_pos hc] at hqe; cases hqe
    · rw [if_neg hc] at hqe
      cases hqe
      simp only [szL, szR, endOf, depM] at h1 h2 f4
      exact ⟨h1.1, by show x.sz < 1000; omega, f3, g1, thin_thn h1.1 g2, g3, by show x.dep ≤ 7; omega⟩
end Go.Proofs.YtnfojonmohijpaaGreatDoor
namespace Go.Proofs.YtnfojonmohijpaaGreatDoor
open Go.RowKit
def IS (w : World) (lo : Nat) (v : Value) : Option (List Int) → Prop
  | none => v = .slice none 0 0
  | some l => w.ownsRow lo 3 1 v l.length (spV l)
theorem IS.keep {w w' : World} {lo : Nat} {v : Value} {ans : Option (List Int)} (h : IS w lo v ans) (hk : Keeps [] w w') : IS w' lo v ans := by
  cases ans with
  | none => exact h
  | some l => exact World.ownsRow.keep h hk (by simp)
structure KP (nds : List Nd) (p : PS) (W : Whole) : Prop where
  shp : shp W.x .ways
  sz : W.x.sz < 1000
  fair : W.x.fair W.g
  fair9 : W.x.fair 9
  thn : W.x.thn
  g9 : W.g ≤ 9
  dep : W.x.dep ≤ 7
  bg : p.bg = W.bg
  en : p.en = W.en
  gr : p.gr = W.g
  rep : repK nds .ways W.x p.root
theorem KP.nk {nds : List Nd} {p : PS} {W : Whole} (h : KP nds p W) : NK nds 1000 p.root := ⟨.ways, W.x, h.rep, h.shp, h.sz, h.fair9, h.thn⟩
theorem KP.iff {nds : List Nd} {p : PS} {W : Whole} (h : KP nds p W) {s : ByteArray} {i j : Nat} : Mt s W.x i j ↔ MN s nds (.node p.root) i j := by
  obtain ⟨lw, hr1, hr2⟩ := h.rep
  rw [show Mt s W.x i j ↔ ∃ d, d ∈ lw ∧ MN s nds (.node d) i j from rep_Mt h.shp hr1]
  exact hr2.alt_iff
theorem KP.tree {nds : List Nd} {p : PS} {W : Whole} (h : KP nds p W) {s : ByteArray} {i j : Nat} (hm : MN s nds (.node p.root) i j) (hj : j ≤ 100) : ∃ t ev, TN s nds p.gr (.node p.root) i j t ev ∧ TR s (.node W.x) i j t ev ∧ t.length ≤ 300000000000000 := by
  obtain ⟨t, ev, hT⟩ := tn_total (g := p.gr) 1000 h.rep h.shp (by rw [h.gr]; exact h.fair) (Nat.le_of_lt h.sz) hm
  have hR : TR s (.node W.x) i j t ev := hT.toTR (kd := .ways) h.rep h.shp
  exact ⟨t, ev, hT, hR, tree_len hR (h.iff.2 hm) h.shp h.dep (Nat.le_of_lt h.sz) hj⟩
theorem spV_app (a b : List Int) : spV (a ++ b) = spV a ++ spV b := by simp [spV]
theorem spV_len (a : List Int) : (spV a).length = a.length := by simp [spV]
theorem PB.be {w : World} {b : Nat} {p : PS} (h : PB w b p) : w.cell? ⟨b, 3, none⟩ = some (.bool p.bg) ∧ w.cell? ⟨b, 4, none⟩ = some (.bool p.en) := ⟨h.rbe.2.1, h.rbe.2.2.1⟩
theorem FindA.some' {s : ByteArray} {W : Whole} {fr i j : Nat} {t : List UInt8} {ev : List (Nat × Nat × Nat)} (h : FirstAt s W fr i j) (hR : TR s (.node W.x) i j t ev) : FindA s W fr (some ([(i : Int), (j : Int)] ++ evs (List.replicate (2 * W.g) (-1)) ev)) := Or.inr ⟨i, j, t, ev, h, hR, rfl⟩
set_option maxRecDepth 100000 in
set_option maxHeartbeats 4000000 in
theorem find_any (s : ByteArray) (N : Nat) (HN : Hid (N = s.size + 1)) (nds : List Nd) (hn : nds.length ≤ 1000) (W : Whole) (w : World) (b bp : Nat) (p : PS) (D : List Nat) (E : Value) (h : TX w b bp s p nds D E []) (HK : Hid (KP nds p W)) (fr : Nat) (hfr : fr ≤ s.size) :
    Calls Tryz.prog 92 #[.pointer (some ⟨b, 0, none⟩), .int .i64 fr] w fun e w' => ∃ v ans, e = .returned v ∧ FindA s W fr ans ∧ IS w' w.heap.size v ans ∧ Keeps D w w' := by
  obtain ⟨i0, hi0, hz0, hz1, hz2⟩ := info_parts infoInt1
  have hun := Tryz.underlying32
  have hs := h.small
  have HX : Hid (TX w b bp s p nds D E []) := h
  have hs' : (s.size : Int) ≤ 100 := by omega
  clear h
  go_enter Tryz.func92, Tryz.ntmps92
  go_upto_region 2 with (fail)
  go_loopw [5] (fun q wr => ∃ i : Nat, q = .int .i64 i ∧ fr ≤ i ∧ i ≤ s.size + 1 ∧ (∀ i' j', fr ≤ i' → i' < i → i' ≤ j' → j' ≤ s.size → ¬ OkAt s W i' j') ∧ TX wr b bp s p nds D E [] ∧ Keeps D w wr) (fun q _ => s.size + 1 - (intOf q).toNat)
  case atStart => exact ⟨fr, rfl, Nat.le_refl _, by omega, fun i' j' h1 h2 => by omega, HX.out, Keeps.refl _ _⟩
  case round =>
    obtain ⟨i, rfl, hfi, his, hno, hT, hkD⟩ := hrel
    obtain ⟨x0, x1, _, _⟩ := hT.xb.main
    obtain ⟨x3, x4⟩ := hT.pb.be
    have x2 := hT.pb.rbe.1
    by_cases hil : i ≤ s.size
    rotate_left
    · have hil' : ¬ (i : Int) ≤ (s.size : Int) := by omega
      have HF : Hid (FindA s W fr none) := Or.inl ⟨rfl, fun i' j' h1 h2 h3 => hno i' j' h1 (by omega) h2 h3⟩
      clear hno hil his x2 x3 x4 hT
      go_wp2_with fail
      go_ret
      exact ⟨_, rfl, none, HF.out, rfl, hkD⟩
    have hil' : (i : Int) ≤ (s.size : Int) := by omega
    have HNO : Hid (∀ i' j', fr ≤ i' → i' < i → i' ≤ j' → j' ≤ s.size → ¬ OkAt s W i' j') := hno
    have HFI : Hid (fr ≤ i ∧ i ≤ s.size ∧ s.size ≤ 100) := ⟨hfi, hil, hs⟩
    have HKB : Hid (p.bg = W.bg) := HK.out.bg
    have HKE : Hid (p.en = W.en) := HK.out.en
    clear hno hil his hfi
    cases hb : p.bg
    · rw [hb] at x3
      have HBI : Hid (W.bg = true → i = 0) := fun hw => by rw [← HKB.out, hb] at hw; cases hw
      clear hb
      go_wp2_with fail
      refine (ends_all s nds hn 1000 (Nat.le_refl _) p.root HK.out.nk wr b bp p D E [] i hT (by simp) HFI.out.2.1).mono ?_
      rintro e w3 ⟨v, rfl, hEA, hT3, hk3⟩
      have hkD3 := hkD.trans hk3
      obtain ⟨x, c, fe, hve, hRe, hxD, _, hsay⟩ := hEA
      rw [← HN.out] at hve hRe
      subst hve
      have HSY : Hid (∀ q, q ≤ s.size → (fe q = true ↔ Mt s W.x i q)) := fun q hq => (hsay q hq).trans HK.out.iff.symm
      clear hsay hk3 hkD x0 x1 x2 x3 x4 hT
      obtain ⟨y0, y1, _, _⟩ := hT3.xb.main
      obtain ⟨y3, y4⟩ := hT3.pb.be
      obtain ⟨wr0, hwr0⟩ : ∃ wr0 : World, wr0 = wr := ⟨_, rfl⟩
      subst hwr0
      go_wp2_with fail
      go_loopw [7] (fun q wq => ∃ z : Nat, q = .int .i64 ((z : Int) - 1) ∧ i ≤ z ∧ z ≤ s.size + 1 ∧ (∀ j', z ≤ j' → j' ≤ s.size → ¬ OkAt s W i j') ∧ wq = w3) (fun q _ => (intOf q + 1).toNat - i)
      case atStart => exact ⟨s.size + 1, by rw [show ((s.size + 1 : Nat) : Int) - 1 = (s.size : Int) by omega], by have := HFI.out; omega, Nat.le_refl _, fun j' h1 h2 => by omega, rfl⟩
      case round =>
        obtain ⟨z, rfl, hz1, hz2, hno2, rfl⟩ := hrel
        by_cases hzi : i < z
        rotate_left
        · have hze : z = i := by omega
          subst hze
          have hnz : ¬ (z : Int) ≤ (z : Int) - 1 := by omega
          have HN2 : Hid (∀ i' j', fr ≤ i' → i' < z + 1 → i' ≤ j' → j' ≤ s.size → ¬ OkAt s W i' j') := fun i' j' h1 h2 h3 h4 hok => by
            by_cases hlt : i' < z
            · exact HNO.out i' j' h1 hlt h3 h4 hok
            · have he : i' = z := by omega
              subst he
              exact hno2 j' h3 h4 hok
          clear hno2 hzi hz1 hz2 hRe
          go_wp2_with fail
          first
            | exact ⟨⟨z + 1, by go_num, by have := HFI.out; omega, by have := HFI.out; omega, HN2.out, hT3, hkD3⟩, by have := HFI.out; simp [intOf]; omega⟩
            | (go_roundw
               case rel => exact ⟨z + 1, by go_num, by have := HFI.out; omega, by have := HFI.out; omega, HN2.out, hT3, hkD3⟩
               case measure => have := HFI.out; simp [intOf]; omega)
        obtain ⟨j, rfl⟩ : ∃ j, z = j + 1 := ⟨z - 1, by omega⟩
        have hq : ((j + 1 : Nat) : Int) - 1 = (j : Int) := by omega
        rw [hq]
        have hji : (i : Int) ≤ (j : Int) := by omega
        have hj0 : (0 : Int) ≤ (j : Int) := by omega
        have hjN : (j : Int) < (N : Int) := by have := HN.out; omega
        have hcz := hRe.at (j := j) (by have := HN.out; omega)
        have HJ : Hid (i ≤ j ∧ j ≤ s.size) := ⟨by omega, by omega⟩
        have HNO2 : Hid (∀ j', j + 1 ≤ j' → j' ≤ s.size → ¬ OkAt s W i j') := hno2
        have HSJ : Hid (fe j = true ↔ Mt s W.x i j) := HSY.out j (by omega)
        have hsub : IntKind.i64.wrap ((j : Int) - 1) = (j : Int) - 1 := wrap_any (by omega) (by have := HFI.out; omega)
        clear hno2 hzi hz1 hz2 hq
        cases hf : fe j
        · rw [hf] at hcz
          have HN3 : Hid (∀ j', j ≤ j' → j' ≤ s.size → ¬ OkAt s W i j') := fun j' h1 h2 hok => by
            by_cases he : j' = j
            · subst he; have := HSJ.out.2 hok.1; rw [hf] at this; cases this
            · exact HNO2.out j' (by omega) h2 hok
          clear hf
          go_wp2_with fail
          first
            | exact ⟨⟨j, rfl, HJ.out.1, by have := HJ.out; omega, HN3.out, by first | rfl | trivial⟩, by have := HJ.out; simp [intOf]; omega⟩
            | (go_roundw
               case rel => exact ⟨j, rfl, HJ.out.1, by have := HJ.out; omega, HN3.out, by first | rfl | trivial⟩
               case measure => have := HJ.out; simp [intOf]; omega)
        rw [hf] at hcz
        cases he : p.en
        · rw [he] at y4
          have HOK : Hid (OkAt s W i j) := ⟨HSJ.out.1 hf, HBI.out, fun hw => by rw [← HKE.out, he] at hw; cases hw⟩
          clear hf he
          have hM := HK.out.iff.1 HOK.out.1
          obtain ⟨t, ev, hTN, hTR, htl⟩ := HK.out.tree hM (by have := HJ.out; have := HFI.out; omega)
          have HFA : Hid (FindA s W fr (some ([(i : Int), (j : Int)] ++ evs (List.replicate (2 * p.gr) (-1)) ev))) := by
            show FindA s W fr _
            rw [HK.out.gr]
            exact FindA.some' ⟨HFI.out.1, HJ.out.1, HJ.out.2, HOK.out, HNO.out, fun j' h1 h2 => HNO2.out j' h1 h2⟩ hTR
          have hg9 : p.gr ≤ 9 := by rw [HK.out.gr]; exact HK.out.g9
          go_wp2_with fail
          refine (of_any s nds hn p.root HK.out.nk wr b bp p D E hT3 rfl hg9 i j false t ev hTN hM HJ.out.2 (by omega)).mono ?_
          rintro e w4 ⟨ob, sp, rfl, hS4, hk4⟩
          have hkD4 := hkD3.trans hk4
          obtain ⟨out, hOB, _, _⟩ := hS4.ot
          have c2 := hOB.main.2.2.1
          have hrow := hS4.row
          have hlen := hS4.len
          have hol := hS4.ot.lt
          have hlo : w.heap.size ≤ w4.heap.size := hkD4.size
          have hnewO := heap_alloc_new w4 (.cells #[.int .i64 (i : Int), .int .i64 (j : Int)] 3)
          have hkA : Keeps [] w4 (w4.alloc (.cells #[.int .i64 (i : Int), .int .i64 (j : Int)] 3)) := (Keeps.refl [] w4).alloc _
          have hkD5 := hkD4.trans (hkA.mono (by simp))
          have hown2 : (w4.alloc (.cells #[.int .i64 (i : Int), .int .i64 (j : Int)] 3)).ownsRow w.heap.size 3 1 (.slice (some ⟨w4.heap.size, 0, none⟩) 2 2) 2 [.int .i64 (i : Int), .int .i64 (j : Int)] := ⟨rfl, Or.inr ⟨w4.heap.size, 2, _, rfl, hlo, hnewO, Nat.le_refl _, by unfold maxLen; omega, rfl, rfl⟩⟩
          have hrow5 := hrow.keep hkA (by simp)
          have c25 := (World.cell?_of_block (hkA.block ob hol (by simp))).trans c2
          clear hOB hk4 hT3 hkD3 y0 y1 y3 y4 hcz hRe hTN hTR htl hM c2 hS4 hrow hol hkD4
          by_cases hg0 : p.gr = 0
          · have HA0 : Hid (evs (List.replicate (2 * p.gr) (-1)) ev = []) := List.length_eq_zero_iff.1 (by rw [hlen, hg0])
            rcases hrow5.2 with ⟨hsp, _⟩ | ⟨sb, cap, cur, hsp, _⟩
            · subst hsp
              go_wp2_with fail
              go_ret
              exact ⟨_, _, rfl, HFA.out, by rw [HA0.out]; exact hown2, hkD5⟩
            · rw [hg0, Nat.mul_zero] at hsp
              subst hsp
              go_wp2_with fail
              go_ret
              exact ⟨_, _, rfl, HFA.out, by rw [HA0.out]; exact hown2, hkD5⟩
          · obtain ⟨sb, cap, hsp, _, hsb⟩ := World.ownsRow.form hrow5 (by omega)
            have HNW : Hid (∀ q u, (spV (evs (List.replicate (2 * p.gr) (-1)) ev))[q]? = some u → (w4.alloc (.cells #[.int .i64 (i : Int), .int .i64 (j : Int)] 3)).cell? ((⟨sb, 0, none⟩ : Addr).add q) = some u) := fun q u hu => World.ownsRow.cells hrow5 (by rw [hsp]; rfl) q u hu
            have HL5 : Hid ((spV (evs (List.replicate (2 * p.gr) (-1)) ev)).length = 2 * p.gr * 1) := by show (spV _).length = _; rw [spV_len, hlen]; omega
            subst hsp
            go_wp2_with (first | (at_builtin; refine wpList_append_lies _ rfl _ _ _ rfl w.heap.size 3 i0 _ 1 8 hun hi0 hz0 hz1 hz2 rfl (by decide) (.slice (some ⟨w4.heap.size, 0, none⟩) 2 2) 2 _ rfl hown2 ⟨sb, 0, none⟩ (2 * p.gr) cap (spV (evs (List.replicate (2 * p.gr) (-1)) ev)) rfl HL5.out HNW.out (by intro u hu; simp only [spV, List.mem_map] at hu; obtain ⟨q, _, rfl⟩ := hu; rfl) (by omega) (by unfold maxLen; omega) (by omega) (by simp; omega) (w4.heap.size + 1) (by simp) ?_; intro g2 cap2 w6 hown6 hgr6 hat6 hlt6))
            have hkD6 : Keeps D w w6 := keepsM hkD5 (S := [w4.heap.size]) ⟨hgr6.os, hgr6.tape, hgr6.output, hgr6.size, fun k hk hnk => hgr6.block k hk (by intro e; apply hnk; simp only [Value.ownBlock, Option.some.injEq] at e; simp [e])⟩ (by intro x hx; simp at hx; exact Or.inr (by omega))
            have hIS : IS w6 w.heap.size (.slice (some ⟨g2, 0, none⟩) (2 + 2 * p.gr) cap2) (some ([(i : Int), (j : Int)] ++ evs (List.replicate (2 * p.gr) (-1)) ev)) := by
              show w6.ownsRow _ _ _ _ _ _
              rw [spV_app, show ([(i : Int), (j : Int)] ++ evs (List.replicate (2 * p.gr) (-1)) ev).length = 2 + 2 * p.gr by rw [List.length_append, hlen]; rfl]
              exact hown6
            clear hown6 hgr6 hat6 hlt6
            go_ret
            exact ⟨_, _, rfl, HFA.out, hIS, hkD6⟩
        rw [he] at y4
        by_cases hjs : j = s.size
        · have hjb : ((j : Int) == (s.size : Int)) = true := by simpa using (by omega : (j : Int) = (s.size : Int))
          have HOK : Hid (OkAt s W i j) := ⟨HSJ.out.1 hf, HBI.out, fun _ => hjs⟩
          clear hf he hjs
          have hM := HK.out.iff.1 HOK.out.1
          obtain ⟨t, ev, hTN, hTR, htl⟩ := HK.out.tree hM (by have := HJ.out; have := HFI.out; omega)
          have HFA : Hid (FindA s W fr (some ([(i : Int), (j : Int)] ++ evs (List.replicate (2 * p.gr) (-1)) ev))) := by
            show FindA s W fr _
            rw [HK.out.gr]
            exact FindA.some' ⟨HFI.out.1, HJ.out.1, HJ.out.2, HOK.out, HNO.out, fun j' h1 h2 => HNO2.out j' h1 h2⟩ hTR
          have hg9 : p.gr ≤ 9 := by rw [HK.out.gr]; exact HK.out.g9
          go_wp2_with fail
          refine (of_any s nds hn p.root HK.out.nk wr b bp p D E hT3 rfl hg9 i j false t ev hTN hM HJ.out.2 (by omega)).mono ?_
          rintro e w4 ⟨ob, sp, rfl, hS4, hk4⟩
          have hkD4 := hkD3.trans hk4
          obtain ⟨out, hOB, _, _⟩ := hS4.ot
          have c2 := hOB.main.2.2.1
          have hrow := hS4.row
          have hlen := hS4.len
          have hol := hS4.ot.lt
          have hlo : w.heap.size ≤ w4.heap.size := hkD4.size
          have hnewO := heap_alloc_new w4 (.cells #[.int .i64 (i : Int), .int .i64 (j : Int)] 3)
          have hkA : Keeps [] w4 (w4.alloc (.cells #[.int .i64 (i : Int), .int .i64 (j : Int)] 3)) := (Keeps.refl [] w4).alloc _
          have hkD5 := hkD4.trans (hkA.mono (by simp))
          have hown2 : (w4.alloc (.cells #[.int .i64 (i : Int), .int .i64 (j : Int)] 3)).ownsRow w.heap.size 3 1 (.slice (some ⟨w4.heap.size, 0, none⟩) 2 2) 2 [.int .i64 (i : Int), .int .i64 (j : Int)] := ⟨rfl, Or.inr ⟨w4.heap.size, 2, _, rfl, hlo, hnewO, Nat.le_refl _, by unfold maxLen; omega, rfl, rfl⟩⟩
          have hrow5 := hrow.keep hkA (by simp)
          have c25 := (World.cell?_of_block (hkA.block ob hol (by simp))).trans c2
          clear hOB hk4 hT3 hkD3 y0 y1 y3 y4 hcz hRe hTN hTR htl hM c2 hS4 hrow hol hkD4
          by_cases hg0 : p.gr = 0
          · have HA0 : Hid (evs (List.replicate (2 * p.gr) (-1)) ev = []) := List.length_eq_zero_iff.1 (by rw [hlen, hg0])
            rcases hrow5.2 with ⟨hsp, _⟩ | ⟨sb, cap, cur, hsp, _⟩
            · subst hsp
              go_wp2_with fail
              go_ret
              exact ⟨_, _, rfl, HFA.out, by rw [HA0.out]; exact hown2, hkD5⟩
            · rw [hg0, Nat.mul_zero] at hsp
              subst hsp
              go_wp2_with fail
              go_ret
              exact ⟨_, _, rfl, HFA.out, by rw [HA0.out]; exact hown2, hkD5⟩
          · obtain ⟨sb, cap, hsp, _, hsb⟩ := World.ownsRow.form hrow5 (by omega)
            have HNW : Hid (∀ q u, (spV (evs (List.replicate (2 * p.gr) (-1)) ev))[q]? = some u → (w4.alloc (.cells #[.int .i64 (i : Int), .int .i64 (j : Int)] 3)).cell? ((⟨sb, 0, none⟩ : Addr).add q) = some u) := fun q u hu => World.ownsRow.cells hrow5 (by rw [hsp]; rfl) q u hu
            have HL5 : Hid ((spV (evs (List.replicate (2 * p.gr) (-1)) ev)).length = 2 * p.gr * 1) := by show (spV _).length = _; rw [spV_len, hlen]; omega
            subst hsp
            go_wp2_with (first | (at_builtin; refine wpList_append_lies _ rfl _ _ _ rfl w.heap.size 3 i0 _ 1 8 hun hi0 hz0 hz1 hz2 rfl (by decide) (.slice (some ⟨w4.heap.size, 0, none⟩) 2 2) 2 _ rfl hown2 ⟨sb, 0, none⟩ (2 * p.gr) cap (spV (evs (List.replicate (2 * p.gr) (-1)) ev)) rfl HL5.out HNW.out (by intro u hu; simp only [spV, List.mem_map] at hu; obtain ⟨q, _, rfl⟩ := hu; rfl) (by omega) (by unfold maxLen; omega) (by omega) (by simp; omega) (w4.heap.size + 1) (by simp) ?_; intro g2 cap2 w6 hown6 hgr6 hat6 hlt6))
            have hkD6 : Keeps D w w6 := keepsM hkD5 (S := [w4.heap.size]) ⟨hgr6.os, hgr6.tape, hgr6.output, hgr6.size, fun k hk hnk => hgr6.block k hk (by intro e; apply hnk; simp only [Value.ownBlock, Option.some.injEq] at e; simp [e])⟩ (by intro x hx; simp at hx; exact Or.inr (by omega))
            have hIS : IS w6 w.heap.size (.slice (some ⟨g2, 0, none⟩) (2 + 2 * p.gr) cap2) (some ([(i : Int), (j : Int)] ++ evs (List.replicate (2 * p.gr) (-1)) ev)) := by
              show w6.ownsRow _ _ _ _ _ _
              rw [spV_app, show ([(i : Int), (j : Int)] ++ evs (List.replicate (2 * p.gr) (-1)) ev).length = 2 + 2 * p.gr by rw [List.length_append, hlen]; rfl]
              exact hown6
            clear hown6 hgr6 hat6 hlt6
            go_ret
            exact ⟨_, _, rfl, HFA.out, hIS, hkD6⟩
        · have hjb : ((j : Int) == (s.size : Int)) = false := by simpa using (by omega : ¬ (j : Int) = (s.size : Int))
          have HN3 : Hid (∀ j', j ≤ j' → j' ≤ s.size → ¬ OkAt s W i j') := fun j' h1 h2 hok => by
            by_cases hj' : j' = j
            · subst hj'; exact hjs (hok.2.2 (HKE.out.symm.trans he))
            · exact HNO2.out j' (by omega) h2 hok
          clear hf he hjs
          go_wp2_with fail
          first
            | exact ⟨⟨j, rfl, HJ.out.1, by have := HJ.out; omega, HN3.out, by first | rfl | trivial⟩, by have := HJ.out; simp [intOf]; omega⟩
            | (go_roundw
               case rel => exact ⟨j, rfl, HJ.out.1, by have := HJ.out; omega, HN3.out, by first | rfl | trivial⟩
               case measure => have := HJ.out; simp [intOf]; omega)
    · by_cases hi1 : 0 < i
      · have hi1' : (0 : Int) < (i : Int) := by omega
        have HF : Hid (FindA s W fr none) := Or.inl ⟨rfl, fun i' j' h1 h2 h3 hok => by
          by_cases hlt : i' < i
          · exact HNO.out i' j' h1 hlt h2 h3 hok
          · have := hok.2.1 (HKB.out.symm.trans hb); omega⟩
        rw [hb] at x3
        clear x2 x4 hT hb
        go_wp2_with fail
        go_ret
        first | exact ⟨_, rfl, none, HF.out, rfl, hkD⟩ | exact ⟨_, none, rfl, HF.out, rfl, hkD⟩
      · have hni : ¬ (0 : Int) < (i : Int) := by omega
        have HBI : Hid (W.bg = true → i = 0) := fun _ => by omega
        rw [hb] at x3
        clear hb hi1
        go_wp2_with fail
        refine (ends_all s nds hn 1000 (Nat.le_refl _) p.root HK.out.nk wr b bp p D E [] i hT (by simp) HFI.out.2.1).mono ?_
        rintro e w3 ⟨v, rfl, hEA, hT3, hk3⟩
        have hkD3 := hkD.trans hk3
        obtain ⟨x, c, fe, hve, hRe, hxD, _, hsay⟩ := hEA
        rw [← HN.out] at hve hRe
        subst hve
        have HSY : Hid (∀ q, q ≤ s.size → (fe q = true ↔ Mt s W.x i q)) := fun q hq => (hsay q hq).trans HK.out.iff.symm
        clear hsay hk3 hkD x0 x1 x2 x3 x4 hT
        obtain ⟨y0, y1, _, _⟩ := hT3.xb.main
        obtain ⟨y3, y4⟩ := hT3.pb.be
        obtain ⟨wr0, hwr0⟩ : ∃ wr0 : World, wr0 = wr := ⟨_, rfl⟩
        subst hwr0
        go_wp2_with fail
        go_loopw [7] (fun q wq => ∃ z : Nat, q = .int .i64 ((z : Int) - 1) ∧ i ≤ z ∧ z ≤ s.size + 1 ∧ (∀ j', z ≤ j' → j' ≤ s.size → ¬ OkAt s W i j') ∧ wq = w3) (fun q _ => (intOf q + 1).toNat - i)
        case atStart => exact ⟨s.size + 1, by rw [show ((s.size + 1 : Nat) : Int) - 1 = (s.size : Int) by omega], by have := HFI.out; omega, Nat.le_refl _, fun j' h1 h2 => by omega, rfl⟩
        case round =>
          obtain ⟨z, rfl, hz1, hz2, hno2, rfl⟩ := hrel
          by_cases hzi : i < z
          rotate_left
          · have hze : z = i := by omega
            subst hze
            have hnz : ¬ (z : Int) ≤ (z : Int) - 1 := by omega
            have HN2 : Hid (∀ i' j', fr ≤ i' → i' < z + 1 → i' ≤ j' → j' ≤ s.size → ¬ OkAt s W i' j') := fun i' j' h1 h2 h3 h4 hok => by
              by_cases hlt : i' < z
              · exact HNO.out i' j' h1 hlt h3 h4 hok
              · have he : i' = z := by omega
                subst he
                exact hno2 j' h3 h4 hok
            clear hno2 hzi hz1 hz2 hRe
            go_wp2_with fail
            first
              | exact ⟨⟨z + 1, by go_num, by have := HFI.out; omega, by have := HFI.out; omega, HN2.out, hT3, hkD3⟩, by have := HFI.out; simp [intOf]; omega⟩
              | (go_roundw
                 case rel => exact ⟨z + 1, by go_num, by have := HFI.out; omega, by have := HFI.out; omega, HN2.out, hT3, hkD3⟩
                 case measure => have := HFI.out; simp [intOf]; omega)
          obtain ⟨j, rfl⟩ : ∃ j, z = j + 1 := ⟨z - 1, by omega⟩
          have hq : ((j + 1 : Nat) : Int) - 1 = (j : Int) := by omega
          rw [hq]
          have hji : (i : Int) ≤ (j : Int) := by omega
          have hj0 : (0 : Int) ≤ (j : Int) := by omega
          have hjN : (j : Int) < (N : Int) := by have := HN.out; omega
          have hcz := hRe.at (j := j) (by have := HN.out; omega)
          have HJ : Hid (i ≤ j ∧ j ≤ s.size) := ⟨by omega, by omega⟩
          have HNO2 : Hid (∀ j', j + 1 ≤ j' → j' ≤ s.size → ¬ OkAt s W i j') := hno2
          have HSJ : Hid (fe j = true ↔ Mt s W.x i j) := HSY.out j (by omega)
          have hsub : IntKind.i64.wrap ((j : Int) - 1) = (j : Int) - 1 := wrap_any (by omega) (by have := HFI.out; omega)
          clear hno2 hzi hz1 hz2 hq
          cases hf : fe j
          · rw [hf] at hcz
            have HN3 : Hid (∀ j', j ≤ j' → j' ≤ s.size → ¬ OkAt s W i j') := fun j' h1 h2 hok => by
              by_cases he : j' = j
              · subst he; have := HSJ.out.2 hok.1; rw [hf] at this; cases this
              · exact HNO2.out j' (by omega) h2 hok
            clear hf
            go_wp2_with fail
            first
              | exact ⟨⟨j, rfl, HJ.out.1, by have := HJ.out; omega, HN3.out, by first | rfl | trivial⟩, by have := HJ.out; simp [intOf]; omega⟩
              | (go_roundw
                 case rel => exact ⟨j, rfl, HJ.out.1, by have := HJ.out; omega, HN3.out, by first | rfl | trivial⟩
                 case measure => have := HJ.out; simp [intOf]; omega)
          rw [hf] at hcz
          cases he : p.en
          · rw [he] at y4
            have HOK : Hid (OkAt s W i j) := ⟨HSJ.out.1 hf, HBI.out, fun hw => by rw [← HKE.out, he] at hw; cases hw⟩
            clear hf he
            have hM := HK.out.iff.1 HOK.out.1
            obtain ⟨t, ev, hTN, hTR, htl⟩ := HK.out.tree hM (by have := HJ.out; have := HFI.out; omega)
            have HFA : Hid (FindA s W fr (some ([(i : Int), (j : Int)] ++ evs (List.replicate (2 * p.gr) (-1)) ev))) := by
              show FindA s W fr _
              rw [HK.out.gr]
              exact FindA.some' ⟨HFI.out.1, HJ.out.1, HJ.out.2, HOK.out, HNO.out, fun j' h1 h2 => HNO2.out j' h1 h2⟩ hTR
            have hg9 : p.gr ≤ 9 := by rw [HK.out.gr]; exact HK.out.g9
            go_wp2_with fail
            refine (of_any s nds hn p.root HK.out.nk wr b bp p D E hT3 rfl hg9 i j false t ev hTN hM HJ.out.2 (by omega)).mono ?_
            rintro e w4 ⟨ob, sp, rfl, hS4, hk4⟩
            have hkD4 := hkD3.trans hk4
            obtain ⟨out, hOB, _, _⟩ := hS4.ot
            have c2 := hOB.main.2.2.1
            have hrow := hS4.row
            have hlen := hS4.len
            have hol := hS4.ot.lt
            have hlo : w.heap.size ≤ w4.heap.size := hkD4.size
            have hnewO := heap_alloc_new w4 (.cells #[.int .i64 (i : Int), .int .i64 (j : Int)] 3)
            have hkA : Keeps [] w4 (w4.alloc (.cells #[.int .i64 (i : Int), .int .i64 (j : Int)] 3)) := (Keeps.refl [] w4).alloc _
            have hkD5 := hkD4.trans (hkA.mono (by simp))
            have hown2 : (w4.alloc (.cells #[.int .i64 (i : Int), .int .i64 (j : Int)] 3)).ownsRow w.heap.size 3 1 (.slice (some ⟨w4.heap.size, 0, none⟩) 2 2) 2 [.int .i64 (i : Int), .int .i64 (j : Int)] := ⟨rfl, Or.inr ⟨w4.heap.size, 2, _, rfl, hlo, hnewO, Nat.le_refl _, by unfold maxLen; omega, rfl, rfl⟩⟩
            have hrow5 := hrow.keep hkA (by simp)
            have c25 := (World.cell?_of_block (hkA.block ob hol (by simp))).trans c2
            clear hOB hk4 hT3 hkD3 y0 y1 y3 y4 hcz hRe hTN hTR htl hM c2 hS4 hrow hol hkD4
            by_cases hg0 : p.gr = 0
            · have HA0 : Hid (evs (List.replicate (2 * p.gr) (-1)) ev = []) := List.length_eq_zero_iff.1 (by rw [hlen, hg0])
              rcases hrow5.2 with ⟨hsp, _⟩ | ⟨sb, cap, cur, hsp, _⟩
              · subst hsp
                go_wp2_with fail
                go_ret
                exact ⟨_, _, rfl, HFA.out, by rw [HA0.out]; exact hown2, hkD5⟩
              · rw [hg0, Nat.mul_zero] at hsp
                subst hsp
                go_wp2_with fail
                go_ret
                exact ⟨_, _, rfl, HFA.out, by rw [HA0.out]; exact hown2, hkD5⟩
            · obtain ⟨sb, cap, hsp, _, hsb⟩ := World.ownsRow.form hrow5 (by omega)
              have HNW : Hid (∀ q u, (spV (evs (List.replicate (2 * p.gr) (-1)) ev))[q]? = some u → (w4.alloc (.cells #[.int .i64 (i : Int), .int .i64 (j : Int)] 3)).cell? ((⟨sb, 0, none⟩ : Addr).add q) = some u) := fun q u hu => World.ownsRow.cells hrow5 (by rw [hsp]; rfl) q u hu
              have HL5 : Hid ((spV (evs (List.replicate (2 * p.gr) (-1)) ev)).length = 2 * p.gr * 1) := by show (spV _).length = _; rw [spV_len, hlen]; omega
              subst hsp
              go_wp2_with (first | (at_builtin; refine wpList_append_lies _ rfl _ _ _ rfl w.heap.size 3 i0 _ 1 8 hun hi0 hz0 hz1 hz2 rfl (by decide) (.slice (some ⟨w4.heap.size, 0, none⟩) 2 2) 2 _ rfl hown2 ⟨sb, 0, none⟩ (2 * p.gr) cap (spV (evs (List.replicate (2 * p.gr) (-1)) ev)) rfl HL5.out HNW.out (by intro u hu; simp only [spV, List.mem_map] at hu; obtain ⟨q, _, rfl⟩ := hu; rfl) (by omega) (by unfold maxLen; omega) (by omega) (by simp; omega) (w4.heap.size + 1) (by simp) ?_; intro g2 cap2 w6 hown6 hgr6 hat6 hlt6))
              have hkD6 : Keeps D w w6 := keepsM hkD5 (S := [w4.heap.size]) ⟨hgr6.os, hgr6.tape, hgr6.output, hgr6.size, fun k hk hnk => hgr6.block k hk (by intro e; apply hnk; simp only [Value.ownBlock, Option.some.injEq] at e; simp [e])⟩ (by intro x hx; simp at hx; exact Or.inr (by omega))
              have hIS : IS w6 w.heap.size (.slice (some ⟨g2, 0, none⟩) (2 + 2 * p.gr) cap2) (some ([(i : Int), (j : Int)] ++ evs (List.replicate (2 * p.gr) (-1)) ev)) := by
                show w6.ownsRow _ _ _ _ _ _
                rw [spV_app, show ([(i : Int), (j : Int)] ++ evs (List.replicate (2 * p.gr) (-1)) ev).length = 2 + 2 * p.gr by rw [List.length_append, hlen]; rfl]
                exact hown6
              clear hown6 hgr6 hat6 hlt6
              go_ret
              exact ⟨_, _, rfl, HFA.out, hIS, hkD6⟩
          rw [he] at y4
          by_cases hjs : j = s.size
          · have hjb : ((j : Int) == (s.size : Int)) = true := by simpa using (by omega : (j : Int) = (s.size : Int))
            have HOK : Hid (OkAt s W i j) := ⟨HSJ.out.1 hf, HBI.out, fun _ => hjs⟩
            clear hf he hjs
            have hM := HK.out.iff.1 HOK.out.1
            obtain ⟨t, ev, hTN, hTR, htl⟩ := HK.out.tree hM (by have := HJ.out; have := HFI.out; omega)
            have HFA : Hid (FindA s W fr (some ([(i : Int), (j : Int)] ++ evs (List.replicate (2 * p.gr) (-1)) ev))) := by
              show FindA s W fr _
              rw [HK.out.gr]
              exact FindA.some' ⟨HFI.out.1, HJ.out.1, HJ.out.2, HOK.out, HNO.out, fun j' h1 h2 => HNO2.out j' h1 h2⟩ hTR
            have hg9 : p.gr ≤ 9 := by rw [HK.out.gr]; exact HK.out.g9
            go_wp2_with fail
            refine (of_any s nds hn p.root HK.out.nk wr b bp p D E hT3 rfl hg9 i j false t ev hTN hM HJ.out.2 (by omega)).mono ?_
            rintro e w4 ⟨ob, sp, rfl, hS4, hk4⟩
            have hkD4 := hkD3.trans hk4
            obtain ⟨out, hOB, _, _⟩ := hS4.ot
            have c2 := hOB.main.2.2.1
            have hrow := hS4.row
            have hlen := hS4.len
            have hol := hS4.ot.lt
            have hlo : w.heap.size ≤ w4.heap.size := hkD4.size
            have hnewO := heap_alloc_new w4 (.cells #[.int .i64 (i : Int), .int .i64 (j : Int)] 3)
            have hkA : Keeps [] w4 (w4.alloc (.cells #[.int .i64 (i : Int), .int .i64 (j : Int)] 3)) := (Keeps.refl [] w4).alloc _
            have hkD5 := hkD4.trans (hkA.mono (by simp))
            have hown2 : (w4.alloc (.cells #[.int .i64 (i : Int), .int .i64 (j : Int)] 3)).ownsRow w.heap.size 3 1 (.slice (some ⟨w4.heap.size, 0, none⟩) 2 2) 2 [.int .i64 (i : Int), .int .i64 (j : Int)] := ⟨rfl, Or.inr ⟨w4.heap.size, 2, _, rfl, hlo, hnewO, Nat.le_refl _, by unfold maxLen; omega, rfl, rfl⟩⟩
            have hrow5 := hrow.keep hkA (by simp)
            have c25 := (World.cell?_of_block (hkA.block ob hol (by simp))).trans c2
            clear hOB hk4 hT3 hkD3 y0 y1 y3 y4 hcz hRe hTN hTR htl hM c2 hS4 hrow hol hkD4
            by_cases hg0 : p.gr = 0
            · have HA0 : Hid (evs (List.replicate (2 * p.gr) (-1)) ev = []) := List.length_eq_zero_iff.1 (by rw [hlen, hg0])
              rcases hrow5.2 with ⟨hsp, _⟩ | ⟨sb, cap, cur, hsp, _⟩
              · subst hsp
                go_wp2_with fail
                go_ret
                exact ⟨_, _, rfl, HFA.out, by rw [HA0.out]; exact hown2, hkD5⟩
              · rw [hg0, Nat.mul_zero] at hsp
                subst hsp
                go_wp2_with fail
                go_ret
                exact ⟨_, _, rfl, HFA.out, by rw [HA0.out]; exact hown2, hkD5⟩
            · obtain ⟨sb, cap, hsp, _, hsb⟩ := World.ownsRow.form hrow5 (by omega)
              have HNW : Hid (∀ q u, (spV (evs (List.replicate (2 * p.gr) (-1)) ev))[q]? = some u → (w4.alloc (.cells #[.int .i64 (i : Int), .int .i64 (j : Int)] 3)).cell? ((⟨sb, 0, none⟩ : Addr).add q) = some u) := fun q u hu => World.ownsRow.cells hrow5 (by rw [hsp]; rfl) q u hu
              have HL5 : Hid ((spV (evs (List.replicate (2 * p.gr) (-1)) ev)).length = 2 * p.gr * 1) := by show (spV _).length = _; rw [spV_len, hlen]; omega
              subst hsp
              go_wp2_with (first | (at_builtin; refine wpList_append_lies _ rfl _ _ _ rfl w.heap.size 3 i0 _ 1 8 hun hi0 hz0 hz1 hz2 rfl (by decide) (.slice (some ⟨w4.heap.size, 0, none⟩) 2 2) 2 _ rfl hown2 ⟨sb, 0, none⟩ (2 * p.gr) cap (spV (evs (List.replicate (2 * p.gr) (-1)) ev)) rfl HL5.out HNW.out (by intro u hu; simp only [spV, List.mem_map] at hu; obtain ⟨q, _, rfl⟩ := hu; rfl) (by omega) (by unfold maxLen; omega) (by omega) (by simp; omega) (w4.heap.size + 1) (by simp) ?_; intro g2 cap2 w6 hown6 hgr6 hat6 hlt6))
              have hkD6 : Keeps D w w6 := keepsM hkD5 (S := [w4.heap.size]) ⟨hgr6.os, hgr6.tape, hgr6.output, hgr6.size, fun k hk hnk => hgr6.block k hk (by intro e; apply hnk; simp only [Value.ownBlock, Option.some.injEq] at e; simp [e])⟩ (by intro x hx; simp at hx; exact Or.inr (by omega))
              have hIS : IS w6 w.heap.size (.slice (some ⟨g2, 0, none⟩) (2 + 2 * p.gr) cap2) (some ([(i : Int), (j : Int)] ++ evs (List.replicate (2 * p.gr) (-1)) ev)) := by
                show w6.ownsRow _ _ _ _ _ _
                rw [spV_app, show ([(i : Int), (j : Int)] ++ evs (List.replicate (2 * p.gr) (-1)) ev).length = 2 + 2 * p.gr by rw [List.length_append, hlen]; rfl]
                exact hown6
              clear hown6 hgr6 hat6 hlt6
              go_ret
              exact ⟨_, _, rfl, HFA.out, hIS, hkD6⟩
          · have hjb : ((j : Int) == (s.size : Int)) = false := by simpa using (by omega : ¬ (j : Int) = (s.size : Int))
            have HN3 : Hid (∀ j', j ≤ j' → j' ≤ s.size → ¬ OkAt s W i j') := fun j' h1 h2 hok => by
              by_cases hj' : j' = j
              · subst hj'; exact hjs (hok.2.2 (HKE.out.symm.trans he))
              · exact HNO2.out j' (by omega) h2 hok
            clear hf he hjs
            go_wp2_with fail
            first
              | exact ⟨⟨j, rfl, HJ.out.1, by have := HJ.out; omega, HN3.out, by first | rfl | trivial⟩, by have := HJ.out; simp [intOf]; omega⟩
              | (go_roundw
                 case rel => exact ⟨j, rfl, HJ.out.1, by have := HJ.out; omega, HN3.out, by first | rfl | trivial⟩
                 case measure => have := HJ.out; simp [intOf]; omega)
end Go.Proofs.YtnfojonmohijpaaGreatDoor
namespace Go.Proofs.YtnfojonmohijpaaGreatDoor
open Go.RowKit
set_option maxRecDepth 100000 in
set_option maxHeartbeats 1000000 in
theorem search_ref (q s : ByteArray) (fr : Int) (w : World) :
    Calls Tryz.prog 52 #[.string q, .string s, .int .i64 fr] w fun e w' => ∃ v ans n, e = .returned (.tuple #[v, .int .i64 n]) ∧ SearchA q s fr ans n ∧ IS w' w.heap.size v ans ∧ Keeps [] w w' := by
  by_cases hq : 60 < q.size
  · go_enter Tryz.func52, Tryz.ntmps52
    go_wp2_with (first | (go_at_call 46; refine (read_long q _ hq).mono ?_; rintro e w' ⟨rfl, rfl⟩))
    go_ret2
    exact ⟨_, none, 1, rfl, Or.inl ⟨hq, rfl, rfl⟩, rfl, Keeps.refl _ _⟩
  have hq' : q.size ≤ 60 := by omega
  go_enter Tryz.func52, Tryz.ntmps52
  go_wp2_with fail
  refine (read_any q _ hq').mono ?_
  rintro e w1 ⟨bp, p, nds, R, en, rfl, hb, hR, hp, hinv, hk, hn, hps, hcase⟩
  cases R with
  | bad j =>
    obtain ⟨rfl, hbad⟩ := hcase
    have HA : Hid (SearchA q s fr none 2) := Or.inr ⟨hq', .bad j, hR, rfl, rfl⟩
    clear hbad hp hinv hR
    go_wp2_with fail
    go_ret2
    exact ⟨_, none, 2, rfl, HA.out, rfl, hk⟩
  | ok W j =>
    obtain ⟨rfl, hbg, hen, hgr, hrep⟩ := hcase
    obtain ⟨a1, a2, a3, a4, a5, a6, a7⟩ := hR.all hq'
    have HR : Hid (PatR q (.ok W j)) := hR
    have HKP : Hid (KP nds p W) := ⟨a1, a2, a3, a4, a5, a6, a7, hbg, hen, hgr, hrep⟩
    clear hbg hen hgr hrep a1 a2 a3 a4 a5 a6 a7 hR
    by_cases hs : s.size ≤ 100
    rotate_left
    · have hs' : (100 : Int) < (s.size : Int) := by omega
      have HA : Hid (SearchA q s fr none 1) := Or.inr ⟨hq', .ok W j, HR.out, Or.inl ⟨by omega, rfl, rfl⟩⟩
      clear hp hinv hs
      go_wp2_with fail
      go_ret2
      exact ⟨_, none, 1, rfl, HA.out, rfl, hk⟩
    have hs' : ¬ (100 : Int) < (s.size : Int) := by omega
    by_cases hf1 : fr < 0
    · have HA : Hid (SearchA q s fr none 4) := Or.inr ⟨hq', .ok W j, HR.out, Or.inr ⟨hs, Or.inl ⟨Or.inl hf1, rfl, rfl⟩⟩⟩
      clear hp hinv hs
      go_wp2_with fail
      go_ret2
      exact ⟨_, none, 4, rfl, HA.out, rfl, hk⟩
    by_cases hf2 : (s.size : Int) < fr
    · have HA : Hid (SearchA q s fr none 4) := Or.inr ⟨hq', .ok W j, HR.out, Or.inr ⟨hs, Or.inl ⟨Or.inr hf2, rfl, rfl⟩⟩⟩
      clear hp hinv hs
      go_wp2_with fail
      go_ret2
      exact ⟨_, none, 4, rfl, HA.out, rfl, hk⟩
    obtain ⟨k, hfk⟩ : ∃ k : Nat, fr = (k : Int) := ⟨fr.toNat, by omega⟩
    subst hfk
    have hks : k ≤ s.size := by omega
    go_wp2_with fail
    refine (textNew_any s (s.size + 1) rfl hs nds hn bp p w1 hp hinv).mono ?_
    rintro e w2 ⟨b, D, E, rfl, hT2, hDn, hk2⟩
    have hkA := hk.trans hk2
    have HND : Hid (∀ x, x ∈ D → w.heap.size ≤ x) := fun x hx => Nat.le_trans hk.size (hDn x hx)
    clear hp hinv hDn hk2 hk
    go_wp2_with fail
    refine (find_any s (s.size + 1) rfl nds hn W w2 b bp p D E hT2 HKP.out k hks).mono ?_
    rintro e w3 ⟨v, ans, rfl, hF, hI, hk3⟩
    have hkB : Keeps [] w w3 := keepsM hkA hk3 fun x hx => Or.inr (HND.out x hx)
    have hI2 : IS w3 w.heap.size v ans := by
      cases ans with
      | none => exact hI
      | some l =>
        refine ⟨hI.1, ?_⟩
        rcases hI.2 with h | ⟨g, cap, cur, h1, h2, h3⟩
        · exact Or.inl h
        · exact Or.inr ⟨g, cap, cur, h1, Nat.le_trans hkA.size h2, h3⟩
    have HA : Hid (SearchA q s (k : Int) ans 0) := Or.inr ⟨hq', .ok W j, HR.out, Or.inr ⟨hs, Or.inr ⟨by omega, by omega, hF, rfl⟩⟩⟩
    clear hT2 hkA hk3 hI hF
    go_wp2_with fail
    go_ret2
    exact ⟨v, ans, 0, rfl, HA.out, hI2, hkB⟩
end Go.Proofs.YtnfojonmohijpaaGreatDoor
