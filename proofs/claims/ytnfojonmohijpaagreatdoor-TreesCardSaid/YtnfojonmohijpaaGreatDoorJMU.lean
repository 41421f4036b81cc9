/-
  DERIVED. The reference's 'Ends' at ways. Conditions: what it has in memory lies as it should (TX).
-/
import Derived.Test.YtnfojonmohijpaaGreatDoorJMI
import Derived.Test.YtnfojonmohijpaaGreatDoorJMS
import Derived.Test.YtnfojonmohijpaaGreatDoorJMC
set_option linter.unusedSimpArgs false
set_option linter.unusedVariables false
namespace Go.Proofs.YtnfojonmohijpaaGreatDoor
open Go.RowKit
structure WLo (w1 wr : World) (s : ByteArray) (N : Nat) (nds : List Nd) (kids : List Nat) (h : Nat) (b bp : Nat) (p : PS) (D : List Nat) (E : Value) (Z : List Nat) (i m : Nat) (f : Nat → Bool) : Prop where
 row : RB wr (.slice (some ⟨h, 0, none⟩) N N) N f
 tx : TX wr b bp s p nds D E (h :: Z)
 keep : Keeps (h :: D) w1 wr
 says : ∀ j, j ≤ s.size → (f j = true ↔ ∃ t c, t < m ∧ kids[t]? = some c ∧ MN s nds (.node c) i j)
set_option maxRecDepth 100000 in
set_option maxHeartbeats 2000000 in
theorem ends_alt (s : ByteArray) (N : Nat) (HN : Hid (N = s.size + 1)) (nds : List Nd) (hn : nds.length ≤ 1000) (n : Nat) (IH : EndsOk s nds n) (k : Nat) (nd : Nd) (hk : nds[k]? = some nd) (hkind : nd.kind = 111) (hkids : ∀ c, c ∈ nd.kids → NK nds n c) (hkl : nd.kids.length ≤ 1000)
    (w : World) (b bp : Nat) (p : PS) (D : List Nat) (E : Value) (Z : List Nat) (i : Nat) (h : TX w b bp s p nds D E Z) (HZ : Hid (∀ x, x ∈ Z → x < w.heap.size)) (hi : i ≤ s.size)
    (eb cap g : Nat) (hE : E = .slice (some ⟨eb, 0, none⟩) nds.length cap) (hg : D[k]? = some g) (hr : w.cell? ⟨eb, k, none⟩ = some (.slice (some ⟨g, 0, none⟩) N N)) (hc : w.cell? ⟨g, i, none⟩ = some (.slice none 0 0)) :
    Calls Tryz.prog 48 #[.pointer (some ⟨b, 0, none⟩), .int .i64 k, .int .i64 i] w (EPo s nds k i w b bp p D E Z) := by
 obtain ⟨i0, hi0, hz0, hz1, hz2⟩ := info_parts infoBool
 have hun := Tryz.underlying98
 obtain ⟨x0, x1, x2, x3⟩ := h.xb.main
 rw [hE] at x3
 obtain ⟨g', cap', hv, kv, hform, hkn, hH, hK, c0, c1, c2, c3, c4, c5⟩ := h.nodes.node hk
 have HK : Hid (nd.kind = 111) := hkind
 rw [hkind] at c0
 obtain ⟨n1, _⟩ := h.pb.nodes
 rw [hform] at n1
 obtain ⟨ha, hn2, hc2, rfl⟩ := hH.1
 have HHV : Hid (HoldsV w (avoA bp (b :: (E.ownBlock.toList ++ (D ++ Z))) p.nodes) (.slice ha hn2 hc2) nd) := hH
 have HKV : Hid (KV w D kv nd.kids) := hK.kv hkl
 obtain ⟨ka, kc, rfl, hkid⟩ := hK.form
 have hs := h.small
 have hk0' : (0 : Int) ≤ (k : Int) := by omega
 have hk1' : (k : Int) < (nds.length : Int) := by omega
 have hi0' : (0 : Int) ≤ (i : Int) := by omega
 have hi1' : (i : Int) < (N : Int) := by have := HN.out; omega
 have hadd : (s.size : Int) + 1 ≤ 9223372036854775807 := by omega
 have HI : Hid (i ≤ s.size) := hi
 have HS : Hid (s.size ≤ 100) := hs
 have HE : Hid (E = .slice (some ⟨eb, 0, none⟩) nds.length cap) := hE
 have HT : Hid (TX w b bp s p nds D E Z) := h
 have HH : Hid (nds[k]? = some nd) := hk
 have hWk := (Keeps.refl [] w).alloc (.cells #[.int .u8 111, .slice ha hn2 hc2, .int .i64 nd.n, .int .i64 nd.mn, .int .i64 nd.mx, .slice ka nd.kids.length kc] 157)
 have hnew := heap_alloc_new w (.cells #[.int .u8 111, .slice ha hn2 hc2, .int .i64 nd.n, .int .i64 nd.mn, .int .i64 nd.mx, .slice ka nd.kids.length kc] 157)
 have HG : Hid (D[k]? = some g) := hg
 have hk2' : (nds.length : Int) ≤ 1000 := by omega
 have hkl' : (nd.kids.length : Int) ≤ 1000 := by omega
 clear h hE hk hi hs hform hH hK hkn hkind hn hkid hg hkl x2
 go_enter Tryz.func48, Tryz.ntmps48
 go_upto_region 4 with (fail)
 clear c0 c1 c2 c3 c4 c5 n1 x0 x1 x3 hr hc
 generalize w.alloc (.cells #[.int .u8 111, .slice ha hn2 hc2, .int .i64 nd.n, .int .i64 nd.mn, .int .i64 nd.mx, .slice ka nd.kids.length kc] 157) = W at *
 obtain ⟨gn, hgn⟩ : ∃ gn, gn = w.heap.size := ⟨_, rfl⟩
 rw [← hgn] at hnew ⊢
 have HGN : Hid (gn = w.heap.size) := hgn
 clear hgn
 have hT0 := HT.out.keep hWk (by simp)
 obtain ⟨y0, y1, _, _⟩ := hT0.xb.main
 clear hT0
 go_upto_region 5 with (first | (refine wpList_make_full W rfl _ _ 98 rfl 0 4 i0 (.bool false) 1 hun hi0 hz0 hz1 .i64 .i64 ((s.size : Int) + 1) ((s.size : Int) + 1) N rfl rfl (by have := HN.out; omega) (by have := HN.out; omega) (by have := HN.out; have := HS.out; rw [hz2]; omega) (by have := HN.out; have := HS.out; unfold maxLen; omega) (Nat.zero_le _) ?_; intro w1 hown hgr))
 rw [Nat.mul_one, show (Value.bool false).cells = #[.bool false] from rfl, bl_made] at hown
 have hk1 : Keeps [] W w1 := Keeps.ofGrownNone hgr
 have hkw1 := hWk.trans hk1
 have hnew1 := (hk1.block gn (Array.getElem?_eq_some_iff.1 hnew).1 (by simp)).trans hnew
 have hT1 := HT.out.keep hkw1 (by simp)
 have HKV1 : Hid (KV w1 D (.slice ka nd.kids.length kc) nd.kids) := HKV.out.keep (hkw1.mono (by simp))
 have e0 : w1.cell? ⟨gn, 0, none⟩ = some (.int .u8 111) := by rw [Lib.cell_of_heap hnew1]; rfl
 have e5 : w1.cell? ⟨gn, 5, none⟩ = some (.slice ka nd.kids.length kc) := by rw [Lib.cell_of_heap hnew1]; rfl
 have hWs := hWk.size
 have hgnW : gn < W.heap.size := (Array.getElem?_eq_some_iff.1 hnew).1
 have HW1 : Hid (w1.heap[gn]? = some (.cells #[.int .u8 111, .slice ha hn2 hc2, .int .i64 nd.n, .int .i64 nd.mn, .int .i64 nd.mx, .slice ka nd.kids.length kc] 157 (0, 0))) := hnew1
 have HGW : Hid (gn < W.heap.size ∧ w.heap.size ≤ W.heap.size) := ⟨hgnW, hWs⟩
 clear y0 y1 hgr hnew hnew1 hgnW hWs hadd hz0 hz1 hz2 hi0 hun hWk hk1
 have HGO : Hid (w.heap.size ≤ W.heap.size) := HGW.out.2
 have HKG : Hid (KV w (W.heap.size :: D) (.slice ka nd.kids.length kc) nd.kids) := by
  obtain ⟨ad, cp, e, hl, hc⟩ := HKV.out
  refine ⟨ad, cp, e, hl, fun t c ht => ?_⟩
  obtain ⟨y, off, h1, h2, h3, h4⟩ := hc t c ht
  exact ⟨y, off, h1, h2, by simp only [List.mem_cons, not_or]; exact ⟨by have := HGO.out; omega, h3⟩, h4⟩
 have hWD : W.heap.size ∉ D := fun hm => by have := HT.out.dlt _ hm; have := HGW.out; omega
 have hWZ : W.heap.size ∉ Z := fun hm => by have := HZ.out _ hm; have := HGW.out; omega
 have hWg : gn ∉ W.heap.size :: D := by
  simp only [List.mem_cons, not_or]
  exact ⟨by have := HGW.out; omega, fun hm => by have h1 := HT.out.dlt gn hm; have := HGN.out; omega⟩
 have hgl : W.heap.size < w1.heap.size := (World.ownsRow.lt hown _ rfl).2
 obtain ⟨go, ego⟩ : ∃ go, go = W.heap.size := ⟨_, rfl⟩
 rw [← ego] at hown hWD hWZ hWg HGO HKG hgl ⊢
 have hTG : TX w1 b bp s p nds D E (go :: Z) := (HT.out.less (Z' := go :: Z) (by intro x hx; rcases List.mem_cons.1 hx with rfl | hx; exact Or.inr HGO.out; exact Or.inl hx)).keep hkw1 (by simp)
 have hW0 : WLo w1 w1 s N nds nd.kids go b bp p D E Z i 0 (fun _ => false) := ⟨hown, hTG, Keeps.refl _ _, fun j _ => by simp⟩
 have hNm : (N : Int) ≤ 101 := by have := HN.out; have := HS.out; omega
 have HG1 : Hid (go < w1.heap.size) := hgl
 clear ego hT1 hTG hown hgl
 go_upto_region 16 with (fail)
 go_upto_region 17 with (fail)
 go_loopw [9] (fun q wr => ∃ (m : Nat) (f : Nat → Bool), m ≤ nd.kids.length ∧ q = .int .i64 m ∧ WLo w1 wr s N nds nd.kids go b bp p D E Z i m f) (fun q _ => nd.kids.length - (intOf q).toNat)
 case atStart => exact ⟨0, _, by omega, rfl, hW0⟩
 case round =>
  clear hW0
  obtain ⟨m, f, hm, rfl, L⟩ := hrel
  have hk5 := (World.cell?_of_block (L.keep.block gn (Array.getElem?_eq_some_iff.1 HW1.out).1 hWg)).trans e5
  by_cases hml : m < nd.kids.length
  ·obtain ⟨c, hc⟩ : ∃ c, nd.kids[m]? = some c := ⟨_, List.getElem?_eq_getElem hml⟩
   have hck : NK nds n c := hkids c (List.mem_of_getElem? hc)
   obtain ⟨ad, cp, e1, _, hcs⟩ := HKG.out.keep ((hkw1.mono (by simp)).trans L.keep)
   simp only [Value.slice.injEq] at e1
   obtain ⟨rfl, _, rfl⟩ := e1
   obtain ⟨y, off, rfl, hyl, hyD, hcd⟩ := hcs m c hc
   have hm0' : (0 : Int) ≤ (m : Int) := by omega
   have hm1' : (m : Int) < (nd.kids.length : Int) := by omega
   have HM : Hid (m < nd.kids.length) := hml
   have HC : Hid (nd.kids[m]? = some c) := hc
   have hLr := L.row
   have hLt := L.tx
   have hLk := L.keep
   have HLS : Hid (∀ j, j ≤ s.size → (f j = true ↔ ∃ t c, t < m ∧ nd.kids[t]? = some c ∧ MN s nds (.node c) i j)) := L.says
   clear L hcs hm hml hc
   go_wp2_with fail
   refine (IH c hck wr b bp p D E (go :: Z) i hLt (by intro x hx; have h1 : go < wr.heap.size := (World.ownsRow.lt hLr _ rfl).2; rcases List.mem_cons.1 hx with rfl | hx; exact h1; have h2 := HZ.out x hx; have h3 := HGO.out; omega) HI.out).mono ?_
   rintro e w2 ⟨v, rfl, hEA, htx, hk2⟩
   obtain ⟨x, cc, fe, hve, hRe, hxD, hxZ, hsay⟩ := hEA
   rw [← HN.out] at hve hRe
   subst hve
   have hrow2 := hLr.keep hk2 (by intro y hy; simp only [Value.ownBlock, Option.some.injEq] at hy; subst hy; exact hWD)
   have hxh : x ≠ go := fun e => hxZ (by simp [e])
   have hkw : Keeps (go :: D) w1 w2 := hLk.trans (hk2.mono (by intro y hy; simp [hy]))
   have HSY : Hid (∀ j, j ≤ s.size → (fe j = true ↔ MN s nds (.node c) i j)) := hsay
   clear hLr hLt hLk hk2 hsay hcd hk5
   obtain ⟨wr0, hwr0⟩ : ∃ wr0 : World, wr0 = wr := ⟨_, rfl⟩
   subst hwr0
   have hIL0 : IL w2 w2 s N nds go x cc 0 fe f (.slice (some ⟨x, 0, none⟩) N cc) fe b bp p D E Z 0 f := ⟨hrow2, hRe, hRe, htx, Keeps.refl _ _, fun m _ => by
     constructor
     · exact Or.inl
     · rintro (h | ⟨_, h, _⟩)
       · exact h
       · omega⟩
   have hfg : (Value.slice (some ⟨x, 0, none⟩) N cc).ownBlock ≠ some go := by simp only [Value.ownBlock, ne_eq, Option.some.injEq]; exact hxh
   clear hrow2 hRe htx
   go_wp2_with fail
   go_loopw [11] (fun q wq => ∃ (j : Nat) (f' : Nat → Bool), j ≤ N ∧ q = .int .i64 j ∧ IL w2 wq s N nds go x cc 0 fe f (.slice (some ⟨x, 0, none⟩) N cc) fe b bp p D E Z j f') (fun q _ => N - (intOf q).toNat)
   case atStart => exact ⟨0, f, by omega, rfl, hIL0⟩
   case round =>
    clear hIL0
    obtain ⟨j, f', hj, rfl, L⟩ := hrel
    by_cases hjl : j < N
    ·have hj0' : (0 : Int) ≤ (j : Int) := by omega
     have hj1' : (j : Int) < (N : Int) := by omega
     have ho := L.row.at hjl
     have hoz := L.row.frozen j
     have he := L.ans.at hjl
     have HJ : Hid (j < N) := hjl
     cases h1 : f' j
     all_goals
      cases h2 : fe j
      all_goals
       rw [h1] at ho
       rw [h2] at he
       have HLs : Hid (IL w2 (wr.setCell ⟨go, j, none⟩ (.bool (f' j || fe j))) s N nds go x cc 0 fe f (.slice (some ⟨x, 0, none⟩) N cc) fe b bp p D E Z (j + 1) (fun m => if m = j then (f' j || fe j) else f' m)) := L.step hxh hfg (Nat.zero_le _) rfl
       rw [h1, h2] at HLs
       clear L hj hjl h1 h2
       go_wp2_with fail
       go_roundw
       case rel => exact ⟨j + 1, _, HJ.out, by go_num, HLs.out⟩
       case measure => have := HJ.out; simp [intOf]; omega
    ·have hje : j = N := by omega
     have hnj : ¬ (j : Int) < (N : Int) := by omega
     have hOL : WLo w1 wr s N nds nd.kids go b bp p D E Z i (m + 1) f' := ⟨L.row, L.tx, hkw.trans (L.keep.mono (by intro y hy; simp at hy; simp [hy])), fun j' hj' => by
       have hmN : j' < N := by have := HN.out; omega
       rw [L.says j' hmN, HLS.out j' hj', hje]
       constructor
       · rintro (⟨t, c', a, b'⟩ | ⟨_, _, b'⟩)
         · exact ⟨t, c', by omega, b'⟩
         · exact ⟨m, c, by omega, HC.out, (HSY.out j' hj').1 b'⟩
       · rintro ⟨t, c', a, b', d⟩
         rcases Nat.lt_or_ge t m with h | h
         · exact Or.inl ⟨t, c', h, b', d⟩
         · have : t = m := by omega
           subst this
           cases HC.out.symm.trans b'
           exact Or.inr ⟨Nat.zero_le _, hmN, (HSY.out j' hj').2 d⟩⟩
     clear L hje hjl hj
     go_wp2_with fail
     exact ⟨⟨m + 1, f', HM.out, by go_num, hOL⟩, by have := HM.out; simp [intOf]; omega⟩
  ·have hme : m = nd.kids.length := by omega
   have hnm : ¬ (m : Int) < (nd.kids.length : Int) := by omega
   have hT2 := L.tx.less (Z' := Z) (by intro x hx; exact Or.inl (by simp [hx]))
   have hkw2 : Keeps D w wr := keepsM (hkw1.mono (by simp)) L.keep (by intro x hx; simp at hx; rcases hx with rfl | hx; exact Or.inr HGO.out; exact Or.inl hx)
   have hEA : EA wr s nds D Z k i (.slice (some ⟨go, 0, none⟩) N N) := by
    refine ⟨go, N, f, by rw [← HN.out], by rw [← HN.out]; exact L.row, hWD, hWZ, fun j hj => ?_⟩
    rw [L.says j hj, MN.alt_iff HH.out HK.out, hme]
    constructor
    ·rintro ⟨t, c, _, a, b⟩; exact ⟨c, List.mem_of_getElem? a, b⟩
    ·rintro ⟨c, a, b⟩
     obtain ⟨t, ht⟩ := List.mem_iff_getElem?.1 a
     exact ⟨t, c, (List.getElem?_eq_some_iff.1 ht).1, ht, b⟩
   clear L hml hm hme
   go_upto_region 24 with (fail)
   clear e0 e5 hk5
   obtain ⟨eb2, cap2, g2, v2, hE2, hg2, hr2, hc2', hf2, _⟩ := hT2.slot (k := k) (i := i) (by omega) HI.out
   have hE3 := HE.out.symm.trans hE2
   simp only [Value.slice.injEq, Option.some.injEq, Addr.mk.injEq, and_true, true_and] at hE3
   obtain ⟨hebe, hcape⟩ := hE3
   subst hebe hcape
   obtain rfl : g = g2 := Option.some.inj (HG.out.symm.trans hg2)
   rw [← HN.out] at hr2
   obtain ⟨z0, z1, _, z3⟩ := hT2.xb.main
   rw [HE.out] at z3
   obtain ⟨hp1, hp2, hp3⟩ := hT2.put HG.out hEA
   have hend := hkw2.trans hp3
   clear hE2 hg2 hEA hT2 hkw2 hp3
   go_wp2_with fail
   go_ret
   exact ⟨_, rfl, hp1, hp2, hend⟩
end Go.Proofs.YtnfojonmohijpaaGreatDoor
namespace Go.Proofs.YtnfojonmohijpaaGreatDoor
open Go.RowKit
theorem ends_all (s : ByteArray) (nds : List Nd) (hn : nds.length ≤ 1000) : ∀ n, n ≤ 1000 → EndsOk s nds n := by
 intro n
 induction n with
 | zero => intro _ k hk; obtain ⟨kd, x, _, _, h, _⟩ := hk; exact absurd h (Nat.not_lt_zero _)
 | succ n IH =>
  intro hn1 k hk w b bp p D E Z i h hZ hi
  have IH := IH (by omega)
  obtain ⟨kd, x, h1, h2, h3, h4, h5⟩ := hk
  obtain ⟨nd, hnd, hsub⟩ := NK.cases x.sz h1 h2 (Nat.le_refl _) h4 h5
  have hsub := hsub.up (m := n) (by omega)
  have hkn : k < nds.length := (List.getElem?_eq_some_iff.1 hnd).1
  obtain ⟨eb, cap, g, v, hE, hg, hr, hc, _, hv⟩ := h.slot hkn hi
  rcases hv with rfl | hv
  ·rcases hsub with ⟨hk, hk0⟩ | ⟨hk, c, hkc, hck⟩ | ⟨hk, e1, e2, e3, c, hkc, hck⟩ | ⟨hk | ⟨hk, _⟩, hkl, hkids⟩
   ·exact ends_byte s (s.size + 1) rfl nds hn n IH k nd hnd hk (by rw [hk0]; simp) w b bp p D E Z i h hZ hi eb cap g hE hg hr hc
   ·exact ends_grp s (s.size + 1) rfl nds hn n IH k nd hnd hk c hkc hck (by rw [hkc]; simp) w b bp p D E Z i h hZ hi eb cap g hE hg hr hc
   ·exact ends_rep s (s.size + 1) rfl nds hn n IH k nd hnd hk c hkc hck e1 ⟨e2, e3.1⟩ e3.2 (by rw [hkc]; simp) w b bp p D E Z i h hZ hi eb cap g hE hg hr hc
   ·exact ends_way s (s.size + 1) rfl nds hn n IH k nd hnd hk hkids (by omega) w b bp p D E Z i h hZ hi eb cap g hE hg hr hc
   ·exact ends_alt s (s.size + 1) rfl nds hn n IH k nd hnd hk hkids (by omega) w b bp p D E Z i h hZ hi eb cap g hE hg hr hc
  ·refine (ends_hit s nds k hkn w b bp p D E Z i h hi eb cap g v hE (s.size + 1) rfl hr hc hv).mono ?_
   rintro e w' ⟨rfl, rfl⟩
   exact ⟨v, rfl, hv, h, Keeps.refl _ _⟩
end Go.Proofs.YtnfojonmohijpaaGreatDoor
namespace Go.Proofs.YtnfojonmohijpaaGreatDoor
open Go.RowKit
def OB (w : World) (b : Nat) (out : ByteArray) (len : Nat) (sp : Value) (keep : Bool) : Prop := w.heap[b]? = some (.cells #[.string out, .int .i64 len, sp, .bool keep] 106 (0, 0))
theorem OB.main {w : World} {b : Nat} {out : ByteArray} {len : Nat} {sp : Value} {keep : Bool} (h : OB w b out len sp keep) : w.cell? ⟨b, 0, none⟩ = some (.string out) ∧ w.cell? ⟨b, 1, none⟩ = some (.int .i64 len) ∧ w.cell? ⟨b, 2, none⟩ = some sp ∧ w.cell? ⟨b, 3, none⟩ = some (.bool keep) ∧ w.frozen? ⟨b, 0, none⟩ = false ∧ w.frozen? ⟨b, 1, none⟩ = false := by
 unfold OB at h
 simp [World.cell?, World.frozen?, h]
theorem OB.lt {w : World} {b : Nat} {out : ByteArray} {len : Nat} {sp : Value} {keep : Bool} (h : OB w b out len sp keep) : b < w.heap.size := (Array.getElem?_eq_some_iff.1 h).1
theorem OB.keep' {w w' : World} {S : List Nat} {b : Nat} {out : ByteArray} {len : Nat} {sp : Value} {keep : Bool} (h : OB w b out len sp keep) (hk : Keeps S w w') (hb : b ∉ S) : OB w' b out len sp keep := (hk.block b h.lt hb).trans h
def saidT (out s : ByteArray) (len : Nat) (keep : Bool) : ByteArray := if keep = true ∧ len + s.size ≤ 20000 then out ++ s else out
set_option maxRecDepth 100000 in
set_option maxHeartbeats 2000000 in
theorem say_any (b : Nat) (out s : ByteArray) (len : Nat) (sp : Value) (keep : Bool) (w : World) (h : OB w b out len sp keep) (hl : len + s.size ≤ 4611686018427387904) (ho : out.size ≤ 20000) :
    Calls Tryz.prog 139 #[.pointer (some ⟨b, 0, none⟩), .string s] w fun e w' => e = .returned (.tuple #[]) ∧ OB w' b (saidT out s len keep) (len + s.size) sp keep ∧ Keeps [b] w w' := by
 obtain ⟨c0, c1, c2, c3, f0, f1⟩ := h.main
 have hadd : (len : Int) + (s.size : Int) ≤ 9223372036854775807 := by omega
 have h1 : OB (w.setCell ⟨b, 1, none⟩ (.int .i64 ((len : Int) + (s.size : Int)))) b out (len + s.size) sp keep := by
  unfold OB at *
  simp [World.setCell, Array.getElem?_modify, h]
 have h2 : OB ((w.setCell ⟨b, 1, none⟩ (.int .i64 ((len : Int) + (s.size : Int)))).setCell ⟨b, 0, none⟩ (.string (out ++ s))) b (out ++ s) (len + s.size) sp keep := by
  unfold OB at *
  simp [World.setCell, Array.getElem?_modify, h]
 have hk1 : Keeps [b] w (w.setCell ⟨b, 1, none⟩ (.int .i64 ((len : Int) + (s.size : Int)))) := (Keeps.refl [b] w).setCell (p := ⟨b, 1, none⟩) (by simp) _
 have hk2 : Keeps [b] w ((w.setCell ⟨b, 1, none⟩ (.int .i64 ((len : Int) + (s.size : Int)))).setCell ⟨b, 0, none⟩ (.string (out ++ s))) := hk1.setCell (p := ⟨b, 0, none⟩) (by simp) _
 have HE1 : Hid (OB (w.setCell ⟨b, 1, none⟩ (.int .i64 ((len : Int) + (s.size : Int)))) b out (len + s.size) sp keep ∧ Keeps [b] w (w.setCell ⟨b, 1, none⟩ (.int .i64 ((len : Int) + (s.size : Int))))) := ⟨h1, hk1⟩
 have HE2 : Hid (OB ((w.setCell ⟨b, 1, none⟩ (.int .i64 ((len : Int) + (s.size : Int)))).setCell ⟨b, 0, none⟩ (.string (out ++ s))) b (out ++ s) (len + s.size) sp keep ∧ Keeps [b] w ((w.setCell ⟨b, 1, none⟩ (.int .i64 ((len : Int) + (s.size : Int)))).setCell ⟨b, 0, none⟩ (.string (out ++ s)))) := ⟨h2, hk2⟩
 clear h1 h2 hk1 hk2 h
 cases keep
 ·have HS : Hid (saidT out s len false = out) := by show saidT out s len false = out; simp [saidT]
  go_enter Tryz.func139, Tryz.ntmps139
  go_wp2_with fail
  go_end0
  exact ⟨rfl, by rw [HS.out]; exact HE1.out.1, HE1.out.2⟩
 by_cases hc : len + s.size ≤ 20000
 ·have HS : Hid (saidT out s len true = out ++ s) := by show saidT out s len true = out ++ s; simp [saidT, hc]
  have hc' : (len : Int) + (s.size : Int) ≤ 20000 := by omega
  have hos : out.size + s.size ≤ 100000000 := by omega
  clear hc
  go_enter Tryz.func139, Tryz.ntmps139
  go_wp2_with fail
  go_end0
  exact ⟨rfl, by rw [HS.out]; exact HE2.out.1, HE2.out.2⟩
 ·have HS : Hid (saidT out s len true = out) := by show saidT out s len true = out; simp [saidT, hc]
  have hc' : ¬ (len : Int) + (s.size : Int) ≤ 20000 := by omega
  clear hc
  go_enter Tryz.func139, Tryz.ntmps139
  go_wp2_with fail
  go_end0
  exact ⟨rfl, by rw [HS.out]; exact HE1.out.1, HE1.out.2⟩
end Go.Proofs.YtnfojonmohijpaaGreatDoor
namespace Go.Proofs.YtnfojonmohijpaaGreatDoor
def TmK (s : ByteArray) (nds : List Nd) (c mn : Nat) (mx : Int) (i j : Nat) : Prop := Tm (fun i j => MN s nds (.node c) i j) mn mx i j
inductive JT where
 | node (k : Nat)
 | kids (l : List Nat)
 | times (c mn : Nat) (mx : Int)
 | alts (p : Nat) (l : List Nat)
inductive TN (s : ByteArray) (nds : List Nd) (g : Nat) : JT → Nat → Nat → List UInt8 → List (Nat × Nat × Nat) → Prop
 | byte (k : Nat) (nd : Nd) (i j : Nat) : nds[k]? = some nd → nd.kind = 98 → TN s nds g (.node k) i j ([98] ++ hexT (at' s i).toNat) []
 | grp (k : Nat) (nd : Nd) (c i j : Nat) (t : List UInt8) (ev : List (Nat × Nat × Nat)) : nds[k]? = some nd → nd.kind = 103 → nd.kids = [c] → 0 < nd.n ∧ nd.n ≤ g → TN s nds g (.node c) i j t ev → TN s nds g (.node k) i j ([40, 103] ++ digT nd.n ++ [32] ++ t ++ [41]) ((nd.n, i, j) :: ev)
 | alt (k : Nat) (nd : Nd) (i j : Nat) (t : List UInt8) (ev : List (Nat × Nat × Nat)) : nds[k]? = some nd → nd.kind = 111 → TN s nds g (.alts 0 nd.kids) i j t ev → TN s nds g (.node k) i j t ev
 | none (k : Nat) (nd : Nd) (i j : Nat) : nds[k]? = some nd → nd.kind = 119 → nd.kids = [] → TN s nds g (.node k) i j [101] []
 | way (k : Nat) (nd : Nd) (i j : Nat) (t : List UInt8) (ev : List (Nat × Nat × Nat)) : nds[k]? = some nd → nd.kind = 119 → nd.kids ≠ [] → TN s nds g (.kids nd.kids) i j t ev → TN s nds g (.node k) i j ([40, 115] ++ t ++ [41]) ev
 | rep (k : Nat) (nd : Nd) (c i j : Nat) (t : List UInt8) (ev : List (Nat × Nat × Nat)) : nds[k]? = some nd → nd.kind = 114 → nd.kids = [c] → TN s nds g (.times c nd.mn nd.mx) i j t ev → TN s nds g (.node k) i j ([40, 114] ++ t ++ [41]) ev
 | kend (i j : Nat) : TN s nds g (.kids []) i j [] []
 | kgo (c : Nat) (l : List Nat) (i j m : Nat) (t u : List UInt8) (ev fv : List (Nat × Nat × Nat)) : Cut (fun m => MN s nds (.node c) i m ∧ MN s nds (.row l) m j) i j m → TN s nds g (.node c) i m t ev → TN s nds g (.kids l) m j u fv → TN s nds g (.kids (c :: l)) i j ([32] ++ t ++ u) (ev ++ fv)
 | tend (c mn : Nat) (mx : Int) (i j : Nat) : ¬ (i < j ∨ 0 < mn) → TN s nds g (.times c mn mx) i j [] []
 | tgo (c mn : Nat) (mx : Int) (i j m : Nat) (t u : List UInt8) (ev fv : List (Nat × Nat × Nat)) : (i < j ∨ 0 < mn) → Cut (fun m => MN s nds (.node c) i m ∧ TmK s nds c (mn - 1) (less mx) m j) i j m → TN s nds g (.node c) i m t ev → TN s nds g (.times c (mn - 1) (less mx)) m j u fv → TN s nds g (.times c mn mx) i j ([32] ++ t ++ u) (ev ++ fv)
 | hit (p c : Nat) (l : List Nat) (i j : Nat) (t : List UInt8) (ev : List (Nat × Nat × Nat)) : MN s nds (.node c) i j → TN s nds g (.node c) i j t ev → TN s nds g (.alts p (c :: l)) i j ([40, 97] ++ decT p ++ [32] ++ t ++ [41]) ev
 | miss (p c : Nat) (l : List Nat) (i j : Nat) (t : List UInt8) (ev : List (Nat × Nat × Nat)) : ¬ MN s nds (.node c) i j → TN s nds g (.alts (p + 1) l) i j t ev → TN s nds g (.alts p (c :: l)) i j t ev
theorem Cut.congr {P Q : Nat → Prop} {i j c : Nat} (h : Cut P i j c) (e : ∀ m, P m ↔ Q m) : Cut Q i j c :=
 ⟨h.1, h.2.1, fun k => (e c).1 (h.2.2.1 k), fun m a b q => h.2.2.2 m a b ((e m).2 q)⟩
theorem node_lift {nds : List Nd} {k : Nat} {C : Pat → Prop} (hC1 : ∀ y, C y → C (.pcons y .pnil)) (hC2 : ∀ y, C y → C (.wone y))
    (hp : ∀ {x : Pat} {kd : Kd}, (kd = .piece ∨ kd = .single) → rep nds x [k] → shp x kd → C x)
    (hw : ∀ {x : Pat} {nd : Nd}, nds[k]? = some nd → nd.kind = 119 → nd.kids.length ≠ 1 → rep nds x nd.kids → shp x .way → C x)
    (ho : ∀ {x : Pat} {nd : Nd}, nds[k]? = some nd → nd.kind = 111 → nd.kids.length ≠ 1 → rep nds x nd.kids → shp x .ways → C x) :
    ∀ {kd : Kd} {x : Pat}, repK nds kd x k → shp x kd → C x := by
 have hway : ∀ {x : Pat}, repK nds .way x k → shp x .way → C x := by
  intro x h hs
  obtain ⟨lp, hr, hl⟩ := h
  rcases hl with rfl | ⟨hne, nd, e, hk, rfl⟩
  ·cases x with
   | pcons y r =>
    obtain ⟨k', l', e, h1, h2⟩ := hr
    simp only [List.cons.injEq] at e
    obtain ⟨rfl, rfl⟩ := e
    cases r with
    | pnil => exact hC1 y (hp (Or.inl rfl) h1 hs.1)
    | pcons _ _ => obtain ⟨_, _, e, _⟩ := h2; cases e
    | _ => exact hs.2.elim
   | pnil => cases hr
   | _ => exact hs.elim
  ·exact hw e hk hne hr hs
 intro kd x h hs
 cases kd with
 | single => exact hp (Or.inr rfl) h hs
 | piece => exact hp (Or.inl rfl) h hs
 | way => exact hway h hs
 | ways =>
  obtain ⟨lw, hr, hl⟩ := h
  rcases hl with rfl | ⟨hne, nd, e, hk, rfl⟩
  ·cases x with
   | wone y =>
    obtain ⟨c, lp, e, h1, h2⟩ := hr
    simp only [List.cons.injEq, and_true] at e
    subst e
    exact hC2 y (hway ⟨lp, h1, h2⟩ hs)
   | wcons y r =>
    obtain ⟨c, lp, l', e, ⟨h1, h2⟩, h3⟩ := hr
    simp only [List.cons.injEq] at e
    obtain ⟨rfl, rfl⟩ := e
    cases r with
    | wone z => obtain ⟨_, _, e, _⟩ := h3; cases e
    | wcons z q => obtain ⟨_, _, _, e, _⟩ := h3; cases e
    | _ => exact hs.2.elim
   | _ => exact hs.elim
  ·exact ho e hk hne hr hs
theorem one_kind {nds : List Nd} {x : Pat} {kd : Kd} {k : Nat} {nd : Nd} (hkd : kd = .piece ∨ kd = .single) (h : rep nds x [k]) (hs : shp x kd) (e : nds[k]? = some nd) :
    (nd.kind = 98 ∧ ∃ f, x = .set f) ∨ (nd.kind = 103 ∧ ∃ y c lw, x = .grp nd.n y ∧ nd.kids = [c] ∧ rep nds y lw ∧ ListN nds 111 lw c ∧ shp y .ways) ∨
    (nd.kind = 114 ∧ ∃ y c, x = .rep nd.mn nd.mx y ∧ nd.kids = [c] ∧ rep nds y [c] ∧ shp y .single) := by
 cases x with
 | set f =>
  obtain ⟨k', nd', hk', e', hk, _⟩ := h
  simp only [List.cons.injEq, and_true] at hk'
  subst hk'
  cases e.symm.trans e'
  exact Or.inl ⟨hk, f, rfl⟩
 | grp m y =>
  obtain ⟨k', nd', c, lw, hk', e', hk, hn, hc, hr, hl⟩ := h
  simp only [List.cons.injEq, and_true] at hk'
  subst hk'
  cases e.symm.trans e'
  subst hn
  have hy : shp y .ways := by rcases hkd with rfl | rfl <;> exact hs
  exact Or.inr (Or.inl ⟨hk, y, c, lw, rfl, hc, hr, hl, hy⟩)
 | rep mn mx y =>
  obtain ⟨k', nd', c, hk', e', hk, h1, h2, hc, hr⟩ := h
  simp only [List.cons.injEq, and_true] at hk'
  subst hk'
  cases e.symm.trans e'
  subst h1 h2
  rcases hkd with rfl | rfl
  ·exact Or.inr (Or.inr ⟨hk, y, c, rfl, hc, hr, hs.2.2.2⟩)
  ·exact hs.elim
 | pnil => rcases hkd with rfl | rfl <;> exact hs.elim
 | pcons _ _ => rcases hkd with rfl | rfl <;> exact hs.elim
 | wone _ => rcases hkd with rfl | rfl <;> exact hs.elim
 | wcons _ _ => rcases hkd with rfl | rfl <;> exact hs.elim
def JT.ok (s : ByteArray) (nds : List Nd) : JT → Nat → Nat → List UInt8 → List (Nat × Nat × Nat) → Prop
 | .node k, i, j, t, ev => ∀ {kd : Kd} {x : Pat}, repK nds kd x k → shp x kd → TR s (.node x) i j t ev
 | .kids l, i, j, t, ev => ∀ {x : Pat}, rep nds x l → shp x .way → TR s (.kids x) i j t ev
 | .times c mn mx, i, j, t, ev => ∀ {x : Pat}, rep nds x [c] → shp x .single → TR s (.times mn mx x) i j t ev
 | .alts p l, i, j, t, ev => ∀ {x : Pat}, rep nds x l → shp x .ways → TR s (.alts p x) i j t ev
theorem TN.toTR {s : ByteArray} {nds : List Nd} {g : Nat} {J : JT} {i j : Nat} {t : List UInt8} {ev : List (Nat × Nat × Nat)} (h : TN s nds g J i j t ev) : J.ok s nds i j t ev := by
 have hno : ∀ {k : Nat} {nd nd' : Nd} {a b : Nat} {P : Prop}, nds[k]? = some nd → nd.kind = a → nds[k]? = some nd' → nd'.kind = b → a ≠ b → P := by
  intro k nd nd' a b P e h e' h' hab
  cases e.symm.trans e'
  exact absurd (h.symm.trans h') hab
 induction h with
 | byte k nd i j e hk =>
  show ∀ {kd : Kd} {x : Pat}, repK nds kd x k → shp x kd → TR s (.node x) i j _ _
  intro kd0 x0 hr0 hs0
  refine node_lift (C := fun x => TR s (.node x) i j _ _) (fun y => .lone y i j _ _) (fun y => .wone y i j _ _) ?_ (fun e' hk' _ _ _ => hno e hk e' hk' (by decide)) (fun e' hk' _ _ _ => hno e hk e' hk' (by decide)) hr0 hs0
  intro x kd hkd hr hs
  rcases one_kind hkd hr hs e with ⟨_, f, rfl⟩ | ⟨h', _⟩ | ⟨h', _⟩
  ·exact .byte f i j
  ·omega
  ·omega
 | grp k nd c i j t ev e hk hc _ _ ih =>
  show ∀ {kd : Kd} {x : Pat}, repK nds kd x k → shp x kd → TR s (.node x) i j _ _
  intro kd0 x0 hr0 hs0
  refine node_lift (C := fun x => TR s (.node x) i j _ _) (fun y => .lone y i j _ _) (fun y => .wone y i j _ _) ?_ (fun e' hk' _ _ _ => hno e hk e' hk' (by decide)) (fun e' hk' _ _ _ => hno e hk e' hk' (by decide)) hr0 hs0
  intro x kd hkd hr hs
  rcases one_kind hkd hr hs e with ⟨h', _⟩ | ⟨_, y, c', lw, rfl, hc', hr', hl, hy⟩ | ⟨h', _⟩
  ·omega
  ·rw [hc] at hc'
   simp only [List.cons.injEq, and_true] at hc'
   subst hc'
   exact .grp _ y i j t ev (ih (kd := .ways) ⟨lw, hr', hl⟩ hy)
  ·omega
 | alt k nd i j t ev e hk _ ih =>
  show ∀ {kd : Kd} {x : Pat}, repK nds kd x k → shp x kd → TR s (.node x) i j _ _
  intro kd0 x0 hr0 hs0
  refine node_lift (C := fun x => TR s (.node x) i j _ _) (fun y => .lone y i j _ _) (fun y => .wone y i j _ _) ?_ (fun e' hk' _ _ _ => hno e hk e' hk' (by decide)) ?_ hr0 hs0
  ·intro x kd hkd hr hs
   rcases one_kind hkd hr hs e with ⟨h', _⟩ | ⟨h', _⟩ | ⟨h', _⟩ <;> omega
  ·intro x nd' e' hk' hne hr hs
   cases e.symm.trans e'
   cases x with
   | wone y => obtain ⟨c, lp, hl, _⟩ := hr; rw [hl] at hne; exact absurd rfl hne
   | wcons y r => exact .wcons y r i j t ev (ih hr hs)
   | _ => exact hs.elim
 | none k nd i j e hk hkids =>
  show ∀ {kd : Kd} {x : Pat}, repK nds kd x k → shp x kd → TR s (.node x) i j _ _
  intro kd0 x0 hr0 hs0
  refine node_lift (C := fun x => TR s (.node x) i j _ _) (fun y => .lone y i j _ _) (fun y => .wone y i j _ _) ?_ ?_ (fun e' hk' _ _ _ => hno e hk e' hk' (by decide)) hr0 hs0
  ·intro x kd hkd hr hs
   rcases one_kind hkd hr hs e with ⟨h', _⟩ | ⟨h', _⟩ | ⟨h', _⟩ <;> omega
  ·intro x nd' e' hk' hne hr hs
   cases e.symm.trans e'
   rw [hkids] at hr
   cases x with
   | pnil => exact .nil i j
   | pcons y r => obtain ⟨c, lp, hl, _⟩ := hr; cases hl
   | _ => exact hs.elim
 | way k nd i j t ev e hk hkids _ ih =>
  show ∀ {kd : Kd} {x : Pat}, repK nds kd x k → shp x kd → TR s (.node x) i j _ _
  intro kd0 x0 hr0 hs0
  refine node_lift (C := fun x => TR s (.node x) i j _ _) (fun y => .lone y i j _ _) (fun y => .wone y i j _ _) ?_ ?_ (fun e' hk' _ _ _ => hno e hk e' hk' (by decide)) hr0 hs0
  ·intro x kd hkd hr hs
   rcases one_kind hkd hr hs e with ⟨h', _⟩ | ⟨h', _⟩ | ⟨h', _⟩ <;> omega
  ·intro x nd' e' hk' hne hr hs
   cases e.symm.trans e'
   cases x with
   | pnil => exact absurd hr hkids
   | pcons y r =>
    cases r with
    | pnil =>
     obtain ⟨c, lp, hl, _, h2⟩ := hr
     cases h2
     rw [hl] at hne
     exact absurd rfl hne
    | pcons z q => exact .row y z q i j t ev (ih hr hs)
    | _ => exact hs.2.elim
   | _ => exact hs.elim
 | rep k nd c i j t ev e hk hc _ ih =>
  show ∀ {kd : Kd} {x : Pat}, repK nds kd x k → shp x kd → TR s (.node x) i j _ _
  intro kd0 x0 hr0 hs0
  refine node_lift (C := fun x => TR s (.node x) i j _ _) (fun y => .lone y i j _ _) (fun y => .wone y i j _ _) ?_ (fun e' hk' _ _ _ => hno e hk e' hk' (by decide)) (fun e' hk' _ _ _ => hno e hk e' hk' (by decide)) hr0 hs0
  intro x kd hkd hr hs
  rcases one_kind hkd hr hs e with ⟨h', _⟩ | ⟨h', _⟩ | ⟨_, y, c', rfl, hc', hr', hy⟩
  ·omega
  ·omega
  ·rw [hc] at hc'
   simp only [List.cons.injEq, and_true] at hc'
   subst hc'
   exact .rep _ _ y i j t ev (ih hr' hy)
 | kend i j =>
  intro x hr hs
  cases x with
  | pnil => exact .kend i j
  | pcons y r => obtain ⟨c, lp, hl, _⟩ := hr; cases hl
  | _ => exact hs.elim
 | kgo c l i j m t u ev fv hc _ _ ih1 ih2 =>
  intro x hr hs
  cases x with
  | pnil => cases hr
  | pcons y r =>
   obtain ⟨c', l', hl, h1, h2⟩ := hr
   simp only [List.cons.injEq] at hl
   obtain ⟨rfl, rfl⟩ := hl
   refine .kgo y r i j m t u ev fv (hc.congr fun q => ?_) (ih1 (kd := .piece) h1 hs.1) (ih2 h2 hs.2)
   rw [show Mt s y i q ↔ MN s nds (.row [c]) i q from rep_Mt hs.1 h1, MN.row_one, show Mt s r q j ↔ MN s nds (.row l) q j from rep_Mt hs.2 h2]
  | _ => exact hs.elim
 | tend c mn mx i j hn => intro x _ _; exact .tend mn mx x i j hn
 | tgo c mn mx i j m t u ev fv hg hc _ _ ih1 ih2 =>
  intro x hr hs
  have h1 : ∀ i j, Mt s x i j ↔ MN s nds (.node c) i j := fun i j => by rw [← MN.row_one]; exact rep_Mt hs hr
  refine .tgo mn mx x i j m t u ev fv hg (hc.congr fun q => ?_) (ih1 (kd := .single) hr hs) (ih2 hr hs)
  have h2 : ∀ n i j, It (fun i j => MN s nds (.node c) i j) n i j ↔ MN s nds (.it c n) i j := MN.it_iff fun _ _ => Iff.rfl
  rw [h1]
  constructor
  ·rintro ⟨a, n, b, d, e⟩; exact ⟨a, n, b, d, (MN.it_iff h1 n q j).2 ((h2 n q j).1 e)⟩
  ·rintro ⟨a, n, b, d, e⟩; exact ⟨a, n, b, d, (h2 n q j).2 ((MN.it_iff h1 n q j).1 e)⟩
 | hit p c l i j t ev hm _ ih =>
  intro x hr hs
  cases x with
  | wone y =>
   obtain ⟨c', lp, hl, h1, h2⟩ := hr
   simp only [List.cons.injEq] at hl
   obtain ⟨rfl, rfl⟩ := hl
   exact .last p y i j t ev (ih (kd := .way) ⟨lp, h1, h2⟩ hs)
  | wcons y r =>
   obtain ⟨c', lp, l', hl, ⟨h1, h2⟩, h3⟩ := hr
   simp only [List.cons.injEq] at hl
   obtain ⟨rfl, rfl⟩ := hl
   refine .hit p y r i j t ev ?_ (ih (kd := .way) ⟨lp, h1, h2⟩ hs.1)
   rw [show Mt s y i j ↔ MN s nds (.row lp) i j from rep_Mt hs.1 h1, h2.way_iff]
   exact hm
  | _ => exact hs.elim
 | miss p c l i j t ev hm hrest ih =>
  intro x hr hs
  cases x with
  | wone y =>
   obtain ⟨c', lp, hl, h1, h2⟩ := hr
   simp only [List.cons.injEq] at hl
   obtain ⟨rfl, rfl⟩ := hl
   cases hrest
  | wcons y r =>
   obtain ⟨c', lp, l', hl, ⟨h1, h2⟩, h3⟩ := hr
   simp only [List.cons.injEq] at hl
   obtain ⟨rfl, rfl⟩ := hl
   refine .miss p y r i j t ev ?_ (ih h3 hs.2)
   rw [show Mt s y i j ↔ MN s nds (.row lp) i j from rep_Mt hs.1 h1, h2.way_iff]
   exact hm
  | _ => exact hs.elim
end Go.Proofs.YtnfojonmohijpaaGreatDoor
