/-
  DERIVED. The contract of the program's way, over a contract of ways for what is shorter. Conditions: the text is at most 60 bytes long, the place is within it, the variable classNames holds the seven names.
-/
import Derived.Test.YtnfojonmohijpaaGreatDoorJPS
import Derived.Test.YtnfojonmohijpaaGreatDoorJNA
import Derived.Deep.AppendLies
set_option linter.unusedSimpArgs false
set_option linter.unusedVariables false
namespace Go.Proofs.YtnfojonmohijpaaGreatDoor
open Go.RowKit
theorem Rep.snocP {w : World} {S : Nat → Prop} {y : Pat} {ds : List Value} (hy : Rep w S .piece y ds) : ∀ {xs : List Pat} {cs : List Value}, Rep w S .plist (app xs .pnil) cs → Rep w S .plist (app (xs ++ [y]) .pnil) (cs ++ ds)
 | [], cs, h => by
  cases h with
  | pnil =>
   have := Rep.pcons y .pnil ds [] hy .pnil
   simpa [app] using this
 | x :: xs, cs, h => by
  cases h with
  | pcons _ _ a b h1 h2 =>
   rw [List.append_assoc]
   exact .pcons x _ a _ h1 (Rep.snocP hy h2)
structure YL (p : QS) (b : Nat) (w wr : World) (v : Value) (xs : List Pat) (cs : List Value) (i g1 : Nat) : Prop where
 qb : QB wr b { p with ix := i, gr := g1 }
 own : wr.ownsRow 0 212 261 v xs.length cs
 fresh : ∀ g, v.ownBlock = some g → w.heap.size ≤ g
 rep : Rep wr (fun g => w.heap.size ≤ g ∧ v.ownBlock ≠ some g) .plist (app xs .pnil) cs
 gn : GN wr
 keep : Keeps [b] w wr
 ile : i ≤ p.s.size
 len : p.ix + xs.length ≤ i
 gle : g1 ≤ 9
 spec : ∀ q, G p.s .way p.op g1 i q → G p.s .way p.op p.gr p.ix (q.map fun y => (app xs y.1, y.2))
theorem YL.start {p : QS} {b : Nat} {w : World} (hp : QB w b p) (hgn : GN w) (hle : p.ix ≤ p.s.size) (hgr : p.gr ≤ 9) : YL p b w w (.slice none 0 0) [] [] p.ix p.gr := by
 refine ⟨hp, ⟨rfl, .inl ⟨rfl, rfl⟩⟩, ?_, .pnil, hgn, Keeps.refl _ _, hle, by simp, hgr, ?_⟩
 ·intro g h
  simp [Value.ownBlock] at h
 ·intro q hq
  have : (q.map fun y => (app [] y.1, y.2)) = q := by cases q <;> rfl
  rw [this]; exact hq
theorem YL.done {p : QS} {b : Nat} {w wr : World} {v : Value} {xs : List Pat} {cs : List Value} {i g1 : Nat} (L : YL p b w wr v xs cs i g1) (h : aheadB (at' p.s i) = false) : WPost .way .way b p w (.returned v) wr := by
 by_cases hst : stopC (at' p.s i)
 ·refine ⟨_, L.spec _ (.nil _ _ _ hst), L.keep, v, rfl, ?_, L.qb⟩
  exact .way _ cs v xs.length (L.rep.mono fun g h _ => h.1) L.own fun g hg => L.fresh g hg
 ·have hn : notC (at' p.s i) := by
     unfold aheadB at h
     simp only [decide_eq_false_iff_not] at h
     unfold stopC at hst
     refine Classical.byContradiction fun hc => h ⟨by omega, hc⟩
  refine ⟨_, L.spec _ (.pbad _ _ _ _ hst (.sbad _ _ _ _ (.no _ _ _ hn))), L.keep, Or.inr ⟨v, g1, rfl, ownsRow_sl L.own, L.qb, ?_, by have := L.len; omega⟩⟩
  unfold notC at hn
  unfold stopC at hst
  unfold oddC
  omega
theorem built_pc (cs : List Value) (o : Option (Nat × Int)) (h : cs.length = 258) : Tryz.prog.built 212 [(0, .agg cs.toArray), (1, .agg (repC o).toArray)] = some (cs ++ repC o).toArray := by
 rw [built_piece]
 have e1 := fill_one plP 0 (.agg cs.toArray) [(1, .agg (repC o).toArray)] [] (sc (.int .i64 0) (.slice none 0 0) (fun _ => false)) [Value.bool false, Value.int .i64 0, Value.int .i64 0] (by rw [sc_len]; rfl) (by rw [sc_len]; simpa [Value.cells] using h)
 have e2 := fill_one plP 1 (.agg (repC o).toArray) [] cs [.bool false, .int .i64 0, .int .i64 0] [] (by rw [h]; rfl) (by simp [Value.cells, repC_len])
 simp only [List.append_nil, List.nil_append, Value.cells] at e1 e2
 exact e1.trans (e2.trans rfl)
theorem wp_build2 {o : Oper} {a : Act} {w : World} {K : Act → World → Prop} {Q : Exit → Act → World → Prop} (t i0 i1 : Nat) (x0 x1 : Operand) (ho : o.op = .build t #[(i0, x0), (i1, x1)])
    (v0 v1 : Value) (h0 : a.eval x0 = v0) (h1 : a.eval x1 = v1) (cells : Array Value) (hf : Tryz.prog.built t [(i0, v0), (i1, v1)] = some cells) (h : K (a.put o.dst (.agg cells)) w) : o.wp Tryz.prog a w K Q := by
 subst h0 h1
 have hf' : Tryz.prog.built t ((#[(i0, x0), (i1, x1)] : Array (Nat × Operand)).map fun (i, x) => (i, a.eval x)).toList = some cells := by simpa using hf
 refine wp_build t _ ho (by rw [hf']; rfl) ?_
 rw [hf']
 exact h
theorem wp_pslice {o : Oper} {a : Act} {w : World} {K : Act → World → Prop} {Q : Exit → Act → World → Prop} (x : Operand) (ho : o.op = .buildSlice 204 1 #[(0, x)]) (pc : List Value) (hx : a.eval x = .agg pc.toArray) (hl : pc.length = 261)
    (h : K (a.put o.dst (.slice (some ⟨w.heap.size, 0, none⟩) 1 1)) (w.alloc (.cells pc.toArray 212))) : o.wp Tryz.prog a w K Q := by
 obtain ⟨i0, hi0, hz0, hz1, hz2⟩ := info_parts infoPiece
 refine wp_buildSlice 204 212 1 #[(0, x)] ho pc.toArray i0 _ Tryz.underlying204 hi0 hz0 (by rw [hz1]; decide) (by rw [hz1]; decide) ?_ h
 rw [hz1]
 have := piece_fill pc hl
 have e : (Value.agg pz.toArray).cells.size = 261 := by simp [Value.cells, pz_len]
 have e2 : ((#[(0, x)] : Array (Nat × Operand)).map fun (i, x) => (i, a.eval x)).toList = [(0, .agg pc.toArray)] := by simp [hx]
 rw [e, e2]
 exact this
theorem Rmap_map {α β γ : Type} (q : R α) (f : α → β) (g : β → γ) : (q.map f).map g = q.map fun x => g (f x) := by cases q <;> rfl
theorem YL.next {p : QS} {b : Nat} {w w1 X w5 w7 : World} {v : Value} {xs : List Pat} {cs c1 : List Value} {i j k g1 g2 g g' cap : Nat} {x : Pat} {o : Option (Nat × Int)} (L : YL p b w w1 v xs cs i g1) (hbl : b < w.heap.size) (hgl : 6 < w.heap.size) (hbg : b ≠ 6)
    (hst : ¬ stopC (at' p.s i)) (hG : G p.s .single p.op g1 i (.ok (x, g2) j)) (hR : RepR p.s j (.ok o k)) (hkV : Keeps [b] w1 X) (hrepV : Rep X (fun y => w1.heap.size ≤ y ∧ y < g) .single x c1) (hgX : g < X.heap.size)
    (hk5 : Keeps [b] X w5) (hq5 : QB w5 b { p with ix := k, gr := g2 }) (hij : i < j) (hjle : j ≤ p.s.size) (hg2 : g2 ≤ 9)
    (hown : w7.ownsRow 0 212 261 (.slice (some ⟨g', 0, none⟩) (xs.length + 1) cap) (xs.length + 1) (cs ++ (c1 ++ repC o))) (hgrow : (w5.alloc (.cells (c1 ++ repC o).toArray 212)).grownBy w7 v.ownBlock) (hat : v.ownBlock = some g' ∨ g' = w5.heap.size + 1) :
    YL p b w w7 (.slice (some ⟨g', 0, none⟩) (xs.length + 1) cap) (xs ++ [withRep x o]) (cs ++ (c1 ++ repC o)) k g2 := by
 have hk7 : Keeps v.ownBlock.toList w5 w7 := ((Keeps.refl v.ownBlock.toList w5).alloc _).trans (Keeps.ofGrown hgrow)
 have hfr : ∀ y, y ∈ v.ownBlock.toList → w.heap.size ≤ y := by
  intro y hy
  rw [Option.mem_toList] at hy
  exact L.fresh y hy
 have hvl := World.ownsRow.lt L.own
 have hk15 : Keeps [b] w1 w5 := hkV.trans hk5
 have s1 := L.keep.size
 have s5 := hk5.size
 have s15 := hk15.size
 have hkok := hR.ok
 refine ⟨hq5.keep hk7 ?_, ?_, ?_, ?_, (L.gn.keep hk15 ?_).keep hk7 ?_, (L.keep.trans hk15).fresh hk7 ?_, hkok.2 hjle, ?_, hg2, ?_⟩
 ·intro h; have := hfr b h; omega
 ·rw [List.length_append, List.length_singleton]; exact hown
 ·intro y hy
  cases hy
  rcases hat with h | h
  ·exact L.fresh _ h
  ·show w.heap.size ≤ g'; omega
 ·refine Rep.snocP (.piece x o c1 hR.okRep ?_) ?_
  ·refine ((hrepV.keep hk5 (by intro y hy; simp; have := L.qb.lt; omega)).keep hk7 ?_).mono ?_
   ·intro y hy hm
    rw [Option.mem_toList] at hm
    have := (hvl y hm).2
    omega
   ·intro y hy _
    refine ⟨by omega, ?_⟩
    intro e
    cases e
    rcases hat with h | h
    ·have := (hvl _ h).2; have := hy.1; simp at this; omega
    ·have := hy.2; simp at this; omega
  ·refine (((L.rep.mono (S' := fun y => (w.heap.size ≤ y ∧ v.ownBlock ≠ some y) ∧ y < w1.heap.size) fun y h1 h2 => ⟨h1, h2⟩).keep hk15 ?_).keep hk7 ?_).mono ?_
   ·intro y hy; have := hy.1.1; simp; omega
   ·intro y hy hm
    rw [Option.mem_toList] at hm
    exact hy.1.2 hm
   ·intro y hy _
    refine ⟨hy.1.1, ?_⟩
    intro e
    cases e
    rcases hat with h | h
    ·exact hy.1.2 h
    ·have := hy.2; simp at this; omega
 ·simp; omega
 ·intro h; have := hfr _ h; omega
 ·intro y hy; right; exact hfr y hy
 ·rw [List.length_append, List.length_singleton]
  have := L.len
  have := hkok.1
  omega
 ·intro q' hq'
  have h1 : G p.s .piece p.op g1 i (.ok (withRep x o, g2) k) := .rep _ _ _ _ _ _ _ hG hR
  have h2 := L.spec _ (.cons _ _ _ _ _ _ _ hst h1 hq')
  rw [Rmap_map] at h2
  have e : (fun y : Pat × Nat => (app (xs ++ [withRep x o]) y.1, y.2)) = fun y => (app xs (Pat.pcons (withRep x o) y.1), y.2) := by
   funext y; rw [app_snoc]
  rw [e]
  exact h2
set_option maxRecDepth 100000 in
set_option maxHeartbeats 2000000 in
theorem way_prog (n : Nat) (IH : WaysOk n) (b : Nat) (p : QS) (w : World) (hp : QB w b p) (hgn : GN w) (hbg : b ≠ 6) (hs : p.s.size ≤ 60) (hle : p.ix ≤ p.s.size) (hop : p.op ≤ 6) (hgr : p.gr ≤ 9) (hn : p.s.size - p.ix ≤ n) :
    Calls Tryz.prog 166 #[.pointer (some ⟨b, 0, none⟩)] w (WPost .way .way b p w) := by
 have hbl := hp.lt
 have hgl := hgn.lt
 go_enter Tryz.func166, Tryz.ntmps166
 go_wp2_with fail
 go_loopw [3] (fun v wr => ∃ xs cs i g1, YL p b w wr v xs cs i g1) (fun _ wr => muQ wr b)
 case atStart => exact ⟨[], [], p.ix, p.gr, YL.start hp hgn hle hgr⟩
 case round =>
  obtain ⟨xs, cs, i, g1, L⟩ := hrel
  clear hp hgn
  have hmu := muQ_eq L.qb
  go_wp2_with fail
  refine (singleAhead_any b { p with ix := i, gr := g1 } _ L.qb L.ile hs).mono ?_
  rintro e w1 ⟨rfl, hq1, hk1⟩
  have L1 : YL p b w w1 u3 xs cs i g1 := ⟨hq1, L.own.keep hk1 (by simp), L.fresh, L.rep.keep hk1 (by simp), L.gn.keep hk1 (by simp), L.keep.trans (hk1.mono (by simp)), L.ile, L.len, L.gle, L.spec⟩
  have hcur : QS.cur { p with ix := i, gr := g1 } = at' p.s i := rfl
  rw [hcur]
  clear L hk1 hq1 hcur
  cases hah : aheadB (at' p.s i) with
  | false =>
   go_wp2_with fail
   go_ret
   exact L1.done hah
  | true =>
   have hah' : 0 ≤ at' p.s i ∧ ¬ notC (at' p.s i) := by unfold aheadB at hah; simpa using hah
   have hst : ¬ stopC (at' p.s i) := by
    have := hah'.2
    unfold notC at this
    unfold stopC
    omega
   have hlen := L1.len
   go_wp2_with fail
   refine (single_prog n IH b { p with ix := i, gr := g1 } _ L1.qb L1.gn hbg hs hah' hop L1.gle (by simp; omega)).mono ?_
   rintro e w2 ⟨q, hG, hk2, hc2⟩
   have hbl1 := L1.qb.lt
   cases q with
   | bad j =>
    subst hc2
    simp only [fault]
    exact ⟨rfl, _, L1.spec _ (.pbad _ _ _ _ hst (.sbad _ _ _ _ hG)), L1.keep.trans hk2, Or.inl rfl⟩
   | ok y j =>
    obtain ⟨x, g2⟩ := y
    obtain ⟨c1, rfl, hrep, hq2⟩ := hc2
    have hokb := hG.okb x g2 j rfl
    have hij : i < j := hokb.2.2.1 (Or.inr rfl)
    have hjle : j ≤ p.s.size := hokb.2.1 L1.ile
    have hg2 : g2 ≤ 9 := hokb.2.2.2.2 L1.gle
    have hl1 : c1.length = 258 := hrep.cells.2
    have hzz : sz.toArray.size = c1.toArray.size := by simp [sz_len, hl1]
    have hgc := hrep.cells.1
    have hr0 : SRow (w2.alloc (.cells sz.toArray 208)) w2.heap.size sz := heap_alloc_new w2 _
    have hk3 : Keeps [] w2 (w2.alloc (.cells sz.toArray 208)) := (Keeps.refl [] w2).alloc _
    have HG : Hid (G p.s .single p.op g1 i (.ok (x, g2) j)) := hG
    clear hokb hG hah hah'
    go_wp2_with (first | (refine wpList_zeroSingle rfl rfl (some 4) rfl ?_; generalize w2.alloc (.cells sz.toArray 208) = W at *) | (refine wpList_store_row rfl 208 _ _ rfl w2.heap.size _ rfl rfl _ _ hr0 (infoSingleC hl1) hzz (one_all hgc) ?_))
    obtain ⟨q, hq⟩ := RepR.some p.s j
    obtain ⟨g, hg⟩ : ∃ g, w2.heap.size = g := ⟨_, rfl⟩
    rw [hg] at hr0 ⊢
    have hkS := (Keeps.refl [g] W).setRow (g := g) (by simp) c1.toArray
    have hrS : SRow (W.setRow g c1.toArray) g c1 := setRow_heap _ _ _ _ _ _ hr0
    have hkW : Keeps [b] w1 (W.setRow g c1.toArray) := ((hk2.trans (hk3.mono (by simp)))).setRow (Or.inr (by have := hk2.size; omega)) _
    have hqW : QB (W.setRow g c1.toArray) b { p with ix := j, gr := g2 } := (hq2.keep hk3 (by simp)).keep hkS (by have := hq2.lt; simp; omega)
    have hrepW : Rep (W.setRow g c1.toArray) (fun y => w1.heap.size ≤ y ∧ y < g) .single x c1 := ((hrep.mono (S' := fun y => w1.heap.size ≤ y ∧ y < g) (by intro y hy hy2; exact ⟨hy, by omega⟩)).keep hk3 (by simp)).keep hkS (by intro y hy; simp; omega)
    have hgl2 : g < (W.setRow g c1.toArray).heap.size := hrS.lt
    have hbg2 : b < g := by have := hq2.lt; omega
    have hg1 : w1.heap.size ≤ g := by have := hk2.size; omega
    clear hr0 hk3 hkS hk2 hq2 hrep
    generalize W.setRow g c1.toArray = V at *
    have hwD : Keeps [] V V.drew := (Keeps.refl [] V).drewN 1
    have hkV : Keeps [b] w1 V.drew := hkW.trans (hwD.mono (by simp))
    have hrV := hrS.keep hwD (by simp)
    have hqV := hqW.keep hwD (by simp)
    have hrepV := hrepW.keep hwD (by simp)
    have hgV : g < V.drew.heap.size := hgl2
    clear hkW hrS hqW hrepW hgl2 hwD
    refine wp_region_any (by kernel_rfl) ?_
    change wpAny _ _ _ _ _ _ _ (World.drew _)
    generalize V.drew = X at *
    refine wpAny_take (i := 0) (v := u3) rfl (by kernel_rfl) (by kernel_rfl) (by kernel_rfl) (fun _ _ _ h => h) (Or.inl ⟨by rfl, fun w => by go_simp⟩) ?_
    refine wpAny_take (i := 2) (v := .pointer (some ⟨b, 0, none⟩)) rfl (by kernel_rfl) (by kernel_rfl) (by kernel_rfl) (fun _ _ _ h => h) (Or.inl ⟨by rfl, fun w => by go_simp⟩) ?_
    refine wpAny_ready (rs := [1, 3]) (by kernel_rfl) (by simp) ?_
    refine AllReady.cons rfl (fun K hK => ?_) (AllReady.cons rfl (fun K hK => ?_) AllReady.nil)
    ·rw [if_pos (by rfl)]
     refine wp_load_row 208 _ rfl g rfl _ _ _ _ hrV Tryz.underlying208 rfl (infoSingleC hl1) (hK _ _ ?_)
     clear hK K
     refine wpAny_ready (rs := [3]) (by kernel_rfl) (by simp) ?_
     refine AllReady.cons rfl (fun K hK => ?_) AllReady.nil
     go_simp
     refine (repeat_prog b { p with ix := j, gr := g2 } X hqV hs hjle q hq).mono ?_
     rintro e w5 ⟨hk5, hc5⟩
     cases q with
     | bad k =>
      subst hc5
      simp only [fault]
      refine ⟨rfl, _, L1.spec _ (.pbad _ _ _ _ hst (.rep _ _ _ _ _ _ _ HG.out hq)), (L1.keep.trans hkV).trans hk5, Or.inl rfl⟩
     | ok o k =>
     obtain ⟨rfl, hq5⟩ := hc5
     refine hK _ _ ?_
     clear hK K
     have hbp := built_pc c1 o hl1
     have hpl : (c1 ++ repC o).length = 261 := by simp [hl1, repC_len]
     have hp1c : ∀ u ∈ c1 ++ repC o, u.oneCell' = true := (Rep.piece x o c1 hq.okRep hrepV).cells.1
     obtain ⟨i0, hi0, hz0, hz1, hz2⟩ := info_parts infoPiece
     have hlm : xs.length + 1 ≤ maxLen := by unfold maxLen; have := L1.ile; omega
     have hbn : u3.ownBlock ≠ some b := by intro e; have := L1.fresh b e; omega
     have hown5 := (L1.own.keep hkV (by intro y hy hm; simp at hm; subst hm; exact hbn hy)).keep hk5 (by intro y hy hm; simp at hm; subst hm; exact hbn hy)
     refine wpAny_ready (rs := [4]) (by kernel_rfl) (by simp) ?_
     refine AllReady.cons rfl (fun K hK => ?_) AllReady.nil
     rw [if_pos (by rfl)]
     refine wp_build2 212 0 1 _ _ rfl (.agg c1.toArray) (.agg (repC o).toArray) rfl rfl _ hbp (hK _ _ ?_)
     clear hK K
     refine wpAny_ready (rs := [5]) (by kernel_rfl) (by simp) ?_
     refine AllReady.cons rfl (fun K hK => ?_) AllReady.nil
     rw [if_pos (by rfl)]
     refine wp_pslice _ rfl (c1 ++ repC o) rfl hpl (hK _ _ ?_)
     clear hK K
     refine wpAny_ready (rs := [6]) (by kernel_rfl) (by simp) ?_
     refine AllReady.cons rfl (fun K hK => ?_) AllReady.nil
     refine step_append_lies _ rfl _ _ _ rfl 0 212 i0 _ 261 312 Tryz.underlying204 hi0 hz0 hz1 hz2 (by simp [Value.cells, pz_len]) (by omega) u3 xs.length cs rfl (hown5.alloc _) ⟨w5.heap.size, 0, none⟩ 1 1 (c1 ++ repC o) rfl (by rw [hpl]) (World.news_of_block (cs := (c1 ++ repC o).toArray) (t := 212) (fr := (0, 0)) (heap_alloc_new w5 _)) hp1c (by omega) hlm (by omega) (by simp) (w5.heap.size + 1) (by simp) ?_
     intro g' cap w7 hown7 hgrow hat hlt7
     refine hK _ _ ?_
     clear hK K
     have L7 := L1.next hbl hgl hbg hst HG.out hq hkV hrepV hgV hk5 hq5 hij hjle hg2 hown7 hgrow hat
     refine wpAny_ready (rs := [7]) (by kernel_rfl) (by simp) ?_
     refine AllReady.cons rfl (fun K hK => ?_) AllReady.nil
     go_simp
     refine hK _ _ ?_
     clear hK K
     refine wpAny_done (by kernel_rfl) ?_ _
     go_wp2_with fail
     go_roundw
     case rel => exact ⟨_, _, _, _, L7⟩
     case measure => rw [hmu, muQ_eq L7.qb]; have := hq.ok; simp; omega
    ·go_simp
     refine (repeat_prog b { p with ix := j, gr := g2 } X hqV hs hjle q hq).mono ?_
     rintro e w5 ⟨hk5, hc5⟩
     cases q with
     | bad k =>
      subst hc5
      simp only [fault]
      refine ⟨rfl, _, L1.spec _ (.pbad _ _ _ _ hst (.rep _ _ _ _ _ _ _ HG.out hq)), (L1.keep.trans hkV).trans hk5, Or.inl rfl⟩
     | ok o k =>
     obtain ⟨rfl, hq5⟩ := hc5
     refine hK _ _ ?_
     clear hK K
     have hbp := built_pc c1 o hl1
     have hpl : (c1 ++ repC o).length = 261 := by simp [hl1, repC_len]
     have hp1c : ∀ u ∈ c1 ++ repC o, u.oneCell' = true := (Rep.piece x o c1 hq.okRep hrepV).cells.1
     obtain ⟨i0, hi0, hz0, hz1, hz2⟩ := info_parts infoPiece
     have hlm : xs.length + 1 ≤ maxLen := by unfold maxLen; have := L1.ile; omega
     have hbn : u3.ownBlock ≠ some b := by intro e; have := L1.fresh b e; omega
     have hown5 := (L1.own.keep hkV (by intro y hy hm; simp at hm; subst hm; exact hbn hy)).keep hk5 (by intro y hy hm; simp at hm; subst hm; exact hbn hy)
     have hr5 := hrV.keep hk5 (by simp; omega)
     refine wpAny_ready (rs := [1]) (by kernel_rfl) (by simp) ?_
     refine AllReady.cons rfl (fun K hK => ?_) AllReady.nil
     rw [if_pos (by rfl)]
     refine wp_load_row 208 _ rfl g rfl _ _ _ _ hr5 Tryz.underlying208 rfl (infoSingleC hl1) (hK _ _ ?_)
     clear hK K
     refine wpAny_ready (rs := [4]) (by kernel_rfl) (by simp) ?_
     refine AllReady.cons rfl (fun K hK => ?_) AllReady.nil
     rw [if_pos (by rfl)]
     refine wp_build2 212 0 1 _ _ rfl (.agg c1.toArray) (.agg (repC o).toArray) rfl rfl _ hbp (hK _ _ ?_)
     clear hK K
     refine wpAny_ready (rs := [5]) (by kernel_rfl) (by simp) ?_
     refine AllReady.cons rfl (fun K hK => ?_) AllReady.nil
     rw [if_pos (by rfl)]
     refine wp_pslice _ rfl (c1 ++ repC o) rfl hpl (hK _ _ ?_)
     clear hK K
     refine wpAny_ready (rs := [6]) (by kernel_rfl) (by simp) ?_
     refine AllReady.cons rfl (fun K hK => ?_) AllReady.nil
     refine step_append_lies _ rfl _ _ _ rfl 0 212 i0 _ 261 312 Tryz.underlying204 hi0 hz0 hz1 hz2 (by simp [Value.cells, pz_len]) (by omega) u3 xs.length cs rfl (hown5.alloc _) ⟨w5.heap.size, 0, none⟩ 1 1 (c1 ++ repC o) rfl (by rw [hpl]) (World.news_of_block (cs := (c1 ++ repC o).toArray) (t := 212) (fr := (0, 0)) (heap_alloc_new w5 _)) hp1c (by omega) hlm (by omega) (by simp) (w5.heap.size + 1) (by simp) ?_
     intro g' cap w7 hown7 hgrow hat hlt7
     refine hK _ _ ?_
     clear hK K
     have L7 := L1.next hbl hgl hbg hst HG.out hq hkV hrepV hgV hk5 hq5 hij hjle hg2 hown7 hgrow hat
     refine wpAny_ready (rs := [7]) (by kernel_rfl) (by simp) ?_
     refine AllReady.cons rfl (fun K hK => ?_) AllReady.nil
     go_simp
     refine hK _ _ ?_
     clear hK K
     refine wpAny_done (by kernel_rfl) ?_ _
     go_wp2_with fail
     go_roundw
     case rel => exact ⟨_, _, _, _, L7⟩
     case measure => rw [hmu, muQ_eq L7.qb]; have := hq.ok; simp; omega
end Go.Proofs.YtnfojonmohijpaaGreatDoor
namespace Go.Proofs.YtnfojonmohijpaaGreatDoor
open Go.RowKit
theorem Rep.snocW {w : World} {S : Nat → Prop} {x y : Pat} {u : Value} (hy : Rep w S .way y [u]) : ∀ {ys : List Pat} {cs : List Value}, Rep w S .wlist (appW ys (.wone x)) cs → Rep w S .wlist (appW (ys ++ [x]) (.wone y)) (cs ++ [u])
 | [], cs, h => by
  cases h with
  | wone _ v h1 => exact .wcons x _ v [u] h1 (.wone y u hy)
 | z :: ys, cs, h => by
  cases h with
  | wcons _ _ v vs h1 h2 => exact .wcons z _ v _ h1 (Rep.snocW hy h2)
structure ZL (p : QS) (b : Nat) (w wr : World) (v : Value) (ys : List Pat) (x : Pat) (cs : List Value) (i g1 i0 g0 : Nat) : Prop where
 qb : QB wr b { p with ix := i, gr := g1 }
 own : wr.ownsRow 0 204 1 v (ys.length + 1) cs
 fresh : ∀ g, v.ownBlock = some g → w.heap.size ≤ g
 rep : Rep wr (fun g => w.heap.size ≤ g ∧ v.ownBlock ≠ some g) .wlist (appW ys (.wone x)) cs
 gn : GN wr
 keep : Keeps [b] w wr
 ile : i ≤ p.s.size
 len : p.ix + ys.length ≤ i
 gle : g1 ≤ 9
 last : G p.s .way p.op g0 i0 (.ok (x, g1) i)
 spec : ∀ q, G p.s .ways p.op g0 i0 q → G p.s .ways p.op p.gr p.ix (q.map fun y => (appW ys y.1, y.2))
structure ZO (p : QS) (b : Nat) (w wr : World) (v : Value) (j g1 : Nat) : Prop where
 qb : QB wr b { p with ix := j, gr := g1 }
 sl : IsSl v
 keep : Keeps [b] w wr
 odd : oddC (at' p.s j)
 ge : p.ix ≤ j
 spec : G p.s .ways p.op p.gr p.ix (.bad j)
theorem ZL.done {p : QS} {b : Nat} {w wr : World} {v : Value} {ys : List Pat} {x : Pat} {cs : List Value} {i g1 i0 g0 : Nat} (L : ZL p b w wr v ys x cs i g1 i0 g0) (h : at' p.s i ≠ 124) : WPost .ways .ways b p w (.returned v) wr := by
 refine ⟨_, L.spec _ (.one _ _ _ _ _ _ L.last h), L.keep, v, rfl, ?_, L.qb⟩
 exact .ways _ cs v _ (L.rep.mono fun g h _ => h.1) L.own fun g hg => L.fresh g hg
theorem ZO.done {p : QS} {b : Nat} {w wr : World} {v : Value} {j g1 : Nat} (L : ZO p b w wr v j g1) : WPost .ways .ways b p w (.returned v) wr :=
 ⟨_, L.spec, L.keep, Or.inr ⟨v, g1, rfl, L.sl, L.qb, L.odd, L.ge⟩⟩
theorem ZL.first {p : QS} {b : Nat} {w w1 : World} {v : Value} {x : Pat} {g1 j : Nat} (hG : G p.s .way p.op p.gr p.ix (.ok (x, g1) j)) (hk : Keeps [b] w w1) (hrep : Rep w1 (fun g => w.heap.size ≤ g) .way x [v]) (hq : QB w1 b { p with ix := j, gr := g1 })
    (hgn : GN w1) (hle : p.ix ≤ p.s.size) (hgr : p.gr ≤ 9) :
    ZL p b w (w1.alloc (.cells #[v] 204)) (.slice (some ⟨w1.heap.size, 0, none⟩) 1 1) [] x [v] j g1 p.ix p.gr := by
 have hok := hG.okb x g1 j rfl
 have hk1 : Keeps [] w1 (w1.alloc (.cells #[v] 204)) := (Keeps.refl [] w1).alloc _
 refine ⟨hq.keep hk1 (by simp), ⟨rfl, .inr ⟨w1.heap.size, 1, #[v], rfl, Nat.zero_le _, heap_alloc_new w1 _, Nat.le_refl _, by decide, rfl, rfl⟩⟩, ?_, ?_, hgn.keep hk1 (by simp), hk.trans (hk1.mono (by simp)), hok.2.1 hle, by simp; exact hok.1, hok.2.2.2.2 hgr, hG, ?_⟩
 ·intro g h
  cases h
  exact hk.size
 ·refine .wone x v ((hrep.mono (S' := fun g => w.heap.size ≤ g ∧ g < w1.heap.size) fun g h1 h2 => ⟨h1, h2⟩).keep hk1 (by simp) |>.mono ?_)
  intro g hg _
  refine ⟨hg.1, ?_⟩
  intro e
  cases e
  exact Nat.lt_irrefl _ hg.2
 ·intro q hq
  have : (q.map fun y => (appW [] y.1, y.2)) = q := by cases q <;> rfl
  rw [this]; exact hq
theorem ZL.next {p : QS} {b : Nat} {w w1 w2 w5 w7 : World} {v u : Value} {ys : List Pat} {x y : Pat} {cs : List Value} {i j g1 g2 i0 g0 g' cap : Nat} (L : ZL p b w w1 v ys x cs i g1 i0 g0) (hbl : b < w.heap.size) (hgl : 6 < w.heap.size) (hbg : b ≠ 6)
    (h124 : at' p.s i = 124) (hG : G p.s .way p.op g1 (i + 1) (.ok (y, g2) j)) (hk2 : Keeps [b] w1 w2) (hk5 : Keeps [b] w2 w5) (hrep : Rep w5 (fun g => w2.heap.size ≤ g) .way y [u]) (hq5 : QB w5 b { p with ix := j, gr := g2 })
    (hown : w7.ownsRow 0 204 1 (.slice (some ⟨g', 0, none⟩) (ys.length + 1 + 1) cap) (ys.length + 1 + 1) (cs ++ [u])) (hgrow : (w5.alloc (.cells #[u] 204)).grownBy w7 v.ownBlock) (hat : v.ownBlock = some g' ∨ g' = w5.heap.size + 1) :
    ZL p b w w7 (.slice (some ⟨g', 0, none⟩) (ys.length + 1 + 1) cap) (ys ++ [x]) y (cs ++ [u]) j g2 (i + 1) g1 := by
 have hk7 : Keeps v.ownBlock.toList w5 w7 := ((Keeps.refl v.ownBlock.toList w5).alloc _).trans (Keeps.ofGrown hgrow)
 have hfr : ∀ y, y ∈ v.ownBlock.toList → w.heap.size ≤ y := by
  intro y hy
  rw [Option.mem_toList] at hy
  exact L.fresh y hy
 have hvl := World.ownsRow.lt L.own
 have hk15 : Keeps [b] w1 w5 := hk2.trans hk5
 have s1 := L.keep.size
 have s2 := hk2.size
 have s5 := hk5.size
 have hok := hG.okb y g2 j rfl
 have hilt : i + 1 ≤ p.s.size := at'_nn (by omega)
 refine ⟨hq5.keep hk7 ?_, ?_, ?_, ?_, (L.gn.keep hk15 ?_).keep hk7 ?_, (L.keep.trans hk15).fresh hk7 ?_, hok.2.1 hilt, ?_, hok.2.2.2.2 L.gle, hG, ?_⟩
 ·intro h; have := hfr b h; omega
 ·rw [List.length_append, List.length_singleton]; exact hown
 ·intro y hy
  cases hy
  rcases hat with h | h
  ·exact L.fresh _ h
  ·show w.heap.size ≤ g'; omega
 ·refine Rep.snocW ?_ ?_
  ·refine ((hrep.mono (S' := fun y => w2.heap.size ≤ y ∧ y < w5.heap.size) fun y h1 h2 => ⟨h1, h2⟩).keep hk7 ?_).mono ?_
   ·intro y hy hm
    rw [Option.mem_toList] at hm
    have := (hvl y hm).2
    have := hy.1
    omega
   ·intro y hy _
    refine ⟨by have := hy.1; omega, ?_⟩
    intro e
    cases e
    rcases hat with h | h
    ·have := (hvl _ h).2; have := hy.1; simp at this; omega
    ·have := hy.2; simp at this; omega
  ·refine (((L.rep.mono (S' := fun y => (w.heap.size ≤ y ∧ v.ownBlock ≠ some y) ∧ y < w1.heap.size) fun y h1 h2 => ⟨h1, h2⟩).keep hk15 ?_).keep hk7 ?_).mono ?_
   ·intro y hy; have := hy.1.1; simp; omega
   ·intro y hy hm
    rw [Option.mem_toList] at hm
    exact hy.1.2 hm
   ·intro y hy _
    refine ⟨hy.1.1, ?_⟩
    intro e
    cases e
    rcases hat with h | h
    ·exact hy.1.2 h
    ·have := hy.2; simp at this; omega
 ·simp; omega
 ·intro h; have := hfr _ h; omega
 ·intro y hy; right; exact hfr y hy
 ·rw [List.length_append, List.length_singleton]
  have := L.len
  have := hok.1
  omega
 ·intro q' hq'
  have h2 := L.spec _ (.more _ _ _ _ _ _ _ L.last h124 hq')
  rw [Rmap_map] at h2
  have e : (fun z : Pat × Nat => (appW (ys ++ [x]) z.1, z.2)) = fun z => (appW ys (Pat.wcons x z.1), z.2) := by
   funext z; rw [appW_snoc]
  rw [e]
  exact h2
theorem wpList_wslice {ops : Array Oper} {rest : List Oper} {o : Oper} {a : Act} {w : World} {Q : Exit → Act → World → Prop} (hg : o.guard = none) (x : Operand) (ho : o.op = .buildSlice 68 1 #[(0, x)]) (d : Option Tmp) (hd : o.dst = d) (v : Value) (hx : a.eval x = v) (hv : v.cells = #[v])
    (h : wpList Tryz.prog ops Q rest (a.put d (.slice (some ⟨w.heap.size, 0, none⟩) 1 1)) (w.alloc (.cells #[v] 204))) : wpList Tryz.prog ops Q (o :: rest) a w := by
 subst hd
 obtain ⟨i0, hi0, hz0, hz1, hz2⟩ := info_parts infoWay
 refine wpList_buildSlice hg 68 204 1 #[(0, x)] ho #[v] i0 _ Tryz.underlying68 hi0 hz0 (by rw [hz1]; decide) (by rw [hz1]; decide) ?_ h
 rw [hz1]
 have := way_fill v hv
 have e2 : ((#[(0, x)] : Array (Nat × Operand)).map fun (i, x) => (i, a.eval x)).toList = [(0, v)] := by simp [hx]
 rw [e2]
 exact this
set_option maxRecDepth 100000 in
set_option maxHeartbeats 2000000 in
theorem pways_step (n : Nat) (IH : WaysOk n) : WaysOk (n + 1) := by
 intro b p w hp hgn hbg hs hle hop hgr hn
 have hbl := hp.lt
 have hgl := hgn.lt
 go_enter Tryz.func117, Tryz.ntmps117
 go_wp2_with fail
 refine (way_prog n IH b p _ hp hgn hbg hs hle hop hgr (by omega)).mono ?_
 rintro e w1 ⟨q, hG, hk1, hc1⟩
 have hg1 := hgn.keep hk1 (by simp; omega)
 have hS : (∃ j, e = fault j ∧ q = .bad j) ∨ ∃ v, e = .returned v ∧ v.cells = #[v] ∧ v.oneCell' = true ∧ ((∃ x i g1, ZL p b w (w1.alloc (.cells #[v] 204)) (.slice (some ⟨w1.heap.size, 0, none⟩) 1 1) [] x [v] i g1 p.ix p.gr) ∨ ∃ j g1, ZO p b w (w1.alloc (.cells #[v] 204)) (.slice (some ⟨w1.heap.size, 0, none⟩) 1 1) j g1) := by
  cases q with
  | bad j =>
   rcases hc1 with h | ⟨v, g1, h1, h2, h4, h5, h6⟩
   ·exact Or.inl ⟨j, h, rfl⟩
   ·exact Or.inr ⟨v, h1, h2.cells, h2.one, Or.inr ⟨j, g1, h4.keep ((Keeps.refl [] w1).alloc _) (by simp), ⟨_, _, _, rfl⟩, hk1.trans ((Keeps.refl [b] w1).alloc _), h5, h6, .wbad _ _ _ _ hG⟩⟩
  | ok y j =>
   obtain ⟨x, g1⟩ := y
   obtain ⟨v, h1, hrep, h4⟩ := hc1
   have hc := hrep.cells
   obtain ⟨u, hu, hu2⟩ := hc.2
   cases hu
   exact Or.inr ⟨v, h1, hu2, hc.1 v (by simp), Or.inl ⟨x, j, g1, ZL.first hG hk1 hrep h4 hg1 hle hgr⟩⟩
 rcases hS with ⟨j, rfl, rfl⟩ | ⟨v, rfl, hvc, hv1, hL⟩
 ·simp only [fault]
  exact ⟨rfl, _, .wbad _ _ _ _ hG, hk1, Or.inl rfl⟩
 ·clear hc1 hG
  go_wp2_with (first | (refine wpList_wslice rfl (.tmp 5) rfl (some 6) rfl v rfl hvc ?_))
  go_loopw [3] (fun z wr => (∃ ys x cs i g1 i0 g0, ZL p b w wr z ys x cs i g1 i0 g0) ∨ ∃ j g1, ZO p b w wr z j g1) (fun _ wr => muQ wr b)
  case atStart =>
   rcases hL with ⟨x, i, g1, L⟩ | ⟨j, g1, L⟩
   ·exact Or.inl ⟨[], x, [v], i, g1, p.ix, p.gr, L⟩
   ·exact Or.inr ⟨j, g1, L⟩
  case round =>
   clear hL hvc hv1 hg1 hk1 hp hgn
   rcases hrel with ⟨ys, x, cs, i, g1, i0, g0, L⟩ | ⟨j, g1, L⟩
   ·have hmu := muQ_eq L.qb
    go_wp2_with fail
    refine (skip_any b { p with ix := i, gr := g1 } 124 (by omega) _ L.qb L.ile hs).mono ?_
    rintro e w2 ⟨rfl, hq2, hk2⟩
    by_cases h124 : at' p.s i = 124
    ·obtain ⟨e1, e2⟩ := took_yes (p := { p with ix := i, gr := g1 }) h124
     rw [e1]
     rw [e2] at hq2
     clear e1 e2
     have hilt : i + 1 ≤ p.s.size := at'_nn (by omega)
     have hlen := L.len
     have hg2 := L.gn.keep hk2 (by simp; omega)
     go_wp2_with fail
     refine (way_prog n IH b { p with ix := i + 1, gr := g1 } _ hq2 hg2 hbg hs hilt hop L.gle (by simp; omega)).mono ?_
     rintro e w3 ⟨q, hG, hk3, hc3⟩
     have hbn : u3.ownBlock ≠ some b := by intro e; have := L.fresh b e; omega
     have hown3 : w3.ownsRow 0 204 1 u3 (ys.length + 1) cs := (L.own.keep hk2 (by intro y hy hm; simp at hm; subst hm; exact hbn hy)).keep hk3 (by intro y hy hm; simp at hm; subst hm; exact hbn hy)
     have hS : (∃ j, e = fault j ∧ q = .bad j) ∨ ∃ u, e = .returned u ∧ u.cells = #[u] ∧ u.oneCell' = true ∧ ∀ w7 g' cap, w7.ownsRow 0 204 1 (.slice (some ⟨g', 0, none⟩) (ys.length + 1 + 1) cap) (ys.length + 1 + 1) (cs ++ [u]) → (w3.alloc (.cells #[u] 204)).grownBy w7 u3.ownBlock → (u3.ownBlock = some g' ∨ g' = w3.heap.size + 1) →
         ((∃ ys' x cs i g1 i0 g0, ZL p b w w7 (.slice (some ⟨g', 0, none⟩) (ys.length + 1 + 1) cap) ys' x cs i g1 i0 g0) ∨ ∃ j g1, ZO p b w w7 (.slice (some ⟨g', 0, none⟩) (ys.length + 1 + 1) cap) j g1) ∧ muQ w7 b < muQ wr b := by
      cases q with
      | bad j =>
       rcases hc3 with h | ⟨u, g2, h1, h2, h4, h5, h6⟩
       ·exact Or.inl ⟨j, h, rfl⟩
       ·refine Or.inr ⟨u, h1, h2.cells, h2.one, ?_⟩
        intro w7 g' cap _ hgrow _
        have hk7 : Keeps u3.ownBlock.toList w3 w7 := ((Keeps.refl u3.ownBlock.toList w3).alloc _).trans (Keeps.ofGrown hgrow)
        have hfr : ∀ y, y ∈ u3.ownBlock.toList → w.heap.size ≤ y := by
         intro y hy
         rw [Option.mem_toList] at hy
         exact L.fresh y hy
        have hq7 : QB w7 b { p with ix := j, gr := g2 } := h4.keep hk7 (by intro h; have := hfr b h; omega)
        have h6' : i + 1 ≤ j := h6
        refine ⟨Or.inr ⟨j, g2, hq7, ⟨_, _, _, rfl⟩, ((L.keep.trans hk2).trans hk3).fresh hk7 (fun y hy => Or.inr (hfr y hy)), h5, by omega, ?_⟩, ?_⟩
        ·exact L.spec _ (.more _ _ _ _ _ _ _ L.last h124 (.wbad _ _ _ _ hG))
        ·rw [hmu, muQ_eq hq7]; simp; omega
      | ok y j =>
       obtain ⟨y, g2⟩ := y
       obtain ⟨u, h1, hrep, h4⟩ := hc3
       have hc := hrep.cells
       obtain ⟨u', hu, hu2⟩ := hc.2
       cases hu
       refine Or.inr ⟨u, h1, hu2, hc.1 u (by simp), ?_⟩
       intro w7 g' cap hown7 hgrow hat
       have L7 := L.next hbl hgl hbg h124 hG hk2 hk3 hrep h4 hown7 hgrow hat
       have hok := (hG.okb y g2 j rfl).1
       refine ⟨Or.inl ⟨_, _, _, _, _, _, _, L7⟩, ?_⟩
       rw [hmu, muQ_eq L7.qb]; simp; simp at hok; omega
     rcases hS with ⟨j, rfl, rfl⟩ | ⟨u, rfl, huc, hu1, hL⟩
     ·simp only [fault]
      exact ⟨rfl, _, L.spec _ (.more _ _ _ _ _ _ _ L.last h124 (.wbad _ _ _ _ hG)), (L.keep.trans hk2).trans hk3, Or.inl rfl⟩
     ·obtain ⟨i0', hi0, hz0, hz1, hz2⟩ := info_parts infoWay
      have hlm : ys.length + 1 + 1 ≤ maxLen := by unfold maxLen; omega
      have hun := Tryz.underlying68
      clear hc3 hG
      go_wp2_with (first | (refine wpList_wslice rfl (.tmp 13) rfl (some 14) rfl u rfl huc ?_) | (at_builtin; refine wpList_append_lies _ rfl _ _ _ rfl 0 204 i0' (.slice none 0 0) 1 24 hun hi0 hz0 hz1 hz2 rfl (by decide) u3 (ys.length + 1) cs rfl (hown3.alloc _) ⟨w3.heap.size, 0, none⟩ 1 1 [u] rfl rfl (cell_one_new _ _ _) (by simpa using hu1) (by omega) hlm (by omega) (by simp) (w3.heap.size + 1) (by simp) ?_; intro g' cap w7 hown7 hgrow hat hlt7))
      exact hL _ _ _ hown7 hgrow hat
    ·obtain ⟨e1, e2⟩ := took_no (p := { p with ix := i, gr := g1 }) h124
     rw [e1]
     rw [e2] at hq2
     have L2 : ZL p b w w2 u3 ys x cs i g1 i0 g0 := ⟨hq2, L.own.keep hk2 (by intro y hy hm; simp at hm; subst hm; have := L.fresh _ hy; omega), L.fresh, L.rep.keep hk2 (by intro y hy; simp; omega), L.gn.keep hk2 (by simp; omega), L.keep.trans hk2, L.ile, L.len, L.gle, L.last, L.spec⟩
     clear e1 e2
     go_wp2_with fail
     go_ret
     exact L2.done h124
   ·have hodd := L.odd
    have hj0 : 0 ≤ at' p.s j := by unfold oddC at hodd; omega
    have h124 : ¬ at' p.s j = 124 := by unfold oddC at hodd; omega
    go_wp2_with fail
    refine (skip_any b { p with ix := j, gr := g1 } 124 (by omega) _ L.qb (Nat.le_of_lt (at'_nn hj0)) hs).mono ?_
    rintro e w2 ⟨rfl, hq2, hk2⟩
    obtain ⟨e1, e2⟩ := took_no (p := { p with ix := j, gr := g1 }) h124
    rw [e1]
    rw [e2] at hq2
    have L2 : ZO p b w w2 u3 j g1 := ⟨hq2, L.sl, L.keep.trans hk2, L.odd, L.ge, L.spec⟩
    clear e1 e2
    go_wp2_with fail
    go_ret
    exact L2.done
theorem ways_prog (n : Nat) : WaysOk n := by
 induction n with
 | zero => intro b p w _ _ _ _ _ _ _ h; omega
 | succ n ih => exact pways_step n ih
end Go.Proofs.YtnfojonmohijpaaGreatDoor
namespace Go.Proofs.YtnfojonmohijpaaGreatDoor
open Go.RowKit
set_option maxHeartbeats 400000 in
theorem new_any (s : ByteArray) (w : World) :
    Calls Tryz.prog 115 #[.string s] w fun e w' => e = .returned (.agg #[.string s, .int .i64 0]) ∧ Keeps [] w w' := by
 go_enter Tryz.func115, Tryz.ntmps115
 go_wp2_with fail
 refine bodyPost_ret (results_cell_row rfl _ _ w.heap.size _ _ _ _ rfl (heap_alloc_new w _) Tryz.underlying198 rfl (by kernel_rfl)) rfl ?_
 exact ⟨rfl, (Keeps.refl [] w).alloc _⟩
def PaPost (s : ByteArray) (w : World) (e : Ending) (w' : World) : Prop :=
 ∃ q, PatR s q ∧ Keeps [] w w' ∧ match q with
  | .ok W _ => ∃ v, e = .returned (.agg #[.bool W.bg, .bool W.en, v, .int .i64 W.g]) ∧ v.oneCell' = true ∧ Rep w' (fun g => w.heap.size ≤ g) .ways W.x [v]
  | .bad j => e = fault j
def P4 (w : World) (r : Nat) (a b c d : Value) : Prop := w.heap[r]? = some (.cells #[a, b, c, d] 70 (0, 0))
theorem P4.lt {w : World} {r : Nat} {a b c d : Value} (h : P4 w r a b c d) : r < w.heap.size := (Array.getElem?_eq_some_iff.1 h).1
theorem P4.keep {w w' : World} {r : Nat} {a b c d : Value} {S : List Nat} (h : P4 w r a b c d) (hk : Keeps S w w') (hb : r ∉ S) : P4 w' r a b c d := (hk.block r h.lt hb).trans h
theorem P4.main {w : World} {r : Nat} {a b c d : Value} (h : P4 w r a b c d) : w.cell? ⟨r, 0, none⟩ = some a ∧ w.cell? ⟨r, 1, none⟩ = some b ∧ w.cell? ⟨r, 2, none⟩ = some c ∧ w.cell? ⟨r, 3, none⟩ = some d ∧
    w.frozen? ⟨r, 0, none⟩ = false ∧ w.frozen? ⟨r, 1, none⟩ = false ∧ w.frozen? ⟨r, 2, none⟩ = false ∧ w.frozen? ⟨r, 3, none⟩ = false := by
 unfold P4 at h
 simp [World.cell?, World.frozen?, h]
theorem P4.set0 {w : World} {r : Nat} {a b c d : Value} (h : P4 w r a b c d) (v : Value) : P4 (w.setCell ⟨r, 0, none⟩ v) r v b c d := by
 unfold P4 at *
 simp [World.setCell, Array.getElem?_modify, h]
theorem P4.set1 {w : World} {r : Nat} {a b c d : Value} (h : P4 w r a b c d) (v : Value) : P4 (w.setCell ⟨r, 1, none⟩ v) r a v c d := by
 unfold P4 at *
 simp [World.setCell, Array.getElem?_modify, h]
theorem P4.set2 {w : World} {r : Nat} {a b c d : Value} (h : P4 w r a b c d) (v : Value) : P4 (w.setCell ⟨r, 2, none⟩ v) r a b v d := by
 unfold P4 at *
 simp [World.setCell, Array.getElem?_modify, h]
theorem P4.set3 {w : World} {r : Nat} {a b c d : Value} (h : P4 w r a b c d) (v : Value) : P4 (w.setCell ⟨r, 3, none⟩ v) r a b c v := by
 unfold P4 at *
 simp [World.setCell, Array.getElem?_modify, h]
theorem infoPat {a b c d : Value} : (Tryz.prog.info? 70).map (·.size) = some (#[a, b, c, d] : Array Value).size := by kernel_rfl
theorem four_one {x y : Bool} {v : Value} {n : Int} (hv : v.oneCell' = true) : (#[.bool x, .bool y, v, .int .i64 n] : Array Value).all (·.oneCell') = true := by
 have h1 : ∀ b, (Value.bool b).oneCell' = true := fun _ => rfl
 have h2 : (Value.int .i64 n).oneCell' = true := rfl
 simp [h1, h2, hv]
set_option maxRecDepth 100000 in
set_option maxHeartbeats 1000000 in
theorem parse_prog (s : ByteArray) (w : World) (hgn : GN w) (hs : s.size ≤ 60) :
    Calls Tryz.prog 67 #[.string s] w (PaPost s w) := by
 go_enter Tryz.func67, Tryz.ntmps67
 go_wp2_with fail
 have hr0 : P4 (w.alloc (.cells #[.bool false, .bool false, .slice none 0 0, .int .i64 0] 70)) w.heap.size (.bool false) (.bool false) (.slice none 0 0) (.int .i64 0) := heap_alloc_new w _
 have hk0 : Keeps [] w (w.alloc (.cells #[.bool false, .bool false, .slice none 0 0, .int .i64 0] 70)) := (Keeps.refl [] w).alloc _
 have hg0 := hgn.keep hk0 (by simp)
 have hgl := hgn.lt
 refine (new_any s _).mono ?_
 rintro e w1 ⟨rfl, hk1⟩
 generalize w.alloc (.cells #[.bool false, .bool false, .slice none 0 0, .int .i64 0] 70) = W0 at *
 have hr1 := hr0.keep hk1 (by simp)
 have hg1 := hg0.keep hk1 (by simp)
 have hkA := hk0.trans hk1
 have hl1 := hr1.lt
 clear hr0 hg0 hk0 hk1 hgn
 go_wp2_with fail
 have hq1 : QB ((w1.alloc (.cells #[.string s, .int .i64 0, .int .i64 0, .int .i64 0] 201)).alloc (.cells #[.bool false, .bool false, .slice none 0 0, .int .i64 0] 70)) w1.heap.size ⟨s, 0, 0, 0⟩ := heap_alloc2_old w1 _ _
 have hp1 : P4 ((w1.alloc (.cells #[.string s, .int .i64 0, .int .i64 0, .int .i64 0] 201)).alloc (.cells #[.bool false, .bool false, .slice none 0 0, .int .i64 0] 70)) (w1.heap.size + 1) (.bool false) (.bool false) (.slice none 0 0) (.int .i64 0) := heap_alloc2_new w1 _ _
 have hk2 : Keeps [] w1 ((w1.alloc (.cells #[.string s, .int .i64 0, .int .i64 0, .int .i64 0] 201)).alloc (.cells #[.bool false, .bool false, .slice none 0 0, .int .i64 0] 70)) := ((Keeps.refl [] w1).alloc _).alloc _
 generalize (w1.alloc (.cells #[.string s, .int .i64 0, .int .i64 0, .int .i64 0] 201)).alloc (.cells #[.bool false, .bool false, .slice none 0 0, .int .i64 0] 70) = w2 at *
 have hr2 := hr1.keep hk2 (by simp)
 have hg2 := hg1.keep hk2 (by simp)
 have hkB := hkA.trans hk2
 have hszA := hkA.size
 obtain ⟨b, hb⟩ : ∃ b, w1.heap.size = b := ⟨_, rfl⟩
 obtain ⟨g, hg⟩ : ∃ g, w.heap.size = g := ⟨_, rfl⟩
 rw [hb, hg] at hszA
 rw [hb] at hq1 hp1 hl1 ⊢
 rw [hg] at hr2 hgl hl1 ⊢
 clear hr1 hg1 hkA hk2 hb
 refine (skip_any b ⟨s, 0, 0, 0⟩ 94 (by omega) _ hq1 (Nat.zero_le _) hs).mono ?_
 rintro e w3 ⟨rfl, hq3, hk3⟩
 have htk : QS.took ⟨s, 0, 0, 0⟩ 94 = ⟨s, wi s, 0, 0⟩ := by
  unfold QS.took wi
  have : QS.cur ⟨s, 0, 0, 0⟩ = at' s 0 := rfl
  rw [this]
  by_cases h : at' s 0 = 94
  ·rw [if_pos h, if_pos h]
  ·rw [if_neg h, if_neg h]
 rw [htk] at hq3
 have hwi : wi s ≤ s.size := by
  unfold wi
  by_cases h : at' s 0 = 94
  ·rw [if_pos h]; exact at'_nn (by omega)
  ·rw [if_neg h]; omega
 have hp3 := hp1.keep hk3 (by simp)
 have hr3 := hr2.keep hk3 (by simp; omega)
 have hg3 := hg2.keep hk3 (by simp; omega)
 have hkC : Keeps [] w w3 := hkB.fresh hk3 (by intro x hx; simp at hx; omega)
 obtain ⟨m0, m1, m2, m3, n0, n1, n2, n3⟩ := hp3.main
 have hp4 := hp3.set0 (.bool (decide (at' s 0 = 94)))
 have hk4 : Keeps [b + 1] w3 (w3.setCell ⟨b + 1, 0, none⟩ (.bool (decide (at' s 0 = 94)))) := (Keeps.refl [b + 1] w3).setCell (by simp) _
 have hcu : decide (QS.cur ⟨s, 0, 0, 0⟩ = 94) = decide (at' s 0 = 94) := rfl
 rw [hcu]
 clear hp1 hr2 hg2 hkB hq1 hk3 htk hcu
 generalize hbg : decide (at' s 0 = 94) = bg at *
 go_wp2_with fail
 have hq4 := hq3.keep hk4 (by simp)
 have hr4 := hr3.keep hk4 (by simp; omega)
 have hg4 := hg3.keep hk4 (by simp; omega)
 have hkD : Keeps [] w _ := hkC.fresh hk4 (by intro x hx; simp at hx; omega)
 clear hp3 hr3 hg3 hkC hq3 hk4 m0 m1 m2 m3 n0 n1 n2 n3
 generalize w3.setCell ⟨b + 1, 0, none⟩ (.bool bg) = w4 at *
 have hszD : g ≤ w4.heap.size := by have := hkD.size; omega
 refine (ways_prog 61 b ⟨s, wi s, 0, 0⟩ w4 hq4 hg4 (by omega) hs hwi (by simp) (by simp) (by simp; omega)).mono ?_
 rintro e w5 ⟨q, hG, hk5, hc5⟩
 have hp5 := hp4.keep hk5 (by simp)
 have hr5 := hr4.keep hk5 (by simp; omega)
 have hg5 := hg4.keep hk5 (by simp; omega)
 have hkE : Keeps [] w w5 := hkD.fresh hk5 (by intro x hx; simp at hx; omega)
 have hp4' := hp4
 clear hp4 hr4 hg4 hq4
 cases q with
 | bad j =>
  have HP : Hid (PatR s (.bad j)) := ⟨_, hG, rfl⟩
  rcases hc5 with rfl | ⟨v, g1, rfl, hvs, hq5, hodd, _⟩
  ·simp only [fault]
   exact ⟨rfl, _, HP.out, hkE, rfl⟩
  ·obtain ⟨va, vn, vc, rfl⟩ := hvs
   have hj0 : 0 ≤ at' s j := by unfold oddC at hodd; simp at hodd; omega
   have hjlt : j < s.size := at'_nn hj0
   have h36 : ¬ at' s j = 36 := by unfold oddC at hodd; simp at hodd; omega
   obtain ⟨m0, m1, m2, m3, n0, n1, n2, n3⟩ := hp5.main
   have hp6 := hp5.set2 (.slice va vn vc)
   have hk6 : Keeps [b + 1] w5 (w5.setCell ⟨b + 1, 2, none⟩ (.slice va vn vc)) := (Keeps.refl [b + 1] w5).setCell (by simp) _
   have hq6 := hq5.keep hk6 (by simp)
   have hkF : Keeps [] w (w5.setCell ⟨b + 1, 2, none⟩ (.slice va vn vc)) := hkE.fresh hk6 (by intro x hx; simp at hx; omega)
   clear hk5 hk6 hp5 hkE hq5 hodd hG
   go_wp2_with fail
   generalize w5.setCell ⟨b + 1, 2, none⟩ (.slice va vn vc) = w6 at *
   refine (skip_any b ⟨s, j, 0, g1⟩ 36 (by omega) _ hq6 (Nat.le_of_lt hjlt) hs).mono ?_
   rintro e w7 ⟨rfl, hq7, hk7⟩
   obtain ⟨e1, e2⟩ := took_no (p := ⟨s, j, 0, g1⟩) h36
   rw [e1]
   rw [e2] at hq7
   have hp7 := hp6.keep hk7 (by simp)
   have hkG : Keeps [] w w7 := hkF.fresh hk7 (by intro x hx; simp at hx; omega)
   clear m0 m1 m2 m3 n0 n1 n2 n3
   obtain ⟨m0, m1, m2, m3, n0, n1, n2, n3⟩ := hp7.main
   have hk8 : Keeps [b + 1] w7 (w7.setCell ⟨b + 1, 1, none⟩ (.bool false)) := (Keeps.refl [b + 1] w7).setCell (by simp) _
   have hq8 := hq7.keep hk8 (by simp)
   have hkH : Keeps [] w (w7.setCell ⟨b + 1, 1, none⟩ (.bool false)) := hkG.fresh hk8 (by intro x hx; simp at hx; omega)
   clear e1 e2 hk7 hk8 hq7 hp7 hkG hkF
   go_wp2_with fail
   refine (end_bad b ⟨s, j, 0, g1⟩ _ hq8 hjlt hs).mono ?_
   rintro e w9 ⟨rfl, hk9⟩
   simp only [fault]
   exact ⟨rfl, _, HP.out, hkH.trans hk9, rfl⟩
 | ok y j =>
  obtain ⟨x, g1⟩ := y
  obtain ⟨v, rfl, hrep, hq5⟩ := hc5
  obtain ⟨va, vn, vc, rfl⟩ : IsSl v := by
   cases hrep with
   | ways _ _ _ _ _ ho _ => exact ownsRow_sl ho
  have hokb := hG.okb x g1 j rfl
  have hjle : j ≤ s.size := hokb.2.1 hwi
  obtain ⟨m0, m1, m2, m3, n0, n1, n2, n3⟩ := hp5.main
  have hp6 := hp5.set2 (.slice va vn vc)
  have hk6 : Keeps [b + 1] w5 (w5.setCell ⟨b + 1, 2, none⟩ (.slice va vn vc)) := (Keeps.refl [b + 1] w5).setCell (by simp) _
  have hq6 := hq5.keep hk6 (by simp)
  have hr6 := hr5.keep hk6 (by simp; omega)
  have hkF : Keeps [] w (w5.setCell ⟨b + 1, 2, none⟩ (.slice va vn vc)) := hkE.fresh hk6 (by intro x hx; simp at hx; omega)
  have hszb : b + 1 < w4.heap.size := hp4'.lt
  have hrep6 := hrep.keep hk6 (by intro y hy; simp; omega)
  have HG : Hid (G s .ways 0 0 (wi s) (.ok (x, g1) j)) := hG
  clear hk5 hk6 hp5 hkE hq5 hG hr5 hrep hokb
  go_wp2_with fail
  generalize w5.setCell ⟨b + 1, 2, none⟩ (.slice va vn vc) = w6 at *
  refine (skip_any b ⟨s, j, 0, g1⟩ 36 (by omega) _ hq6 hjle hs).mono ?_
  rintro e w7 ⟨rfl, hq7, hk7⟩
  obtain ⟨k, hk, hkle, htk⟩ : ∃ k, (if at' s j = 36 then j + 1 else j) = k ∧ k ≤ s.size ∧ QS.took ⟨s, j, 0, g1⟩ 36 = ⟨s, k, 0, g1⟩ := by
   by_cases h : at' s j = 36
   ·rw [if_pos h]
    exact ⟨_, rfl, at'_nn (by omega), (took_yes (p := ⟨s, j, 0, g1⟩) h).2⟩
   ·rw [if_neg h]
    exact ⟨_, rfl, hjle, (took_no (p := ⟨s, j, 0, g1⟩) h).2⟩
  have hen : decide (QS.cur ⟨s, j, 0, g1⟩ = 36) = decide (at' s j = 36) := rfl
  rw [hen]
  rw [htk] at hq7
  have HP : Hid (PatR s (if 0 ≤ at' s k then .bad k else .ok ⟨bg, decide (at' s j = 36), x, g1⟩ k)) := by
   refine ⟨_, HG.out, ?_⟩
   rw [PatE_ok, hk, hbg]
  generalize decide (at' s j = 36) = en at *
  have hp7 := hp6.keep hk7 (by simp)
  have hr7 := hr6.keep hk7 (by simp; omega)
  have hrep7 := hrep6.keep hk7 (by intro y hy; simp; omega)
  have hkG : Keeps [] w w7 := hkF.fresh hk7 (by intro x hx; simp at hx; omega)
  clear m0 m1 m2 m3 n0 n1 n2 n3
  obtain ⟨m0, m1, m2, m3, n0, n1, n2, n3⟩ := hp7.main
  have hk8 : Keeps [b + 1] w7 (w7.setCell ⟨b + 1, 1, none⟩ (.bool en)) := (Keeps.refl [b + 1] w7).setCell (by simp) _
  have hp8 := hp7.set1 (.bool en)
  have hq8 := hq7.keep hk8 (by simp)
  have hr8 := hr7.keep hk8 (by simp; omega)
  have hrep8 := hrep7.keep hk8 (by intro y hy; simp; omega)
  have hkH : Keeps [] w (w7.setCell ⟨b + 1, 1, none⟩ (.bool en)) := hkG.fresh hk8 (by intro x hx; simp at hx; omega)
  clear hk7 hk8 hq7 hp7 hkG hkF hr6 hr7 hp6 hrep6 hrep7 hk htk hen hq6 HG
  go_wp2_with fail
  generalize w7.setCell ⟨b + 1, 1, none⟩ (.bool en) = w8 at *
  by_cases hkb : k < s.size
  ·refine (end_bad b ⟨s, k, 0, g1⟩ _ hq8 hkb hs).mono ?_
   rintro e w9 ⟨rfl, hk9⟩
   simp only [fault]
   have h := HP.out
   have h0 : 0 ≤ at' s k := by rw [at'_lt hkb]; omega
   rw [if_pos h0] at h
   exact ⟨rfl, _, h, hkH.trans hk9, rfl⟩
  ·have hke : k = s.size := by omega
   have h := HP.out
   have h0 : ¬ 0 ≤ at' s k := by rw [at'_ge (by omega)]; omega
   rw [if_neg h0] at h
   have HQ' : Hid (PatR s (.ok ⟨bg, en, x, g1⟩ k)) := h
   clear h h0 HP
   refine (end_ok b ⟨s, k, 0, g1⟩ _ hq8 hke).mono ?_
   rintro e w9 ⟨rfl, hq9, hk9⟩
   have hp9 := hp8.keep hk9 (by simp)
   have hr9 := hr8.keep hk9 (by simp)
   have hrep9 := hrep8.keep hk9 (by simp)
   have hkI := hkH.trans hk9
   clear m0 m1 m2 m3 n0 n1 n2 n3
   obtain ⟨m0, m1, m2, m3, n0, n1, n2, n3⟩ := hp9.main
   obtain ⟨_, _, d2, d3, _, f2, f3⟩ := hq9.main
   have hpA := hp9.set3 (.int .i64 (g1 : Int))
   have hkA : Keeps [b + 1] w9 (w9.setCell ⟨b + 1, 3, none⟩ (.int .i64 (g1 : Int))) := (Keeps.refl [b + 1] w9).setCell (by simp) _
   have hrA := hr9.keep hkA (by simp; omega)
   have hrepA := hrep9.keep hkA (by intro y hy; simp; omega)
   have hkJ : Keeps [] w (w9.setCell ⟨b + 1, 3, none⟩ (.int .i64 (g1 : Int))) := hkI.fresh hkA (by intro x hx; simp at hx; omega)
   clear hk9 hp9 hr9 hrep9 hkI hkH hrep8 hr8 hp8 hq8
   go_wp2_with (first | (refine wpList_load_row rfl 70 _ rfl (b + 1) rfl _ _ _ _ hpA Tryz.underlying70 rfl infoPat ?_) | (refine wpList_store_row rfl 70 _ _ rfl g _ rfl rfl _ _ hrA infoPat rfl (four_one rfl) ?_))
   refine bodyPost_ret (results_cell_row rfl _ _ g _ _ _ _ rfl (setRow_heap _ _ _ _ _ _ hrA) Tryz.underlying70 rfl infoPat) rfl ?_
   have hkR := (Keeps.refl [g] (w9.setCell ⟨b + 1, 3, none⟩ (.int .i64 (g1 : Int)))).setRow (g := g) (by simp) #[.bool bg, .bool en, .slice va vn vc, .int .i64 (g1 : Int)]
   exact ⟨_, HQ'.out, hkJ.setRow (Or.inr (by omega)) _, _, rfl, rfl, (hrepA.keep hkR (by intro y hy; simp; omega)).mono (by intro y hy _; omega)⟩
end Go.Proofs.YtnfojonmohijpaaGreatDoor
