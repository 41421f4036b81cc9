/-
  DERIVED. The contracts of the laws sameInts, search and Searches. Conditions: the variable classNames holds what it is laid with.
-/
import Derived.Test.YtnfojonmohijpaaGreatDoorJOF
import Derived.Test.YtnfojonmohijpaaGreatDoorJVL
import Derived.Lib.SliceRun
import Derived.BigQuiet
import Derived.Test.YtnfojonmohijpaaGreatDoorJOI0
import Derived.Test.YtnfojonmohijpaaGreatDoorJPE
import Derived.Test.YtnfojonmohijpaaGreatDoorJNK
import Derived.Test.YtnfojonmohijpaaGreatDoorRows
import Derived.ProofKit
import Derived.LaidMore
import Derived.OpenShut
import Derived.Stop.Joined
import Derived.ChangeMaps5
set_option linter.unusedSimpArgs false
set_option linter.unusedVariables false
namespace Go.Proofs.YtnfojonmohijpaaGreatDoor
open Go.RowKit
theorem IW.row {w : World} {lo : Nat} {v : Value} {ans : Option (List Int)} (h : IW w lo v ans) : w.ownsRow lo 3 1 v (ans.getD []).length (spW (ans.getD [])) := by
  cases ans with
  | none => cases h; exact World.ownsRow_nil _ _ _ _
  | some l => exact h
theorem IS.iw {w : World} {lo : Nat} {v : Value} {ans : Option (List Int)} (h : IS w lo v ans) : IW w lo v ans := by
  cases ans with
  | none => exact h
  | some l => exact h
theorem row_slI {w : World} {lo : Nat} {v : Value} {n : Nat} {xs : List Value} (h : w.ownsRow lo 3 1 v n xs) : ∃ va vc, v = .slice va n vc ∧ (0 < n → ∃ g, va = some ⟨g, 0, none⟩) := by
  rcases h.2 with ⟨rfl, rfl⟩ | ⟨g, cap, cur, rfl, _⟩
  · exact ⟨none, 0, rfl, fun h => by omega⟩
  · exact ⟨_, cap, rfl, fun _ => ⟨g, rfl⟩⟩
set_option maxRecDepth 100000 in
set_option maxHeartbeats 1000000 in
theorem sameInts_any (l : List Int) (hl : l.length ≤ 1000) (la lb : Nat) (va vb : Value) (w : World) (ha : w.ownsRow la 3 1 va l.length (spW l)) (hb : w.ownsRow lb 3 1 vb l.length (spW l)) :
    Calls Tryz.prog 53 #[va, vb] w fun e w' => e = .returned (.bool true) ∧ Keeps [] w w' := by
  obtain ⟨xa, ca, rfl, hxa⟩ := row_slI ha
  obtain ⟨xb, cb, rfl, hxb⟩ := row_slI hb
  have hl' : (l.length : Int) ≤ 1000 := by omega
  go_enter Tryz.func53, Tryz.ntmps53
  go_upto_region 4 with (fail)
  go_loopw [5] (fun q wr => ∃ i : Nat, q = .int .i64 i ∧ i ≤ l.length ∧ Keeps [] w wr) (fun q _ => l.length - (intOf q).toNat)
  case atStart => exact ⟨0, rfl, Nat.zero_le _, Keeps.refl _ _⟩
  case round =>
    obtain ⟨i, rfl, hi, hk⟩ := hrel
    by_cases hlt : i < l.length
    · obtain ⟨ga, rfl⟩ := hxa (by omega)
      obtain ⟨gb, rfl⟩ := hxb (by omega)
      obtain ⟨z, hz⟩ : ∃ z, l[i]? = some z := ⟨_, List.getElem?_eq_getElem hlt⟩
      have hz' : (spW l)[i]? = some (.int .i64 z) := by simp [spW, hz]
      have c1 := (World.ownsRow.cellAt (ha.keep hk (by simp)) i (by omega)).trans hz'
      have c2 := (World.ownsRow.cellAt (hb.keep hk (by simp)) i (by omega)).trans hz'
      have hi0 : (0 : Int) ≤ (i : Int) := by omega
      have hi1 : (i : Int) < (l.length : Int) := by omega
      have HI : Hid (i < l.length) := hlt
      clear hz hz' hlt hi
      go_wp2_with fail
      go_quiet (fail)
      go_wp2_with fail
      exact ⟨⟨i + 1, by go_num, HI.out, hk.drewN nq⟩, by have := HI.out; simp [intOf]; omega⟩
    · have hni : ¬ (i : Int) < (l.length : Int) := by omega
      clear hlt
      go_wp2_with fail
      go_ret
      exact ⟨rfl, hk⟩
theorem SearchA.some' {p s : ByteArray} {fr : Int} {l : List Int} {n : Int} (h : SearchA p s fr (some l) n) : n = 0 ∧ 2 ≤ l.length ∧ l.length ≤ 20 := by
  rcases h with ⟨_, h, _⟩ | ⟨hs, q, hq, h⟩
  · cases h
  · cases q with
    | bad j => cases h.1
    | ok W j =>
      rcases h with ⟨_, h, _⟩ | ⟨_, ⟨_, h, _⟩ | ⟨_, _, h, rfl⟩⟩
      · cases h
      · cases h
      · have hg := (hq.good hs).2.2
        rcases h with ⟨h, _⟩ | ⟨i, j, t, ev, _, _, h⟩
        · cases h
        · have e : l = [(i : Int), (j : Int)] ++ evs (List.replicate (2 * W.g) (-1)) ev := Option.some.inj h
          have hlen : l.length = 2 + 2 * W.g := by rw [e, List.length_append, evs_len, List.length_replicate]; rfl
          exact ⟨rfl, by omega, by omega⟩
theorem SearchA.nums {p s : ByteArray} {fr : Int} {ans : Option (List Int)} {n : Int} (h : SearchA p s fr ans n) : n = 0 ∨ n = 1 ∨ n = 2 ∨ n = 4 := by
  rcases h with ⟨_, _, rfl⟩ | ⟨_, q, _, h⟩
  · exact Or.inr (Or.inl rfl)
  · cases q with
    | bad j => exact Or.inr (Or.inr (Or.inl h.2))
    | ok W j =>
      rcases h with ⟨_, _, rfl⟩ | ⟨_, ⟨_, _, rfl⟩ | ⟨_, _, _, rfl⟩⟩
      · exact Or.inr (Or.inl rfl)
      · exact Or.inr (Or.inr (Or.inr rfl))
      · exact Or.inl rfl
set_option maxRecDepth 100000 in
set_option maxHeartbeats 2000000 in
theorem law_search (p s : ByteArray) (fr : Int) (w : World) (hgn : GN w) :
    Calls Tryz.prog 24 #[.string p, .string s, .int .i64 fr] w fun e w' => ∃ r ans n, e = .returned (.tuple #[r, .bool true]) ∧ SearchA p s fr ans n ∧ IW w' w.heap.size r ans ∧ Keeps [] w w' := by
  have q32 : ∀ (w : World) (a : Option Addr) (n c n' c' : Nat), (binOp .eql 32 (.slice a n c) (.slice none n' c')).run Tryz.prog w = .ok (.bool a.isNone) w := fun w a n c n' c' => Lib.run_eql_slice_nil w _ _ a n c n' c' Tryz.underlying32
  go_enter Tryz.func24, Tryz.ntmps24
  go_wp2_with fail
  refine (ysearch_any p s fr w hgn).mono ?_
  rintro e w1 ⟨r, ans, n, rfl, h1, hI1, hk1⟩
  have H1 : Hid (SearchA p s fr ans n) := h1
  clear h1 hgn
  go_wp2_with fail
  refine (search_ref p s fr w1).mono ?_
  rintro e w2 ⟨m, ans2, n2, rfl, h2, hI2, hk2⟩
  obtain ⟨rfl, rfl⟩ := H1.out.det h2
  have hk := hk1.trans hk2
  have hIr := hI1.keep hk2
  have hIm := hI2.iw
  clear h2 hk1 hk2 hI1 hI2
  have hll : (ans.getD []).length ≤ 1000 := by
    cases ans with
    | none => simp
    | some l => have := H1.out.some'; simp; omega
  have hSI := sameInts_any (ans.getD []) hll _ _ r m w2 hIr.row hIm.row
  go_wp2_with fail
  refine hSI.mono ?_
  rintro e w3 ⟨rfl, hk3⟩
  have hkE := hk.trans hk3
  have hIE := hIr.keep hk3
  have HI : Hid (IW w3 w.heap.size r ans) := hIE
  cases ans with
  | none =>
    have e1 : r = .slice none 0 0 := hIr
    have e2 : m = .slice none 0 0 := hIm
    subst e1 e2
    clear hSI hIr hIm hIE hk hk3 hll
    rcases H1.out.nums with h0 | h0 | h0 | h0
    all_goals
      subst h0
      go_wp2_with fail
      go_ret2
      exact ⟨_, none, _, rfl, H1.out, HI.out, hkE⟩
  | some l =>
    obtain ⟨rfl, hl2, _⟩ := H1.out.some'
    obtain ⟨xa, ca, rfl, hxa⟩ := row_slI hIr
    obtain ⟨xb, cb, rfl, hxb⟩ := row_slI hIm
    obtain ⟨ga, rfl⟩ := hxa (by omega)
    obtain ⟨gb, rfl⟩ := hxb (by omega)
    clear hSI hIr hIm hIE hk hk3 hll hl2 hxa hxb
    go_wp2_with fail
    go_ret2
    exact ⟨_, some l, _, rfl, H1.out, HI.out, hkE⟩
end Go.Proofs.YtnfojonmohijpaaGreatDoor
namespace Go.Proofs.YtnfojonmohijpaaGreatDoor
theorem lit_piece {s : ByteArray} {d g i : Nat} {c : Int} (h : at' s i = c) (h0 : 0 ≤ c) (h1 : c ≠ 40 ∧ c ≠ 91 ∧ c ≠ 46 ∧ c ≠ 92) (h2 : ¬ notC c) (hn : at' s (i + 1) ≠ 42 ∧ at' s (i + 1) ≠ 43 ∧ at' s (i + 1) ≠ 63 ∧ at' s (i + 1) ≠ 123) :
    G s .piece d g i (.ok (.set (stretch c c), g) (i + 1)) := by
  have a := G.lit (s := s) d g i (by rw [h]; exact h0) (by rw [h]; exact h1.1) (by rw [h]; exact h1.2.1) (by rw [h]; exact h1.2.2.1) (by rw [h]; exact h1.2.2.2) (by rw [h]; exact h2)
  rw [h] at a
  exact G.rep d g i g (i + 1) _ (.ok none (i + 1)) a (Or.inl ⟨hn.1, hn.2.1, hn.2.2.1, hn.2.2.2, rfl⟩)
theorem way_cons {s : ByteArray} {d g i g1 j g2 k : Nat} {x r : Pat} (h : ¬ stopC (at' s i)) (h1 : G s .piece d g i (.ok (x, g1) j)) (h2 : G s .way d g1 j (.ok (r, g2) k)) : G s .way d g i (.ok (.pcons x r, g2) k) := G.cons d g i g1 j x (.ok (r, g2) k) h h1 h2
def st (c : Int) : Pat := .set (stretch c c)
def m1 : Pat := .wcons (.pcons (st 97) .pnil) (.wone (.pcons (st 97) (.pcons (st 98) .pnil)))
def m2 : Pat := .wcons (.pcons (st 99) .pnil) (.wone (.pcons (st 98) (.pcons (st 99) (.pcons (st 100) .pnil))))
def m3 : Pat := .wone (.pcons (.rep 0 (-1) (st 100)) .pnil)
theorem st_yes {s : ByteArray} {c : Int} {i : Nat} (h : i < s.size ∧ stretch c c (at' s i).toNat = true) : Mt s (st c) i (i + 1) := ⟨h.1, h.2, rfl⟩
end Go.Proofs.YtnfojonmohijpaaGreatDoor
namespace Go.Proofs.YtnfojonmohijpaaGreatDoor
open Go.RowKit
def sS : ByteArray := ⟨#[40, 98, 41, 43]⟩
def sT : ByteArray := ⟨#[97, 98, 98]⟩
def sG : Pat := .wone (.pcons (st 98) .pnil)
def sX : Pat := .wone (.pcons (.rep 1 (-1) (.grp 1 sG)) .pnil)
theorem s_at : at' sS 0 = 40 ∧ at' sS 1 = 98 ∧ at' sS 2 = 41 ∧ at' sS 3 = 43 ∧ at' sS 4 = -1 := by decide
theorem s_read : PatR sS (.ok ⟨false, false, sX, 1⟩ 4) := by
  obtain ⟨h0, h1, h2, h3, h4⟩ := s_at
  have a : G sS .way 1 1 1 (.ok (.pcons (st 98) .pnil, 1) 2) := way_cons (by rw [h1]; unfold stopC; decide) (lit_piece h1 (by decide) (by decide) (by unfold notC; decide) (by rw [h2]; decide)) (G.nil 1 1 2 (by rw [h2]; unfold stopC; decide))
  have b : G sS .ways 1 1 1 (.ok (sG, 1) 2) := G.one 1 1 1 1 2 _ a (by rw [h2]; decide)
  have c : G sS .piece 0 0 0 (.ok (.rep 1 (-1) (.grp 1 sG), 1) 4) := G.rep 0 0 0 1 3 _ (.ok (some (1, -1)) 4) (G.grp 0 0 0 1 2 sG h0 (by decide) b h2) (Or.inr (Or.inr (Or.inl ⟨h3, rfl⟩)))
  have d : G sS .way 0 0 0 (.ok (.pcons (.rep 1 (-1) (.grp 1 sG)) .pnil, 1) 4) := way_cons (by rw [h0]; unfold stopC; decide) c (G.nil 0 1 4 (by rw [h4]; unfold stopC; decide))
  have hw : wi sS = 0 := by simp [wi, h0]
  refine ⟨.ok (sX, 1) 4, ?_, ?_⟩
  · rw [hw]
    exact G.one 0 0 0 1 4 _ d (by rw [h4]; decide)
  · simp [PatE_ok, h4, h0]
theorem s_mt : Mt sT sX 1 2 := by
  have h : sT.size = 3 ∧ stretch 98 98 (at' sT 1).toNat = true := by decide
  exact ⟨2, ⟨1, Nat.le_refl _, Or.inl (by decide), 2, ⟨2, st_yes ⟨by rw [h.1]; decide, h.2⟩, rfl⟩, rfl⟩, rfl⟩
theorem s_found {ans : Option (List Int)} {n : Int} (h : SearchA sS sT 0 ans n) : ∃ l, ans = some l ∧ l.length = 4 := by
  have hsz : sS.size ≤ 60 ∧ sT.size = 3 := by decide
  rcases h with ⟨h, _⟩ | ⟨_, q, hq, h⟩
  · have := hsz.1; omega
  · cases hq.det s_read
    rcases h with ⟨h, _⟩ | ⟨_, ⟨h, _⟩ | ⟨_, _, h, _⟩⟩
    · have := hsz.2; omega
    · omega
    · rcases h with ⟨_, h⟩ | ⟨i, j, t, ev, _, _, h⟩
      · exact absurd (show OkAt sT ⟨false, false, sX, 1⟩ 1 2 from ⟨s_mt, fun h => (Bool.noConfusion h), fun h => (Bool.noConfusion h)⟩) (h 1 2 (by decide) (by decide) (by decide))
      · exact ⟨_, h, by rw [List.length_append, evs_len, List.length_replicate]; rfl⟩
set_option maxRecDepth 100000 in
set_option maxHeartbeats 2000000 in
theorem law_searches (p s : ByteArray) (fr : Int) (w : World) (hgn : GN w) :
    Calls Tryz.prog 6 #[.string p, .string s, .int .i64 fr] w fun e w' => e = .returned (.bool true) ∧ Keeps [] w w' := by
  go_enter Tryz.func6, Tryz.ntmps6
  go_wp2_with fail
  refine (law_search sS sT 0 w hgn).mono ?_
  rintro e w1 ⟨r, ans, n, rfl, h1, hI1, hk1⟩
  obtain ⟨l, rfl, hl4⟩ := s_found h1
  have hrow : w1.ownsRow w.heap.size 3 1 r l.length (spW l) := hI1
  rw [hl4] at hrow
  obtain ⟨xa, ca, rfl, _⟩ := row_slI hrow
  have hgn1 := hgn.keep hk1 (by simp)
  clear h1 hgn hI1 hrow hl4
  go_wp2_with fail
  refine (law_search p s fr w1 hgn1).mono ?_
  rintro e w2 ⟨r2, ans2, n2, rfl, h2, hI2, hk2⟩
  have hk := hk1.trans hk2
  clear hk1 hk2 hgn1 h2 hI2
  go_wp2_with fail
  go_ret
  exact ⟨rfl, hk⟩
end Go.Proofs.YtnfojonmohijpaaGreatDoor
namespace Go.Proofs.YtnfojonmohijpaaGreatDoor
open Go.ChangeShapes Go.WideShapes Go.ChangeAt Go.WideMaps Go.WideElems Go.RowKit
theorem ownK : ownKnob Tryz.prog.godebug = none := by kernel_rfl
theorem gCls : Tryz.prog.globalNamed "yarrow/byteset.classNames" = some 6 := by kernel_rfl
theorem tCls : (Tryz.prog.globals[6]?).map (·.type) = some 357 := by kernel_rfl
theorem cStr : Tryz.prog.cellsOf 9 = 1 := by kernel_rfl
theorem cCls : Tryz.prog.cellsOf 357 = 7 := by kernel_rfl
theorem str_cell {H : Type} {enc : TypeId × Value → H} {W : World} {base fuel : Nat} {sp : Nat → Bool} {held : Bool} {c : Value} {x : DataW H × List MemPlace} {l : List UInt8}
    (h : DataW.trod enc Tryz.prog W base sp held fuel 9 [c] = some x) (hx : DataW.lit (.string l) = x.1) : c = .string (nmB l) := by
  obtain ⟨s, hc, rfl, _⟩ := DataW.trod_string Tryz.underlying9 h
  simp only [List.cons.injEq, and_true] at hc
  simp only [DataW.lit.injEq, Lit.string.injEq] at hx
  subst hc
  rw [hx]
  congr 1
theorem seven {α : Type} (l : List α) (h : l.length = 7) : ∃ a b c d e f g, l = [a, b, c, d, e, f, g] := by
  match l, h with
  | [a, b, c, d, e, f, g], _ => exact ⟨a, b, c, d, e, f, g, rfl⟩
theorem post_none {H : Type} {enc : TypeId × Value → H} {P : Program} {f : Func} {s : ChangeSpec} {apart fresh handsOn again : Bool} {W W' : World} {args : Array Value} {v : Value} {ds gs : List (DataW H)}
    (hW : DataW.Whole enc P f.params.toList s.vars apart W args.toList ds gs [])
    (hres : ∀ (b : Nat) (sp : Nat → Bool) (hd : Bool), DataW.TrodAll enc P W' b sp hd f.resultTypes.toList (v.resultList f.resultTypes.size) (s.fn H (ds ++ gs)).results [])
    (hargs : ∀ sp : Nat → Bool, DataW.TrodAll enc P W' 0 sp true f.params.toList args.toList (s.fn H (ds ++ gs)).args [])
    (hvars : ∀ sp : Nat → Bool, DataW.TrodVars enc P W' sp s.vars (s.fn H (ds ++ gs)).vars [])
    (hk : W.keptBut W' fun _ => False)
    (hok : ∀ (j : Nat) (t : TypeId) (r : Value), f.resultTypes[j]? = some t → (v.resultList f.resultTypes.size)[j]? = some r → Value.okWide P W' .any 0 t r) :
    s.post enc P f apart fresh handsOn again W args v W' := by
  refine ⟨ds, gs, [], [], [], [], hW, hres _ _ _, hargs _, hvars _, World.keptBut_mono (fun p hp => hp.elim) hk, fun _ => ?_⟩
  refine ⟨hok, _, _, ([] ++ []) ++ [], ⟨[] ++ [], [], trodAll_append (hargs _) (hres _ _ _), hvars _, rfl, ?_, ?_⟩, ?_⟩
  · intro b off hp; simp at hp
  · intro _; simp
  · intro p hp _; simp at hp
end Go.Proofs.YtnfojonmohijpaaGreatDoor
namespace Go.Proofs.YtnfojonmohijpaaGreatDoor
open Go.ChangeShapes Go.WideShapes Go.ChangeAt Go.WideMaps Go.WideElems Go.RowKit
set_option maxRecDepth 100000 in
theorem of_laid1 {W : World} (h : laidMetH Tryz.prog Rows.searchesRow.laid W) : GN W := by
  rw [MakeChecks.laidMetH_plain _ _ _ (by kernel_rfl)] at h
  obtain ⟨ps, ⟨g3, t3, cs3, f3, p3, q3, hg3, ht3, hv3, hd3, _, _⟩, _, _⟩ := h
  obtain rfl := Option.some.inj (gCls.symm.trans hg3)
  obtain rfl := Option.some.inj (tCls.symm.trans ht3)
  obtain ⟨xs, m, rfl, hx, hlen, hn, hel⟩ := DataW.trod_array Tryz.underlying357 hd3
  rw [cCls] at hlen
  rw [cStr] at hel
  have hl : ∃ t fr, W.heap[6]? = some (.cells cs3 t fr) := by
    simp only [World.var?, gCls, Option.bind_some] at hv3
    split at hv3
    · rename_i c t fr he
      cases hv3
      exact ⟨t, fr, he⟩
    · cases hv3
  obtain ⟨t, fr, hl⟩ := hl
  refine ⟨t, fr, hl.trans ?_⟩
  obtain ⟨l3⟩ := cs3
  unfold Rows.laid_yarrow_byteset_classNames at hx
  simp only [Prod.mk.injEq, DataW.agg.injEq] at hx
  obtain ⟨hx, _⟩ := hx
  obtain ⟨c0, c1, c2, c3, c4, c5, c6, rfl⟩ := seven l3 hlen
  obtain ⟨x0, x1, x2, x3, x4, x5, x6, rfl⟩ := seven xs hn
  · simp only [List.map_cons, List.map_nil, List.cons.injEq, and_true] at hx
    obtain ⟨e0, e1, e2, e3, e4, e5, e6⟩ := hx
    have h0 := str_cell (hel 0 (by decide)) e0
    have h1 := str_cell (hel 1 (by decide)) e1
    have h2 := str_cell (hel 2 (by decide)) e2
    have h3 := str_cell (hel 3 (by decide)) e3
    have h4 := str_cell (hel 4 (by decide)) e4
    have h5 := str_cell (hel 5 (by decide)) e5
    have h6 := str_cell (hel 6 (by decide)) e6
    subst h0 h1 h2 h3 h4 h5 h6
    rfl
end Go.Proofs.YtnfojonmohijpaaGreatDoor
