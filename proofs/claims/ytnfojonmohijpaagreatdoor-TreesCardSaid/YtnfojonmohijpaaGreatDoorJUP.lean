/-
  DERIVED. The program's oftenEnough, and pieceFits over singleFits. No conditions.
-/
import Derived.Test.YtnfojonmohijpaaGreatDoorJUL
import Derived.Test.YtnfojonmohijpaaGreatDoorJMC
set_option linter.unusedSimpArgs false
set_option linter.unusedVariables false
namespace Go.Proofs.YtnfojonmohijpaaGreatDoor
open Go.RowKit
def oft (m : Nat) (x : Int) (n : Nat) : Bool := decide (m ≤ n) && (decide (x < 0) || decide ((n : Int) ≤ x))
set_option maxRecDepth 100000 in
set_option maxHeartbeats 1000000 in
theorem often_any (m : Nat) (x : Int) (n : Nat) (hok : okRep (some (m, x))) (hn : (n : Int) ≤ 9223372036854775807) (w : World) :
    Calls Tryz.prog 224 #[.agg #[.bool true, .int .i64 m, .int .i64 x], .int .i64 n] w fun e w' => e = .returned (.bool (oft m x n)) ∧ Keeps [] w w' := by
 obtain ⟨hm, hx⟩ := hok
 have hk0 : Keeps [] w (w.alloc (.cells #[.bool true, .int .i64 m, .int .i64 x] 210)) := (Keeps.refl [] w).alloc _
 have h0 : (w.alloc (.cells #[.bool true, .int .i64 m, .int .i64 x] 210)).heap[w.heap.size]? = some (.cells #[.bool true, .int .i64 m, .int .i64 x] 210 (0, 0)) := heap_alloc_new w _
 have hc : (w.alloc (.cells #[.bool true, .int .i64 m, .int .i64 x] 210)).cell? ⟨w.heap.size, 1, none⟩ = some (.int .i64 m) ∧ (w.alloc (.cells #[.bool true, .int .i64 m, .int .i64 x] 210)).cell? ⟨w.heap.size, 2, none⟩ = some (.int .i64 x) := ⟨by rw [Lib.cell_of_heap h0]; rfl, by rw [Lib.cell_of_heap h0]; rfl⟩
 go_enter Tryz.func224, Tryz.ntmps224
 go_upto_region 1 with (fail)
 generalize w.alloc (.cells #[.bool true, .int .i64 m, .int .i64 x] 210) = W at *
 obtain ⟨c1, c2⟩ := hc
 by_cases h1 : m ≤ n
 ·have h1' : (m : Int) ≤ (n : Int) := by omega
  rcases hx with rfl | ⟨k, rfl, hk⟩
  ·have HB : Hid (oft m (-1) n = true) := by show oft m (-1) n = true; simp [oft, h1]
   clear h1
   go_wp2_with fail
   go_ret
   exact ⟨by (rw [HB.out]) <;> rfl, hk0⟩
  ·have hne : ((k : Int) == -1) = false := by first | (simp; done) | (simp; omega)
   by_cases h2 : n ≤ k
   ·have h2' : (n : Int) ≤ (k : Int) := by omega
    have HB : Hid (oft m k n = true) := by show oft m k n = true; simp [oft, h1, h2]
    clear h1 h2
    go_wp2_with fail
    go_ret
    exact ⟨by (rw [HB.out]) <;> rfl, hk0⟩
   ·have h2' : decide ((n : Int) ≤ (k : Int)) = false := by simp; omega
    have h2'' : decide (n ≤ k) = false := by simp; omega
    have HB : Hid (oft m k n = false) := by show oft m k n = false; simp [oft, h1]; omega
    clear h1 h2
    go_wp2_with fail
    go_ret
    exact ⟨by rw [HB.out]; simp_all, hk0⟩
 ·have h1' : decide ((m : Int) ≤ (n : Int)) = false := by simp; omega
  have h1'' : decide (m ≤ n) = false := by simp; omega
  have HB : Hid (oft m x n = false) := by show oft m x n = false; simp [oft, h1]
  clear h1
  go_wp2_with fail
  go_ret
  exact ⟨by rw [HB.out]; simp_all, hk0⟩
theorem ltr_rep {t : Tr} (h : t.ltr = 114) : ∃ l, t = .trep l := by cases t <;> simp [Tr.ltr] at h; exact ⟨_, rfl⟩
theorem piece_cells {X : World} {g : Nat} {cs : List Value} {o : Option (Nat × Int)} {T : TypeId} {fr : Nat × Nat} (hl : cs.length = 258) (h : X.heap[g]? = some (.cells (cs ++ repC o).toArray T fr)) : X.cell? ⟨g, 258, none⟩ = some (.bool o.isSome) := by
 have := rangeBehind hl h 0 (.bool o.isSome) (by cases o with | none => rfl | some p => rfl)
 exact this
set_option maxRecDepth 100000 in
set_option maxHeartbeats 4000000 in
theorem pieceFits_any (n : Nat) (IS : SingleF n) : PieceF n := by
 intro z hz w S S' cs0 a b c t hrep htv
 obtain ⟨rfl, rfl, va, vn, vc, rfl⟩ := htv.face
 cases hrep with
 | piece x o cs ho hrx =>
 have hl : cs.length = 258 := hrx.cells.2
 have h2 : ((w.alloc (.cells (cs ++ repC o).toArray 212)).alloc (.cells #[.int .u8 t.ltr, .int .i64 t.num, .slice va vn vc] 88)).heap[w.heap.size]? = some (.cells (cs ++ repC o).toArray 212 (0, 0)) := heap_alloc2_old w _ _
 have h3 : P3 ((w.alloc (.cells (cs ++ repC o).toArray 212)).alloc (.cells #[.int .u8 t.ltr, .int .i64 t.num, .slice va vn vc] 88)) (w.heap.size + 1) (.int .u8 t.ltr) (.int .i64 t.num) (.slice va vn vc) := heap_alloc2_new w _ _
 have hk0 : Keeps [] w ((w.alloc (.cells (cs ++ repC o).toArray 212)).alloc (.cells #[.int .u8 t.ltr, .int .i64 t.num, .slice va vn vc] 88)) := ((Keeps.refl [] w).alloc _).alloc _
 have c258 := piece_cells hl h2
 have hr1 : ∀ X : World, X.heap[w.heap.size]? = some (.cells (cs ++ repC o).toArray 212 (0, 0)) → X.rangeAt w.heap.size 0 cs := fun X h => rangeSingleIn h
 have hr2 : ∀ X : World, X.heap[w.heap.size]? = some (.cells (cs ++ repC o).toArray 212 (0, 0)) → X.rangeAt w.heap.size 258 (repC o) := fun X h => rangeBehind hl h
 obtain ⟨d0, d1, d2⟩ := h3.main
 have hlt2 : w.heap.size < ((w.alloc (.cells (cs ++ repC o).toArray 212)).alloc (.cells #[.int .u8 t.ltr, .int .i64 t.num, .slice va vn vc] 88)).heap.size := by simp; omega
 generalize (cs ++ repC o).toArray = C at *
 go_enter Tryz.func184, Tryz.ntmps184
 go_upto_region 1 with (fail)
 generalize (w.alloc (.cells C 212)).alloc (.cells #[.int .u8 t.ltr, .int .i64 t.num, .slice va vn vc] 88) = W at *
 obtain ⟨g3, hg3⟩ : ∃ g, w.heap.size + 1 = g := ⟨_, rfl⟩
 obtain ⟨g2, hg2⟩ : ∃ g, w.heap.size = g := ⟨_, rfl⟩
 rw [hg3] at h3 d0 d1 d2 ⊢
 rw [hg2] at h2 c258 hr1 hr2 hlt2 ⊢
 have hg3l := h3.lt
 have hrw := hr1 W h2
 cases o with
 | none =>
  have hb0 : (none : Option (Nat × Int)).isSome = false := rfl
  rw [hb0] at c258
  have hi := infoSgL hl
  have hxsz : x.sz ≤ n := hz
  go_upto_region 2 with (fail)
  go_wp2_with (first
    | (refine wpList_load_mid rfl 208 _ rfl g2 0 rfl cs _ hrw Tryz.underlying208 rfl hi ?_)
    | (refine wpList_load_row rfl 88 _ rfl g3 rfl _ _ _ _ h3 Tryz.underlying88 rfl (info3 _ _ _) ?_))
  refine (IS x hxsz W S S' cs _ _ _ t (hrx.keep hk0 (by simp)) (htv.keep hk0 (by simp))).mono ?_
  rintro e w1 ⟨b, rfl, hbi, hk1⟩
  go_wp2_with fail
  go_ret
  exact ⟨b, rfl, hbi, hk0.trans hk1⟩
 | some p =>
  obtain ⟨mn, mx⟩ := p
  have hb0 : (some (mn, mx) : Option (Nat × Int)).isSome = true := rfl
  rw [hb0] at c258
  have hi := infoSgL hl
  have hxsz : x.sz ≤ n := by have : (Pat.rep mn mx x).sz ≤ n := hz; simp [Pat.sz] at this; omega
  by_cases hb : t.ltr = 114
  ·obtain ⟨r, rfl⟩ := ltr_rep hb
   have e1 : (((Tr.trep r).ltr : Nat) : Int) = 114 := rfl
   have e2 : (((Tr.trep r).num : Nat) : Int) = 0 := rfl
   rw [e1] at h3 d0 ⊢
   rw [e2] at h3 d1 ⊢
   cases htv with
   | trep _ _ m rs hrow hown hSv =>
   obtain rfl := ownsRow_lenT hown
   obtain ⟨hcl, _, hat⟩ := hrow.tl_at
   have hvm : (vn : Int) ≤ 9223372036854775807 := by
    rcases hown.2 with ⟨_, e⟩ | ⟨g, cap, cur, _, _, _, h1, h2, _⟩
    ·omega
    ·unfold maxLen at h2; omega
   have HK : Hid (vn = (tl r).length) := by
    have := hown.1
    show vn = (tl r).length
    omega
   have hO := often_any mn mx vn ho hvm
   have hrp := hr2 W h2
   have hip : (Tryz.prog.info? 210).map (·.size) = some [Value.bool true, .int .i64 mn, .int .i64 mx].length := by kernel_rfl
   have hrp' : W.rangeAt g2 258 [.bool true, .int .i64 mn, .int .i64 mx] := hrp
   have c259 : W.cell? ⟨g2, 259, none⟩ = some (.int .i64 mn) := hrp 1 _ rfl
   have c260 : W.cell? ⟨g2, 260, none⟩ = some (.int .i64 mx) := hrp 2 _ rfl
   have hlv := run_loadVar_at W g2 258 210 [.bool true, .int .i64 mn, .int .i64 mx] _ hrp' Tryz.underlying210 rfl hip
   clear hb e1 e2 hcl hrp
   by_cases hof : oft mn mx vn = true
   ·have HO : Hid (∀ w, Calls Tryz.prog 224 #[.agg #[.bool true, .int .i64 mn, .int .i64 mx], .int .i64 vn] w fun e w' => e = .returned (.bool true) ∧ Keeps [] w w') := by rw [hof] at hO; exact hO
    have HOF : Hid (oft mn mx vn = true) := hof
    clear hO hof
    go_upto_region 5 with (first
      | (go_at_call 224; refine (HO.out _).mono ?_; rintro e w1 ⟨rfl, hk1⟩))
    have d2' := keep_cell hk1 d2
    have h2' := (hk1.block g2 hlt2 (by simp)).trans h2
    have hkA := hk0.trans hk1
    have hi3 : (Tryz.prog.info? 88).map (·.size) = some 3 := by kernel_rfl
    clear d0 d1 d2 c258 c259 c260 hlv hrp' hrw h2 HO
    go_upto_region 6 with (fail)
    go_loopw [6, 30] (fun _ q30 wr => ∃ i : Nat, q30 = .int .i64 i ∧ i ≤ vn ∧ (∀ (j : Nat) (u : Tr), j < i → (tl r)[j]? = some u → Ft x u) ∧ Keeps [] w1 wr) (fun _ q _ => vn - (intOf q).toNat)
    case atStart => exact ⟨0, rfl, Nat.zero_le _, fun j u h => absurd h (Nat.not_lt_zero _), Keeps.refl _ _⟩
    case round =>
     obtain ⟨i, rfl, hi', hall, hkr⟩ := hrel
     have HALL : Hid (∀ (j : Nat) (u : Tr), j < i → (tl r)[j]? = some u → Ft x u) := hall
     clear hall
     by_cases hlt : i < vn
     ·obtain ⟨u, hu⟩ : ∃ u, (tl r)[i]? = some u := ⟨_, List.getElem?_eq_getElem (by have := HK.out; omega)⟩
      obtain ⟨ds, hds, hdc, _, _⟩ := hat i u hu
      obtain ⟨k1, n1, da, dn, dc, rfl⟩ := hds.form
      obtain ⟨gv, vc', hv, _, hgv⟩ := hown.form (by omega)
      cases hv
      have hkB := hkA.trans hkr
      have hgv' : gv < w.heap.size := hgv
      have hrg : wr.rangeAt gv (i * 3) [.int .u8 k1, .int .i64 n1, .slice da dn dc] := fun j z hz => by
       have hj : j < 3 := (List.getElem?_eq_some_iff.1 hz).1
       exact (World.cell?_of_block (hkB.block gv hgv' (by simp))).trans ((World.ownsRow.cellAt hown (i * 3 + j) (by omega)).trans (hdc j z hz))
      have hi0 : (0 : Int) ≤ (i : Int) := by omega
      have hi1 : (i : Int) < (vn : Int) := by omega
      have HI : Hid (i < vn) := hlt
      have HU : Hid ((tl r)[i]? = some u) := hu
      have hq0 : (wr.alloc (.cells #[.int .u8 0, .int .i64 0, .slice none 0 0] 88)).heap[wr.heap.size]? = some (.cells #[.int .u8 0, .int .i64 0, .slice none 0 0] 88 (0, 0)) := heap_alloc_new wr _
      have hk4 : Keeps [] wr ((wr.alloc (.cells #[.int .u8 0, .int .i64 0, .slice none 0 0] 88)).setRow wr.heap.size #[.int .u8 k1, .int .i64 n1, .slice da dn dc]) := ((Keeps.refl [] wr).alloc _).setRow (Or.inr (Nat.le_refl _)) _
      have hq1 : ((wr.alloc (.cells #[.int .u8 0, .int .i64 0, .slice none 0 0] 88)).setRow wr.heap.size #[.int .u8 k1, .int .i64 n1, .slice da dn dc]).heap[wr.heap.size]? = some (.cells #[.int .u8 k1, .int .i64 n1, .slice da dn dc] 88 (0, 0)) := setRow_heap _ _ _ _ _ _ hq0
      have hlt2r : g2 < w1.heap.size := (Array.getElem?_eq_some_iff.1 h2').1
      have h2r := ((hkr.trans hk4).block g2 hlt2r (by simp)).trans h2'
      have hrs := hr1 _ h2r
      have hkC := hkB.trans hk4
      have hIC := IS x hxsz _ S S' cs _ _ _ u (hrx.keep hkC (by simp)) (hds.keep hkC (by simp))
      have hkF := hkr.trans hk4
      clear hi' hlt hu hk4
      go_upto_region 8 with (first | (refine wpList_load_mid rfl 88 _ rfl gv (i * 3) rfl _ _ hrg Tryz.underlying88 rfl hi3 ?_) | (refine wpList_store_row rfl 88 _ _ rfl wr.heap.size #[.int .u8 k1, .int .i64 n1, .slice da dn dc] rfl rfl _ _ hq0 (info3 _ _ _) rfl (all3 rfl rfl rfl) ?_; generalize (wr.alloc (.cells #[.int .u8 0, .int .i64 0, .slice none 0 0] 88)).setRow wr.heap.size #[.int .u8 k1, .int .i64 n1, .slice da dn dc] = w2 at *))
      go_wp2_with (first
        | (refine wpList_load_mid rfl 208 _ rfl g2 0 rfl cs _ hrs Tryz.underlying208 rfl hi ?_)
        | (refine wpList_load_row rfl 88 _ rfl wr.heap.size rfl _ _ _ _ hq1 Tryz.underlying88 rfl (info3 _ _ _) ?_))
      refine hIC.mono ?_
      rintro e w3 ⟨b, rfl, hbi, hk3⟩
      have hkD := hkC.trans hk3
      have HB : Hid (b = true ↔ Ft x u) := hbi
      have hkE := hkF.trans hk3
      clear hIC hbi hq0 hq1 hrs hrg h2r
      cases b with
      | true =>
       go_wp2_with fail
       go_roundw
       case rel => exact ⟨i + 1, by go_num, HI.out, fun j v hj hv => by
         rcases Nat.lt_or_ge j i with h | h
         · exact HALL.out j v h hv
         · obtain rfl : j = i := by omega
           have := HU.out
           rw [this] at hv
           cases hv
           exact HB.out.1 (by trivial), hkE⟩
       case measure => have := HI.out; simp [intOf]; omega
      | false =>
       have HF : Hid (¬ Ft (.rep mn mx x) (.trep r)) := fun h => by
        cases h with
        | rep _ _ _ _ h1 h2 h3 => exact Bool.noConfusion (HB.out.2 (h3 u (List.mem_of_getElem? HU.out)))
       go_wp2_with fail
       go_ret
       exact ⟨_, rfl, ⟨(nomatch ·), fun h => absurd h HF.out⟩, hkD⟩
     ·have hni : ¬ (i : Int) < (vn : Int) := by omega
      have HF : Hid (Ft (.rep mn mx x) (.trep r)) := by
       have h1 := HOF.out
       have h5 := HK.out
       simp only [oft, Bool.and_eq_true, Bool.or_eq_true, decide_eq_true_eq] at h1
       refine .rep mn mx x r (by omega) (by rw [← h5]; exact h1.2) fun u hu => ?_
       obtain ⟨j, hj⟩ := List.getElem?_of_mem hu
       have := (List.getElem?_eq_some_iff.1 hj).1
       exact HALL.out j u (by omega) hj
      have hkB := hkA.trans hkr
      clear hlt hi'
      go_wp2_with fail
      go_ret
      exact ⟨_, rfl, ⟨fun _ => HF.out, fun _ => rfl⟩, hkB⟩
   ·have HO : Hid (∀ w, Calls Tryz.prog 224 #[.agg #[.bool true, .int .i64 mn, .int .i64 mx], .int .i64 vn] w fun e w' => e = .returned (.bool false) ∧ Keeps [] w w') := by
       rw [show oft mn mx vn = false by simpa using hof] at hO
       exact hO
    have HF : Hid (¬ Ft (.rep mn mx x) (.trep r)) := fun h => by
     apply hof
     cases h with
     | rep _ _ _ _ h1 h2 h3 =>
      rw [HK.out]
      simp only [oft, Bool.and_eq_true, Bool.or_eq_true, decide_eq_true_eq]
      exact ⟨h1, h2⟩
    clear hO hof
    go_wp2_with (first
      | (go_at_call 224; refine (HO.out _).mono ?_; rintro e w1 ⟨rfl, hk1⟩))
    go_ret
    exact ⟨_, rfl, ⟨(nomatch ·), fun h => absurd h HF.out⟩, hk0.trans hk1⟩
  ·have hkE : ((t.ltr : Int) == 114) = false := by simp; omega
   have hkN : ((t.ltr : Int) != 114) = true := by simp; omega
   have HF : Hid (¬ Ft (.rep mn mx x) t) := fun h => by cases h; exact hb rfl
   clear hb
   go_wp2_with fail
   go_ret
   exact ⟨_, rfl, ⟨(nomatch ·), fun h => absurd h HF.out⟩, hk0⟩
end Go.Proofs.YtnfojonmohijpaaGreatDoor
namespace Go.Proofs.YtnfojonmohijpaaGreatDoor
open Go.RowKit
theorem alloc_pieceU (w : World) : (Instr.alloc 212 true (.tuple #[])).run Tryz.prog w = .ok (.pointer (some ⟨w.heap.size, 0, none⟩)) (w.alloc (.cells pz.toArray 212)) := by kernel_rfl
theorem wpList_zeroPieceU {ops : Array Oper} {rest : List Oper} {o : Oper} {a : Act} {w : World} {Q : Exit → Act → World → Prop} (hg : o.guard = none) (ho : o.op = .alloc 212) (d : Option Tmp) (hd : o.dst = d)
    (h : wpList Tryz.prog ops Q rest (a.put d (.pointer (some ⟨w.heap.size, 0, none⟩))) (w.alloc (.cells pz.toArray 212))) : wpList Tryz.prog ops Q (o :: rest) a w := by
 subst hd
 refine wpList_plain hg fun K hK => ?_
 unfold Oper.wp execOp
 simp only [ho, Sem.run_bind, alloc_pieceU, Sem.run_pure, Result.andThen_ok]
 exact hK _ _ h
theorem infoPcU (cs : List Value) (h : cs.length = 261) : (Tryz.prog.info? 212).map (·.size) = some cs.length := by rw [h]; kernel_rfl
theorem Rep.isPl {w : World} {S : Nat → Prop} {x : Pat} {cs : List Value} (h : Rep w S .plist x cs) : isP x := by
 generalize hk : Kr.plist = k at h
 induction h with
 | pnil => trivial
 | pcons _ _ _ _ _ _ _ ih => exact ih rfl
 | _ => cases hk
theorem way_kind {x : Pat} (h : isP x) : ((pl x).length = 0 ∧ x = .pnil) ∨ ((pl x).length = 1 ∧ ∃ y, x = .pcons y .pnil) ∨ (2 ≤ (pl x).length ∧ ∃ y z r, x = .pcons y (.pcons z r)) := by
 cases x with
 | pnil => exact Or.inl ⟨rfl, rfl⟩
 | pcons y r =>
  cases r with
  | pnil => exact Or.inr (Or.inl ⟨rfl, y, rfl⟩)
  | pcons z r => exact Or.inr (Or.inr ⟨by simp [pl], y, z, r, rfl⟩)
  | _ => exact h.elim
 | _ => exact h.elim
set_option maxRecDepth 100000 in
set_option maxHeartbeats 4000000 in
theorem wayFits_any (n : Nat) (IP : PieceF n) : WayF (n + 1) := by
 intro x hx w S S' v a b c t hrep htv
 obtain ⟨rfl, rfl, va, vn, vc, rfl⟩ := htv.face
 cases hrep with
 | way _ cs _ pn hpl hown hSv =>
 obtain ⟨pa, pn', pc, rfl⟩ := ownsRow_sl hown
 obtain rfl := ownsRow_lenT hown
 have hP := hpl.isPl
 obtain ⟨_, hcl, hat⟩ := hpl.pl_text
 have HL : Hid (pn' = (pl x).length) := by
  have := hown.1
  show pn' = (pl x).length
  omega
 have hpm : (pn' : Int) ≤ 9223372036854775807 := by
  rcases hown.2 with ⟨_, e⟩ | ⟨g, cap, cur, _, _, _, h1, h2, _⟩
  ·omega
  ·unfold maxLen at h2; omega
 have hpc : ∀ (d : Nat) (y : Pat), (pl x)[d]? = some y → ∃ g es, pa = some ⟨g, 0, none⟩ ∧ Rep w S .piece y es ∧ y.sz < x.sz ∧ es.length = 261 ∧ ∀ X' : World, Keeps [] w X' → X'.rangeAt g (d * 261) es := by
  intro d y hy
  obtain ⟨es, h1, h2, h3⟩ := hat d y hy
  have h8 : es.length = 261 := h1.cells.2
  have hd : d < pn' := by have := HL.out; have := (List.getElem?_eq_some_iff.1 hy).1; omega
  obtain ⟨g, cap, hv, _, hgl⟩ := hown.form (by omega)
  cases hv
  refine ⟨g, es, rfl, h1, h3, h8, fun X' hk q u hu => ?_⟩
  have hq : q < 261 := by rw [← h8]; exact (List.getElem?_eq_some_iff.1 hu).1
  exact (World.cell?_of_block (hk.block g hgl (by simp))).trans ((World.ownsRow.cellAt hown (d * 261 + q) (by omega)).trans (h2 q u hu))
 have h3 : P3 (w.alloc (.cells #[.int .u8 t.ltr, .int .i64 t.num, .slice va vn vc] 88)) w.heap.size (.int .u8 t.ltr) (.int .i64 t.num) (.slice va vn vc) := heap_alloc_new w _
 have hk0 : Keeps [] w (w.alloc (.cells #[.int .u8 t.ltr, .int .i64 t.num, .slice va vn vc] 88)) := (Keeps.refl [] w).alloc _
 obtain ⟨d0, d1, d2⟩ := h3.main
 clear hcl hat
 go_enter Tryz.func133, Tryz.ntmps133
 go_upto_region 1 with (fail)
 generalize w.alloc (.cells #[.int .u8 t.ltr, .int .i64 t.num, .slice va vn vc] 88) = W at *
 obtain ⟨g3, hg3⟩ : ∃ g, w.heap.size = g := ⟨_, rfl⟩
 rw [hg3] at h3 d0 d1 d2 ⊢
 rcases way_kind hP with ⟨h0, rfl⟩ | ⟨h1, y, rfl⟩ | ⟨hge, y, z, r, rfl⟩
 ·have hp0 : ((pn' : Int) == 0) = true := by have := HL.out; simp; omega
  by_cases hb : t.ltr = 101
  ·have hkE : ((t.ltr : Int) == 101) = true := by simp; omega
   have HF : Hid (Ft .pnil t) := by
    show Ft .pnil t
    cases t <;> simp [Tr.ltr] at hb
    exact .nil
   clear hb h0
   go_wp2_with fail
   go_ret
   exact ⟨_, rfl, ⟨fun _ => HF.out, fun _ => rfl⟩, hk0⟩
  ·have hkE : ((t.ltr : Int) == 101) = false := by simp; omega
   have HF : Hid (¬ Ft .pnil t) := fun h => by cases h; exact hb rfl
   clear hb h0
   go_wp2_with fail
   go_ret
   exact ⟨_, rfl, ⟨(nomatch ·), fun h => absurd h HF.out⟩, hk0⟩
 ·have hp0 : ((pn' : Int) == 0) = false := by have := HL.out; simp; omega
  have hp1 : ((pn' : Int) == 1) = true := by have := HL.out; simp; omega
  have hpp : (0 : Int) < (pn' : Int) := by have := HL.out; omega
  have hpp' : 0 < pn' := by have := HL.out; omega
  obtain ⟨gp, es, rfl, hmy, hysz, h8, hrg⟩ := hpc 0 y rfl
  have hisz8 := infoPcU es h8
  have hi3 : (Tryz.prog.info? 88).map (·.size) = some [Value.int .u8 t.ltr, .int .i64 t.num, .slice va vn vc].length := by kernel_rfl
  have hS0 : P3 W.drew g3 (.int .u8 t.ltr) (.int .i64 t.num) (.slice va vn vc) ∧ Keeps [] w W.drew := ⟨h3, hk0.drewN 1⟩
  clear h1
  go_upto_region 5 with (fail)
  refine wp_region_held (S := fun X => P3 X g3 (.int .u8 t.ltr) (.int .i64 t.num) (.slice va vn vc) ∧ Keeps [] w X) (by kernel_rfl) ?_
  change wpAnyH _ _ _ _ _ _ _ _ (World.drew _)
  generalize W.drew = X0 at *
  refine wpAnyH_tk 0 _ (some 16) (.slice (some ⟨gp, 0, none⟩) pn' pc) rfl rfl (by kernel_rfl) (by kernel_rfl) (by kernel_rfl) (fun _ _ _ h => h) (Or.inl ⟨by rfl, fun X hX => by go_simp⟩) hS0 ?_
  simp only [Act.put, List.setIfInBounds_toArray, List.set_cons_zero, List.set_cons_succ]
  refine wpAnyH_tk 1 _ (some 17) (.pointer (some ⟨gp, 0 * 261, none⟩)) rfl rfl (by kernel_rfl) (by kernel_rfl) (by kernel_rfl) (fun _ _ _ h => h) (Or.inl ⟨by rfl, fun X hX => by go_simp⟩) hS0 ?_
  simp only [Act.put, List.setIfInBounds_toArray, List.set_cons_zero, List.set_cons_succ]
  refine wpAnyH_tk 2 _ (some 18) (.agg es.toArray) rfl rfl (by kernel_rfl) (by kernel_rfl) (by kernel_rfl) (fun _ _ _ h => h) (yieldsIf_load_mid (by rfl) 212 _ rfl gp (0 * 261) rfl es _ (fun X hX => hrg X hX.2) Tryz.underlying212 rfl hisz8) hS0 ?_
  simp only [Act.put, List.setIfInBounds_toArray, List.set_cons_zero, List.set_cons_succ]
  refine wpAnyH_tk 3 _ (some 19) (.agg #[.int .u8 t.ltr, .int .i64 t.num, .slice va vn vc]) rfl rfl (by kernel_rfl) (by kernel_rfl) (by kernel_rfl) (fun _ _ _ h => h) (yieldsIf_load_mid (by rfl) 88 _ rfl g3 0 rfl [.int .u8 t.ltr, .int .i64 t.num, .slice va vn vc] _ (fun X hX => rangeAll hX.1) Tryz.underlying88 rfl hi3) hS0 ?_
  simp only [Act.put, List.setIfInBounds_toArray, List.set_cons_zero, List.set_cons_succ]
  refine wpAnyH_ready (rs := [4]) (by kernel_rfl) (by simp) ?_
  refine AllReadyH.cons rfl (fun K hK => ?_) AllReadyH.nil
  go_simp
  refine (IP y (by omega) X0 S S' es _ _ _ t (hmy.keep hS0.2 (by simp)) (htv.keep hS0.2 (by simp))).mono ?_
  rintro e w1 ⟨b, rfl, hbi, hk1⟩
  have hS1 : P3 w1 g3 (.int .u8 t.ltr) (.int .i64 t.num) (.slice va vn vc) ∧ Keeps [] w w1 := ⟨hS0.1.keep hk1 (by simp), hS0.2.trans hk1⟩
  refine hK.out _ _ hS1 (fun _ => ?_)
  clear hK K
  refine wpAnyH_tk 5 _ (some 4) (.bool b) rfl rfl (by kernel_rfl) (by kernel_rfl) (by kernel_rfl) (fun _ _ _ h => h) (Or.inl ⟨by rfl, fun X hX => by go_simp⟩) hS1 ?_
  simp only [Act.put, List.setIfInBounds_toArray, List.set_cons_zero, List.set_cons_succ]
  refine wpAnyH_done (by kernel_rfl) ?_ _
  go_wp2_with fail
  go_ret
  exact ⟨b, rfl, ⟨fun h => .lone y t (hbi.1 h), fun h => by cases h; exact hbi.2 (by assumption)⟩, hS1.2⟩
 ·have hp0 : ((pn' : Int) == 0) = false := by have := HL.out; simp; omega
  have hp1 : ((pn' : Int) == 1) = false := by have := HL.out; simp; omega
  by_cases hb : t.ltr = 115
  ·obtain ⟨l, rfl⟩ : ∃ l, t = .tser l := by cases t <;> simp [Tr.ltr] at hb; exact ⟨_, rfl⟩
   have e1 : (((Tr.tser l).ltr : Nat) : Int) = 115 := rfl
   have e2 : (((Tr.tser l).num : Nat) : Int) = 0 := rfl
   rw [e1] at h3 d0 ⊢
   rw [e2] at h3 d1 ⊢
   cases htv with
   | tser _ _ m rs hrow hownt hSt =>
   obtain rfl := ownsRow_lenT hownt
   obtain ⟨hcl, _, hatt⟩ := hrow.tl_at
   have HK : Hid (vn = (tl l).length) := by
    have := hownt.1
    show vn = (tl l).length
    omega
   have hvm : (vn : Int) ≤ 9223372036854775807 := by
    rcases hownt.2 with ⟨_, e⟩ | ⟨g, cap, cur, _, _, _, h1, h2, _⟩
    ·omega
    ·unfold maxLen at h2; omega
   clear hb e1 e2 hcl hge
   by_cases hlen : vn = pn'
   ·subst hlen
    have hi3 : (Tryz.prog.info? 88).map (·.size) = some 3 := by kernel_rfl
    go_upto_region 9 with (fail)
    go_loopw [5, 6, 34] (fun _ _ q34 wr => ∃ i : Nat, q34 = .int .i64 i ∧ i ≤ vn ∧ (∀ (j : Nat) (p : Pat) (u : Tr), j < i → (pl (.pcons y (.pcons z r)))[j]? = some p → (tl l)[j]? = some u → Ft p u) ∧ Keeps [] W wr) (fun _ _ q _ => vn - (intOf q).toNat)
    case atStart => exact ⟨0, rfl, Nat.zero_le _, fun j p u h => absurd h (Nat.not_lt_zero _), Keeps.refl _ _⟩
    case round =>
     obtain ⟨i, rfl, hi', hall, hkr⟩ := hrel
     have HALL : Hid (∀ (j : Nat) (p : Pat) (u : Tr), j < i → (pl (.pcons y (.pcons z r)))[j]? = some p → (tl l)[j]? = some u → Ft p u) := hall
     clear hall
     have hkB := hk0.trans hkr
     have h3r := h3.keep hkr (by simp)
     by_cases hlt : i < vn
     ·obtain ⟨p, hp⟩ : ∃ p, (pl (.pcons y (.pcons z r)))[i]? = some p := ⟨_, List.getElem?_eq_getElem (by have := HL.out; omega)⟩
      obtain ⟨u, hu⟩ : ∃ u, (tl l)[i]? = some u := ⟨_, List.getElem?_eq_getElem (by have := HK.out; omega)⟩
      obtain ⟨gp, es, hpa, hmy, hysz, h8, hrgp⟩ := hpc i p hp
      subst hpa
      obtain ⟨ds, hds, hdc, _, _⟩ := hatt i u hu
      obtain ⟨k1, n1, da, dn, dc, rfl⟩ := hds.form
      obtain ⟨gv, vc', hv, _, hgv⟩ := hownt.form (by omega)
      cases hv
      have hgv' : gv < w.heap.size := hgv
      have hrg : ∀ X : World, Keeps [] w X → X.rangeAt gv (i * 3) [.int .u8 k1, .int .i64 n1, .slice da dn dc] := fun X hk j z hz => by
       have hj : j < 3 := (List.getElem?_eq_some_iff.1 hz).1
       exact (World.cell?_of_block (hk.block gv hgv' (by simp))).trans ((World.ownsRow.cellAt hownt (i * 3 + j) (by omega)).trans (hdc j z hz))
      have hi0 : (0 : Int) ≤ (i : Int) := by omega
      have hi1 : (i : Int) < (vn : Int) := by omega
      have HI : Hid (i < vn) := hlt
      have HU : Hid ((pl (.pcons y (.pcons z r)))[i]? = some p ∧ (tl l)[i]? = some u) := ⟨hp, hu⟩
      have hinf := infoPcU es h8
      have hinf2 : (Tryz.prog.info? 212).map (·.size) = some es.toArray.size := by rw [List.size_toArray]; exact hinf
      have hzz : pz.toArray.size = es.toArray.size := by rw [List.size_toArray, List.size_toArray, pz_len, h8]
      have hone := one_all hmy.cells.1
      have hz0 : (wr.alloc (.cells pz.toArray 212)).heap[wr.heap.size]? = some (.cells pz.toArray 212 (0, 0)) := heap_alloc_new wr _
      have hq1 : ((wr.alloc (.cells pz.toArray 212)).setRow wr.heap.size es.toArray).heap[wr.heap.size]? = some (.cells es.toArray 212 (0, 0)) := setRow_heap _ _ _ _ _ _ hz0
      have hk4 : Keeps [] wr ((wr.alloc (.cells pz.toArray 212)).setRow wr.heap.size es.toArray) := ((Keeps.refl [] wr).alloc _).setRow (Or.inr (Nat.le_refl _)) _
      have hrp := hrgp wr hkB
      clear hi' hlt hp hu hatt hpc
      go_upto_region 11 with (first | (refine wpList_load_mid rfl 212 _ rfl gp (i * 261) rfl es _ hrp Tryz.underlying212 rfl hinf ?_) | (refine wpList_zeroPieceU rfl rfl (some 6) rfl ?_; generalize wr.alloc (.cells pz.toArray 212) = wz at *) | (refine wpList_store_row rfl 212 _ _ rfl wr.heap.size es.toArray rfl rfl _ _ hz0 hinf2 hzz hone ?_))
      obtain ⟨gq, hgq⟩ : ∃ g, wr.heap.size = g := ⟨_, rfl⟩
      rw [hgq] at hq1 hz0 hk4 ⊢
      generalize wz.setRow gq es.toArray = w2 at *
      have h3s := h3r.keep hk4 (by simp)
      have hkC := hkB.trans hk4
      have hkF := hkr.trans hk4
      have hS0 : w2.drew.heap[gq]? = some (.cells es.toArray 212 (0, 0)) ∧ P3 w2.drew g3 (.int .u8 115) (.int .i64 0) (.slice (some ⟨gv, 0, none⟩) vn vc) ∧ Keeps [] w2 w2.drew := ⟨hq1, h3s, (Keeps.refl [] w2).drewN 1⟩
      clear hz0 hk4
      refine wp_region_held (S := fun X => X.heap[gq]? = some (.cells es.toArray 212 (0, 0)) ∧ P3 X g3 (.int .u8 115) (.int .i64 0) (.slice (some ⟨gv, 0, none⟩) vn vc) ∧ Keeps [] w2 X) (by kernel_rfl) ?_
      change wpAnyH _ _ _ _ _ _ _ _ (World.drew _)
      generalize w2.drew = X0 at *
      refine wpAnyH_tk 0 _ (some 39) (.agg es.toArray) rfl rfl (by kernel_rfl) (by kernel_rfl) (by kernel_rfl) (fun _ _ _ h => h) (yieldsIf_load_mid (by rfl) 212 _ rfl gq 0 rfl es _ (fun X hX => rangeAll hX.1) Tryz.underlying212 rfl hinf) hS0 ?_
      simp only [Act.put, List.setIfInBounds_toArray, List.set_cons_zero, List.set_cons_succ]
      refine wpAnyH_tk 1 _ (some 40) (.pointer (some ⟨g3, 2, none⟩)) rfl rfl (by kernel_rfl) (by kernel_rfl) (by kernel_rfl) (fun _ _ _ h => h) (Or.inl ⟨by rfl, fun X hX => by go_simp⟩) hS0 ?_
      simp only [Act.put, List.setIfInBounds_toArray, List.set_cons_zero, List.set_cons_succ]
      refine wpAnyH_tk 2 _ (some 41) (.slice (some ⟨gv, 0, none⟩) vn vc) rfl rfl (by kernel_rfl) (by kernel_rfl) (by kernel_rfl) (fun _ _ _ h => h) (Or.inl ⟨by rfl, fun X hX => by (obtain ⟨q0, q1, q2⟩ := hX.2.1.main; go_simp)⟩) hS0 ?_
      simp only [Act.put, List.setIfInBounds_toArray, List.set_cons_zero, List.set_cons_succ]
      refine wpAnyH_tk 3 _ (some 42) (.int .i64 i) rfl rfl (by kernel_rfl) (by kernel_rfl) (by kernel_rfl) (fun _ _ _ h => h) (Or.inl ⟨by rfl, fun X hX => by go_simp⟩) hS0 ?_
      simp only [Act.put, List.setIfInBounds_toArray, List.set_cons_zero, List.set_cons_succ]
      refine wpAnyH_tk 4 _ (some 43) (.pointer (some ⟨gv, i * 3, none⟩)) rfl rfl (by kernel_rfl) (by kernel_rfl) (by kernel_rfl) (fun _ _ _ h => h) (Or.inl ⟨by rfl, fun X hX => by go_simp⟩) hS0 ?_
      simp only [Act.put, List.setIfInBounds_toArray, List.set_cons_zero, List.set_cons_succ]
      refine wpAnyH_tk 5 _ (some 44) (.agg #[.int .u8 k1, .int .i64 n1, .slice da dn dc]) rfl rfl (by kernel_rfl) (by kernel_rfl) (by kernel_rfl) (fun _ _ _ h => h) (yieldsIf_load_mid (by rfl) 88 _ rfl gv (i * 3) rfl [.int .u8 k1, .int .i64 n1, .slice da dn dc] _ (fun X hX => hrg X (hkC.trans hX.2.2)) Tryz.underlying88 rfl hi3) hS0 ?_
      simp only [Act.put, List.setIfInBounds_toArray, List.set_cons_zero, List.set_cons_succ]
      refine wpAnyH_ready (rs := [6]) (by kernel_rfl) (by simp) ?_
      refine AllReadyH.cons rfl (fun K hK => ?_) AllReadyH.nil
      go_simp
      refine (IP p (by omega) X0 S S' es _ _ _ u (hmy.keep (hkC.trans hS0.2.2) (by simp)) (hds.keep (hkC.trans hS0.2.2) (by simp))).mono ?_
      rintro e w4 ⟨b, rfl, hbi, hk5⟩
      have hS1 : w4.heap[gq]? = some (.cells es.toArray 212 (0, 0)) ∧ P3 w4 g3 (.int .u8 115) (.int .i64 0) (.slice (some ⟨gv, 0, none⟩) vn vc) ∧ Keeps [] w2 w4 := ⟨(hk5.block gq (Array.getElem?_eq_some_iff.1 hS0.1).1 (by simp)).trans hS0.1, hS0.2.1.keep hk5 (by simp), hS0.2.2.trans hk5⟩
      refine hK.out _ _ hS1 (fun _ => ?_)
      clear hK K
      have HB : Hid (b = true ↔ Ft p u) := hbi
      have hkD := hkC.trans hS1.2.2
      have hkE := hkF.trans hS1.2.2
      clear hbi
      cases b with
      | true =>
       refine wpAnyH_tk 7 _ (some 46) (.bool false) rfl rfl (by kernel_rfl) (by kernel_rfl) (by kernel_rfl) (fun _ _ _ h => h) (Or.inl ⟨by rfl, fun X hX => by go_simp⟩) hS1 ?_
       simp only [Act.put, List.setIfInBounds_toArray, List.set_cons_zero, List.set_cons_succ]
       refine wpAnyH_done (by kernel_rfl) ?_ _
       go_wp2_with fail
       go_roundw
       case rel => exact ⟨i + 1, by go_num, HI.out, fun j p' u' hj hp' hu' => by
         rcases Nat.lt_or_ge j i with h | h
         · exact HALL.out j p' u' h hp' hu'
         · obtain rfl : j = i := by omega
           obtain ⟨h1, h2⟩ := HU.out
           rw [h1] at hp'
           rw [h2] at hu'
           cases hp'
           cases hu'
           exact HB.out.1 (by trivial), hkE⟩
       case measure => have := HI.out; simp [intOf]; omega
      | false =>
       have HF : Hid (¬ Ft (.pcons y (.pcons z r)) (.tser l)) := fun h => by
        cases h with
        | ser _ _ _ _ h1 h2 => exact Bool.noConfusion (HB.out.2 (h2 i p u HU.out.1 HU.out.2))
       refine wpAnyH_tk 7 _ (some 46) (.bool true) rfl rfl (by kernel_rfl) (by kernel_rfl) (by kernel_rfl) (fun _ _ _ h => h) (Or.inl ⟨by rfl, fun X hX => by go_simp⟩) hS1 ?_
       simp only [Act.put, List.setIfInBounds_toArray, List.set_cons_zero, List.set_cons_succ]
       refine wpAnyH_done (by kernel_rfl) ?_ _
       go_wp2_with fail
       go_ret
       exact ⟨_, rfl, ⟨(nomatch ·), fun h => absurd h HF.out⟩, hkD⟩
     ·have hni : ¬ (i : Int) < (vn : Int) := by omega
      have HF : Hid (Ft (.pcons y (.pcons z r)) (.tser l)) := by
       have h5 := HK.out
       have h6 := HL.out
       refine .ser y z r l (by omega) fun j p' u' hp' hu' => ?_
       have := (List.getElem?_eq_some_iff.1 hu').1
       exact HALL.out j p' u' (by omega) hp' hu'
      clear hlt hi'
      go_wp2_with fail
      go_ret
      exact ⟨_, rfl, ⟨fun _ => HF.out, fun _ => rfl⟩, hkB⟩
   ·have hnE : ((vn : Int) == (pn' : Int)) = false := by simp; omega
    have hnN : ((vn : Int) != (pn' : Int)) = true := by simp; omega
    have hnE' : (vn == pn') = false := by simp; omega
    have HF : Hid (¬ Ft (.pcons y (.pcons z r)) (.tser l)) := fun h => by
     cases h with
     | ser _ _ _ _ h1 _ => apply hlen; have h3 := HL.out; have h4 := HK.out; omega
    clear hlen
    go_wp2_with fail
    go_ret
    exact ⟨_, rfl, ⟨(nomatch ·), fun h => absurd h HF.out⟩, hk0⟩
  ·have hkE : ((t.ltr : Int) == 115) = false := by simp; omega
   have hkN : ((t.ltr : Int) != 115) = true := by simp; omega
   have HF : Hid (¬ Ft (.pcons y (.pcons z r)) t) := fun h => by cases h; exact hb rfl
   clear hb
   go_wp2_with fail
   go_ret
   exact ⟨_, rfl, ⟨(nomatch ·), fun h => absurd h HF.out⟩, hk0⟩
end Go.Proofs.YtnfojonmohijpaaGreatDoor
