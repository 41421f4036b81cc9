/-
  DERIVED. The contract of the program's Stretches. No conditions.
-/
import Derived.Test.YtnfojonmohijpaaGreatDoorJPY
import Derived.Test.YtnfojonmohijpaaGreatDoorJSpec
set_option linter.unusedSimpArgs false
set_option linter.unusedVariables false
namespace Go.Proofs.YtnfojonmohijpaaGreatDoor
open Go.RowKit

/-- The cells of stretches. -/
def strC (l : List (Nat × Nat)) : List Value := l.flatMap fun p => [.int .u8 (p.1 : Int), .int .u8 (p.2 : Int)]
theorem strC_snoc (l : List (Nat × Nat)) (a b : Nat) : strC (l ++ [(a, b)]) = strC l ++ [.int .u8 (a : Int), .int .u8 (b : Int)] := by simp [strC]
theorem strC_len (l : List (Nat × Nat)) : (strC l).length = l.length * 2 := by
  induction l with
  | nil => rfl
  | cons p l ih => simp only [strC, List.flatMap_cons, List.length_append, List.length_cons, List.length_nil] at ih ⊢; omega

theorem idx_set (f : Nat → Bool) (m : Nat) (h : m < 256) (w : World) : (Instr.index 206 (.agg (hcells f)) (.int .i64 (m : Int))).run Tryz.prog w = .ok (.bool (f m)) w := by
  have hu := Tryz.underlying206
  have h1 : (0 : Int) ≤ (m : Int) := by omega
  have h2 : (m : Int) < 256 := by omega
  have hc := hcells_get f h
  have hz : (Go.sizeOf 4).run Tryz.prog w = .ok 1 w := by kernel_rfl
  have hp : (part 4 (hcells f) m).run Tryz.prog w = .ok (.bool (f m)) w := by
    unfold part
    have ha : (isAgg 4).run Tryz.prog w = .ok false w := by kernel_rfl
    simp [ha, hz, hc]
  simp [Instr.index, run_underlying hu, asIntOf, h1, h2, hz, hp]
  intro hc'
  omega

/-- A cell of an owned row set. -/
theorem ownsRow_set {w : World} {base : Nat} {e : TypeId} {size : Nat} {n cap g : Nat} {xs : List Value} (h : w.ownsRow base e size (.slice (some ⟨g, 0, none⟩) n cap) n xs) (k : Nat) (hk : k < n * size) (v : Value) :
    (w.setCell ⟨g, k, none⟩ v).ownsRow base e size (.slice (some ⟨g, 0, none⟩) n cap) n (xs.set k v) ∧ w.cell? ⟨g, k, none⟩ = xs[k]? ∧ w.frozen? ⟨g, k, none⟩ = false := by
  obtain ⟨hl, h2⟩ := h
  rcases h2 with ⟨hv, _⟩ | ⟨g', cap', cur, hv, hb, hg, hnc, hcm, hcs, htk⟩
  · cases hv
  · cases hv
    have hkc : k < cur.size := by
      rw [hcs]
      exact Nat.lt_of_lt_of_le hk (Nat.mul_le_mul_right _ hnc)
    refine ⟨⟨by simp [hl], Or.inr ⟨g, cap, cur.setIfInBounds k v, rfl, hb, ?_, hnc, hcm, by simp [hcs], ?_⟩⟩, ?_, ?_⟩
    · simp [World.setCell, Array.getElem?_modify, hg]
    · rw [← htk]
      simp [List.take_set]
    · rw [← htk, List.getElem?_take_of_lt hk]
      simp [World.cell?, hg]
    · simp [World.frozen?, hg]

/-- What Stretches' loop has so far. -/
structure SL2 (f : Nat → Bool) (g0 : Nat) (w wr : World) (v : Value) (m : Nat) : Prop where
  set : HQ wr g0 f
  own : wr.ownsRow 0 307 2 v (strs f m).length (strC (strs f m))
  fresh : ∀ g, v.ownBlock = some g → g0 < g
  keep : Keeps [] w wr
  mle : m ≤ 256

set_option maxRecDepth 100000 in
theorem wrap_byte (m : Nat) (h : m < 256) : IntKind.u8.wrap (m : Int) = (m : Int) := by
  have key : ∀ k : Fin 256, IntKind.u8.wrap ((k.val : Nat) : Int) = ((k.val : Nat) : Int) := by decide
  exact key ⟨m, h⟩
theorem strs_len (f : Nat → Bool) (m : Nat) (h : m ≤ 256) : (strs f m).length ≤ m := by
  have h1 := (cnt_lens f m h).1
  have h2 := cntTo_le f m
  have hpos : ∀ l : List (Nat × Nat), l.length ≤ lens l := by
    intro l
    induction l with
    | nil => simp [lens]
    | cons p l ih => simp only [lens, List.map_cons, List.sum_cons, List.length_cons] at ih ⊢; omega
  have := hpos (strs f m)
  omega

theorem infoStr : (Tryz.prog.info? 307).map (fun i => (i.zero, i.size, i.bytes)) = some (some (.agg #[.int .u8 0, .int .u8 0]), 2, 2) := by kernel_rfl

set_option maxRecDepth 100000 in
set_option maxHeartbeats 2000000 in
theorem stretches_prog (f : Nat → Bool) (w : World) :
    Calls Tryz.prog 206 #[.agg (hcells f)] w fun e w' => ∃ v, e = .returned v ∧ w'.ownsRow 0 307 2 v (strs f 256).length (strC (strs f 256)) ∧ (∀ g, v.ownBlock = some g → w.heap.size ≤ g) ∧ Keeps [] w w' := by
  have hz0 : HQ (w.alloc (.cells (hcells f) 206)) w.heap.size f := heap_alloc_new w _
  have hk0 : Keeps [] w (w.alloc (.cells (hcells f) 206)) := (Keeps.refl [] w).alloc _
  obtain ⟨i0, hi0, hy0, hy1, hy2⟩ := info_parts infoStr
  have hix := idx_set f
  generalize hC : hcells f = C at *
  go_enter Tryz.func206, Tryz.ntmps206
  go_wp2_with (first | (refine wpList_load_row rfl 206 _ rfl w.heap.size rfl _ _ _ _ hz0 Tryz.underlying206 rfl (infoSetC _) ?_))
  generalize w.alloc (.cells C 206) = W at *
  obtain ⟨g0, hg0⟩ : ∃ g0, w.heap.size = g0 := ⟨_, rfl⟩
  rw [hg0] at hz0 ⊢
  go_loopw [3, 7] (fun v q wr => ∃ m : Nat, q = .int .i64 m ∧ SL2 f g0 w wr v m) (fun _ q _ => 256 - (intOf q).toNat)
  case atStart => exact ⟨0, rfl, hz0, ⟨rfl, Or.inl ⟨rfl, rfl⟩⟩, by intro g h; simp [Value.ownBlock] at h, hk0, by omega⟩
  case round =>
    clear hz0 hk0
    obtain ⟨m, rfl, L⟩ := hrel
    by_cases hlt : m < 256
    · have hm0 : (0 : Int) ≤ (m : Int) := by omega
      have hm1 : (m : Int) < 256 := by omega
      have hixm := hix m hlt
      have hstep : strs f (m + 1) = if f m = true then (if 0 < m ∧ f (m - 1) = true then setLast (strs f m) m else strs f m ++ [(m, m)]) else strs f m := rfl
      have HS : Hid (strs f (m + 1) = if f m = true then (if 0 < m ∧ f (m - 1) = true then setLast (strs f m) m else strs f m ++ [(m, m)]) else strs f m) := hstep
      clear hstep hix
      cases hfm : f m with
      | false =>
        have L2 : SL2 f g0 w wr u3 (m + 1) := ⟨L.set, by have h := HS.out; rw [if_neg (by rw [hfm]; simp)] at h; rw [h]; exact L.own, L.fresh, L.keep, by omega⟩
        rw [hfm] at hixm
        clear HS
        go_wp2_with fail
        go_roundw
        case rel => exact ⟨m + 1, by go_num, L2⟩
        case measure => simp [intOf]; omega
      | true =>
        rw [hfm] at hixm
        have hwm := wrap_byte m hlt
        have hsl := strs_len f m (by omega)
        by_cases hop : 0 < m ∧ f (m - 1) = true
        · have hstrs : strs f (m + 1) = setLast (strs f m) m := by have h := HS.out; rw [if_pos hfm, if_pos hop] at h; exact h
          obtain ⟨pre, a, hs⟩ : ∃ pre a, strs f m = pre ++ [(a, m - 1)] := by
            rcases StrInv.all f m (by omega) with ⟨pre, a, _, _, hs, _⟩ | ⟨hc, _⟩
            · exact ⟨pre, a, hs⟩
            · rcases hc with h | h
              · omega
              · rw [hop.2] at h; cases h
          have hown := L.own
          rw [hs] at hown
          obtain ⟨g, cap, hv, _, _⟩ := hown.form (by simp)
          have hfr := L.fresh
          rw [hv] at hown hfr
          have hlen : (pre ++ [(a, m - 1)]).length = pre.length + 1 := by simp
          rw [hlen] at hown hv hfr
          have hcp := L.set.cell (k := m - 1) (by omega)
          rw [hop.2] at hcp
          have hi1 : (m : Int) - 1 = ((m - 1 : Nat) : Int) := by omega
          obtain ⟨ho2, hc2, hf2⟩ := ownsRow_set hown (pre.length * 2 + 1) (by omega) (.int .u8 (m : Int))
          have hcell : wr.cell? ⟨g, pre.length * 2 + 1, none⟩ = some (.int .u8 ((m - 1 : Nat) : Int)) := by
            rw [hc2, strC_snoc, List.getElem?_append_right (by rw [strC_len]; omega), strC_len]
            simp
          have hset : (strC (pre ++ [(a, m - 1)])).set (pre.length * 2 + 1) (.int .u8 (m : Int)) = strC (pre ++ [(a, m)]) := by
            rw [strC_snoc, strC_snoc, List.set_append_right _ _ (by rw [strC_len]; omega), strC_len]
            simp
          rw [hset] at ho2
          have hgg : g0 < g := hfr g rfl
          have L2 : SL2 f g0 w (wr.setCell ⟨g, pre.length * 2 + 1, none⟩ (.int .u8 (m : Int))) (.slice (some ⟨g, 0, none⟩) (pre.length + 1) cap) (m + 1) := by
            refine ⟨L.set.keep ((Keeps.refl [g] wr).setCell (by simp) _) (by simp; omega), ?_, hfr, L.keep.setCell (Or.inr (by show w.heap.size ≤ g; omega)) _, by omega⟩
            rw [hstrs, hs, setLast_snoc]
            simpa using ho2
          have hpl : pre.length ≤ 255 := by rw [hs] at hsl; simp at hsl; omega
          have hp0 : (0 : Int) ≤ (pre.length : Int) := by omega
          have hp1 : (pre.length : Int) ≤ 255 := by omega
          subst hv
          clear HS hstrs hs L hown ho2 hc2 hset hfr hlen hsl hpl
          go_wp2_with fail
          go_roundw
          case rel => exact ⟨m + 1, by go_num, L2⟩
          case measure => simp [intOf]; omega
        · have hstrs : strs f (m + 1) = strs f m ++ [(m, m)] := by have h := HS.out; rw [if_pos hfm, if_neg hop] at h; exact h
          have hlm : (strs f m).length + 1 ≤ maxLen := by unfold maxLen; omega
          have hun := Tryz.underlying303
          have hown := L.own
          have hNX : ∀ g cap w4, w4.ownsRow 0 307 2 (.slice (some ⟨g, 0, none⟩) ((strs f m).length + 1) cap) ((strs f m).length + 1) (strC (strs f m) ++ [.int .u8 (m : Int), .int .u8 (m : Int)]) → (wr.alloc (.cells #[.int .u8 (m : Int), .int .u8 (m : Int)] 307)).grownBy w4 u3.ownBlock → (u3.ownBlock = some g ∨ g = wr.heap.size + 1) → SL2 f g0 w w4 (.slice (some ⟨g, 0, none⟩) ((strs f m).length + 1) cap) (m + 1) := by
            intro g cap w4 h1 h2 h3
            have hk4 : Keeps u3.ownBlock.toList wr w4 := ((Keeps.refl u3.ownBlock.toList wr).alloc _).trans (Keeps.ofGrown h2)
            have hfr : ∀ y, y ∈ u3.ownBlock.toList → g0 < y := by
              intro y hy
              rw [Option.mem_toList] at hy
              exact L.fresh y hy
            have hsz := L.keep.size
            have hgl := L.set.lt
            refine ⟨L.set.keep hk4 (fun h => by have := hfr _ h; omega), ?_, ?_, L.keep.fresh hk4 (fun y hy => Or.inr (by have := hfr y hy; omega)), by omega⟩
            · rw [hstrs, strC_snoc, List.length_append, List.length_singleton]; exact h1
            · intro y hy
              cases hy
              rcases h3 with h | h
              · exact L.fresh _ h
              · show g0 < g; omega
          have HN : Hid (∀ g cap w4, w4.ownsRow 0 307 2 (.slice (some ⟨g, 0, none⟩) ((strs f m).length + 1) cap) ((strs f m).length + 1) (strC (strs f m) ++ [.int .u8 (m : Int), .int .u8 (m : Int)]) → (wr.alloc (.cells #[.int .u8 (m : Int), .int .u8 (m : Int)] 307)).grownBy w4 u3.ownBlock → (u3.ownBlock = some g ∨ g = wr.heap.size + 1) → SL2 f g0 w w4 (.slice (some ⟨g, 0, none⟩) ((strs f m).length + 1) cap) (m + 1)) := hNX
          clear hNX HS hstrs
          have hcp : 0 < m → wr.cell? ⟨g0, m - 1, none⟩ = some (.bool false) := fun h => by
            have := L.set.cell (k := m - 1) (by omega)
            have hff : f (m - 1) = false := by cases hq : f (m - 1); rfl; exact absurd ⟨h, hq⟩ hop
            rw [hff] at this; exact this
          have HL : Hid (m < 256) := hlt
          have HB : Hid ((strs f m).length ≤ 256) := by show (strs f m).length ≤ 256; omega
          by_cases hmz : m = 0
          · have hmi : ¬ (0 : Int) < (m : Int) := by omega
            clear hcp hop hsl L hmz
            go_wp2_with (at_builtin; refine wpList_append_lies _ rfl _ _ _ rfl 0 307 i0 _ 2 2 hun hi0 hy0 hy1 hy2 rfl (by decide) u3 (strs f m).length _ rfl (hown.alloc _) ⟨wr.heap.size, 0, none⟩ 1 1 [.int .u8 (m : Int), .int .u8 (m : Int)] rfl rfl ?c1 ?c2 ?c3 hlm ?c4 ?c5 (wr.heap.size + 1) ?c6 ?_)
            case c2 => first | rfl | (intro u hu; simp at hu; subst hu; rfl)
            case c4 => have := HB.out; omega
            intro g cap w4 hown4 hgrow hat hlt4
            have L2 := HN.out g cap w4 hown4 hgrow hat
            clear hown4 hgrow hat HN
            go_wp2_with fail
            go_roundw
            case rel => exact ⟨m + 1, by go_num, L2⟩
            case measure => have := HL.out; simp [intOf]; omega
          · have hmi : (0 : Int) < (m : Int) := by omega
            have hcp' := hcp (by omega)
            have hm' : 0 < m := by omega
            have hi1 : (m : Int) - 1 = ((m - 1 : Nat) : Int) := by omega
            clear hcp hop hsl L
            go_wp2_with (at_builtin; refine wpList_append_lies _ rfl _ _ _ rfl 0 307 i0 _ 2 2 hun hi0 hy0 hy1 hy2 rfl (by decide) u3 (strs f m).length _ rfl (hown.alloc _) ⟨wr.heap.size, 0, none⟩ 1 1 [.int .u8 (m : Int), .int .u8 (m : Int)] rfl rfl ?c1 ?c2 ?c3 hlm ?c4 ?c5 (wr.heap.size + 1) ?c6 ?_)
            case c2 => first | rfl | (intro u hu; simp at hu; subst hu; rfl)
            case c4 => have := HB.out; omega
            intro g cap w4 hown4 hgrow hat hlt4
            have L2 := HN.out g cap w4 hown4 hgrow hat
            clear hown4 hgrow hat HN
            go_wp2_with fail
            go_roundw
            case rel => exact ⟨m + 1, by go_num, L2⟩
            case measure => have := HL.out; simp [intOf]; omega
    · have e : m = 256 := by have := L.mle; omega
      subst e
      go_wp2_with fail
      go_ret
      exact ⟨_, rfl, L.own, fun g hg => by have := L.fresh g hg; omega, L.keep⟩
end Go.Proofs.YtnfojonmohijpaaGreatDoor
