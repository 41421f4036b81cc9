/-
  DERIVED. What the reference's matching has in memory: the text's block, the pattern's, the rows of what was asked so far; how it is kept. Nothing is walked here.
-/
import Derived.Test.YtnfojonmohijpaaGreatDoorJMB
import Derived.Test.YtnfojonmohijpaaGreatDoorJWP
import Derived.Test.YtnfojonmohijpaaGreatDoorJMC
set_option linter.unusedSimpArgs false
set_option linter.unusedVariables false
namespace Go.Proofs.YtnfojonmohijpaaGreatDoor
open Go.RowKit
def EA (w : World) (s : ByteArray) (nds : List Nd) (D Z : List Nat) (k i : Nat) (v : Value) : Prop :=
 ∃ h c f, v = .slice (some ⟨h, 0, none⟩) (s.size + 1) c ∧ RB w v (s.size + 1) f ∧ h ∉ D ∧ h ∉ Z ∧ ∀ j, j ≤ s.size → (f j = true ↔ MN s nds (.node k) i j)
theorem EA.lt {w : World} {s : ByteArray} {nds : List Nd} {D Z : List Nat} {k i : Nat} {v : Value} (h : EA w s nds D Z k i v) : ∀ g, v.ownBlock = some g → g < w.heap.size := by
 obtain ⟨x, c, f, rfl, hr, _⟩ := h
 intro g hg
 exact (World.ownsRow.lt hr g hg).2
theorem EA.keep {w w' : World} {s : ByteArray} {nds : List Nd} {D Z S : List Nat} {k i : Nat} {v : Value} (h : EA w s nds D Z k i v) (hk : Keeps S w w') (hS : ∀ x, x ∈ S → x ∈ D ∨ x ∈ Z ∨ w.heap.size ≤ x) : EA w' s nds D Z k i v := by
 have hl := h.lt
 obtain ⟨x, c, f, rfl, hr, h1, h2, h3⟩ := h
 refine ⟨x, c, f, rfl, hr.keep hk ?_, h1, h2, h3⟩
 intro g hg hs
 have := hl g hg
 simp only [Value.ownBlock, Option.some.injEq] at hg
 subst hg
 rcases hS _ hs with h | h | h
 ·exact h1 h
 ·exact h2 h
 ·exact absurd this (by omega)
theorem EA.less {w : World} {s : ByteArray} {nds : List Nd} {D Z Z' : List Nat} {k i : Nat} {v : Value} (h : EA w s nds D Z k i v) (hz : ∀ x, x ∈ Z' → x ∈ Z ∨ w.heap.size ≤ x) : EA w s nds D Z' k i v := by
 have hl := h.lt
 obtain ⟨x, c, f, rfl, hr, h1, h2, h3⟩ := h
 refine ⟨x, c, f, rfl, hr, h1, fun hx => ?_, h3⟩
 have := hl x rfl
 rcases hz x hx with h | h
 ·exact h2 h
 ·omega
structure TX (w : World) (b bp : Nat) (s : ByteArray) (p : PS) (nds : List Nd) (D : List Nat) (E : Value) (Z : List Nat) : Prop where
 xb : XB w b (.pointer (some ⟨bp, 0, none⟩)) s E
 pb : PB w bp p
 nodes : NInv w bp (b :: (E.ownBlock.toList ++ (D ++ Z))) p.nodes nds
 out : w.ownsRow 0 155 1 E nds.length (D.map fun g => .slice (some ⟨g, 0, none⟩) (s.size + 1) (s.size + 1))
 nodup : D.Nodup
 bb : b ≠ bp ∧ b ∉ D ∧ b ∉ Z ∧ bp ∉ D ∧ bp ∉ Z
 ee : ∀ g, E.ownBlock = some g → g ≠ b ∧ g ≠ bp ∧ g ∉ D ∧ g ∉ Z
 dz : ∀ g, g ∈ D → g ∉ Z
 small : s.size ≤ 100
 inn : ∀ (k g : Nat), D[k]? = some g → ∃ cs : List Value, cs.length = s.size + 1 ∧ w.heap[g]? = some (.cells cs.toArray 98 (0, 0)) ∧ ∀ (i : Nat) (v : Value), cs[i]? = some v → v = .slice none 0 0 ∨ EA w s nds D Z k i v
variable {w w' : World} {b bp : Nat} {s : ByteArray} {p : PS} {nds : List Nd} {D Z : List Nat} {E : Value}
theorem TX.dlen (h : TX w b bp s p nds D E Z) : D.length = nds.length := by
 have := h.out.1
 simpa using this
theorem TX.dlt (h : TX w b bp s p nds D E Z) : ∀ g, g ∈ D → g < w.heap.size := by
 intro g hg
 obtain ⟨k, hk⟩ := List.getElem?_of_mem hg
 obtain ⟨cs, _, hc, _⟩ := h.inn k g hk
 exact (Array.getElem?_eq_some_iff.1 hc).1
theorem TX.keep {S : List Nat} (h : TX w b bp s p nds D E Z) (hk : Keeps S w w') (hS : ∀ x, x ∈ S → x ∈ Z ∨ w.heap.size ≤ x) : TX w' b bp s p nds D E Z := by
 have hno : ∀ x, x < w.heap.size → x ∉ Z → x ∉ S := fun x hl hz hs => by rcases hS x hs with h | h; exact hz h; omega
 refine ⟨h.xb.keep hk (hno _ h.xb.lt h.bb.2.2.1), ?_, ?_, ?_, h.nodup, h.bb, h.ee, h.dz, h.small, ?_⟩
 ·exact (hk.block bp (Array.getElem?_eq_some_iff.1 h.pb).1 (hno _ (Array.getElem?_eq_some_iff.1 h.pb).1 h.bb.2.2.2.2)).trans h.pb
 ·exact h.nodes.keepA hk fun x hx => by
     rcases hS x hx with h | h
     ·exact Or.inr (Or.inl (by simp [h]))
     ·exact Or.inr (Or.inr h)
 ·exact h.out.keep hk fun g hg => hno g (h.out.lt g hg).2 (h.ee g hg).2.2.2
 ·intro k g hg
  obtain ⟨cs, hl, hc, hv⟩ := h.inn k g hg
  have hm : g ∈ D := List.mem_of_getElem? hg
  refine ⟨cs, hl, (hk.block g (h.dlt g hm) (hno g (h.dlt g hm) (h.dz g hm))).trans hc, fun i v hi => ?_⟩
  rcases hv i v hi with h | h
  ·exact Or.inl h
  ·exact Or.inr (h.keep hk fun x hx => Or.inr (hS x hx))
theorem TX.less {Z' : List Nat} (h : TX w b bp s p nds D E Z) (hz : ∀ x, x ∈ Z' → x ∈ Z ∨ w.heap.size ≤ x) : TX w b bp s p nds D E Z' := by
 have hno : ∀ x, x < w.heap.size → x ∉ Z → x ∉ Z' := fun x hl hn hs => by rcases hz x hs with h | h; exact hn h; omega
 have hbl := h.xb.lt
 have hpl : bp < w.heap.size := (Array.getElem?_eq_some_iff.1 h.pb).1
 refine ⟨h.xb, h.pb, h.nodes.less fun x hx => ?_, h.out, h.nodup, ⟨h.bb.1, h.bb.2.1, hno _ hbl h.bb.2.2.1, h.bb.2.2.2.1, hno _ hpl h.bb.2.2.2.2⟩, fun g hg => ⟨(h.ee g hg).1, (h.ee g hg).2.1, (h.ee g hg).2.2.1, hno g (h.out.lt g hg).2 (h.ee g hg).2.2.2⟩, fun g hg => hno g (h.dlt g hg) (h.dz g hg), h.small, fun k g hg => ?_⟩
 ·simp only [List.mem_cons, List.mem_append] at hx
  rcases hx with h | h | h | h
  ·exact Or.inl (by simp [h])
  ·exact Or.inl (by simp at h; simp [h])
  ·exact Or.inl (by simp [h])
  ·rcases hz x h with h | h
   ·exact Or.inl (by simp [h])
   ·exact Or.inr h
 ·obtain ⟨cs, hl, hc, hv⟩ := h.inn k g hg
  refine ⟨cs, hl, hc, fun i v hi => ?_⟩
  rcases hv i v hi with h | h
  ·exact Or.inl h
  ·exact Or.inr (h.less hz)
theorem TX.memo (h : TX w b bp s p nds D E Z) {k g i : Nat} {v : Value} (hg : D[k]? = some g) (hv : EA w s nds D Z k i v) : TX (w.setCell ⟨g, i, none⟩ v) b bp s p nds D E Z := by
 have hm : g ∈ D := List.mem_of_getElem? hg
 have hk : Keeps [g] w (w.setCell ⟨g, i, none⟩ v) := (Keeps.refl [g] w).setCell (p := ⟨g, i, none⟩) (by simp) v
 have hgl := h.dlt g hm
 refine ⟨h.xb.keep hk (by simp; exact fun e => h.bb.2.1 (e ▸ hm)), ?_, ?_, ?_, h.nodup, h.bb, h.ee, h.dz, h.small, ?_⟩
 ·exact (hk.block bp (Array.getElem?_eq_some_iff.1 h.pb).1 (by simp; exact fun e => h.bb.2.2.2.1 (e ▸ hm))).trans h.pb
 ·exact h.nodes.keepA hk fun x hx => by
     simp only [List.mem_singleton] at hx
     subst hx
     exact Or.inr (Or.inl (by simp [hm]))
 ·exact h.out.keep hk fun x hx => by simp; exact fun e => (h.ee x hx).2.2.1 (e ▸ hm)
 ·intro k' g' hg'
  obtain ⟨cs, hl, hc, hvs⟩ := h.inn k' g' hg'
  have hm' : g' ∈ D := List.mem_of_getElem? hg'
  have hD : ∀ x, x ∈ [g] → x ∈ D ∨ x ∈ Z ∨ w.heap.size ≤ x := fun x hx => by simp only [List.mem_singleton] at hx; subst hx; exact Or.inl hm
  by_cases e : g' = g
  ·subst e
   have hkk : k' = k := by
    have h1 := (List.getElem?_eq_some_iff.1 hg)
    have h2 := (List.getElem?_eq_some_iff.1 hg')
    exact (List.getElem_inj h.nodup).1 (h2.2.trans h1.2.symm)
   subst hkk
   refine ⟨cs.set i v, by simp [hl], by simp [World.setCell, Array.getElem?_modify, hc], fun i' u hu => ?_⟩
   rw [List.getElem?_set] at hu
   by_cases e2 : i = i'
   ·subst e2
    rw [if_pos rfl] at hu
    split at hu
    ·cases hu; exact Or.inr (hv.keep hk hD)
    ·cases hu
   ·rw [if_neg e2] at hu
    rcases hvs i' u hu with h | h
    ·exact Or.inl h
    ·exact Or.inr (h.keep hk hD)
  ·refine ⟨cs, hl, (hk.block g' (h.dlt g' hm') (by simp [e])).trans hc, fun i' u hu => ?_⟩
   rcases hvs i' u hu with h | h
   ·exact Or.inl h
   ·exact Or.inr (h.keep hk hD)
end Go.Proofs.YtnfojonmohijpaaGreatDoor
namespace Go.Proofs.YtnfojonmohijpaaGreatDoor
open Go.RowKit
theorem MN.le {s : ByteArray} {nds : List Nd} {J : JN} {i j : Nat} (h : MN s nds J i j) : i ≤ j := by
 induction h with
 | byte => omega
 | grp _ _ _ _ _ _ _ _ _ ih => exact ih
 | alt _ _ _ _ _ _ _ _ _ ih => exact ih
 | way _ _ _ _ _ _ _ ih => exact ih
 | rep _ _ _ _ _ _ _ _ _ _ _ _ ih => exact ih
 | rnil => omega
 | rcons _ _ _ _ _ _ _ i1 i2 => omega
 | izero => omega
 | isucc _ _ _ _ _ _ _ i1 i2 => omega
def EndsOk (s : ByteArray) (nds : List Nd) (n : Nat) : Prop := ∀ (k : Nat), NK nds n k → ∀ (w : World) (b bp : Nat) (p : PS) (D : List Nat) (E : Value) (Z : List Nat) (i : Nat), TX w b bp s p nds D E Z → (∀ x, x ∈ Z → x < w.heap.size) → i ≤ s.size →
 Calls Tryz.prog 48 #[.pointer (some ⟨b, 0, none⟩), .int .i64 k, .int .i64 i] w fun e w' => ∃ v, e = .returned v ∧ EA w' s nds D Z k i v ∧ TX w' b bp s p nds D E Z ∧ Keeps D w w'
structure OL (w1 wr : World) (s : ByteArray) (N : Nat) (nds : List Nd) (k h : Nat) (P0 : Nat → Bool) (fv : Value) (b bp : Nat) (p : PS) (D : List Nat) (E : Value) (Z : List Nat) (i : Nat) (f : Nat → Bool) : Prop where
 row : RB wr (.slice (some ⟨h, 0, none⟩) N N) N f
 frm : RB wr fv N P0
 tx : TX wr b bp s p nds D E (h :: Z)
 keep : Keeps (h :: D) w1 wr
 says : ∀ j, j ≤ s.size → (f j = true ↔ ∃ m, m < i ∧ P0 m = true ∧ MN s nds (.node k) m j)
structure IL (w2 wq : World) (s : ByteArray) (N : Nat) (nds : List Nd) (h x cc i : Nat) (fe f : Nat → Bool) (fv : Value) (P0 : Nat → Bool) (b bp : Nat) (p : PS) (D : List Nat) (E : Value) (Z : List Nat) (j : Nat) (f' : Nat → Bool) : Prop where
 row : RB wq (.slice (some ⟨h, 0, none⟩) N N) N f'
 ans : RB wq (.slice (some ⟨x, 0, none⟩) N cc) N fe
 frm : RB wq fv N P0
 tx : TX wq b bp s p nds D E (h :: Z)
 keep : Keeps [h] w2 wq
 says : ∀ m, m < N → (f' m = true ↔ f m = true ∨ (i ≤ m ∧ m < j ∧ fe m = true))
theorem IL.step {w2 wq : World} {s : ByteArray} {N : Nat} {nds : List Nd} {h x cc i : Nat} {fe f : Nat → Bool} {fv : Value} {P0 : Nat → Bool} {b bp : Nat} {p : PS} {D : List Nat} {E : Value} {Z : List Nat} {j : Nat} {f' : Nat → Bool}
    (L : IL w2 wq s N nds h x cc i fe f fv P0 b bp p D E Z j f') (hx : x ≠ h) (hf : fv.ownBlock ≠ some h) (hij : i ≤ j) {v : Bool} (hv : v = (f' j || fe j)) :
    IL w2 (wq.setCell ⟨h, j, none⟩ (.bool v)) s N nds h x cc i fe f fv P0 b bp p D E Z (j + 1) (fun m => if m = j then v else f' m) := by
 have hk : Keeps [h] wq (wq.setCell ⟨h, j, none⟩ (.bool v)) := (Keeps.refl [h] wq).setCell (p := ⟨h, j, none⟩) (by simp) _
 refine ⟨L.row.put j v, L.ans.keep hk ?_, L.frm.keep hk ?_, L.tx.keep hk ?_, L.keep.trans hk, ?_⟩
 ·intro g hg; simp only [Value.ownBlock, Option.some.injEq] at hg; subst hg; simp [hx]
 ·intro g hg; simp only [List.mem_singleton]; intro e; exact hf (e ▸ hg)
 ·intro y hy; simp only [List.mem_singleton] at hy; exact Or.inl (by simp [hy])
 ·intro m hm
  by_cases e : m = j
  ·subst e
   rw [if_pos rfl, hv, Bool.or_eq_true, L.says m hm]
   constructor
   ·rintro ((h | ⟨_, h, _⟩) | h)
    ·exact Or.inl h
    ·omega
    ·exact Or.inr ⟨hij, by omega, h⟩
   ·rintro (h | ⟨_, _, h⟩)
    ·exact Or.inl (Or.inl h)
    ·exact Or.inr h
  ·rw [if_neg e, L.says m hm]
   constructor
   ·rintro (h | ⟨h1, h2, h3⟩)
    ·exact Or.inl h
    ·exact Or.inr ⟨h1, by omega, h3⟩
   ·rintro (h | ⟨h1, h2, h3⟩)
    ·exact Or.inl h
    ·exact Or.inr ⟨h1, by omega, h3⟩
set_option maxRecDepth 100000 in
set_option maxHeartbeats 2000000 in
theorem on_any (s : ByteArray) (N : Nat) (HN : Hid (N = s.size + 1)) (nds : List Nd) (n : Nat) (IH : EndsOk s nds n) (k : Nat) (hk : NK nds n k) (w : World) (b bp : Nat) (p : PS) (D : List Nat) (E : Value) (Z : List Nat) (h : TX w b bp s p nds D E Z) (HZ : Hid (∀ x, x ∈ Z → x < w.heap.size))
    (g c : Nat) (P0 : Nat → Bool) (hP : RB w (.slice (some ⟨g, 0, none⟩) N c) N P0) (hgD : g ∉ D) :
    Calls Tryz.prog 138 #[.pointer (some ⟨b, 0, none⟩), .int .i64 k, .slice (some ⟨g, 0, none⟩) N c] w fun e w' =>
     ∃ x f, e = .returned (.slice (some ⟨x, 0, none⟩) N N) ∧ RB w' (.slice (some ⟨x, 0, none⟩) N N) N f ∧ w.heap.size ≤ x ∧ TX w' b bp s p nds D E Z ∧ Keeps D w w' ∧
      ∀ j, j ≤ s.size → (f j = true ↔ ∃ m, m ≤ s.size ∧ P0 m = true ∧ MN s nds (.node k) m j) := by
 obtain ⟨i0, hi0, hz0, hz1, hz2⟩ := info_parts infoBool
 obtain ⟨x0, x1, x2, x3⟩ := h.xb.main
 have hun := Tryz.underlying98
 have hs := h.small
 have hadd : (s.size : Int) + 1 ≤ 9223372036854775807 := by omega
 have hgl : g < w.heap.size := (World.ownsRow.lt hP g rfl).2
 have hDl := h.dlt
 go_enter Tryz.func138, Tryz.ntmps138
 go_wp2_with (first | (refine wpList_make_full w rfl _ _ 98 rfl 0 4 i0 (.bool false) 1 hun hi0 hz0 hz1 .i64 .i64 ((s.size : Int) + 1) ((s.size : Int) + 1) N rfl rfl (by have := HN.out; omega) (by have := HN.out; omega) (by have := HN.out; rw [hz2]; omega) (by have := HN.out; unfold maxLen; omega) (Nat.zero_le _) ?_))
 intro w1 hown hgr
 rw [bl_made] at hown
 have hk1 : Keeps [] w w1 := Keeps.ofGrownNone hgr
 have hL0 : OL w1 w1 s N nds k w.heap.size P0 (.slice (some ⟨g, 0, none⟩) N c) b bp p D E Z 0 (fun _ => false) :=
  ⟨hown, hP.keep hk1 (by simp), (h.less (Z' := w.heap.size :: Z) (by intro x hx; simp at hx; rcases hx with rfl | hx; exact Or.inr (Nat.le_refl _); exact Or.inl hx)).keep hk1 (by simp), Keeps.refl _ _, fun j _ => by simp⟩
 have hsz1 := hk1.size
 have hNm : (N : Int) ≤ 101 := by have := HN.out; omega
 clear hown hgr x0 x1 x2 x3 hP hadd hs
 go_wp2_with fail
 go_loopw [8] (fun q wr => ∃ (i : Nat) (f : Nat → Bool), i ≤ N ∧ q = .int .i64 i ∧ OL w1 wr s N nds k w.heap.size P0 (.slice (some ⟨g, 0, none⟩) N c) b bp p D E Z i f) (fun q _ => N - (intOf q).toNat)
 case atStart => exact ⟨0, _, by omega, rfl, hL0⟩
 case round =>
  clear hL0
  obtain ⟨i, f, hi, rfl, L⟩ := hrel
  by_cases hil : i < N
  ·have hi0' : (0 : Int) ≤ (i : Int) := by omega
   have hi1' : (i : Int) < (N : Int) := by omega
   have hci := L.frm.at hil
   have HI : Hid (i < N) := hil
   have hhD : w.heap.size ∉ D := fun hm => by have := hDl _ hm; omega
   cases hPi : P0 i
   ·rw [hPi] at hci
    have hL' : OL w1 wr s N nds k w.heap.size P0 (.slice (some ⟨g, 0, none⟩) N c) b bp p D E Z (i + 1) f := ⟨L.row, L.frm, L.tx, L.keep, fun j hj => by
      rw [L.says j hj]
      constructor
      · rintro ⟨m, a, b⟩; exact ⟨m, by omega, b⟩
      · rintro ⟨m, a, b, d⟩
        refine ⟨m, ?_, b, d⟩
        rcases Nat.lt_or_ge m i with h | h
        · exact h
        · have : m = i := by omega
          subst this; rw [hPi] at b; cases b⟩
    clear L hi hil hPi
    go_wp2_with fail
    exact ⟨⟨i + 1, f, HI.out, by go_num, hL'⟩, by have := HI.out; simp [intOf]; omega⟩
   ·rw [hPi] at hci
    have hLr := L.row
    have hLf := L.frm
    have hLt := L.tx
    have hLk := L.keep
    have HLS : Hid (∀ j, j ≤ s.size → (f j = true ↔ ∃ m, m < i ∧ P0 m = true ∧ MN s nds (.node k) m j)) := L.says
    have HPi : Hid (P0 i = true) := hPi
    clear L hi hil hPi h
    go_wp2_with fail
    refine (IH k hk wr b bp p D E (w.heap.size :: Z) i hLt (by intro x hx; have h1 : w.heap.size < wr.heap.size := (World.ownsRow.lt hLr _ rfl).2; rcases List.mem_cons.1 hx with rfl | hx; exact h1; have := HZ.out x hx; omega) (by have := HI.out; have := HN.out; omega)).mono ?_
    rintro e w2 ⟨v, rfl, hEA, htx, hk2⟩
    obtain ⟨x, cc, fe, hve, hRe, hxD, hxZ, hsay⟩ := hEA
    rw [← HN.out] at hve hRe
    subst hve
    have hrow2 := hLr.keep hk2 (by intro y hy; simp only [Value.ownBlock, Option.some.injEq] at hy; subst hy; exact hhD)
    have hfrm2 := hLf.keep hk2 (by intro y hy; simp only [Value.ownBlock, Option.some.injEq] at hy; subst hy; exact hgD)
    have hxh : x ≠ w.heap.size := fun e => hxZ (by simp [e])
    have hkw : Keeps (w.heap.size :: D) w1 w2 := hLk.trans (hk2.mono (by intro y hy; simp [hy]))
    have HSY : Hid (∀ j, j ≤ s.size → (fe j = true ↔ MN s nds (.node k) i j)) := hsay
    clear hLr hLf hLt hLk hk2 hsay hci
    obtain ⟨wr0, hwr0⟩ : ∃ wr0 : World, wr0 = wr := ⟨_, rfl⟩
    subst hwr0
    have hIL0 : IL w2 w2 s N nds w.heap.size x cc i fe f (.slice (some ⟨g, 0, none⟩) N c) P0 b bp p D E Z i f := ⟨hrow2, hRe, hfrm2, htx, Keeps.refl _ _, fun m _ => by
      constructor
      · exact Or.inl
      · rintro (h | ⟨_, h, _⟩)
        · exact h
        · omega⟩
    have hfg : (Value.slice (some ⟨g, 0, none⟩) N c).ownBlock ≠ some w.heap.size := by simp only [Value.ownBlock, ne_eq, Option.some.injEq]; omega
    clear hrow2 hRe hfrm2 htx
    go_wp2_with fail
    go_loopw [10] (fun q wq => ∃ (j : Nat) (f' : Nat → Bool), i ≤ j ∧ j ≤ N ∧ q = .int .i64 j ∧ IL w2 wq s N nds w.heap.size x cc i fe f (.slice (some ⟨g, 0, none⟩) N c) P0 b bp p D E Z j f') (fun q _ => N - (intOf q).toNat)
    case atStart => exact ⟨i, f, by omega, by have := HI.out; omega, rfl, hIL0⟩
    case round =>
     clear hIL0
     obtain ⟨j, f', hij, hj, rfl, L⟩ := hrel
     by_cases hjl : j < N
     ·have hj0' : (0 : Int) ≤ (j : Int) := by omega
      have hj1' : (j : Int) < (N : Int) := by omega
      have ho := L.row.at hjl
      have hoz := L.row.frozen j
      have he := L.ans.at hjl
      have HJ : Hid (j < N) := hjl
      have HIJ : Hid (i ≤ j) := hij
      cases h1 : f' j
      all_goals
       cases h2 : fe j
       all_goals
        rw [h1] at ho
        rw [h2] at he
        have hLs := L.step hxh hfg hij (v := f' j || fe j) rfl
        rw [h1, h2] at hLs
        have HLs : Hid (IL w2 (wr.setCell ⟨w.heap.size, j, none⟩ (.bool (f' j || fe j))) s N nds w.heap.size x cc i fe f (.slice (some ⟨g, 0, none⟩) N c) P0 b bp p D E Z (j + 1) (fun m => if m = j then (f' j || fe j) else f' m)) := L.step hxh hfg hij rfl
        rw [h1, h2] at HLs
        clear hLs L hj hjl hij h1 h2
        go_wp2_with fail
        go_roundw
        case rel => exact ⟨j + 1, _, by have := HIJ.out; omega, HJ.out, by go_num, HLs.out⟩
        case measure => have := HJ.out; simp [intOf]; omega
     ·have hje : j = N := by omega
      have hnj : ¬ (j : Int) < (N : Int) := by omega
      have hOL : OL w1 wr s N nds k w.heap.size P0 (.slice (some ⟨g, 0, none⟩) N c) b bp p D E Z (i + 1) f' := ⟨L.row, L.frm, L.tx, hkw.trans (L.keep.mono (by intro y hy; simp at hy; simp [hy])), fun m hm => by
        have hmN : m < N := by have := HN.out; omega
        rw [L.says m hmN, HLS.out m hm, hje]
        constructor
        · rintro (⟨m', a, b'⟩ | ⟨a, _, b'⟩)
          · exact ⟨m', by omega, b'⟩
          · exact ⟨i, by omega, HPi.out, (HSY.out m hm).1 b'⟩
        · rintro ⟨m', a, b', d⟩
          rcases Nat.lt_or_ge m' i with h | h
          · exact Or.inl ⟨m', h, b', d⟩
          · have : m' = i := by omega
            subst this
            exact Or.inr ⟨d.le, hmN, (HSY.out m hm).2 d⟩⟩
      clear L hje hjl hj
      go_wp2_with fail
      exact ⟨⟨i + 1, f', HI.out, by go_num, hOL⟩, by have := HI.out; simp [intOf]; omega⟩
  ·have hie : i = N := by omega
   have hNn := HN.out
   have hni : ¬ (i : Int) < (N : Int) := by omega
   have hends : ∀ j, j ≤ s.size → (f j = true ↔ ∃ m, m ≤ s.size ∧ P0 m = true ∧ MN s nds (.node k) m j) := by
    intro j hj
    rw [L.says j hj]
    constructor
    ·rintro ⟨m, a, b⟩; exact ⟨m, by omega, b⟩
    ·rintro ⟨m, a, b⟩; exact ⟨m, by omega, b⟩
   have hrow := L.row
   have htx := L.tx.less (Z' := Z) (by intro x hx; exact Or.inl (by simp [hx]))
   have hkk : Keeps D w wr := keepsM (hk1.mono (by simp)) L.keep (by intro x hx; simp at hx; rcases hx with rfl | hx; exact Or.inr (Nat.le_refl _); exact Or.inl hx)
   clear L hil hi hk1 h hie hNn
   go_wp2_with fail
   go_ret
   exact ⟨_, rfl, f, hrow, Nat.le_refl _, htx, hkk, hends⟩
end Go.Proofs.YtnfojonmohijpaaGreatDoor
namespace Go.Proofs.YtnfojonmohijpaaGreatDoor
open Go.RowKit
def KV (w : World) (D : List Nat) (lv : Value) (l : List Nat) : Prop :=
 ∃ ad cap, lv = .slice ad l.length cap ∧ ((l : List Nat).length : Int) ≤ 1000 ∧ ∀ (t c : Nat), l[t]? = some c → ∃ g off, ad = some ⟨g, off, none⟩ ∧ g < w.heap.size ∧ g ∉ D ∧ w.cell? ⟨g, off + t, none⟩ = some (.int .i64 c)
theorem KV.keep {w w' : World} {D : List Nat} {lv : Value} {l : List Nat} (h : KV w D lv l) (hk : Keeps D w w') : KV w' D lv l := by
 obtain ⟨ad, cap, e, hl, hc⟩ := h
 refine ⟨ad, cap, e, hl, fun t c ht => ?_⟩
 obtain ⟨g, off, h1, h2, h3, h4⟩ := hc t c ht
 exact ⟨g, off, h1, Nat.lt_of_lt_of_le h2 hk.size, h3, (World.cell?_of_block (hk.block g h2 h3)).trans h4⟩
def RS (w : World) (s : ByteArray) (N : Nat) (D : List Nat) (v : Value) (P : Nat → Prop) : Prop :=
 ∃ x c f, v = .slice (some ⟨x, 0, none⟩) N c ∧ RB w v N f ∧ x ∉ D ∧ ∀ j, j ≤ s.size → (f j = true ↔ P j)
theorem MN.row_snoc {s : ByteArray} {nds : List Nd} {c : Nat} : ∀ {l : List Nat} {i j : Nat}, MN s nds (.row (l ++ [c])) i j ↔ ∃ m, MN s nds (.row l) i m ∧ MN s nds (.node c) m j
 | [], i, j => by
  rw [List.nil_append, MN.row_one]
  constructor
  ·intro h; exact ⟨i, .rnil i, h⟩
  ·rintro ⟨m, a, b⟩
   rw [MN.row_nil] at a
   subst a
   exact b
 | d :: l, i, j => by
  rw [List.cons_append, MN.row_cons]
  constructor
  ·rintro ⟨m, a, b⟩
   obtain ⟨m', b1, b2⟩ := MN.row_snoc.1 b
   exact ⟨m', MN.row_cons.2 ⟨m, a, b1⟩, b2⟩
  ·rintro ⟨m, a, b⟩
   obtain ⟨m', a1, a2⟩ := MN.row_cons.1 a
   exact ⟨m', a1, MN.row_snoc.2 ⟨m, a2, b⟩⟩
theorem MN.inn {s : ByteArray} {nds : List Nd} {J : JN} {i j : Nat} (h : MN s nds J i j) : i ≤ s.size → j ≤ s.size := by
 induction h with
 | byte => intro _; omega
 | grp _ _ _ _ _ _ _ _ _ ih => exact ih
 | alt _ _ _ _ _ _ _ _ _ ih => exact ih
 | way _ _ _ _ _ _ _ ih => exact ih
 | rep _ _ _ _ _ _ _ _ _ _ _ _ ih => exact ih
 | rnil => exact id
 | rcons _ _ _ _ _ _ _ i1 i2 => exact fun h => i2 (i1 h)
 | izero => exact id
 | isucc _ _ _ _ _ _ _ i1 i2 => exact fun h => i2 (i1 h)
set_option maxRecDepth 100000 in
set_option maxHeartbeats 2000000 in
theorem row_any (s : ByteArray) (N : Nat) (HN : Hid (N = s.size + 1)) (nds : List Nd) (n : Nat) (IH : EndsOk s nds n) (l : List Nat) (hl : ∀ c, c ∈ l → NK nds n c) (w : World) (b bp : Nat) (p : PS) (D : List Nat) (E : Value) (Z : List Nat) (h : TX w b bp s p nds D E Z) (HZ : Hid (∀ x, x ∈ Z → x < w.heap.size))
    (lv : Value) (hlv : KV w D lv l) (i : Nat) (hi : i ≤ s.size) :
    Calls Tryz.prog 86 #[.pointer (some ⟨b, 0, none⟩), lv, .int .i64 i] w fun e w' =>
     ∃ v, e = .returned v ∧ RS w' s N D v (fun j => MN s nds (.row l) i j) ∧ (∀ g, v.ownBlock = some g → w.heap.size ≤ g) ∧ TX w' b bp s p nds D E Z ∧ Keeps D w w' := by
 have hs := h.small
 have hDl := h.dlt
 obtain ⟨ad, cap, rfl, hlm, hlc⟩ := id hlv
 clear hlc
 go_enter Tryz.func86, Tryz.ntmps86
 go_wp2_with fail
 refine (only_any b _ E s i hi hs w h.xb).mono ?_
 rintro e w1 ⟨g1, rfl, hR1, hk1, hg1⟩
 rw [← HN.out] at hR1
 rw [← HN.out]
 have htx1 : TX w1 b bp s p nds D E Z := h.keep hk1 (by simp)
 have hlv1 : KV w1 D (.slice ad l.length cap) l := hlv.keep (hk1.mono (by simp))
 have hRS1 : RS w1 s N D (.slice (some ⟨g1, 0, none⟩) N N) (fun j => MN s nds (.row (l.take 0)) i j) := ⟨g1, N, _, rfl, hR1, fun hm => by have := hDl _ hm; omega, fun j _ => by show decide (j = i) = true ↔ MN s nds (.row (l.take 0)) i j; rw [List.take_zero, MN.row_nil]; simp only [decide_eq_true_eq]; exact eq_comm⟩
 have hkD : Keeps D w w1 := hk1.mono (by simp)
 clear h hR1 hk1 hlv hs
 go_wp2_with fail
 go_loopw [7, 8] (fun q1 q2 wr => ∃ (t : Nat), t ≤ l.length ∧ q2 = .int .i64 t ∧ RS wr s N D q1 (fun j => MN s nds (.row (l.take t)) i j) ∧ (∀ g, q1.ownBlock = some g → w.heap.size ≤ g) ∧ TX wr b bp s p nds D E Z ∧ KV wr D (.slice ad l.length cap) l ∧ Keeps D w wr) (fun _ q2 _ => l.length - (intOf q2).toNat)
 case atStart => exact ⟨0, by omega, rfl, hRS1, by intro g hg; simp only [Value.ownBlock, Option.some.injEq] at hg; omega, htx1, hlv1, hkD⟩
 case round =>
  clear hRS1 htx1 hlv1 hkD
  obtain ⟨t, ht, rfl, hRS, hfr, htx, hlv, hkD⟩ := hrel
  by_cases htl : t < l.length
  ·obtain ⟨d, hd⟩ : ∃ d, l[t]? = some d := ⟨_, List.getElem?_eq_getElem htl⟩
   have hdm : NK nds n d := hl d (List.mem_of_getElem? hd)
   obtain ⟨ad', cap', e1, _, hcs⟩ := id hlv
   simp only [Value.slice.injEq] at e1
   obtain ⟨rfl, _, rfl⟩ := e1
   obtain ⟨g, off, rfl, hgl, hgD, hcd⟩ := hcs t d hd
   obtain ⟨x, c', f, rfl, hRB, hxD, hsay⟩ := hRS
   have ht0' : (0 : Int) ≤ (t : Int) := by omega
   have ht1' : (t : Int) < (l.length : Int) := by omega
   have HT : Hid (t < l.length) := htl
   have HTK : Hid (l.take (t + 1) = l.take t ++ [d]) := by show l.take (t + 1) = _; rw [List.take_add_one, hd]; rfl
   have HS : Hid (∀ j, j ≤ s.size → (f j = true ↔ MN s nds (.row (l.take t)) i j)) := hsay
   have HI : Hid (i ≤ s.size) := hi
   clear hcs hsay ht htl hfr hd
   go_wp2_with fail
   refine (on_any s N HN nds n IH d hdm wr b bp p D E Z htx (fun x hx => Nat.lt_of_lt_of_le (HZ.out x hx) hkD.size) x c' f hRB hxD).mono ?_
   rintro e w2 ⟨y, f2, rfl, hR2, hy, htx2, hk2, hsay2⟩
   have hszr := hkD.size
   have hRS2 : RS w2 s N D (.slice (some ⟨y, 0, none⟩) N N) (fun j => MN s nds (.row (l.take (t + 1))) i j) := ⟨y, N, f2, rfl, hR2, fun hm => by have := hDl _ hm; omega, fun j hj => by
     show f2 j = true ↔ MN s nds (.row (l.take (t + 1))) i j
     rw [HTK.out, MN.row_snoc, hsay2 j hj]
     constructor
     · rintro ⟨m, a, b', d'⟩; exact ⟨m, (HS.out m a).1 b', d'⟩
     · rintro ⟨m, a, b'⟩
       have hm := a.inn HI.out
       exact ⟨m, hm, (HS.out m hm).2 a, b'⟩⟩
   have hlv2 := hlv.keep hk2
   have hkD2 := hkD.trans hk2
   clear hR2 hsay2 hk2 hRB hlv htx hcd
   go_wp2_with fail
   exact ⟨⟨t + 1, HT.out, by go_num, hRS2, by intro g hg; simp only [Value.ownBlock, Option.some.injEq] at hg; omega, htx2, hlv2, hkD2⟩, by have := HT.out; simp [intOf]; omega⟩
  ·have hte : t = l.length := by omega
   have hnt : ¬ (t : Int) < (l.length : Int) := by omega
   rw [hte, List.take_length] at hRS
   obtain ⟨x, c', f, rfl, hRB, hxD, hsay⟩ := hRS
   clear hte htl ht hlv
   go_wp2_with fail
   go_ret
   exact ⟨_, rfl, ⟨x, c', f, rfl, hRB, hxD, hsay⟩, hfr, htx, hkD⟩
end Go.Proofs.YtnfojonmohijpaaGreatDoor
namespace Go.Proofs.YtnfojonmohijpaaGreatDoor
theorem MN.it_zero {s : ByteArray} {nds : List Nd} {c i j : Nat} : MN s nds (.it c 0) i j ↔ i = j :=
 ⟨fun h => by cases h; rfl, fun h => by cases h; exact .izero c i⟩
theorem MN.it_succ {s : ByteArray} {nds : List Nd} {c n i j : Nat} : MN s nds (.it c (n + 1)) i j ↔ ∃ m, MN s nds (.node c) i m ∧ MN s nds (.it c n) m j :=
 ⟨fun h => by cases h with | isucc _ _ _ m _ a b => exact ⟨m, a, b⟩, fun ⟨m, a, b⟩ => .isucc c n i m j a b⟩
theorem MN.it_snoc {s : ByteArray} {nds : List Nd} {c : Nat} : ∀ {n i j : Nat}, MN s nds (.it c (n + 1)) i j ↔ ∃ m, MN s nds (.it c n) i m ∧ MN s nds (.node c) m j
 | 0, i, j => by
  rw [MN.it_succ]
  constructor
  ·rintro ⟨m, a, b⟩
   rw [MN.it_zero] at b
   subst b
   exact ⟨i, .izero c i, a⟩
  ·rintro ⟨m, a, b⟩
   rw [MN.it_zero] at a
   subst a
   exact ⟨j, b, .izero c j⟩
 | n + 1, i, j => by
  rw [MN.it_succ]
  constructor
  ·rintro ⟨m, a, b⟩
   obtain ⟨m', b1, b2⟩ := MN.it_snoc.1 b
   exact ⟨m', MN.it_succ.2 ⟨m, a, b1⟩, b2⟩
  ·rintro ⟨m, a, b⟩
   obtain ⟨m', a1, a2⟩ := MN.it_succ.1 a
   exact ⟨m', a1, MN.it_snoc.2 ⟨m, a2, b⟩⟩
def UpTo (s : ByteArray) (nds : List Nd) (c least n i j : Nat) : Prop := ∃ m, least ≤ m ∧ m ≤ n ∧ MN s nds (.it c m) i j
theorem UpTo.first {s : ByteArray} {nds : List Nd} {c least i j : Nat} : UpTo s nds c least least i j ↔ MN s nds (.it c least) i j := by
 constructor
 ·rintro ⟨m, a, b, h⟩
  have : m = least := by omega
  subst this
  exact h
 ·intro h
  exact ⟨least, Nat.le_refl _, Nat.le_refl _, h⟩
theorem UpTo.step {s : ByteArray} {nds : List Nd} {c least n i j : Nat} (hn : least ≤ n) : UpTo s nds c least (n + 1) i j ↔ UpTo s nds c least n i j ∨ ∃ m, UpTo s nds c least n i m ∧ MN s nds (.node c) m j := by
 constructor
 ·rintro ⟨m, a, b, h⟩
  rcases Nat.lt_or_ge n m with e | e
  ·have : m = n + 1 := by omega
   subst this
   obtain ⟨m', h1, h2⟩ := MN.it_snoc.1 h
   exact Or.inr ⟨m', ⟨n, hn, Nat.le_refl _, h1⟩, h2⟩
  ·exact Or.inl ⟨m, a, e, h⟩
 ·rintro (⟨m, a, b, h⟩ | ⟨m', ⟨m, a, b, h⟩, h2⟩)
  ·exact ⟨m, a, by omega, h⟩
  ·exact ⟨m + 1, by omega, by omega, MN.it_snoc.2 ⟨m', h, h2⟩⟩
theorem UpTo.fix {s : ByteArray} {nds : List Nd} {c least n i : Nat} (hn : least ≤ n) (hi : i ≤ s.size) (h : ∀ j, j ≤ s.size → UpTo s nds c least (n + 1) i j → UpTo s nds c least n i j) :
    ∀ d j, UpTo s nds c least (n + d) i j → UpTo s nds c least n i j := by
 intro d
 induction d with
 | zero => intro j h; exact h
 | succ d ih =>
  intro j hj
  rcases (UpTo.step (n := n + d) (by omega)).1 hj with h1 | ⟨m, h1, h2⟩
  ·exact ih j h1
  ·have hm := ih m h1
   obtain ⟨q, _, _, hq⟩ := hm
   exact h j (h2.inn (hq.inn hi)) ((UpTo.step hn).2 (Or.inr ⟨m, ih m h1, h2⟩))
def TmN (s : ByteArray) (nds : List Nd) (c least : Nat) (most : Int) (i j : Nat) : Prop := ∃ n, least ≤ n ∧ (most < 0 ∨ (n : Int) ≤ most) ∧ MN s nds (.it c n) i j
theorem TmN.upto {s : ByteArray} {nds : List Nd} {c least n i j : Nat} {most : Int} (hn : (n : Int) = most) : TmN s nds c least most i j ↔ UpTo s nds c least n i j := by
 constructor
 ·rintro ⟨m, a, b, h⟩; exact ⟨m, a, by omega, h⟩
 ·rintro ⟨m, a, b, h⟩; exact ⟨m, a, by omega, h⟩
theorem TmN.fix {s : ByteArray} {nds : List Nd} {c least n i j : Nat} {most : Int} (hn : least ≤ n) (hi : i ≤ s.size) (hm : most < 0 ∨ (n : Int) ≤ most) (h : ∀ j, j ≤ s.size → UpTo s nds c least (n + 1) i j → UpTo s nds c least n i j) : TmN s nds c least most i j ↔ UpTo s nds c least n i j := by
 constructor
 ·rintro ⟨m, a, b, hh⟩
  rcases Nat.lt_or_ge n m with e | e
  ·have := UpTo.fix hn hi h (m - n) j ⟨m, a, by omega, hh⟩
   exact this
  ·exact ⟨m, a, e, hh⟩
 ·rintro ⟨m, a, b, hh⟩
  exact ⟨m, a, by omega, hh⟩
def isT : Option Value → Bool
 | some (.bool true) => true
 | _ => false
def mu (w : World) (u : Value) (N : Nat) : Nat := ((List.range N).filter fun j => !isT (w.cell? ⟨u.ownBlock.getD 0, j, none⟩)).length
theorem mu_RB {w : World} {x c N : Nat} {f : Nat → Bool} (h : RB w (.slice (some ⟨x, 0, none⟩) N c) N f) : mu w (.slice (some ⟨x, 0, none⟩) N c) N = ((List.range N).filter fun j => !f j).length := by
 unfold mu
 congr 1
 apply List.filter_congr
 intro j hj
 have hj' : j < N := by simpa using hj
 show (!isT (w.cell? ⟨x, j, none⟩)) = _
 rw [h.at hj']
 cases f j <;> rfl
theorem cnt_le {f f' : Nat → Bool} : ∀ {N : Nat}, (∀ j, j < N → f j = true → f' j = true) → ((List.range N).filter fun j => !f' j).length ≤ ((List.range N).filter fun j => !f j).length
 | 0, _ => by simp
 | N + 1, h => by
  have ih := cnt_le (f := f) (f' := f') (N := N) fun j hj => h j (by omega)
  have hN := h N (by omega)
  simp only [List.range_succ, List.filter_append, List.length_append]
  cases e : f N <;> cases e' : f' N <;> simp_all <;> omega
theorem cnt_lt {f f' : Nat → Bool} : ∀ {N : Nat}, (∀ j, j < N → f j = true → f' j = true) → (∃ j, j < N ∧ f' j = true ∧ f j = false) → ((List.range N).filter fun j => !f' j).length < ((List.range N).filter fun j => !f j).length
 | 0, _, ⟨j, hj, _⟩ => by omega
 | N + 1, h, ⟨j, hj, a, b⟩ => by
  have hN := h N (by omega)
  simp only [List.range_succ, List.filter_append, List.length_append]
  rcases Nat.lt_or_ge j N with e | e
  ·have ih := cnt_lt (f := f) (f' := f') (N := N) (fun j hj => h j (by omega)) ⟨j, e, a, b⟩
   cases e1 : f N <;> cases e2 : f' N <;> simp_all <;> omega
  ·have : j = N := by omega
   subst this
   have il := cnt_le (f := f) (f' := f') (N := j) (fun k hk => h k (by omega))
   simp [a, b]
   omega
end Go.Proofs.YtnfojonmohijpaaGreatDoor
