/-
  DERIVED. The reference's 'Row', by the contract of 'Ends'. Conditions: what it has in memory lies as it should (TX).
-/
import Derived.Test.YtnfojonmohijpaaGreatDoorJON
import Derived.Deep.Onto
import Derived.Deep.AppendLies
import Derived.Deep.CutRange
set_option linter.unusedSimpArgs false
set_option linter.unusedVariables false
namespace Go.Proofs.YtnfojonmohijpaaGreatDoor
open Go.RowKit
def KV (w : World) (D : List Nat) (lv : Value) (l : List Nat) : Prop :=
 ∃ ad cap, lv = .slice ad l.length cap ∧ ((l : List Nat).length : Int) ≤ 1000 ∧ ∀ (t c : Nat), l[t]? = some c → ∃ g off, ad = some ⟨g, off, none⟩ ∧ g < w.heap.size ∧ g ∉ D ∧ w.cell? ⟨g, off + t, none⟩ = some (.int .i64 c)
theorem KV.keep {w w' : World} {D : List Nat} {lv : Value} {l : List Nat} (h : KV w D lv l) (hk : Keeps D w w') : KV w' D lv l := by
 obtain ⟨ad, cap, e, hl, hc⟩ := h
 refine ⟨ad, cap, e, hl, fun t c ht => ?_⟩
 obtain ⟨g, off, h1, h2, h3, h4⟩ := hc t c ht
 exact ⟨g, off, h1, Nat.lt_of_lt_of_le h2 hk.size, h3, (World.cell?_of_block (hk.block g h2 h3)).trans h4⟩
def RS (w : World) (s : ByteArray) (N : Nat) (D : List Nat) (v : Value) (P : Nat → Prop) : Prop :=
 ∃ x c f, v = .slice (some ⟨x, 0, none⟩) N c ∧ RB w v N f ∧ x ∉ D ∧ ∀ j, j ≤ s.size → (f j = true ↔ P j)
theorem MN.row_snoc {s : ByteArray} {nds : List Nd} {c : Nat} : ∀ {l : List Nat} {i j : Nat}, MN s nds (.row (l ++ [c])) i j ↔ ∃ m, MN s nds (.row l) i m ∧ MN s nds (.node c) m j
 | [], i, j => by
  rw [List.nil_append, MN.row_one]
  constructor
  ·intro h; exact ⟨i, .rnil i, h⟩
  ·rintro ⟨m, a, b⟩
   rw [MN.row_nil] at a
   subst a
   exact b
 | d :: l, i, j => by
  rw [List.cons_append, MN.row_cons]
  constructor
  ·rintro ⟨m, a, b⟩
   obtain ⟨m', b1, b2⟩ := MN.row_snoc.1 b
   exact ⟨m', MN.row_cons.2 ⟨m, a, b1⟩, b2⟩
  ·rintro ⟨m, a, b⟩
   obtain ⟨m', a1, a2⟩ := MN.row_cons.1 a
   exact ⟨m', a1, MN.row_snoc.2 ⟨m, a2, b⟩⟩
theorem MN.inn {s : ByteArray} {nds : List Nd} {J : JN} {i j : Nat} (h : MN s nds J i j) : i ≤ s.size → j ≤ s.size := by
 induction h with
 | byte => intro _; omega
 | grp _ _ _ _ _ _ _ _ _ ih => exact ih
 | alt _ _ _ _ _ _ _ _ _ ih => exact ih
 | way _ _ _ _ _ _ _ ih => exact ih
 | rep _ _ _ _ _ _ _ _ _ _ _ _ ih => exact ih
 | rnil => exact id
 | rcons _ _ _ _ _ _ _ i1 i2 => exact fun h => i2 (i1 h)
 | izero => exact id
 | isucc _ _ _ _ _ _ _ i1 i2 => exact fun h => i2 (i1 h)
set_option maxRecDepth 100000 in
set_option maxHeartbeats 2000000 in
theorem row_any (s : ByteArray) (N : Nat) (HN : Hid (N = s.size + 1)) (nds : List Nd) (n : Nat) (IH : EndsOk s nds n) (l : List Nat) (hl : ∀ c, c ∈ l → NK nds n c) (w : World) (b bp : Nat) (p : PS) (D : List Nat) (E : Value) (Z : List Nat) (h : TX w b bp s p nds D E Z) (HZ : Hid (∀ x, x ∈ Z → x < w.heap.size))
    (lv : Value) (hlv : KV w D lv l) (i : Nat) (hi : i ≤ s.size) :
    Calls Tryz.prog 86 #[.pointer (some ⟨b, 0, none⟩), lv, .int .i64 i] w fun e w' =>
     ∃ v, e = .returned v ∧ RS w' s N D v (fun j => MN s nds (.row l) i j) ∧ (∀ g, v.ownBlock = some g → w.heap.size ≤ g) ∧ TX w' b bp s p nds D E Z ∧ Keeps D w w' := by
 have hs := h.small
 have hDl := h.dlt
 obtain ⟨ad, cap, rfl, hlm, hlc⟩ := id hlv
 clear hlc
 go_enter Tryz.func86, Tryz.ntmps86
 go_wp2_with fail
 refine (only_any b _ E s i hi hs w h.xb).mono ?_
 rintro e w1 ⟨g1, rfl, hR1, hk1, hg1⟩
 rw [← HN.out] at hR1
 rw [← HN.out]
 have htx1 : TX w1 b bp s p nds D E Z := h.keep hk1 (by simp)
 have hlv1 : KV w1 D (.slice ad l.length cap) l := hlv.keep (hk1.mono (by simp))
 have hRS1 : RS w1 s N D (.slice (some ⟨g1, 0, none⟩) N N) (fun j => MN s nds (.row (l.take 0)) i j) := ⟨g1, N, _, rfl, hR1, fun hm => by have := hDl _ hm; omega, fun j _ => by show decide (j = i) = true ↔ MN s nds (.row (l.take 0)) i j; rw [List.take_zero, MN.row_nil]; simp only [decide_eq_true_eq]; exact eq_comm⟩
 have hkD : Keeps D w w1 := hk1.mono (by simp)
 clear h hR1 hk1 hlv hs
 go_wp2_with fail
 go_loopw [7, 8] (fun q1 q2 wr => ∃ (t : Nat), t ≤ l.length ∧ q2 = .int .i64 t ∧ RS wr s N D q1 (fun j => MN s nds (.row (l.take t)) i j) ∧ (∀ g, q1.ownBlock = some g → w.heap.size ≤ g) ∧ TX wr b bp s p nds D E Z ∧ KV wr D (.slice ad l.length cap) l ∧ Keeps D w wr) (fun _ q2 _ => l.length - (intOf q2).toNat)
 case atStart => exact ⟨0, by omega, rfl, hRS1, by intro g hg; simp only [Value.ownBlock, Option.some.injEq] at hg; omega, htx1, hlv1, hkD⟩
 case round =>
  clear hRS1 htx1 hlv1 hkD
  obtain ⟨t, ht, rfl, hRS, hfr, htx, hlv, hkD⟩ := hrel
  by_cases htl : t < l.length
  ·obtain ⟨d, hd⟩ : ∃ d, l[t]? = some d := ⟨_, List.getElem?_eq_getElem htl⟩
   have hdm : NK nds n d := hl d (List.mem_of_getElem? hd)
   obtain ⟨ad', cap', e1, _, hcs⟩ := id hlv
   simp only [Value.slice.injEq] at e1
   obtain ⟨rfl, _, rfl⟩ := e1
   obtain ⟨g, off, rfl, hgl, hgD, hcd⟩ := hcs t d hd
   obtain ⟨x, c', f, rfl, hRB, hxD, hsay⟩ := hRS
   have ht0' : (0 : Int) ≤ (t : Int) := by omega
   have ht1' : (t : Int) < (l.length : Int) := by omega
   have HT : Hid (t < l.length) := htl
   have HTK : Hid (l.take (t + 1) = l.take t ++ [d]) := by show l.take (t + 1) = _; rw [List.take_add_one, hd]; rfl
   have HS : Hid (∀ j, j ≤ s.size → (f j = true ↔ MN s nds (.row (l.take t)) i j)) := hsay
   have HI : Hid (i ≤ s.size) := hi
   clear hcs hsay ht htl hfr hd
   go_wp2_with fail
   refine (on_any s N HN nds n IH d hdm wr b bp p D E Z htx (fun x hx => Nat.lt_of_lt_of_le (HZ.out x hx) hkD.size) x c' f hRB hxD).mono ?_
   rintro e w2 ⟨y, f2, rfl, hR2, hy, htx2, hk2, hsay2⟩
   have hszr := hkD.size
   have hRS2 : RS w2 s N D (.slice (some ⟨y, 0, none⟩) N N) (fun j => MN s nds (.row (l.take (t + 1))) i j) := ⟨y, N, f2, rfl, hR2, fun hm => by have := hDl _ hm; omega, fun j hj => by
     show f2 j = true ↔ MN s nds (.row (l.take (t + 1))) i j
     rw [HTK.out, MN.row_snoc, hsay2 j hj]
     constructor
     · rintro ⟨m, a, b', d'⟩; exact ⟨m, (HS.out m a).1 b', d'⟩
     · rintro ⟨m, a, b'⟩
       have hm := a.inn HI.out
       exact ⟨m, hm, (HS.out m hm).2 a, b'⟩⟩
   have hlv2 := hlv.keep hk2
   have hkD2 := hkD.trans hk2
   clear hR2 hsay2 hk2 hRB hlv htx hcd
   go_wp2_with fail
   exact ⟨⟨t + 1, HT.out, by go_num, hRS2, by intro g hg; simp only [Value.ownBlock, Option.some.injEq] at hg; omega, htx2, hlv2, hkD2⟩, by have := HT.out; simp [intOf]; omega⟩
  ·have hte : t = l.length := by omega
   have hnt : ¬ (t : Int) < (l.length : Int) := by omega
   rw [hte, List.take_length] at hRS
   obtain ⟨x, c', f, rfl, hRB, hxD, hsay⟩ := hRS
   clear hte htl ht hlv
   go_wp2_with fail
   go_ret
   exact ⟨_, rfl, ⟨x, c', f, rfl, hRB, hxD, hsay⟩, hfr, htx, hkD⟩
end Go.Proofs.YtnfojonmohijpaaGreatDoor
namespace Go.Proofs.YtnfojonmohijpaaGreatDoor
theorem MN.it_zero {s : ByteArray} {nds : List Nd} {c i j : Nat} : MN s nds (.it c 0) i j ↔ i = j :=
 ⟨fun h => by cases h; rfl, fun h => by cases h; exact .izero c i⟩
theorem MN.it_succ {s : ByteArray} {nds : List Nd} {c n i j : Nat} : MN s nds (.it c (n + 1)) i j ↔ ∃ m, MN s nds (.node c) i m ∧ MN s nds (.it c n) m j :=
 ⟨fun h => by cases h with | isucc _ _ _ m _ a b => exact ⟨m, a, b⟩, fun ⟨m, a, b⟩ => .isucc c n i m j a b⟩
theorem MN.it_snoc {s : ByteArray} {nds : List Nd} {c : Nat} : ∀ {n i j : Nat}, MN s nds (.it c (n + 1)) i j ↔ ∃ m, MN s nds (.it c n) i m ∧ MN s nds (.node c) m j
 | 0, i, j => by
  rw [MN.it_succ]
  constructor
  ·rintro ⟨m, a, b⟩
   rw [MN.it_zero] at b
   subst b
   exact ⟨i, .izero c i, a⟩
  ·rintro ⟨m, a, b⟩
   rw [MN.it_zero] at a
   subst a
   exact ⟨j, b, .izero c j⟩
 | n + 1, i, j => by
  rw [MN.it_succ]
  constructor
  ·rintro ⟨m, a, b⟩
   obtain ⟨m', b1, b2⟩ := MN.it_snoc.1 b
   exact ⟨m', MN.it_succ.2 ⟨m, a, b1⟩, b2⟩
  ·rintro ⟨m, a, b⟩
   obtain ⟨m', a1, a2⟩ := MN.it_succ.1 a
   exact ⟨m', a1, MN.it_snoc.2 ⟨m, a2, b⟩⟩
def UpTo (s : ByteArray) (nds : List Nd) (c least n i j : Nat) : Prop := ∃ m, least ≤ m ∧ m ≤ n ∧ MN s nds (.it c m) i j
theorem UpTo.first {s : ByteArray} {nds : List Nd} {c least i j : Nat} : UpTo s nds c least least i j ↔ MN s nds (.it c least) i j := by
 constructor
 ·rintro ⟨m, a, b, h⟩
  have : m = least := by omega
  subst this
  exact h
 ·intro h
  exact ⟨least, Nat.le_refl _, Nat.le_refl _, h⟩
theorem UpTo.step {s : ByteArray} {nds : List Nd} {c least n i j : Nat} (hn : least ≤ n) : UpTo s nds c least (n + 1) i j ↔ UpTo s nds c least n i j ∨ ∃ m, UpTo s nds c least n i m ∧ MN s nds (.node c) m j := by
 constructor
 ·rintro ⟨m, a, b, h⟩
  rcases Nat.lt_or_ge n m with e | e
  ·have : m = n + 1 := by omega
   subst this
   obtain ⟨m', h1, h2⟩ := MN.it_snoc.1 h
   exact Or.inr ⟨m', ⟨n, hn, Nat.le_refl _, h1⟩, h2⟩
  ·exact Or.inl ⟨m, a, e, h⟩
 ·rintro (⟨m, a, b, h⟩ | ⟨m', ⟨m, a, b, h⟩, h2⟩)
  ·exact ⟨m, a, by omega, h⟩
  ·exact ⟨m + 1, by omega, by omega, MN.it_snoc.2 ⟨m', h, h2⟩⟩
theorem UpTo.fix {s : ByteArray} {nds : List Nd} {c least n i : Nat} (hn : least ≤ n) (hi : i ≤ s.size) (h : ∀ j, j ≤ s.size → UpTo s nds c least (n + 1) i j → UpTo s nds c least n i j) :
    ∀ d j, UpTo s nds c least (n + d) i j → UpTo s nds c least n i j := by
 intro d
 induction d with
 | zero => intro j h; exact h
 | succ d ih =>
  intro j hj
  rcases (UpTo.step (n := n + d) (by omega)).1 hj with h1 | ⟨m, h1, h2⟩
  ·exact ih j h1
  ·have hm := ih m h1
   obtain ⟨q, _, _, hq⟩ := hm
   exact h j (h2.inn (hq.inn hi)) ((UpTo.step hn).2 (Or.inr ⟨m, ih m h1, h2⟩))
def TmN (s : ByteArray) (nds : List Nd) (c least : Nat) (most : Int) (i j : Nat) : Prop := ∃ n, least ≤ n ∧ (most < 0 ∨ (n : Int) ≤ most) ∧ MN s nds (.it c n) i j
theorem TmN.upto {s : ByteArray} {nds : List Nd} {c least n i j : Nat} {most : Int} (hn : (n : Int) = most) : TmN s nds c least most i j ↔ UpTo s nds c least n i j := by
 constructor
 ·rintro ⟨m, a, b, h⟩; exact ⟨m, a, by omega, h⟩
 ·rintro ⟨m, a, b, h⟩; exact ⟨m, a, by omega, h⟩
theorem TmN.fix {s : ByteArray} {nds : List Nd} {c least n i j : Nat} {most : Int} (hn : least ≤ n) (hi : i ≤ s.size) (hm : most < 0 ∨ (n : Int) ≤ most) (h : ∀ j, j ≤ s.size → UpTo s nds c least (n + 1) i j → UpTo s nds c least n i j) : TmN s nds c least most i j ↔ UpTo s nds c least n i j := by
 constructor
 ·rintro ⟨m, a, b, hh⟩
  rcases Nat.lt_or_ge n m with e | e
  ·have := UpTo.fix hn hi h (m - n) j ⟨m, a, by omega, hh⟩
   exact this
  ·exact ⟨m, a, e, hh⟩
 ·rintro ⟨m, a, b, hh⟩
  exact ⟨m, a, by omega, hh⟩
def isT : Option Value → Bool
 | some (.bool true) => true
 | _ => false
def mu (w : World) (u : Value) (N : Nat) : Nat := ((List.range N).filter fun j => !isT (w.cell? ⟨u.ownBlock.getD 0, j, none⟩)).length
theorem mu_RB {w : World} {x c N : Nat} {f : Nat → Bool} (h : RB w (.slice (some ⟨x, 0, none⟩) N c) N f) : mu w (.slice (some ⟨x, 0, none⟩) N c) N = ((List.range N).filter fun j => !f j).length := by
 unfold mu
 congr 1
 apply List.filter_congr
 intro j hj
 have hj' : j < N := by simpa using hj
 show (!isT (w.cell? ⟨x, j, none⟩)) = _
 rw [h.at hj']
 cases f j <;> rfl
theorem cnt_le {f f' : Nat → Bool} : ∀ {N : Nat}, (∀ j, j < N → f j = true → f' j = true) → ((List.range N).filter fun j => !f' j).length ≤ ((List.range N).filter fun j => !f j).length
 | 0, _ => by simp
 | N + 1, h => by
  have ih := cnt_le (f := f) (f' := f') (N := N) fun j hj => h j (by omega)
  have hN := h N (by omega)
  simp only [List.range_succ, List.filter_append, List.length_append]
  cases e : f N <;> cases e' : f' N <;> simp_all <;> omega
theorem cnt_lt {f f' : Nat → Bool} : ∀ {N : Nat}, (∀ j, j < N → f j = true → f' j = true) → (∃ j, j < N ∧ f' j = true ∧ f j = false) → ((List.range N).filter fun j => !f' j).length < ((List.range N).filter fun j => !f j).length
 | 0, _, ⟨j, hj, _⟩ => by omega
 | N + 1, h, ⟨j, hj, a, b⟩ => by
  have hN := h N (by omega)
  simp only [List.range_succ, List.filter_append, List.length_append]
  rcases Nat.lt_or_ge j N with e | e
  ·have ih := cnt_lt (f := f) (f' := f') (N := N) (fun j hj => h j (by omega)) ⟨j, e, a, b⟩
   cases e1 : f N <;> cases e2 : f' N <;> simp_all <;> omega
  ·have : j = N := by omega
   subst this
   have il := cnt_le (f := f) (f' := f') (N := j) (fun k hk => h k (by omega))
   simp [a, b]
   omega
end Go.Proofs.YtnfojonmohijpaaGreatDoor
namespace Go.Proofs.YtnfojonmohijpaaGreatDoor
open Go.RowKit
theorem RS.iff {w : World} {s : ByteArray} {N : Nat} {D : List Nat} {v : Value} {P Q : Nat → Prop} (h : RS w s N D v P) (e : ∀ j, j ≤ s.size → (P j ↔ Q j)) : RS w s N D v Q := by
 obtain ⟨x, c, f, a, b, d, hs⟩ := h
 exact ⟨x, c, f, a, b, d, fun j hj => (hs j hj).trans (e j hj)⟩
structure TL (w wr : World) (s : ByteArray) (N : Nat) (nds : List Nd) (k least i : Nat) (b bp : Nat) (p : PS) (D : List Nat) (E : Value) (Z : List Nat) (v u : Value) (n : Nat) : Prop where
 set : RS wr s N D v (fun j => UpTo s nds k least n i j)
 out : RS wr s N D u (fun j => UpTo s nds k least n i j)
 new : ∀ g, u.ownBlock = some g → w.heap.size ≤ g
 tx : TX wr b bp s p nds D E Z
 keep : Keeps D w wr
 ge : least ≤ n
theorem mu_le (w : World) (u : Value) (N : Nat) : mu w u N ≤ N := by
 unfold mu
 refine Nat.le_trans (List.length_filter_le _ _) ?_
 simp
structure NL (w3 wq : World) (fo f2 : Nat → Bool) (qn : Value) (j : Nat) (gr : Bool) : Prop where
 own : wq.ownsRow w3.heap.size 4 1 qn j (bl j fun a => fo a || f2 a)
 keep : Keeps [] w3 wq
 grown : gr = true ↔ ∃ a, a < j ∧ f2 a = true ∧ fo a = false
theorem NL.step {w3 wq w4 : World} {fo f2 : Nat → Bool} {qn : Value} {j g cap : Nat} {gr gr' v : Bool} {o : Obj} (L : NL w3 wq fo f2 qn j gr) (hv : v = (fo j || f2 j)) (hg : gr' = (gr || (f2 j && !fo j)))
    (hown : w4.ownsRow w3.heap.size 4 1 (.slice (some ⟨g, 0, none⟩) (j + 1) cap) (j + 1) ((bl j fun a => fo a || f2 a) ++ [.bool v])) (hgrow : (wq.alloc o).grownBy w4 qn.ownBlock) : NL w3 w4 fo f2 (.slice (some ⟨g, 0, none⟩) (j + 1) cap) (j + 1) gr' := by
 refine ⟨?_, ?_, ?_⟩
 ·rw [bl_snoc]; subst hv; exact hown
 ·have hk := L.keep.alloc o
  refine ⟨hgrow.os.trans hk.os, hgrow.tape.trans hk.tape, hgrow.output.trans hk.output, Nat.le_trans hk.size hgrow.size, fun k hkl hn => (hgrow.block k (Nat.lt_of_lt_of_le hkl hk.size) ?_).trans (hk.block k hkl hn)⟩
  intro e
  have := (L.own.lt k e.symm).1
  omega
 ·rw [hg]
  simp only [Bool.or_eq_true, Bool.and_eq_true, Bool.not_eq_true', L.grown]
  constructor
  ·rintro (⟨a, h1, h2⟩ | ⟨h1, h2⟩)
   ·exact ⟨a, by omega, h2⟩
   ·exact ⟨j, by omega, h1, h2⟩
  ·rintro ⟨a, h1, h2⟩
   rcases Nat.lt_or_ge a j with h | h
   ·exact Or.inl ⟨a, h, h2⟩
   ·have : a = j := by omega
    subst this
    exact Or.inr h2
set_option maxRecDepth 100000 in
set_option maxHeartbeats 4000000 in
theorem rtimes_any (s : ByteArray) (N : Nat) (HN : Hid (N = s.size + 1)) (nds : List Nd) (n : Nat) (IH : EndsOk s nds n) (k : Nat) (hk : NK nds n k) (w : World) (b bp : Nat) (p : PS) (D : List Nat) (E : Value) (Z : List Nat) (h : TX w b bp s p nds D E Z) (HZ : Hid (∀ x, x ∈ Z → x < w.heap.size))
    (least : Nat) (most : Int) (hl5 : least ≤ 5) (hm5 : -1 ≤ most ∧ most ≤ 5) (hlm : most < 0 ∨ (least : Int) ≤ most) (i : Nat) (hi : i ≤ s.size) :
    Calls Tryz.prog 87 #[.pointer (some ⟨b, 0, none⟩), .int .i64 k, .int .i64 least, .int .i64 most, .int .i64 i] w fun e w' =>
     ∃ v, e = .returned v ∧ RS w' s N D v (fun j => TmN s nds k least most i j) ∧ (∀ g, v.ownBlock = some g → w.heap.size ≤ g) ∧ TX w' b bp s p nds D E Z ∧ Keeps D w w' := by
 have hs := h.small
 have hDl := h.dlt
 go_enter Tryz.func87, Tryz.ntmps87
 go_wp2_with fail
 refine (only_any b _ E s i hi hs w h.xb).mono ?_
 rintro e w1 ⟨g1, rfl, hR1, hk1, hg1⟩
 rw [← HN.out] at hR1
 rw [← HN.out]
 have htx1 : TX w1 b bp s p nds D E Z := h.keep hk1 (by simp)
 have hRS1 : RS w1 s N D (.slice (some ⟨g1, 0, none⟩) N N) (fun j => MN s nds (.it k 0) i j) := ⟨g1, N, _, rfl, hR1, fun hm => by have := hDl _ hm; omega, fun j _ => by show decide (j = i) = true ↔ MN s nds (.it k 0) i j; rw [MN.it_zero]; simp only [decide_eq_true_eq]; exact eq_comm⟩
 have hkD : Keeps D w w1 := hk1.mono (by simp)
 have HI : Hid (i ≤ s.size) := hi
 clear h hR1 hk1 hs hi
 go_wp2_with fail
 go_loopw [11, 12] (fun q1 q2 wr => ∃ (t : Nat), t ≤ least ∧ q2 = .int .i64 t ∧ RS wr s N D q1 (fun j => MN s nds (.it k t) i j) ∧ (∀ g, q1.ownBlock = some g → w.heap.size ≤ g) ∧ TX wr b bp s p nds D E Z ∧ Keeps D w wr) (fun _ q2 _ => least - (intOf q2).toNat)
 case atStart => exact ⟨0, by omega, rfl, hRS1, by intro g hg; simp only [Value.ownBlock, Option.some.injEq] at hg; omega, htx1, hkD⟩
 case round =>
  clear hRS1 htx1 hkD
  obtain ⟨t, ht, rfl, hRS, hfr, htx, hkD⟩ := hrel
  obtain ⟨x, c', f, rfl, hRB, hxD, hsay⟩ := hRS
  by_cases htl : t < least
  ·have ht1' : (t : Int) < (least : Int) := by omega
   have HT : Hid (t < least) := htl
   have HS : Hid (∀ j, j ≤ s.size → (f j = true ↔ MN s nds (.it k t) i j)) := hsay
   clear hsay ht htl hfr hlm
   go_wp2_with fail
   refine (on_any s N HN nds n IH k hk wr b bp p D E Z htx (fun x hx => Nat.lt_of_lt_of_le (HZ.out x hx) hkD.size) x c' f hRB hxD).mono ?_
   rintro e w2 ⟨y, f2, rfl, hR2, hy, htx2, hk2, hsay2⟩
   have hszr := hkD.size
   have hRS2 : RS w2 s N D (.slice (some ⟨y, 0, none⟩) N N) (fun j => MN s nds (.it k (t + 1)) i j) := ⟨y, N, f2, rfl, hR2, fun hm => by have := hDl _ hm; omega, fun j hj => by
     show f2 j = true ↔ MN s nds (.it k (t + 1)) i j
     rw [MN.it_snoc, hsay2 j hj]
     constructor
     · rintro ⟨m, a, b', d'⟩; exact ⟨m, (HS.out m a).1 b', d'⟩
     · rintro ⟨m, a, b'⟩
       have hm := a.inn HI.out
       exact ⟨m, hm, (HS.out m hm).2 a, b'⟩⟩
   have hkD2 := hkD.trans hk2
   clear hR2 hsay2 hk2 hRB htx
   go_wp2_with fail
   exact ⟨⟨t + 1, HT.out, by go_num, hRS2, by intro g hg; simp only [Value.ownBlock, Option.some.injEq] at hg; omega, htx2, hkD2⟩, by have := HT.out; simp [intOf]; omega⟩
  ·have hte : t = least := by omega
   have hnt : ¬ (t : Int) < (least : Int) := by omega
   have hfr' : w.heap.size ≤ x := hfr x rfl
   have hTL : TL w wr s N nds k least i b bp p D E Z (.slice (some ⟨x, 0, none⟩) N c') (.slice (some ⟨x, 0, none⟩) N c') least := by
    have hR : RS wr s N D (.slice (some ⟨x, 0, none⟩) N c') (fun j => UpTo s nds k least least i j) := ⟨x, c', f, rfl, hRB, hxD, fun j hj => by
      rw [hsay j hj, hte]
      exact UpTo.first.symm⟩
    exact ⟨hR, hR, hfr, htx, hkD, Nat.le_refl _⟩
   clear hte htl ht hRB hsay hfr htx hkD
   obtain ⟨i0, hi0, hz0, hz1, hz2⟩ := info_parts infoBool
   have hun := Tryz.underlying98
   have hNm : (N : Int) ≤ 101 := by have := HN.out; have := hTL.tx.small; omega
   have HM : Hid (most < 0 ∨ (least : Int) ≤ most) := hlm
   obtain ⟨wr0, hwr0⟩ : ∃ wr0 : World, wr0 = wr := ⟨_, rfl⟩
   subst hwr0
   clear hlm
   go_wp2_with fail
   go_loopw [11, 13, 14] (fun q1 q2 q3 wr => ∃ m : Nat, q3 = .int .i64 m ∧ (most < 0 ∨ (m : Int) ≤ most) ∧ m + mu wr q2 N ≤ 200 ∧ TL w wr s N nds k least i b bp p D E Z q1 q2 m) (fun _ q2 _ wr => mu wr q2 N)
   case atStart => exact ⟨least, rfl, HM.out, by have := mu_le wr0 (.slice (some ⟨x, 0, none⟩) N c') N; omega, hTL⟩
   case round =>
    clear hTL
    obtain ⟨m, rfl, hmm, hm6, L⟩ := hrel
    obtain ⟨xs, cs, fs, rfl, hRs, hxs, hss⟩ := L.set
    obtain ⟨xo, co, fo, rfl, hRo, hxo, hso⟩ := L.out
    by_cases hgo : (m : Int) < most ∨ most < 0
    ·have hm2 : (m : Int) ≤ 200 := by omega
     have HMU : Hid (m + mu wr (.slice (some ⟨xo, 0, none⟩) N co) N ≤ 200) := hm6
     have HMM : Hid ((m : Int) < most ∨ most < 0) := hgo
     have HSS : Hid (∀ j, j ≤ s.size → (fs j = true ↔ UpTo s nds k least m i j)) := hss
     have HSO : Hid (∀ j, j ≤ s.size → (fo j = true ↔ UpTo s nds k least m i j)) := hso
     have HGE : Hid (least ≤ m) := L.ge
     have htxL := L.tx
     have hkL := L.keep
     have hnewL : w.heap.size ≤ xo := L.new xo rfl
     by_cases h1 : (m : Int) < most
     all_goals
      first
      | (have hneg : most < 0 := hgo.resolve_left h1)
      | skip
      clear L hss hso hmm hm6 hgo
      go_wp2_with fail
      refine (on_any s N HN nds n IH k hk wr b bp p D E Z htxL (fun x hx => Nat.lt_of_lt_of_le (HZ.out x hx) hkL.size) xs cs fs hRs hxs).mono ?_
      rintro e w3 ⟨y, f2, rfl, hR2, hy, htx3, hk3, hsay2⟩
      have hRo3 := hRo.keep hk3 (by intro g hg; simp only [Value.ownBlock, Option.some.injEq] at hg; subst hg; exact hxo)
      have hkw3 := hkL.trans hk3
      have HMU3 : Hid (mu w3 (.slice (some ⟨xo, 0, none⟩) N co) N = mu wr (.slice (some ⟨xo, 0, none⟩) N co) N) := by show _ = _; rw [mu_RB hRo3, mu_RB hRo]
      have HST : Hid (∀ j, j ≤ s.size → ((fo j || f2 j) = true ↔ UpTo s nds k least (m + 1) i j)) := fun j hj => by
       rw [UpTo.step HGE.out, Bool.or_eq_true, HSO.out j hj, hsay2 j hj]
       constructor
       ·rintro (h | ⟨q, a, b', d'⟩)
        ·exact Or.inl h
        ·exact Or.inr ⟨q, (HSS.out q a).1 b', d'⟩
       ·rintro (h | ⟨q, a, b'⟩)
        ·exact Or.inl h
        ·obtain ⟨q2, _, _, hq⟩ := id a
         have hqs := hq.inn HI.out
         exact Or.inr ⟨q, hqs, (HSS.out q hqs).2 a, b'⟩
      have hszy := hkL.size
      have hNL0 : NL w3 w3 fo f2 (.slice none 0 0) 0 false := ⟨⟨rfl, Or.inl ⟨rfl, rfl⟩⟩, Keeps.refl _ _, by simp⟩
      obtain ⟨wq0, hwq0⟩ : ∃ wq0 : World, wq0 = wr := ⟨_, rfl⟩
      subst hwq0
      clear hRs hRo hsay2 hk3 htxL hkL
      go_wp2_with fail
      go_loopw [15, 16, 17] (fun qg qn qj wq => ∃ (j : Nat) (gr : Bool), j ≤ N ∧ qj = .int .i64 j ∧ qg = .bool gr ∧ NL w3 wq fo f2 qn j gr) (fun _ _ qj _ => N - (intOf qj).toNat)
      case atStart => exact ⟨0, false, by omega, rfl, rfl, hNL0⟩
      case round =>
       clear hNL0
       obtain ⟨j, gr, hj, rfl, rfl, L⟩ := hrel
       by_cases hjl : j < N
       ·have hj0' : (0 : Int) ≤ (j : Int) := by omega
        have hj1' : (j : Int) < (N : Int) := by omega
        have HJ : Hid (j < N) := hjl
        have ho := (hRo3.keep L.keep (by simp)).at hjl
        have he := (hR2.keep L.keep (by simp)).at hjl
        have hlm : j + 1 ≤ maxLen := by unfold maxLen; omega
        have hwsz := L.keep.size
        cases ho' : fo j <;> cases he' : f2 j <;> cases gr
        all_goals
         rw [ho'] at ho
         rw [he'] at he
         go_wp2_with (first | (at_builtin; refine wpList_append_lies _ rfl _ _ _ rfl w3.heap.size 4 i0 (.bool false) 1 1 hun hi0 hz0 hz1 hz2 rfl (by decide) u16 j _ rfl (L.own.alloc _) ⟨wr.heap.size, 0, none⟩ 1 1 [.bool (fo j || f2 j)] rfl rfl ?c1 ?c2 ?c3 hlm ?c4 ?c5 (wr.heap.size + 1) ?c6 ?_))
         case c1 =>
          intro t u ht
          match t, ht with
          | 0, ht => simp at ht; subst ht; simp [Addr.add, ho', he']
         case c2 => intro u hu; simp at hu; subst hu; rfl
         case c3 => omega
         case c4 => omega
         case c5 => simp; omega
         case c6 => simp
         intro g cap w4 hown4 hgrow hat hlt4
         have hNL4 := L.step (by rw [ho', he']; rfl) rfl hown4 hgrow
         have ho4 := (hRo3.keep hNL4.keep (by simp)).at hjl
         have he4 := (hR2.keep hNL4.keep (by simp)).at hjl
         rw [ho'] at ho4
         rw [he'] at he4
         rw [ho', he'] at hNL4
         have HNL : Hid (NL w3 w4 fo f2 (.slice (some ⟨g, 0, none⟩) (j + 1) cap) (j + 1) _) := hNL4
         clear hNL4 hown4 hgrow hat hlt4 L ho he ho' he' hj hjl
         go_wp2_with fail
         go_roundw
         case rel => exact ⟨j + 1, _, HJ.out, by go_num, rfl, HNL.out⟩
         case measure => have := HJ.out; simp [intOf]; omega
       ·have hje : j = N := by omega
        have hnj : ¬ (j : Int) < (N : Int) := by omega
        rw [hje] at L
        have hN0 : 0 < N := by have := HN.out; omega
        have hRn : RB wr u16 N (fun a => fo a || f2 a) := World.ownsRow.mono L.own (Nat.zero_le _)
        obtain ⟨gn, cn, hv16, _⟩ := hRn.form hN0
        subst hv16
        have hgn : w3.heap.size ≤ gn := (L.own.lt gn rfl).1
        have hkwr : Keeps D w wr := hkw3.trans (L.keep.mono (by simp))
        have htxr : TX wr b bp s p nds D E Z := htx3.keep L.keep (by simp)
        have hw3 := hkw3.size
        have hgnD : gn ∉ D := fun hm => by have := hDl _ hm; omega
        have hRSn : RS wr s N D (.slice (some ⟨gn, 0, none⟩) N cn) (fun j => UpTo s nds k least (m + 1) i j) := ⟨gn, cn, _, rfl, hRn, hgnD, HST.out⟩
        have hnew : ∀ g, (Value.slice (some ⟨gn, 0, none⟩) N cn).ownBlock = some g → w.heap.size ≤ g := by intro g hg; simp only [Value.ownBlock, Option.some.injEq] at hg; omega
        have HGR : Hid (gr = true ↔ ∃ a, a < N ∧ f2 a = true ∧ fo a = false) := L.grown
        cases gr
        ·have hno : ∀ a, a < N → f2 a = true → fo a = true := by
            intro a ha hf
            cases e : fo a with
            | true => rfl
            | false => exact absurd (HGR.out.2 ⟨a, ha, hf, e⟩) (by simp)
         have hst : ∀ j, j ≤ s.size → UpTo s nds k least (m + 1) i j → UpTo s nds k least m i j := by
          intro j hj hu
          have h1 := (HST.out j hj).2 hu
          rw [Bool.or_eq_true] at h1
          refine (HSO.out j hj).1 ?_
          rcases h1 with h1 | h1
          ·exact h1
          ·exact hno j (by have := HN.out; omega) h1
         have hfin : RS wr s N D (.slice (some ⟨gn, 0, none⟩) N cn) (fun j => TmN s nds k least most i j) := hRSn.iff fun j hj => by
          have hmm' : most < 0 ∨ (m : Int) ≤ most := by have := HMM.out; omega
          rw [TmN.fix HGE.out HI.out hmm' hst]
          exact ⟨hst j hj, fun h => (UpTo.step HGE.out).2 (Or.inl h)⟩
         clear L hRn hRSn hno hst hje hjl hj HGR hRo3 hR2 htx3
         go_wp2_with fail
         go_ret
         exact ⟨_, rfl, hfin, hnew, htxr, hkwr⟩
        ·have hmu : mu wr (.slice (some ⟨gn, 0, none⟩) N cn) N < mu wq0 (.slice (some ⟨xo, 0, none⟩) N co) N := by
            rw [← HMU3.out, mu_RB hRo3, mu_RB hRn]
            exact cnt_lt (fun a _ h => by rw [h]; rfl) (by obtain ⟨a, ha, h1, h2⟩ := HGR.out.1 rfl; exact ⟨a, ha, by rw [h1]; simp, h2⟩)
         have hTL2 : TL w wr s N nds k least i b bp p D E Z (.slice (some ⟨gn, 0, none⟩) N cn) (.slice (some ⟨gn, 0, none⟩) N cn) (m + 1) := ⟨hRSn, hRSn, hnew, htxr, hkwr, by have := HGE.out; omega⟩
         have HMU2 : Hid (mu wr (.slice (some ⟨gn, 0, none⟩) N cn) N < mu wq0 (.slice (some ⟨xo, 0, none⟩) N co) N) := hmu
         clear L hRn hRSn hje hjl hj HGR hRo3 hR2 htx3 hmu htxr hkwr
         go_wp2_with fail
         exact ⟨⟨m + 1, by go_num, by have := HMM.out; omega, by have := HMU2.out; have := HMU.out; omega, hTL2⟩, HMU2.out⟩
    ·have hn1 : ¬ (m : Int) < most := fun h => hgo (Or.inl h)
     have hn2 : ¬ most < 0 := fun h => hgo (Or.inr h)
     have hfin : RS wr s N D (.slice (some ⟨xo, 0, none⟩) N co) (fun j => TmN s nds k least most i j) := ⟨xo, co, fo, rfl, hRo, hxo, fun j hj => (hso j hj).trans (TmN.upto (by omega)).symm⟩
     have hnew := L.new
     have htx := L.tx
     have hkp := L.keep
     clear L hRs hRo hss hso hgo hmm
     go_wp2_with fail
     go_ret
     exact ⟨_, rfl, hfin, hnew, htx, hkp⟩
end Go.Proofs.YtnfojonmohijpaaGreatDoor
namespace Go.Proofs.YtnfojonmohijpaaGreatDoor
open Go.RowKit
theorem oth_lt {c : Nat} (h : c < 256) : oth c < 256 := by
 unfold oth
 split
 ·omega
 ·split <;> omega
theorem u8w {z : Int} {m : Nat} (h : z = (m : Int)) (hm : m < 256) : IntKind.u8.wrap z = (m : Int) := by
 have : IntKind.u8.wrap z = z % 256 := by simp [IntKind.wrap, IntKind.bits, IntKind.signed]
 rw [this]
 omega
set_option maxRecDepth 100000 in
set_option maxHeartbeats 2000000 in
theorem holds_any (b h c : Nat) (f g : Nat → Bool) (fo : Bool) (HG : Hid (g = foF fo f)) (hc : c < 256) (w : World) (a0 a2 a3 a4 : Int) (ka : Option Addr) (kn kc : Nat) (hx : w.cell? ⟨b, 2, none⟩ = some (.bool fo)) (hH : HB w h f) :
    Calls Tryz.prog 85 #[.pointer (some ⟨b, 0, none⟩), .agg #[.int .u8 a0, .slice (some ⟨h, 0, none⟩) 256 256, .int .i64 a2, .int .i64 a3, .int .i64 a4, .slice ka kn kc], .int .u8 c] w fun e w' => e = .returned (.bool (g c)) ∧ Keeps [] w w' := by
 have hk0 : Keeps [] w (w.alloc (.cells #[.int .u8 a0, .slice (some ⟨h, 0, none⟩) 256 256, .int .i64 a2, .int .i64 a3, .int .i64 a4, .slice ka kn kc] 157)) := (Keeps.refl [] w).alloc _
 have hH1 := (hH.keep hk0 (by simp)).cell hc
 have hH2 := (hH.keep hk0 (by simp)).cell (oth_lt hc)
 have x2 := hk0.cell hx
 have hn0 : (w.alloc (.cells #[.int .u8 a0, .slice (some ⟨h, 0, none⟩) 256 256, .int .i64 a2, .int .i64 a3, .int .i64 a4, .slice ka kn kc] 157)).cell? ⟨w.heap.size, 1, none⟩ = some (.slice (some ⟨h, 0, none⟩) 256 256) := by
  rw [Lib.cell_of_heap (heap_alloc_new w _)]; rfl
 have hc0 : (0 : Int) ≤ (c : Int) := by omega
 have hc1 : (c : Int) < 256 := by omega
 have HV : Hid (g c = (f c || fo && f (oth c))) := by show g c = _; rw [HG.out]; rfl
 clear hH hx HG
 by_cases l1 : 97 ≤ (c : Int) <;> by_cases l2 : (c : Int) ≤ 122 <;> by_cases l3 : 65 ≤ (c : Int) <;> by_cases l4 : (c : Int) ≤ 90
 all_goals first
  | (exfalso; omega)
  | (have ho : oth c = c - 32 := by (unfold oth; rw [if_pos (by omega)])
     have hw : IntKind.u8.wrap ((c : Int) - 32) = ((c - 32 : Nat) : Int) := u8w (by omega) (by omega)
     obtain ⟨d, hd⟩ : ∃ d, d = c - 32 := ⟨_, rfl⟩
     rw [ho] at hH2 HV
     rw [← hd] at hH2 HV hw
     have hd0 : (0 : Int) ≤ (d : Int) := by omega
     have hd1 : (d : Int) < 256 := by omega
     clear hd ho
     obtain ⟨b1, hb1⟩ : ∃ b, f c = b := ⟨_, rfl⟩
     obtain ⟨b2, hb2⟩ : ∃ b, f d = b := ⟨_, rfl⟩
     rw [hb1] at hH1 HV
     rw [hb2] at hH2 HV
     clear hb1 hb2 hc
     cases fo <;> cases b1 <;> cases b2
     all_goals
       go_enter Tryz.func85, Tryz.ntmps85
       go_wp2_with fail
       go_ret
       exact ⟨by rw [HV.out]; rfl, hk0⟩)
  | (have ho : oth c = c + 32 := by (unfold oth; rw [if_neg (by omega), if_pos (by omega)])
     have hw : IntKind.u8.wrap ((c : Int) + 32) = ((c + 32 : Nat) : Int) := u8w (by omega) (by omega)
     obtain ⟨d, hd⟩ : ∃ d, d = c + 32 := ⟨_, rfl⟩
     rw [ho] at hH2 HV
     rw [← hd] at hH2 HV hw
     have hd0 : (0 : Int) ≤ (d : Int) := by omega
     have hd1 : (d : Int) < 256 := by omega
     clear hd ho
     obtain ⟨b1, hb1⟩ : ∃ b, f c = b := ⟨_, rfl⟩
     obtain ⟨b2, hb2⟩ : ∃ b, f d = b := ⟨_, rfl⟩
     rw [hb1] at hH1 HV
     rw [hb2] at hH2 HV
     clear hb1 hb2 hc
     cases fo <;> cases b1 <;> cases b2
     all_goals
       go_enter Tryz.func85, Tryz.ntmps85
       go_wp2_with fail
       go_ret
       exact ⟨by rw [HV.out]; rfl, hk0⟩)
  | (have ho : oth c = c := by (unfold oth; rw [if_neg (by omega), if_neg (by omega)])
     rw [ho] at HV
     obtain ⟨b1, hb1⟩ : ∃ b, f c = b := ⟨_, rfl⟩
     rw [hb1] at hH1 HV
     clear hb1 hc hH2 ho
     cases fo <;> cases b1
     all_goals
       go_enter Tryz.func85, Tryz.ntmps85
       go_wp2_with fail
       go_ret
       exact ⟨by rw [HV.out]; rfl, hk0⟩)
end Go.Proofs.YtnfojonmohijpaaGreatDoor
namespace Go.Proofs.YtnfojonmohijpaaGreatDoor
open Go.RowKit
theorem TX.slot {w : World} {b bp : Nat} {s : ByteArray} {p : PS} {nds : List Nd} {D Z : List Nat} {E : Value} (h : TX w b bp s p nds D E Z) {k i : Nat} (hk : k < nds.length) (hi : i ≤ s.size) :
    ∃ eb cap g v, E = .slice (some ⟨eb, 0, none⟩) nds.length cap ∧ D[k]? = some g ∧ w.cell? ⟨eb, k, none⟩ = some (.slice (some ⟨g, 0, none⟩) (s.size + 1) (s.size + 1)) ∧ w.cell? ⟨g, i, none⟩ = some v ∧ w.frozen? ⟨g, i, none⟩ = false ∧ (v = .slice none 0 0 ∨ EA w s nds D Z k i v) := by
 obtain ⟨eb, cap, hE, _, _⟩ := h.out.form (by omega)
 subst hE
 have hkD : k < D.length := by rw [h.dlen]; exact hk
 have hg : D[k]? = some D[k] := List.getElem?_eq_getElem hkD
 obtain ⟨cs, hl, hc, hv⟩ := h.inn k _ hg
 have hic : i < cs.length := by omega
 have hci : cs[i]? = some cs[i] := List.getElem?_eq_getElem hic
 refine ⟨eb, cap, D[k], cs[i], rfl, hg, ?_, ?_, ?_, hv i _ hci⟩
 ·rw [World.ownsRow.cellAt h.out k (by omega), List.getElem?_map, hg]; rfl
 ·rw [Lib.cell_of_heap hc]; simp
 ·exact Lib.frozen_of_heap hc i
set_option maxRecDepth 100000 in
set_option maxHeartbeats 2000000 in
theorem ends_hit (s : ByteArray) (nds : List Nd) (k : Nat) (hk : k < nds.length) (w : World) (b bp : Nat) (p : PS) (D : List Nat) (E : Value) (Z : List Nat) (i : Nat) (h : TX w b bp s p nds D E Z) (hi : i ≤ s.size)
    (eb cap g : Nat) (v : Value) (hE : E = .slice (some ⟨eb, 0, none⟩) nds.length cap) (N : Nat) (HN : Hid (N = s.size + 1)) (hr : w.cell? ⟨eb, k, none⟩ = some (.slice (some ⟨g, 0, none⟩) N N)) (hc : w.cell? ⟨g, i, none⟩ = some v) (hv : EA w s nds D Z k i v) :
    Calls Tryz.prog 48 #[.pointer (some ⟨b, 0, none⟩), .int .i64 k, .int .i64 i] w fun e w' => e = .returned v ∧ w' = w := by
 obtain ⟨x0, x1, x2, x3⟩ := h.xb.main
 rw [hE] at x3
 have hs := h.small
 have hk0' : (0 : Int) ≤ (k : Int) := by omega
 have hk1' : (k : Int) < (nds.length : Int) := by omega
 have hi0' : (0 : Int) ≤ (i : Int) := by omega
 have hi1' : (i : Int) < (N : Int) := by have := HN.out; omega
 obtain ⟨x, c, f, hvv, _⟩ := hv
 subst hvv
 clear h hE hk hi hs
 go_enter Tryz.func48, Tryz.ntmps48
 go_wp2_with fail
 go_ret
 exact ⟨rfl, rfl⟩
end Go.Proofs.YtnfojonmohijpaaGreatDoor
namespace Go.Proofs.YtnfojonmohijpaaGreatDoor
open Go.RowKit
def EPo (s : ByteArray) (nds : List Nd) (k i : Nat) (w : World) (b bp : Nat) (p : PS) (D : List Nat) (E : Value) (Z : List Nat) (e : Ending) (w' : World) : Prop :=
 ∃ v, e = .returned v ∧ EA w' s nds D Z k i v ∧ TX w' b bp s p nds D E Z ∧ Keeps D w w'
theorem KidsV.kv {w : World} {bp b : Nat} {E v kv : Value} {D Z kids : List Nat} (h : KidsV w (avoA bp (b :: (E.ownBlock.toList ++ (D ++ Z))) v) kv kids) (hl : kids.length ≤ 1000) : KV w D kv kids := by
 obtain ⟨ka, kc, rfl, hk⟩ := h.form
 refine ⟨ka, kc, rfl, by omega, fun t c ht => ?_⟩
 obtain ⟨hlt, hc⟩ := List.getElem?_eq_some_iff.1 ht
 obtain ⟨kb, rfl, hcell⟩ := hk t hlt
 refine ⟨kb, 0, rfl, (h.1.lt kb rfl).2, fun hD => h.2 kb rfl (by simp [avoA, hD]), ?_⟩
 rw [Nat.zero_add, hcell, hc]
theorem TX.put {w : World} {b bp : Nat} {s : ByteArray} {p : PS} {nds : List Nd} {D Z : List Nat} {E : Value} (h : TX w b bp s p nds D E Z) {k g i : Nat} {v : Value} (hg : D[k]? = some g) (hv : EA w s nds D Z k i v) :
    EA (w.setCell ⟨g, i, none⟩ v) s nds D Z k i v ∧ TX (w.setCell ⟨g, i, none⟩ v) b bp s p nds D E Z ∧ Keeps D w (w.setCell ⟨g, i, none⟩ v) := by
 have hm : g ∈ D := List.mem_of_getElem? hg
 have hk : Keeps D w (w.setCell ⟨g, i, none⟩ v) := (Keeps.refl D w).setCell (p := ⟨g, i, none⟩) (Or.inl hm) v
 exact ⟨hv.keep hk fun x hx => Or.inl hx, h.memo hg hv, hk⟩
end Go.Proofs.YtnfojonmohijpaaGreatDoor
namespace Go.Proofs.YtnfojonmohijpaaGreatDoor
open Go.RowKit
set_option maxRecDepth 100000 in
set_option maxHeartbeats 2000000 in
theorem ends_way (s : ByteArray) (N : Nat) (HN : Hid (N = s.size + 1)) (nds : List Nd) (hn : nds.length ≤ 1000) (n : Nat) (IH : EndsOk s nds n) (k : Nat) (nd : Nd) (hk : nds[k]? = some nd) (hkind : nd.kind = 119) (hkids : ∀ c, c ∈ nd.kids → NK nds n c) (hkl : nd.kids.length ≤ 1000)
    (w : World) (b bp : Nat) (p : PS) (D : List Nat) (E : Value) (Z : List Nat) (i : Nat) (h : TX w b bp s p nds D E Z) (HZ : Hid (∀ x, x ∈ Z → x < w.heap.size)) (hi : i ≤ s.size)
    (eb cap g : Nat) (hE : E = .slice (some ⟨eb, 0, none⟩) nds.length cap) (hg : D[k]? = some g) (hr : w.cell? ⟨eb, k, none⟩ = some (.slice (some ⟨g, 0, none⟩) N N)) (hc : w.cell? ⟨g, i, none⟩ = some (.slice none 0 0)) :
    Calls Tryz.prog 48 #[.pointer (some ⟨b, 0, none⟩), .int .i64 k, .int .i64 i] w (EPo s nds k i w b bp p D E Z) := by
 obtain ⟨i0, hi0, hz0, hz1, hz2⟩ := info_parts infoBool
 have hun := Tryz.underlying98
 obtain ⟨x0, x1, x2, x3⟩ := h.xb.main
 rw [hE] at x3
 obtain ⟨g', cap', hv, kv, hform, hkn, hH, hK, c0, c1, c2, c3, c4, c5⟩ := h.nodes.node hk
 have HK : Hid (nd.kind = 119) := hkind
 rw [hkind] at c0
 obtain ⟨n1, _⟩ := h.pb.nodes
 rw [hform] at n1
 obtain ⟨ha, hn2, hc2, rfl⟩ := hH.1
 have HHV : Hid (HoldsF w b (avoA bp (b :: (E.ownBlock.toList ++ (D ++ Z))) p.nodes) (.slice ha hn2 hc2) nd) := hH
 have HKV : Hid (KV w D kv nd.kids) := hK.kv hkl
 obtain ⟨ka, kc, rfl, hkid⟩ := hK.form
 have hs := h.small
 have hk0' : (0 : Int) ≤ (k : Int) := by omega
 have hk1' : (k : Int) < (nds.length : Int) := by omega
 have hi0' : (0 : Int) ≤ (i : Int) := by omega
 have hi1' : (i : Int) < (N : Int) := by have := HN.out; omega
 have hadd : (s.size : Int) + 1 ≤ 9223372036854775807 := by omega
 have HI : Hid (i ≤ s.size) := hi
 have HS : Hid (s.size ≤ 100) := hs
 have HE : Hid (E = .slice (some ⟨eb, 0, none⟩) nds.length cap) := hE
 have HT : Hid (TX w b bp s p nds D E Z) := h
 have HH : Hid (nds[k]? = some nd) := hk
 have hWk := (Keeps.refl [] w).alloc (.cells #[.int .u8 119, .slice ha hn2 hc2, .int .i64 nd.n, .int .i64 nd.mn, .int .i64 nd.mx, .slice ka nd.kids.length kc] 157)
 have hnew := heap_alloc_new w (.cells #[.int .u8 119, .slice ha hn2 hc2, .int .i64 nd.n, .int .i64 nd.mn, .int .i64 nd.mx, .slice ka nd.kids.length kc] 157)
 have HG : Hid (D[k]? = some g) := hg
 have hk2' : (nds.length : Int) ≤ 1000 := by omega
 have hkl' : (nd.kids.length : Int) ≤ 1000 := by omega
 clear h hE hk hi hs hform hH hK hkn hkind hn hkid hg hkl x2
 go_enter Tryz.func48, Tryz.ntmps48
 go_upto_region 4 with (fail)
 clear c0 c1 c2 c3 c4 c5 n1 x0 x1 x3 hr hc
 generalize w.alloc (.cells #[.int .u8 119, .slice ha hn2 hc2, .int .i64 nd.n, .int .i64 nd.mn, .int .i64 nd.mx, .slice ka nd.kids.length kc] 157) = W at *
 obtain ⟨gn, hgn⟩ : ∃ gn, gn = w.heap.size := ⟨_, rfl⟩
 rw [← hgn] at hnew ⊢
 have HGN : Hid (gn = w.heap.size) := hgn
 clear hgn
 have hT0 := HT.out.keep hWk (by simp)
 obtain ⟨y0, y1, _, _⟩ := hT0.xb.main
 clear hT0
 go_upto_region 5 with (first | (refine wpList_make_full W rfl _ _ 98 rfl 0 4 i0 (.bool false) 1 hun hi0 hz0 hz1 .i64 .i64 ((s.size : Int) + 1) ((s.size : Int) + 1) N rfl rfl (by have := HN.out; omega) (by have := HN.out; omega) (by have := HN.out; have := HS.out; rw [hz2]; omega) (by have := HN.out; have := HS.out; unfold maxLen; omega) (Nat.zero_le _) ?_; intro w1 hown hgr))
 rw [Nat.mul_one, show (Value.bool false).cells = #[.bool false] from rfl, bl_made] at hown
 have hk1 : Keeps [] W w1 := Keeps.ofGrownNone hgr
 have hkw1 := hWk.trans hk1
 have hnew1 := (hk1.block gn (Array.getElem?_eq_some_iff.1 hnew).1 (by simp)).trans hnew
 have hT1 := HT.out.keep hkw1 (by simp)
 have HKV1 : Hid (KV w1 D (.slice ka nd.kids.length kc) nd.kids) := HKV.out.keep (hkw1.mono (by simp))
 have e0 : w1.cell? ⟨gn, 0, none⟩ = some (.int .u8 119) := by rw [Lib.cell_of_heap hnew1]; rfl
 have e5 : w1.cell? ⟨gn, 5, none⟩ = some (.slice ka nd.kids.length kc) := by rw [Lib.cell_of_heap hnew1]; rfl
 have hWs := hWk.size
 have hgnW : gn < W.heap.size := (Array.getElem?_eq_some_iff.1 hnew).1
 have HW1 : Hid (w1.heap[gn]? = some (.cells #[.int .u8 119, .slice ha hn2 hc2, .int .i64 nd.n, .int .i64 nd.mn, .int .i64 nd.mx, .slice ka nd.kids.length kc] 157 (0, 0))) := hnew1
 have HGW : Hid (gn < W.heap.size ∧ w.heap.size ≤ W.heap.size) := ⟨hgnW, hWs⟩
 clear y0 y1 hgr hnew hnew1 hgnW hWs hadd hz0 hz1 hz2 hi0 hun hWk hk1
 clear hown
 go_upto_region 12 with (fail)
 go_wp2_with fail
 refine (row_any s N HN nds n IH nd.kids hkids w1 b bp p D E Z hT1 (fun x hx => Nat.lt_of_lt_of_le (HZ.out x hx) hkw1.size) _ HKV1.out i HI.out).mono ?_
 rintro e w2 ⟨v, rfl, hRS, hfr, hT2, hk2⟩
 have hkw2 : Keeps D w w2 := (hkw1.mono (by simp)).trans hk2
 obtain ⟨x, c, f, rfl, hRB, hxD, hsay⟩ := hRS
 have hx1 := hfr x rfl
 have hEA : EA w2 s nds D Z k i (.slice (some ⟨x, 0, none⟩) N c) := by
  refine ⟨x, c, f, by rw [← HN.out], by rw [← HN.out]; exact hRB, hxD, fun hz => by have := HZ.out x hz; have := hkw1.size; omega, fun j hj => ?_⟩
  rw [hsay j hj, MN.way_iff HH.out HK.out]
 clear hRB hsay hfr hT1 hk2 e0 e5
 obtain ⟨eb2, cap2, g2, v2, hE2, hg2, hr2, hc2', hf2, _⟩ := hT2.slot (k := k) (i := i) (by omega) HI.out
 have hE3 := HE.out.symm.trans hE2
 simp only [Value.slice.injEq, Option.some.injEq, Addr.mk.injEq, and_true, true_and] at hE3
 obtain ⟨hebe, hcape⟩ := hE3
 subst hebe hcape
 obtain rfl : g = g2 := Option.some.inj (HG.out.symm.trans hg2)
 rw [← HN.out] at hr2
 obtain ⟨z0, z1, _, z3⟩ := hT2.xb.main
 rw [HE.out] at z3
 obtain ⟨hp1, hp2, hp3⟩ := hT2.put HG.out hEA
 have hend := hkw2.trans hp3
 clear hE2 hg2 hEA hT2 hkw2 hp3
 go_wp2_with fail
 go_ret
 exact ⟨_, rfl, hp1, hp2, hend⟩
end Go.Proofs.YtnfojonmohijpaaGreatDoor
namespace Go.Proofs.YtnfojonmohijpaaGreatDoor
open Go.RowKit
set_option maxRecDepth 100000 in
set_option maxHeartbeats 2000000 in
theorem ends_grp (s : ByteArray) (N : Nat) (HN : Hid (N = s.size + 1)) (nds : List Nd) (hn : nds.length ≤ 1000) (n : Nat) (IH : EndsOk s nds n) (k : Nat) (nd : Nd) (hk : nds[k]? = some nd) (hkind : nd.kind = 103) (c : Nat) (HC : Hid (nd.kids = [c])) (hck : NK nds n c) (hkl : nd.kids.length ≤ 1000)
    (w : World) (b bp : Nat) (p : PS) (D : List Nat) (E : Value) (Z : List Nat) (i : Nat) (h : TX w b bp s p nds D E Z) (HZ : Hid (∀ x, x ∈ Z → x < w.heap.size)) (hi : i ≤ s.size)
    (eb cap g : Nat) (hE : E = .slice (some ⟨eb, 0, none⟩) nds.length cap) (hg : D[k]? = some g) (hr : w.cell? ⟨eb, k, none⟩ = some (.slice (some ⟨g, 0, none⟩) N N)) (hc : w.cell? ⟨g, i, none⟩ = some (.slice none 0 0)) :
    Calls Tryz.prog 48 #[.pointer (some ⟨b, 0, none⟩), .int .i64 k, .int .i64 i] w (EPo s nds k i w b bp p D E Z) := by
 obtain ⟨i0, hi0, hz0, hz1, hz2⟩ := info_parts infoBool
 have hun := Tryz.underlying98
 obtain ⟨x0, x1, x2, x3⟩ := h.xb.main
 rw [hE] at x3
 obtain ⟨g', cap', hv, kv, hform, hkn, hH, hK, c0, c1, c2, c3, c4, c5⟩ := h.nodes.node hk
 have HK : Hid (nd.kind = 103) := hkind
 rw [hkind] at c0
 obtain ⟨n1, _⟩ := h.pb.nodes
 rw [hform] at n1
 obtain ⟨ha, hn2, hc2, rfl⟩ := hH.1
 have HHV : Hid (HoldsF w b (avoA bp (b :: (E.ownBlock.toList ++ (D ++ Z))) p.nodes) (.slice ha hn2 hc2) nd) := hH
 have HKV : Hid (KV w D kv nd.kids) := hK.kv hkl
 obtain ⟨ka, kc, rfl, hkid⟩ := hK.form
 have hs := h.small
 have hk0' : (0 : Int) ≤ (k : Int) := by omega
 have hk1' : (k : Int) < (nds.length : Int) := by omega
 have hi0' : (0 : Int) ≤ (i : Int) := by omega
 have hi1' : (i : Int) < (N : Int) := by have := HN.out; omega
 have hadd : (s.size : Int) + 1 ≤ 9223372036854775807 := by omega
 have HI : Hid (i ≤ s.size) := hi
 have HS : Hid (s.size ≤ 100) := hs
 have HE : Hid (E = .slice (some ⟨eb, 0, none⟩) nds.length cap) := hE
 have HT : Hid (TX w b bp s p nds D E Z) := h
 have HH : Hid (nds[k]? = some nd) := hk
 have hWk := (Keeps.refl [] w).alloc (.cells #[.int .u8 103, .slice ha hn2 hc2, .int .i64 nd.n, .int .i64 nd.mn, .int .i64 nd.mx, .slice ka nd.kids.length kc] 157)
 have hnew := heap_alloc_new w (.cells #[.int .u8 103, .slice ha hn2 hc2, .int .i64 nd.n, .int .i64 nd.mn, .int .i64 nd.mx, .slice ka nd.kids.length kc] 157)
 have HG : Hid (D[k]? = some g) := hg
 have hk2' : (nds.length : Int) ≤ 1000 := by omega
 have hkl' : (nd.kids.length : Int) ≤ 1000 := by omega
 clear h hE hk hi hs hform hH hK hkn hkind hn hkid hg hkl x2
 go_enter Tryz.func48, Tryz.ntmps48
 go_upto_region 4 with (fail)
 clear c0 c1 c2 c3 c4 c5 n1 x0 x1 x3 hr hc
 generalize w.alloc (.cells #[.int .u8 103, .slice ha hn2 hc2, .int .i64 nd.n, .int .i64 nd.mn, .int .i64 nd.mx, .slice ka nd.kids.length kc] 157) = W at *
 obtain ⟨gn, hgn⟩ : ∃ gn, gn = w.heap.size := ⟨_, rfl⟩
 rw [← hgn] at hnew ⊢
 have HGN : Hid (gn = w.heap.size) := hgn
 clear hgn
 have hT0 := HT.out.keep hWk (by simp)
 obtain ⟨y0, y1, _, _⟩ := hT0.xb.main
 clear hT0
 go_upto_region 5 with (first | (refine wpList_make_full W rfl _ _ 98 rfl 0 4 i0 (.bool false) 1 hun hi0 hz0 hz1 .i64 .i64 ((s.size : Int) + 1) ((s.size : Int) + 1) N rfl rfl (by have := HN.out; omega) (by have := HN.out; omega) (by have := HN.out; have := HS.out; rw [hz2]; omega) (by have := HN.out; have := HS.out; unfold maxLen; omega) (Nat.zero_le _) ?_; intro w1 hown hgr))
 rw [Nat.mul_one, show (Value.bool false).cells = #[.bool false] from rfl, bl_made] at hown
 have hk1 : Keeps [] W w1 := Keeps.ofGrownNone hgr
 have hkw1 := hWk.trans hk1
 have hnew1 := (hk1.block gn (Array.getElem?_eq_some_iff.1 hnew).1 (by simp)).trans hnew
 have hT1 := HT.out.keep hkw1 (by simp)
 have HKV1 : Hid (KV w1 D (.slice ka nd.kids.length kc) nd.kids) := HKV.out.keep (hkw1.mono (by simp))
 have e0 : w1.cell? ⟨gn, 0, none⟩ = some (.int .u8 103) := by rw [Lib.cell_of_heap hnew1]; rfl
 have e5 : w1.cell? ⟨gn, 5, none⟩ = some (.slice ka nd.kids.length kc) := by rw [Lib.cell_of_heap hnew1]; rfl
 have hWs := hWk.size
 have hgnW : gn < W.heap.size := (Array.getElem?_eq_some_iff.1 hnew).1
 have HW1 : Hid (w1.heap[gn]? = some (.cells #[.int .u8 103, .slice ha hn2 hc2, .int .i64 nd.n, .int .i64 nd.mn, .int .i64 nd.mx, .slice ka nd.kids.length kc] 157 (0, 0))) := hnew1
 have HGW : Hid (gn < W.heap.size ∧ w.heap.size ≤ W.heap.size) := ⟨hgnW, hWs⟩
 clear y0 y1 hgr hnew hnew1 hgnW hWs hadd hz0 hz1 hz2 hi0 hun hWk hk1
 obtain ⟨ka', kc', ek, _, hkc⟩ := HKV1.out
 obtain ⟨q, off, rfl, hql, hqD, hqc⟩ : ∃ q off, ka = some ⟨q, off, none⟩ ∧ q < w1.heap.size ∧ q ∉ D ∧ w1.cell? ⟨q, off + 0, none⟩ = some (.int .i64 c) := by
  simp only [Value.slice.injEq] at ek
  obtain ⟨rfl, _, rfl⟩ := ek
  exact hkc 0 c (by rw [HC.out]; rfl)
 have hkn' : ((nd.kids.length : Nat) : Int) = 1 := by rw [HC.out]; rfl
 have hkn0 : (0 : Int) < (nd.kids.length : Int) := by omega
 rw [Nat.add_zero] at hqc
 clear hown ek hkc hkn'
 go_upto_region 10 with (fail)
 go_wp2_with fail
 refine (IH c hck w1 b bp p D E Z i hT1 (fun x hx => Nat.lt_of_lt_of_le (HZ.out x hx) hkw1.size) HI.out).mono ?_
 rintro e w2 ⟨v, rfl, hEA0, hT2, hk2⟩
 have hkw2 : Keeps D w w2 := (hkw1.mono (by simp)).trans hk2
 have hEA : EA w2 s nds D Z k i v := by
  obtain ⟨x, c', f, rfl, hRB, h1, h2, h3⟩ := hEA0
  exact ⟨x, c', f, rfl, hRB, h1, h2, fun j hj => by rw [h3 j hj, MN.grp_iff HH.out HK.out HC.out]⟩
 obtain ⟨x, c', f, rfl, _⟩ := id hEA
 rw [← HN.out] at hEA ⊢
 clear hEA0 hT1 hk2 e0 e5 hqc
 obtain ⟨eb2, cap2, g2, v2, hE2, hg2, hr2, hc2', hf2, _⟩ := hT2.slot (k := k) (i := i) (by omega) HI.out
 have hE3 := HE.out.symm.trans hE2
 simp only [Value.slice.injEq, Option.some.injEq, Addr.mk.injEq, and_true, true_and] at hE3
 obtain ⟨hebe, hcape⟩ := hE3
 subst hebe hcape
 obtain rfl : g = g2 := Option.some.inj (HG.out.symm.trans hg2)
 rw [← HN.out] at hr2
 obtain ⟨z0, z1, _, z3⟩ := hT2.xb.main
 rw [HE.out] at z3
 obtain ⟨hp1, hp2, hp3⟩ := hT2.put HG.out hEA
 have hend := hkw2.trans hp3
 clear hE2 hg2 hEA hT2 hkw2 hp3
 go_wp2_with fail
 go_ret
 exact ⟨_, rfl, hp1, hp2, hend⟩
end Go.Proofs.YtnfojonmohijpaaGreatDoor
