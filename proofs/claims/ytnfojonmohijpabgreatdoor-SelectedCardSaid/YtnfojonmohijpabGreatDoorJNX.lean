/-
  DERIVED. What the program's treeOfPiece has in its loop. No conditions.
-/
import Derived.Test.YtnfojonmohijpabGreatDoorJOI0
set_option linter.unusedSimpArgs false
set_option linter.unusedVariables false
namespace Go.Proofs.YtnfojonmohijpabGreatDoor
open Go.RowKit
theorem infoTree : (Tryz.prog.info? 75).map (fun i => (i.zero, i.size, i.bytes)) = some (some (.agg #[.int .u8 0, .int .i64 0, .slice none 0 0]), 3, 40) := by kernel_rfl
structure GL (X wr : World) (v : Value) (ts : List Tr) (cs : List Value) : Prop where
 own : wr.ownsRow 0 75 3 v ts.length cs
 fresh : ∀ g, v.ownBlock = some g → X.heap.size ≤ g
 tv : TV wr (fun g => X.heap.size ≤ g ∧ v.ownBlock ≠ some g) false (lapp ts .lnil) cs
 keep : Keeps [] X wr
theorem GL.start (X : World) : GL X X (.slice none 0 0) [] [] := ⟨World.ownsRow_nil _ _ _ _, by simp [Value.ownBlock], .lnil, Keeps.refl _ _⟩
theorem GL.keeps {X wr w' : World} {v : Value} {ts : List Tr} {cs : List Value} (h : GL X wr v ts cs) (hk : Keeps [] wr w') : GL X w' v ts cs := ⟨h.own.keep hk (by simp), h.fresh, h.tv.keep hk (by simp), h.keep.trans hk⟩
theorem GL.add {X w0 w2 w3 w4 : World} {v : Value} {ts ms : List Tr} {cs ds : List Value} {g' cap : Nat} (h : GL X w2 v ts cs) (hm : TV w3 (fun z => w0.heap.size ≤ z) false (lapp ms .lnil) ds) (hX : X.heap.size ≤ w0.heap.size) (hv : ∀ g, v.ownBlock = some g → g < w0.heap.size) (hk : Keeps [] w2 w3)
    (hown : w4.ownsRow 0 75 3 (.slice (some ⟨g', 0, none⟩) (ts.length + ms.length) cap) (ts.length + ms.length) (cs ++ ds)) (hgrow : w3.grownBy w4 v.ownBlock) (hat : v.ownBlock = some g' ∨ g' = w3.heap.size) :
    GL X w4 (.slice (some ⟨g', 0, none⟩) (ts.length + ms.length) cap) (ts ++ ms) (cs ++ ds) := by
 have hk4 : Keeps v.ownBlock.toList w3 w4 := Keeps.ofGrown hgrow
 have hnew : ∀ z, v.ownBlock ≠ some z → z < w3.heap.size → (Value.slice (some ⟨g', 0, none⟩) (ts.length + ms.length) cap).ownBlock ≠ some z := by
  intro z hz hz2 e
  simp only [Value.ownBlock, Option.some.injEq] at e
  subst e
  rcases hat with e | e
  ·exact hz e
  ·omega
 have hmem : ∀ z, v.ownBlock ≠ some z → z ∉ v.ownBlock.toList := by
  intro z hz hm
  rw [Option.mem_toList] at hm
  exact hz hm
 have hno : ∀ q, w0.heap.size ≤ q → v.ownBlock ≠ some q := by
  intro q hq e
  have := hv q e
  omega
 have hs := h.keep.size
 have hs3 := hk.size
 refine ⟨by rw [List.length_append]; exact hown, ?_, ?_, ?_⟩
 ·intro z hz
  simp only [Value.ownBlock, Option.some.injEq] at hz
  subst hz
  rcases hat with e | e
  ·exact h.fresh _ e
  ·omega
 ·refine TV.app ?_ ?_
  ·exact ((hm.mono (S' := fun q => w0.heap.size ≤ q ∧ q < w3.heap.size) fun q hq hq2 => ⟨hq, hq2⟩).keep hk4 fun q hq => hmem q (hno q hq.1)).mono fun q hq _ => ⟨by omega, hnew q (hno q hq.1) hq.2⟩
  ·exact (((h.tv.keep hk (by simp)).mono (S' := fun q => (X.heap.size ≤ q ∧ v.ownBlock ≠ some q) ∧ q < w3.heap.size) fun q hq hq2 => ⟨hq, hq2⟩).keep hk4 fun q hq => hmem q hq.1.2).mono fun q hq _ => ⟨hq.1.1, hnew q hq.1.2 hq.2⟩
 ·exact keepsM (h.keep.trans hk) hk4 (by intro z hz; rw [Option.mem_toList] at hz; exact Or.inr (h.fresh z hz))
theorem GL.row {X wr : World} {v : Value} {ts : List Tr} {cs : List Value} (h : GL X wr v ts cs) : TV wr (fun g => X.heap.size ≤ g) false (lapp ts .lnil) cs := h.tv.mono fun z hz _ => hz.1
structure PL (s : ByteArray) (y : Pat) (mn : Nat) (mx : Int) (i j c : Nat) (ts : List Tr) : Prop where
 left : Left (Mt s y) mn mx ts.length c j
 lo : i + ts.length ≤ c
 hi : c ≤ j
 spec : ∀ u, TT s (.times (mn - ts.length) (lessN mx ts.length) y) c j u → TT s (.times mn mx y) i j (lapp ts u)
theorem PL.start {s : ByteArray} {y : Pat} {mn : Nat} {mx : Int} {i j : Nat} (h : Mt s (.rep mn mx y) i j) : PL s y mn mx i j i [] := ⟨h, by simp, Mt.le h, fun u h => h⟩
theorem PL.mid {s : ByteArray} {y : Pat} {mn : Nat} {mx : Int} {i j c e : Nat} {ts : List Tr} (L : PL s y mn mx i j c ts) (hcj : c < j) (hc : Cut (fun m => Mt s y c m ∧ Left (Mt s y) mn mx (ts.length + 1) m j) c j e) : c < e ∧ Mt s y c e := by
 have e1 : mn - (ts.length + 1) = mn - ts.length - 1 := by omega
 have hc' : Cut (fun m => Mt s y c m ∧ Tm (Mt s y) (mn - ts.length - 1) (less (lessN mx ts.length)) m j) c j e := by
  unfold Left at hc
  rw [e1] at hc
  exact hc
 obtain ⟨h1, h2, h3⟩ := Tm.cutFront (fun _ _ => Mt.le (x := y)) (fun _ _ => Mt.null (x := y)) L.left hcj hc'
 exact ⟨h1, h2⟩
theorem PL.next {s : ByteArray} {y : Pat} {mn : Nat} {mx : Int} {i j c e : Nat} {ts : List Tr} {t : Tr} (L : PL s y mn mx i j c ts) (hcj : c < j) (hc : Cut (fun m => Mt s y c m ∧ Left (Mt s y) mn mx (ts.length + 1) m j) c j e) (ht : Mt s y c e → TT s (.node y) c e t) : c < e ∧ Mt s y c e ∧ PL s y mn mx i j e (ts ++ [t]) := by
 have e1 : mn - (ts.length + 1) = mn - ts.length - 1 := by omega
 have hc' : Cut (fun m => Mt s y c m ∧ Tm (Mt s y) (mn - ts.length - 1) (less (lessN mx ts.length)) m j) c j e := by
  unfold Left at hc
  rw [e1] at hc
  exact hc
 obtain ⟨h1, h2, h3⟩ := Tm.cutFront (fun _ _ => Mt.le (x := y)) (fun _ _ => Mt.null (x := y)) L.left hcj hc'
 refine ⟨h1, h2, ⟨?_, ?_, hc.2.1, ?_⟩⟩
 ·rw [List.length_append, List.length_singleton]
  unfold Left
  rw [e1]
  exact h3
 ·have := L.lo
  rw [List.length_append, List.length_singleton]
  omega
 ·intro u hu
  rw [lapp_snoc]
  refine L.spec _ (.tgo _ _ y c j e t u (Or.inl hcj) hc' (ht h2) ?_)
  rw [List.length_append, List.length_singleton, e1] at hu
  exact hu
theorem PL.done {s : ByteArray} {y : Pat} {mn : Nat} {mx : Int} {i j : Nat} {ts : List Tr} (L : PL s y mn mx i j j ts) (h : mn ≤ ts.length) : TT s (.times mn mx y) i j (lapp ts .lnil) := L.spec _ (.tend _ _ y j j (by omega))
theorem PL.null {s : ByteArray} {y : Pat} {mn : Nat} {mx : Int} {i j : Nat} {ts : List Tr} (L : PL s y mn mx i j j ts) (h : ts.length < mn) : Mt s y j j := by
 obtain ⟨n, a, b, hn⟩ := L.left
 rcases It.still (fun _ _ => Mt.le (x := y)) hn with h0 | h0
 ·omega
 ·exact h0
theorem PL.owe {s : ByteArray} {y : Pat} {mn : Nat} {mx : Int} {i j : Nat} {ts : List Tr} {t : Tr} (L : PL s y mn mx i j j ts) (ht : TT s (.node y) j j t) (k : Nat) (hk : k = mn - ts.length) : TT s (.times mn mx y) i j (lapp (ts ++ List.replicate k t) .lnil) := by
 rw [lapp_app]
 refine L.spec _ ?_
 rw [← hk]
 exact TT.owed ht k _
theorem rangeAll {w : World} {g : Nat} {cs : List Value} {T : TypeId} {fr : Nat × Nat} (h : w.heap[g]? = some (.cells cs.toArray T fr)) : w.rangeAt g 0 cs := by
 intro j v hv
 rw [Lib.cell_of_heap h, List.getElem?_toArray, Nat.zero_add]
 exact hv
theorem ownsRow_lenT {w : World} {e : TypeId} {size n : Nat} {va : Option Addr} {vn vc : Nat} {cs : List Value} (h : w.ownsRow 0 e size (.slice va vn vc) n cs) : vn = n := by
 rcases h.2 with ⟨e, e2⟩ | ⟨g, cap, cur, e, _⟩
 ·cases e; exact e2.symm
 ·cases e; rfl
theorem TV.lone {w : World} {S : Nat → Prop} {t : Tr} {cs : List Value} (h : TV w S true t cs) : TV w S false (lapp [t] .lnil) cs := by
 have := TV.lcons t .lnil cs [] h .lnil
 simpa [lapp] using this
end Go.Proofs.YtnfojonmohijpabGreatDoor
namespace Go.Proofs.YtnfojonmohijpabGreatDoor
open Go.RowKit
theorem TV.fits {w : World} {S : Nat → Prop} {b : Bool} {t : Tr} {cs : List Value} (h : TV w S b t cs) : t.fit ∧ (b = false → t.isR) := by
 induction h with
 | tnil => exact ⟨trivial, fun h => by cases h⟩
 | tbyte => exact ⟨trivial, fun h => by cases h⟩
 | tgrp k x v cs _ _ _ _ ih => exact ⟨ih.1, fun h => by cases h⟩
 | talt p x v cs _ _ _ ih => exact ⟨ih.1, fun h => by cases h⟩
 | tser l v n cs _ _ _ ih => exact ⟨⟨ih.2 rfl, ih.1⟩, fun h => by cases h⟩
 | trep l v n cs _ _ _ ih => exact ⟨⟨ih.2 rfl, ih.1⟩, fun h => by cases h⟩
 | lnil => exact ⟨trivial, fun _ => trivial⟩
 | lcons x r cs ds _ _ i1 i2 => exact ⟨⟨i1.1, i2.1⟩, fun _ => i2.2 rfl⟩
structure ND (w : World) (S : Nat → Prop) (t : Tr) (kind num : Nat) (va : Option Addr) (vn vc : Nat) (row : Tr) (ds : List Value) : Prop where
 kd : kind ≠ 98 ∧ kind < 256
 tv : TV w S false row ds
 own : w.ownsRow 0 75 3 (.slice va vn vc) vn ds
 blk : ∀ g, (Value.slice va vn vc).ownBlock = some g → S g
 len : row.len = t.len
 sz : row.sz ≤ t.sz
 bev : ∀ i, t.bev false i = row.bev (decide (kind = 114)) i ++ (if kind = 103 then [(num, i, i + t.len)] else [])
 calm : ∀ i, t.calm i → row.calm i ∧ (kind = 114 → row.still i)
 has : ∀ k, row.has k → t.has k
 num : kind = 103 → t.has num
theorem TV.node {w : World} {S : Nat → Prop} {t : Tr} {cs : List Value} (h : TV w S true t cs) : (∃ b, t = .tbyte b ∧ cs = [.int .u8 98, .int .i64 b, .slice none 0 0]) ∨ ∃ (kind num : Nat) (va : Option Addr) (vn vc : Nat) (row : Tr) (ds : List Value), cs = [.int .u8 kind, .int .i64 num, .slice va vn vc] ∧ ND w S t kind num va vn vc row ds := by
 cases h with
 | tbyte b hb => exact Or.inl ⟨b, rfl, rfl⟩
 | tnil => exact Or.inr ⟨101, 0, none, 0, 0, .lnil, [], rfl, by decide, .lnil, World.ownsRow_nil _ _ _ _, by simp [Value.ownBlock], rfl, by simp [Tr.sz], fun _ => rfl, fun _ _ => ⟨trivial, fun h => by cases h⟩, fun _ h => h.elim, fun h => by cases h⟩
 | tgrp k x v cs h9 hx ho hp =>
  obtain ⟨a, b, c, rfl⟩ := ownsRow_sl ho
  obtain rfl := ownsRow_lenT ho
  exact Or.inr ⟨103, k, a, 1, c, .lcons x .lnil, cs, rfl, by decide, by simpa using TV.lcons x .lnil cs [] hx .lnil, ho, hp, by simp [Tr.len], by simp only [Tr.sz]; omega, fun i => by simp [Tr.bev, Tr.len], fun i h => ⟨⟨h, trivial⟩, fun h => by cases h⟩, fun _ h => h.elim Or.inr fun h => h.elim, fun _ => Or.inl rfl⟩
 | talt p x v cs hx ho hp =>
  obtain ⟨a, b, c, rfl⟩ := ownsRow_sl ho
  obtain rfl := ownsRow_lenT ho
  exact Or.inr ⟨97, p, a, 1, c, .lcons x .lnil, cs, rfl, by decide, by simpa using TV.lcons x .lnil cs [] hx .lnil, ho, hp, by simp [Tr.len], by simp only [Tr.sz]; omega, fun i => by simp [Tr.bev], fun i h => ⟨⟨h, trivial⟩, fun h => by cases h⟩, fun _ h => h.elim id fun h => h.elim, fun h => by cases h⟩
 | tser l v n cs hl ho hp =>
  obtain ⟨a, b, c, rfl⟩ := ownsRow_sl ho
  obtain rfl := ownsRow_lenT ho
  exact Or.inr ⟨115, 0, a, b, c, l, cs, rfl, by decide, hl, ho, hp, rfl, by simp only [Tr.sz]; omega, fun i => by simp [Tr.bev], fun i h => ⟨h, fun h => by cases h⟩, fun _ h => h, fun h => by cases h⟩
 | trep l v n cs hl ho hp =>
  obtain ⟨a, b, c, rfl⟩ := ownsRow_sl ho
  obtain rfl := ownsRow_lenT ho
  exact Or.inr ⟨114, 0, a, b, c, l, cs, rfl, by decide, hl, ho, hp, rfl, by simp only [Tr.sz]; omega, fun i => by simp [Tr.bev], fun i h => ⟨h.1, fun _ => h.2⟩, fun _ h => h, fun h => by cases h⟩
def spW (l : List Int) : List Value := l.map fun x => .int .i64 x
theorem spW_set (l : List Int) (k : Nat) (x : Int) : (spW l).set k (.int .i64 x) = spW (l.set k x) := by
 simp [spW, List.map_set]
def NoteOk (n : Nat) : Prop := ∀ (t : Tr), t.sz ≤ n → ∀ (w : World) (S : Nat → Prop) (tb M cap : Nat) (L : List Int) (i : Nat) (cs : List Value), TV w S true t cs → (∀ g, S g → g ≠ tb) → w.ownsRow 0 3 1 (.slice (some ⟨tb, 0, none⟩) M cap) M (spW L) → M ≤ 1000 →
 (∀ k, t.has k → 2 * k + 1 < M) → t.calm i → i + t.len ≤ 100 →
 Calls Tryz.prog 75 #[.slice (some ⟨tb, 0, none⟩) M cap, .agg cs.toArray, .int .i64 i] w fun e w' => e = .returned (.int .i64 ((i + t.len : Nat) : Int)) ∧ w'.ownsRow 0 3 1 (.slice (some ⟨tb, 0, none⟩) M cap) M (spW (nts L (t.bev false i))) ∧ Keeps [tb] w w'
structure NR (W wr : World) (S : Nat → Prop) (tb M cap : Nat) (row : Tr) (br : Bool) (goal : List Int) (last m e : Nat) (L : List Int) : Prop where
 own : wr.ownsRow 0 3 1 (.slice (some ⟨tb, 0, none⟩) M cap) M (spW L)
 txt : nts L ((tdrop m row).bev br e) = goal
 pos : e + (tdrop m row).len = last
 calm : (tdrop m row).calm e
 still : br = true → (tdrop m row).still e
 keep : Keeps [tb] W wr
theorem tdrop_has {k : Nat} : ∀ {r : Tr} {m : Nat}, (tdrop m r).has k → r.has k
 | r, 0, h => by cases r <;> exact h
 | .lcons y r, m + 1, h => Or.inr (tdrop_has (r := r) (m := m) h)
 | .lnil, _ + 1, h => h.elim
 | .tnil, _ + 1, h => h.elim
 | .tbyte _, _ + 1, h => h.elim
 | .tgrp _ _, _ + 1, h => h.elim
 | .talt _ _, _ + 1, h => h.elim
 | .tser _, _ + 1, h => h.elim
 | .trep _, _ + 1, h => h.elim
theorem treeC3 {w : World} {g : Nat} {a b c : Value} {T : TypeId} (h : w.heap[g]? = some (.cells #[a, b, c] T (0, 0))) : w.cell? ⟨g, 0, none⟩ = some a ∧ w.cell? ⟨g, 1, none⟩ = some b ∧ w.cell? ⟨g, 2, none⟩ = some c := by
 refine ⟨?_, ?_, ?_⟩ <;> (rw [Lib.cell_of_heap h]; rfl)
set_option maxRecDepth 100000 in
set_option maxHeartbeats 4000000 in
theorem note_step (n : Nat) (IH : NoteOk n) : NoteOk (n + 1) := by
 intro t ht w S tb M cap L i cs htv hSt hown hM hhas hcalm hlen
 have hlt : tb < w.heap.size := (World.ownsRow.lt hown tb rfl).2
 have hi0 : (0 : Int) ≤ (i : Int) := by omega
 have hi100 : (i : Int) ≤ 100 := by omega
 rcases htv.node with ⟨b, rfl, rfl⟩ | ⟨kind, num, va, vn, vc, row, ds, rfl, N⟩
 ·have hkE : Keeps [tb] w (w.alloc (.cells #[.int .u8 98, .int .i64 (b : Int), .slice none 0 0] 75)) := (Keeps.refl [tb] w).alloc _
  have hoE := hown.keep ((Keeps.refl [] w).alloc (.cells #[.int .u8 98, .int .i64 (b : Int), .slice none 0 0] 75)) (by simp)
  clear htv hSt hhas hcalm
  go_enter Tryz.func75, Tryz.ntmps75
  go_wp2_with fail
  go_ret
  exact ⟨ret_int (by simp [Tr.len]), hoE, hkE⟩
 have hk98 : ((kind : Int) == 98) = false := by simpa using (by have := N.kd; omega : ¬ (kind : Int) = 98)
 have hWk := (Keeps.refl [] w).alloc (.cells #[.int .u8 (kind : Int), .int .i64 (num : Int), .slice va vn vc] 75)
 have hnew := heap_alloc_new w (.cells #[.int .u8 (kind : Int), .int .i64 (num : Int), .slice va vn vc] 75)
 have hown1 := hown.keep hWk (by simp)
 have HN : Hid (ND w S t kind num va vn vc row ds) := N
 obtain ⟨hcl, _, hat⟩ := N.tv.tl_at
 have hvn : vn = (tl row).length := by have := N.own.1; omega
 have HVN : Hid (vn = (tl row).length) := hvn
 have hisR := N.tv.fits.2 rfl
 have HAT : Hid (∀ (i : Nat) (x : Tr), (tl row)[i]? = some x → ∃ es, TV w S true x es ∧ (∀ (j : Nat) (u : Value), es[j]? = some u → ds[i * 3 + j]? = some u) ∧ x.sz < row.sz ∧ (row.thin → x.thin)) := hat
 have hvm : (vn : Int) ≤ 9223372036854775807 := by
  rcases N.own.2 with ⟨_, e⟩ | ⟨g, cap, cur, _, _, _, h1, h2, _⟩
  ·omega
  ·unfold maxLen at h2; omega
 have HSZ : Hid (row.sz ≤ n + 1) := by have := N.sz; show row.sz ≤ n + 1; omega
 have HLN : Hid (i + row.len ≤ 100 ∧ row.len = t.len) := ⟨by rw [N.len]; exact hlen, N.len⟩
 have hgnt : w.heap.size ≠ tb := by omega
 have HR0 : Hid (NR (w.alloc (.cells #[.int .u8 (kind : Int), .int .i64 (num : Int), .slice va vn vc] 75)) (w.alloc (.cells #[.int .u8 (kind : Int), .int .i64 (num : Int), .slice va vn vc] 75)) S tb M cap row (decide (kind = 114)) (nts L (row.bev (decide (kind = 114)) i)) (i + row.len) 0 i L) := ⟨hown1, rfl, rfl, (N.calm i hcalm).1, fun h => (N.calm i hcalm).2 (of_decide_eq_true h), Keeps.refl _ _⟩
 have HB : Hid (t.bev false i = row.bev (decide (kind = 114)) i ++ (if kind = 103 then [(num, i, i + t.len)] else [])) := N.bev i
 have HHAS : Hid (∀ k, t.has k → 2 * k + 1 < M) := hhas
 clear N hcl hat hvn htv hcalm hown hown1 hhas hlen ht
 go_enter Tryz.func75, Tryz.ntmps75
 go_upto_region 1 with (fail)
 generalize w.alloc (.cells #[.int .u8 (kind : Int), .int .i64 (num : Int), .slice va vn vc] 75) = W at *
 obtain ⟨gn, hgn⟩ : ∃ gn, gn = w.heap.size := ⟨_, rfl⟩
 rw [← hgn] at hnew hgnt ⊢
 have HGN : Hid (gn = w.heap.size) := hgn
 clear hgn
 have HNW : Hid (W.heap[gn]? = some (.cells #[.int .u8 (kind : Int), .int .i64 (num : Int), .slice va vn vc] 75 (0, 0))) := hnew
 obtain ⟨c0, c1, c2⟩ := treeC3 hnew
 clear hnew
 go_upto_region 5 with (fail)
 clear c0 c1 c2
 go_loopw [7, 20] (fun q1 q2 wr => ∃ (m e : Nat) (L' : List Int), m ≤ vn ∧ q1 = .int .i64 e ∧ q2 = .int .i64 m ∧ NR W wr S tb M cap row (decide (kind = 114)) (nts L (row.bev (decide (kind = 114)) i)) (i + row.len) m e L') (fun _ q2 _ => vn - (intOf q2).toNat)
 case atStart => exact ⟨0, i, L, Nat.zero_le _, rfl, rfl, HR0.out⟩
 case round =>
  obtain ⟨m, e, L', hm, rfl, rfl, R⟩ := hrel
  have hgW : gn < W.heap.size := (Array.getElem?_eq_some_iff.1 HNW.out).1
  have hgr := (R.keep.block gn hgW (by simp; exact hgnt)).trans HNW.out
  obtain ⟨c0, c1, c2⟩ := treeC3 hgr
  by_cases hml : m < vn
  rotate_left
  ·have hme : m = vn := by omega
   have hnm : ¬ (m : Int) < (vn : Int) := by omega
   have hend : tdrop m row = .lnil := by rw [hme, HVN.out]; exact tdrop_end hisR
   have HLG : Hid (L' = nts L (row.bev (decide (kind = 114)) i) ∧ e = i + row.len) := by
    have h1 := R.txt
    have h2 := R.pos
    rw [hend] at h1 h2
    exact ⟨h1, by simpa [Tr.len] using h2⟩
   have hoR := R.own
   have hkR := (hWk.mono (by simp : ∀ x, x ∈ ([] : List Nat) → x ∈ [tb])).trans R.keep
   clear R hme hml hm hend
   by_cases h103 : kind = 103
   ·have hk103 : ((kind : Int) == 103) = true := by simpa using (by omega : (kind : Int) = 103)
    have hnb : 2 * num + 1 < M := HHAS.out num (HN.out.num h103)
    have w1 : IntKind.i64.wrap (2 * (num : Int)) = 2 * (num : Int) := wrap_small (by omega) (by omega)
    have w2' : IntKind.i64.wrap (2 * (num : Int) + 1) = 2 * (num : Int) + 1 := wrap_small (by omega) (by omega)
    have t2 : (2 * (num : Int)).toNat = 2 * num := by omega
    have t1 : (2 * (num : Int) + 1).toNat = 2 * num + 1 := by omega
    have HFIN : Hid (t.bev false i = row.bev (decide (kind = 114)) i ++ [(num, i, i + t.len)]) := by show t.bev false i = _; rw [HB.out, if_pos h103]
    go_upto_region 12 with (fail)
    clear c0 c1 c2
    have hkD : Keeps [] wr wr.drew := (Keeps.refl [] wr).drewN 1
    have hoD := hoR.keep hkD (by simp)
    have hS0 : wr.drew.heap[gn]? = some (.cells #[.int .u8 (kind : Int), .int .i64 (num : Int), .slice va vn vc] 75 (0, 0)) := hgr
    have hlD : L'.length = M := by have := hoR.1; simpa [spW] using this
    refine wp_region_held (S := fun X' : World => X'.heap[gn]? = some (.cells #[.int .u8 (kind : Int), .int .i64 (num : Int), .slice va vn vc] 75 (0, 0))) (by kernel_rfl) ?_
    change wpAnyH _ _ _ _ _ _ _ _ (World.drew _)
    have HKD : Hid (Keeps [tb] w wr.drew) := hkR.trans (hkD.mono (by simp))
    clear hgr hkD hkR hoR
    generalize wr.drew = X0 at *
    refine wpAnyH_tk 0 _ (some 41) (.slice (some ⟨tb, 0, none⟩) M cap) rfl rfl (by kernel_rfl) (by kernel_rfl) (by kernel_rfl) (fun _ _ _ h => h) (Or.inl ⟨by rfl, fun X hX => by (go_simp)⟩) hS0 ?_
    simp only [Act.put, List.setIfInBounds_toArray, List.set_cons_zero, List.set_cons_succ]
    refine wpAnyH_tk 1 _ (some 42) (.pointer (some ⟨gn, 1, none⟩)) rfl rfl (by kernel_rfl) (by kernel_rfl) (by kernel_rfl) (fun _ _ _ h => h) (Or.inl ⟨by rfl, fun X hX => by (go_simp)⟩) hS0 ?_
    simp only [Act.put, List.setIfInBounds_toArray, List.set_cons_zero, List.set_cons_succ]
    refine wpAnyH_tk 2 _ (some 43) (.int .i64 (num : Int)) rfl rfl (by kernel_rfl) (by kernel_rfl) (by kernel_rfl) (fun _ _ _ h => h) (Or.inl ⟨by rfl, fun X hX => by (obtain ⟨r0, r1, r2⟩ := treeC3 hX; go_simp)⟩) hS0 ?_
    simp only [Act.put, List.setIfInBounds_toArray, List.set_cons_zero, List.set_cons_succ]
    refine wpAnyH_tk 3 _ (some 44) (.int .i64 (2 * (num : Int))) rfl rfl (by kernel_rfl) (by kernel_rfl) (by kernel_rfl) (fun _ _ _ h => h) (Or.inl ⟨by rfl, fun X hX => by (go_simp)⟩) hS0 ?_
    simp only [Act.put, List.setIfInBounds_toArray, List.set_cons_zero, List.set_cons_succ]
    refine wpAnyH_tk 4 _ (some 45) (.slice (some ⟨tb, 0, none⟩) M cap) rfl rfl (by kernel_rfl) (by kernel_rfl) (by kernel_rfl) (fun _ _ _ h => h) (Or.inl ⟨by rfl, fun X hX => by (go_simp)⟩) hS0 ?_
    simp only [Act.put, List.setIfInBounds_toArray, List.set_cons_zero, List.set_cons_succ]
    refine wpAnyH_tk 5 _ (some 46) (.pointer (some ⟨gn, 1, none⟩)) rfl rfl (by kernel_rfl) (by kernel_rfl) (by kernel_rfl) (fun _ _ _ h => h) (Or.inl ⟨by rfl, fun X hX => by (go_simp)⟩) hS0 ?_
    simp only [Act.put, List.setIfInBounds_toArray, List.set_cons_zero, List.set_cons_succ]
    refine wpAnyH_tk 6 _ (some 47) (.int .i64 (num : Int)) rfl rfl (by kernel_rfl) (by kernel_rfl) (by kernel_rfl) (fun _ _ _ h => h) (Or.inl ⟨by rfl, fun X hX => by (obtain ⟨r0, r1, r2⟩ := treeC3 hX; go_simp)⟩) hS0 ?_
    simp only [Act.put, List.setIfInBounds_toArray, List.set_cons_zero, List.set_cons_succ]
    refine wpAnyH_tk 7 _ (some 48) (.int .i64 (2 * (num : Int))) rfl rfl (by kernel_rfl) (by kernel_rfl) (by kernel_rfl) (fun _ _ _ h => h) (Or.inl ⟨by rfl, fun X hX => by (go_simp)⟩) hS0 ?_
    simp only [Act.put, List.setIfInBounds_toArray, List.set_cons_zero, List.set_cons_succ]
    refine wpAnyH_tk 8 _ (some 49) (.int .i64 (2 * (num : Int) + 1)) rfl rfl (by kernel_rfl) (by kernel_rfl) (by kernel_rfl) (fun _ _ _ h => h) (Or.inl ⟨by rfl, fun X hX => by (go_simp)⟩) hS0 ?_
    simp only [Act.put, List.setIfInBounds_toArray, List.set_cons_zero, List.set_cons_succ]
    refine wpAnyH_tk 9 _ (some 50) (.int .i64 (i : Int)) rfl rfl (by kernel_rfl) (by kernel_rfl) (by kernel_rfl) (fun _ _ _ h => h) (Or.inl ⟨by rfl, fun X hX => by (go_simp)⟩) hS0 ?_
    simp only [Act.put, List.setIfInBounds_toArray, List.set_cons_zero, List.set_cons_succ]
    refine wpAnyH_tk 10 _ (some 51) (.int .i64 (e : Int)) rfl rfl (by kernel_rfl) (by kernel_rfl) (by kernel_rfl) (fun _ _ _ h => h) (Or.inl ⟨by rfl, fun X hX => by (go_simp)⟩) hS0 ?_
    simp only [Act.put, List.setIfInBounds_toArray, List.set_cons_zero, List.set_cons_succ]
    refine wpAnyH_tk 11 _ (some 52) (.pointer (some ⟨tb, 2 * num, none⟩)) rfl rfl (by kernel_rfl) (by kernel_rfl) (by kernel_rfl) (fun _ _ _ h => h) (Or.inl ⟨by rfl, fun X hX => by (go_simp; intro hq; exfalso; omega)⟩) hS0 ?_
    simp only [Act.put, List.setIfInBounds_toArray, List.set_cons_zero, List.set_cons_succ]
    have ca : ∃ vz, X0.cell? ⟨tb, 2 * num, none⟩ = some vz := ⟨_, (World.ownsRow.cellAt hoD (2 * num) (by omega)).trans (List.getElem?_eq_getElem (by simp only [spW, List.length_map]; omega))⟩
    obtain ⟨vz, ca⟩ := ca
    have fa := World.ownsRow.frozenAt hoD (2 * num)
    have ho1 : (X0.setCell ⟨tb, 2 * num, none⟩ (.int .i64 (i : Int))).ownsRow 0 3 1 (.slice (some ⟨tb, 0, none⟩) M cap) M (spW (L'.set (2 * num) (i : Int))) := by
     have := (World.ownsRow.stored hoD (2 * num) (.int .i64 (i : Int))).1
     rw [spW_set] at this
     exact this
    have hk1 : Keeps [tb] X0 (X0.setCell ⟨tb, 2 * num, none⟩ (.int .i64 (i : Int))) := (Keeps.refl [tb] X0).setCell (p := ⟨tb, 2 * num, none⟩) (by simp) _
    have hS1 : (X0.setCell ⟨tb, 2 * num, none⟩ (.int .i64 (i : Int))).heap[gn]? = some (.cells #[.int .u8 (kind : Int), .int .i64 (num : Int), .slice va vn vc] 75 (0, 0)) := (hk1.block gn (Array.getElem?_eq_some_iff.1 hS0).1 (by simp; exact hgnt)).trans hS0
    refine wpAnyH_ready (rs := [12]) (by kernel_rfl) (by simp) ?_
    refine AllReadyH.cons rfl (fun K hK => ?_) AllReadyH.nil
    go_simp
    refine hK.out _ _ hS1 (fun _ => ?_)
    clear hK K ca fa hS0
    have HKD1 : Hid (Keeps [tb] w (X0.setCell ⟨tb, 2 * num, none⟩ (.int .i64 (i : Int)))) := HKD.out.trans hk1
    clear hk1 hoD
    generalize X0.setCell ⟨tb, 2 * num, none⟩ (.int .i64 (i : Int)) = X1 at *
    refine wpAnyH_tk 13 _ (some 53) (.pointer (some ⟨tb, 2 * num + 1, none⟩)) rfl rfl (by kernel_rfl) (by kernel_rfl) (by kernel_rfl) (fun _ _ _ h => h) (Or.inl ⟨by rfl, fun X hX => by (go_simp; intro hq; exfalso; omega)⟩) hS1 ?_
    simp only [Act.put, List.setIfInBounds_toArray, List.set_cons_zero, List.set_cons_succ]
    have ca : ∃ vz, X1.cell? ⟨tb, 2 * num + 1, none⟩ = some vz := ⟨_, (World.ownsRow.cellAt ho1 (2 * num + 1) (by omega)).trans (List.getElem?_eq_getElem (by simp only [spW, List.length_map, List.length_set]; omega))⟩
    obtain ⟨vz2, ca⟩ := ca
    have fa := World.ownsRow.frozenAt ho1 (2 * num + 1)
    have ho2 : (X1.setCell ⟨tb, 2 * num + 1, none⟩ (.int .i64 (e : Int))).ownsRow 0 3 1 (.slice (some ⟨tb, 0, none⟩) M cap) M (spW ((L'.set (2 * num) (i : Int)).set (2 * num + 1) (e : Int))) := by
     have := (World.ownsRow.stored ho1 (2 * num + 1) (.int .i64 (e : Int))).1
     rw [spW_set] at this
     exact this
    have hk2 : Keeps [tb] X1 (X1.setCell ⟨tb, 2 * num + 1, none⟩ (.int .i64 (e : Int))) := (Keeps.refl [tb] X1).setCell (p := ⟨tb, 2 * num + 1, none⟩) (by simp) _
    have hS2 : (X1.setCell ⟨tb, 2 * num + 1, none⟩ (.int .i64 (e : Int))).heap[gn]? = some (.cells #[.int .u8 (kind : Int), .int .i64 (num : Int), .slice va vn vc] 75 (0, 0)) := (hk2.block gn (Array.getElem?_eq_some_iff.1 hS1).1 (by simp; exact hgnt)).trans hS1
    refine wpAnyH_ready (rs := [14]) (by kernel_rfl) (by simp) ?_
    refine AllReadyH.cons rfl (fun K hK => ?_) AllReadyH.nil
    go_simp
    refine hK.out _ _ hS2 (fun _ => ?_)
    clear hK K ca fa hS1
    refine wpAnyH_done (by kernel_rfl) ?_ _
    have hkE := HKD1.out.trans hk2
    have hoE : (X1.setCell ⟨tb, 2 * num + 1, none⟩ (.int .i64 (e : Int))).ownsRow 0 3 1 (.slice (some ⟨tb, 0, none⟩) M cap) M (spW (nts L (t.bev false i))) := by
     rw [HFIN.out, nts_app, ← HLG.out.1, ← HLN.out.2, ← HLG.out.2]
     exact ho2
    clear hS2 hk2 ho1 ho2
    go_wp2_with fail
    go_ret
    exact ⟨ret_int (by have h1 := HLG.out.2; have h2 := HLN.out.2; omega), hoE, hkE⟩
   ·have hk103 : ((kind : Int) == 103) = false := by simpa using (by omega : ¬ (kind : Int) = 103)
    have hoE : wr.ownsRow 0 3 1 (.slice (some ⟨tb, 0, none⟩) M cap) M (spW (nts L (t.bev false i))) := by
     rw [HB.out, if_neg h103, List.append_nil, ← HLG.out.1]
     exact hoR
    clear hoR hgr
    go_wp2_with fail
    go_ret
    exact ⟨ret_int (by have h1 := HLG.out.2; have h2 := HLN.out.2; omega), hoE, hkR⟩
  obtain ⟨x, hx⟩ : ∃ x, (tl row)[m]? = some x := ⟨_, List.getElem?_eq_getElem (by have := HVN.out; omega)⟩
  obtain ⟨es, hes, hdc, hxsz, _⟩ := HAT.out m x hx
  obtain ⟨k1, n1, da, dn, dc, rfl⟩ := hes.form
  obtain ⟨gv, vc', hv, _, hgv⟩ := HN.out.own.form (by omega)
  cases hv
  have hgvt := hSt gv (HN.out.blk gv rfl)
  have hkW : Keeps [tb] w wr := (hWk.mono (by simp : ∀ x, x ∈ ([] : List Nat) → x ∈ [tb])).trans R.keep
  have hownT := HN.out.own.keep hkW (by intro g hg; simp only [Value.ownBlock, Option.some.injEq] at hg; subst hg; simp; exact hgvt)
  have hrg : wr.rangeAt gv (m * 3) [.int .u8 k1, .int .i64 n1, .slice da dn dc] := fun j u hu => by
   have hj : j < 3 := (List.getElem?_eq_some_iff.1 hu).1
   exact (World.ownsRow.cellAt hownT (m * 3 + j) (by omega)).trans (hdc j u hu)
  have hi3 : (Tryz.prog.info? 75).map (·.size) = some 3 := by kernel_rfl
  have hm0 : (0 : Int) ≤ (m : Int) := by omega
  have hm1 : (m : Int) < (vn : Int) := by omega
  have HM : Hid (m < vn) := hml
  have htd := tdrop_at hisR hx
  have r1 := R.txt
  have r2 := R.pos
  have r3 := R.calm
  have r4 := R.still
  rw [htd] at r1 r2 r3 r4
  have hR' := tdrop_isR (m := m + 1) hisR
  have HXH : Hid (∀ k, x.has k → 2 * k + 1 < M) := fun k hk => HHAS.out k (HN.out.has k (tdrop_has (m := m) (by rw [htd]; exact Or.inl hk)))
  have HR1 : Hid (nts L' ((Tr.lcons x (tdrop (m + 1) row)).bev (decide (kind = 114)) e) = nts L (row.bev (decide (kind = 114)) i)) := r1
  have HR2 : Hid (e + (x.len + (tdrop (m + 1) row).len) = i + row.len) := r2
  have HR3 : Hid (x.calm e ∧ (tdrop (m + 1) row).calm (e + x.len)) := r3
  have HR4 : Hid (decide (kind = 114) = true → (x.len = 0 → (tdrop (m + 1) row).alike e (x.evs e)) ∧ (tdrop (m + 1) row).still (e + x.len)) := r4
  have HR5 : Hid ((tdrop (m + 1) row).isR) := hR'
  have HOR : Hid (wr.ownsRow 0 3 1 (.slice (some ⟨tb, 0, none⟩) M cap) M (spW L')) := R.own
  have HRK : Hid (Keeps [tb] W wr) := R.keep
  have hq0 : (wr.alloc (.cells #[.int .u8 0, .int .i64 0, .slice none 0 0] 75)).heap[wr.heap.size]? = some (.cells #[.int .u8 0, .int .i64 0, .slice none 0 0] 75 (0, 0)) := heap_alloc_new wr _
  have hk1 : Keeps [] wr ((wr.alloc (.cells #[.int .u8 0, .int .i64 0, .slice none 0 0] 75)).setRow wr.heap.size #[.int .u8 k1, .int .i64 n1, .slice da dn dc]) := ((Keeps.refl [] wr).alloc _).setRow (Or.inr (Nat.le_refl _)) _
  have hq1 : ((wr.alloc (.cells #[.int .u8 0, .int .i64 0, .slice none 0 0] 75)).setRow wr.heap.size #[.int .u8 k1, .int .i64 n1, .slice da dn dc]).heap[wr.heap.size]? = some (.cells #[.int .u8 k1, .int .i64 n1, .slice da dn dc] 75 (0, 0)) := setRow_heap _ _ _ _ _ _ hq0
  have HTV : Hid (TV w S true x [.int .u8 k1, .int .i64 n1, .slice da dn dc]) := hes
  have HXS : Hid (x.sz < row.sz) := hxsz
  clear R hm hml hx r1 r2 r3 r4 hdc hes htd hR' hxsz c0 c1 c2 hgr hownT
  go_upto_region 7 with (first | (refine wpList_load_mid rfl 75 _ rfl gv (m * 3) rfl _ _ hrg Tryz.underlying75 rfl hi3 ?_) | (refine wpList_store_row rfl 75 _ _ rfl wr.heap.size #[.int .u8 k1, .int .i64 n1, .slice da dn dc] rfl rfl _ _ hq0 (info3 _ _ _) rfl (all3 rfl rfl rfl) ?_; generalize (wr.alloc (.cells #[.int .u8 0, .int .i64 0, .slice none 0 0] 75)).setRow wr.heap.size #[.int .u8 k1, .int .i64 n1, .slice da dn dc] = w2 at *))
  obtain ⟨gq, hgq⟩ : ∃ g, g = wr.heap.size := ⟨_, rfl⟩
  rw [← hgq] at hq1 ⊢
  clear hgq hq0 hrg
  have hkW2 : Keeps [tb] w w2 := hkW.trans (hk1.mono (by simp))
  have hlx : e + x.len ≤ 100 := by have h1 := HR2.out; have h2 := HLN.out.1; omega
  go_wp2_with (first | (refine wpList_load_row rfl 75 _ rfl gq rfl _ _ _ _ hq1 Tryz.underlying75 rfl (info3 _ _ _) ?_))
  refine (IH x (by have h1 := HXS.out; have h2 := HSZ.out; omega) w2 S tb M cap L' e _ (HTV.out.keep hkW2 (by intro g hg; simp; exact hSt g hg)) hSt (HOR.out.keep hk1 (by simp)) hM HXH.out HR3.out.1 hlx).mono ?_
  rintro e' w3 ⟨rfl, hown3, hk3⟩
  have hkW3 : Keeps [tb] W w3 := (HRK.out.trans (hk1.mono (by simp))).trans hk3
  have hg3 := (hkW3.block gn hgW (by simp; exact hgnt)).trans HNW.out
  obtain ⟨d0, d1, d2⟩ := treeC3 hg3
  have hcast : ((e + x.len : Nat) : Int) = (e : Int) + (x.len : Int) := by omega
  clear hq1 hk1 hk3 hkW2 hkW d1 d2
  by_cases h114 : kind = 114
  ·have hk114 : ((kind : Int) == 114) = true := by simpa using (by omega : (kind : Int) = 114)
   by_cases hx0 : x.len = 0
   ·have hee : (((e + x.len : Nat) : Int) == (e : Int)) = true := by simpa using (by omega : ((e + x.len : Nat) : Int) = (e : Int))
    have hr0 := (alike_end (k := 0) HR5.out ((HR4.out (by simpa using h114)).1 hx0)).1
    have hk103 : ((kind : Int) == 103) = false := by simpa using (by omega : ¬ (kind : Int) = 103)
    have HEN : Hid (((e + x.len : Nat) : Int) = ((i + t.len : Nat) : Int)) := by
     have h1 := HR2.out
     have h2 := HLN.out.2
     show ((e + x.len : Nat) : Int) = ((i + t.len : Nat) : Int)
     omega
    have hoE : w3.ownsRow 0 3 1 (.slice (some ⟨tb, 0, none⟩) M cap) M (spW (nts L (t.bev false i))) := by
     have h1 := HR1.out
     rw [Tr.bev, if_pos ⟨by simpa using h114, hx0⟩, List.append_nil] at h1
     rw [HB.out, if_neg (by omega), List.append_nil, ← h1]
     exact hown3
    have hkE : Keeps [tb] w w3 := (hWk.mono (by simp : ∀ x, x ∈ ([] : List Nat) → x ∈ [tb])).trans hkW3
    clear hown3 hr0 hg3
    go_wp2_with fail
    go_ret
    exact ⟨ret_int (by have := HEN.out; omega), hoE, hkE⟩
   ·have hee : (((e + x.len : Nat) : Int) == (e : Int)) = false := by simpa using (by omega : ¬ ((e + x.len : Nat) : Int) = (e : Int))
    have H114 : Hid (kind = 114) := h114
    clear h114
    have hRn : NR W w3 S tb M cap row (decide (kind = 114)) (nts L (row.bev (decide (kind = 114)) i)) (i + row.len) (m + 1) (e + x.len) (nts L' (x.bev false e)) := by
     refine ⟨hown3, ?_, by have h1 := HR2.out; omega, HR3.out.2, fun h => (HR4.out h).2, hkW3⟩
     have h1 := HR1.out
     rw [Tr.bev, if_neg (by intro hh; first | exact hx0 hh.2 | exact h114 (of_decide_eq_true hh.1)), nts_app] at h1
     exact h1
    clear hown3 hkW3 hg3
    go_wp2_with fail
    first
     | exact ⟨⟨m + 1, e + x.len, _, HM.out, rfl, by go_num, hRn⟩, by have := HM.out; simp [intOf]; omega⟩
     | (go_roundw
        case rel => exact ⟨m + 1, e + x.len, _, HM.out, rfl, by go_num, hRn⟩
        case measure => have := HM.out; simp [intOf]; omega)
  ·have hk114 : ((kind : Int) == 114) = false := by simpa using (by omega : ¬ (kind : Int) = 114)
   have hRn : NR W w3 S tb M cap row (decide (kind = 114)) (nts L (row.bev (decide (kind = 114)) i)) (i + row.len) (m + 1) (e + x.len) (nts L' (x.bev false e)) := by
    refine ⟨hown3, ?_, by have h1 := HR2.out; omega, HR3.out.2, fun h => (HR4.out h).2, hkW3⟩
    have h1 := HR1.out
    rw [Tr.bev, if_neg (by intro hh; first | exact hx0 hh.2 | exact h114 (of_decide_eq_true hh.1)), nts_app] at h1
    exact h1
   clear hown3 hkW3 hg3
   go_wp2_with fail
   first
    | exact ⟨⟨m + 1, e + x.len, _, HM.out, rfl, by go_num, hRn⟩, by have := HM.out; simp [intOf]; omega⟩
    | (go_roundw
       case rel => exact ⟨m + 1, e + x.len, _, HM.out, rfl, by go_num, hRn⟩
       case measure => have := HM.out; simp [intOf]; omega)
end Go.Proofs.YtnfojonmohijpabGreatDoor
