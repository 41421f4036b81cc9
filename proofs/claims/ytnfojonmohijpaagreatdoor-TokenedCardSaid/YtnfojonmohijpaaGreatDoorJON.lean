/-
  DERIVED. Plain mathematics: patterns that are read have no more than 61 ways side by side; so have the trees' places two digits at most; what Match answers. Nothing of the program stands here.
-/
import Derived.Test.YtnfojonmohijpaaGreatDoorJNS
import Derived.Test.YtnfojonmohijpaaGreatDoorJNQ
import Derived.Laws.StructEq
import Derived.Lib.SliceRun
import Derived.Lib.SlBuf
import Derived.Test.YtnfojonmohijpaaGreatDoorJRU
import Derived.Test.YtnfojonmohijpaaGreatDoorJNJ
set_option linter.unusedSimpArgs false
set_option linter.unusedVariables false
namespace Go.Proofs.YtnfojonmohijpaaGreatDoor
def Pat.thin : Pat → Prop
 | .set _ => True
 | .grp _ x => x.thin
 | .rep _ _ x => x.thin
 | .pnil => True
 | .pcons x r => x.thin ∧ r.thin
 | .wone x => x.thin
 | .wcons x r => (wl r).length ≤ 98 ∧ x.thin ∧ r.thin
theorem G.thin {s : ByteArray} {k : Kd} {d g i : Nat} {q : R (Pat × Nat)} (h : G s k d g i q) : d ≤ 6 → g ≤ 9 → i ≤ s.size → s.size ≤ 60 → ∀ x g1 j, q = .ok (x, g1) j → g ≤ g1 ∧ g1 ≤ 9 ∧ x.fair g1 ∧ x.thin ∧ (k = .ways → (wl x).length ≤ j - i + 1) := by
 induction h with
 | one d g i g1 j x _ e ih =>
  intro hd hg hi hs x' g1' j' e'
  cases e'
  obtain ⟨a1, a2, a3, a4, _⟩ := ih hd hg hi hs x g1 j rfl
  exact ⟨a1, a2, a3, a4, fun _ => by simp [wl]⟩
 | more d g i g1 j x q hx e hq ih ih2 =>
  intro hd hg hi hs x' g1' j' e'
  cases q with
  | bad l => cases e'
  | ok y l =>
   obtain ⟨a1, a2, a3, a4, _⟩ := ih hd hg hi hs x g1 j rfl
   have o1 := hx.okb x g1 j rfl
   have hj : j < s.size := at'_nn (by omega)
   obtain ⟨b1, b2, b3, b4, b5⟩ := ih2 hd a2 (by omega) hs y.1 y.2 l rfl
   have o2 := hq.okb y.1 y.2 l rfl
   have hb5 := b5 rfl
   have hl := o2.2.1 (by omega)
   cases e'
   refine ⟨by omega, b2, ⟨a3.up b1, b3⟩, ⟨by omega, a4, b4⟩, fun _ => ?_⟩
   simp only [wl, List.length_cons]
   omega
 | wbad => intro _ _ _ _ x' g1' j' e'; cases e'
 | nil d g i e => intro hd hg hi hs x' g1' j' e'; cases e'; exact ⟨Nat.le_refl _, hg, trivial, trivial, fun h => by cases h⟩
 | cons d g i g1 j x q e hx hq ih ih2 =>
  intro hd hg hi hs x' g1' j' e'
  cases q with
  | bad l => cases e'
  | ok y l =>
   obtain ⟨a1, a2, a3, a4, _⟩ := ih hd hg hi hs x g1 j rfl
   have o1 := hx.okb x g1 j rfl
   obtain ⟨b1, b2, b3, b4, _⟩ := ih2 hd a2 (o1.2.1 hi) hs y.1 y.2 l rfl
   cases e'
   exact ⟨by omega, b2, ⟨a3.up b1, b3⟩, ⟨a4, b4⟩, fun h => by cases h⟩
 | pbad => intro _ _ _ _ x' g1' j' e'; cases e'
 | rep d g i g1 j x q _ r ih =>
  intro hd hg hi hs x' g1' j' e'
  obtain ⟨a1, a2, a3, a4, _⟩ := ih hd hg hi hs x g1 j rfl
  cases q with
  | bad l => cases e'
  | ok o l =>
   cases o with
   | none => cases e'; exact ⟨a1, a2, a3, a4, fun h => by cases h⟩
   | some mm =>
    obtain ⟨mn, mx⟩ := mm
    cases e'
    exact ⟨a1, a2, ⟨r.fair, a3⟩, a4, fun h => by cases h⟩
 | sbad => intro _ _ _ _ x' g1' j' e'; cases e'
 | deep => intro _ _ _ _ x' g1' j' e'; cases e'
 | grp d g i g1 j x e o _ c ih =>
  intro hd hg hi hs x' g1' j' e'
  cases e'
  have hi' : i < s.size := at'_nn (by omega)
  obtain ⟨a1, a2, a3, a4, _⟩ := ih (by omega) (by omega) (by omega) hs x g1 j rfl
  exact ⟨by omega, a2, ⟨by omega, a1, a3⟩, a4, fun h => by cases h⟩
 | gopen => intro _ _ _ _ x' g1' j' e'; cases e'
 | gbad => intro _ _ _ _ x' g1' j' e'; cases e'
 | set d g i q e r =>
  intro hd hg hi hs x' g1' j' e'
  cases q with
  | bad l => cases e'
  | ok f l => cases e'; exact ⟨Nat.le_refl _, hg, trivial, trivial, fun h => by cases h⟩
 | dot d g i e => intro hd hg hi hs x' g1' j' e'; cases e'; exact ⟨Nat.le_refl _, hg, trivial, trivial, fun h => by cases h⟩
 | esc d g i e =>
  intro hd hg hi hs x' g1' j' e'
  cases hq : escS s 0 (i + 1) with
  | bad l => rw [hq] at e'; cases e'
  | ok f l => rw [hq] at e'; cases e'; exact ⟨Nat.le_refl _, hg, trivial, trivial, fun h => by cases h⟩
 | no => intro _ _ _ _ x' g1' j' e'; cases e'
 | lit d g i e => intro hd hg hi hs x' g1' j' e'; cases e'; exact ⟨Nat.le_refl _, hg, trivial, trivial, fun h => by cases h⟩
theorem PatR.good {s : ByteArray} {W : Whole} {j : Nat} (hs : s.size ≤ 60) (h : PatR s (.ok W j)) : W.x.fair 9 ∧ W.x.thin ∧ W.g ≤ 9 := by
 obtain ⟨qw, hG, hqe⟩ := h
 cases qw with
 | bad l => cases hqe
 | ok xg l =>
  obtain ⟨x, g⟩ := xg
  have hwi : wi s ≤ s.size := by
   unfold wi
   by_cases h : at' s 0 = 94
   ·rw [if_pos h]; exact at'_nn (by omega)
   ·rw [if_neg h]; exact Nat.zero_le _
  obtain ⟨_, h2, h3, h4, _⟩ := hG.thin (by omega) (by omega) hwi hs x g l rfl
  rw [PatE_ok] at hqe
  by_cases hc : 0 ≤ at' s (if at' s l = 36 then l + 1 else l)
  ·rw [if_pos hc] at hqe; cases hqe
  ·rw [if_neg hc] at hqe; cases hqe; exact ⟨h3.up h2, h4, h2⟩
end Go.Proofs.YtnfojonmohijpaaGreatDoor
namespace Go.Proofs.YtnfojonmohijpaaGreatDoor
open Go.RowKit
theorem RlOk.good {rs : List Rul} {i : Nat} {W : Whole} (h : RlOk rs i W) : W.x.sz ≤ 1000 ∧ W.x.fair 9 := by
 obtain ⟨r, _, _, _, hs, j, hq⟩ := h
 exact ⟨whole_sz hs hq, (PatR.good hs hq).1⟩
theorem MaM.zero (w : World) (S : Nat → Prop) (s : ByteArray) (N : Nat) : MaM w S s N (.slice none 0 0) [] [] := ⟨⟨rfl, .inl ⟨rfl, rfl⟩⟩, fun k W h => by simp at h⟩
theorem MaM.add {w w3 w5 : World} {s : ByteArray} {N : Nat} {v u a c : Value} {cs : List Value} {Ws : List Whole} {W : Whole} {lo g' cap i : Nat} (h : MaM w (fun z => lo ≤ z) s N v cs Ws) (hk : Keeps [] w w3) (hlo : lo ≤ w.heap.size) (hi : i = Ws.length) (hu : u.oneCell' = true) (ha : a.oneCell' = true) (hc : c.oneCell' = true) (hr : Mk w3 (fun z => w.heap.size ≤ z) s N .ways W.x [a, c])
    (hown : w5.ownsRow 0 80 7 (.slice (some ⟨g', 0, none⟩) (i + 1) cap) (i + 1) (cs ++ (mat W u s a c).toList)) (hgrow : (w3.alloc (.cells (mat W u s a c) 80)).grownBy w5 v.ownBlock) (hat : v.ownBlock = some g' ∨ g' = w3.heap.size + 1) :
    MaM w5 (fun z => lo ≤ z) s N (.slice (some ⟨g', 0, none⟩) (i + 1) cap) (cs ++ (mat W u s a c).toList) (Ws ++ [W]) := by
 subst hi
 have hk5 : Keeps v.ownBlock.toList w3 w5 := ((Keeps.refl v.ownBlock.toList w3).alloc _).trans (Keeps.ofGrown hgrow)
 have hcl : cs.length = Ws.length * 7 := h.own.1
 have hvl := World.ownsRow.lt h.own
 have s3 := hk.size
 refine ⟨by rw [List.length_append, List.length_singleton]; exact hown, fun k V hV => ?_⟩
 have hno : ∀ z, v.ownBlock ≠ some z → z < w3.heap.size → (Value.slice (some ⟨g', 0, none⟩) (Ws.length + 1) cap).ownBlock ≠ some z := by
  intro z hz hzl e
  simp only [Value.ownBlock, Option.some.injEq] at e
  subst e
  rcases hat with e | e
  ·exact hz e
  ·omega
 by_cases hkl : k < Ws.length
 ·rw [List.getElem?_append_left hkl] at hV
  obtain ⟨u', a', c', h1, h2, h2', h3, h4⟩ := h.parts k V hV
  refine ⟨u', a', c', h1, h2, h2', fun q x hq => ?_, ?_⟩
  ·have := h3 q x hq
   rw [List.getElem?_append_left (List.getElem?_eq_some_iff.1 this).1]
   exact this
  ·refine (((h4.mono (S' := fun z => (lo ≤ z ∧ v.ownBlock ≠ some z) ∧ z < w.heap.size) fun z hz hl => ⟨hz, hl⟩).keep hk (by simp)).keep hk5 ?_).mono ?_
   ·intro z hz hm
    rw [Option.mem_toList] at hm
    exact hz.1.2 hm
   ·intro z hz _
    exact ⟨hz.1.1, hno z hz.1.2 (by have := hz.2; omega)⟩
 ·have hke : k = Ws.length := by
     have := (List.getElem?_eq_some_iff.1 hV).1
     simp at this
     omega
  subst hke
  have hVW : V = W := by
   rw [List.getElem?_append_right (Nat.le_refl _)] at hV
   simp at hV
   exact hV.symm
  subst hVW
  refine ⟨u, a, c, hu, ha, hc, fun q x hq => ?_, ?_⟩
  ·rw [List.getElem?_append_right (by omega), show Ws.length * 7 + q - cs.length = q by omega]
   exact hq
  ·refine ((hr.mono (S' := fun z => w.heap.size ≤ z ∧ z < w3.heap.size) fun z hz hl => ⟨hz, hl⟩).keep hk5 ?_).mono ?_
   ·intro z hz hm
    rw [Option.mem_toList] at hm
    have := (hvl z hm).2
    have := hz.1
    omega
   ·intro z hz _
    refine ⟨by have := hz.1; omega, hno z ?_ hz.2⟩
    intro e
    have := (hvl z e).2
    have := hz.1
    omega
theorem mat_one {W : Whole} {u a c : Value} {s : ByteArray} (hu : u.oneCell' = true) (ha : a.oneCell' = true) (hc : c.oneCell' = true) : ∀ x ∈ (mat W u s a c).toList, x.oneCell' = true := by
 intro x hx
 simp only [mat, List.mem_cons, List.not_mem_nil, or_false] at hx
 rcases hx with rfl | rfl | rfl | rfl | rfl | rfl | rfl
 ·rfl
 ·rfl
 ·exact hu
 ·rfl
 ·rfl
 ·exact ha
 ·exact hc
def tkV : List Tok → List Value
 | [] => []
 | t :: l => [.int .i64 t.rule, .int .i64 t.frm, .int .i64 t.to, .int .i64 t.line, .int .i64 t.col] ++ tkV l
theorem tkV_app : ∀ a b, tkV (a ++ b) = tkV a ++ tkV b
 | [], b => rfl
 | t :: a, b => by rw [List.cons_append, tkV, tkV, tkV_app a b, List.append_assoc]
def TkR (w : World) (v : Value) (l : List Tok) : Prop := w.ownsRow 0 111 5 v l.length (tkV l)
theorem TkR.zero (w : World) : TkR w (.slice none 0 0) [] := ⟨rfl, .inl ⟨rfl, rfl⟩⟩
theorem infoMat : (Tryz.prog.info? 80).map (fun i => (i.zero, i.size, i.bytes)) = some (some (.agg #[.bool false, .bool false, .slice none 0 0, .int .i64 0, .string ⟨#[]⟩, .slice none 0 0, .slice none 0 0]), 7, 104) := by kernel_rfl
theorem infoTok : (Tryz.prog.info? 111).map (fun i => (i.zero, i.size, i.bytes)) = some (some (.agg #[.int .i64 0, .int .i64 0, .int .i64 0, .int .i64 0, .int .i64 0]), 5, 40) := by kernel_rfl
theorem mat_fill (W : Whole) (u : Value) (s : ByteArray) (a c : Value) : Instr.fill (fun i => some (i * 7, 7)) ((Array.range (1 * 7)).map ((#[.bool false, .bool false, .slice none 0 0, .int .i64 0, .string ⟨#[]⟩, .slice none 0 0, .slice none 0 0] : Array Value)[· % 7]!)) [(0, .agg (mat W u s a c))] = some (mat W u s a c) := by
 have e0 : (Array.range (1 * 7)).map ((#[.bool false, .bool false, .slice none 0 0, .int .i64 0, .string ⟨#[]⟩, .slice none 0 0, .slice none 0 0] : Array Value)[· % 7]!) = ([.bool false, .bool false, .slice none 0 0, .int .i64 0, .string ⟨#[]⟩, .slice none 0 0, .slice none 0 0] : List Value).toArray := by kernel_rfl
 rw [e0]
 have h1 := fill_one (fun i => some (i * 7, 7)) 0 (.agg (mat W u s a c)) [] [] [.bool false, .bool false, .slice none 0 0, .int .i64 0, .string ⟨#[]⟩, .slice none 0 0, .slice none 0 0] [] rfl rfl
 simp only [List.append_nil, List.nil_append, Value.cells] at h1
 exact h1.trans rfl
theorem wpList_maslice {ops : Array Oper} {rest : List Oper} {o : Oper} {a : Act} {w : World} {Q : Exit → Act → World → Prop} (hg : o.guard = none) (x : Operand) (ho : o.op = .buildSlice 246 1 #[(0, x)]) (d : Option Tmp) (hd : o.dst = d) (W : Whole) (u : Value) (s : ByteArray) (p c : Value) (hx : a.eval x = .agg (mat W u s p c))
    (h : wpList Tryz.prog ops Q rest (a.put d (.slice (some ⟨w.heap.size, 0, none⟩) 1 1)) (w.alloc (.cells (mat W u s p c) 80))) : wpList Tryz.prog ops Q (o :: rest) a w := by
 subst hd
 obtain ⟨i0, hi0, hz0, hz1, hz2⟩ := info_parts infoMat
 refine wpList_buildSlice hg 246 80 1 #[(0, x)] ho (mat W u s p c) i0 _ Tryz.underlying246 hi0 hz0 (by rw [hz1]; decide) (by rw [hz1]; decide) ?_ h
 rw [hz1]
 have := mat_fill W u s p c
 have e : (Value.agg #[.bool false, .bool false, .slice none 0 0, .int .i64 0, .string ⟨#[]⟩, .slice none 0 0, .slice none 0 0]).cells.size = 7 := rfl
 have e2 : ((#[(0, x)] : Array (Nat × Operand)).map fun (i, x) => (i, a.eval x)).toList = [(0, .agg (mat W u s p c))] := by simp [hx]
 rw [e, e2]
 exact this
theorem ruRow {w : World} {b : Nat} {W : Whole} {u : Value} {q : Bool} (h : w.heap[b]? = some (.cells (ruV W u q).toArray 245 (0, 0))) : w.rangeAt b 0 [.bool W.bg, .bool W.en, u, .int .i64 W.g] := fun j x hx => by
 have h4 : j < 4 := (List.getElem?_eq_some_iff.1 hx).1
 rw [Lib.cell_of_heap h, Nat.zero_add]
 match j, h4, hx with
 | 0, _, hx => exact hx
 | 1, _, hx => exact hx
 | 2, _, hx => exact hx
 | 3, _, hx => exact hx
theorem infoRu5 (W : Whole) (u : Value) (q : Bool) : (Tryz.prog.info? 245).map (·.size) = some (ruV W u q).toArray.size := by kernel_rfl
theorem ruV_all {W : Whole} {u : Value} {b : Bool} (hu : u.oneCell' = true) : (ruV W u b).toArray.all (·.oneCell') = true := by
 have h1 : ∀ b, (Value.bool b).oneCell' = true := fun _ => rfl
 have h2 : (Value.int .i64 W.g).oneCell' = true := rfl
 simp [ruV, h1, h2, hu]
structure SpL (w wr : World) (lo : Nat) (s : ByteArray) (xs : List Pat) (sk : Nat → Bool) (i : Nat) (v : Value) (L : List Tok) : Prop where
 row : TkR wr v L
 fresh : ∀ g, v.ownBlock = some g → lo ≤ g
 len : L.length ≤ i
 ile : i ≤ s.size
 keep : Keeps [] w wr
 says : ∀ l e, Tks s xs sk i l e → Tks s xs sk 0 (L ++ l) e
end Go.Proofs.YtnfojonmohijpaaGreatDoor
namespace Go.Proofs.YtnfojonmohijpaaGreatDoor
open Go.RowKit
theorem run_copy_many {P : Program} (w : World) (dT sT ty elem : TypeId) (size b o dLen dCap : Nat) (a : Addr) (sLen sCap n : Nat) (cs : List Value)
    (hu : P.underlying dT = some (.slice elem)) (hs : (P.info? elem).map (·.size) = some size) (hn : Nat.min sLen dLen = n) (hl : cs.length = n * size)
    (hsrc : ∀ j v, cs[j]? = some v → w.cell? (a.add j) = some v) (hc : w.there b o cs.length) (h1 : ∀ v ∈ cs, v.oneCell' = true) :
    (Builtin.copy_ #[dT, sT] ty #[.slice (some ⟨b, o, none⟩) dLen dCap, .slice (some a) sLen sCap]).run P w = .ok (goInt n) (w.setCells b o cs) := by
 have hlo := run_loadCells_list (P := P) w a cs hsrc
 have hst := run_storeCells_cells (P := P) b o cs 0 w (by simpa using fun j hj => (hc j hj).1) (by simpa using fun j hj => (hc j hj).2) h1
 rw [hl] at hlo
 cases hq : P.info? elem with
 | none => simp [hq] at hs
 | some i =>
  have hi : i.size = size := by simpa [hq] using hs
  simp [Builtin.copy_, run_underlying hu, Builtin.lenOf, Builtin.firstCells, sizeOf, typeInfo, hq, hi, hn, hlo, hst]
end Go.Proofs.YtnfojonmohijpaaGreatDoor
namespace Go.Proofs.YtnfojonmohijpaaGreatDoor
open Go.RowKit
def ruC (r : Rul) : List Value := [.string r.nm, .string r.pt, .bool r.sk]
def zR : Rul := ⟨⟨#[]⟩, ⟨#[]⟩, false⟩
def mkR : Rul := ⟨⟨#[109, 97, 114, 107]⟩, ⟨#[109]⟩, false⟩
structure OwR (w : World) (h m : Nat) (R : Nat → Rul) : Prop where
 th : w.there h 0 (m * 3)
 rg : ∀ k, k < m → w.rangeAt h (k * 3) (ruC (R k))
theorem OwR.mid {w : World} {h m : Nat} {R : Nat → Rul} (H : OwR w h m R) {i : Nat} (hi : i < m) : w.there h (i * 3) 3 := fun j hj => by
 have := H.th (i * 3 + j) (by omega)
 rw [Nat.zero_add] at this
 exact this
theorem OwR.put {w : World} {h m : Nat} {R : Nat → Rul} (H : OwR w h m R) {i : Nat} (hi : i < m) (r : Rul) : OwR (w.setCells h (i * 3) (ruC r)) h m (fun k => if k = i then r else R k) := by
 refine ⟨World.there_setCells H.th _ _ _, fun k hk => ?_⟩
 by_cases e : k = i
 ·subst e
  rw [if_pos rfl]
  exact World.rangeAt_setCells_same _ _ _ _ (H.mid hi)
 ·rw [if_neg e]
  exact World.rangeAt_setCells_apart (H.rg k hk) _ _ _ (Or.inr (by show k * 3 + 3 ≤ i * 3 ∨ i * 3 + 3 ≤ k * 3; omega))
theorem OwR.ext {w : World} {h m : Nat} {R R' : Nat → Rul} (H : OwR w h m R) (e : ∀ k, k < m → R k = R' k) : OwR w h m R' := ⟨H.th, fun k hk => by rw [← e k hk]; exact H.rg k hk⟩
theorem OwR.lt {w : World} {h m : Nat} {R : Nat → Rul} (H : OwR w h m R) (hm : 0 < m) : h < w.heap.size := World.block_lt_of_cell? _ _ (H.rg 0 hm 0 _ rfl)
theorem OwR.keep {w w' : World} {h m : Nat} {R : Nat → Rul} {S : List Nat} (H : OwR w h m R) (hm : 0 < m) (hk : Keeps S w w') (hS : h ∉ S) : OwR w' h m R := by
 have hb := hk.block h (H.lt hm) hS
 exact ⟨fun j hj => ⟨by rw [World.cell?_of_block hb]; exact (H.th j hj).1, by rw [World.frozen?_of_block hb]; exact (H.th j hj).2⟩, fun k hk q u hu => (World.cell?_of_block hb).trans (H.rg k hk q u hu)⟩
theorem ruL_get : ∀ {rs : List Rul} {k : Nat} {r : Rul}, rs[k]? = some r → ∀ q, q < 3 → (rs.flatMap ruC)[k * 3 + q]? = (ruC r)[q]?
 | [], k, r, h, _, _ => by simp at h
 | a :: rs, 0, r, h, q, hq => by
  have e : a = r := by simpa using h
  subst e
  rw [List.flatMap_cons, Nat.zero_mul, Nat.zero_add, List.getElem?_append_left (by show q < 3; exact hq)]
 | a :: rs, k + 1, r, h, q, hq => by
  have h' : rs[k]? = some r := by simpa using h
  rw [List.flatMap_cons, List.getElem?_append_right (by show 3 ≤ (k + 1) * 3 + q; omega), show (k + 1) * 3 + q - (ruC a).length = k * 3 + q from by show (k + 1) * 3 + q - 3 = _; omega]
  exact ruL_get h' q hq
theorem ruL_len : ∀ rs : List Rul, (rs.flatMap ruC).length = rs.length * 3
 | [] => rfl
 | a :: rs => by
  rw [List.flatMap_cons, List.length_append, ruL_len rs, List.length_cons]
  show 3 + rs.length * 3 = _
  omega
theorem ruL_one (rs : List Rul) : ∀ v ∈ rs.flatMap ruC, v.oneCell' = true := by
 intro v hv
 obtain ⟨r, _, h⟩ := List.mem_flatMap.1 hv
 simp only [ruC, List.mem_cons, List.not_mem_nil, or_false] at h
 rcases h with rfl | rfl | rfl <;> rfl
theorem ruL_split {rs : List Rul} {j : Nat} {v : Value} (h : (rs.flatMap ruC)[j]? = some v) : ∃ k q r, j = k * 3 + q ∧ rs[k]? = some r ∧ (ruC r)[q]? = some v := by
 have hl := (List.getElem?_eq_some_iff.1 h).1
 rw [ruL_len] at hl
 have hk : j / 3 < rs.length := by omega
 refine ⟨j / 3, j % 3, rs[j / 3], by omega, List.getElem?_eq_getElem hk, ?_⟩
 rw [← ruL_get (List.getElem?_eq_getElem hk) (j % 3) (by omega), show j / 3 * 3 + j % 3 = j from by omega]
 exact h
theorem copy_rules {w : World} {v : Value} {rs : List Rul} {h m : Nat} (ty : TypeId) (hr : RulIs w v rs) (H : OwR w h m (fun _ => zR)) (hm : rs.length ≤ m) : (Builtin.copy_ #[36, 36] ty #[.slice (some ⟨h, 0, none⟩) m m, v]).run Tryz.prog w = .ok (goInt rs.length) (w.setCells h 0 (rs.flatMap ruC)) := by
 have hu := Tryz.underlying36
 have hs : (Tryz.prog.info? 41).map (·.size) = some 3 := by kernel_rfl
 have hth : w.there h 0 (rs.flatMap ruC).length := fun j hj => H.th j (by rw [ruL_len] at hj; omega)
 rcases hr.rd with ⟨rfl, a, c, rfl⟩ | ⟨g, o, c, rfl, hc, _⟩
 ·cases a with
  | none =>
   obtain ⟨i0, hi0, hz0, hz1, hz2⟩ := info_parts infoRul
   simp [Builtin.copy_, run_underlying hu, Builtin.lenOf, Builtin.firstCells, sizeOf, typeInfo, hi0, World.setCells, storeCells]
  | some ad => exact run_copy_many w _ _ ty 41 3 h 0 m m ad 0 c 0 [] hu hs (by simp) rfl (fun j v h => by simp at h) (fun j hj => by simp at hj) (fun v hv => by cases hv)
 ·refine run_copy_many w _ _ ty 41 3 h 0 m m ⟨g, o, none⟩ rs.length c rs.length _ hu hs (Nat.min_eq_left hm) (ruL_len rs) (fun j u hj => ?_) hth (ruL_one rs)
  obtain ⟨k, q, r, rfl, hr, hq⟩ := ruL_split hj
  have := hc k r hr q u hq
  simp only [Addr.add_lit]
  rw [show o + (k * 3 + q) = o + k * 3 + q from by omega]
  exact this
theorem OwR.copied {w : World} {rs : List Rul} {h m : Nat} (H : OwR w h m (fun _ => zR)) (hm : rs.length ≤ m) : OwR (w.setCells h 0 (rs.flatMap ruC)) h m (fun k => rs[k]?.getD zR) := by
 have hth : w.there h 0 (rs.flatMap ruC).length := fun j hj => H.th j (by rw [ruL_len] at hj; omega)
 refine ⟨World.there_setCells H.th _ _ _, fun k hk => ?_⟩
 cases e : rs[k]? with
 | none =>
  have hl := List.getElem?_eq_none_iff.1 e
  exact World.rangeAt_setCells_apart (H.rg k hk) _ _ _ (Or.inr (Or.inr (by rw [ruL_len]; omega)))
 | some r =>
  intro q u hu
  have hq : q < 3 := (List.getElem?_eq_some_iff.1 hu).1
  have := World.rangeAt_setCells_same w h 0 (rs.flatMap ruC) hth (k * 3 + q) u ((ruL_get e q hq).trans hu)
  rw [Nat.zero_add] at this
  exact this
theorem OwR.made {w : World} {h m c : Nat} (H : w.ownsRow 0 41 3 (.slice (some ⟨h, 0, none⟩) m c) m (madeCells #[.string ⟨#[]⟩, .string ⟨#[]⟩, .bool false] (m * 3)).toList) : OwR w h m (fun _ => zR) := by
 refine ⟨fun j hj => ⟨?_, ?_⟩, fun k hk q u hu => ?_⟩
 ·rw [Nat.zero_add, World.ownsRow.cellAt H j hj]
  simp [madeCells, hj]
 ·rw [Nat.zero_add]
  exact World.ownsRow.frozenAt H j
 ·have hq : q < 3 := (List.getElem?_eq_some_iff.1 hu).1
  rw [World.ownsRow.cellAt H (k * 3 + q) (by omega)]
  have hm : (k * 3 + q) % 3 = q := by omega
  have hlt : k * 3 + q < m * 3 := by omega
  rw [← hu]
  simp only [madeCells, Array.toList_map, Array.toList_range, List.getElem?_map, List.getElem?_range hlt, Option.map_some]
  show some (#[Value.string ⟨#[]⟩, .string ⟨#[]⟩, .bool false][(k * 3 + q) % 3]!) = _
  rw [hm]
  match q, hq with
  | 0, _ => rfl
  | 1, _ => rfl
  | 2, _ => rfl
theorem OwR.rules {w : World} {h m : Nat} {R : Nat → Rul} {rs : List Rul} (H : OwR w h m R) (hm : rs.length ≤ m) (hM : m ≤ 9223372036854775807) (e : ∀ (k : Nat) (r : Rul), rs[k]? = some r → R k = r) : RulIs w (.slice (some ⟨h, 0, none⟩) rs.length m) rs :=
 ⟨by omega, Or.inr ⟨h, 0, m, rfl, fun k r hr => by
   have := H.rg k (by have := (List.getElem?_eq_some_iff.1 hr).1; omega)
   rw [e k r hr] at this
   rw [Nat.zero_add]
   exact this, hm, hM⟩⟩
theorem neqRul (a b : ByteArray) (c : Bool) (w : World) : (binOp .neq 41 (.agg #[.string a, .string b, .bool c]) (.agg #[.string a, .string b, .bool c])).run Tryz.prog w = .ok (.bool false) w := by
 have uR : Tryz.prog.underlying 41 = some (.struct (Tryz.prog.fieldsOf 41)) := by kernel_rfl
 have hs : Tryz.prog.stoodInHeld 41 = false := by kernel_rfl
 have hf : (Tryz.prog.fieldsOf 41).toList.map (fun f => (f.name, f.type, f.offset)) = [("Name", 9, 0), ("Pattern", 9, 1), ("Skip", 4, 2)] := by kernel_rfl
 rw [run_neq_struct, run_equalIn_struct w 9999 41 _ _ uR hs]
 generalize (Tryz.prog.fieldsOf 41).toList = fs at hf
 rcases fs with _ | ⟨f1, _ | ⟨f2, _ | ⟨f3, _ | ⟨f4, fs⟩⟩⟩⟩ <;> simp at hf
 obtain ⟨⟨n1, t1, o1⟩, ⟨n2, t2, o2⟩, ⟨n3, t3, o3⟩⟩ := hf
 simp [Op.eqFields, n1, n2, n3, t1, t2, t3, o1, o2, o3, go_sem]
theorem neqTok (a b c d e : Int) (w : World) : (binOp .neq 111 (.agg #[.int .i64 a, .int .i64 b, .int .i64 c, .int .i64 d, .int .i64 e]) (.agg #[.int .i64 a, .int .i64 b, .int .i64 c, .int .i64 d, .int .i64 e])).run Tryz.prog w = .ok (.bool false) w := by
 have uR : Tryz.prog.underlying 111 = some (.struct (Tryz.prog.fieldsOf 111)) := by kernel_rfl
 have hs : Tryz.prog.stoodInHeld 111 = false := by kernel_rfl
 have hf : (Tryz.prog.fieldsOf 111).toList.map (fun f => (f.name, f.type, f.offset)) = [("Rule", 3, 0), ("From", 3, 1), ("To", 3, 2), ("Line", 3, 3), ("Column", 3, 4)] := by kernel_rfl
 rw [run_neq_struct, run_equalIn_struct w 9999 111 _ _ uR hs]
 generalize (Tryz.prog.fieldsOf 111).toList = fs at hf
 rcases fs with _ | ⟨f1, _ | ⟨f2, _ | ⟨f3, _ | ⟨f4, _ | ⟨f5, _ | ⟨f6, fs⟩⟩⟩⟩⟩⟩ <;> simp at hf
 obtain ⟨⟨n1, t1, o1⟩, ⟨n2, t2, o2⟩, ⟨n3, t3, o3⟩, ⟨n4, t4, o4⟩, ⟨n5, t5, o5⟩⟩ := hf
 simp [Op.eqFields, n1, n2, n3, n4, n5, t1, t2, t3, t4, t5, o1, o2, o3, o4, o5, go_sem]
theorem tkV_at : ∀ {L : List Tok} {k : Nat} {t : Tok}, L[k]? = some t → ∀ q, q < 5 → (tkV L)[k * 5 + q]? = [Value.int .i64 t.rule, .int .i64 t.frm, .int .i64 t.to, .int .i64 t.line, .int .i64 t.col][q]?
 | [], k, r, h, _, _ => by simp at h
 | a :: rs, 0, r, h, q, hq => by
  have e : a = r := by simpa using h
  subst e
  rw [tkV, Nat.zero_mul, Nat.zero_add, List.getElem?_append_left (by show q < 5; exact hq)]
 | a :: rs, k + 1, r, h, q, hq => by
  have h' : rs[k]? = some r := by simpa using h
  rw [tkV, List.getElem?_append_right (by show 5 ≤ (k + 1) * 5 + q; omega)]
  rw [show (k + 1) * 5 + q - [Value.int .i64 a.rule, .int .i64 a.frm, .int .i64 a.to, .int .i64 a.line, .int .i64 a.col].length = k * 5 + q from by show (k + 1) * 5 + q - 5 = _; omega]
  exact tkV_at h' q hq
theorem TkR.range {w : World} {g c : Nat} {L : List Tok} {n : Nat} (hn : L.length = n) (h : TkR w (.slice (some ⟨g, 0, none⟩) n c) L) {k : Nat} {t : Tok} (hk : L[k]? = some t) : w.rangeAt g (k * 5) [.int .i64 t.rule, .int .i64 t.frm, .int .i64 t.to, .int .i64 t.line, .int .i64 t.col] := fun q u hu => by
 have hq : q < 5 := (List.getElem?_eq_some_iff.1 hu).1
 have hl : k < L.length := (List.getElem?_eq_some_iff.1 hk).1
 unfold TkR at h
 rw [hn] at h
 rw [World.ownsRow.cellAt h (k * 5 + q) (by omega), tkV_at hk q hq]
 exact hu
theorem TkR.sl {w : World} {v : Value} {L : List Tok} (h : TkR w v L) : ∃ va vc, v = .slice va L.length vc ∧ (0 < L.length → ∃ g, va = some ⟨g, 0, none⟩) := by
 rcases h.2 with ⟨rfl, h0⟩ | ⟨g, cap, cur, rfl, _⟩
 ·exact ⟨none, 0, by rw [h0], fun h => by omega⟩
 ·exact ⟨_, cap, rfl, fun _ => ⟨g, rfl⟩⟩
end Go.Proofs.YtnfojonmohijpaaGreatDoor
namespace Go.Proofs.YtnfojonmohijpaaGreatDoor
open Go.RowKit
theorem flat_get {css : List (List Value)} (h6 : ∀ c, c ∈ css → c.length = 6) : ∀ {k : Nat} {cs : List Value}, css[k]? = some cs → ∀ j, j < 6 → css.flatten[k * 6 + j]? = cs[j]? := by
 induction css with
 | nil => intro k cs h; simp at h
 | cons c css ih =>
  intro k cs h j hj
  have hc := h6 c (by simp)
  cases k with
  | zero =>
   have e : c = cs := by simpa using h
   subst e
   rw [List.flatten_cons, Nat.zero_mul, Nat.zero_add, List.getElem?_append_left (by omega)]
  | succ k =>
   have h' : css[k]? = some cs := by simpa using h
   rw [List.flatten_cons, List.getElem?_append_right (by omega), show (k + 1) * 6 + j - c.length = k * 6 + j from by omega]
   exact ih (fun c hc => h6 c (by simp [hc])) h' j hj
theorem NInv.node {w : World} {b : Nat} {A : List Nat} {v : Value} {nds : List Nd} (h : NInv w b A v nds) {k : Nat} {nd : Nd} (hk : nds[k]? = some nd) :
    ∃ g cap hv kv, v = .slice (some ⟨g, 0, none⟩) nds.length cap ∧ k < nds.length ∧ HoldsV w (avoA b A v) hv nd ∧ KidsV w (avoA b A v) kv nd.kids ∧
     w.cell? ⟨g, k * 6, none⟩ = some (.int .u8 nd.kind) ∧ w.cell? ⟨g, k * 6 + 1, none⟩ = some hv ∧ w.cell? ⟨g, k * 6 + 2, none⟩ = some (.int .i64 nd.n) ∧ w.cell? ⟨g, k * 6 + 3, none⟩ = some (.int .i64 nd.mn) ∧
     w.cell? ⟨g, k * 6 + 4, none⟩ = some (.int .i64 nd.mx) ∧ w.cell? ⟨g, k * 6 + 5, none⟩ = some kv := by
 obtain ⟨css, hl, ho, hne, hnA, hn⟩ := h
 have hlt := (List.getElem?_eq_some_iff.1 hk).1
 obtain ⟨g, cap, rfl, _, _⟩ := ho.form (by omega)
 have h6 : ∀ c, c ∈ css → c.length = 6 := by
  intro c hc
  obtain ⟨j, hj, rfl⟩ := List.mem_iff_getElem.1 hc
  obtain ⟨cs, e, hv, kv, rfl, _⟩ := hn j (nds[j]'(by omega)) (List.getElem?_eq_getElem (by omega))
  rw [List.getElem?_eq_getElem hj] at e
  injection e with e
  rw [e]; rfl
 obtain ⟨cs, e, hv, kv, rfl, h1, h2⟩ := hn k nd hk
 refine ⟨g, cap, hv, kv, rfl, hlt, h1, h2, ?_⟩
 have hc := fun j u hj (hu : [Value.int .u8 nd.kind, hv, .int .i64 nd.n, .int .i64 nd.mn, .int .i64 nd.mx, kv][j]? = some u) => ho.cells (g := g) rfl (k * 6 + j) u ((flat_get h6 e j hj).trans hu)
 have c0 := hc 0 _ (by omega) rfl
 have c1 := hc 1 _ (by omega) rfl
 have c2 := hc 2 _ (by omega) rfl
 have c3 := hc 3 _ (by omega) rfl
 have c4 := hc 4 _ (by omega) rfl
 have c5 := hc 5 _ (by omega) rfl
 simp only [Addr.add_lit, Nat.zero_add, Nat.add_zero] at c0 c1 c2 c3 c4 c5
 exact ⟨c0, c1, c2, c3, c4, c5⟩
theorem Keeps.cell {w w' : World} (h : Keeps [] w w') {a : Addr} {v : Value} (hc : w.cell? a = some v) : w'.cell? a = some v :=
 (World.cell?_of_block (h.block a.block (World.block_lt_of_cell? w a hc) (by simp))).trans hc
theorem KidsV.form {w : World} {av : List Nat} {kv : Value} {kids : List Nat} (h : KidsV w av kv kids) : ∃ ka kc, kv = .slice ka kids.length kc ∧ ∀ i (hi : i < kids.length), ∃ kb, ka = some ⟨kb, 0, none⟩ ∧ w.cell? ⟨kb, i, none⟩ = some (.int .i64 ((kids[i]'hi : Nat) : Int)) := by
 rcases h.1.2 with ⟨rfl, hz⟩ | ⟨kb, kc, cur, rfl, _⟩
 ·exact ⟨none, 0, by rw [hz], fun i hi => by omega⟩
 ·refine ⟨some ⟨kb, 0, none⟩, kc, rfl, fun i hi => ⟨kb, rfl, ?_⟩⟩
  have := h.1.cells (g := kb) rfl i (.int .i64 ((kids[i]'hi : Nat) : Int)) (by simp [hi])
  simpa [Addr.add_lit] using this
end Go.Proofs.YtnfojonmohijpaaGreatDoor
namespace Go.Proofs.YtnfojonmohijpaaGreatDoor
open Go.RowKit
def EA (w : World) (s : ByteArray) (nds : List Nd) (D Z : List Nat) (k i : Nat) (v : Value) : Prop :=
 ∃ h c f, v = .slice (some ⟨h, 0, none⟩) (s.size + 1) c ∧ RB w v (s.size + 1) f ∧ h ∉ D ∧ h ∉ Z ∧ ∀ j, j ≤ s.size → (f j = true ↔ MN s nds (.node k) i j)
theorem EA.lt {w : World} {s : ByteArray} {nds : List Nd} {D Z : List Nat} {k i : Nat} {v : Value} (h : EA w s nds D Z k i v) : ∀ g, v.ownBlock = some g → g < w.heap.size := by
 obtain ⟨x, c, f, rfl, hr, _⟩ := h
 intro g hg
 exact (World.ownsRow.lt hr g hg).2
theorem EA.keep {w w' : World} {s : ByteArray} {nds : List Nd} {D Z S : List Nat} {k i : Nat} {v : Value} (h : EA w s nds D Z k i v) (hk : Keeps S w w') (hS : ∀ x, x ∈ S → x ∈ D ∨ x ∈ Z ∨ w.heap.size ≤ x) : EA w' s nds D Z k i v := by
 have hl := h.lt
 obtain ⟨x, c, f, rfl, hr, h1, h2, h3⟩ := h
 refine ⟨x, c, f, rfl, hr.keep hk ?_, h1, h2, h3⟩
 intro g hg hs
 have := hl g hg
 simp only [Value.ownBlock, Option.some.injEq] at hg
 subst hg
 rcases hS _ hs with h | h | h
 ·exact h1 h
 ·exact h2 h
 ·exact absurd this (by omega)
theorem EA.less {w : World} {s : ByteArray} {nds : List Nd} {D Z Z' : List Nat} {k i : Nat} {v : Value} (h : EA w s nds D Z k i v) (hz : ∀ x, x ∈ Z' → x ∈ Z ∨ w.heap.size ≤ x) : EA w s nds D Z' k i v := by
 have hl := h.lt
 obtain ⟨x, c, f, rfl, hr, h1, h2, h3⟩ := h
 refine ⟨x, c, f, rfl, hr, h1, fun hx => ?_, h3⟩
 have := hl x rfl
 rcases hz x hx with h | h
 ·exact h2 h
 ·omega
def oth (c : Nat) : Nat := if 97 ≤ c ∧ c ≤ 122 then c - 32 else if 65 ≤ c ∧ c ≤ 90 then c + 32 else c
def foF (fo : Bool) (f : Nat → Bool) (c : Nat) : Bool := f c || fo && f (oth c)
def Nd.fo (fo : Bool) (nd : Nd) : Nd := { nd with f := foF fo nd.f }
theorem foF_false (f : Nat → Bool) : foF false f = f := by funext c; simp [foF]
theorem Nd.fo_false (nd : Nd) : nd.fo false = nd := by unfold Nd.fo; rw [foF_false]
theorem map_fo_false (l : List Nd) : l.map (Nd.fo false) = l := by
 rw [show Nd.fo false = id from funext Nd.fo_false, List.map_id]
def HoldsF (w : World) (b : Nat) (av : List Nat) (hv : Value) (nd : Nd) : Prop :=
 (∃ a n c, hv = .slice a n c) ∧ (nd.kind = 98 → ∃ h fo f, hv = .slice (some ⟨h, 0, none⟩) 256 256 ∧ w.cell? ⟨b, 2, none⟩ = some (.bool fo) ∧ nd.f = foF fo f ∧ HB w h f ∧ h ∉ av)
def NInvF (w : World) (b bt : Nat) (A : List Nat) (v : Value) (nds : List Nd) : Prop := ∃ fo nds0, w.cell? ⟨bt, 2, none⟩ = some (.bool fo) ∧ nds = nds0.map (Nd.fo fo) ∧ NInv w b A v nds0
theorem NInvF.keepA {w w' : World} {b bt : Nat} {A : List Nat} {v : Value} {nds : List Nd} {S : List Nat} (h : NInvF w b bt A v nds) (hk : Keeps S w w') (hS : ∀ x, x ∈ S → x = b ∨ x ∈ A ∨ w.heap.size ≤ x) (hb : bt ∉ S) : NInvF w' b bt A v nds := by
 obtain ⟨fo, nds0, h1, h2, h3⟩ := h
 exact ⟨fo, nds0, (World.cell?_of_block (hk.block bt (World.block_lt_of_cell? _ _ h1) hb)).trans h1, h2, h3.keepA hk hS⟩
theorem NInvF.less {w : World} {b bt : Nat} {A A' : List Nat} {v : Value} {nds : List Nd} (h : NInvF w b bt A v nds) (hs : ∀ x, x ∈ A' → x ∈ A ∨ w.heap.size ≤ x) : NInvF w b bt A' v nds := by
 obtain ⟨fo, nds0, h1, h2, h3⟩ := h
 exact ⟨fo, nds0, h1, h2, h3.less hs⟩
theorem NInvF.node {w : World} {b bt : Nat} {A : List Nat} {v : Value} {nds : List Nd} (h : NInvF w b bt A v nds) {k : Nat} {nd : Nd} (hk : nds[k]? = some nd) :
    ∃ g cap hv kv, v = .slice (some ⟨g, 0, none⟩) nds.length cap ∧ k < nds.length ∧ HoldsF w bt (avoA b A v) hv nd ∧ KidsV w (avoA b A v) kv nd.kids ∧
     w.cell? ⟨g, k * 6, none⟩ = some (.int .u8 nd.kind) ∧ w.cell? ⟨g, k * 6 + 1, none⟩ = some hv ∧ w.cell? ⟨g, k * 6 + 2, none⟩ = some (.int .i64 nd.n) ∧ w.cell? ⟨g, k * 6 + 3, none⟩ = some (.int .i64 nd.mn) ∧
     w.cell? ⟨g, k * 6 + 4, none⟩ = some (.int .i64 nd.mx) ∧ w.cell? ⟨g, k * 6 + 5, none⟩ = some kv := by
 obtain ⟨fo, nds0, h1, rfl, h3⟩ := h
 rw [List.getElem?_map, Option.map_eq_some_iff] at hk
 obtain ⟨nd0, hk0, rfl⟩ := hk
 obtain ⟨g, cap, hv, kv, e, hl, hH, hK, c⟩ := h3.node hk0
 refine ⟨g, cap, hv, kv, by rw [List.length_map]; exact e, by rw [List.length_map]; exact hl, ⟨hH.1, fun h98 => ?_⟩, hK, c⟩
 obtain ⟨q, e1, e2, e3⟩ := hH.2 h98
 exact ⟨q, fo, nd0.f, e1, h1, rfl, e2, e3⟩
structure TX (w : World) (b bp : Nat) (s : ByteArray) (p : PS) (nds : List Nd) (D : List Nat) (E : Value) (Z : List Nat) : Prop where
 xb : XB w b (.pointer (some ⟨bp, 0, none⟩)) s E
 pb : PB w bp p
 nodes : NInvF w bp b (b :: (E.ownBlock.toList ++ (D ++ Z))) p.nodes nds
 out : w.ownsRow 0 155 1 E nds.length (D.map fun g => .slice (some ⟨g, 0, none⟩) (s.size + 1) (s.size + 1))
 nodup : D.Nodup
 bb : b ≠ bp ∧ b ∉ D ∧ b ∉ Z ∧ bp ∉ D ∧ bp ∉ Z
 ee : ∀ g, E.ownBlock = some g → g ≠ b ∧ g ≠ bp ∧ g ∉ D ∧ g ∉ Z
 dz : ∀ g, g ∈ D → g ∉ Z
 small : s.size ≤ 100
 inn : ∀ (k g : Nat), D[k]? = some g → ∃ cs : List Value, cs.length = s.size + 1 ∧ w.heap[g]? = some (.cells cs.toArray 98 (0, 0)) ∧ ∀ (i : Nat) (v : Value), cs[i]? = some v → v = .slice none 0 0 ∨ EA w s nds D Z k i v
variable {w w' : World} {b bp : Nat} {s : ByteArray} {p : PS} {nds : List Nd} {D Z : List Nat} {E : Value}
theorem TX.dlen (h : TX w b bp s p nds D E Z) : D.length = nds.length := by
 have := h.out.1
 simpa using this
theorem TX.dlt (h : TX w b bp s p nds D E Z) : ∀ g, g ∈ D → g < w.heap.size := by
 intro g hg
 obtain ⟨k, hk⟩ := List.getElem?_of_mem hg
 obtain ⟨cs, _, hc, _⟩ := h.inn k g hk
 exact (Array.getElem?_eq_some_iff.1 hc).1
theorem TX.keep {S : List Nat} (h : TX w b bp s p nds D E Z) (hk : Keeps S w w') (hS : ∀ x, x ∈ S → x ∈ Z ∨ w.heap.size ≤ x) : TX w' b bp s p nds D E Z := by
 have hno : ∀ x, x < w.heap.size → x ∉ Z → x ∉ S := fun x hl hz hs => by rcases hS x hs with h | h; exact hz h; omega
 refine ⟨h.xb.keep hk (hno _ h.xb.lt h.bb.2.2.1), ?_, ?_, ?_, h.nodup, h.bb, h.ee, h.dz, h.small, ?_⟩
 ·exact (hk.block bp (Array.getElem?_eq_some_iff.1 h.pb).1 (hno _ (Array.getElem?_eq_some_iff.1 h.pb).1 h.bb.2.2.2.2)).trans h.pb
 ·exact h.nodes.keepA hk (fun x hx => by
    rcases hS x hx with h | h
    · exact Or.inr (Or.inl (by simp [h]))
    · exact Or.inr (Or.inr h)) (hno _ h.xb.lt h.bb.2.2.1)
 ·exact h.out.keep hk fun g hg => hno g (h.out.lt g hg).2 (h.ee g hg).2.2.2
 ·intro k g hg
  obtain ⟨cs, hl, hc, hv⟩ := h.inn k g hg
  have hm : g ∈ D := List.mem_of_getElem? hg
  refine ⟨cs, hl, (hk.block g (h.dlt g hm) (hno g (h.dlt g hm) (h.dz g hm))).trans hc, fun i v hi => ?_⟩
  rcases hv i v hi with h | h
  ·exact Or.inl h
  ·exact Or.inr (h.keep hk fun x hx => Or.inr (hS x hx))
theorem TX.less {Z' : List Nat} (h : TX w b bp s p nds D E Z) (hz : ∀ x, x ∈ Z' → x ∈ Z ∨ w.heap.size ≤ x) : TX w b bp s p nds D E Z' := by
 have hno : ∀ x, x < w.heap.size → x ∉ Z → x ∉ Z' := fun x hl hn hs => by rcases hz x hs with h | h; exact hn h; omega
 have hbl := h.xb.lt
 have hpl : bp < w.heap.size := (Array.getElem?_eq_some_iff.1 h.pb).1
 refine ⟨h.xb, h.pb, h.nodes.less fun x hx => ?_, h.out, h.nodup, ⟨h.bb.1, h.bb.2.1, hno _ hbl h.bb.2.2.1, h.bb.2.2.2.1, hno _ hpl h.bb.2.2.2.2⟩, fun g hg => ⟨(h.ee g hg).1, (h.ee g hg).2.1, (h.ee g hg).2.2.1, hno g (h.out.lt g hg).2 (h.ee g hg).2.2.2⟩, fun g hg => hno g (h.dlt g hg) (h.dz g hg), h.small, fun k g hg => ?_⟩
 ·simp only [List.mem_cons, List.mem_append] at hx
  rcases hx with h | h | h | h
  ·exact Or.inl (by simp [h])
  ·exact Or.inl (by simp at h; simp [h])
  ·exact Or.inl (by simp [h])
  ·rcases hz x h with h | h
   ·exact Or.inl (by simp [h])
   ·exact Or.inr h
 ·obtain ⟨cs, hl, hc, hv⟩ := h.inn k g hg
  refine ⟨cs, hl, hc, fun i v hi => ?_⟩
  rcases hv i v hi with h | h
  ·exact Or.inl h
  ·exact Or.inr (h.less hz)
theorem TX.memo (h : TX w b bp s p nds D E Z) {k g i : Nat} {v : Value} (hg : D[k]? = some g) (hv : EA w s nds D Z k i v) : TX (w.setCell ⟨g, i, none⟩ v) b bp s p nds D E Z := by
 have hm : g ∈ D := List.mem_of_getElem? hg
 have hk : Keeps [g] w (w.setCell ⟨g, i, none⟩ v) := (Keeps.refl [g] w).setCell (p := ⟨g, i, none⟩) (by simp) v
 have hgl := h.dlt g hm
 refine ⟨h.xb.keep hk (by simp; exact fun e => h.bb.2.1 (e ▸ hm)), ?_, ?_, ?_, h.nodup, h.bb, h.ee, h.dz, h.small, ?_⟩
 ·exact (hk.block bp (Array.getElem?_eq_some_iff.1 h.pb).1 (by simp; exact fun e => h.bb.2.2.2.1 (e ▸ hm))).trans h.pb
 ·exact h.nodes.keepA hk (fun x hx => by
    simp only [List.mem_singleton] at hx
    subst hx
    exact Or.inr (Or.inl (by simp [hm]))) (by simp; exact fun e => h.bb.2.1 (e ▸ hm))
 ·exact h.out.keep hk fun x hx => by simp; exact fun e => (h.ee x hx).2.2.1 (e ▸ hm)
 ·intro k' g' hg'
  obtain ⟨cs, hl, hc, hvs⟩ := h.inn k' g' hg'
  have hm' : g' ∈ D := List.mem_of_getElem? hg'
  have hD : ∀ x, x ∈ [g] → x ∈ D ∨ x ∈ Z ∨ w.heap.size ≤ x := fun x hx => by simp only [List.mem_singleton] at hx; subst hx; exact Or.inl hm
  by_cases e : g' = g
  ·subst e
   have hkk : k' = k := by
    have h1 := (List.getElem?_eq_some_iff.1 hg)
    have h2 := (List.getElem?_eq_some_iff.1 hg')
    exact (List.getElem_inj h.nodup).1 (h2.2.trans h1.2.symm)
   subst hkk
   refine ⟨cs.set i v, by simp [hl], by simp [World.setCell, Array.getElem?_modify, hc], fun i' u hu => ?_⟩
   rw [List.getElem?_set] at hu
   by_cases e2 : i = i'
   ·subst e2
    rw [if_pos rfl] at hu
    split at hu
    ·cases hu; exact Or.inr (hv.keep hk hD)
    ·cases hu
   ·rw [if_neg e2] at hu
    rcases hvs i' u hu with h | h
    ·exact Or.inl h
    ·exact Or.inr (h.keep hk hD)
  ·refine ⟨cs, hl, (hk.block g' (h.dlt g' hm') (by simp [e])).trans hc, fun i' u hu => ?_⟩
   rcases hvs i' u hu with h | h
   ·exact Or.inl h
   ·exact Or.inr (h.keep hk hD)
end Go.Proofs.YtnfojonmohijpaaGreatDoor
namespace Go.Proofs.YtnfojonmohijpaaGreatDoor
open Go.RowKit
theorem MN.le {s : ByteArray} {nds : List Nd} {J : JN} {i j : Nat} (h : MN s nds J i j) : i ≤ j := by
 induction h with
 | byte => omega
 | grp _ _ _ _ _ _ _ _ _ ih => exact ih
 | alt _ _ _ _ _ _ _ _ _ ih => exact ih
 | way _ _ _ _ _ _ _ ih => exact ih
 | rep _ _ _ _ _ _ _ _ _ _ _ _ ih => exact ih
 | rnil => omega
 | rcons _ _ _ _ _ _ _ i1 i2 => omega
 | izero => omega
 | isucc _ _ _ _ _ _ _ i1 i2 => omega
def EndsOk (s : ByteArray) (nds : List Nd) (n : Nat) : Prop := ∀ (k : Nat), NK nds n k → ∀ (w : World) (b bp : Nat) (p : PS) (D : List Nat) (E : Value) (Z : List Nat) (i : Nat), TX w b bp s p nds D E Z → (∀ x, x ∈ Z → x < w.heap.size) → i ≤ s.size →
 Calls Tryz.prog 48 #[.pointer (some ⟨b, 0, none⟩), .int .i64 k, .int .i64 i] w fun e w' => ∃ v, e = .returned v ∧ EA w' s nds D Z k i v ∧ TX w' b bp s p nds D E Z ∧ Keeps D w w'
structure OL (w1 wr : World) (s : ByteArray) (N : Nat) (nds : List Nd) (k h : Nat) (P0 : Nat → Bool) (fv : Value) (b bp : Nat) (p : PS) (D : List Nat) (E : Value) (Z : List Nat) (i : Nat) (f : Nat → Bool) : Prop where
 row : RB wr (.slice (some ⟨h, 0, none⟩) N N) N f
 frm : RB wr fv N P0
 tx : TX wr b bp s p nds D E (h :: Z)
 keep : Keeps (h :: D) w1 wr
 says : ∀ j, j ≤ s.size → (f j = true ↔ ∃ m, m < i ∧ P0 m = true ∧ MN s nds (.node k) m j)
structure IL (w2 wq : World) (s : ByteArray) (N : Nat) (nds : List Nd) (h x cc i : Nat) (fe f : Nat → Bool) (fv : Value) (P0 : Nat → Bool) (b bp : Nat) (p : PS) (D : List Nat) (E : Value) (Z : List Nat) (j : Nat) (f' : Nat → Bool) : Prop where
 row : RB wq (.slice (some ⟨h, 0, none⟩) N N) N f'
 ans : RB wq (.slice (some ⟨x, 0, none⟩) N cc) N fe
 frm : RB wq fv N P0
 tx : TX wq b bp s p nds D E (h :: Z)
 keep : Keeps [h] w2 wq
 says : ∀ m, m < N → (f' m = true ↔ f m = true ∨ (i ≤ m ∧ m < j ∧ fe m = true))
theorem IL.step {w2 wq : World} {s : ByteArray} {N : Nat} {nds : List Nd} {h x cc i : Nat} {fe f : Nat → Bool} {fv : Value} {P0 : Nat → Bool} {b bp : Nat} {p : PS} {D : List Nat} {E : Value} {Z : List Nat} {j : Nat} {f' : Nat → Bool}
    (L : IL w2 wq s N nds h x cc i fe f fv P0 b bp p D E Z j f') (hx : x ≠ h) (hf : fv.ownBlock ≠ some h) (hij : i ≤ j) {v : Bool} (hv : v = (f' j || fe j)) :
    IL w2 (wq.setCell ⟨h, j, none⟩ (.bool v)) s N nds h x cc i fe f fv P0 b bp p D E Z (j + 1) (fun m => if m = j then v else f' m) := by
 have hk : Keeps [h] wq (wq.setCell ⟨h, j, none⟩ (.bool v)) := (Keeps.refl [h] wq).setCell (p := ⟨h, j, none⟩) (by simp) _
 refine ⟨L.row.put j v, L.ans.keep hk ?_, L.frm.keep hk ?_, L.tx.keep hk ?_, L.keep.trans hk, ?_⟩
 ·intro g hg; simp only [Value.ownBlock, Option.some.injEq] at hg; subst hg; simp [hx]
 ·intro g hg; simp only [List.mem_singleton]; intro e; exact hf (e ▸ hg)
 ·intro y hy; simp only [List.mem_singleton] at hy; exact Or.inl (by simp [hy])
 ·intro m hm
  by_cases e : m = j
  ·subst e
   rw [if_pos rfl, hv, Bool.or_eq_true, L.says m hm]
   constructor
   ·rintro ((h | ⟨_, h, _⟩) | h)
    ·exact Or.inl h
    ·omega
    ·exact Or.inr ⟨hij, by omega, h⟩
   ·rintro (h | ⟨_, _, h⟩)
    ·exact Or.inl (Or.inl h)
    ·exact Or.inr h
  ·rw [if_neg e, L.says m hm]
   constructor
   ·rintro (h | ⟨h1, h2, h3⟩)
    ·exact Or.inl h
    ·exact Or.inr ⟨h1, by omega, h3⟩
   ·rintro (h | ⟨h1, h2, h3⟩)
    ·exact Or.inl h
    ·exact Or.inr ⟨h1, by omega, h3⟩
set_option maxRecDepth 100000 in
set_option maxHeartbeats 2000000 in
theorem on_any (s : ByteArray) (N : Nat) (HN : Hid (N = s.size + 1)) (nds : List Nd) (n : Nat) (IH : EndsOk s nds n) (k : Nat) (hk : NK nds n k) (w : World) (b bp : Nat) (p : PS) (D : List Nat) (E : Value) (Z : List Nat) (h : TX w b bp s p nds D E Z) (HZ : Hid (∀ x, x ∈ Z → x < w.heap.size))
    (g c : Nat) (P0 : Nat → Bool) (hP : RB w (.slice (some ⟨g, 0, none⟩) N c) N P0) (hgD : g ∉ D) :
    Calls Tryz.prog 138 #[.pointer (some ⟨b, 0, none⟩), .int .i64 k, .slice (some ⟨g, 0, none⟩) N c] w fun e w' =>
     ∃ x f, e = .returned (.slice (some ⟨x, 0, none⟩) N N) ∧ RB w' (.slice (some ⟨x, 0, none⟩) N N) N f ∧ w.heap.size ≤ x ∧ TX w' b bp s p nds D E Z ∧ Keeps D w w' ∧
      ∀ j, j ≤ s.size → (f j = true ↔ ∃ m, m ≤ s.size ∧ P0 m = true ∧ MN s nds (.node k) m j) := by
 obtain ⟨i0, hi0, hz0, hz1, hz2⟩ := info_parts infoBool
 obtain ⟨x0, x1, x2, x3⟩ := h.xb.main
 have hun := Tryz.underlying98
 have hs := h.small
 have hadd : (s.size : Int) + 1 ≤ 9223372036854775807 := by omega
 have hgl : g < w.heap.size := (World.ownsRow.lt hP g rfl).2
 have hDl := h.dlt
 go_enter Tryz.func138, Tryz.ntmps138
 go_wp2_with (first | (refine wpList_make_full w rfl _ _ 98 rfl 0 4 i0 (.bool false) 1 hun hi0 hz0 hz1 .i64 .i64 ((s.size : Int) + 1) ((s.size : Int) + 1) N rfl rfl (by have := HN.out; omega) (by have := HN.out; omega) (by have := HN.out; rw [hz2]; omega) (by have := HN.out; unfold maxLen; omega) (Nat.zero_le _) ?_))
 intro w1 hown hgr
 rw [bl_made] at hown
 have hk1 : Keeps [] w w1 := Keeps.ofGrownNone hgr
 have hL0 : OL w1 w1 s N nds k w.heap.size P0 (.slice (some ⟨g, 0, none⟩) N c) b bp p D E Z 0 (fun _ => false) :=
  ⟨hown, hP.keep hk1 (by simp), (h.less (Z' := w.heap.size :: Z) (by intro x hx; simp at hx; rcases hx with rfl | hx; exact Or.inr (Nat.le_refl _); exact Or.inl hx)).keep hk1 (by simp), Keeps.refl _ _, fun j _ => by simp⟩
 have hsz1 := hk1.size
 have hNm : (N : Int) ≤ 101 := by have := HN.out; omega
 clear hown hgr x0 x1 x2 x3 hP hadd hs
 go_wp2_with fail
 go_loopw [8] (fun q wr => ∃ (i : Nat) (f : Nat → Bool), i ≤ N ∧ q = .int .i64 i ∧ OL w1 wr s N nds k w.heap.size P0 (.slice (some ⟨g, 0, none⟩) N c) b bp p D E Z i f) (fun q _ => N - (intOf q).toNat)
 case atStart => exact ⟨0, _, by omega, rfl, hL0⟩
 case round =>
  clear hL0
  obtain ⟨i, f, hi, rfl, L⟩ := hrel
  by_cases hil : i < N
  ·have hi0' : (0 : Int) ≤ (i : Int) := by omega
   have hi1' : (i : Int) < (N : Int) := by omega
   have hci := L.frm.at hil
   have HI : Hid (i < N) := hil
   have hhD : w.heap.size ∉ D := fun hm => by have := hDl _ hm; omega
   cases hPi : P0 i
   ·rw [hPi] at hci
    have hL' : OL w1 wr s N nds k w.heap.size P0 (.slice (some ⟨g, 0, none⟩) N c) b bp p D E Z (i + 1) f := ⟨L.row, L.frm, L.tx, L.keep, fun j hj => by
      rw [L.says j hj]
      constructor
      · rintro ⟨m, a, b⟩; exact ⟨m, by omega, b⟩
      · rintro ⟨m, a, b, d⟩
        refine ⟨m, ?_, b, d⟩
        rcases Nat.lt_or_ge m i with h | h
        · exact h
        · have : m = i := by omega
          subst this; rw [hPi] at b; cases b⟩
    clear L hi hil hPi
    go_wp2_with fail
    exact ⟨⟨i + 1, f, HI.out, by go_num, hL'⟩, by have := HI.out; simp [intOf]; omega⟩
   ·rw [hPi] at hci
    have hLr := L.row
    have hLf := L.frm
    have hLt := L.tx
    have hLk := L.keep
    have HLS : Hid (∀ j, j ≤ s.size → (f j = true ↔ ∃ m, m < i ∧ P0 m = true ∧ MN s nds (.node k) m j)) := L.says
    have HPi : Hid (P0 i = true) := hPi
    clear L hi hil hPi h
    go_wp2_with fail
    refine (IH k hk wr b bp p D E (w.heap.size :: Z) i hLt (by intro x hx; have h1 : w.heap.size < wr.heap.size := (World.ownsRow.lt hLr _ rfl).2; rcases List.mem_cons.1 hx with rfl | hx; exact h1; have := HZ.out x hx; omega) (by have := HI.out; have := HN.out; omega)).mono ?_
    rintro e w2 ⟨v, rfl, hEA, htx, hk2⟩
    obtain ⟨x, cc, fe, hve, hRe, hxD, hxZ, hsay⟩ := hEA
    rw [← HN.out] at hve hRe
    subst hve
    have hrow2 := hLr.keep hk2 (by intro y hy; simp only [Value.ownBlock, Option.some.injEq] at hy; subst hy; exact hhD)
    have hfrm2 := hLf.keep hk2 (by intro y hy; simp only [Value.ownBlock, Option.some.injEq] at hy; subst hy; exact hgD)
    have hxh : x ≠ w.heap.size := fun e => hxZ (by simp [e])
    have hkw : Keeps (w.heap.size :: D) w1 w2 := hLk.trans (hk2.mono (by intro y hy; simp [hy]))
    have HSY : Hid (∀ j, j ≤ s.size → (fe j = true ↔ MN s nds (.node k) i j)) := hsay
    clear hLr hLf hLt hLk hk2 hsay hci
    obtain ⟨wr0, hwr0⟩ : ∃ wr0 : World, wr0 = wr := ⟨_, rfl⟩
    subst hwr0
    have hIL0 : IL w2 w2 s N nds w.heap.size x cc i fe f (.slice (some ⟨g, 0, none⟩) N c) P0 b bp p D E Z i f := ⟨hrow2, hRe, hfrm2, htx, Keeps.refl _ _, fun m _ => by
      constructor
      · exact Or.inl
      · rintro (h | ⟨_, h, _⟩)
        · exact h
        · omega⟩
    have hfg : (Value.slice (some ⟨g, 0, none⟩) N c).ownBlock ≠ some w.heap.size := by simp only [Value.ownBlock, ne_eq, Option.some.injEq]; omega
    clear hrow2 hRe hfrm2 htx
    go_wp2_with fail
    go_loopw [10] (fun q wq => ∃ (j : Nat) (f' : Nat → Bool), i ≤ j ∧ j ≤ N ∧ q = .int .i64 j ∧ IL w2 wq s N nds w.heap.size x cc i fe f (.slice (some ⟨g, 0, none⟩) N c) P0 b bp p D E Z j f') (fun q _ => N - (intOf q).toNat)
    case atStart => exact ⟨i, f, by omega, by have := HI.out; omega, rfl, hIL0⟩
    case round =>
     clear hIL0
     obtain ⟨j, f', hij, hj, rfl, L⟩ := hrel
     by_cases hjl : j < N
     ·have hj0' : (0 : Int) ≤ (j : Int) := by omega
      have hj1' : (j : Int) < (N : Int) := by omega
      have ho := L.row.at hjl
      have hoz := L.row.frozen j
      have he := L.ans.at hjl
      have HJ : Hid (j < N) := hjl
      have HIJ : Hid (i ≤ j) := hij
      cases h1 : f' j
      all_goals
       cases h2 : fe j
       all_goals
        rw [h1] at ho
        rw [h2] at he
        have hLs := L.step hxh hfg hij (v := f' j || fe j) rfl
        rw [h1, h2] at hLs
        have HLs : Hid (IL w2 (wr.setCell ⟨w.heap.size, j, none⟩ (.bool (f' j || fe j))) s N nds w.heap.size x cc i fe f (.slice (some ⟨g, 0, none⟩) N c) P0 b bp p D E Z (j + 1) (fun m => if m = j then (f' j || fe j) else f' m)) := L.step hxh hfg hij rfl
        rw [h1, h2] at HLs
        clear hLs L hj hjl hij h1 h2
        go_wp2_with fail
        go_roundw
        case rel => exact ⟨j + 1, _, by have := HIJ.out; omega, HJ.out, by go_num, HLs.out⟩
        case measure => have := HJ.out; simp [intOf]; omega
     ·have hje : j = N := by omega
      have hnj : ¬ (j : Int) < (N : Int) := by omega
      have hOL : OL w1 wr s N nds k w.heap.size P0 (.slice (some ⟨g, 0, none⟩) N c) b bp p D E Z (i + 1) f' := ⟨L.row, L.frm, L.tx, hkw.trans (L.keep.mono (by intro y hy; simp at hy; simp [hy])), fun m hm => by
        have hmN : m < N := by have := HN.out; omega
        rw [L.says m hmN, HLS.out m hm, hje]
        constructor
        · rintro (⟨m', a, b'⟩ | ⟨a, _, b'⟩)
          · exact ⟨m', by omega, b'⟩
          · exact ⟨i, by omega, HPi.out, (HSY.out m hm).1 b'⟩
        · rintro ⟨m', a, b', d⟩
          rcases Nat.lt_or_ge m' i with h | h
          · exact Or.inl ⟨m', h, b', d⟩
          · have : m' = i := by omega
            subst this
            exact Or.inr ⟨d.le, hmN, (HSY.out m hm).2 d⟩⟩
      clear L hje hjl hj
      go_wp2_with fail
      exact ⟨⟨i + 1, f', HI.out, by go_num, hOL⟩, by have := HI.out; simp [intOf]; omega⟩
  ·have hie : i = N := by omega
   have hNn := HN.out
   have hni : ¬ (i : Int) < (N : Int) := by omega
   have hends : ∀ j, j ≤ s.size → (f j = true ↔ ∃ m, m ≤ s.size ∧ P0 m = true ∧ MN s nds (.node k) m j) := by
    intro j hj
    rw [L.says j hj]
    constructor
    ·rintro ⟨m, a, b⟩; exact ⟨m, by omega, b⟩
    ·rintro ⟨m, a, b⟩; exact ⟨m, by omega, b⟩
   have hrow := L.row
   have htx := L.tx.less (Z' := Z) (by intro x hx; exact Or.inl (by simp [hx]))
   have hkk : Keeps D w wr := keepsM (hk1.mono (by simp)) L.keep (by intro x hx; simp at hx; rcases hx with rfl | hx; exact Or.inr (Nat.le_refl _); exact Or.inl hx)
   clear L hil hi hk1 h hie hNn
   go_wp2_with fail
   go_ret
   exact ⟨_, rfl, f, hrow, Nat.le_refl _, htx, hkk, hends⟩
end Go.Proofs.YtnfojonmohijpaaGreatDoor
