/-
  DERIVED. The program's longest: the test that it hands to slices.IndexFunc, that one, and its own answer. Conditions: the matchers lie in memory, the text is at most 100 bytes long.
-/
import Derived.Test.YtnfojonmohijpabGreatDoorJSpec
import Derived.Test.YtnfojonmohijpabGreatDoorJNS
import Derived.Test.YtnfojonmohijpabGreatDoorJPW
import Derived.Test.YtnfojonmohijpabGreatDoorJNQ
set_option linter.unusedSimpArgs false
set_option linter.unusedVariables false
namespace Go.Proofs.YtnfojonmohijpabGreatDoor
open Go.RowKit
structure MaM (w : World) (S : Nat → Prop) (s : ByteArray) (N : Nat) (v : Value) (cs : List Value) (Ws : List Whole) : Prop where
 own : w.ownsRow 0 67 7 v Ws.length cs
 parts : ∀ (k : Nat) (W : Whole), Ws[k]? = some W → ∃ u a c, u.oneCell' = true ∧ a.oneCell' = true ∧ c.oneCell' = true ∧ (∀ q x, (mat W u s a c).toList[q]? = some x → cs[k * 7 + q]? = some x) ∧ Mk w (fun z => S z ∧ v.ownBlock ≠ some z) s N .ways W.x [a, c]
theorem MaM.keep {w w' : World} {S : Nat → Prop} {s : ByteArray} {N : Nat} {v : Value} {cs : List Value} {Ws : List Whole} (h : MaM w S s N v cs Ws) (hk : Keeps [] w w') : MaM w' S s N v cs Ws :=
 ⟨h.own.keep hk (by simp), fun k W hW => by
   obtain ⟨u, a, c, h1, h2, h3, h4, h5⟩ := h.parts k W hW
   exact ⟨u, a, c, h1, h2, h3, h4, h5.keep hk (by simp)⟩⟩
theorem MaM.cells {w : World} {S : Nat → Prop} {s : ByteArray} {N : Nat} {g n c : Nat} {cs : List Value} {Ws : List Whole} (h : MaM w S s N (.slice (some ⟨g, 0, none⟩) n c) cs Ws) {k : Nat} {W : Whole} {u a d : Value} (hn : n = Ws.length) (hk : k < Ws.length) (hq : ∀ q x, (mat W u s a d).toList[q]? = some x → cs[k * 7 + q]? = some x) : w.rangeAt g (k * 7) (mat W u s a d).toList := fun q x hx => by
 subst hn
 have h7 : q < 7 := (List.getElem?_eq_some_iff.1 hx).1
 have hlt : k * 7 + q < Ws.length * 7 := by omega
 exact (World.ownsRow.cellAt h.own (k * 7 + q) hlt).trans (hq q x hx)
theorem cf_lng1 : ∀ args w1, (callFunc 59 args).run Tryz.prog w1 = .ok (.enter 59 args) w1 := fun args w1 => by
 kernel_rfl
set_option maxRecDepth 100000 in
set_option maxHeartbeats 2000000 in
theorem lng1_any (s : ByteArray) (N : Nat) (HN : Hid (N = s.size + 1)) (hs : s.size ≤ 100) (W : Whole) (u a c : Value) (S : Nat → Prop) (bf bt i j : Nat) (hi : i ≤ s.size) (hj : j ≤ s.size) (w : World) (hu : u.oneCell' = true) (ha : a.oneCell' = true) (hc : c.oneCell' = true) (hm : Mk w S s N .ways W.x [a, c]) (hbf : w.cell? ⟨bf, 0, none⟩ = some (.int .i64 i)) (hbt : w.cell? ⟨bt, 0, none⟩ = some (.int .i64 j)) :
    Calls Tryz.prog 59 #[.agg (mat W u s a c), .pointer (some ⟨bf, 0, none⟩), .pointer (some ⟨bt, 0, none⟩)] w fun e w' => ∃ b, e = .returned (.bool b) ∧ (b = true ↔ Mt s W.x i j) ∧ Keeps [] w w' := by
 have hq0 : (w.alloc (.cells (mat W u s a c) 67)).heap[w.heap.size]? = some (.cells (mat W u s a c) 67 (0, 0)) := heap_alloc_new w _
 have hk0 : Keeps [] w (w.alloc (.cells (mat W u s a c) 67)) := (Keeps.refl [] w).alloc _
 have hf0 := keep_cell hk0 hbf
 have ht0 := keep_cell hk0 hbt
 have hm0 := hm.keep hk0 (by simp)
 have hi7 : (Tryz.prog.info? 67).map (·.size) = some (mat W u s a c).size := by unfold mat; exact info7 _ _ _ _ _ _ _
 have hall : (mat W u s a c).all (·.oneCell') = true := by unfold mat; exact all7 rfl rfl hu rfl rfl ha hc
 generalize hM : mat W u s a c = M at *
 go_enter Tryz.func59, Tryz.ntmps59
 go_upto_region 1 with (fail)
 generalize w.alloc (.cells M 67) = X at *
 obtain ⟨gb, hgb⟩ : ∃ g, w.heap.size = g := ⟨_, rfl⟩
 rw [hgb] at hq0 ⊢
 clear hgb
 go_wp2_with (first | (refine wpList_load_row rfl 67 _ rfl gb rfl _ _ _ _ hq0 Tryz.underlying67 rfl hi7 ?_))
 rw [← hM]
 refine (canM_any s N HN hs W u a c S X hm0 i j hi hj).mono ?_
 rintro e w1 ⟨b, rfl, hb, hk1⟩
 have hkE := hk0.trans hk1
 have HB : Hid (b = true ↔ Mt s W.x i j) := hb
 clear hb hk1 hk0
 go_wp2_with fail
 go_ret
 exact ⟨b, rfl, HB.out, hkE⟩
def FirstM (s : ByteArray) (Ws : List Whole) (n : Nat) (i j : Nat) (z : Int) : Prop :=
 (∃ (p : Nat) (W : Whole), z = (p : Int) ∧ p < n ∧ Ws[p]? = some W ∧ Mt s W.x i j ∧ ∀ (k : Nat) (V : Whole), k < p → Ws[k]? = some V → ¬ Mt s V.x i j) ∨ (z = -1 ∧ ∀ (k : Nat) (V : Whole), k < n → Ws[k]? = some V → ¬ Mt s V.x i j)
set_option maxRecDepth 100000 in
set_option maxHeartbeats 2000000 in
theorem indexMat_any (s : ByteArray) (N : Nat) (HN : Hid (N = s.size + 1)) (hs : s.size ≤ 100) (Ws : List Whole) (cs : List Value) (S : Nat → Prop) (g n c bf bt i j : Nat) (hn : n = Ws.length) (h8 : n ≤ 8) (hi : i ≤ s.size) (hj : j ≤ s.size) (w : World) (hm : MaM w S s N (.slice (some ⟨g, 0, none⟩) n c) cs Ws) (hbf : w.cell? ⟨bf, 0, none⟩ = some (.int .i64 i)) (hbt : w.cell? ⟨bt, 0, none⟩ = some (.int .i64 j)) :
    Calls Tryz.prog 58 #[.slice (some ⟨g, 0, none⟩) n c, .func (.func 59) #[] #[.pointer (some ⟨bf, 0, none⟩), .pointer (some ⟨bt, 0, none⟩)]] w fun e w' => ∃ z : Int, e = .returned (.int .i64 z) ∧ FirstM s Ws n i j z ∧ Keeps [] w w' := by
 have hcf := cf_lng1
 have h8' : (n : Int) ≤ 8 := by omega
 have HL : Hid (n = Ws.length) := hn
 go_enter Tryz.func58, Tryz.ntmps58
 clear hn h8
 go_wp2_with fail
 go_loopw [5, 8] (fun _ q wr => ∃ k : Nat, k ≤ n ∧ q = .int .i64 k ∧ Hid (∀ (d : Nat) (V : Whole), d < k → Ws[d]? = some V → ¬ Mt s V.x i j) ∧ Keeps [] w wr) (fun _ q _ => n - (intOf q).toNat)
 case atStart => exact ⟨0, Nat.zero_le _, rfl, fun d z h => by omega, Keeps.refl _ _⟩
 case round =>
  obtain ⟨k, hk, rfl, HA, hK⟩ := hrel
  by_cases hlt : k < n
  ·obtain ⟨W, hW⟩ : ∃ W, Ws[k]? = some W := ⟨_, List.getElem?_eq_getElem (by have := HL.out; omega)⟩
   have hmk := hm.keep hK
   obtain ⟨u, a, d, hu, ha, hd, hq, hmm⟩ := hmk.parts k W hW
   have hrg := hmk.cells HL.out (by have := HL.out; omega) hq
   have hC := lng1_any s N HN hs W u a d _ bf bt i j hi hj wr hu ha hd hmm (keep_cell hK hbf) (keep_cell hK hbt)
   have hi2 : (Tryz.prog.info? 67).map (·.size) = some (mat W u s a d).toList.length := by unfold mat; exact info7 _ _ _ _ _ _ _
   have hk0 : (0 : Int) ≤ (k : Int) := by omega
   have hk1 : (k : Int) < (n : Int) := by omega
   have HK : Hid (k < n) := hlt
   have HY : Hid (Ws[k]? = some W) := hW
   clear hk hlt hW hmk hq hmm hu ha hd
   generalize hM : mat W u s a d = M at *
   go_wp2_with (first | (refine wpList_load_mid rfl 67 _ rfl g (k * 7) rfl _ _ hrg Tryz.underlying67 rfl hi2 ?_))
   refine hC.mono ?_
   rintro e w2 ⟨b, rfl, hb, hk2⟩
   have hK2 := hK.trans hk2
   cases b with
   | true =>
    have HM : Hid (Mt s W.x i j) := hb.1 rfl
    clear hb hC hrg
    go_wp2_with fail
    go_ret
    exact ⟨k, rfl, Or.inl ⟨k, W, rfl, HK.out, HY.out, HM.out, HA.out⟩, hK2⟩
   | false =>
    have HM : Hid (¬ Mt s W.x i j) := fun h => by have := hb.2 h; cases this
    have HA2 : Hid (∀ (d : Nat) (V : Whole), d < k + 1 → Ws[d]? = some V → ¬ Mt s V.x i j) := fun d z hd hz => by
     by_cases e : d < k
     ·exact HA.out d z e hz
     ·have : d = k := by omega
      subst this
      have h := HY.out
      rw [h] at hz
      cases hz
      exact HM.out
    clear hb hC hrg
    go_wp2_with fail
    exact ⟨⟨k + 1, HK.out, by go_num, HA2.out, hK2⟩, by have := HK.out; simp [intOf]; omega⟩
  ·have he : k = n := by omega
   subst he
   clear hk hlt
   go_wp2_with fail
   go_ret
   exact ⟨-1, rfl, Or.inr ⟨rfl, HA.out⟩, hK⟩
def muC (w : World) (b : Nat) : Nat := match w.cell? ⟨b, 0, none⟩ with
 | some v => (intOf v).toNat
 | none => 0
theorem muC_eq {w : World} {b k : Nat} (h : w.cell? ⟨b, 0, none⟩ = some (.int .i64 k)) : muC w b = k := by simp [muC, h, intOf]
theorem cellI {Y : World} {b : Nat} {z : Int} (h : Y.heap[b]? = some (.cells #[.int .i64 z] 3 (0, 0))) : Y.cell? ⟨b, 0, none⟩ = some (.int .i64 z) := by rw [Lib.cell_of_heap h]; rfl
theorem frozI {Y : World} {b : Nat} {z : Int} (h : Y.heap[b]? = some (.cells #[.int .i64 z] 3 (0, 0))) : Y.frozen? ⟨b, 0, none⟩ = false := by simp [World.frozen?, h]
theorem results_lng (tmps : Array Value) (w : World) (g : Nat) (v : Value) (y : Int) (h2 : tmps.getD 6 undef = v) (h3 : tmps.getD 7 undef = .pointer (some ⟨g, 0, none⟩)) (hy : w.cell? ⟨g, 0, none⟩ = some (.int .i64 y)) :
    (results Tryz.f30 tmps).run Tryz.prog w = .ok (.tuple #[v, .int .i64 y]) w := by
 have h : Tryz.f30.results = #[.tmp 6, .cell 7 3] := rfl
 have e2 : tmps[6]?.getD undef = v := by simpa using h2
 have e3 : tmps[7]?.getD undef = .pointer (some ⟨g, 0, none⟩) := by simpa using h3
 have l3 := loadInt 3 (Or.inl rfl) _ y w hy
 simp [results, h, e2, e3, asAddr, l3]
theorem FirstM.best {s : ByteArray} {Ws : List Whole} {n i j p : Nat} (h : FirstM s Ws n i j (p : Int)) (hij : i < j) (hj : j ≤ s.size) (hno : ∀ (m k : Nat) (W : Whole), j < m → m ≤ s.size → Ws[k]? = some W → ¬ Mt s W.x i m) : BestT s (Ws.map (·.x)) i p j := by
 rcases h with ⟨p', W, h1, h2, h3, h4, h5⟩ | ⟨h1, _⟩
 ·have : p = p' := by omega
  subst this
  refine ⟨hij, hj, ⟨W.x, by rw [List.getElem?_map, h3]; rfl, h4⟩, fun k x hk hx => ?_, fun m k x hm hms hx => ?_⟩
  ·rw [List.getElem?_map] at hx
   cases hw : Ws[k]? with
   | none => rw [hw] at hx; cases hx
   | some V => rw [hw] at hx; cases hx; exact h5 k V hk hw
  ·rw [List.getElem?_map] at hx
   cases hw : Ws[k]? with
   | none => rw [hw] at hx; cases hx
   | some V => rw [hw] at hx; cases hx; exact hno m k V hm hms hw
 ·omega
theorem noneT_of {s : ByteArray} {Ws : List Whole} {i : Nat} (hno : ∀ (m k : Nat) (W : Whole), i < m → m ≤ s.size → Ws[k]? = some W → ¬ Mt s W.x i m) : NoneT s (Ws.map (·.x)) i := fun m k x hm hms hx => by
 rw [List.getElem?_map] at hx
 cases hw : Ws[k]? with
 | none => rw [hw] at hx; cases hx
 | some V => rw [hw] at hx; cases hx; exact hno m k V hm hms hw
set_option maxRecDepth 100000 in
set_option maxHeartbeats 4000000 in
theorem lngst_any (s : ByteArray) (N : Nat) (HN : Hid (N = s.size + 1)) (hs : s.size ≤ 100) (Ws : List Whole) (cs : List Value) (S : Nat → Prop) (g n c i : Nat) (hn : n = Ws.length) (h8 : n ≤ 8) (hi : i ≤ s.size) (w : World) (hm : MaM w S s N (.slice (some ⟨g, 0, none⟩) n c) cs Ws) :
    Calls Tryz.prog 30 #[.slice (some ⟨g, 0, none⟩) n c, .int .i64 i, .int .i64 s.size] w fun e w' => ∃ r j : Nat, e = .returned (.tuple #[.int .i64 r, .int .i64 j]) ∧ ((r < n ∧ BestT s (Ws.map (·.x)) i r j) ∨ (j = i ∧ NoneT s (Ws.map (·.x)) i)) ∧ Keeps [] w w' := by
 have HNn : Hid (n = Ws.length ∧ n ≤ 8) := ⟨hn, h8⟩
 have hk0 : Keeps [] w ((w.alloc (.cells #[.int .i64 i] 3)).alloc (.cells #[.int .i64 0] 3)) := ((Keeps.refl [] w).alloc _).alloc _
 have hz0 : ((w.alloc (.cells #[.int .i64 i] 3)).alloc (.cells #[.int .i64 0] 3)).heap[w.heap.size]? = some (.cells #[.int .i64 i] 3 (0, 0)) := heap_alloc2_old w _ _
 have hz1 : ((w.alloc (.cells #[.int .i64 i] 3)).alloc (.cells #[.int .i64 0] 3)).heap[w.heap.size + 1]? = some (.cells #[.int .i64 0] 3 (0, 0)) := heap_alloc2_new w _ _
 have hs' : (s.size : Int) ≤ 100 := by omega
 have hiI : (i : Int) ≤ 100 := by omega
 have HI : Hid (i ≤ s.size ∧ s.size ≤ 100) := ⟨hi, hs⟩
 have h8' : (n : Int) ≤ 8 := by omega
 clear hn h8
 go_enter Tryz.func30, Tryz.ntmps30
 go_upto_region 1 with (fail)
 generalize (w.alloc (.cells #[.int .i64 i] 3)).alloc (.cells #[.int .i64 0] 3) = X at *
 obtain ⟨bf, hbf⟩ : ∃ b, w.heap.size = b := ⟨_, rfl⟩
 rw [hbf] at hz0 hz1 ⊢
 obtain ⟨bt, hbt⟩ : ∃ b, bf + 1 = b := ⟨_, rfl⟩
 rw [hbt] at hz1 ⊢
 have hne : bt ≠ bf := by omega
 have hlo : w.heap.size ≤ bt := by omega
 have hlof : w.heap.size ≤ bf := by omega
 clear hbf hbt hi hs
 have c1 : X.cell? ⟨bt, 0, none⟩ = some (.int .i64 0) := by rw [Lib.cell_of_heap hz1]; rfl
 have f1 : X.frozen? ⟨bt, 0, none⟩ = false := by simp [World.frozen?, hz1]
 have hX1 : Keeps [bt] X (X.setCell ⟨bt, 0, none⟩ (.int .i64 s.size)) := (Keeps.refl [bt] X).setCell (p := ⟨bt, 0, none⟩) (by simp) _
 have hb1 : (X.setCell ⟨bt, 0, none⟩ (.int .i64 s.size)).heap[bt]? = some (.cells #[.int .i64 s.size] 3 (0, 0)) := by simp [World.setCell, Array.getElem?_modify, hz1]
 have hf1 := (hX1.block bf (Array.getElem?_eq_some_iff.1 hz0).1 (by simp; exact fun e => hne e.symm)).trans hz0
 have hkS : Keeps [] w (X.setCell ⟨bt, 0, none⟩ (.int .i64 s.size)) := keepsM hk0 hX1 (by intro x hx; simp at hx; omega)
 go_wp2_with fail
 generalize X.setCell ⟨bt, 0, none⟩ (.int .i64 s.size) = W1 at *
 go_loopw [6] (fun q6 wr => ∃ k : Nat, i ≤ k ∧ k ≤ s.size ∧ wr.heap[bt]? = some (.cells #[.int .i64 k] 3 (0, 0)) ∧ wr.heap[bf]? = some (.cells #[.int .i64 i] 3 (0, 0)) ∧ Hid (∀ (m q : Nat) (W : Whole), k < m → m ≤ s.size → Ws[q]? = some W → ¬ Mt s W.x i m) ∧ Keeps [] w wr) (fun _ wr => muC wr bt)
 case atStart => exact ⟨s.size, HI.out.1, Nat.le_refl _, hb1, hf1, fun m q W h1 h2 => by omega, hkS⟩
 case round =>
  clear hb1 hf1 hkS hX1 c1 f1 hz0 hz1 hk0
  obtain ⟨k, hik, hks, hbk, hfk, HA, hK⟩ := hrel
  have cT := cellI hbk
  have cF := cellI hfk
  have fT := frozI hbk
  have hmu := muC_eq cT
  by_cases hlt : i < k
  ·have hik' : (i : Int) < (k : Int) := by omega
   have hkI : (k : Int) ≤ 100 := by have := HI.out; omega
   have hC := indexMat_any s N HN HI.out.2 Ws cs S g n c bf bt i k HNn.out.1 HNn.out.2 HI.out.1 hks wr (hm.keep hK) cF cT
   have HK : Hid (i < k ∧ k ≤ s.size) := ⟨hlt, hks⟩
   clear hik hks hlt
   go_wp2_with fail
   refine hC.mono ?_
   rintro e w2 ⟨z, rfl, hz, hk2⟩
   have hK2 := hK.trans hk2
   have hb2 := (hk2.block bt (Array.getElem?_eq_some_iff.1 hbk).1 (by simp)).trans hbk
   have hf2 := (hk2.block bf (Array.getElem?_eq_some_iff.1 hfk).1 (by simp)).trans hfk
   have cT2 := cellI hb2
   have cF2 := cellI hf2
   have fT2 := frozI hb2
   have HZ : Hid (FirstM s Ws n i k z) := hz
   have hzc : (∃ p : Nat, z = (p : Int) ∧ p < n) ∨ z = -1 := by
    rcases hz with ⟨p, _, h1, h2, _⟩ | ⟨h1, _⟩
    ·exact Or.inl ⟨p, h1, h2⟩
    ·exact Or.inr h1
   clear hC hz hk2 cT cF fT hbk hfk
   rcases hzc with ⟨p, rfl, hp⟩ | rfl
   ·have hp0 : (0 : Int) ≤ (p : Int) := by omega
    have hp8 : (p : Int) ≤ 8 := by omega
    have HB : Hid (p < n ∧ BestT s (Ws.map (·.x)) i p k) := ⟨hp, HZ.out.best HK.out.1 HK.out.2 HA.out⟩
    have hS : Keeps [bt] w2 (w2.setCell ⟨bt, 0, none⟩ (.int .i64 k)) := (Keeps.refl [bt] w2).setCell (p := ⟨bt, 0, none⟩) (by simp) _
    have hkE : Keeps [] w (w2.setCell ⟨bt, 0, none⟩ (.int .i64 k)) := keepsM hK2 hS (by intro x hx; simp at hx; omega)
    have r1 : (w2.setCell ⟨bt, 0, none⟩ (.int .i64 k)).cell? ⟨bt, 0, none⟩ = some (.int .i64 k) := World.cell?_setCell_same _ _ _ cT2
    go_upto_region 6 with (fail)
    have cT3 : w2.drew.cell? ⟨bt, 0, none⟩ = some (.int .i64 k) := cT2
    have fT3 : w2.drew.frozen? ⟨bt, 0, none⟩ = false := fT2
    have r2 : (w2.setCell ⟨bt, 0, none⟩ (.int .i64 k)).drew.cell? ⟨bt, 0, none⟩ = some (.int .i64 k) := r1
    have hkF : Keeps [] w (w2.setCell ⟨bt, 0, none⟩ (.int .i64 k)).drew := hkE.trans ((Keeps.refl [] _).drewN 1)
    go_region
    all_goals
     clear hS hkE r1 cT2 cF2 fT2 cT3 fT3 hb2 hf2 hK2
     generalize (w2.setCell ⟨bt, 0, none⟩ (.int .i64 k)).drew = Y at *
     go_wp2_with fail
     refine bodyPost_ret (results_lng _ _ bt _ k rfl rfl r2) rfl ?_
     exact ⟨p, k, rfl, Or.inl HB.out, hkF⟩
   ·have HNo : Hid (∀ (m q : Nat) (W : Whole), k - 1 < m → m ≤ s.size → Ws[q]? = some W → ¬ Mt s W.x i m) := fun m q W h1 h2 h3 => by
       by_cases e : k < m
       ·exact HA.out m q W e h2 h3
       ·have : m = k := by have := HK.out; omega
        subst this
        rcases HZ.out with ⟨p, _, h, _⟩ | ⟨_, h⟩
        ·omega
        ·exact h q W (by have := HNn.out.1; have := (List.getElem?_eq_some_iff.1 h3).1; omega) h3
    obtain ⟨k', hk'⟩ : ∃ k', k = k' + 1 := ⟨k - 1, by have := HK.out; omega⟩
    subst hk'
    have hS : Keeps [bt] w2 (w2.setCell ⟨bt, 0, none⟩ (.int .i64 (k' : Int))) := (Keeps.refl [bt] w2).setCell (p := ⟨bt, 0, none⟩) (by simp) _
    have hkE : Keeps [] w (w2.setCell ⟨bt, 0, none⟩ (.int .i64 (k' : Int))) := keepsM hK2 hS (by intro x hx; simp at hx; omega)
    have hb3 : (w2.setCell ⟨bt, 0, none⟩ (.int .i64 (k' : Int))).heap[bt]? = some (.cells #[.int .i64 k'] 3 (0, 0)) := by simp [World.setCell, Array.getElem?_modify, hb2]
    have hf3 := (hS.block bf (Array.getElem?_eq_some_iff.1 hf2).1 (by simp; exact fun e => hne e.symm)).trans hf2
    clear hb2 hf2 hK2 hS
    go_wp2_with fail
    go_roundw
    case rel => exact ⟨k', by have := HK.out; omega, by have := HK.out; omega, hb3, hf3, HNo.out, hkE⟩
    case measure => rw [hmu, muC_eq (cellI hb3)]; omega
  ·have he : k = i := by omega
   subst he
   have HB : Hid (NoneT s (Ws.map (·.x)) k) := noneT_of HA.out
   clear hik hks hlt
   go_upto_region 7 with (fail)
   have cT3 : wr.drew.cell? ⟨bt, 0, none⟩ = some (.int .i64 k) := cT
   have cF3 : wr.drew.cell? ⟨bf, 0, none⟩ = some (.int .i64 k) := cF
   have fT3 : wr.drew.frozen? ⟨bt, 0, none⟩ = false := fT
   have hS : Keeps [bt] wr (wr.setCell ⟨bt, 0, none⟩ (.int .i64 k)) := (Keeps.refl [bt] wr).setCell (p := ⟨bt, 0, none⟩) (by simp) _
   have hkF : Keeps [] w (wr.setCell ⟨bt, 0, none⟩ (.int .i64 k)).drew := (keepsM hK hS (by intro x hx; simp at hx; omega)).trans ((Keeps.refl [] _).drewN 1)
   have r2 : (wr.setCell ⟨bt, 0, none⟩ (.int .i64 k)).drew.cell? ⟨bt, 0, none⟩ = some (.int .i64 k) := World.cell?_setCell_same _ _ _ cT
   go_region
   all_goals
    clear hS cT cF fT cT3 cF3 fT3 hK hbk hfk hmu
    generalize (wr.setCell ⟨bt, 0, none⟩ (.int .i64 k)).drew = Y at *
    go_wp2_with fail
    refine bodyPost_ret (results_lng _ _ bt _ k rfl rfl r2) rfl ?_
    exact ⟨0, k, rfl, Or.inr ⟨rfl, HB.out⟩, hkF⟩
end Go.Proofs.YtnfojonmohijpabGreatDoor
namespace Go.Proofs.YtnfojonmohijpabGreatDoor
open Go.RowKit
inductive TV (w : World) (S : Nat → Prop) : Bool → Tr → List Value → Prop
 | tnil : TV w S true .tnil [.int .u8 101, .int .i64 0, .slice none 0 0]
 | tbyte (b : Nat) : b < 256 → TV w S true (.tbyte b) [.int .u8 98, .int .i64 b, .slice none 0 0]
 | tgrp (k : Nat) (x : Tr) (v : Value) (cs : List Value) : k ≤ 9 → TV w S true x cs → w.ownsRow 0 75 3 v 1 cs → (∀ g, v.ownBlock = some g → S g) → TV w S true (.tgrp k x) [.int .u8 103, .int .i64 k, v]
 | talt (p : Nat) (x : Tr) (v : Value) (cs : List Value) : TV w S true x cs → w.ownsRow 0 75 3 v 1 cs → (∀ g, v.ownBlock = some g → S g) → TV w S true (.talt p x) [.int .u8 97, .int .i64 p, v]
 | tser (l : Tr) (v : Value) (n : Nat) (cs : List Value) : TV w S false l cs → w.ownsRow 0 75 3 v n cs → (∀ g, v.ownBlock = some g → S g) → TV w S true (.tser l) [.int .u8 115, .int .i64 0, v]
 | trep (l : Tr) (v : Value) (n : Nat) (cs : List Value) : TV w S false l cs → w.ownsRow 0 75 3 v n cs → (∀ g, v.ownBlock = some g → S g) → TV w S true (.trep l) [.int .u8 114, .int .i64 0, v]
 | lnil : TV w S false .lnil []
 | lcons (x r : Tr) (cs ds : List Value) : TV w S true x cs → TV w S false r ds → TV w S false (.lcons x r) (cs ++ ds)
theorem TV.keep {w w' : World} {S : Nat → Prop} {L : List Nat} {b : Bool} {t : Tr} {cs : List Value} (h : TV w S b t cs) (hk : Keeps L w w') (hs : ∀ g, S g → g ∉ L) : TV w' S b t cs := by
 induction h with
 | tnil => exact .tnil
 | tbyte b hb => exact .tbyte b hb
 | tgrp k x v cs h9 _ ho hp ih => exact .tgrp k x v cs h9 ih (ho.keep hk fun g hg => hs g (hp g hg)) hp
 | talt p x v cs _ ho hp ih => exact .talt p x v cs ih (ho.keep hk fun g hg => hs g (hp g hg)) hp
 | tser l v n cs _ ho hp ih => exact .tser l v n cs ih (ho.keep hk fun g hg => hs g (hp g hg)) hp
 | trep l v n cs _ ho hp ih => exact .trep l v n cs ih (ho.keep hk fun g hg => hs g (hp g hg)) hp
 | lnil => exact .lnil
 | lcons x r cs ds _ _ i1 i2 => exact .lcons x r cs ds i1 i2
theorem TV.mono {w : World} {S S' : Nat → Prop} {b : Bool} {t : Tr} {cs : List Value} (h : TV w S b t cs) (hs : ∀ g, S g → g < w.heap.size → S' g) : TV w S' b t cs := by
 have hb : ∀ {e : TypeId} {size : Nat} {v : Value} {n : Nat} {xs : List Value}, w.ownsRow 0 e size v n xs → (∀ g, v.ownBlock = some g → S g) → ∀ g, v.ownBlock = some g → S' g := fun ho hp g hg => hs g (hp g hg) (ho.lt g hg).2
 induction h with
 | tnil => exact .tnil
 | tbyte b hb => exact .tbyte b hb
 | tgrp k x v cs h9 _ ho hp ih => exact .tgrp k x v cs h9 ih ho (hb ho hp)
 | talt p x v cs _ ho hp ih => exact .talt p x v cs ih ho (hb ho hp)
 | tser l v n cs _ ho hp ih => exact .tser l v n cs ih ho (hb ho hp)
 | trep l v n cs _ ho hp ih => exact .trep l v n cs ih ho (hb ho hp)
 | lnil => exact .lnil
 | lcons x r cs ds _ _ i1 i2 => exact .lcons x r cs ds i1 i2
theorem TV.form {w : World} {S : Nat → Prop} {t : Tr} {cs : List Value} (h : TV w S true t cs) : ∃ (k n : Nat) (va : Option Addr) (vn vc : Nat), cs = [.int .u8 k, .int .i64 n, .slice va vn vc] := by
 cases h with
 | tnil => exact ⟨101, 0, none, 0, 0, rfl⟩
 | tbyte b hb => exact ⟨98, b, none, 0, 0, rfl⟩
 | tgrp k x v cs _ _ ho => obtain ⟨a, b, c, rfl⟩ := ownsRow_sl ho; exact ⟨103, k, a, b, c, rfl⟩
 | talt p x v cs _ ho => obtain ⟨a, b, c, rfl⟩ := ownsRow_sl ho; exact ⟨97, p, a, b, c, rfl⟩
 | tser l v n cs _ ho => obtain ⟨a, b, c, rfl⟩ := ownsRow_sl ho; exact ⟨115, 0, a, b, c, rfl⟩
 | trep l v n cs _ ho => obtain ⟨a, b, c, rfl⟩ := ownsRow_sl ho; exact ⟨114, 0, a, b, c, rfl⟩
def lapp : List Tr → Tr → Tr
 | [], u => u
 | t :: l, u => .lcons t (lapp l u)
theorem lapp_snoc (l : List Tr) (t u : Tr) : lapp (l ++ [t]) u = lapp l (.lcons t u) := by
 induction l with
 | nil => rfl
 | cons a l ih => simp only [List.cons_append, lapp, ih]
theorem lapp_app (l m : List Tr) (u : Tr) : lapp (l ++ m) u = lapp l (lapp m u) := by
 induction l with
 | nil => rfl
 | cons a l ih => simp only [List.cons_append, lapp, ih]
theorem TV.snoc {w : World} {S : Nat → Prop} {t : Tr} {ds : List Value} (ht : TV w S true t ds) : ∀ {l : List Tr} {cs : List Value}, TV w S false (lapp l .lnil) cs → TV w S false (lapp (l ++ [t]) .lnil) (cs ++ ds)
 | [], cs, h => by
  cases h with
  | lnil =>
   have := TV.lcons t .lnil ds [] ht .lnil
   simpa [lapp] using this
 | x :: l, cs, h => by
  cases h with
  | lcons _ _ a b h1 h2 =>
   rw [List.append_assoc]
   exact .lcons x _ a _ h1 (TV.snoc ht h2)
theorem TV.app {w : World} {S : Nat → Prop} {m : List Tr} {ds : List Value} (hm : TV w S false (lapp m .lnil) ds) : ∀ {l : List Tr} {cs : List Value}, TV w S false (lapp l .lnil) cs → TV w S false (lapp (l ++ m) .lnil) (cs ++ ds)
 | [], cs, h => by
  cases h with
  | lnil => simpa using hm
 | x :: l, cs, h => by
  cases h with
  | lcons _ _ a b h1 h2 =>
   rw [List.append_assoc]
   exact .lcons x _ a _ h1 (TV.app hm h2)
theorem TV.times {w : World} {S : Nat → Prop} {t : Tr} {cs : List Value} (h : TV w S true t cs) : ∀ n, TV w S false (lapp (List.replicate n t) .lnil) (List.replicate n cs).flatten
 | 0 => .lnil
 | n + 1 => by
  simp only [List.replicate_succ, lapp, List.flatten_cons]
  exact .lcons _ _ _ _ h (TV.times h n)
def isW : Pat → Prop
 | .wone _ => True
 | .wcons _ r => isW r
 | _ => False
def isP : Pat → Prop
 | .pnil => True
 | .pcons _ r => isP r
 | _ => False
theorem Mk.isWP {w : World} {S : Nat → Prop} {s : ByteArray} {N : Nat} {k : Kr} {x : Pat} {cs : List Value} (h : Mk w S s N k x cs) : (match k with | .wlist => isW x | .ways => isW x | .plist => isP x | .way => isP x | _ => True) := by
 induction h with
 | pcons _ _ _ _ _ _ _ ih => exact ih
 | way _ _ _ _ _ _ _ _ _ ih => exact ih
 | wcons _ _ _ _ _ _ _ ih => exact ih
 | ways _ _ _ _ _ _ _ _ _ ih => exact ih
 | _ => trivial
theorem TT.alts {s : ByteArray} {i j : Nat} {t : Tr} : ∀ {x : Pat} {p q : Nat} {y : Pat}, isW x → (wl x)[p]? = some y → Mt s y i j → (∀ (k : Nat) (z : Pat), k < p → (wl x)[k]? = some z → ¬ Mt s z i j) → TT s (.node y) i j t → TT s (.alts q x) i j (.talt (q + p) t)
 | .wone x, p, q, y, _, hy, hm, hn, ht => by
  cases p with
  | zero => simp [wl] at hy; subst hy; exact .last q x i j t ht
  | succ p => simp [wl] at hy
 | .wcons x r, p, q, y, h, hy, hm, hn, ht => by
  cases p with
  | zero => simp [wl] at hy; subst hy; exact .hit q x r i j t hm ht
  | succ p =>
   refine .miss q x r i j _ (hn 0 x (by omega) rfl) ?_
   have := TT.alts (x := r) (p := p) (q := q + 1) (y := y) h (by simpa [wl] using hy) hm (fun k z hk hz => hn (k + 1) z (by omega) (by simpa [wl] using hz)) ht
   rw [show q + 1 + p = q + (p + 1) by omega] at this
   exact this
theorem Mt.waysW {s : ByteArray} (a b : Nat) : ∀ {x : Pat}, isW x → (Mt s x a b ↔ ∃ (j : Nat) (y : Pat), (wl x)[j]? = some y ∧ Mt s y a b)
 | .wone x, _ => by
  constructor
  ·intro h; exact ⟨0, x, rfl, h⟩
  ·rintro ⟨j, y, hy, h⟩
   cases j with
   | zero => simp [wl] at hy; subst hy; exact h
   | succ j => simp [wl] at hy
 | .wcons x r, hw => by
  constructor
  ·rintro (h | h)
   ·exact ⟨0, x, rfl, h⟩
   ·obtain ⟨j, y, hy, h⟩ := (Mt.waysW a b (x := r) hw).1 h
    exact ⟨j + 1, y, by simpa [wl] using hy, h⟩
  ·rintro ⟨j, y, hy, h⟩
   cases j with
   | zero => simp [wl] at hy; subst hy; exact Or.inl h
   | succ j => exact Or.inr ((Mt.waysW a b (x := r) hw).2 ⟨j, y, by simpa [wl] using hy, h⟩)
theorem pdropP : ∀ {x : Pat}, isP x → pdrop (pl x).length x = .pnil ∧ ∀ (i : Nat) (y : Pat), (pl x)[i]? = some y → pdrop i x = .pcons y (pdrop (i + 1) x)
 | .pnil, _ => ⟨rfl, by intro i y hy; simp [pl] at hy⟩
 | .pcons x r, h => by
  obtain ⟨a, b⟩ := pdropP (x := r) h
  refine ⟨by simp only [pl, List.length_cons, pdrop]; exact a, ?_⟩
  intro i y hy
  cases i with
  | zero => simp [pl] at hy; subst hy; rfl
  | succ i => simp only [pdrop]; exact b i y (by simpa [pl] using hy)
theorem Mk.wl_at {w : World} {S : Nat → Prop} {s : ByteArray} {N : Nat} {x : Pat} {cs : List Value} (h : Mk w S s N .wlist x cs) : cs.length = (wl x).length * 2 ∧ ∀ (i : Nat) (y : Pat), (wl x)[i]? = some y → ∃ a r, cs[i * 2]? = some a ∧ cs[i * 2 + 1]? = some r ∧ Mk w S s N .way y [a, r] ∧ y.sz < x.sz := by
 generalize hk : Kr.wlist = kk at h
 induction h with
 | wone x cs h1 _ =>
  obtain ⟨_, a, r, rfl⟩ := h1.form
  refine ⟨rfl, ?_⟩
  intro i y hy
  match i, hy with
  | 0, hy => simp [wl] at hy; subst hy; exact ⟨a, r, rfl, rfl, h1, by simp [Pat.sz]⟩
 | wcons x q cs ds h1 _ _ ih =>
  obtain ⟨l, c⟩ := ih rfl
  obtain ⟨_, a, r, rfl⟩ := h1.form
  refine ⟨by simp [wl, l]; omega, ?_⟩
  intro i y hy
  match i, hy with
  | 0, hy => simp [wl] at hy; subst hy; exact ⟨a, r, rfl, rfl, h1, by simp [Pat.sz]; omega⟩
  | i + 1, hy =>
   obtain ⟨a', r', e1, e2, e3, e4⟩ := c i y (by simpa [wl] using hy)
   refine ⟨a', r', ?_, ?_, e3, by simp [Pat.sz]; omega⟩
   ·rw [show (i + 1) * 2 = i * 2 + 1 + 1 by omega]; simpa using e1
   ·rw [show (i + 1) * 2 + 1 = i * 2 + 1 + 1 + 1 by omega]; simpa using e2
 | _ => cases hk
theorem Mk.pl_at {w : World} {S : Nat → Prop} {s : ByteArray} {N : Nat} {x : Pat} {cs : List Value} (h : Mk w S s N .plist x cs) : cs.length = (pl x).length * 8 ∧ ∀ (i : Nat) (y : Pat), (pl x)[i]? = some y → ∃ ds, Mk w S s N .piece y ds ∧ (∀ (j : Nat) (u : Value), ds[j]? = some u → cs[i * 8 + j]? = some u) ∧ y.sz < x.sz := by
 generalize hk : Kr.plist = kk at h
 induction h with
 | pnil => exact ⟨rfl, by intro i y hy; simp [pl] at hy⟩
 | pcons x r cs ds h1 _ _ ih =>
  obtain ⟨b, c⟩ := ih rfl
  have hl : cs.length = 8 := h1.form.2
  refine ⟨by simp [pl, b, hl]; omega, ?_⟩
  intro i y hy
  match i, hy with
  | 0, hy =>
   simp [pl] at hy
   subst hy
   refine ⟨cs, h1, ?_, by simp [Pat.sz]; omega⟩
   intro j u hu
   rw [Nat.zero_mul, Nat.zero_add, List.getElem?_append_left (List.getElem?_eq_some_iff.1 hu).1]
   exact hu
  | i + 1, hy =>
   obtain ⟨es, h2, h3, h4⟩ := c i y (by simpa [pl] using hy)
   refine ⟨es, h2, ?_, by simp [Pat.sz]; omega⟩
   intro j u hu
   have := h3 j u hu
   rw [List.getElem?_append_right (by omega), hl]
   have e : (i + 1) * 8 + j - 8 = i * 8 + j := by omega
   rw [e]
   exact this
 | _ => cases hk
theorem TT.owed {s : ByteArray} {y : Pat} {j : Nat} {t : Tr} (h : TT s (.node y) j j t) : ∀ (n : Nat) (mx : Int), TT s (.times n mx y) j j (lapp (List.replicate n t) .lnil)
 | 0, mx => .tend 0 mx y j j (by omega)
 | n + 1, mx => by
  have ih := TT.owed h n (less mx)
  exact .tgo (n + 1) mx y j j j t _ (Or.inr (by omega)) ⟨Nat.le_refl _, Nat.le_refl _, fun h => absurd h (by omega), fun m a b => absurd a (by omega)⟩ h ih
def TreeRes (w : World) (s : ByteArray) (x : Pat) (i j : Nat) (e : Ending) (w' : World) : Prop := ∃ t cs, e = .returned (.agg cs.toArray) ∧ TV w' (fun g => w.heap.size ≤ g) true t cs ∧ TT s (.node x) i j t ∧ Keeps [] w w'
structure MM7 (s : ByteArray) (m : Array Value) : Prop where
 ok : ∃ a b c d e f, m = #[a, b, c, d, .string s, e, f] ∧ a.oneCell' = true ∧ b.oneCell' = true ∧ c.oneCell' = true ∧ d.oneCell' = true ∧ e.oneCell' = true ∧ f.oneCell' = true
def TWays (s : ByteArray) (N n : Nat) : Prop := ∀ (x : Pat), x.sz ≤ n → ∀ (w : World) (S : Nat → Prop) (cs : List Value) (m : Array Value) (i j : Nat), Mk w S s N .ways x cs → MM7 s m → i ≤ j → j ≤ s.size → Mt s x i j → Calls Tryz.prog 38 #[.agg m, .agg cs.toArray, .int .i64 i, .int .i64 j] w (TreeRes w s x i j)
def TWay (s : ByteArray) (N n : Nat) : Prop := ∀ (x : Pat), x.sz ≤ n → ∀ (w : World) (S : Nat → Prop) (cs : List Value) (m : Array Value) (i j : Nat), Mk w S s N .way x cs → MM7 s m → i ≤ j → j ≤ s.size → Mt s x i j → Calls Tryz.prog 73 #[.agg m, .agg cs.toArray, .int .i64 i, .int .i64 j] w (TreeRes w s x i j)
def TPiece (s : ByteArray) (N n : Nat) : Prop := ∀ (x : Pat), x.sz ≤ n → ∀ (w : World) (S : Nat → Prop) (cs : List Value) (m : Array Value) (i j : Nat), Mk w S s N .piece x cs → MM7 s m → i ≤ j → j ≤ s.size → Mt s x i j → Calls Tryz.prog 110 #[.agg m, .agg cs.toArray, .int .i64 i, .int .i64 j] w (TreeRes w s x i j)
def TSingle (s : ByteArray) (N n : Nat) : Prop := ∀ (x : Pat), x.sz ≤ n → ∀ (w : World) (S : Nat → Prop) (cs : List Value) (m : Array Value) (i j : Nat), Mk w S s N .single x cs → MM7 s m → i ≤ j → j ≤ s.size → Mt s x i j → Calls Tryz.prog 130 #[.agg m, .agg cs.toArray, .int .i64 i, .int .i64 j] w (TreeRes w s x i j)
end Go.Proofs.YtnfojonmohijpabGreatDoor
namespace Go.Proofs.YtnfojonmohijpabGreatDoor
open Go.RowKit
def tl : Tr → List Tr
 | .lcons x r => x :: tl r
 | _ => []
def Tr.sz : Tr → Nat
 | .tnil => 1
 | .tbyte _ => 1
 | .tgrp _ x => 3 + x.sz
 | .talt _ x => 3 + x.sz
 | .tser l => 1 + l.sz
 | .trep l => 1 + l.sz
 | .lnil => 1
 | .lcons x r => 1 + x.sz + r.sz
def Tr.thin : Tr → Prop
 | .tnil => True
 | .tbyte _ => True
 | .tgrp _ x => x.thin
 | .talt p x => p < 100 ∧ x.thin
 | .tser l => l.thin
 | .trep l => l.thin
 | .lnil => True
 | .lcons x r => x.thin ∧ r.thin
theorem Tr.sz_pos (t : Tr) : 0 < t.sz := by cases t <;> simp [Tr.sz] <;> omega
def txts (l : List Tr) : List UInt8 := l.flatMap fun t => [32] ++ t.text
theorem txts_take (l : List Tr) (i : Nat) (t : Tr) (h : l[i]? = some t) : txts (l.take (i + 1)) = txts (l.take i) ++ ([32] ++ t.text) := by
 rw [List.take_add_one, h]
 simp [txts]
theorem txts_len (l : List Tr) (i : Nat) : (txts (l.take i)).length ≤ (txts l).length := by
 have : txts l = txts (l.take i) ++ txts (l.drop i) := by
  unfold txts
  rw [← List.flatMap_append, List.take_append_drop]
 rw [this, List.length_append]
 omega
theorem TV.tl_at {w : World} {S : Nat → Prop} {t : Tr} {cs : List Value} (h : TV w S false t cs) : cs.length = (tl t).length * 3 ∧ t.text = txts (tl t) ∧ ∀ (i : Nat) (x : Tr), (tl t)[i]? = some x → ∃ ds, TV w S true x ds ∧ (∀ (j : Nat) (u : Value), ds[j]? = some u → cs[i * 3 + j]? = some u) ∧ x.sz < t.sz ∧ (t.thin → x.thin) := by
 generalize hk : false = b at h
 induction h with
 | lnil => exact ⟨rfl, rfl, by intro i x hx; simp [tl] at hx⟩
 | lcons x r cs ds h1 _ _ ih =>
  obtain ⟨l, e, c⟩ := ih rfl
  obtain ⟨k1, n1, va, vn, vc, hcs⟩ := h1.form
  have hl : cs.length = 3 := by rw [hcs]; rfl
  refine ⟨by simp [tl, l, hl]; omega, by simp [Tr.text, tl, txts, e], ?_⟩
  intro i y hy
  match i, hy with
  | 0, hy =>
   simp [tl] at hy
   subst hy
   refine ⟨cs, h1, ?_, by simp [Tr.sz]; omega, fun h => h.1⟩
   intro j u hu
   rw [Nat.zero_mul, Nat.zero_add, List.getElem?_append_left (List.getElem?_eq_some_iff.1 hu).1]
   exact hu
  | i + 1, hy =>
   obtain ⟨es, h2, h3, h4, h5⟩ := c i y (by simpa [tl] using hy)
   refine ⟨es, h2, ?_, by simp [Tr.sz]; omega, fun h => h5 h.2⟩
   intro j u hu
   have := h3 j u hu
   rw [List.getElem?_append_right (by omega), hl]
   have e : (i + 1) * 3 + j - 3 = i * 3 + j := by omega
   rw [e]
   exact this
 | _ => cases hk
end Go.Proofs.YtnfojonmohijpabGreatDoor
namespace Go.Proofs.YtnfojonmohijpabGreatDoor
theorem NumL.least {s : ByteArray} {least n : Nat} {any : Bool} {i : Nat} {q : R Nat} (h : NumL s least n any i q) : ∀ m j, q = .ok m j → least ≤ m := by
 induction h with
 | dig n x any i q hd hx h5 hl _ ih => exact ih
 | big => intro m j e; cases e
 | done n i hd hl => intro m j e; cases e; exact hl
 | short => intro m j e; cases e
theorem RepR.fair {s : ByteArray} {j k mn : Nat} {mx : Int} (h : RepR s j (.ok (Option.some (mn, mx)) k)) : mx < 0 ∨ (mn : Int) ≤ mx := by
 rcases h with ⟨a, b, c, d, e⟩ | ⟨a, e⟩ | ⟨a, e⟩ | ⟨a, e⟩ | ⟨a, q1, n, e⟩
 ·cases e
 ·cases e; omega
 ·cases e; omega
 ·cases e; omega
 ·cases q1 with
  | bad l => cases e
  | ok m l =>
   rcases e with ⟨a, b, e⟩ | ⟨a, b, q2, n', e⟩ | ⟨a, e⟩
   ·cases e; omega
   ·cases q2 with
    | bad x => cases e
    | ok y x =>
     have hx := n'.least y x rfl
     simp only [Rep3] at e
     by_cases h5 : at' s x = 125
     ·rw [if_pos h5] at e; cases e; omega
     ·rw [if_neg h5] at e; cases e
   ·by_cases h5 : at' s l = 125
    ·rw [if_pos h5] at e; cases e; omega
    ·rw [if_neg h5] at e; cases e
end Go.Proofs.YtnfojonmohijpabGreatDoor
namespace Go.Proofs.YtnfojonmohijpabGreatDoor
def Pat.thin : Pat → Prop
 | .set _ => True
 | .grp _ x => x.thin
 | .rep _ _ x => x.thin
 | .pnil => True
 | .pcons x r => x.thin ∧ r.thin
 | .wone x => x.thin
 | .wcons x r => (wl r).length ≤ 98 ∧ x.thin ∧ r.thin
def Job.thin : Job → Prop
 | .node x => x.thin
 | .kids r => r.thin
 | .times _ _ x => x.thin
 | .alts p r => p + (wl r).length ≤ 100 ∧ r.thin
theorem TT.thin {s : ByteArray} {J : Job} {i j : Nat} {t : Tr} (h : TT s J i j t) : J.thin → t.thin := by
 induction h with
 | byte => intro _; trivial
 | grp k x i j t _ _ ih => exact ih
 | nil => intro _; trivial
 | lone x i j t _ ih => intro h; exact ih h.1
 | row x y r i j l _ ih => exact ih
 | kend => intro _; trivial
 | kgo x r i j c t u _ _ _ ih1 ih2 => intro h; exact ⟨ih1 h.1, ih2 h.2⟩
 | rep mn mx x i j l _ ih => exact ih
 | tend => intro _; trivial
 | tgo mn mx x i j c t u _ _ _ _ ih1 ih2 => intro h; exact ⟨ih1 h, ih2 h⟩
 | wone x i j t _ ih => exact ih
 | wcons x r i j t _ ih => intro h; exact ih ⟨by simp only [wl, List.length_cons]; have := h.1; omega, h⟩
 | hit p x r i j t _ _ ih => intro h; exact ⟨by have := h.1; simp only [wl, List.length_cons] at this; omega, ih h.2.2.1⟩
 | miss p x r i j t _ _ ih => intro h; exact ih ⟨by have := h.1; simp only [wl, List.length_cons] at this; omega, h.2.2.2⟩
 | last p x i j t _ ih => intro h; exact ⟨by have := h.1; simp only [wl, List.length_cons, List.length_nil] at this; omega, ih h.2⟩
theorem G.thin {s : ByteArray} {k : Kd} {d g i : Nat} {q : R (Pat × Nat)} (h : G s k d g i q) : d ≤ 6 → g ≤ 9 → i ≤ s.size → s.size ≤ 60 → ∀ x g1 j, q = .ok (x, g1) j → g ≤ g1 ∧ g1 ≤ 9 ∧ x.fair g1 ∧ x.thin ∧ (k = .ways → (wl x).length ≤ j - i + 1) := by
 induction h with
 | one d g i g1 j x _ e ih =>
  intro hd hg hi hs x' g1' j' e'
  cases e'
  obtain ⟨a1, a2, a3, a4, _⟩ := ih hd hg hi hs x g1 j rfl
  exact ⟨a1, a2, a3, a4, fun _ => by simp [wl]⟩
 | more d g i g1 j x q hx e hq ih ih2 =>
  intro hd hg hi hs x' g1' j' e'
  cases q with
  | bad l => cases e'
  | ok y l =>
   obtain ⟨a1, a2, a3, a4, _⟩ := ih hd hg hi hs x g1 j rfl
   have o1 := hx.okb x g1 j rfl
   have hj : j < s.size := at'_nn (by omega)
   obtain ⟨b1, b2, b3, b4, b5⟩ := ih2 hd a2 (by omega) hs y.1 y.2 l rfl
   have o2 := hq.okb y.1 y.2 l rfl
   have hb5 := b5 rfl
   have hl := o2.2.1 (by omega)
   cases e'
   refine ⟨by omega, b2, ⟨a3.up b1, b3⟩, ⟨by omega, a4, b4⟩, fun _ => ?_⟩
   simp only [wl, List.length_cons]
   omega
 | wbad => intro _ _ _ _ x' g1' j' e'; cases e'
 | nil d g i e => intro hd hg hi hs x' g1' j' e'; cases e'; exact ⟨Nat.le_refl _, hg, trivial, trivial, fun h => by cases h⟩
 | cons d g i g1 j x q e hx hq ih ih2 =>
  intro hd hg hi hs x' g1' j' e'
  cases q with
  | bad l => cases e'
  | ok y l =>
   obtain ⟨a1, a2, a3, a4, _⟩ := ih hd hg hi hs x g1 j rfl
   have o1 := hx.okb x g1 j rfl
   obtain ⟨b1, b2, b3, b4, _⟩ := ih2 hd a2 (o1.2.1 hi) hs y.1 y.2 l rfl
   cases e'
   exact ⟨by omega, b2, ⟨a3.up b1, b3⟩, ⟨a4, b4⟩, fun h => by cases h⟩
 | pbad => intro _ _ _ _ x' g1' j' e'; cases e'
 | rep d g i g1 j x q _ r ih =>
  intro hd hg hi hs x' g1' j' e'
  obtain ⟨a1, a2, a3, a4, _⟩ := ih hd hg hi hs x g1 j rfl
  cases q with
  | bad l => cases e'
  | ok o l =>
   cases o with
   | none => cases e'; exact ⟨a1, a2, a3, a4, fun h => by cases h⟩
   | some mm =>
    obtain ⟨mn, mx⟩ := mm
    cases e'
    exact ⟨a1, a2, ⟨r.fair, a3⟩, a4, fun h => by cases h⟩
 | sbad => intro _ _ _ _ x' g1' j' e'; cases e'
 | deep => intro _ _ _ _ x' g1' j' e'; cases e'
 | grp d g i g1 j x e o _ c ih =>
  intro hd hg hi hs x' g1' j' e'
  cases e'
  have hi' : i < s.size := at'_nn (by omega)
  obtain ⟨a1, a2, a3, a4, _⟩ := ih (by omega) (by omega) (by omega) hs x g1 j rfl
  exact ⟨by omega, a2, ⟨by omega, a1, a3⟩, a4, fun h => by cases h⟩
 | gopen => intro _ _ _ _ x' g1' j' e'; cases e'
 | gbad => intro _ _ _ _ x' g1' j' e'; cases e'
 | set d g i q e r =>
  intro hd hg hi hs x' g1' j' e'
  cases q with
  | bad l => cases e'
  | ok f l => cases e'; exact ⟨Nat.le_refl _, hg, trivial, trivial, fun h => by cases h⟩
 | dot d g i e => intro hd hg hi hs x' g1' j' e'; cases e'; exact ⟨Nat.le_refl _, hg, trivial, trivial, fun h => by cases h⟩
 | esc d g i e =>
  intro hd hg hi hs x' g1' j' e'
  cases hq : escS s 0 (i + 1) with
  | bad l => rw [hq] at e'; cases e'
  | ok f l => rw [hq] at e'; cases e'; exact ⟨Nat.le_refl _, hg, trivial, trivial, fun h => by cases h⟩
 | no => intro _ _ _ _ x' g1' j' e'; cases e'
 | lit d g i e => intro hd hg hi hs x' g1' j' e'; cases e'; exact ⟨Nat.le_refl _, hg, trivial, trivial, fun h => by cases h⟩
theorem PatR.good {s : ByteArray} {W : Whole} {j : Nat} (hs : s.size ≤ 60) (h : PatR s (.ok W j)) : W.x.fair 9 ∧ W.x.thin ∧ W.g ≤ 9 := by
 obtain ⟨qw, hG, hqe⟩ := h
 cases qw with
 | bad l => cases hqe
 | ok xg l =>
  obtain ⟨x, g⟩ := xg
  have hwi : wi s ≤ s.size := by
   unfold wi
   by_cases h : at' s 0 = 94
   ·rw [if_pos h]; exact at'_nn (by omega)
   ·rw [if_neg h]; exact Nat.zero_le _
  obtain ⟨_, h2, h3, h4, _⟩ := hG.thin (by omega) (by omega) hwi hs x g l rfl
  rw [PatE_ok] at hqe
  by_cases hc : 0 ≤ at' s (if at' s l = 36 then l + 1 else l)
  ·rw [if_pos hc] at hqe; cases hqe
  ·rw [if_neg hc] at hqe; cases hqe; exact ⟨h3.up h2, h4, h2⟩
def MatchA (p s : ByteArray) (t : List UInt8) (b : Bool) (n : Int) : Prop :=
 (60 < p.size ∧ t = [] ∧ b = false ∧ n = 1) ∨
 (p.size ≤ 60 ∧ ∃ q, PatR p q ∧ match q with
   | .bad _ => t = [] ∧ b = false ∧ n = 2
   | .ok W _ => (100 < s.size ∧ t = [] ∧ b = false ∧ n = 1) ∨
       (s.size ≤ 100 ∧ ((¬ Mt s W.x 0 s.size ∧ t = [] ∧ b = false ∧ n = 0) ∨
         (Mt s W.x 0 s.size ∧ ∃ u ev, TR s (.node W.x) 0 s.size u ev ∧ ((u.length ≤ 20000 ∧ t = u ∧ b = true ∧ n = 0) ∨ (20000 < u.length ∧ t = [] ∧ b = false ∧ n = 1))))))
theorem MatchA.det {p s : ByteArray} {t t' : List UInt8} {b b' : Bool} {n n' : Int} (h : MatchA p s t b n) (h' : MatchA p s t' b' n') : t = t' ∧ b = b' ∧ n = n' := by
 rcases h with ⟨h0, rfl, rfl, rfl⟩ | ⟨h0, q, hq, h⟩
 ·rcases h' with ⟨_, rfl, rfl, rfl⟩ | ⟨h1, _⟩
  ·exact ⟨rfl, rfl, rfl⟩
  ·omega
 ·rcases h' with ⟨h1, _⟩ | ⟨_, q', hq', h'⟩
  ·omega
  ·cases hq.det hq'
   cases q with
   | bad j => obtain ⟨rfl, rfl, rfl⟩ := h; obtain ⟨rfl, rfl, rfl⟩ := h'; exact ⟨rfl, rfl, rfl⟩
   | ok W j =>
    rcases h with ⟨h1, rfl, rfl, rfl⟩ | ⟨h1, h⟩
    ·rcases h' with ⟨_, rfl, rfl, rfl⟩ | ⟨h2, _⟩
     ·exact ⟨rfl, rfl, rfl⟩
     ·omega
    ·rcases h' with ⟨h2, _⟩ | ⟨_, h'⟩
     ·omega
     ·rcases h with ⟨h2, rfl, rfl, rfl⟩ | ⟨h2, u, ev, hu, h⟩
      ·rcases h' with ⟨_, rfl, rfl, rfl⟩ | ⟨h3, _⟩
       ·exact ⟨rfl, rfl, rfl⟩
       ·exact absurd h3 h2
      ·rcases h' with ⟨h3, _⟩ | ⟨_, u', ev', hu', h'⟩
       ·exact absurd h2 h3
       ·obtain ⟨rfl, _⟩ := hu.det u' ev' hu'
        rcases h with ⟨h4, rfl, rfl, rfl⟩ | ⟨h4, rfl, rfl, rfl⟩
        ·rcases h' with ⟨_, rfl, rfl, rfl⟩ | ⟨h5, _⟩
         ·exact ⟨rfl, rfl, rfl⟩
         ·omega
        ·rcases h' with ⟨h5, _⟩ | ⟨_, rfl, rfl, rfl⟩
         ·omega
         ·exact ⟨rfl, rfl, rfl⟩
end Go.Proofs.YtnfojonmohijpabGreatDoor
