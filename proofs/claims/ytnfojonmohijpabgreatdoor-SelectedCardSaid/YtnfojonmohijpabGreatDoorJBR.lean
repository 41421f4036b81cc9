/-
  DERIVED. The program's tell. Conditions: the line's number is below 100, the texts are not too long.
-/
import Derived.Test.YtnfojonmohijpabGreatDoorJBK
import Derived.Test.YtnfojonmohijpabGreatDoorJNK
set_option linter.unusedSimpArgs false
set_option linter.unusedVariables false
namespace Go.Proofs.YtnfojonmohijpabGreatDoor
open Go.RowKit
def teT (k : Cmd) (n : Nat) (t : ByteArray) : List UInt8 := (if k.n = true then decT n ++ [58] else []) ++ (t.data.toList ++ [10])
def tellT (k : Cmd) (n : Nat) (ts : List ByteArray) : List UInt8 := ts.flatMap (teT k n)
theorem decT_100 (n : Nat) (h : n < 100) : (decT n).length ≤ 2 := by
 have := of_decide_eq_true (p := ∀ i : Fin 100, (decT i.val).length ≤ 2) (by kernel_rfl) ⟨n, h⟩
 exact this
theorem teT_len (k : Cmd) (n : Nat) (t : ByteArray) (h : n < 100) : (teT k n t).length ≤ t.size + 4 := by
 have := decT_100 n h
 have e : t.data.toList.length = t.size := rfl
 unfold teT
 split
 ·rw [List.length_append, List.length_append, List.length_append, e]
  show _ + 1 + (_ + 1) ≤ _
  omega
 ·rw [List.length_append, List.length_append, e]
  show 0 + (_ + 1) ≤ _
  omega
theorem tellT_len (k : Cmd) (n : Nat) (h : n < 100) : ∀ ts : List ByteArray, (∀ t ∈ ts, t.size ≤ 10000) → (tellT k n ts).length ≤ ts.length * 10004
 | [], _ => by simp [tellT]
 | t :: ts, ht => by
  have ih := tellT_len k n h ts (fun x hx => ht x (List.mem_cons_of_mem _ hx))
  have h1 := teT_len k n t h
  have h2 := ht t (List.mem_cons_self ..)
  simp only [tellT, List.flatMap_cons, List.length_append, List.length_cons] at *
  omega
theorem tellT_snoc (k : Cmd) (n : Nat) (ts : List ByteArray) (i : Nat) (t : ByteArray) (h : ts[i]? = some t) : tellT k n (ts.take (i + 1)) = tellT k n (ts.take i) ++ teT k n t := by
 rw [List.take_add_one, h]
 simp [tellT]
set_option maxRecDepth 100000 in
set_option maxHeartbeats 4000000 in
theorem tell_any' (k : Cmd) (W : Whole) (v tv : Value) (hv : v.oneCell' = true) (htv : tv.oneCell' = true) (B b : Nat) (l : List UInt8) (n : Nat) (hn : n < 100) (r : Value) (ts : List ByteArray) (w : World) (hB : BD w B b l) (hll : l.length ≤ 900000000) (hR : StR w r ts) (hl1 : ts.length ≤ 100) (hl2 : ∀ t ∈ ts, t.size ≤ 10000) :
    Calls Tryz.prog 48 #[.agg (cmdC k W v tv), .pointer (some ⟨b, 0, none⟩), .int .i64 n, r] w fun e w' => e = .returned (.tuple #[]) ∧ BD w' B b (l ++ tellT k n ts) ∧ WF B b w w' := by
 obtain ⟨ya, yn, yc, rfl⟩ := ownsRow_sl hR
 have hyn : yn = ts.length := by
  rcases hR.2 with ⟨e, e2⟩ | ⟨_, _, _, e, _⟩
  ·cases e; exact e2.symm
  ·cases e; rfl
 have hBw : B ≤ w.heap.size := by have := hB.1; have := hB.lt; omega
 have hk0 : Keeps [] w (w.alloc (.cells (cmdC k W v tv) 83)) := (Keeps.refl [] w).alloc _
 have h0 : (w.alloc (.cells (cmdC k W v tv) 83)).heap[w.heap.size]? = some (.cells (cmdC k W v tv) 83 (0, 0)) := heap_alloc_new w _
 have hbd0 := hB.keep hk0
 have hwf0 : WF B b w (w.alloc (.cells (cmdC k W v tv) 83)) := WF.ofKeeps hk0 hBw
 have hRX := hR.keep hk0
 have HR : Hid (yn = ts.length ∧ ts.length ≤ 100 ∧ (∀ t ∈ ts, t.size ≤ 10000) ∧ l.length ≤ 900000000 ∧ n < 100) := ⟨hyn, hl1, hl2, hll, hn⟩
 have hy1 : (yn : Int) ≤ 100 := by omega
 have hbne : w.heap.size ≠ b := by have := hB.lt; omega
 unfold cmdC at *
 go_enter Tryz.func48, Tryz.ntmps48
 go_upto_region 1 with (fail)
 generalize w.alloc (.cells #[.bool k.c, .bool k.i, .bool k.n, .bool k.o, .bool k.v, .bool k.x, .bool W.bg, .bool W.en, v, .int .i64 (W.g : Int), tv] 83) = X at *
 obtain ⟨g0, e0⟩ : ∃ g, g = w.heap.size := ⟨_, rfl⟩
 rw [← e0] at h0 hbne ⊢
 have HX : Hid (StR X (.slice ya yn yc) ts ∧ X.heap[g0]? = some (.cells (cmdC k W v tv) 83 (0, 0)) ∧ g0 ≠ b ∧ WF B b w X) := ⟨hRX, h0, hbne, hwf0⟩
 have HBX : Hid (∃ cs, X.heap[b]? = some (.cells cs 119 (0, 0))) := by
  obtain ⟨_, p, v', _, hb', _⟩ := hbd0
  exact ⟨_, hb'⟩
 clear e0 hR hRX h0 hbne hwf0 hk0 hB hyn hl1 hl2 hll hBw hn
 go_wp2_with fail
 go_loopw [12] (fun q wr => ∃ i : Nat, q = .int .i64 i ∧ i ≤ yn ∧ BD wr B b (l ++ tellT k n (ts.take i)) ∧ WF B b X wr) (fun q _ => yn - (intOf q).toNat)
 case atStart => exact ⟨0, rfl, Nat.zero_le _, by simpa [tellT] using hbd0, WF.refl _ _ _⟩
 case round =>
  clear hbd0
  obtain ⟨i, rfl, hi, hBD, hwf⟩ := hrel
  by_cases hlt : i < yn
  rotate_left
  ·have hlt' : ¬ (i : Int) < (yn : Int) := by omega
   have HE : Hid (ts.take i = ts) := List.take_of_length_le (by have := HR.out; omega)
   clear hlt hi
   go_wp2_with fail
   go_end0
   exact ⟨rfl, by rw [HE.out] at hBD; exact hBD, HX.out.2.2.2.trans hwf⟩
  have hlt' : (i : Int) < (yn : Int) := by omega
  have hi0 : (0 : Int) ≤ (i : Int) := by omega
  have HI : Hid (i < yn) := hlt
  obtain ⟨t, ht⟩ : ∃ t, ts[i]? = some t := ⟨_, List.getElem?_eq_getElem (by have := HR.out; omega)⟩
  have HTT : Hid (ts[i]? = some t ∧ t.size ≤ 10000) := ⟨ht, HR.out.2.2.1 t (List.mem_of_getElem? ht)⟩
  have hlenI : (tellT k n (ts.take i)).length ≤ 100 * 10004 := by
   have := tellT_len k n HR.out.2.2.2.2 (ts.take i) (fun x hx => HR.out.2.2.1 x (List.mem_of_mem_take hx))
   have h2 : (ts.take i).length ≤ 100 := by rw [List.length_take]; have := HR.out; omega
   have := Nat.mul_le_mul_right 10004 h2
   omega
  have HLI : Hid ((l ++ tellT k n (ts.take i)).length ≤ 902000000) := by
   show _ ≤ _; rw [List.length_append]; have := HR.out; omega
  obtain ⟨gy, rfl⟩ : ∃ gy, ya = some ⟨gy, 0, none⟩ := by
   rcases HX.out.1.2 with ⟨e, e2⟩ | ⟨gx, _, _, e, _⟩
   ·exfalso; have := HR.out; omega
   ·cases e; exact ⟨gx, rfl⟩
  have hcx : X.cell? ⟨gy, i, none⟩ = some (.string t) := by
   have h' : X.ownsRow 0 9 1 (.slice (some ⟨gy, 0, none⟩) ts.length yc) ts.length (ts.map Value.string) := by have h := HX.out.1; rw [HR.out.1] at h; exact h
   rw [World.ownsRow.cellAt h' i (by have := HR.out; omega)]
   simp [ht]
  have hcw : wr.cell? ⟨gy, i, none⟩ = some (.string t) := by
   rcases HX.out.1.2 with ⟨e, e2⟩ | ⟨gx, cap, cur, e, _, hbk, _⟩
   ·cases e
   ·cases e
    have hgb : gy ≠ b := fun e => by
     obtain ⟨cs, hb'⟩ := HBX.out
     rw [e, hb'] at hbk
     cases hbk
    exact (World.cell?_of_block ((row_wf hbk (by decide) hgb hwf).trans hbk.symm)).trans hcx
  have hg0w := row_wf HX.out.2.1 (by decide) HX.out.2.2.1 hwf
  obtain ⟨_, c2, _, _, _, _⟩ := cmd_cells hg0w
  clear hcx hlenI hlt hi ht hg0w
  have hBw : B ≤ wr.heap.size := by have := hBD.1; have := hBD.lt; omega
  have e2 : nmB (t.data.toList ++ [10]) = t ++ ⟨#[10]⟩ := by rw [← nmB_append, nmB_dataK]; rfl
  have hts : ¬ 9223372036854775807 < t.size + 1 := by have := HTT.out; omega
  have HLT2 : Hid ((t.data.toList ++ [10]).length ≤ 10001) := by show _ ≤ _; rw [List.length_append]; have := HTT.out.2; show t.size + 1 ≤ _; omega
  cases hkn : k.n
  ·rw [hkn] at c2
   have hws := writeString_any B b _ (t.data.toList ++ [10]) wr hBD (by have := HLI.out; omega) (by have := HLT2.out; omega) hBw
   have HTE : Hid (l ++ tellT k n (ts.take (i + 1)) = l ++ tellT k n (ts.take i) ++ (t.data.toList ++ [10])) := by
    show l ++ tellT k n (ts.take (i + 1)) = l ++ tellT k n (ts.take i) ++ (t.data.toList ++ [10])
    rw [tellT_snoc k n ts i t HTT.out.1]
    unfold teT
    rw [if_neg (by rw [hkn]; decide), List.nil_append, List.append_assoc]
   rw [e2] at hws
   clear hkn e2 hBD
   go_wp2_with (first | (go_at_call 50; refine hws.mono ?_; rintro e w3 ⟨⟨ev, rfl⟩, hBD3, hb3, ho3⟩))
   have hBE : BD w3 B b (l ++ tellT k n (ts.take (i + 1))) := by rw [HTE.out]; exact hBD3
   have hwE : WF B b X w3 := hwf.trans ⟨hb3, ho3⟩
   clear hws hBD3 hb3 ho3 hwf
   first
    | exact ⟨⟨i + 1, by go_num, HI.out, hBE, hwE⟩, by have := HI.out; simp [intOf]; omega⟩
    | (go_roundw
       case rel => exact ⟨i + 1, by go_num, HI.out, hBE, hwE⟩
       case measure => have := HI.out; simp [intOf]; omega)
  ·rw [hkn] at c2
   have hit := itoa100 n HR.out.2.2.2.2 wr
   have hd2 := decT_100 n HR.out.2.2.2.2
   have hus : ¬ 9223372036854775807 < (nmB (decT n)).size + 1 := by rw [nmB_size]; omega
   have e3 : nmB (decT n ++ [58]) = nmB (decT n) ++ ⟨#[58]⟩ := by rw [← nmB_append]; rfl
   have HD : Hid ((decT n ++ [58]).length ≤ 3) := by show _ ≤ _; rw [List.length_append]; show _ + 1 ≤ 3; omega
   have HTE : Hid (l ++ tellT k n (ts.take (i + 1)) = l ++ tellT k n (ts.take i) ++ (decT n ++ [58]) ++ (t.data.toList ++ [10])) := by
    show l ++ tellT k n (ts.take (i + 1)) = l ++ tellT k n (ts.take i) ++ (decT n ++ [58]) ++ (t.data.toList ++ [10])
    rw [tellT_snoc k n ts i t HTT.out.1]
    unfold teT
    rw [if_pos hkn]
    simp only [List.append_assoc]
   clear hkn hd2
   go_wp2_with (first | (go_at_call 51; refine hit.mono ?_; rintro e w2 ⟨rfl, hk2⟩))
   have hBD2 := hBD.keep hk2
   have hwf2 := hwf.trans (WF.ofKeeps (b := b) hk2 hBw)
   have hBw2 : B ≤ w2.heap.size := Nat.le_trans hBw hk2.size
   have hws := writeString_any B b _ (decT n ++ [58]) w2 hBD2 (by have := HLI.out; omega) (by have := HD.out; omega) hBw2
   rw [e3] at hws
   clear hit hBD hwf hk2 hcw c2
   refine hws.mono ?_
   rintro e w3 ⟨⟨ev, rfl⟩, hBD3, hb3, ho3⟩
   have hwf3 := hwf2.trans ⟨hb3, ho3⟩
   have hBw3 : B ≤ w3.heap.size := by have := hBD3.1; have := hBD3.lt; omega
   have hws2 := writeString_any B b _ (t.data.toList ++ [10]) w3 hBD3 (by rw [List.length_append]; have := HLI.out; have := HD.out; omega) (by have := HLT2.out; omega) hBw3
   rw [e2] at hws2
   clear hws hBD2 hwf2 e2 e3 hb3 ho3 hBD3
   go_wp2_with fail
   refine hws2.mono ?_
   rintro e w4 ⟨⟨ev2, rfl⟩, hBD4, hb4, ho4⟩
   have hBE : BD w4 B b (l ++ tellT k n (ts.take (i + 1))) := by rw [HTE.out]; exact hBD4
   have hwE : WF B b X w4 := hwf3.trans ⟨hb4, ho4⟩
   clear hws2 hBD4 hb4 ho4 hwf3
   go_wp2_with fail
   first
    | exact ⟨⟨i + 1, by go_num, HI.out, hBE, hwE⟩, by have := HI.out; simp [intOf]; omega⟩
    | (go_roundw
       case rel => exact ⟨i + 1, by go_num, HI.out, hBE, hwE⟩
       case measure => have := HI.out; simp [intOf]; omega)
end Go.Proofs.YtnfojonmohijpabGreatDoor
namespace Go.Proofs.YtnfojonmohijpabGreatDoor
open Go.RowKit
inductive RunA (k : Cmd) (W : Whole) (ps : List Part) : Nat → List ByteArray → List UInt8 → Nat → Prop
 | nil (i : Nat) : RunA k W ps i [] [] 0
 | skip (i : Nat) (s : ByteArray) (ls : List ByteArray) (o : List UInt8) (m : Nat) (ans : Option (List Int)) : SelA s W k.x ans → ans.isSome = k.v → RunA k W ps (i + 1) ls o m → RunA k W ps i (s :: ls) o m
 | take (i : Nat) (s : ByteArray) (ls : List ByteArray) (o p : List UInt8) (m : Nat) (ans : Option (List Int)) : SelA s W k.x ans → ¬ ans.isSome = k.v → (k.c = true → p = []) → (k.c = false → ∃ ts, TextsA k s W ps ts ∧ p = tellT k (i + 1) ts) → RunA k W ps (i + 1) ls o m → RunA k W ps i (s :: ls) (p ++ o) (m + 1)
def RunE (k : Cmd) (o : List UInt8) (m : Nat) : Ending := .returned (.tuple #[.string (nmB (o ++ if k.c = true then decT m ++ [10] else [])), .int .i64 (if m = 0 then 1 else 0)])
structure CmI (w : World) (k : Cmd) (W : Whole) (v tv : Value) (ps : List Part) : Prop where
 g9 : W.g ≤ 9
 nest : W.x.nest ∧ ∀ m, W.x.has m → 0 < m ∧ m ≤ W.g
 one : v.oneCell' = true
 sz : W.x.sz ≤ 1000
 fair : W.x.fair 9
 rep : ∃ S, Rep w S .ways W.x [v]
 tpl : TpR w tv ps
 tln : ps.length ≤ 100
 grs : GrOk W.g ps
 ox : k.o = true → k.v = false → k.x = false
theorem CmI.keep {w w' : World} {k : Cmd} {W : Whole} {v tv : Value} {ps : List Part} (h : CmI w k W v tv ps) (hk : Keeps [] w w') : CmI w' k W v tv ps :=
 ⟨h.g9, h.nest, h.one, h.sz, h.fair, by obtain ⟨S, hS⟩ := h.rep; exact ⟨S, hS.keep hk (by simp)⟩, h.tpl.keep hk (by simp), h.tln, h.grs, h.ox⟩
theorem info11 (k : Cmd) (W : Whole) (v tv : Value) : (Tryz.prog.info? 83).map (·.size) = some (cmdC k W v tv).size := by kernel_rfl
theorem cmd_pat {w : World} {g : Nat} {k : Cmd} {W : Whole} {v tv : Value} (h : w.heap[g]? = some (.cells (cmdC k W v tv) 83 (0, 0))) :
    ∀ t u, [Value.bool W.bg, .bool W.en, v, .int .i64 (W.g : Int)][t]? = some u → w.cell? ⟨g, 6 + t, none⟩ = some u := by
 intro t u hu
 rw [Lib.cell_of_heap h]
 match t, hu with
 | 0, hu => exact hu
 | 1, hu => exact hu
 | 2, hu => exact hu
 | 3, hu => exact hu
theorem below_low {B B' : Nat} {w w' : World} (h : Below B w w') (hle : B' ≤ B) : Below B' w w' := { h with block := fun j hj => h.block j (Nat.lt_of_lt_of_le hj hle) }
theorem row_range {w : World} {g : Nat} {cs : List Value} {T : TypeId} {f : Nat × Nat} (h : w.heap[g]? = some (.cells cs.toArray T f)) : w.rangeAt g 0 cs := fun q u hu => by
 rw [Lib.cell_of_heap h, Nat.zero_add]
 simpa using hu
theorem info11L (k : Cmd) (W : Whole) (v tv : Value) : (Tryz.prog.info? 83).map (·.size) = some ([.bool k.c, .bool k.i, .bool k.n, .bool k.o, .bool k.v, .bool k.x, .bool W.bg, .bool W.en, v, .int .i64 (W.g : Int), tv] : List Value).length := by kernel_rfl
theorem info7L (a b c d e f g : Value) : (Tryz.prog.info? 67).map (·.size) = some ([a, b, c, d, e, f, g] : List Value).length := by kernel_rfl
theorem SelA.sl {s : ByteArray} {W : Whole} {x : Bool} {ans : Option (List Int)} {w : World} {lo : Nat} {r : Value} (h : SelA s W x ans) (hI : IW w lo r ans) (hg : ∀ m, W.x.has m → 0 < m ∧ m ≤ W.g) : ∃ ra rn rc, r = .slice ra rn rc ∧ (!ra.isNone) = ans.isSome := by
 cases ans with
 | none => exact ⟨none, 0, 0, hI, rfl⟩
 | some l =>
  have hl : l ≠ [] := by
   unfold SelA at h
   split at h
   ·obtain ⟨_, r, e⟩ := h.sp hg; rw [e]; simp
   ·obtain ⟨_, i, j, r, e, _⟩ := h.sp hg; rw [e]; simp
  obtain ⟨_, g, c, rfl, _⟩ := hI.fnd hl
  exact ⟨some ⟨g, 0, none⟩, _, c, rfl, rfl⟩
theorem TextsA.sz {k : Cmd} {s : ByteArray} {W : Whole} {ps : List Part} {ts : List ByteArray} (h : TextsA k s W ps ts) (hs : s.size ≤ 100) (hp : ps.length ≤ 100) : ∀ t ∈ ts, t.size ≤ 10000 := by
 have hf : ∀ sp, (nmB (fillP ps s sp)).size ≤ 10000 := fun sp => by
  rw [nmB_size]
  have := fillP_len (sp := sp) hs ps
  omega
 unfold TextsA at h
 intro t ht
 split at h
 ·subst h; simp at ht; subst ht; omega
 ·split at h
  ·subst h; simp at ht
  ·split at h
   ·obtain ⟨sp, _, rfl⟩ := h; simp at ht; subst ht; exact hf sp
   ·obtain ⟨fs, _, rfl⟩ := h
    obtain ⟨sp, _, rfl⟩ := List.mem_map.1 ht
    exact hf sp
structure RnL (w wr : World) (B b : Nat) (k : Cmd) (W : Whole) (ps : List Part) (ls : List ByteArray) (i m : Nat) (o : List UInt8) : Prop where
 bd : BD wr B b o
 len : o.length ≤ i * 1000400
 mle : m ≤ i
 ile : i ≤ ls.length
 below : Below B w wr
 says : ∀ o' m', RunA k W ps i (ls.drop i) o' m' → RunA k W ps 0 ls (o ++ o') (m + m')
set_option maxRecDepth 100000 in
set_option maxHeartbeats 4000000 in
theorem run_any (k : Cmd) (W : Whole) (v tv : Value) (ps : List Part) (ls : List ByteArray) (gl cl : Nat) (w : World) (hC : CmI w k W v tv ps) (hL : LnR w gl ls) (hgl : gl < w.heap.size) (hln : ls.length < 100) (hl1 : ∀ a ∈ ls, a.size ≤ 100) :
    Calls Tryz.prog 27 #[.agg (cmdC k W v tv), .slice (some ⟨gl, 0, none⟩) ls.length cl] w fun e w' => ∃ o m, RunA k W ps 0 ls o m ∧ e = RunE k o m ∧ Keeps [] w w' := by
 obtain ⟨n, hn⟩ : ∃ n, ls.length = n := ⟨_, rfl⟩
 rw [hn] at hln ⊢
 have HLN : Hid (ls.length = n ∧ n < 100 ∧ ∀ a ∈ ls, a.size ≤ 100) := ⟨hn, hln, hl1⟩
 have hn1 : (n : Int) < 100 := by omega
 have h0 : ((w.alloc (.cells (cmdC k W v tv) 83)).alloc (.cells #[.pointer none, .slice none 0 0] 119)).heap[w.heap.size]? = some (.cells (cmdC k W v tv) 83 (0, 0)) := heap_alloc2_old w _ _
 have hsz1 : (w.alloc (.cells (cmdC k W v tv) 83)).heap.size = w.heap.size + 1 := by simp
 have hk0 : Keeps [] w ((w.alloc (.cells (cmdC k W v tv) 83)).alloc (.cells #[.pointer none, .slice none 0 0] 119)) := ((Keeps.refl [] w).alloc _).alloc _
 have hB0 : BD ((w.alloc (.cells (cmdC k W v tv) 83)).alloc (.cells #[.pointer none, .slice none 0 0] 119)) (w.heap.size + 1) (w.heap.size + 1) [] := by
  rw [← hsz1]
  exact ⟨Nat.le_refl _, _, _, Or.inl rfl, heap_alloc_new _ _, World.ownsRow_nil _ _ _ _, by simp [Value.ownBlock], fun _ => rfl⟩
 obtain ⟨ta, tn, tc, rfl⟩ := ownsRow_sl hC.tpl
 obtain ⟨va, vn, vc, rfl⟩ : IsSl v := by
  obtain ⟨S, hr⟩ := hC.rep
  cases hr with
  | ways _ _ _ _ _ ho _ => exact ownsRow_sl ho
 have HCM : Hid (cmdC k W (.slice va vn vc) (.slice ta tn tc) = #[.bool k.c, .bool k.i, .bool k.n, .bool k.o, .bool k.v, .bool k.x, .bool W.bg, .bool W.en, .slice va vn vc, .int .i64 (W.g : Int), .slice ta tn tc]) := rfl
 rw [HCM.out] at h0 hk0 hB0 ⊢
 have HC : Hid (CmI w k W (.slice va vn vc) (.slice ta tn tc) ps) := hC
 have HLR : Hid (LnR w gl ls) := hL
 clear hC hL hln hn hl1 hsz1
 go_enter Tryz.func27, Tryz.ntmps27
 go_upto_region 2 with (fail)
 generalize (w.alloc (.cells #[.bool k.c, .bool k.i, .bool k.n, .bool k.o, .bool k.v, .bool k.x, .bool W.bg, .bool W.en, .slice va vn vc, .int .i64 (W.g : Int), .slice ta tn tc] 83)).alloc (.cells #[.pointer none, .slice none 0 0] 119) = X at *
 obtain ⟨g0, e0⟩ : ∃ g, g = w.heap.size := ⟨_, rfl⟩
 obtain ⟨b, e1⟩ : ∃ g, g = w.heap.size + 1 := ⟨_, rfl⟩
 rw [← e1] at hB0 ⊢
 rw [← e0] at h0 ⊢
 have HGB : Hid (g0 < b ∧ gl < b ∧ g0 = w.heap.size) := ⟨by omega, by omega, e0⟩
 clear e0 e1 hgl
 go_wp2_with fail
 go_loopw [7, 13] (fun q7 q wr => ∃ (i m : Nat) (o : List UInt8), q = .int .i64 i ∧ q7 = .int .i64 m ∧ RnL X wr b b k W ps ls i m o) (fun _ q _ => n - (intOf q).toNat)
 case atStart => exact ⟨0, 0, [], rfl, rfl, ⟨hB0, Nat.zero_le _, Nat.le_refl _, Nat.zero_le _, Below.refl _ _, fun o' m' h => by simpa using h⟩⟩
 case round =>
  clear hB0
  obtain ⟨i, m, o, rfl, rfl, L⟩ := hrel
  have HL : Hid (RnL X wr b b k W ps ls i m o) := L
  have hbX : b < wr.heap.size := L.bd.lt
  have hkB : ∀ g, g < b → wr.heap[g]? = X.heap[g]? := fun g hg => L.below.block g hg
  have h0r := (hkB g0 HGB.out.1).trans h0
  obtain ⟨q0, q2, q3, q4, q5, q10⟩ := cmd_cells h0r
  have hbw : Below w.heap.size w wr := Below.join (Below.ofKeeps hk0 (Nat.le_refl _) (by simp)) (below_low L.below (by have := HGB.out; omega))
  have hkw : Keeps [] w wr := Keeps.ofBel hbw
  have hmi : m ≤ i := L.mle
  have hol := L.len
  have hil : i ≤ n := by have := L.ile; have := HLN.out; omega
  by_cases hlt : i < n
  rotate_left
  ·have hlt' : ¬ (i : Int) < (n : Int) := by omega
   have hie : i = n := by omega
   have HRA : Hid (RunA k W ps 0 ls o m) := by
    show RunA k W ps 0 ls o m
    have h := L.says [] 0 (by rw [List.drop_eq_nil_of_le (by have := HLN.out; omega)]; exact .nil i)
    rw [List.append_nil, Nat.add_zero] at h
    exact h
   have hmz : (Hid (m = 0) ∧ ((m : Int) == 0) = true) ∨ (Hid (¬ m = 0) ∧ ((m : Int) == 0) = false) := by
    by_cases h : m = 0
    ·exact Or.inl ⟨h, by simpa using (by omega : (m : Int) = 0)⟩
    ·exact Or.inr ⟨h, by simpa using (by omega : ¬ (m : Int) = 0)⟩
   have hBD := L.bd
   have hm100 : m < 100 := by have := HLN.out; omega
   have HOL : Hid (o.length ≤ 1000000000) := by show _ ≤ _; have := HLN.out; omega
   cases hkc : k.c
   ·rw [hkc] at q0
    have hst := string_any b b o wr hBD
    have HRE : Hid (∀ z, z = (if m = 0 then (1 : Int) else 0) → Ending.returned (.tuple #[.string (nmB o), .int .i64 z]) = RunE k o m) := fun z hz => by
     unfold RunE
     rw [if_neg (by rw [hkc]; decide), List.append_nil, hz]
    clear hlt hie hil hol hmi hkc h0r hkB L q2 q3 q4 q5 q10
    rcases hmz with ⟨HZ, hz⟩ | ⟨HZ, hz⟩
    all_goals
     go_wp2_with (first | (go_at_call 52; refine hst.mono ?_; rintro e w2 ⟨rfl, hb2⟩))
     have hkE : Keeps [] w w2 := Keeps.ofBel (Below.join hbw (below_low hb2 (by have := HGB.out; omega)))
     go_ret2
     exact ⟨o, m, HRA.out, HRE.out _ (by have := HZ.out; simp [this]), hkE⟩
   ·rw [hkc] at q0
    have hit := itoa100 m hm100 wr
    have hd2 := decT_100 m hm100
    have hus : ¬ 9223372036854775807 < (nmB (decT m)).size + 1 := by rw [nmB_size]; omega
    have e3 : nmB (decT m ++ [10]) = nmB (decT m) ++ ⟨#[10]⟩ := by rw [← nmB_append]; rfl
    have HD : Hid ((decT m ++ [10]).length ≤ 3) := by show _ ≤ _; rw [List.length_append]; show _ + 1 ≤ 3; omega
    have HRE : Hid (∀ z, z = (if m = 0 then (1 : Int) else 0) → Ending.returned (.tuple #[.string (nmB (o ++ (decT m ++ [10]))), .int .i64 z]) = RunE k o m) := fun z hz => by
     unfold RunE
     rw [if_pos hkc, hz]
    clear hlt hie hil hol hmi hkc h0r hkB L q2 q3 q4 q5 q10 hd2
    go_wp2_with (first | (go_at_call 51; refine hit.mono ?_; rintro e w2 ⟨rfl, hk2⟩))
    have hws := writeString_any b b o (decT m ++ [10]) w2 (hBD.keep hk2) HOL.out (by have := HD.out; omega) (by have := (hBD.keep hk2).lt; omega)
    rw [e3] at hws
    have hbw2 := Below.join hbw (below_low (Below.ofKeeps hk2 (Nat.le_of_lt hbX) (by simp) : Below b wr w2) (by have := HGB.out; omega))
    clear hit hBD hk2
    refine hws.mono ?_
    rintro e w3 ⟨⟨ev, rfl⟩, hBD3, hb3, _⟩
    have hst := string_any b b _ w3 hBD3
    have hbw3 := Below.join hbw2 (below_low hb3 (by have := HGB.out; omega))
    clear hws hbw2 hb3 e3
    rcases hmz with ⟨HZ, hz⟩ | ⟨HZ, hz⟩
    all_goals
     go_wp2_with (first | (go_at_call 52; refine hst.mono ?_; rintro e w4 ⟨rfl, hb4⟩))
     have hkE : Keeps [] w w4 := Keeps.ofBel (Below.join hbw3 (below_low hb4 (by have := HGB.out; omega)))
     go_ret2
     exact ⟨o, m, HRA.out, HRE.out _ (by have := HZ.out; simp [this]), hkE⟩
  have hlt' : (i : Int) < (n : Int) := by omega
  have hi0 : (0 : Int) ≤ (i : Int) := by omega
  have HI : Hid (i < n) := hlt
  obtain ⟨s, hs⟩ : ∃ s, ls[i]? = some s := ⟨_, List.getElem?_eq_getElem (by have := HLN.out; omega)⟩
  have hcs := (HLR.out.keep hkw (by simp)) i s hs
  have HSS : Hid (ls[i]? = some s ∧ s.size ≤ 100) := ⟨hs, HLN.out.2.2 s (List.mem_of_getElem? hs)⟩
  have hpat := cmd_pat h0r
  obtain ⟨S, hrep⟩ := (HC.out.keep hkw).rep
  have hnew := matNew_any s (s.size + 1) rfl HSS.out.2 W (.slice va vn vc) S wr hrep HC.out.sz HC.out.fair
  have hi4 := infoPat4 (.bool W.bg) (.bool W.en) (.slice va vn vc) (.int .i64 (W.g : Int))
  clear hlt hil hol hs hrep q0 q2 q3 q4 q5 q10 hkB L
  go_wp2_with (first | (refine wpList_load_at rfl 58 _ rfl g0 6 rfl [.bool W.bg, .bool W.en, .slice va vn vc, .int .i64 (W.g : Int)] _ hpat Tryz.underlying58 rfl hi4 ?_))
  refine hnew.mono ?_
  rintro e w4 ⟨a, c, rfl, hm, hk4⟩
  have hMI4 : MaI w4 s W (.slice va vn vc) a c := ⟨HSS.out.2, HC.out.g9, HC.out.nest, rfl, ⟨_, hm⟩, HC.out.sz⟩
  obtain ⟨_, ha, hc⟩ := hMI4.cells
  have hz4 : (w4.alloc (.cells #[.bool false, .bool false, .slice none 0 0, .int .i64 0, .string ⟨#[]⟩, .slice none 0 0, .slice none 0 0] 67)).heap[w4.heap.size]? = some (.cells #[.bool false, .bool false, .slice none 0 0, .int .i64 0, .string ⟨#[]⟩, .slice none 0 0, .slice none 0 0] 67 (0, 0)) := heap_alloc_new w4 _
  have hk5 : Keeps [] w4 ((w4.alloc (.cells #[.bool false, .bool false, .slice none 0 0, .int .i64 0, .string ⟨#[]⟩, .slice none 0 0, .slice none 0 0] 67)).setRow w4.heap.size #[.bool W.bg, .bool W.en, .slice va vn vc, .int .i64 (W.g : Int), .string s, a, c]) := ((Keeps.refl [] w4).alloc _).setRow (Or.inr (Nat.le_refl _)) _
  have hrow5 : ((w4.alloc (.cells #[.bool false, .bool false, .slice none 0 0, .int .i64 0, .string ⟨#[]⟩, .slice none 0 0, .slice none 0 0] 67)).setRow w4.heap.size #[.bool W.bg, .bool W.en, .slice va vn vc, .int .i64 (W.g : Int), .string s, a, c]).heap[w4.heap.size]? = some (.cells #[.bool W.bg, .bool W.en, .slice va vn vc, .int .i64 (W.g : Int), .string s, a, c] 67 (0, 0)) := setRow_heap _ _ _ _ _ _ hz4
  have hal7 : (#[.bool W.bg, .bool W.en, .slice va vn vc, .int .i64 (W.g : Int), .string s, a, c] : Array Value).all (·.oneCell') = true := all7 rfl rfl rfl rfl rfl ha hc
  have hkr5 := hk4.trans hk5
  have hsz4 : wr.heap.size ≤ w4.heap.size := hk4.size
  unfold mat
  clear hnew hpat hi4 hk4 hm hcs
  go_wp2_with (first | (refine wpList_store_row rfl 67 _ _ rfl w4.heap.size _ rfl rfl _ _ hz4 (info7 _ _ _ _ _ _ _) rfl hal7 ?_))
  have hg0Y := (hkr5.block g0 (by have := HGB.out; omega) (by simp)).trans h0r
  obtain ⟨gm, hgm⟩ : ∃ gm, gm = w4.heap.size := ⟨_, rfl⟩
  have hMI5 := hMI4.keep hk5
  rw [← hgm] at hrow5 hg0Y hkr5 hMI5 ⊢
  generalize (w4.alloc (.cells #[.bool false, .bool false, .slice none 0 0, .int .i64 0, .string ⟨#[]⟩, .slice none 0 0, .slice none 0 0] 67)).setRow gm #[.bool W.bg, .bool W.en, .slice va vn vc, .int .i64 (W.g : Int), .string s, a, c] = Y at *
  have hwY : wr.heap.size ≤ gm := by rw [hgm]; exact hsz4
  clear hk5 hz4 hMI4 hgm hal7 hsz4
  have hkD : Keeps [] wr Y.drew := hkr5.drewN 1
  have hS0 : Y.drew.heap[g0]? = some (.cells #[.bool k.c, .bool k.i, .bool k.n, .bool k.o, .bool k.v, .bool k.x, .bool W.bg, .bool W.en, .slice va vn vc, .int .i64 (W.g : Int), .slice ta tn tc] 83 (0, 0)) ∧ Y.drew.heap[gm]? = some (.cells #[.bool W.bg, .bool W.en, .slice va vn vc, .int .i64 (W.g : Int), .string s, a, c] 67 (0, 0)) := ⟨hg0Y, hrow5⟩
  have hMD : MaI Y.drew s W (.slice va vn vc) a c := hMI5.keep ((Keeps.refl [] Y).drewN 1)
  refine wp_region_held (S := fun A => A.heap[g0]? = some (.cells #[.bool k.c, .bool k.i, .bool k.n, .bool k.o, .bool k.v, .bool k.x, .bool W.bg, .bool W.en, .slice va vn vc, .int .i64 (W.g : Int), .slice ta tn tc] 83 (0, 0)) ∧ A.heap[gm]? = some (.cells #[.bool W.bg, .bool W.en, .slice va vn vc, .int .i64 (W.g : Int), .string s, a, c] 67 (0, 0))) (by kernel_rfl) ?_
  change wpAnyH _ _ _ _ _ _ _ _ (World.drew _)
  generalize Y.drew = Y0 at *
  clear hkr5 hg0Y hrow5 hMI5
  refine wpAnyH_tk 0 _ (some 22) (.agg #[.bool k.c, .bool k.i, .bool k.n, .bool k.o, .bool k.v, .bool k.x, .bool W.bg, .bool W.en, .slice va vn vc, .int .i64 (W.g : Int), .slice ta tn tc]) rfl rfl (by kernel_rfl) (by kernel_rfl) (by kernel_rfl) (fun _ _ _ h => h) (yieldsIf_load_mid (by rfl) 83 _ rfl g0 0 rfl [.bool k.c, .bool k.i, .bool k.n, .bool k.o, .bool k.v, .bool k.x, .bool W.bg, .bool W.en, .slice va vn vc, .int .i64 (W.g : Int), .slice ta tn tc] _ (fun X hX => row_range hX.1) Tryz.underlying83 rfl (info11L k W _ _)) hS0 ?_
  simp only [Act.put, List.setIfInBounds_toArray, List.set_cons_zero, List.set_cons_succ]
  refine wpAnyH_tk 1 _ (some 23) (.agg #[.bool W.bg, .bool W.en, .slice va vn vc, .int .i64 (W.g : Int), .string s, a, c]) rfl rfl (by kernel_rfl) (by kernel_rfl) (by kernel_rfl) (fun _ _ _ h => h) (yieldsIf_load_mid (by rfl) 67 _ rfl gm 0 rfl [.bool W.bg, .bool W.en, .slice va vn vc, .int .i64 (W.g : Int), .string s, a, c] _ (fun X hX => row_range hX.2) Tryz.underlying67 rfl (info7L _ _ _ _ _ _ _)) hS0 ?_
  simp only [Act.put, List.setIfInBounds_toArray, List.set_cons_zero, List.set_cons_succ]
  refine wpAnyH_tk 4 _ (some 26) (.pointer (some ⟨g0, 0, none⟩)) rfl rfl (by kernel_rfl) (by kernel_rfl) (by kernel_rfl) (fun _ _ _ h => h) (Or.inl ⟨by rfl, fun X hX => by go_simp⟩) hS0 ?_
  simp only [Act.put, List.setIfInBounds_toArray, List.set_cons_zero, List.set_cons_succ]
  refine wpAnyH_tk 5 _ (some 27) (.pointer (some ⟨g0, 4, none⟩)) rfl rfl (by kernel_rfl) (by kernel_rfl) (by kernel_rfl) (fun _ _ _ h => h) (Or.inl ⟨by rfl, fun X hX => by go_simp⟩) hS0 ?_
  simp only [Act.put, List.setIfInBounds_toArray, List.set_cons_zero, List.set_cons_succ]
  refine wpAnyH_tk 6 _ (some 28) (.bool k.v) rfl rfl (by kernel_rfl) (by kernel_rfl) (by kernel_rfl) (fun _ _ _ h => h) (Or.inl ⟨by rfl, fun X hX => by (obtain ⟨_, _, _, q4, _, _⟩ := cmd_cells (k := k) (W := W) (v := .slice va vn vc) (tv := .slice ta tn tc) hX.1; go_simp)⟩) hS0 ?_
  simp only [Act.put, List.setIfInBounds_toArray, List.set_cons_zero, List.set_cons_succ]
  refine wpAnyH_ready (rs := [2]) (by kernel_rfl) (by simp) ?_
  refine AllReadyH.cons rfl (fun K hK => ?_) AllReadyH.nil
  go_simp
  refine (cfind_any k (.slice ta tn tc) rfl s W (.slice va vn vc) a c Y0 hMD).mono ?_
  rintro e w6 ⟨r, ans, rfl, hSel, hIW, hk6⟩
  have hS1 : w6.heap[g0]? = some (.cells #[.bool k.c, .bool k.i, .bool k.n, .bool k.o, .bool k.v, .bool k.x, .bool W.bg, .bool W.en, .slice va vn vc, .int .i64 (W.g : Int), .slice ta tn tc] 83 (0, 0)) ∧ w6.heap[gm]? = some (.cells #[.bool W.bg, .bool W.en, .slice va vn vc, .int .i64 (W.g : Int), .string s, a, c] 67 (0, 0)) := ⟨(hk6.block g0 (Array.getElem?_eq_some_iff.1 hS0.1).1 (by simp)).trans hS0.1, (hk6.block gm (Array.getElem?_eq_some_iff.1 hS0.2).1 (by simp)).trans hS0.2⟩
  refine hK.out _ _ hS1 (fun _ => ?_)
  clear hK K
  obtain ⟨ra, rn, rc, rfl, hri⟩ := hSel.sl hIW HC.out.nest.2
  obtain ⟨B1, hB1⟩ : ∃ B1, ans.isSome = B1 := ⟨_, rfl⟩
  rw [hB1] at hri
  have q32 : ∀ w : World, (binOp .neq 22 (.slice ra rn rc) (.slice none 0 0)).run Tryz.prog w = .ok (.bool B1) w := fun w => by rw [← hri]; exact run_neq_slice_nil (P := Tryz.prog) w _ _ ra rn rc Tryz.underlying22
  refine wpAnyH_tk 3 _ (some 25) (.bool B1) rfl rfl (by kernel_rfl) (by kernel_rfl) (by kernel_rfl) (fun _ _ _ h => h) (Or.inl ⟨by rfl, fun X hX => by go_simp⟩) hS1 ?_
  simp only [Act.put, List.setIfInBounds_toArray, List.set_cons_zero, List.set_cons_succ]
  refine wpAnyH_tk 7 _ (some 29) (.bool (B1 == k.v)) rfl rfl (by kernel_rfl) (by kernel_rfl) (by kernel_rfl) (fun _ _ _ h => h) (Or.inl ⟨by rfl, fun X hX => by go_simp⟩) hS1 ?_
  simp only [Act.put, List.setIfInBounds_toArray, List.set_cons_zero, List.set_cons_succ]
  refine wpAnyH_done (by kernel_rfl) ?_ _
  have hkw6 := hkD.trans hk6
  have hMI6 := hMD.keep hk6
  have HSL : Hid (SelA s W k.x ans ∧ ans.isSome = B1) := ⟨hSel, hB1⟩
  clear q32 hri hS0 hMD hSel hIW hB1 hkD hk6 h0r
  have hBD6 := HL.out.bd.keep hkw6
  have hbl6 : Below b X w6 := Below.join HL.out.below (Below.ofKeeps hkw6 (Nat.le_of_lt hbX) (by simp))
  have HDR : Hid (ls.drop i = s :: ls.drop (i + 1)) := by
   show ls.drop i = s :: ls.drop (i + 1)
   have h1 : i < ls.length := by have := HLN.out; have := HI.out; omega
   rw [List.drop_eq_getElem_cons h1]
   have h2 := HSS.out.1
   rw [List.getElem?_eq_getElem h1] at h2
   rw [Option.some.inj h2]
  have hm1 : (m : Int) ≤ 100 := by have := HLN.out; have := HI.out; omega
  have hm0 : (0 : Int) ≤ (m : Int) := by omega
  have hl5 : o.length ≤ (i + 1) * 1000400 := Nat.le_trans HL.out.len (Nat.mul_le_mul_right _ (Nat.le_succ i))
  cases hB29 : (B1 == k.v)
  rotate_left
  ·have L5 : RnL X w6 b b k W ps ls (i + 1) m o := ⟨hBD6, hl5, by have := HL.out.mle; omega, by have := HLN.out; have := HI.out; omega, hbl6, fun o' m' h => HL.out.says o' m' (by rw [HDR.out]; exact .skip i s _ o' m' ans HSL.out.1 (by rw [HSL.out.2]; exact beq_iff_eq.1 hB29) h)⟩
   have HL5 : Hid (RnL X w6 b b k W ps ls (i + 1) m o) := L5
   clear L5 hl5
   clear hB29 hBD6 hbl6 hMI6 hS1 hkw6 hbw hkw
   go_wp2_with fail
   first
    | exact ⟨⟨i + 1, m, o, by go_num, by go_num, HL5.out⟩, by have := HI.out; simp [intOf]; omega⟩
    | (go_roundw
       case rel => exact ⟨i + 1, m, o, by go_num, by go_num, HL5.out⟩
       case measure => have := HI.out; simp [intOf]; omega)
  have HNE : Hid (¬ ans.isSome = k.v) := by
   show ¬ ans.isSome = k.v
   rw [HSL.out.2]
   exact fun e => by rw [e] at hB29; simp at hB29
  clear hB29
  obtain ⟨p0, p2, p3, p4, p5, p10⟩ := cmd_cells (k := k) (W := W) (v := .slice va vn vc) (tv := .slice ta tn tc) hS1.1
  by_cases hkc : k.c = true
  ·rw [hkc] at p0
   have L5 : RnL X w6 b b k W ps ls (i + 1) (m + 1) o := ⟨hBD6, hl5, by have := HL.out.mle; omega, by have := HLN.out; have := HI.out; omega, hbl6, fun o' m' h => by
     have h2 := HL.out.says ([] ++ o') (m' + 1) (by rw [HDR.out]; exact .take i s _ o' [] m' ans HSL.out.1 HNE.out (fun _ => rfl) (fun e => by rw [hkc] at e; cases e) h)
     rw [List.nil_append] at h2
     rw [show m + 1 + m' = m + (m' + 1) by omega]
     exact h2⟩
   have HL5 : Hid (RnL X w6 b b k W ps ls (i + 1) (m + 1) o) := L5
   clear L5 hl5
   clear hkc hBD6 hbl6 hMI6 hS1 hkw6 hbw hkw p2 p3 p4 p5 p10
   go_wp2_with fail
   first
    | exact ⟨⟨i + 1, (m + 1), o, by go_num, by go_num, HL5.out⟩, by have := HI.out; simp [intOf]; omega⟩
    | (go_roundw
       case rel => exact ⟨i + 1, (m + 1), o, by go_num, by go_num, HL5.out⟩
       case measure => have := HI.out; simp [intOf]; omega)
  ·have hkf : k.c = false := by simpa using hkc
   rw [hkf] at p0
   have HKC : Hid (k.c = false) := hkf
   clear hkc hkf
   have hi1 : (i : Int) + 1 ≤ 100 := by have := HLN.out; have := HI.out; omega
   go_upto_region 10 with (fail)
   obtain ⟨i1, hi1e⟩ : ∃ i1, i1 = i + 1 := ⟨_, rfl⟩
   have HI1 : Hid (i1 = i + 1) := hi1e
   have hw1 : IntKind.i64.wrap ((i : Int) + 1) = (i1 : Int) := by rw [wrap_small (by omega) (by omega)]; omega
   clear p0 p2 p3 p4 p5 p10 hi1e
   have hMD : MaI w6.drew s W (.slice va vn vc) a c := hMI6.keep ((Keeps.refl [] w6).drewN 1)
   have hCM6 : CmI w6.drew k W (.slice va vn vc) (.slice ta tn tc) ps := HC.out.keep (hkw.trans (hkw6.drewN 1))
   have hBDd : BD w6.drew b b o := hBD6.keep ((Keeps.refl [] w6).drewN 1)
   have hbld : Below b X w6.drew := Below.join hbl6 (Below.ofKeeps ((Keeps.refl [] w6).drewN 1) (by have := hBD6.lt; omega) (by simp))
   have hS0 : w6.drew.heap[g0]? = some (.cells #[.bool k.c, .bool k.i, .bool k.n, .bool k.o, .bool k.v, .bool k.x, .bool W.bg, .bool W.en, .slice va vn vc, .int .i64 (W.g : Int), .slice ta tn tc] 83 (0, 0)) ∧ w6.drew.heap[gm]? = some (.cells #[.bool W.bg, .bool W.en, .slice va vn vc, .int .i64 (W.g : Int), .string s, a, c] 67 (0, 0)) := hS1
   refine wp_region_held (S := fun A => A.heap[g0]? = some (.cells #[.bool k.c, .bool k.i, .bool k.n, .bool k.o, .bool k.v, .bool k.x, .bool W.bg, .bool W.en, .slice va vn vc, .int .i64 (W.g : Int), .slice ta tn tc] 83 (0, 0)) ∧ A.heap[gm]? = some (.cells #[.bool W.bg, .bool W.en, .slice va vn vc, .int .i64 (W.g : Int), .string s, a, c] 67 (0, 0))) (by kernel_rfl) ?_
   change wpAnyH _ _ _ _ _ _ _ _ (World.drew _)
   generalize w6.drew = Y1 at *
   clear hS1 hMI6 hBD6 hbl6 hkw6 hbw hkw
   refine wpAnyH_tk 0 _ (some 36) (.agg #[.bool k.c, .bool k.i, .bool k.n, .bool k.o, .bool k.v, .bool k.x, .bool W.bg, .bool W.en, .slice va vn vc, .int .i64 (W.g : Int), .slice ta tn tc]) rfl rfl (by kernel_rfl) (by kernel_rfl) (by kernel_rfl) (fun _ _ _ h => h) (yieldsIf_load_mid (by rfl) 83 _ rfl g0 0 rfl [.bool k.c, .bool k.i, .bool k.n, .bool k.o, .bool k.v, .bool k.x, .bool W.bg, .bool W.en, .slice va vn vc, .int .i64 (W.g : Int), .slice ta tn tc] _ (fun X hX => row_range hX.1) Tryz.underlying83 rfl (info11L k W _ _)) hS0 ?_
   simp only [Act.put, List.setIfInBounds_toArray, List.set_cons_zero, List.set_cons_succ]
   refine wpAnyH_tk 1 _ (some 37) (.int .i64 (i : Int)) rfl rfl (by kernel_rfl) (by kernel_rfl) (by kernel_rfl) (fun _ _ _ h => h) (Or.inl ⟨by rfl, fun X hX => by go_simp⟩) hS0 ?_
   simp only [Act.put, List.setIfInBounds_toArray, List.set_cons_zero, List.set_cons_succ]
   refine wpAnyH_tk 2 _ (some 38) (.int .i64 (i1 : Int)) rfl rfl (by kernel_rfl) (by kernel_rfl) (by kernel_rfl) (fun _ _ _ h => h) (Or.inl ⟨by rfl, fun X hX => by go_simp⟩) hS0 ?_
   simp only [Act.put, List.setIfInBounds_toArray, List.set_cons_zero, List.set_cons_succ]
   refine wpAnyH_tk 3 _ (some 39) (.agg #[.bool k.c, .bool k.i, .bool k.n, .bool k.o, .bool k.v, .bool k.x, .bool W.bg, .bool W.en, .slice va vn vc, .int .i64 (W.g : Int), .slice ta tn tc]) rfl rfl (by kernel_rfl) (by kernel_rfl) (by kernel_rfl) (fun _ _ _ h => h) (yieldsIf_load_mid (by rfl) 83 _ rfl g0 0 rfl [.bool k.c, .bool k.i, .bool k.n, .bool k.o, .bool k.v, .bool k.x, .bool W.bg, .bool W.en, .slice va vn vc, .int .i64 (W.g : Int), .slice ta tn tc] _ (fun X hX => row_range hX.1) Tryz.underlying83 rfl (info11L k W _ _)) hS0 ?_
   simp only [Act.put, List.setIfInBounds_toArray, List.set_cons_zero, List.set_cons_succ]
   refine wpAnyH_tk 4 _ (some 40) (.string s) rfl rfl (by kernel_rfl) (by kernel_rfl) (by kernel_rfl) (fun _ _ _ h => h) (Or.inl ⟨by rfl, fun X hX => by go_simp⟩) hS0 ?_
   simp only [Act.put, List.setIfInBounds_toArray, List.set_cons_zero, List.set_cons_succ]
   refine wpAnyH_tk 5 _ (some 41) (.agg #[.bool W.bg, .bool W.en, .slice va vn vc, .int .i64 (W.g : Int), .string s, a, c]) rfl rfl (by kernel_rfl) (by kernel_rfl) (by kernel_rfl) (fun _ _ _ h => h) (yieldsIf_load_mid (by rfl) 67 _ rfl gm 0 rfl [.bool W.bg, .bool W.en, .slice va vn vc, .int .i64 (W.g : Int), .string s, a, c] _ (fun X hX => row_range hX.2) Tryz.underlying67 rfl (info7L _ _ _ _ _ _ _)) hS0 ?_
   simp only [Act.put, List.setIfInBounds_toArray, List.set_cons_zero, List.set_cons_succ]
   refine wpAnyH_ready (rs := [6]) (by kernel_rfl) (by simp) ?_
   refine AllReadyH.cons rfl (fun K hK => ?_) AllReadyH.nil
   go_simp
   refine (textsOf_any k (.slice ta tn tc) ps s W (.slice va vn vc) a c Y1 hMD hCM6.tpl hCM6.tln hCM6.grs hCM6.ox).mono ?_
   rintro e w7 ⟨r, ts, rfl, hTA, hStR, _, htl, hk7⟩
   have hS2 : w7.heap[g0]? = some (.cells #[.bool k.c, .bool k.i, .bool k.n, .bool k.o, .bool k.v, .bool k.x, .bool W.bg, .bool W.en, .slice va vn vc, .int .i64 (W.g : Int), .slice ta tn tc] 83 (0, 0)) ∧ w7.heap[gm]? = some (.cells #[.bool W.bg, .bool W.en, .slice va vn vc, .int .i64 (W.g : Int), .string s, a, c] 67 (0, 0)) := ⟨(hk7.block g0 (Array.getElem?_eq_some_iff.1 hS0.1).1 (by simp)).trans hS0.1, (hk7.block gm (Array.getElem?_eq_some_iff.1 hS0.2).1 (by simp)).trans hS0.2⟩
   obtain ⟨ra2, rn2, rc2, rfl⟩ := ownsRow_sl hStR
   refine hK.out _ _ hS2 (fun _ => ?_)
   clear hK K
   refine wpAnyH_ready (rs := [7]) (by kernel_rfl) (by simp) ?_
   refine AllReadyH.cons rfl (fun K hK => ?_) AllReadyH.nil
   go_simp
   have htl2 : ∀ t ∈ ts, t.size ≤ 10000 := hTA.sz HSS.out.2 HC.out.tln
   have hol : o.length ≤ 900000000 := by
    have h1 := HL.out.len
    have h2 : i * 1000400 ≤ 100 * 1000400 := Nat.mul_le_mul_right _ (by have := HLN.out; have := HI.out; omega)
    exact Nat.le_trans h1 (Nat.le_trans h2 (by decide))
   have hBD7 := hBDd.keep hk7
   have hbl7 : Below b X w7 := Below.join hbld (Below.ofKeeps hk7 (by have := hBDd.lt; omega) (by simp))
   refine (tell_any' k W (.slice va vn vc) (.slice ta tn tc) rfl rfl b b o i1 (by have := HI1.out; have := HI.out; have := HLN.out; omega) (.slice ra2 rn2 rc2) ts w7 hBD7 hol hStR htl htl2).mono ?_
   rintro e w8 ⟨rfl, hBD8, hwf8⟩
   have hS3 : w8.heap[g0]? = some (.cells #[.bool k.c, .bool k.i, .bool k.n, .bool k.o, .bool k.v, .bool k.x, .bool W.bg, .bool W.en, .slice va vn vc, .int .i64 (W.g : Int), .slice ta tn tc] 83 (0, 0)) ∧ w8.heap[gm]? = some (.cells #[.bool W.bg, .bool W.en, .slice va vn vc, .int .i64 (W.g : Int), .string s, a, c] 67 (0, 0)) := ⟨row_wf hS2.1 (by decide) (by have := HGB.out; omega) hwf8, row_wf hS2.2 (by decide) (by omega) hwf8⟩
   refine hK.out _ _ hS3 (fun _ => ?_)
   clear hK K
   refine wpAnyH_done (by kernel_rfl) ?_ _
   have hl6 : (o ++ tellT k i1 ts).length ≤ i1 * 1000400 := by
    rw [List.length_append, show i1 * 1000400 = i * 1000400 + 1000400 by rw [HI1.out, Nat.add_mul, Nat.one_mul]]
    have h1 := tellT_len k i1 (by have := HI1.out; have := HI.out; have := HLN.out; omega) ts htl2
    have h2 : ts.length * 10004 ≤ 100 * 10004 := Nat.mul_le_mul_right _ htl
    exact Nat.add_le_add HL.out.len (Nat.le_trans h1 h2)
   have L5 : RnL X w8 b b k W ps ls i1 (m + 1) (o ++ tellT k i1 ts) := ⟨hBD8, hl6, by have := HL.out.mle; have := HI1.out; omega, by have := HLN.out; have := HI.out; have := HI1.out; omega, Below.join hbl7 hwf8.below, fun o' m' h => by
     rw [HI1.out] at h
     have h2 := HL.out.says (tellT k i1 ts ++ o') (m' + 1) (by rw [HDR.out]; exact .take i s _ o' _ m' ans HSL.out.1 HNE.out (fun e => by rw [HKC.out] at e; cases e) (fun _ => ⟨ts, hTA, by rw [HI1.out]⟩) h)
     rw [show m + 1 + m' = m + (m' + 1) by omega, List.append_assoc]
     exact h2⟩
   have HL5 : Hid (RnL X w8 b b k W ps ls i1 (m + 1) (o ++ tellT k i1 ts)) := L5
   clear L5 hl5 hl6 hBD8 hwf8 hS3 hS2 hS0 hBD7 hbl7 hBDd hbld hCM6 hMD hTA hStR htl htl2 hol hk7
   go_wp2_with fail
   first
    | exact ⟨⟨i1, (m + 1), _, rfl, by go_num, HL5.out⟩, by have := HI.out; have := HI1.out; simp [intOf]; omega⟩
    | (go_roundw
       case rel => exact ⟨i1, (m + 1), _, rfl, by go_num, HL5.out⟩
       case measure => have := HI.out; have := HI1.out; simp [intOf]; omega)
end Go.Proofs.YtnfojonmohijpabGreatDoor
namespace Go.Proofs.YtnfojonmohijpabGreatDoor
open Go.RowKit
theorem info6 (a b c d e f : Value) : (Tryz.prog.info? 79).map (·.size) = some (#[a, b, c, d, e, f] : Array Value).size := by kernel_rfl
theorem info4P (a b c d : Value) : (Tryz.prog.info? 58).map (·.size) = some (#[a, b, c, d] : Array Value).size := by kernel_rfl
theorem all11 {a b c d e f g h i j k : Value} (h1 : a.oneCell' = true) (h2 : b.oneCell' = true) (h3 : c.oneCell' = true) (h4 : d.oneCell' = true) (h5 : e.oneCell' = true) (h6 : f.oneCell' = true) (h7 : g.oneCell' = true) (h8 : h.oneCell' = true) (h9 : i.oneCell' = true) (h10 : j.oneCell' = true) (h11 : k.oneCell' = true) :
    (#[a, b, c, d, e, f, g, h, i, j, k] : Array Value).all (·.oneCell') = true := by simp [h1, h2, h3, h4, h5, h6, h7, h8, h9, h10, h11]
set_option maxRecDepth 100000 in
set_option maxHeartbeats 2000000 in
theorem cnew_any (k : Cmd) (hki : k.i = false) (W : Whole) (v tv : Value) (hv : v.oneCell' = true) (htv : IsSl tv) (w : World) :
    Calls Tryz.prog 43 #[.agg #[.bool k.c, .bool k.i, .bool k.n, .bool k.o, .bool k.v, .bool k.x], .agg #[.bool W.bg, .bool W.en, v, .int .i64 (W.g : Int)], tv] w fun e w' => e = .returned (.agg (cmdC k W v tv)) ∧ Keeps [] w w' := by
 obtain ⟨ta, tn, tc, rfl⟩ := htv
 have HKI : Hid (k.i = false) := hki
 clear hki
 let A := (.cells #[.bool k.c, .bool k.i, .bool k.n, .bool k.o, .bool k.v, .bool k.x] 79 : Obj)
 let P := (.cells #[.bool W.bg, .bool W.en, v, .int .i64 (W.g : Int)] 58 : Obj)
 let C := (.cells #[.bool false, .bool false, .bool false, .bool false, .bool false, .bool false, .bool false, .bool false, .slice none 0 0, .int .i64 0, .slice none 0 0] 83 : Obj)
 have e1 : (w.alloc A).heap.size = w.heap.size + 1 := by simp
 have e2 : ((w.alloc A).alloc P).heap.size = w.heap.size + 1 + 1 := by simp
 have hk0 : Keeps [] w (((w.alloc A).alloc P).alloc C) := (((Keeps.refl [] w).alloc _).alloc _).alloc _
 have k1 : Keeps [] (w.alloc A) (((w.alloc A).alloc P).alloc C) := ((Keeps.refl [] _).alloc _).alloc _
 have k2 : Keeps [] ((w.alloc A).alloc P) (((w.alloc A).alloc P).alloc C) := (Keeps.refl [] _).alloc _
 have h0 : (((w.alloc A).alloc P).alloc C).heap[w.heap.size]? = some (.cells #[.bool k.c, .bool k.i, .bool k.n, .bool k.o, .bool k.v, .bool k.x] 79 (0, 0)) := (k1.block w.heap.size (by rw [e1]; omega) (by simp)).trans (heap_alloc_new w A)
 have h1 : (((w.alloc A).alloc P).alloc C).heap[w.heap.size + 1]? = some (.cells #[.bool W.bg, .bool W.en, v, .int .i64 (W.g : Int)] 58 (0, 0)) := (k2.block _ (by rw [e2]; omega) (by simp)).trans (by rw [← e1]; exact heap_alloc_new (w.alloc A) P)
 have h2 : (((w.alloc A).alloc P).alloc C).heap[w.heap.size + 1 + 1]? = some (.cells #[.bool false, .bool false, .bool false, .bool false, .bool false, .bool false, .bool false, .bool false, .slice none 0 0, .int .i64 0, .slice none 0 0] 83 (0, 0)) := by rw [← e2]; exact heap_alloc_new _ C
 have c1 : (((w.alloc A).alloc P).alloc C).cell? ⟨w.heap.size, 1, none⟩ = some (.bool false) := by rw [Lib.cell_of_heap h0, ← HKI.out]; rfl
 have hal : (cmdC k W v (.slice ta tn tc)).all (·.oneCell') = true := all11 rfl rfl rfl rfl rfl rfl rfl rfl hv rfl rfl
 show Calls Tryz.prog 43 #[.agg #[.bool k.c, .bool k.i, .bool k.n, .bool k.o, .bool k.v, .bool k.x], .agg #[.bool W.bg, .bool W.en, v, .int .i64 (W.g : Int)], .slice ta tn tc] w _
 clear e1 e2 k1 k2
 go_enter Tryz.func43, Tryz.ntmps43
 go_upto_region 1 with (fail)
 change Code.wp _ _ _ _ (((w.alloc A).alloc P).alloc C)
 generalize ((w.alloc A).alloc P).alloc C = X at *
 clear A P C
 obtain ⟨g0, hg0⟩ : ∃ g, g = w.heap.size := ⟨_, rfl⟩
 obtain ⟨g1, hg1⟩ : ∃ g, g = w.heap.size + 1 := ⟨_, rfl⟩
 obtain ⟨g2, hg2⟩ : ∃ g, g = w.heap.size + 1 + 1 := ⟨_, rfl⟩
 rw [← hg2] at h2 ⊢
 rw [← hg1] at h1 ⊢
 rw [← hg0] at h0 c1 ⊢
 have HG2 : Hid (w.heap.size ≤ g2) := by show _ ≤ _; omega
 clear hg0 hg1 hg2
 have HAL : Hid ((cmdC k W v (.slice ta tn tc)).all (·.oneCell') = true) := hal
 clear hal
 go_upto_region 3 with (fail)
 go_wp2_with (first | (refine wpList_load_row rfl 79 _ rfl g0 rfl _ _ _ _ h0 Tryz.underlying79 rfl (info6 _ _ _ _ _ _) ?_) | (refine wpList_load_row rfl 58 _ rfl g1 rfl _ _ _ _ h1 Tryz.underlying58 rfl (info4P _ _ _ _) ?_) | (refine wpList_store_row rfl 83 _ _ rfl g2 (cmdC k W v (.slice ta tn tc)) rfl rfl _ _ h2 (info11 k W v (.slice ta tn tc)) rfl HAL.out ?_))
 refine bodyPost_ret (results_cell_row rfl _ _ g2 _ _ _ _ rfl (setRow_heap _ _ _ _ _ _ h2) Tryz.underlying83 rfl (info11 k W v (.slice ta tn tc))) rfl ?_
 exact ⟨rfl, hk0.setRow (Or.inr HG2.out) _⟩
end Go.Proofs.YtnfojonmohijpabGreatDoor
