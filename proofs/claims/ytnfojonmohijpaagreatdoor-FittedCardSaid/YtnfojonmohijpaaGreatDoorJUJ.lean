/-
  DERIVED. The contract of the program's Parse of a tree. Conditions: the text is at most 20000 bytes long.
-/
import Derived.Test.YtnfojonmohijpaaGreatDoorJUG
import Derived.Test.YtnfojonmohijpaaGreatDoorJPV
import Derived.Test.YtnfojonmohijpaaGreatDoorJPY
set_option linter.unusedSimpArgs false
set_option linter.unusedVariables false
namespace Go.Proofs.YtnfojonmohijpaaGreatDoor
open Go.RowKit
def wholeR (s : ByteArray) : R Tr → R Tr
 | .bad j => .bad j
 | .ok t j => if j < s.size then .bad j else .ok t j
def TreeR (s : ByteArray) (q : R Tr) : Prop := ∃ q0, TG s .thing 0 0 q0 ∧ q = wholeR s q0
theorem TreeR.det {s : ByteArray} {q q' : R Tr} (h : TreeR s q) (h' : TreeR s q') : q = q' := by
 obtain ⟨a, h, rfl⟩ := h
 obtain ⟨b, h', rfl⟩ := h'
 rw [h.det b h']
def TaPost (s : ByteArray) (w : World) (e : Ending) (w' : World) : Prop :=
 ∃ q, TreeR s q ∧ Keeps [] w w' ∧ match q with
  | .ok t _ => ∃ a b c, e = .returned (.agg #[a, b, c]) ∧ a.oneCell' = true ∧ b.oneCell' = true ∧ c.oneCell' = true ∧ TV w' (fun g => w.heap.size ≤ g) true t [a, b, c]
  | .bad j => e = fault j
def P3 (w : World) (r : Nat) (a b c : Value) : Prop := w.heap[r]? = some (.cells #[a, b, c] 88 (0, 0))
theorem P3.lt {w : World} {r : Nat} {a b c : Value} (h : P3 w r a b c) : r < w.heap.size := (Array.getElem?_eq_some_iff.1 h).1
theorem P3.keep {w w' : World} {r : Nat} {a b c : Value} {S : List Nat} (h : P3 w r a b c) (hk : Keeps S w w') (hb : r ∉ S) : P3 w' r a b c := (hk.block r h.lt hb).trans h
theorem P3.main {w : World} {r : Nat} {a b c : Value} (h : P3 w r a b c) : w.cell? ⟨r, 0, none⟩ = some a ∧ w.cell? ⟨r, 1, none⟩ = some b ∧ w.cell? ⟨r, 2, none⟩ = some c := by
 unfold P3 at h
 simp [World.cell?, h]
set_option maxRecDepth 100000 in
set_option maxHeartbeats 2000000 in
theorem tparse_prog (s : ByteArray) (w : World) (hs : s.size ≤ 20000) :
    Calls Tryz.prog 78 #[.string s] w (TaPost s w) := by
 have hr0 : P3 (w.alloc (.cells #[.int .u8 0, .int .i64 0, .slice none 0 0] 88)) w.heap.size (.int .u8 0) (.int .i64 0) (.slice none 0 0) := heap_alloc_new w _
 have hk0 : Keeps [] w (w.alloc (.cells #[.int .u8 0, .int .i64 0, .slice none 0 0] 88)) := (Keeps.refl [] w).alloc _
 go_enter Tryz.func78, Tryz.ntmps78
 go_upto_region 1 with (fail)
 generalize w.alloc (.cells #[.int .u8 0, .int .i64 0, .slice none 0 0] 88) = W0 at *
 go_wp2_with fail
 refine (new_any s W0).mono ?_
 rintro e w1 ⟨rfl, hk1⟩
 have hr1 := hr0.keep hk1 (by simp)
 have hkA := hk0.trans hk1
 have hl0 := hr0.lt
 have hl1 := hr1.lt
 clear hr0 hk0 hk1
 go_wp2_with fail
 have hq1 : UB (w1.alloc (.cells #[.string s, .int .i64 0, .int .i64 0] 232)) w1.heap.size ⟨s, 0, 0⟩ := heap_alloc_new w1 _
 have hk2 : Keeps [] w1 (w1.alloc (.cells #[.string s, .int .i64 0, .int .i64 0] 232)) := (Keeps.refl [] w1).alloc _
 have hz2 : (w1.alloc (.cells #[.string s, .int .i64 0, .int .i64 0] 232)).heap.size = w1.heap.size + 1 := by simp
 have hR := thing_all s hs (s.size + 1) w1.heap.size ⟨s, 0, 0⟩ _ rfl hq1 (Nat.zero_le _) (by simp) (Nat.zero_le _)
 obtain ⟨b, hb⟩ : ∃ b, w1.heap.size = b := ⟨_, rfl⟩
 obtain ⟨i, hi⟩ : ∃ i, w.heap.size = i := ⟨_, rfl⟩
 rw [hb] at hR hz2 hl1 hq1 ⊢
 rw [hi] at hr1 hl0 hl1 ⊢
 have hr2 := hr1.keep hk2 (by simp)
 have hkB := hkA.trans hk2
 generalize w1.alloc (.cells #[.string s, .int .i64 0, .int .i64 0] 232) = w2 at *
 refine hR.mono ?_
 rintro e w3 ⟨q, hTG, hU⟩
 have HTG : Hid (TG s .thing 0 0 q) := hTG
 have hbd := hTG.bd (Nat.zero_le _)
 clear hR hTG hr1 hkA hk2
 cases q with
 | bad j =>
  obtain ⟨rfl, hk3⟩ := hU
  simp only [fault]
  exact ⟨rfl, _, ⟨_, HTG.out, rfl⟩, hkB.fresh hk3 (by intro x hx; simp at hx; omega), rfl⟩
 | ok t j =>
  obtain ⟨cs, rfl, htv, hq3, hk3⟩ := hU
  obtain ⟨k1, n1, ta, tn, tc, rfl⟩ := htv.form
  have hjle : j ≤ s.size := hbd.2.1
  have hr3 := hr2.keep hk3 (by simp; omega)
  have hkC := hkB.fresh hk3 (by intro x hx; simp at hx; omega)
  have hs3 := hk3.size
  have h30 : (w3.alloc (.cells #[.int .u8 0, .int .i64 0, .slice none 0 0] 88)).heap[w3.heap.size]? = some (.cells #[.int .u8 0, .int .i64 0, .slice none 0 0] 88 (0, 0)) := heap_alloc_new w3 _
  have hk4 : Keeps [] w3 ((w3.alloc (.cells #[.int .u8 0, .int .i64 0, .slice none 0 0] 88)).setRow w3.heap.size #[.int .u8 k1, .int .i64 n1, .slice ta tn tc]) := ((Keeps.refl [] w3).alloc _).setRow (Or.inr (Nat.le_refl _)) _
  have h31 : P3 ((w3.alloc (.cells #[.int .u8 0, .int .i64 0, .slice none 0 0] 88)).setRow w3.heap.size #[.int .u8 k1, .int .i64 n1, .slice ta tn tc]) w3.heap.size (.int .u8 k1) (.int .i64 n1) (.slice ta tn tc) := setRow_heap _ _ _ _ _ _ h30
  clear hbd
  go_upto_region 3 with (first | (refine wpList_store_row rfl 88 _ _ rfl w3.heap.size #[.int .u8 k1, .int .i64 n1, .slice ta tn tc] rfl rfl _ _ h30 (info3 _ _ _) rfl (all3 rfl rfl rfl) ?_))
  obtain ⟨g3, hg3⟩ : ∃ g3, w3.heap.size = g3 := ⟨_, rfl⟩
  rw [hg3] at h31 hk4 h30 ⊢
  have hq4 := hq3.keep hk4 (by simp)
  have htv4 := (htv.mono (S' := fun g => w2.heap.size ≤ g ∧ g < g3) (fun g h1 h2 => ⟨by omega, by omega⟩)).keep hk4 (by simp)
  have hkD := hkC.trans hk4
  have hr4 := hr3.keep hk4 (by simp)
  generalize (w3.alloc (.cells #[.int .u8 0, .int .i64 0, .slice none 0 0] 88)).setRow g3 #[.int .u8 k1, .int .i64 n1, .slice ta tn tc] = w4 at *
  clear h30 hk4 htv hq3 hkC hr3
  by_cases hje : j < s.size
  ·have hE := uend_bad b ⟨s, j, 0⟩ w4 hq4 hje hs
   have HR : Hid (TreeR s (.bad j)) := ⟨_, HTG.out, by simp only [wholeR, if_pos hje]⟩
   clear hje
   go_wp2_with (first | (go_at_call 118; refine hE.mono ?_; rintro e w5 ⟨rfl, hk5⟩; simp only [fault]))
   exact ⟨rfl, _, HR.out, hkD.trans hk5, rfl⟩
  ·have hje' : j = s.size := by omega
   have hE := uend_ok b ⟨s, j, 0⟩ w4 hq4 hje'
   have HR : Hid (TreeR s (.ok t j)) := ⟨_, HTG.out, by simp only [wholeR, if_neg hje]⟩
   clear hje hje'
   go_upto_region 4 with (first | (go_at_call 118; refine hE.mono ?_; rintro e w5 ⟨rfl, hq5, hk5⟩))
   have h35 := h31.keep hk5 (by simp)
   have hr5 := hr4.keep hk5 (by simp)
   have htv5 := htv4.keep hk5 (by simp)
   have hkE := hkD.trans hk5
   go_wp2_with (first
     | (refine wpList_load_row rfl 88 _ rfl g3 rfl _ _ _ _ h35 Tryz.underlying88 rfl (info3 _ _ _) ?_)
     | (refine wpList_store_row rfl 88 _ _ rfl i #[.int .u8 k1, .int .i64 n1, .slice ta tn tc] rfl rfl _ _ hr5 (info3 _ _ _) rfl (all3 rfl rfl rfl) ?_))
   refine bodyPost_ret (results_cell_row rfl _ _ i _ _ _ _ rfl (setRow_heap _ _ _ _ _ _ hr5) Tryz.underlying88 rfl (info3 _ _ _)) rfl ?_
   have hkR := (Keeps.refl [i] w5).setRow (g := i) (by simp) #[.int .u8 k1, .int .i64 n1, .slice ta tn tc]
   exact ⟨_, HR.out, hkE.setRow (Or.inr (by omega)) _, _, _, _, rfl, rfl, rfl, rfl, (htv5.keep hkR (by intro y hy; simp; omega)).mono (by intro y hy _; omega)⟩
end Go.Proofs.YtnfojonmohijpaaGreatDoor
namespace Go.Proofs.YtnfojonmohijpaaGreatDoor
def Tr.dp : Tr → Nat
 | .tnil => 0
 | .tbyte _ => 0
 | .tgrp _ x => x.dp + 1
 | .talt _ x => x.dp + 1
 | .tser l => l.dp + 1
 | .trep l => l.dp + 1
 | .lnil => 0
 | .lcons x r => max x.dp r.dp
theorem hexd_back (b : Nat) (h : b < 16) : hexd ((hexs.getD b 0).toNat : Int) = (b : Int) := by
 have key : ∀ m : Fin 16, hexd ((hexs.getD m.val 0).toNat : Int) = (m.val : Int) := by decide
 exact key ⟨b, h⟩
theorem dig_toNat {k : Nat} (h : k ≤ 9) : ((UInt8.ofNat (48 + k)).toNat : Int) = ((48 + k : Nat) : Int) := by
 have : (UInt8.ofNat (48 + k)).toNat = 48 + k := by simp; omega
 rw [this]
theorem place_back {s : ByteArray} {i p : Nat} (hp : p ≤ 59) (hl : Lies s i (decT p)) (hn : at' s (i + (decT p).length) = 32) : digB (at' s i) = true ∧ plN s i = p ∧ plE s i = i + (decT p).length := by
 by_cases h : p < 10
 ·have e : decT p = [UInt8.ofNat (48 + p)] := by unfold decT; rw [if_pos h]; rfl
  rw [e] at hl hn ⊢
  have h0 := (Lies.cons.1 hl).1
  rw [dig_toNat (by omega)] at h0
  have hn' : at' s (i + 1) = 32 := hn
  have hD : ¬ plD s i := fun hD => by have := hD.2.2; rw [hn'] at this; simp [digB] at this
  refine ⟨by rw [h0]; simp [digB]; omega, ?_, ?_⟩
  ·unfold plN; rw [if_neg hD, h0]; omega
  ·unfold plE; rw [if_neg hD]; rfl
 ·have e : decT p = [UInt8.ofNat (48 + p / 10), UInt8.ofNat (48 + p % 10)] := by unfold decT; rw [if_neg h]; rfl
  rw [e] at hl ⊢
  obtain ⟨h0, h1⟩ := Lies.cons.1 hl
  have h1 := (Lies.cons.1 h1).1
  rw [dig_toNat (by omega)] at h0
  rw [dig_toNat (by omega)] at h1
  have hD : plD s i := ⟨by rw [h0]; omega, by rw [h0]; omega, by rw [h1]; simp [digB]; omega⟩
  refine ⟨by rw [h0]; simp [digB]; omega, ?_, ?_⟩
  ·unfold plN; rw [if_pos hD, h0, h1]; omega
  ·unfold plE; rw [if_pos hD]; rfl
theorem TG.brk {s : ByteArray} {d i j : Nat} {t : Tr} (h : at' s i = 40) (hd : d < 60) (hb : TG s .body (d + 1) (i + 1) (.ok t j)) (hc : at' s j = 41) : TG s .thing d i (.ok t (j + 1)) := by
 have := TG.opn d i _ h hd hb
 simpa only [shut, if_pos hc] using this
def backs (s : ByteArray) (b : Bool) (t : Tr) (i d : Nat) : Prop :=
 if b then TG s .thing d i (.ok t (i + t.text.length)) else ∀ (n : Nat) (m : Bool), n ≤ (tl t).length → (m = true ∨ n = (tl t).length) → at' s (i + t.text.length) ≠ 32 → TG s (.row n m) d i (.ok t (i + t.text.length))
theorem TO.back {b : Bool} {t : Tr} (h : TO b t) (s : ByteArray) : ∀ (i d : Nat), d + t.dp ≤ 60 → Lies s i t.text → backs s b t i d := by
 induction h with
 | tnil => intro i d _ hl; exact TG.nil d i (Lies.cons.1 hl).1
 | tbyte b hb =>
  intro i d _ hl
  have hl' : Lies s i (98 :: [hexs.getD (b / 16) 0, hexs.getD (b % 16) 0]) := hl
  obtain ⟨h0, hl'⟩ := Lies.cons.1 hl'
  obtain ⟨h1, hl'⟩ := Lies.cons.1 hl'
  have h2 := (Lies.cons.1 hl').1
  have e1 : hexd (at' s (i + 1)) = ((b / 16 : Nat) : Int) := by rw [h1]; exact hexd_back _ (by omega)
  have e2 : hexd (at' s (i + 2)) = ((b % 16 : Nat) : Int) := by show hexd (at' s (i + 1 + 1)) = _; rw [h2]; exact hexd_back _ (by omega)
  have := TG.byte d i h0 (by rw [e1]; omega) (by rw [e2]; omega)
  rw [e1, e2, show (16 * ((b / 16 : Nat) : Int) + ((b % 16 : Nat) : Int)).toNat = b by omega] at this
  exact this
 | tgrp k x h1 h9 _ ih =>
  intro i d hd hl
  have e : (Tr.tgrp k x).text = 40 :: 103 :: UInt8.ofNat (48 + k) :: 32 :: (x.text ++ [41]) := by simp [Tr.text, decT_dig h9, digT]
  have el : (Tr.tgrp k x).text.length = 4 + x.text.length + 1 := by rw [e]; simp; omega
  rw [e] at hl
  obtain ⟨a0, hl⟩ := Lies.cons.1 hl
  obtain ⟨a1, hl⟩ := Lies.cons.1 hl
  obtain ⟨a2, hl⟩ := Lies.cons.1 hl
  obtain ⟨a3, hl⟩ := Lies.cons.1 hl
  obtain ⟨a4, a5⟩ := Lies.app.1 hl
  have a5 := (Lies.cons.1 a5).1
  rw [dig_toNat h9] at a2
  simp only [Tr.dp] at hd
  have t1 : TG s .thing (d + 1) (i + 1 + 2 + 1) (.ok x (i + 1 + 2 + 1 + x.text.length)) := ih (i + 1 + 1 + 1 + 1) (d + 1) (by omega) a4
  have t2 := TG.go 1 false (d + 1) (i + 1 + 2) (i + 1 + 2 + 1 + x.text.length) x _ (Or.inl (by omega)) a3 t1 (TG.fin (d + 1) _)
  have t3 := TG.grp (d + 1) (i + 1) _ a1 (by rw [a2]; omega) (by rw [a2]; omega) t2
  rw [a2] at t3
  have t4 : TG s .body (d + 1) (i + 1) (.ok (.tgrp k x) (i + 1 + 2 + 1 + x.text.length)) := by
   have : (((48 + k : Nat) : Int) - 48).toNat = k := by omega
   rw [this] at t3
   exact t3
  have t5 := TG.brk a0 (by omega) t4 a5
  show TG s .thing d i (.ok _ _)
  rw [el, show i + (4 + x.text.length + 1) = i + 1 + 2 + 1 + x.text.length + 1 by omega]
  exact t5
 | talt p x h9 _ ih =>
  intro i d hd hl
  have e : (Tr.talt p x).text = 40 :: 97 :: (decT p ++ 32 :: (x.text ++ [41])) := by simp [Tr.text]
  have el : (Tr.talt p x).text.length = 2 + (decT p).length + 1 + x.text.length + 1 := by rw [e]; simp; omega
  rw [e] at hl
  obtain ⟨a0, hl⟩ := Lies.cons.1 hl
  obtain ⟨a1, hl⟩ := Lies.cons.1 hl
  obtain ⟨a2, hl⟩ := Lies.app.1 hl
  obtain ⟨a3, hl⟩ := Lies.cons.1 hl
  obtain ⟨a4, a5⟩ := Lies.app.1 hl
  have a5 := (Lies.cons.1 a5).1
  simp only [Tr.dp] at hd
  obtain ⟨p1, p2, p3⟩ := place_back h9 a2 a3
  have t1 : TG s .thing (d + 1) (i + 1 + 1 + (decT p).length + 1) (.ok x (i + 1 + 1 + (decT p).length + 1 + x.text.length)) := ih _ (d + 1) (by omega) a4
  have t2 := TG.go 1 false (d + 1) (i + 1 + 1 + (decT p).length) _ x _ (Or.inl (by omega)) a3 t1 (TG.fin (d + 1) _)
  rw [← p3] at t2
  have t3 := TG.alt (d + 1) (i + 1) _ a1 p1 t2
  rw [p2, p3] at t3
  have t4 : TG s .body (d + 1) (i + 1) (.ok (.talt p x) (i + 1 + 1 + (decT p).length + 1 + x.text.length)) := t3
  have t5 := TG.brk a0 (by omega) t4 a5
  show TG s .thing d i (.ok _ _)
  rw [el, show i + (2 + (decT p).length + 1 + x.text.length + 1) = i + 1 + 1 + (decT p).length + 1 + x.text.length + 1 by omega]
  exact t5
 | tser l _ h2 ih =>
  intro i d hd hl
  have e : (Tr.tser l).text = 40 :: 115 :: (l.text ++ [41]) := by simp [Tr.text]
  have el : (Tr.tser l).text.length = 2 + l.text.length + 1 := by rw [e]; simp; omega
  rw [e] at hl
  obtain ⟨a0, hl⟩ := Lies.cons.1 hl
  obtain ⟨a1, hl⟩ := Lies.cons.1 hl
  obtain ⟨a4, a5⟩ := Lies.app.1 hl
  have a5 := (Lies.cons.1 a5).1
  simp only [Tr.dp] at hd
  have t1 : TG s (.row 2 true) (d + 1) (i + 1 + 1) (.ok l (i + 1 + 1 + l.text.length)) := ih (i + 1 + 1) (d + 1) (by omega) a4 2 true h2 (Or.inl rfl) (by rw [a5]; decide)
  have t4 : TG s .body (d + 1) (i + 1) (.ok (.tser l) (i + 1 + 1 + l.text.length)) := TG.ser (d + 1) (i + 1) _ a1 t1
  have t5 := TG.brk a0 (by omega) t4 a5
  show TG s .thing d i (.ok _ _)
  rw [el, show i + (2 + l.text.length + 1) = i + 1 + 1 + l.text.length + 1 by omega]
  exact t5
 | trep l _ ih =>
  intro i d hd hl
  have e : (Tr.trep l).text = 40 :: 114 :: (l.text ++ [41]) := by simp [Tr.text]
  have el : (Tr.trep l).text.length = 2 + l.text.length + 1 := by rw [e]; simp; omega
  rw [e] at hl
  obtain ⟨a0, hl⟩ := Lies.cons.1 hl
  obtain ⟨a1, hl⟩ := Lies.cons.1 hl
  obtain ⟨a4, a5⟩ := Lies.app.1 hl
  have a5 := (Lies.cons.1 a5).1
  simp only [Tr.dp] at hd
  have t1 : TG s (.row 0 true) (d + 1) (i + 1 + 1) (.ok l (i + 1 + 1 + l.text.length)) := ih (i + 1 + 1) (d + 1) (by omega) a4 0 true (Nat.zero_le _) (Or.inl rfl) (by rw [a5]; decide)
  have t4 : TG s .body (d + 1) (i + 1) (.ok (.trep l) (i + 1 + 1 + l.text.length)) := TG.rep (d + 1) (i + 1) _ a1 t1
  have t5 := TG.brk a0 (by omega) t4 a5
  show TG s .thing d i (.ok _ _)
  rw [el, show i + (2 + l.text.length + 1) = i + 1 + 1 + l.text.length + 1 by omega]
  exact t5
 | lnil =>
  intro i d hd hl n m hn hm h32
  have h0 : n = 0 := by simpa [tl] using hn
  subst h0
  cases m with
  | true => exact TG.stop d i h32
  | false => exact TG.fin d i
 | lcons x r _ _ ih1 ih2 =>
  intro i d hd hl n m hn hm h32
  have e : (Tr.lcons x r).text = 32 :: (x.text ++ r.text) := by simp [Tr.text]
  have el : (Tr.lcons x r).text.length = 1 + x.text.length + r.text.length := by rw [e]; simp; omega
  rw [e] at hl
  rw [el] at h32 ⊢
  obtain ⟨a0, hl⟩ := Lies.cons.1 hl
  obtain ⟨a1, a2⟩ := Lies.app.1 hl
  simp only [Tr.dp] at hd
  have htl : (tl (.lcons x r)).length = (tl r).length + 1 := rfl
  rw [htl] at hn hm
  have ee : i + (1 + x.text.length + r.text.length) = i + 1 + x.text.length + r.text.length := by omega
  rw [ee] at h32 ⊢
  have t1 : TG s .thing d (i + 1) (.ok x (i + 1 + x.text.length)) := ih1 (i + 1) d (by omega) a1
  have t2 : TG s (.row (n - 1) m) d (i + 1 + x.text.length) (.ok r (i + 1 + x.text.length + r.text.length)) := ih2 (i + 1 + x.text.length) d (by omega) a2 (n - 1) m (by omega) (by rcases hm with h | h; exact Or.inl h; exact Or.inr (by omega)) h32
  exact TG.go n m d i _ x _ (by rcases hm with h | h; exact Or.inr h; exact Or.inl (by omega)) a0 t1 t2
theorem lies_all (l : List UInt8) : Lies (nmB l) 0 l := by
 intro k c hc
 have hk : k < (nmB l).size := by rw [nmB_size]; exact (List.getElem?_eq_some_iff.1 hc).1
 rw [Nat.zero_add, at'_lt hk]
 have h3 : (nmB l).data[k]? = some c := by simpa [nmB] using hc
 have h2 : (nmB l)[k] = c := (Array.getElem?_eq_some_iff.1 h3).2
 rw [h2]
theorem TO.whole {t : Tr} (h : TO true t) (hd : t.dp ≤ 60) : TreeR (nmB t.text) (.ok t t.text.length) := by
 have h1 : TG (nmB t.text) .thing 0 0 (.ok t (0 + t.text.length)) := h.back (nmB t.text) 0 0 (by omega) (lies_all _)
 rw [Nat.zero_add] at h1
 exact ⟨_, h1, by simp [wholeR, nmB_size]⟩
end Go.Proofs.YtnfojonmohijpaaGreatDoor
namespace Go.Proofs.YtnfojonmohijpaaGreatDoor
open Go.RowKit
set_option maxRecDepth 100000 in
set_option maxHeartbeats 400000 in
theorem utcatch_idle (x y z : Value) (w : World) :
    CallsD Tryz.prog 131 #[x, y, z] .returning w fun e u' w' => e = .returned (.tuple #[]) ∧ u' = .returning ∧ w' = w := by
 refine callsD_of_wpS Tryz.func131 rfl fun c₀ cs hu => ?_
 apply wpS_seq
 apply wpS_region
 simp [wpOpsS, go_sem, recoverD, hu, Tryz.ntmps131, Exit.thenS]
 refine wpS_of_wp ?_
 have et : (#[x, y, z] ++ (Array.replicate 12 undef).setIfInBounds 3 Value.nilIface) = #[x, y, z, undef, undef, undef, .nilIface, undef, undef, undef, undef, undef, undef, undef, undef] := rfl
 rw [et]
 go_wp2_with fail
 cases c₀
 simp_all [bodyPostS, results, Tryz.results131]
set_option maxRecDepth 100000 in
set_option maxHeartbeats 400000 in
theorem tcatch_fault (j : Nat) (e0 : Int) (ib jb eb : Addr) (a b : Value) (w : World) (h1 : w.cell? ib = some (.int .i64 e0)) (h2 : w.cell? jb = some a) (h3 : w.cell? eb = some b) (f2 : w.frozen? jb = false) (f3 : w.frozen? eb = false) (hne : jb ≠ eb) :
    CallsD Tryz.prog 131 #[.pointer (some ib), .pointer (some jb), .pointer (some eb)] (.panicking [{ v := .iface 196 (.agg #[.int .i64 (j : Int)]), recovered := false }]) w fun e u' w' =>
     e = .returned (.tuple #[]) ∧ u' = .panicking [{ v := .iface 196 (.agg #[.int .i64 (j : Int)]), recovered := true }] ∧ w' = ((w.alloc (.cells #[.int .i64 (j : Int)] 196)).setCell jb (.int .i64 (j : Int))).setCell eb (.int .i64 e0) := by
 refine callsD_of_wpS Tryz.func131 rfl fun c₀ cs hu => ?_
 apply wpS_seq
 apply wpS_region
 simp [wpOpsS, go_sem, recoverD, hu, Tryz.ntmps131, Exit.thenS]
 refine wpS_of_wp ?_
 have et : (#[.pointer (some ib), .pointer (some jb), .pointer (some eb)] ++ (Array.replicate 12 undef).setIfInBounds 3 (.iface 196 (.agg #[.int .i64 (j : Int)]))) = #[.pointer (some ib), .pointer (some jb), .pointer (some eb), undef, undef, undef, .iface 196 (.agg #[.int .i64 (j : Int)]), undef, undef, undef, undef, undef, undef, undef, undef] := rfl
 rw [et]
 have hta := fun w => assert_fault (j : Int) w
 have hka : Keeps [] w (w.alloc (.cells #[.int .i64 (j : Int)] 196)) := (Keeps.refl [] w).alloc _
 have l2 := World.block_lt_of_cell? w _ h2
 have l3 := World.block_lt_of_cell? w _ h3
 have g1 := keep_cell hka h1
 have g2 := keep_cell hka h2
 have g3 := keep_cell hka h3
 have k2 : (w.alloc (.cells #[.int .i64 (j : Int)] 196)).frozen? jb = false := (World.frozen?_alloc_old w _ jb (Nat.ne_of_lt l2)).trans f2
 have k3 : (w.alloc (.cells #[.int .i64 (j : Int)] 196)).frozen? eb = false := (World.frozen?_alloc_old w _ eb (Nat.ne_of_lt l3)).trans f3
 have n3 : ((w.alloc (.cells #[.int .i64 (j : Int)] 196)).setCell jb (.int .i64 (j : Int))).cell? eb = some b := (World.cell?_setCell_other _ _ _ _ hne).trans g3
 have m3 : ((w.alloc (.cells #[.int .i64 (j : Int)] 196)).setCell jb (.int .i64 (j : Int))).frozen? eb = false := by rw [World.frozen?_setCell]; exact k3
 clear et hka l2 l3 h1 h2 h3 f2 f3 hne
 go_wp2_with fail
 cases c₀
 simp_all [bodyPostS, results, Tryz.results131]
theorem tcf_parse (args : Array Value) (w : World) : (callFunc 78 args).run Tryz.prog w = .ok (.enter 78 args) w := by kernel_rfl
def z3t : Array Value := #[.int .u8 0, .int .i64 0, .slice none 0 0]
def tRdPost (s : ByteArray) (w : World) (e : Ending) (w' : World) : Prop :=
 Keeps [] w w' ∧ ((20000 < s.size ∧ e = .returned (.tuple #[.agg z3t, .int .i64 0, .int .i64 1])) ∨ (s.size ≤ 20000 ∧ ∃ q, TreeR s q ∧ match q with
   | .ok t _ => ∃ a b c, e = .returned (.tuple #[.agg #[a, b, c], .int .i64 0, .int .i64 0]) ∧ a.oneCell' = true ∧ b.oneCell' = true ∧ c.oneCell' = true ∧ TV w' (fun g => w.heap.size ≤ g) true t [a, b, c]
   | .bad j => e = .returned (.tuple #[.agg z3t, .int .i64 j, .int .i64 3])))
theorem tresults_read (tmps : Array Value) (w : World) (g : Nat) (a b c : Value) (x y : Int) (h8 : tmps.getD 8 undef = .pointer (some ⟨g + 1, 0, none⟩)) (h9 : tmps.getD 9 undef = .pointer (some ⟨g + 1 + 1, 0, none⟩)) (h10 : tmps.getD 10 undef = .pointer (some ⟨g + 1 + 1 + 1, 0, none⟩))
    (hp : P3 w (g + 1) a b c) (hx : w.cell? ⟨g + 1 + 1, 0, none⟩ = some (.int .i64 x)) (hy : w.cell? ⟨g + 1 + 1 + 1, 0, none⟩ = some (.int .i64 y)) :
    (results Tryz.f77 tmps).run Tryz.prog w = .ok (.tuple #[.agg #[a, b, c], .int .i64 x, .int .i64 y]) w := by
 have h : Tryz.f77.results = #[.cell 8 88, .cell 9 3, .cell 10 22] := rfl
 have e8 : tmps[8]?.getD undef = .pointer (some ⟨g + 1, 0, none⟩) := by simpa using h8
 have e9 : tmps[9]?.getD undef = .pointer (some ⟨g + 1 + 1, 0, none⟩) := by simpa using h9
 have e10 : tmps[10]?.getD undef = .pointer (some ⟨g + 1 + 1 + 1, 0, none⟩) := by simpa using h10
 have l1 := run_loadVar_row (P := Tryz.prog) w (g + 1) 88 88 #[a, b, c] (0, 0) _ hp Tryz.underlying88 rfl (info3 _ _ _)
 have l2 := loadInt 3 (Or.inl rfl) _ x w hx
 have l3 := loadInt 22 (Or.inr rfl) _ y w hy
 simp [results, h, e8, e9, e10, asAddr, l1, l2, l3]
theorem tread_boxes (e : Int) (w : World) : ∃ W, ((((w.alloc (.cells #[.int .i64 3] 22)).alloc (.cells #[.int .u8 0, .int .i64 0, .slice none 0 0] 88)).alloc (.cells #[.int .i64 0] 3)).alloc (.cells #[.int .i64 e] 22)) = W ∧
    W.cell? ⟨w.heap.size, 0, none⟩ = some (.int .i64 3) ∧ P3 W (w.heap.size + 1) (.int .u8 0) (.int .i64 0) (.slice none 0 0) ∧ W.cell? ⟨w.heap.size + 1 + 1, 0, none⟩ = some (.int .i64 0) ∧ W.cell? ⟨w.heap.size + 1 + 1 + 1, 0, none⟩ = some (.int .i64 e) ∧
    W.frozen? ⟨w.heap.size + 1 + 1, 0, none⟩ = false ∧ W.frozen? ⟨w.heap.size + 1 + 1 + 1, 0, none⟩ = false ∧ Keeps [] w W ∧ W.heap.size = w.heap.size + 4 := by
 have k1 : Keeps [] w (w.alloc (.cells #[.int .i64 3] 22)) := (Keeps.refl [] w).alloc _
 have c1 : (w.alloc (.cells #[.int .i64 3] 22)).cell? ⟨w.heap.size, 0, none⟩ = some (.int .i64 3) := by simp
 have z1 : (w.alloc (.cells #[.int .i64 3] 22)).heap.size = w.heap.size + 1 := by simp
 generalize w.alloc (.cells #[.int .i64 3] 22) = w1 at *
 have k2 : Keeps [] w1 (w1.alloc (.cells #[.int .u8 0, .int .i64 0, .slice none 0 0] 88)) := (Keeps.refl [] w1).alloc _
 have c2 : P3 (w1.alloc (.cells #[.int .u8 0, .int .i64 0, .slice none 0 0] 88)) w1.heap.size (.int .u8 0) (.int .i64 0) (.slice none 0 0) := heap_alloc_new w1 _
 have z2 : (w1.alloc (.cells #[.int .u8 0, .int .i64 0, .slice none 0 0] 88)).heap.size = w1.heap.size + 1 := by simp
 have c1 := keep_cell k2 c1
 generalize w1.alloc (.cells #[.int .u8 0, .int .i64 0, .slice none 0 0] 88) = w2 at *
 have k3 : Keeps [] w2 (w2.alloc (.cells #[.int .i64 0] 3)) := (Keeps.refl [] w2).alloc _
 have c3 : (w2.alloc (.cells #[.int .i64 0] 3)).cell? ⟨w2.heap.size, 0, none⟩ = some (.int .i64 0) := by simp
 have f3 : (w2.alloc (.cells #[.int .i64 0] 3)).frozen? ⟨w2.heap.size, 0, none⟩ = false := by simp
 have z3 : (w2.alloc (.cells #[.int .i64 0] 3)).heap.size = w2.heap.size + 1 := by simp
 have c1 := keep_cell k3 c1
 have c2 := c2.keep k3 (by simp)
 generalize w2.alloc (.cells #[.int .i64 0] 3) = w3 at *
 have k4 : Keeps [] w3 (w3.alloc (.cells #[.int .i64 e] 22)) := (Keeps.refl [] w3).alloc _
 have c4 : (w3.alloc (.cells #[.int .i64 e] 22)).cell? ⟨w3.heap.size, 0, none⟩ = some (.int .i64 e) := by simp
 have f4 : (w3.alloc (.cells #[.int .i64 e] 22)).frozen? ⟨w3.heap.size, 0, none⟩ = false := by simp
 have z3t : (w3.alloc (.cells #[.int .i64 e] 22)).heap.size = w3.heap.size + 1 := by simp
 have c1 := keep_cell k4 c1
 have c2 := c2.keep k4 (by simp)
 have f3' : (w3.alloc (.cells #[.int .i64 e] 22)).frozen? ⟨w2.heap.size, 0, none⟩ = false := (World.frozen?_alloc_old w3 _ ⟨w2.heap.size, 0, none⟩ (by simp; omega)).trans f3
 have c3 := keep_cell k4 c3
 generalize w3.alloc (.cells #[.int .i64 e] 22) = w4 at *
 rw [z3, z2, z1] at c4 f4
 rw [z2, z1] at c3 f3'
 rw [z1] at c2
 exact ⟨w4, rfl, c1, c2, c3, c4, f3', f4, ((k1.trans k2).trans k3).trans k4, by omega⟩
set_option maxRecDepth 100000 in
set_option maxHeartbeats 1000000 in
theorem tread_long2 (s : ByteArray) (w : World) (hs : 20000 < s.size) :
    Calls Tryz.prog 77 #[.string s, .int .i64 20000, .func (.func 78) #[] #[], .int .i64 3] w (tRdPost s w) := by
 have hmf : ∀ (fn : Fn) (first cap : Array Value) (w : World), (Instr.makeFunc fn first cap).run Tryz.prog w = .ok (.func fn first cap) w := fun _ _ _ _ => rfl
 have hs' : (20000 : Int) < (s.size : Int) := by omega
 obtain ⟨W, hW, b0, b1, b2, b3, g2, g3, hk, hz⟩ := tread_boxes 1 w
 go_enter_defers Tryz.func77, Tryz.ntmps77
 go_wp2_with fail
 try rw [hW]
 exact ⟨_, tresults_read _ _ w.heap.size _ _ _ 0 1 rfl rfl rfl b1 b2 b3, hk, Or.inl ⟨hs, rfl⟩⟩
set_option maxRecDepth 100000 in
set_option maxHeartbeats 1000000 in
theorem tread_prog (s : ByteArray) (w : World) (hs : s.size ≤ 20000) :
    Calls Tryz.prog 77 #[.string s, .int .i64 20000, .func (.func 78) #[] #[], .int .i64 3] w (tRdPost s w) := by
 have hmf : ∀ (fn : Fn) (first cap : Array Value) (w : World), (Instr.makeFunc fn first cap).run Tryz.prog w = .ok (.func fn first cap) w := fun _ _ _ _ => rfl
 have hs' : ¬ (20000 : Int) < (s.size : Int) := by omega
 have cfp := tcf_parse
 obtain ⟨W, hW, b0, b1, b2, b3, g2, g3, hk, hz⟩ := tread_boxes 0 w
 go_enter_defers Tryz.func77, Tryz.ntmps77
 go_wp2_with fail
 try rw [hW]
 clear hW
 refine (tparse_prog s W hs).mono ?_
 rintro e w5 ⟨q, hP, hk5, hc5⟩
 have hkA := hk.trans hk5
 have a0 := keep_cell hk5 b0
 have a1 := b1.keep hk5 (by simp)
 have a2 := keep_cell hk5 b2
 have a3 := keep_cell hk5 b3
 have h2 : w5.frozen? ⟨w.heap.size + 1 + 1, 0, none⟩ = false := (World.frozen?_of_block (hk5.block _ (World.block_lt_of_cell? W _ b2) (by simp))).trans g2
 have h3 : w5.frozen? ⟨w.heap.size + 1 + 1 + 1, 0, none⟩ = false := (World.frozen?_of_block (hk5.block _ (World.block_lt_of_cell? W _ b3) (by simp))).trans g3
 clear b0 b1 b2 b3 g2 g3
 obtain ⟨g, hg⟩ : ∃ g, w.heap.size = g := ⟨_, rfl⟩
 rw [hg] at a0 a1 a2 a3 h2 h3 ⊢
 have z5 := hk5.size
 cases q with
 | bad j =>
  subst hc5
  simp only [fault]
  refine leaves_cons (f := 131) (args := #[.pointer (some ⟨g, 0, none⟩), .pointer (some ⟨g + 1 + 1, 0, none⟩), .pointer (some ⟨g + 1 + 1 + 1, 0, none⟩)]) (by simp) (by simp [go_sem]) ?_
  refine (tcatch_fault j 3 _ _ _ _ _ _ a0 a2 a3 h2 h3 (by simp)).mono ?_
  rintro e u' w6 ⟨rfl, rfl, rfl⟩
  have kf : Keeps [] w5 (w5.alloc (.cells #[.int .i64 (j : Int)] 196)) := (Keeps.refl [] w5).alloc _
  have y1 := keep_cell kf a2
  have y2 := keep_cell kf a3
  have y3 := a1.keep kf (by simp)
  have hkB := hkA.trans kf
  generalize w5.alloc (.cells #[.int .i64 (j : Int)] 196) = w7 at *
  have hkC : Keeps [g + 1 + 1, g + 1 + 1 + 1] w7 ((w7.setCell ⟨g + 1 + 1, 0, none⟩ (.int .i64 (j : Int))).setCell ⟨g + 1 + 1 + 1, 0, none⟩ (.int .i64 3)) := ((Keeps.refl _ w7).setCell (by simp) _).setCell (by simp) _
  have r3 := y3.keep hkC (by simp)
  have r1 : ((w7.setCell ⟨g + 1 + 1, 0, none⟩ (.int .i64 (j : Int))).setCell ⟨g + 1 + 1 + 1, 0, none⟩ (.int .i64 3)).cell? ⟨g + 1 + 1, 0, none⟩ = some (.int .i64 (j : Int)) := by
   rw [World.cell?_setCell_other _ _ _ _ (by simp)]
   exact World.cell?_setCell_same _ _ _ y1
  have r2 : ((w7.setCell ⟨g + 1 + 1, 0, none⟩ (.int .i64 (j : Int))).setCell ⟨g + 1 + 1 + 1, 0, none⟩ (.int .i64 3)).cell? ⟨g + 1 + 1 + 1, 0, none⟩ = some (.int .i64 3) := by
   refine World.cell?_setCell_same _ _ _ (u := .int .i64 0) ?_
   rw [World.cell?_setCell_other _ _ _ _ (by simp)]
   exact y2
  exact ⟨_, tresults_read _ _ g _ _ _ j 3 rfl rfl rfl r3 r1 r2, hkB.fresh hkC (by intro x hx; simp at hx; omega), Or.inr ⟨hs, _, hP, rfl⟩⟩
 | ok Wh j =>
  obtain ⟨a, b, c, rfl, oa, ob, oc, hrep⟩ := hc5
  have o4 : (#[a, b, c] : Array Value).all (·.oneCell') = true := all3 oa ob oc
  have hkR := (Keeps.refl [g + 1] w5).setRow (g := g + 1) (by simp) #[a, b, c]
  have hbl : ∀ k, k < w5.heap.size → k ≠ g + 1 → (w5.setRow (g + 1) #[a, b, c]).heap[k]? = w5.heap[k]? := fun k hk hn => hkR.block k hk (by simpa using hn)
  have s1 : P3 (w5.setRow (g + 1) #[a, b, c]) (g + 1) a b c := setRow_heap _ _ _ _ _ _ a1
  have s2 : (w5.setRow (g + 1) #[a, b, c]).cell? ⟨g + 1 + 1, 0, none⟩ = some (.int .i64 0) := (World.cell?_of_block (hbl _ (World.block_lt_of_cell? w5 _ a2) (by simp))).trans a2
  have s3 : (w5.setRow (g + 1) #[a, b, c]).cell? ⟨g + 1 + 1 + 1, 0, none⟩ = some (.int .i64 0) := (World.cell?_of_block (hbl _ (World.block_lt_of_cell? w5 _ a3) (by simp; omega))).trans a3
  have t2 : (w5.setRow (g + 1) #[a, b, c]).frozen? ⟨g + 1 + 1, 0, none⟩ = false := (World.frozen?_of_block (hbl _ (World.block_lt_of_cell? w5 _ a2) (by simp))).trans h2
  have t3 : (w5.setRow (g + 1) #[a, b, c]).frozen? ⟨g + 1 + 1 + 1, 0, none⟩ = false := (World.frozen?_of_block (hbl _ (World.block_lt_of_cell? w5 _ a3) (by simp; omega))).trans h3
  have hrep6 := hrep.keep hkR (by intro y hy; simp; omega)
  have hkB : Keeps [] w (w5.setRow (g + 1) #[a, b, c]) := hkA.fresh hkR (by intro x hx; simp at hx; omega)
  clear hbl
  go_wp2_with (first | (refine wpList_store_row rfl 88 _ _ rfl (g + 1) _ rfl rfl _ _ a1 (info3 _ _ _) rfl o4 ?_; generalize w5.setRow (g + 1) #[a, b, c] = w6 at *))
  refine leaves_cons (f := 131) (args := #[.pointer (some ⟨g, 0, none⟩), .pointer (some ⟨g + 1 + 1, 0, none⟩), .pointer (some ⟨g + 1 + 1 + 1, 0, none⟩)]) (by simp) (by simp [go_sem]) ?_
  refine (utcatch_idle _ _ _ _).mono ?_
  rintro e u' w7 ⟨rfl, rfl, rfl⟩
  have hkC : Keeps [g + 1 + 1, g + 1 + 1 + 1] w6 ((w6.setCell ⟨g + 1 + 1, 0, none⟩ (.int .i64 0)).setCell ⟨g + 1 + 1 + 1, 0, none⟩ (.int .i64 0)) := ((Keeps.refl _ w6).setCell (by simp) _).setCell (by simp) _
  have r3 := s1.keep hkC (by simp)
  have r1 : ((w6.setCell ⟨g + 1 + 1, 0, none⟩ (.int .i64 0)).setCell ⟨g + 1 + 1 + 1, 0, none⟩ (.int .i64 0)).cell? ⟨g + 1 + 1, 0, none⟩ = some (.int .i64 0) := by
   rw [World.cell?_setCell_other _ _ _ _ (by simp)]
   exact World.cell?_setCell_same _ _ _ s2
  have r2 : ((w6.setCell ⟨g + 1 + 1, 0, none⟩ (.int .i64 0)).setCell ⟨g + 1 + 1 + 1, 0, none⟩ (.int .i64 0)).cell? ⟨g + 1 + 1 + 1, 0, none⟩ = some (.int .i64 0) := by
   refine World.cell?_setCell_same _ _ _ (u := .int .i64 0) ?_
   rw [World.cell?_setCell_other _ _ _ _ (by simp)]
   exact s3
  exact ⟨_, tresults_read _ _ g _ _ _ 0 0 rfl rfl rfl r3 r1 r2, hkB.fresh hkC (by intro x hx; simp at hx; omega), Or.inr ⟨hs, _, hP, a, b, c, rfl, oa, ob, oc, (hrep6.keep hkC (by intro y hy; simp; omega)).mono (by intro y hy _; omega)⟩⟩
theorem tread_whole (s : ByteArray) (w : World) :
    Calls Tryz.prog 77 #[.string s, .int .i64 20000, .func (.func 78) #[] #[], .int .i64 3] w (tRdPost s w) := by
 by_cases hs : s.size ≤ 20000
 ·exact tread_prog s w hs
 ·exact tread_long2 s w (by omega)
theorem tresults_rp (tmps : Array Value) (w : World) (g : Nat) (a b c v3 v4 : Value) (h2 : tmps.getD 2 undef = .pointer (some ⟨g, 0, none⟩)) (h3 : tmps.getD 3 undef = v3) (h4 : tmps.getD 4 undef = v4) (hp : P3 w g a b c) :
    (results Tryz.f43 tmps).run Tryz.prog w = .ok (.tuple #[.agg #[a, b, c], v3, v4]) w := by
 have h : Tryz.f43.results = #[.cell 2 88, .tmp 3, .tmp 4] := rfl
 have e2 : tmps[2]?.getD undef = .pointer (some ⟨g, 0, none⟩) := by simpa using h2
 have e3 : tmps[3]?.getD undef = v3 := by simpa using h3
 have e4 : tmps[4]?.getD undef = v4 := by simpa using h4
 have l1 := run_loadVar_row (P := Tryz.prog) w g 88 88 #[a, b, c] (0, 0) _ hp Tryz.underlying88 rfl (info3 _ _ _)
 simp [results, h, e2, e3, e4, asAddr, l1]
set_option maxRecDepth 100000 in
set_option maxHeartbeats 1000000 in
theorem readTree_prog (s : ByteArray) (w : World) :
    Calls Tryz.prog 43 #[.string s] w (tRdPost s w) := by
 have hr0 : P3 (w.alloc (.cells #[.int .u8 0, .int .i64 0, .slice none 0 0] 88)) w.heap.size (.int .u8 0) (.int .i64 0) (.slice none 0 0) := heap_alloc_new w _
 have hk0 : Keeps [] w (w.alloc (.cells #[.int .u8 0, .int .i64 0, .slice none 0 0] 88)) := (Keeps.refl [] w).alloc _
 go_enter Tryz.func43, Tryz.ntmps43
 go_wp2_with fail
 refine (tread_whole s _).mono ?_
 generalize w.alloc (.cells #[.int .u8 0, .int .i64 0, .slice none 0 0] 88) = W0 at *
 rintro e w1 ⟨hk1, hc1⟩
 have hr1 := hr0.keep hk1 (by simp)
 have hl0 := hr0.lt
 have hkA := hk0.trans hk1
 have hS : ∃ a b c x y, e = .returned (.tuple #[.agg #[a, b, c], .int .i64 x, .int .i64 y]) ∧ a.oneCell' = true ∧ b.oneCell' = true ∧ c.oneCell' = true := by
  rcases hc1 with ⟨_, h⟩ | ⟨_, q, _, h⟩
  ·exact ⟨_, _, _, _, _, h, rfl, rfl, rfl⟩
  ·cases q with
   | bad j => exact ⟨_, _, _, _, _, h, rfl, rfl, rfl⟩
   | ok t j => obtain ⟨a, b, c, h, ha, hb, hc, _⟩ := h; exact ⟨_, _, _, _, _, h, ha, hb, hc⟩
 obtain ⟨a, b, c, x, y, rfl, ha, hb, hc⟩ := hS
 have HC : Hid ((20000 < s.size ∧ Ending.returned (.tuple #[.agg #[a, b, c], .int .i64 x, .int .i64 y]) = .returned (.tuple #[.agg z3t, .int .i64 0, .int .i64 1])) ∨ (s.size ≤ 20000 ∧ ∃ q, TreeR s q ∧ match q with
   | .ok t _ => ∃ a' b' c', Ending.returned (.tuple #[.agg #[a, b, c], .int .i64 x, .int .i64 y]) = .returned (.tuple #[.agg #[a', b', c'], .int .i64 0, .int .i64 0]) ∧ a'.oneCell' = true ∧ b'.oneCell' = true ∧ c'.oneCell' = true ∧ TV w1 (fun g => W0.heap.size ≤ g) true t [a', b', c']
   | .bad j => Ending.returned (.tuple #[.agg #[a, b, c], .int .i64 x, .int .i64 y]) = .returned (.tuple #[.agg z3t, .int .i64 j, .int .i64 3]))) := hc1
 have o4 := all3 ha hb hc
 clear hc1
 go_wp2_with (first | (refine wpList_store_row rfl 88 _ _ rfl w.heap.size _ rfl rfl _ _ hr1 (info3 _ _ _) rfl o4 ?_))
 have hkR := (Keeps.refl [w.heap.size] w1).setRow (g := w.heap.size) (by simp) #[a, b, c]
 refine bodyPost_ret (tresults_rp _ _ w.heap.size _ _ _ _ _ rfl rfl rfl (setRow_heap _ _ _ _ _ _ hr1)) rfl ?_
 refine ⟨hkA.fresh hkR (by intro x hx; simp at hx; omega), ?_⟩
 rcases HC.out with h | ⟨hs, q, hq, h⟩
 ·exact Or.inl h
 ·refine Or.inr ⟨hs, q, hq, ?_⟩
  cases q with
  | bad j => exact h
  | ok t j =>
   obtain ⟨a', b', c', h1, h2, h3, h4, h5⟩ := h
   exact ⟨a', b', c', h1, h2, h3, h4, (h5.keep hkR (by intro y hy; simp; omega)).mono (by intro y hy _; omega)⟩
end Go.Proofs.YtnfojonmohijpaaGreatDoor
namespace Go.Proofs.YtnfojonmohijpaaGreatDoor
open Go.RowKit
def Tr.flat : Tr → List UInt8
 | .tnil => []
 | .tbyte b => [UInt8.ofNat b]
 | .tgrp _ x => x.flat
 | .talt _ x => x.flat
 | .tser l => l.flat
 | .trep l => l.flat
 | .lnil => []
 | .lcons x r => x.flat ++ r.flat
def flats (l : List Tr) : List UInt8 := l.flatMap Tr.flat
theorem flats_take (l : List Tr) (i : Nat) (t : Tr) (h : l[i]? = some t) : flats (l.take (i + 1)) = flats (l.take i) ++ t.flat := by
 rw [List.take_add_one, h]
 simp [flats]
theorem flats_len (l : List Tr) (i : Nat) : (flats (l.take i)).length ≤ (flats l).length := by
 have : flats l = flats (l.take i) ++ flats (l.drop i) := by
  unfold flats
  rw [← List.flatMap_append, List.take_append_drop]
 rw [this, List.length_append]
 omega
theorem TV.flats {w : World} {S : Nat → Prop} {t : Tr} {cs : List Value} (h : TV w S false t cs) : t.flat = flats (tl t) := by
 generalize hk : false = b at h
 induction h with
 | lnil => rfl
 | lcons x r cs ds h1 _ _ ih => simp only [Tr.flat, tl, Proofs.YtnfojonmohijpaaGreatDoor.flats, List.flatMap_cons, ih rfl]
 | _ => cases hk
theorem TV.inner {w : World} {S : Nat → Prop} {t : Tr} {k n v : Value} (h : TV w S true t [k, n, v]) :
    (∃ b, t = .tbyte b ∧ b < 256 ∧ k = .int .u8 98 ∧ n = .int .i64 (b : Nat)) ∨
    ∃ (kk : Nat) (l : Tr) (cs : List Value) (m : Nat), k = .int .u8 kk ∧ kk ≠ 98 ∧ TV w S false l cs ∧ w.ownsRow 0 88 3 v m cs ∧ (∀ g, v.ownBlock = some g → S g) ∧ t.flat = l.flat ∧ l.sz ≤ t.sz := by
 cases h with
 | tnil => exact Or.inr ⟨101, .lnil, [], 0, rfl, by decide, .lnil, World.ownsRow_nil _ _ _ _, by simp [Value.ownBlock], rfl, by simp [Tr.sz]⟩
 | tbyte b hb => exact Or.inl ⟨b, rfl, hb, rfl, rfl⟩
 | tgrp k x v cs h9 hx ho hS =>
  have := TV.lcons x .lnil cs [] hx .lnil
  rw [List.append_nil] at this
  exact Or.inr ⟨103, _, cs, 1, rfl, by decide, this, ho, hS, by simp [Tr.flat], by simp [Tr.sz]; omega⟩
 | talt p x v cs hx ho hS =>
  have := TV.lcons x .lnil cs [] hx .lnil
  rw [List.append_nil] at this
  exact Or.inr ⟨97, _, cs, 1, rfl, by decide, this, ho, hS, by simp [Tr.flat], by simp [Tr.sz]; omega⟩
 | tser l v n cs hl ho hS => exact Or.inr ⟨115, l, cs, n, rfl, by decide, hl, ho, hS, rfl, by simp [Tr.sz]⟩
 | trep l v n cs hl ho hS => exact Or.inr ⟨114, l, cs, n, rfl, by decide, hl, ho, hS, rfl, by simp [Tr.sz]⟩
def AddOk (n : Nat) : Prop := ∀ (t : Tr), t.sz ≤ n → ∀ (w : World) (S : Nat → Prop) (cs : List Value) (v : Value) (l : List UInt8), TV w S true t cs → BY w 0 v l → (∀ g, v.ownBlock = some g → ¬ S g) → l.length + t.flat.length ≤ 40000 →
 Calls Tryz.prog 79 #[.agg cs.toArray, v] w fun e w' => ∃ v', e = .returned v' ∧ BY w' 0 v' (l ++ t.flat) ∧ Keeps v.ownBlock.toList w w' ∧ (v'.ownBlock = v.ownBlock ∨ ∀ g, v'.ownBlock = some g → w.heap.size ≤ g)
theorem infoByte : (Tryz.prog.info? 5).map (fun i => (i.zero, i.size, i.bytes)) = some (some (.int .u8 0), 1, 1) := by kernel_rfl
set_option maxRecDepth 100000 in
set_option maxHeartbeats 4000000 in
theorem addBytes_any (n : Nat) (IA : AddOk n) : AddOk (n + 1) := by
 intro t ht w S cs v l htv0 hby hvS hlen
 obtain ⟨k, nn, va, vn, vc, rfl⟩ := htv0.form
 obtain ⟨xa, xn, xc, rfl⟩ := ownsRow_sl hby
 have htv := htv0.mono (S' := fun g => S g ∧ g < w.heap.size) (fun g h1 h2 => ⟨h1, h2⟩)
 have hk0 : Keeps [] w (w.alloc (.cells #[.int .u8 k, .int .i64 nn, .slice va vn vc] 88)) := (Keeps.refl [] w).alloc _
 have h0 : P3 (w.alloc (.cells #[.int .u8 k, .int .i64 nn, .slice va vn vc] 88)) w.heap.size (.int .u8 k) (.int .i64 nn) (.slice va vn vc) := heap_alloc_new w _
 have hz0 : (w.alloc (.cells #[.int .u8 k, .int .i64 nn, .slice va vn vc] 88)).heap.size = w.heap.size + 1 := by simp
 go_enter Tryz.func79, Tryz.ntmps79
 go_upto_region 1 with (fail)
 have hb0 := hby.keep hk0 (by simp)
 have htv1 := htv.keep hk0 (by simp)
 generalize w.alloc (.cells #[.int .u8 k, .int .i64 nn, .slice va vn vc] 88) = W at *
 obtain ⟨c0, c1, c2⟩ := h0.main
 have HZ : Hid (W.heap.size = w.heap.size + 1) := hz0
 clear hz0
 rcases htv1.inner with ⟨b, rfl, hb, hk98, hnb⟩ | ⟨kk, r, rs, m, hkk, hne, hrow, hown, hSv, hfl, hsz⟩
 ·simp only [Value.int.injEq, true_and] at hk98 hnb
  obtain rfl : nn = b := by omega
  have hkE : ((k : Int) == 98) = true := by simp [hk98]
  have hlt1 : l.length + 1 ≤ 40000 := by simpa [Tr.flat] using hlen
  have hby1 : (nn : Int) ≤ 255 := by omega
  have hby0 : (0 : Int) ≤ (nn : Int) := by omega
  obtain ⟨i0, hi0, hz0', hz1, hz2⟩ := info_parts infoByte
  have hun := Tryz.underlying64
  have hlm : l.length + 1 ≤ maxLen := by unfold maxLen; omega
  have e8 : ((UInt8.ofNat nn).toNat : Int) = (nn : Int) := by
   have : (UInt8.ofNat nn).toNat = nn := by simp; omega
   rw [this]
  have hxl : ∀ z, (Value.slice xa xn xc).ownBlock = some z → z < w.heap.size := fun z hz => (World.ownsRow.lt hby z hz).2
  clear hk98 hlen htv0 htv htv1 hvS
  go_wp2_with (first | (at_builtin; refine wpList_append_lies _ rfl _ _ _ rfl 0 5 i0 (.int .u8 0) 1 1 hun hi0 hz0' hz1 hz2 rfl (by decide) (.slice xa xn xc) l.length _ rfl (World.ownsRow.alloc hb0 _) ⟨W.heap.size, 0, none⟩ 1 1 [.int .u8 (nn : Int)] rfl rfl (cell_one_new _ _ _) (by simp [Value.oneCell']) (by omega) hlm (by omega) (Nat.zero_le _) (W.heap.size + 1) (by simp) ?_; intro g cap w4 hown hgrow hat hlt4))
  go_ret
  have hkA : Keeps (Value.slice xa xn xc).ownBlock.toList w w4 := ((hk0.trans ((Keeps.refl [] W).alloc (.cells #[.int .u8 (nn : Int)] 5))).mono (by simp)).trans (Keeps.ofGrown hgrow)
  refine ⟨.slice (some ⟨g, 0, none⟩) (l.length + 1) cap, rfl, ?_, hkA, ?_⟩
  ·show w4.ownsRow 0 5 1 _ (l ++ [UInt8.ofNat nn]).length ((l ++ [UInt8.ofNat nn]).map byteV)
   rw [List.length_append, List.map_append]
   have : [UInt8.ofNat nn].map byteV = [.int .u8 (nn : Int)] := by simp only [List.map_cons, List.map_nil, byteV, e8]
   rw [this]
   exact hown
  ·rcases hat with h | h
   ·exact Or.inl (by rw [h]; rfl)
   ·right
    intro z hz
    simp only [Value.ownBlock, Option.some.injEq] at hz
    subst hz
    have := HZ.out
    rw [h]
    simp
    omega
 ·simp only [Value.int.injEq, true_and] at hkk
  have hkE : ((k : Int) == 98) = false := by simp; omega
  obtain rfl := ownsRow_lenT hown
  obtain ⟨hcl, _, hat⟩ := hrow.tl_at
  have hfl2 := hrow.flats
  have HF : Hid (t.flat = flats (tl r)) := hfl.trans hfl2
  have HK : Hid (vn = (tl r).length) := by
   have := hown.1
   show vn = (tl r).length
   omega
  have hvm : (vn : Int) ≤ 9223372036854775807 := by
   rcases hown.2 with ⟨_, e⟩ | ⟨g, cap, cur, _, _, _, h1, h2, _⟩
   ·omega
   ·unfold maxLen at h2; omega
  have HLN : Hid (l.length + (flats (tl r)).length ≤ 40000) := by rw [← hfl2, ← hfl]; exact hlen
  have hoS : ∀ (g : Nat), (S g ∧ g < w.heap.size) → g ∉ (Value.slice xa xn xc).ownBlock.toList := fun g hg hm => by
   rw [Option.mem_toList] at hm
   exact hvS g hm hg.1
  clear hkk hne hcl hfl hfl2 hlen htv0 htv htv1
  go_upto_region 4 with (fail)
  go_loopw [1, 6, 19] (fun q1 _ q19 wr => ∃ i : Nat, i ≤ vn ∧ q19 = .int .i64 i ∧ BY wr 0 q1 (l ++ flats ((tl r).take i)) ∧ Keeps (Value.slice xa xn xc).ownBlock.toList W wr ∧ (q1.ownBlock = (Value.slice xa xn xc).ownBlock ∨ ∀ g, q1.ownBlock = some g → W.heap.size ≤ g)) (fun _ _ q _ => vn - (intOf q).toNat)
  case atStart => exact ⟨0, Nat.zero_le _, rfl, by simpa [flats] using hb0, Keeps.refl _ _, Or.inl rfl⟩
  case round =>
   obtain ⟨i, hi, rfl, hb, hkr, hor⟩ := hrel
   obtain ⟨ya, yn, yc, rfl⟩ := ownsRow_sl hb
   by_cases hlt : i < vn
   ·obtain ⟨x, hx⟩ : ∃ x, (tl r)[i]? = some x := ⟨_, List.getElem?_eq_getElem (by have := HK.out; omega)⟩
    obtain ⟨ds, hds, hdc, hxsz, _⟩ := hat i x hx
    obtain ⟨k1, n1, da, dn, dc, rfl⟩ := hds.form
    obtain ⟨gv, vc', hv, _, hgv⟩ := hown.form (by omega)
    cases hv
    have hgS := hSv gv rfl
    have hownr : wr.ownsRow 0 88 3 (.slice (some ⟨gv, 0, none⟩) vn vc) vn rs := hown.keep hkr (by intro g hg; simp only [Value.ownBlock, Option.some.injEq] at hg; subst hg; exact hoS _ hgS)
    have hrg : wr.rangeAt gv (i * 3) [.int .u8 k1, .int .i64 n1, .slice da dn dc] := fun j u hu => by
     have hj : j < 3 := (List.getElem?_eq_some_iff.1 hu).1
     exact (World.ownsRow.cellAt hownr (i * 3 + j) (by omega)).trans (hdc j u hu)
    have hi3 : (Tryz.prog.info? 88).map (·.size) = some 3 := by kernel_rfl
    have hi0 : (0 : Int) ≤ (i : Int) := by omega
    have hi1 : (i : Int) < (vn : Int) := by omega
    have HI : Hid (i < vn) := hlt
    have HTN : Hid (flats ((tl r).take (i + 1)) = flats ((tl r).take i) ++ x.flat) := flats_take _ i x hx
    have hfin := flats_len (tl r) (i + 1)
    have HLT : Hid ((l ++ flats ((tl r).take i)).length + x.flat.length ≤ 40000) := by
     have h1 := HTN.out
     have h2 := HLN.out
     rw [h1] at hfin
     show _ ≤ _
     simp only [List.length_append] at hfin ⊢
     omega
    have hq0 : (wr.alloc (.cells #[.int .u8 0, .int .i64 0, .slice none 0 0] 88)).heap[wr.heap.size]? = some (.cells #[.int .u8 0, .int .i64 0, .slice none 0 0] 88 (0, 0)) := heap_alloc_new wr _
    have hk1 : Keeps [] wr ((wr.alloc (.cells #[.int .u8 0, .int .i64 0, .slice none 0 0] 88)).setRow wr.heap.size #[.int .u8 k1, .int .i64 n1, .slice da dn dc]) := ((Keeps.refl [] wr).alloc _).setRow (Or.inr (Nat.le_refl _)) _
    have hq1 : ((wr.alloc (.cells #[.int .u8 0, .int .i64 0, .slice none 0 0] 88)).setRow wr.heap.size #[.int .u8 k1, .int .i64 n1, .slice da dn dc]).heap[wr.heap.size]? = some (.cells #[.int .u8 k1, .int .i64 n1, .slice da dn dc] 88 (0, 0)) := setRow_heap _ _ _ _ _ _ hq0
    have hbk := hb.keep hk1 (by simp)
    have hkr2 := hkr.trans (hk1.mono (by simp))
    have htvx := hds.keep hkr2 hoS
    have hIC := fun A hA hB => IA x (by omega) A (fun g => S g ∧ g < w.heap.size) _ (.slice ya yn yc) (l ++ flats ((tl r).take i)) (hA : TV A (fun g => S g ∧ g < w.heap.size) true x [.int .u8 k1, .int .i64 n1, .slice da dn dc]) (hB : BY A 0 (.slice ya yn yc) (l ++ flats ((tl r).take i))) (by
      intro g hg hS
      rcases hor with h | h
      · rw [h] at hg; exact hvS g hg hS.1
      · have h3 := h g hg; have h4 := HZ.out; have h5 := hS.2; omega) HLT.out
    have hIC2 := hIC _ htvx hbk
    have HOR : Hid ((Value.slice ya yn yc).ownBlock = (Value.slice xa xn xc).ownBlock ∨ ∀ g, (Value.slice ya yn yc).ownBlock = some g → W.heap.size ≤ g) := hor
    clear hi hlt hx hfin hIC hor hb htvx hownr hat
    go_upto_region 6 with (first | (refine wpList_load_mid rfl 88 _ rfl gv (i * 3) rfl _ _ hrg Tryz.underlying88 rfl hi3 ?_) | (refine wpList_store_row rfl 88 _ _ rfl wr.heap.size #[.int .u8 k1, .int .i64 n1, .slice da dn dc] rfl rfl _ _ hq0 (info3 _ _ _) rfl (all3 rfl rfl rfl) ?_; generalize (wr.alloc (.cells #[.int .u8 0, .int .i64 0, .slice none 0 0] 88)).setRow wr.heap.size #[.int .u8 k1, .int .i64 n1, .slice da dn dc] = w2 at *))
    go_wp2_with (first | (refine wpList_load_row rfl 88 _ rfl wr.heap.size rfl _ _ _ _ hq1 Tryz.underlying88 rfl (info3 _ _ _) ?_))
    refine hIC2.mono ?_
    rintro e w3 ⟨v', rfl, hb3, hk3, hor3⟩
    have hkW : Keeps (Value.slice xa xn xc).ownBlock.toList W w3 := keepsM hkr2 hk3 (by
      intro z hz
      rw [Option.mem_toList] at hz
      rcases HOR.out with h | h
      · rw [h] at hz; exact Or.inl (by rw [Option.mem_toList]; exact hz)
      · exact Or.inr (h z hz))
    have hor4 : v'.ownBlock = (Value.slice xa xn xc).ownBlock ∨ ∀ g, v'.ownBlock = some g → W.heap.size ≤ g := by
     have hs2 := hkr2.size
     rcases hor3 with h | h
     ·rw [h]; exact HOR.out
     ·exact Or.inr fun g hg => by have := h g hg; omega
    have hb5 : BY w3 0 v' (l ++ flats ((tl r).take (i + 1))) := by rw [HTN.out, ← List.append_assoc]; exact hb3
    clear hb3 hk3 hor3 hIC2 hbk hq0 hq1 hrg
    go_wp2_with fail
    go_roundw
    case rel => exact ⟨i + 1, HI.out, by go_num, hb5, hkW, hor4⟩
    case measure => have := HI.out; simp [intOf]; omega
   ·have hie : i = vn := by omega
    have hni : ¬ (i : Int) < (vn : Int) := by omega
    have hall : (tl r).take i = tl r := by rw [hie, HK.out]; exact List.take_length
    rw [hall] at hb
    clear hall hlt hi hie
    go_wp2_with fail
    go_ret
    exact ⟨_, rfl, by rw [HF.out]; exact hb, (hk0.mono (by simp)).trans hkr, by
      have := hk0.size
      rcases hor with h | h
      · exact Or.inl h
      · exact Or.inr fun g hg => by have := h g hg; omega⟩
theorem addBytes_all : ∀ n, AddOk n
 | 0 => fun t h => absurd h (by have := t.sz_pos; omega)
 | n + 1 => addBytes_any n (addBytes_all n)
end Go.Proofs.YtnfojonmohijpaaGreatDoor
