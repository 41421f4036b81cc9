/-
  DERIVED. Plain mathematics: pieces of patterns as texts, put together; how each is read wherever it stands. Nothing of the program stands here.
-/
import Derived.Test.YtnfojonmohijpabGreatDoorJSpec
import Derived.Test.YtnfojonmohijpabGreatDoorJBK
import Derived.Test.YtnfojonmohijpabGreatDoorJOI0
import Derived.Test.YtnfojonmohijpabGreatDoorJPW
set_option linter.unusedSimpArgs false
set_option linter.unusedVariables false
namespace Go.Proofs.YtnfojonmohijpabGreatDoor
def Lies (s : ByteArray) (i : Nat) (p : List UInt8) : Prop := ∀ k c, p[k]? = some c → at' s (i + k) = (c.toNat : Int)
theorem Lies.nil {s : ByteArray} {i : Nat} : Lies s i [] := fun k c h => by simp at h
theorem Lies.cons {s : ByteArray} {i : Nat} {c : UInt8} {p : List UInt8} : Lies s i (c :: p) ↔ at' s i = (c.toNat : Int) ∧ Lies s (i + 1) p := by
 constructor
 ·intro h
  refine ⟨h 0 c rfl, fun k d hd => ?_⟩
  have := h (k + 1) d (by simpa using hd)
  rw [show i + 1 + k = i + (k + 1) by omega]
  exact this
 ·rintro ⟨h1, h2⟩ k d hd
  cases k with
  | zero => simp at hd; subst hd; exact h1
  | succ k =>
   have := h2 k d (by simpa using hd)
   rw [show i + (k + 1) = i + 1 + k by omega]
   exact this
theorem Lies.app {s : ByteArray} {p q : List UInt8} : ∀ {i : Nat}, Lies s i (p ++ q) ↔ Lies s i p ∧ Lies s (i + p.length) q := by
 induction p with
 | nil => intro i; simp [Lies.nil]
 | cons c p ih =>
  intro i
  rw [List.cons_append, Lies.cons, ih, Lies.cons, List.length_cons, show i + 1 + p.length = i + (p.length + 1) by omega]
  exact ⟨fun ⟨a, b, d⟩ => ⟨⟨a, b⟩, d⟩, fun ⟨⟨a, b⟩, d⟩ => ⟨a, b, d⟩⟩
theorem lies_get {s : ByteArray} {i : Nat} {c : UInt8} (h : at' s i = (c.toNat : Int)) : s.get! i = c := by
 have hlt : i < s.size := at'_nn (by omega)
 rw [at'_lt hlt] at h
 have h2 : s[i].toNat = c.toNat := by omega
 have h3 : s[i] = c := UInt8.toNat_inj.1 h2
 have e : s.get! i = s[i] := by
  cases s with
  | mk a => exact getElem!_pos a i hlt
 rw [e, h3]
def noRep (c : Int) : Prop := c ≠ 42 ∧ c ≠ 43 ∧ c ≠ 63 ∧ c ≠ 123
def pre : List Pat → Pat → Pat
 | [], y => y
 | x :: l, y => .pcons x (pre l y)
theorem pre_app (l m : List Pat) (y : Pat) : pre (l ++ m) y = pre l (pre m y) := by
 induction l with
 | nil => rfl
 | cons x l ih => rw [List.cons_append, pre, pre, ih]
structure Wy (p : List UInt8) (f : Nat → List Pat) (n dep : Nat) : Prop where
 hd : ∃ c r, p = c :: r ∧ noRep (c.toNat : Int)
 rd : ∀ (s : ByteArray) (i d g : Nat) (q : R (Pat × Nat)), Lies s i p → d + dep ≤ 6 → g + n ≤ 9 → noRep (at' s (i + p.length)) → G s .way d (g + n) (i + p.length) q → G s .way d g i (q.map fun y => (pre (f g) y.1, y.2))
def Ws (p : List UInt8) (x : Nat → Pat) (n dep : Nat) : Prop :=
 ∀ (s : ByteArray) (i d g : Nat), Lies s i p → d + dep ≤ 6 → g + n ≤ 9 → (at' s (i + p.length) = 41 ∨ at' s (i + p.length) = -1) → G s .ways d g i (.ok (x g, g + n) (i + p.length))
def Sg (p : List UInt8) (x : Pat) : Prop := (∃ c r, p = c :: r ∧ noRep (c.toNat : Int) ∧ ¬ stopC (c.toNat : Int)) ∧ ∀ (s : ByteArray) (i d g : Nat), Lies s i p → G s .single d g i (.ok (x, g) (i + p.length))
def Rx (r : List UInt8) (o : Option (Nat × Int)) : Prop := ∀ (s : ByteArray) (j : Nat), Lies s j r → noRep (at' s (j + r.length)) → RepR s j (.ok o (j + r.length))
theorem Wy.app {p q : List UInt8} {f f' : Nat → List Pat} {n n' a a' : Nat} (h : Wy p f n a) (k : Wy q f' n' a') : Wy (p ++ q) (fun g => f g ++ f' (g + n)) (n + n') (max a a') := by
 obtain ⟨c, r, rfl, hc⟩ := h.hd
 obtain ⟨c', r', rfl, hc'⟩ := k.hd
 refine ⟨⟨c, r ++ (c' :: r'), rfl, hc⟩, ?_⟩
 intro s i d g z hl hd hg he hz
 obtain ⟨l1, l2⟩ := Lies.app.1 hl
 have e : i + ((c :: r) ++ (c' :: r')).length = i + (c :: r).length + (c' :: r').length := by rw [List.length_append]; omega
 rw [e] at he hz
 rw [show g + (n + n') = g + n + n' by omega] at hz
 have h2 := k.rd s (i + (c :: r).length) d (g + n) z l2 (by omega) (by omega) he hz
 have h3 := h.rd s i d g _ l1 (by omega) (by omega) (by rw [(Lies.cons.1 l2).1]; exact hc') h2
 cases z with
 | bad j => exact h3
 | ok y j =>
  have e3 : (R.ok y j).map (fun y => (pre (f g ++ f' (g + n)) y.1, y.2)) = ((R.ok y j).map fun y => (pre (f' (g + n)) y.1, y.2)).map fun y => (pre (f g) y.1, y.2) := by simp [R.map, pre_app]
  rw [e3]
  exact h3
theorem Wy.single {p r : List UInt8} {x : Pat} {o : Option (Nat × Int)} (h : Sg p x) (hr : Rx r o) : Wy (p ++ r) (fun _ => [withRep x o]) 0 0 := by
 obtain ⟨⟨c, t, rfl, hc, hs⟩, h⟩ := h
 refine ⟨⟨c, t ++ r, rfl, hc⟩, ?_⟩
 intro s i d g z hl hd hg he hz
 obtain ⟨l1, l2⟩ := Lies.app.1 hl
 have e : i + ((c :: t) ++ r).length = i + (c :: t).length + r.length := by rw [List.length_append]; omega
 rw [e] at he hz
 have h1 := h s i d g l1
 have h2 := G.rep d g i g (i + (c :: t).length) x (.ok o (i + (c :: t).length + r.length)) h1 (hr s _ l2 he)
 exact G.cons d g i g _ _ z (by rw [(Lies.cons.1 l1).1]; exact hs) h2 hz
theorem Ws.one {p : List UInt8} {f : Nat → List Pat} {n a : Nat} (h : Wy p f n a) : Ws p (fun g => .wone (pre (f g) .pnil)) n a := by
 intro s i d g hl hd hg he
 have h1 := h.rd s i d g (.ok (.pnil, g + n) (i + p.length)) hl hd hg (by unfold noRep; omega) (G.nil d (g + n) _ (by unfold stopC; omega))
 exact G.one d g i (g + n) _ _ h1 (by omega)
theorem Ws.nil : Ws [] (fun _ => .wone .pnil) 0 0 := by
 intro s i d g _ _ _ he
 exact G.one d g i g _ _ (G.nil d g i (by simp only [List.length_nil, Nat.add_zero] at he; unfold stopC; omega)) (by simp only [List.length_nil, Nat.add_zero] at he ⊢; omega)
theorem Ws.cons {p q : List UInt8} {f : Nat → List Pat} {y : Nat → Pat} {n n' a a' : Nat} (h : Wy p f n a) (k : Ws q y n' a') : Ws (p ++ [124] ++ q) (fun g => .wcons (pre (f g) .pnil) (y (g + n))) (n + n') (max a a') := by
 intro s i d g hl hd hg he
 obtain ⟨l12, l3⟩ := Lies.app.1 hl
 obtain ⟨l1, l2⟩ := Lies.app.1 l12
 have hb : at' s (i + p.length) = 124 := (Lies.cons.1 l2).1
 have e1 : i + (p ++ [124]).length = i + p.length + 1 := by rw [List.length_append]; rfl
 have e2 : i + (p ++ [124] ++ q).length = i + p.length + 1 + q.length := by rw [List.length_append, List.length_append]; simp only [List.length_singleton]; omega
 rw [e1] at l3
 rw [e2] at he ⊢
 have h1 := h.rd s i d g (.ok (.pnil, g + n) (i + p.length)) l1 (by omega) (by omega) (by unfold noRep; omega) (G.nil d (g + n) _ (by unfold stopC; omega))
 have h2 := k s (i + p.length + 1) d (g + n) l3 (by omega) (by omega) he
 have h3 := G.more d g i (g + n) (i + p.length) _ (.ok (y (g + n), g + n + n') (i + p.length + 1 + q.length)) h1 hb h2
 rw [show g + (n + n') = g + n + n' by omega]
 exact h3
theorem Wy.grp {p r : List UInt8} {x : Nat → Pat} {n a : Nat} {o : Option (Nat × Int)} (h : Ws p x n a) (hr : Rx r o) : Wy ([40] ++ p ++ [41] ++ r) (fun g => [withRep (.grp (g + 1) (x (g + 1))) o]) (n + 1) (a + 1) := by
 refine ⟨⟨40, p ++ [41] ++ r, by simp, by unfold noRep; decide⟩, ?_⟩
 intro s i d g z hl hd hg he hz
 obtain ⟨l123, l4⟩ := Lies.app.1 hl
 obtain ⟨l12, l3⟩ := Lies.app.1 l123
 obtain ⟨l1, l2⟩ := Lies.app.1 l12
 have e1 : i + ([40] : List UInt8).length = i + 1 := rfl
 have e2 : i + ([40] ++ p).length = i + 1 + p.length := by rw [List.length_append]; simp only [List.length_singleton]; omega
 have e3 : i + ([40] ++ p ++ [41]).length = i + 1 + p.length + 1 := by rw [List.length_append, List.length_append]; simp only [List.length_singleton]; omega
 have e4 : i + ([40] ++ p ++ [41] ++ r).length = i + 1 + p.length + 1 + r.length := by rw [List.length_append]; omega
 rw [e1] at l2
 rw [e2] at l3
 rw [e3] at l4
 rw [e4] at he hz
 have ho : at' s i = 40 := (Lies.cons.1 l1).1
 have hc : at' s (i + 1 + p.length) = 41 := (Lies.cons.1 l3).1
 have h1 := h s (i + 1) (d + 1) (g + 1) l2 (by omega) (by omega) (Or.inl hc)
 have h2 := G.grp d g i (g + 1 + n) (i + 1 + p.length) _ ho (by omega) h1 hc
 have h3 := G.rep d g i (g + 1 + n) (i + 1 + p.length + 1) _ (.ok o (i + 1 + p.length + 1 + r.length)) h2 (hr s _ l4 he)
 rw [show g + (n + 1) = g + 1 + n by omega] at hz
 exact G.cons d g i (g + 1 + n) _ _ z (by rw [ho]; unfold stopC; decide) h3 hz
theorem Rx.none : Rx [] none := fun s j _ he => Or.inl ⟨he.1, he.2.1, he.2.2.1, he.2.2.2, rfl⟩
theorem Rx.star : Rx [42] (some (0, -1)) := fun s j hl _ => Or.inr (Or.inl ⟨(Lies.cons.1 hl).1, rfl⟩)
theorem Rx.plus : Rx [43] (some (1, -1)) := fun s j hl _ => Or.inr (Or.inr (Or.inl ⟨(Lies.cons.1 hl).1, rfl⟩))
theorem Rx.opt : Rx [63] (some (0, 1)) := fun s j hl _ => Or.inr (Or.inr (Or.inr (Or.inl ⟨(Lies.cons.1 hl).1, rfl⟩)))
theorem num1 {s : ByteArray} {least m i : Nat} (h : at' s i = ((48 + m : Nat) : Int)) (hm : m ≤ 5) (hl : least ≤ m) (hn : digB (at' s (i + 1)) = false) : NumL s least 0 false i (.ok m (i + 1)) := by
 refine NumL.dig 0 m false i _ ?_ (by rw [h]; omega) hm (Or.inr hl) (NumL.done m (i + 1) hn hl)
 rw [h]
 simp only [digB, Bool.and_eq_true, decide_eq_true_eq]
 omega
theorem Rx.from {m : Nat} (hm : m ≤ 5) : Rx [123, UInt8.ofNat (48 + m), 44, 125] (some (m, -1)) := by
 intro s j hl _
 obtain ⟨h0, hl⟩ := Lies.cons.1 hl
 obtain ⟨h1, hl⟩ := Lies.cons.1 hl
 obtain ⟨h2, hl⟩ := Lies.cons.1 hl
 obtain ⟨h3, _⟩ := Lies.cons.1 hl
 have e : ((UInt8.ofNat (48 + m)).toNat : Int) = ((48 + m : Nat) : Int) := by
  have : (UInt8.ofNat (48 + m)).toNat = 48 + m := by simp; omega
  rw [this]
 rw [e] at h1
 exact Or.inr (Or.inr (Or.inr (Or.inr ⟨h0, _, num1 h1 hm (Nat.zero_le _) (by rw [h2]; decide), Or.inl ⟨h2, h3, rfl⟩⟩)))
theorem Rx.upto {m n : Nat} (hm : m ≤ n) (hn : n ≤ 5) : Rx [123, UInt8.ofNat (48 + m), 44, UInt8.ofNat (48 + n), 125] (some (m, (n : Int))) := by
 intro s j hl _
 obtain ⟨h0, hl⟩ := Lies.cons.1 hl
 obtain ⟨h1, hl⟩ := Lies.cons.1 hl
 obtain ⟨h2, hl⟩ := Lies.cons.1 hl
 obtain ⟨h3, hl⟩ := Lies.cons.1 hl
 obtain ⟨h4, _⟩ := Lies.cons.1 hl
 have e : ∀ k, k ≤ 5 → ((UInt8.ofNat (48 + k)).toNat : Int) = ((48 + k : Nat) : Int) := fun k hk => by
  have : (UInt8.ofNat (48 + k)).toNat = 48 + k := by simp; omega
  rw [this]
 rw [e m (by omega)] at h1
 rw [e n hn] at h3
 have h4' : at' s (j + 1 + 1 + 1 + 1) = 125 := h4
 exact Or.inr (Or.inr (Or.inr (Or.inr ⟨h0, _, num1 h1 (by omega) (Nat.zero_le _) (by rw [h2]; decide), Or.inr (Or.inl ⟨h2, by rw [h3]; omega, _, num1 h3 hn hm (by rw [h4]; decide), by rw [Rep3, if_pos h4']; rfl⟩)⟩)))
theorem Ws.whole {p : List UInt8} {x : Nat → Pat} {n a : Nat} (h : Ws p x n a) (ha : a ≤ 6) (hn : n ≤ 9) (hp : p.head? ≠ some 94) (s : ByteArray) (hs : s.data.toList = p) : PatR s (.ok ⟨false, false, x 0, n⟩ p.length) := by
 have hsz : s.size = p.length := by rw [← hs, Array.length_toList]; rfl
 have hl : Lies s 0 p := by
  intro k c hc
  have hk : k < s.size := by rw [hsz]; exact (List.getElem?_eq_some_iff.1 hc).1
  rw [Nat.zero_add, at'_lt hk]
  have : s.data.toList[k]? = some c := by rw [hs]; exact hc
  have h2 : s[k] = c := by
   have h3 : s.data[k]? = some c := by simpa using this
   exact (Array.getElem?_eq_some_iff.1 h3).2
  rw [h2]
 have he : at' s p.length = -1 := at'_ge (by omega)
 have h1 := h s 0 0 0 hl (by omega) (by omega) (Or.inr (by rw [Nat.zero_add]; exact he))
 have h0 : at' s 0 ≠ 94 := by
  cases p with
  | nil => rw [at'_ge (by rw [hsz]; simp)]; decide
  | cons c r =>
   have := (Lies.cons.1 hl).1
   rw [this]
   intro hc
   apply hp
   simp only [List.head?_cons, Option.some.injEq]
   apply UInt8.toNat_inj.1
   have : (94 : UInt8).toNat = 94 := rfl
   omega
 have hw : wi s = 0 := by unfold wi; rw [if_neg h0]
 rw [Nat.zero_add, Nat.zero_add] at h1
 refine ⟨_, by rw [hw]; exact h1, ?_⟩
 rw [PatE_ok, he]
 simp [h0, he]
end Go.Proofs.YtnfojonmohijpabGreatDoor
namespace Go.Proofs.YtnfojonmohijpabGreatDoor
open Go.RowKit
def tooLong : Ending := .panicked [{ v := .iface 104 (.agg #[]), recovered := false }]
structure WPut (B b : Nat) (l m : List UInt8) (w : World) (e : Ending) (w' : World) : Prop where
 fits : l.length + m.length ≤ 20000 → e = .returned (.tuple #[]) ∧ BW w' B b (l ++ m)
 long : 20000 < l.length + m.length → e = tooLong
 frame : WF B b w w'
theorem BW.lt {w : World} {B b : Nat} {l : List UInt8} (h : BW w B b l) : b < w.heap.size := by
 obtain ⟨_, p, v, _, hb, _⟩ := h
 exact (Array.getElem?_eq_some_iff.1 hb).1
set_option maxRecDepth 100000 in
set_option maxHeartbeats 1000000 in
theorem put_any (B b : Nat) (l m : List UInt8) (w : World) (h : BW w B b l) (hl : l.length ≤ 20000) (hm : m.length ≤ 1000000) (hBw : B ≤ w.heap.size) :
    Calls Tryz.prog 107 #[.pointer (some ⟨b, 0, none⟩), .string (nmB m)] w (WPut B b l m w) := by
 have hms : (nmB m).size = m.length := nmB_size m
 have hl' : (l.length : Int) ≤ 20000 := by omega
 have hm' : ((nmB m).size : Int) ≤ 1000000 := by omega
 by_cases hf : l.length + m.length ≤ 20000
 ·have hg : ¬ (20000 : Int) < (l.length : Int) + ((nmB m).size : Int) := by omega
  have HF : Hid (l.length + m.length ≤ 20000) := hf
  clear hms hf
  go_enter Tryz.func107, Tryz.ntmps107
  go_wp2_with (first | (go_at_call 129; refine (wlen_any B b l _ h).mono ?_; rintro e w1 ⟨rfl, hw1⟩; rw [hw1]; clear hw1 w1) | (go_at_call 50; refine (wwriteString_any B b l m w h (by omega) (by omega) hBw).mono ?_; rintro e w2 ⟨⟨v, rfl⟩, hb2, hbel, hoth⟩))
  go_end0
  exact ⟨fun _ => ⟨rfl, hb2⟩, fun h => by have := HF.out; omega, ⟨hbel, hoth⟩⟩
 ·have hg : (20000 : Int) < (l.length : Int) + ((nmB m).size : Int) := by omega
  have HF : Hid (20000 < l.length + m.length) := by show 20000 < l.length + m.length; omega
  clear hms hf
  go_enter Tryz.func107, Tryz.ntmps107
  go_wp2_with (first | (go_at_call 129; refine (wlen_any B b l _ h).mono ?_; rintro e w1 ⟨rfl, hw1⟩; rw [hw1]; clear hw1 w1))
  refine ⟨rfl, ⟨fun h => ?_, fun _ => rfl, WF.refl B b w⟩⟩
  have := HF.out
  omega
theorem TV.wf {w w' : World} {S : Nat → Prop} {b0 : Bool} {t : Tr} {cs : List Value} {B b : Nat} (h : TV w S b0 t cs) (hS : ∀ g, S g → g < B) (hf : WF B b w w') : TV w' S b0 t cs := h.keep (Keeps.ofBelow hf.below) fun g hg => upB_not (hS g hg)
theorem ownsRow_wf {w w' : World} {B b n : Nat} {e : TypeId} {size : Nat} {v : Value} {cs : List Value} (h : w.ownsRow 0 e size v n cs) (hS : ∀ g, v.ownBlock = some g → g < B) (hf : WF B b w w') : w'.ownsRow 0 e size v n cs := h.keep (Keeps.ofBelow hf.below) fun g hg => upB_not (hS g hg)
def TreeW (n : Nat) : Prop := ∀ (t : Tr), t.sz ≤ n → t.thin → ∀ (w : World) (S : Nat → Prop) (B b : Nat) (l : List UInt8) (cs : List Value), TV w S true t cs → (∀ g, S g → g < B) → BW w B b l → B ≤ w.heap.size → l.length ≤ 20000 →
 Calls Tryz.prog 70 #[.pointer (some ⟨b, 0, none⟩), .agg cs.toArray] w (WPut B b l t.text w)
def BracketW (n : Nat) : Prop := ∀ (t : Tr), t.sz ≤ n → t.thin → ∀ (w : World) (S : Nat → Prop) (B b k : Nat) (l h : List UInt8) (v : Value) (cs : List Value), TV w S false t cs → w.ownsRow 0 75 3 v k cs → (∀ g, v.ownBlock = some g → S g) → (∀ g, S g → g < B) → BW w B b l → B ≤ w.heap.size → l.length ≤ 20000 → h.length ≤ 10 →
 Calls Tryz.prog 109 #[.pointer (some ⟨b, 0, none⟩), .string (nmB h), v] w (WPut B b l (h ++ t.text ++ [41]) w)
end Go.Proofs.YtnfojonmohijpabGreatDoor
namespace Go.Proofs.YtnfojonmohijpabGreatDoor
open Go.RowKit
set_option maxRecDepth 100000 in
set_option maxHeartbeats 2000000 in
theorem bracket_any (n : Nat) (IT : TreeW n) : BracketW (n + 1) := by
 intro t ht hthin w S B b k l h v cs htv hown hSv hS hbw hBw hl hh
 obtain ⟨hcl, htx, hat⟩ := htv.tl_at
 obtain ⟨va, vn, vc, rfl⟩ := ownsRow_sl hown
 obtain rfl := ownsRow_lenT hown
 have HK : Hid (vn = (tl t).length) := by
  have := hown.1
  show vn = (tl t).length
  omega
 have HT : Hid (h ++ t.text ++ [41] = h ++ txts (tl t) ++ [41]) := by show _ = _; rw [htx]
 have hbl := hbw.lt
 have hvm : (vn : Int) ≤ 9223372036854775807 := by
  rcases hown.2 with ⟨_, e⟩ | ⟨g, cap, cur, _, _, _, h1, h2, _⟩
  ·omega
  ·unfold maxLen at h2; omega
 clear htx hcl
 go_enter Tryz.func109, Tryz.ntmps109
 go_wp2_with fail
 refine (put_any B b l h w hbw hl (by omega) hBw).mono ?_
 rintro e w1 P1
 by_cases hf1 : l.length + h.length ≤ 20000
 ·obtain ⟨rfl, hb1⟩ := P1.fits hf1
  have hF1 := P1.frame
  clear P1
  go_wp2_with fail
  go_loopw [7, 13] (fun _ q wr => ∃ i : Nat, i ≤ vn ∧ q = .int .i64 i ∧ BW wr B b (l ++ h ++ txts ((tl t).take i)) ∧ Hid ((l ++ h ++ txts ((tl t).take i)).length ≤ 20000) ∧ WF B b w wr) (fun _ q _ => vn - (intOf q).toNat)
  case atStart => exact ⟨0, Nat.zero_le _, rfl, by simpa [txts] using hb1, (by show (l ++ h ++ txts ((tl t).take 0)).length ≤ 20000; simp [txts]; omega), hF1⟩
  case round =>
   clear hb1 hF1
   obtain ⟨i, hi, rfl, hb, HLN, hF⟩ := hrel
   have hsz := hF.below.size
   by_cases hlt : i < vn
   ·obtain ⟨x, hx⟩ : ∃ x, (tl t)[i]? = some x := ⟨_, List.getElem?_eq_getElem (by have := HK.out; omega)⟩
    obtain ⟨ds, hds, hdc, hxsz, hxth⟩ := hat i x hx
    obtain ⟨k1, n1, da, dn, dc, rfl⟩ := hds.form
    obtain ⟨gv, vc', hv, _, hgv⟩ := hown.form (by omega)
    cases hv
    have hgB : gv < B := hS gv (hSv gv rfl)
    have hownr := ownsRow_wf hown (by intro g hg; exact hS g (hSv g hg)) hF
    have hrg : wr.rangeAt gv (i * 3) [.int .u8 k1, .int .i64 n1, .slice da dn dc] := fun j u hu => by
     have hj : j < 3 := (List.getElem?_eq_some_iff.1 hu).1
     exact (World.ownsRow.cellAt hownr (i * 3 + j) (by omega)).trans (hdc j u hu)
    have hi3 : (Tryz.prog.info? 75).map (·.size) = some 3 := by kernel_rfl
    have hi0 : (0 : Int) ≤ (i : Int) := by omega
    have hi1 : (i : Int) < (vn : Int) := by omega
    have HI : Hid (i < vn) := hlt
    have HTN : Hid (txts ((tl t).take (i + 1)) = txts ((tl t).take i) ++ ([32] ++ x.text)) := txts_take _ i x hx
    have hfin := txts_len (tl t) (i + 1)
    have HLT : Hid ((txts ((tl t).take i)).length + 1 + x.text.length ≤ (txts (tl t)).length) := by
     have h1 := HTN.out
     rw [h1] at hfin
     simp only [List.length_append, List.length_singleton] at hfin
     show _ ≤ _
     omega
    have hq0 : (wr.alloc (.cells #[.int .u8 0, .int .i64 0, .slice none 0 0] 75)).heap[wr.heap.size]? = some (.cells #[.int .u8 0, .int .i64 0, .slice none 0 0] 75 (0, 0)) := heap_alloc_new wr _
    have hk1 : Keeps [] wr ((wr.alloc (.cells #[.int .u8 0, .int .i64 0, .slice none 0 0] 75)).setRow wr.heap.size #[.int .u8 k1, .int .i64 n1, .slice da dn dc]) := ((Keeps.refl [] wr).alloc _).setRow (Or.inr (Nat.le_refl _)) _
    have hq1 : ((wr.alloc (.cells #[.int .u8 0, .int .i64 0, .slice none 0 0] 75)).setRow wr.heap.size #[.int .u8 k1, .int .i64 n1, .slice da dn dc]).heap[wr.heap.size]? = some (.cells #[.int .u8 k1, .int .i64 n1, .slice da dn dc] 75 (0, 0)) := setRow_heap _ _ _ _ _ _ hq0
    have hbk := hb.keep hk1
    have hblr := hb.lt
    have hFk : WF B b wr ((wr.alloc (.cells #[.int .u8 0, .int .i64 0, .slice none 0 0] 75)).setRow wr.heap.size #[.int .u8 k1, .int .i64 n1, .slice da dn dc]) := WF.ofKeeps hk1 (by omega)
    clear hi hlt hx hfin
    go_upto_region 4 with (first | (refine wpList_load_mid rfl 75 _ rfl gv (i * 3) rfl _ _ hrg Tryz.underlying75 rfl hi3 ?_) | (refine wpList_store_row rfl 75 _ _ rfl wr.heap.size #[.int .u8 k1, .int .i64 n1, .slice da dn dc] rfl rfl _ _ hq0 (info3 _ _ _) rfl (all3 rfl rfl rfl) ?_; generalize (wr.alloc (.cells #[.int .u8 0, .int .i64 0, .slice none 0 0] 75)).setRow wr.heap.size #[.int .u8 k1, .int .i64 n1, .slice da dn dc] = w2 at *))
    obtain ⟨gq, hgq⟩ : ∃ g, g = wr.heap.size := ⟨_, rfl⟩
    rw [← hgq] at hq1 ⊢
    have hgqb : gq ≠ b := by omega
    clear hgq hq0 hrg hownr
    have hF2 := hF.trans hFk
    have hs2 := hFk.below.size
    go_wp2_with fail
    refine (put_any B b (l ++ h ++ txts ((tl t).take i)) [32] w2 hbk HLN.out (by simp) (by omega)).mono ?_
    rintro e w3 P3
    by_cases hf3 : (l ++ h ++ txts ((tl t).take i)).length + ([32] : List UInt8).length ≤ 20000
    ·obtain ⟨rfl, hb3⟩ := P3.fits hf3
     have hF3 := hF2.trans P3.frame
     have hq3 := row_wf hq1 (by decide) hgqb P3.frame
     have hs3 := P3.frame.below.size
     clear P3 hbk hb hq1
     go_wp2_with (first | (refine wpList_load_row rfl 75 _ rfl gq rfl _ _ _ _ hq3 Tryz.underlying75 rfl (info3 _ _ _) ?_))
     refine (IT x (by omega) (hxth hthin) w3 S B b _ _ (hds.wf hS hF3) hS hb3 (by omega) (by rw [List.length_append]; exact hf3)).mono ?_
     rintro e w4 P4
     have hl3 : (l ++ h ++ txts ((tl t).take i) ++ [32]).length = (l ++ h ++ txts ((tl t).take i)).length + 1 := by simp; omega
     by_cases hf4 : (l ++ h ++ txts ((tl t).take i) ++ [32]).length + x.text.length ≤ 20000
     ·obtain ⟨rfl, hb4⟩ := P4.fits hf4
      have hF4 := hF3.trans P4.frame
      have hb5 : BW w4 B b (l ++ h ++ txts ((tl t).take (i + 1))) := by rw [HTN.out]; simpa using hb4
      have HL5 : Hid ((l ++ h ++ txts ((tl t).take (i + 1))).length ≤ 20000) := by
       show (l ++ h ++ txts ((tl t).take (i + 1))).length ≤ 20000
       rw [HTN.out]
       simp only [List.length_append, List.length_singleton] at hf4 ⊢
       omega
      clear P4 hb3 hb4 hq3 hf4 hl3 hf3
      go_wp2_with fail
      go_roundw
      case rel => exact ⟨i + 1, HI.out, by go_num, hb5, HL5, hF4⟩
      case measure => have := HI.out; simp [intOf]; omega
     ·obtain rfl := P4.long (by omega)
      simp only [tooLong]
      have h1 := HLT.out
      have hlong : 20000 < l.length + (h ++ t.text ++ [41]).length := by
       rw [HT.out]
       simp only [List.length_append, List.length_singleton] at hf4 ⊢
       omega
      exact ⟨rfl, ⟨fun hc => by first | omega | (simp only [List.length_append, List.length_singleton] at hc hlong; omega), fun _ => rfl, hF3.trans P4.frame⟩⟩
    ·obtain rfl := P3.long (by omega)
     simp only [tooLong]
     have h1 := HLT.out
     have hlong : 20000 < l.length + (h ++ t.text ++ [41]).length := by
      rw [HT.out]
      simp only [List.length_append, List.length_singleton] at hf3 ⊢
      omega
     exact ⟨rfl, ⟨fun hc => by first | omega | (simp only [List.length_append, List.length_singleton] at hc hlong; omega), fun _ => rfl, hF2.trans P3.frame⟩⟩
   ·have hie : i = vn := by omega
    have hni : ¬ (i : Int) < (vn : Int) := by omega
    have hall : (tl t).take i = tl t := by rw [hie, HK.out]; exact List.take_length
    have hb' : BW wr B b (l ++ h ++ txts (tl t)) := by rw [hall] at hb; exact hb
    have HL' : Hid ((l ++ h ++ txts (tl t)).length ≤ 20000) := by have := HLN.out; rw [hall] at this; exact this
    clear hie hlt hi hall hb HLN
    go_wp2_with fail
    refine (put_any B b (l ++ h ++ txts (tl t)) [41] wr hb' HL'.out (by simp) (by omega)).mono ?_
    rintro e w3 P3
    have HE : Hid (l ++ (h ++ t.text ++ [41]) = l ++ h ++ txts (tl t) ++ [41]) := by
     have := HT.out
     show l ++ (h ++ t.text ++ [41]) = l ++ h ++ txts (tl t) ++ [41]
     rw [this]
     simp
    have hle : l.length + (h ++ t.text ++ [41]).length = (l ++ h ++ txts (tl t)).length + ([41] : List UInt8).length := by
     have := congrArg List.length HE.out
     simp only [List.length_append] at this ⊢
     omega
    by_cases hf3 : (l ++ h ++ txts (tl t)).length + ([41] : List UInt8).length ≤ 20000
    ·obtain ⟨rfl, hb3⟩ := P3.fits hf3
     have hF3 := hF.trans P3.frame
     have hb9 : BW w3 B b (l ++ (h ++ t.text ++ [41])) := by rw [HE.out]; exact hb3
     have HLE : Hid (l.length + (h ++ t.text ++ [41]).length ≤ 20000) := by show _ ≤ _; omega
     clear P3 hb' hb3 hle hf3
     go_wp2_with fail
     go_end0
     exact ⟨fun _ => ⟨rfl, hb9⟩, fun h => by have := HLE.out; omega, hF3⟩
    ·obtain rfl := P3.long (by omega)
     simp only [tooLong]
     have hlong : 20000 < l.length + (h ++ t.text ++ [41]).length := by rw [hle]; omega
     exact ⟨rfl, ⟨fun hc => by first | omega | (simp only [List.length_append, List.length_singleton] at hc hlong; omega), fun _ => rfl, hF.trans P3.frame⟩⟩
 ·obtain rfl := P1.long (by omega)
  simp only [tooLong]
  have hlong : 20000 < l.length + (h ++ t.text ++ [41]).length := by
   simp only [List.length_append]
   omega
  exact ⟨rfl, ⟨fun hc => by first | omega | (simp only [List.length_append, List.length_singleton] at hc hlong; omega), fun _ => rfl, P1.frame⟩⟩
end Go.Proofs.YtnfojonmohijpabGreatDoor
namespace Go.Proofs.YtnfojonmohijpabGreatDoor
open Go.RowKit
set_option maxRecDepth 100000 in
theorem and15 (c : Nat) (hc : c < 256) : bits BinOp.and IntKind.u8 (c : Int) 15 = (c : Int) % 16 := by
 have key : ∀ m : Fin 256, bits BinOp.and IntKind.u8 ((m.val : Nat) : Int) 15 = ((m.val : Nat) : Int) % 16 := by decide
 exact key ⟨c, hc⟩
theorem conv_two (w : World) (x y : UInt8) : (convert 44 9 (.slice (some ⟨w.heap.size, 0, none⟩) 2 2)).run Tryz.prog (w.alloc (.cells #[.int .u8 (x.toNat : Int), .int .u8 (y.toNat : Int)] 5)).drew = .ok (.string (nmB [x, y])) (w.alloc (.cells #[.int .u8 (x.toNat : Int), .int .u8 (y.toNat : Int)] 5)).drew :=
 conv_name _ 0 _ [x, y] ⟨by simp, Or.inr ⟨_, 2, #[.int .u8 (x.toNat : Int), .int .u8 (y.toNat : Int)], rfl, Nat.zero_le _, heap_alloc_new w _, Nat.le_refl _, by decide, rfl, rfl⟩⟩
theorem hexs_at (k : Nat) (h : k < 16) (h' : k < (ByteArray.mk #[48, 49, 50, 51, 52, 53, 54, 55, 56, 57, 97, 98, 99, 100, 101, 102]).size) : (ByteArray.mk #[48, 49, 50, 51, 52, 53, 54, 55, 56, 57, 97, 98, 99, 100, 101, 102])[k] = hexs.getD k 0 := by
 have key : ∀ m : Fin 16, ∀ hm, (ByteArray.mk #[48, 49, 50, 51, 52, 53, 54, 55, 56, 57, 97, 98, 99, 100, 101, 102])[m.val]'hm = hexs.getD m.val 0 := by decide
 exact key ⟨k, h⟩ h'
set_option maxRecDepth 100000 in
set_option maxHeartbeats 1000000 in
theorem hexPair_text (c : Nat) (hc : c < 256) (w : World) :
    Calls Tryz.prog 108 #[.int .u8 (c : Int)] w fun e w' => e = .returned (.string (nmB [hexs.getD (c / 16) 0, hexs.getD (c % 16) 0])) ∧ Keeps [] w w' := by
 have d1 : (0 : Int) ≤ (c : Int) / 16 := by omega
 have d2 : (c : Int) / 16 < 16 := by omega
 have d3 : (0 : Int) ≤ (c : Int) % 16 := by omega
 have d4 : (c : Int) % 16 < 16 := by omega
 have d5 := and15 c hc
 have cv := fun x y => conv_two w x y
 go_enter Tryz.func108, Tryz.ntmps108
 go_wp2_with fail
 go_region
 all_goals
  go_wp2_with fail
  go_ret
  refine ⟨?_, ((Keeps.refl [] w).alloc _).drewN 1⟩
  show Ending.returned (.string (nmB [_, _])) = _
  rw [hexs_at (c / 16) (by omega), hexs_at (c % 16) (by omega)]
end Go.Proofs.YtnfojonmohijpabGreatDoor
namespace Go.Proofs.YtnfojonmohijpabGreatDoor
open Go.RowKit
theorem treeCells {w : World} {g : Nat} {a b c : Value} (h : w.heap[g]? = some (.cells #[a, b, c] 75 (0, 0))) : w.cell? ⟨g, 0, none⟩ = some a ∧ w.cell? ⟨g, 1, none⟩ = some b ∧ w.cell? ⟨g, 2, none⟩ = some c := by
 refine ⟨?_, ?_, ?_⟩ <;> (rw [Lib.cell_of_heap h]; rfl)
theorem u8_wrap {b : Nat} (h : b < 256) : IntKind.u8.wrap (b : Int) = (b : Int) := by
 have : IntKind.u8.wrap (b : Int) = (b : Int) % 256 := by simp [IntKind.wrap, IntKind.bits, IntKind.signed]
 rw [this]
 omega
theorem cat98 (l : List UInt8) : (⟨#[98]⟩ : ByteArray) ++ nmB l = nmB ([98] ++ l) := nmB_append [98] l
theorem cat40g (l : List UInt8) : (⟨#[40, 103]⟩ : ByteArray) ++ nmB l = nmB ([40, 103] ++ l) := nmB_append [40, 103] l
theorem cat40a (l : List UInt8) : (⟨#[40, 97]⟩ : ByteArray) ++ nmB l = nmB ([40, 97] ++ l) := nmB_append [40, 97] l
theorem WPut.after {B b : Nat} {l m : List UInt8} {w X : World} {e : Ending} {w' : World} (hF : WF B b w X) (h : WPut B b l m X e w') : WPut B b l m w e w' := ⟨h.fits, h.long, hF.trans h.frame⟩
theorem WPut.eq {B b : Nat} {l m m' : List UInt8} {w : World} {e : Ending} {w' : World} (h : WPut B b l m w e w') (hm : m = m') : WPut B b l m' w e w' := hm ▸ h
theorem WPut.ends {B b : Nat} {l m : List UInt8} {w : World} {e : Ending} {w' : World} (h : WPut B b l m w e w') : e = .returned (.tuple #[]) ∨ e = tooLong := by
 by_cases hl : l.length + m.length ≤ 20000
 ·exact Or.inl (h.fits hl).1
 ·exact Or.inr (h.long (by omega))
set_option maxRecDepth 100000 in
set_option maxHeartbeats 2000000 in
theorem wtree_any (n : Nat) (IB : BracketW n) : TreeW (n + 1) := by
 intro t ht hthin w S B b l cs htv hS hbw hBw hl
 have hbl := hbw.lt
 cases htv with
 | tnil =>
  have hz : (w.alloc (.cells #[.int .u8 101, .int .i64 0, .slice none 0 0] 75)).heap[w.heap.size]? = some (.cells #[.int .u8 101, .int .i64 0, .slice none 0 0] 75 (0, 0)) := heap_alloc_new w _
  have hk : Keeps [] w (w.alloc (.cells #[.int .u8 101, .int .i64 0, .slice none 0 0] 75)) := (Keeps.refl [] w).alloc _
  have hbk := hbw.keep hk
  have hF : WF B b w (w.alloc (.cells #[.int .u8 101, .int .i64 0, .slice none 0 0] 75)) := WF.ofKeeps hk hBw
  obtain ⟨c0, c1, c2⟩ := treeCells hz
  have hsz : w.heap.size ≤ (w.alloc (.cells #[.int .u8 101, .int .i64 0, .slice none 0 0] 75)).heap.size := hk.size
  go_enter Tryz.func70, Tryz.ntmps70
  go_upto_region 1 with (fail)
  generalize w.alloc (.cells #[.int .u8 101, .int .i64 0, .slice none 0 0] 75) = X at *
  obtain ⟨gx, hgx⟩ : ∃ g, g = w.heap.size := ⟨_, rfl⟩
  rw [← hgx] at hz c0 c1 c2 ⊢
  have hgxb : gx ≠ b := by omega
  clear hgx
  have hs101 : (⟨#[101]⟩ : ByteArray) = nmB [101] := rfl
  go_wp2_with fail
  refine (put_any B b l [101] X hbk hl (by simp) (by omega)).mono ?_
  rintro e w1 P1
  have P2 := WPut.after hF P1
  rcases P1.ends with rfl | rfl
  ·go_wp2_with fail
   go_end0
   exact P2
  ·simp only [tooLong]
   exact ⟨rfl, P2⟩
 | tbyte c hc =>
  have hz : (w.alloc (.cells #[.int .u8 98, .int .i64 (c : Int), .slice none 0 0] 75)).heap[w.heap.size]? = some (.cells #[.int .u8 98, .int .i64 (c : Int), .slice none 0 0] 75 (0, 0)) := heap_alloc_new w _
  have hk : Keeps [] w (w.alloc (.cells #[.int .u8 98, .int .i64 (c : Int), .slice none 0 0] 75)) := (Keeps.refl [] w).alloc _
  have hbk := hbw.keep hk
  have hF : WF B b w (w.alloc (.cells #[.int .u8 98, .int .i64 (c : Int), .slice none 0 0] 75)) := WF.ofKeeps hk hBw
  obtain ⟨c0, c1, c2⟩ := treeCells hz
  have hsz : w.heap.size ≤ (w.alloc (.cells #[.int .u8 98, .int .i64 (c : Int), .slice none 0 0] 75)).heap.size := hk.size
  have hw8 := u8_wrap hc
  go_enter Tryz.func70, Tryz.ntmps70
  go_upto_region 1 with (fail)
  generalize w.alloc (.cells #[.int .u8 98, .int .i64 (c : Int), .slice none 0 0] 75) = X at *
  obtain ⟨gx, hgx⟩ : ∃ g, g = w.heap.size := ⟨_, rfl⟩
  rw [← hgx] at hz c0 c1 c2 ⊢
  have hgxb : gx ≠ b := by omega
  clear hgx
  have hcat := cat98 (hexT c)
  go_wp2_with (first | (go_at_call 108; refine (hexPair_text c hc _).mono ?_; rintro e w0 ⟨rfl, hk0⟩))
  have hb0 := hbk.keep hk0
  have hF0 : WF B b w w0 := hF.trans (WF.ofKeeps hk0 (by omega))
  have hs0 := hk0.size
  change Calls Tryz.prog 107 #[_, .string ((⟨#[98]⟩ : ByteArray) ++ nmB (hexT c))] _ _
  rw [hcat]
  refine (put_any B b l ([98] ++ hexT c) w0 hb0 hl (by simp [hexT]) (by omega)).mono ?_
  rintro e w1 P1
  have P2 := WPut.after hF0 P1
  rcases P1.ends with rfl | rfl
  ·go_wp2_with fail
   go_end0
   exact P2
  ·simp only [tooLong]
   exact ⟨rfl, P2⟩
 | tgrp k x v cs h9 hx hox hpx =>
  obtain ⟨va, vn, vc, rfl⟩ := ownsRow_sl hox
  have hz : (w.alloc (.cells #[.int .u8 103, .int .i64 (k : Int), .slice va vn vc] 75)).heap[w.heap.size]? = some (.cells #[.int .u8 103, .int .i64 (k : Int), .slice va vn vc] 75 (0, 0)) := heap_alloc_new w _
  have hk : Keeps [] w (w.alloc (.cells #[.int .u8 103, .int .i64 (k : Int), .slice va vn vc] 75)) := (Keeps.refl [] w).alloc _
  have hbk := hbw.keep hk
  have hF : WF B b w (w.alloc (.cells #[.int .u8 103, .int .i64 (k : Int), .slice va vn vc] 75)) := WF.ofKeeps hk hBw
  obtain ⟨c0, c1, c2⟩ := treeCells hz
  have hsz : w.heap.size ≤ (w.alloc (.cells #[.int .u8 103, .int .i64 (k : Int), .slice va vn vc] 75)).heap.size := hk.size
  have h100 : k < 100 := by omega
  have hdl : (decT k).length ≤ 2 := by unfold decT digT; split <;> simp
  go_enter Tryz.func70, Tryz.ntmps70
  go_upto_region 1 with (fail)
  generalize w.alloc (.cells #[.int .u8 103, .int .i64 (k : Int), .slice va vn vc] 75) = X at *
  obtain ⟨gx, hgx⟩ : ∃ g, g = w.heap.size := ⟨_, rfl⟩
  rw [← hgx] at hz c0 c1 c2 ⊢
  have hgxb : gx ≠ b := by omega
  clear hgx
  go_upto_region 7 with (fail)
  have hS0 : X.drew.heap[gx]? = some (.cells #[.int .u8 103, .int .i64 (k : Int), .slice va vn vc] 75 (0, 0)) := hz
  have hkD : Keeps [] X X.drew := (Keeps.refl [] X).drewN 1
  refine wp_region_held (S := fun A => A.heap[gx]? = some (.cells #[.int .u8 103, .int .i64 (k : Int), .slice va vn vc] 75 (0, 0))) (by kernel_rfl) ?_
  change wpAnyH _ _ _ _ _ _ _ _ (World.drew _)
  generalize X.drew = X0 at *
  refine wpAnyH_tk 0 _ (some 21) (.pointer (some ⟨b, 0, none⟩)) rfl rfl (by kernel_rfl) (by kernel_rfl) (by kernel_rfl) (fun _ _ _ h => h) (Or.inl ⟨by rfl, fun X hX => by go_simp⟩) hS0 ?_
  simp only [Act.put, List.setIfInBounds_toArray, List.set_cons_zero, List.set_cons_succ]
  refine wpAnyH_tk 1 _ (some 22) (.pointer (some ⟨gx, 1, none⟩)) rfl rfl (by kernel_rfl) (by kernel_rfl) (by kernel_rfl) (fun _ _ _ h => h) (Or.inl ⟨by rfl, fun X hX => by go_simp⟩) hS0 ?_
  simp only [Act.put, List.setIfInBounds_toArray, List.set_cons_zero, List.set_cons_succ]
  refine wpAnyH_tk 2 _ (some 23) (.int .i64 k) rfl rfl (by kernel_rfl) (by kernel_rfl) (by kernel_rfl) (fun _ _ _ h => h) (Or.inl ⟨by rfl, fun X hX => by (obtain ⟨q0, q1, q2⟩ := treeCells hX; go_simp)⟩) hS0 ?_
  simp only [Act.put, List.setIfInBounds_toArray, List.set_cons_zero, List.set_cons_succ]
  refine wpAnyH_tk 5 _ (some 26) (.pointer (some ⟨gx, 2, none⟩)) rfl rfl (by kernel_rfl) (by kernel_rfl) (by kernel_rfl) (fun _ _ _ h => h) (Or.inl ⟨by rfl, fun X hX => by go_simp⟩) hS0 ?_
  simp only [Act.put, List.setIfInBounds_toArray, List.set_cons_zero, List.set_cons_succ]
  refine wpAnyH_tk 6 _ (some 27) (.slice va vn vc) rfl rfl (by kernel_rfl) (by kernel_rfl) (by kernel_rfl) (fun _ _ _ h => h) (Or.inl ⟨by rfl, fun X hX => by (obtain ⟨q0, q1, q2⟩ := treeCells hX; go_simp)⟩) hS0 ?_
  simp only [Act.put, List.setIfInBounds_toArray, List.set_cons_zero, List.set_cons_succ]
  refine wpAnyH_ready (rs := [3]) (by kernel_rfl) (by simp) ?_
  refine AllReadyH.cons rfl (fun K hK => ?_) AllReadyH.nil
  go_simp
  refine (itoa100 k h100 X0).mono ?_
  rintro e w0 ⟨rfl, hk0⟩
  have hS1 := (hk0.block gx (Array.getElem?_eq_some_iff.1 hS0).1 (by simp)).trans hS0
  have hkA := hkD.trans hk0
  have hb0 := hbk.keep hkA
  have hF0 : WF B b w w0 := hF.trans (WF.ofKeeps hkA (by omega))
  have hs0 := hkA.size
  refine hK.out _ _ hS1 (fun _ => ?_)
  clear hK K
  refine wpAnyH_tk 4 _ (some 25) (.string (nmB ([40, 103] ++ decT k))) rfl rfl (by kernel_rfl) (by kernel_rfl) (by kernel_rfl) (fun _ _ _ h => h) (Or.inl ⟨by rfl, fun X hX => by (have hct := cat40g (decT k); go_simp; rw [nmB_size]; omega)⟩) hS1 ?_
  simp only [Act.put, List.setIfInBounds_toArray, List.set_cons_zero, List.set_cons_succ]
  refine wpAnyH_ready (rs := [7]) (by kernel_rfl) (by simp) ?_
  refine AllReadyH.cons rfl (fun K hK => ?_) AllReadyH.nil
  go_simp
  have HEQ : Hid ((40 :: 103 :: decT k) ++ (Tr.lcons x .lnil).text ++ [41] = (Tr.tgrp k x).text) := by show _ = _; simp [Tr.text]
  refine (IB (.lcons x .lnil) (by simp only [Tr.sz] at ht ⊢; omega) ⟨hthin, trivial⟩ w0 S B b 1 l (40 :: 103 :: decT k) (.slice va vn vc) cs (by have := TV.lcons x .lnil cs [] (hx.wf hS hF0) .lnil; simpa using this) (ownsRow_wf hox (fun g hg => hS g (hpx g hg)) hF0) hpx hS hb0 (by omega) hl (by simp; omega)).mono ?_
  rintro e w1 P1
  have P2 := (WPut.after hF0 P1).eq HEQ.out
  have hS2 : w1.heap[gx]? = some (.cells #[.int .u8 103, .int .i64 (k : Int), .slice va vn vc] 75 (0, 0)) := row_wf hS1 (by decide) hgxb P1.frame
  rcases P1.ends with rfl | rfl
  ·refine hK.out _ _ hS2 (fun _ => ?_)
   refine wpAnyH_done (by kernel_rfl) ?_ _
   go_wp2_with fail
   go_end0
   exact P2
  ·simp only [tooLong]
   exact ⟨rfl, P2⟩
 | talt p x v cs hx hox hpx =>
  obtain ⟨va, vn, vc, rfl⟩ := ownsRow_sl hox
  have hz : (w.alloc (.cells #[.int .u8 97, .int .i64 (p : Int), .slice va vn vc] 75)).heap[w.heap.size]? = some (.cells #[.int .u8 97, .int .i64 (p : Int), .slice va vn vc] 75 (0, 0)) := heap_alloc_new w _
  have hk : Keeps [] w (w.alloc (.cells #[.int .u8 97, .int .i64 (p : Int), .slice va vn vc] 75)) := (Keeps.refl [] w).alloc _
  have hbk := hbw.keep hk
  have hF : WF B b w (w.alloc (.cells #[.int .u8 97, .int .i64 (p : Int), .slice va vn vc] 75)) := WF.ofKeeps hk hBw
  obtain ⟨c0, c1, c2⟩ := treeCells hz
  have hsz : w.heap.size ≤ (w.alloc (.cells #[.int .u8 97, .int .i64 (p : Int), .slice va vn vc] 75)).heap.size := hk.size
  have h100 : p < 100 := hthin.1
  have hdl : (decT p).length ≤ 2 := by unfold decT digT; split <;> simp
  go_enter Tryz.func70, Tryz.ntmps70
  go_upto_region 1 with (fail)
  generalize w.alloc (.cells #[.int .u8 97, .int .i64 (p : Int), .slice va vn vc] 75) = X at *
  obtain ⟨gx, hgx⟩ : ∃ g, g = w.heap.size := ⟨_, rfl⟩
  rw [← hgx] at hz c0 c1 c2 ⊢
  have hgxb : gx ≠ b := by omega
  clear hgx
  go_upto_region 9 with (fail)
  have hS0 : X.drew.heap[gx]? = some (.cells #[.int .u8 97, .int .i64 (p : Int), .slice va vn vc] 75 (0, 0)) := hz
  have hkD : Keeps [] X X.drew := (Keeps.refl [] X).drewN 1
  refine wp_region_held (S := fun A => A.heap[gx]? = some (.cells #[.int .u8 97, .int .i64 (p : Int), .slice va vn vc] 75 (0, 0))) (by kernel_rfl) ?_
  change wpAnyH _ _ _ _ _ _ _ _ (World.drew _)
  generalize X.drew = X0 at *
  refine wpAnyH_tk 0 _ (some 31) (.pointer (some ⟨b, 0, none⟩)) rfl rfl (by kernel_rfl) (by kernel_rfl) (by kernel_rfl) (fun _ _ _ h => h) (Or.inl ⟨by rfl, fun X hX => by go_simp⟩) hS0 ?_
  simp only [Act.put, List.setIfInBounds_toArray, List.set_cons_zero, List.set_cons_succ]
  refine wpAnyH_tk 1 _ (some 32) (.pointer (some ⟨gx, 1, none⟩)) rfl rfl (by kernel_rfl) (by kernel_rfl) (by kernel_rfl) (fun _ _ _ h => h) (Or.inl ⟨by rfl, fun X hX => by go_simp⟩) hS0 ?_
  simp only [Act.put, List.setIfInBounds_toArray, List.set_cons_zero, List.set_cons_succ]
  refine wpAnyH_tk 2 _ (some 33) (.int .i64 p) rfl rfl (by kernel_rfl) (by kernel_rfl) (by kernel_rfl) (fun _ _ _ h => h) (Or.inl ⟨by rfl, fun X hX => by (obtain ⟨q0, q1, q2⟩ := treeCells hX; go_simp)⟩) hS0 ?_
  simp only [Act.put, List.setIfInBounds_toArray, List.set_cons_zero, List.set_cons_succ]
  refine wpAnyH_tk 5 _ (some 36) (.pointer (some ⟨gx, 2, none⟩)) rfl rfl (by kernel_rfl) (by kernel_rfl) (by kernel_rfl) (fun _ _ _ h => h) (Or.inl ⟨by rfl, fun X hX => by go_simp⟩) hS0 ?_
  simp only [Act.put, List.setIfInBounds_toArray, List.set_cons_zero, List.set_cons_succ]
  refine wpAnyH_tk 6 _ (some 37) (.slice va vn vc) rfl rfl (by kernel_rfl) (by kernel_rfl) (by kernel_rfl) (fun _ _ _ h => h) (Or.inl ⟨by rfl, fun X hX => by (obtain ⟨q0, q1, q2⟩ := treeCells hX; go_simp)⟩) hS0 ?_
  simp only [Act.put, List.setIfInBounds_toArray, List.set_cons_zero, List.set_cons_succ]
  refine wpAnyH_ready (rs := [3]) (by kernel_rfl) (by simp) ?_
  refine AllReadyH.cons rfl (fun K hK => ?_) AllReadyH.nil
  go_simp
  refine (itoa100 p h100 X0).mono ?_
  rintro e w0 ⟨rfl, hk0⟩
  have hS1 := (hk0.block gx (Array.getElem?_eq_some_iff.1 hS0).1 (by simp)).trans hS0
  have hkA := hkD.trans hk0
  have hb0 := hbk.keep hkA
  have hF0 : WF B b w w0 := hF.trans (WF.ofKeeps hkA (by omega))
  have hs0 := hkA.size
  refine hK.out _ _ hS1 (fun _ => ?_)
  clear hK K
  refine wpAnyH_tk 4 _ (some 35) (.string (nmB ([40, 97] ++ decT p))) rfl rfl (by kernel_rfl) (by kernel_rfl) (by kernel_rfl) (fun _ _ _ h => h) (Or.inl ⟨by rfl, fun X hX => by (have hct := cat40a (decT p); go_simp; rw [nmB_size]; omega)⟩) hS1 ?_
  simp only [Act.put, List.setIfInBounds_toArray, List.set_cons_zero, List.set_cons_succ]
  refine wpAnyH_ready (rs := [7]) (by kernel_rfl) (by simp) ?_
  refine AllReadyH.cons rfl (fun K hK => ?_) AllReadyH.nil
  go_simp
  have HEQ : Hid ((40 :: 97 :: decT p) ++ (Tr.lcons x .lnil).text ++ [41] = (Tr.talt p x).text) := by show _ = _; simp [Tr.text]
  refine (IB (.lcons x .lnil) (by simp only [Tr.sz] at ht ⊢; omega) ⟨hthin.2, trivial⟩ w0 S B b 1 l (40 :: 97 :: decT p) (.slice va vn vc) cs (by have := TV.lcons x .lnil cs [] (hx.wf hS hF0) .lnil; simpa using this) (ownsRow_wf hox (fun g hg => hS g (hpx g hg)) hF0) hpx hS hb0 (by omega) hl (by simp; omega)).mono ?_
  rintro e w1 P1
  have P2 := (WPut.after hF0 P1).eq HEQ.out
  have hS2 : w1.heap[gx]? = some (.cells #[.int .u8 97, .int .i64 (p : Int), .slice va vn vc] 75 (0, 0)) := row_wf hS1 (by decide) hgxb P1.frame
  rcases P1.ends with rfl | rfl
  ·refine hK.out _ _ hS2 (fun _ => ?_)
   refine wpAnyH_done (by kernel_rfl) ?_ _
   go_wp2_with fail
   go_end0
   exact P2
  ·simp only [tooLong]
   exact ⟨rfl, P2⟩
 | tser L v n cs hx hox hpx =>
  obtain ⟨va, vn, vc, rfl⟩ := ownsRow_sl hox
  have hz : (w.alloc (.cells #[.int .u8 115, .int .i64 0, .slice va vn vc] 75)).heap[w.heap.size]? = some (.cells #[.int .u8 115, .int .i64 0, .slice va vn vc] 75 (0, 0)) := heap_alloc_new w _
  have hk : Keeps [] w (w.alloc (.cells #[.int .u8 115, .int .i64 0, .slice va vn vc] 75)) := (Keeps.refl [] w).alloc _
  have hbk := hbw.keep hk
  have hF : WF B b w (w.alloc (.cells #[.int .u8 115, .int .i64 0, .slice va vn vc] 75)) := WF.ofKeeps hk hBw
  obtain ⟨c0, c1, c2⟩ := treeCells hz
  have hsz : w.heap.size ≤ (w.alloc (.cells #[.int .u8 115, .int .i64 0, .slice va vn vc] 75)).heap.size := hk.size
  go_enter Tryz.func70, Tryz.ntmps70
  go_upto_region 1 with (fail)
  generalize w.alloc (.cells #[.int .u8 115, .int .i64 0, .slice va vn vc] 75) = X at *
  obtain ⟨gx, hgx⟩ : ∃ g, g = w.heap.size := ⟨_, rfl⟩
  rw [← hgx] at hz c0 c1 c2 ⊢
  have hgxb : gx ≠ b := by omega
  clear hgx
  have HEQ : Hid ([40, 115] ++ L.text ++ [41] = (Tr.tser L).text) := by show _ = _; simp [Tr.text]
  go_wp2_with fail
  refine (IB L (by simp only [Tr.sz] at ht; omega) hthin X S B b n l [40, 115] (.slice va vn vc) cs (hx.wf hS hF) (ownsRow_wf hox (fun g hg => hS g (hpx g hg)) hF) hpx hS hbk (by omega) hl (by simp)).mono ?_
  rintro e w1 P1
  have P2 := (WPut.after hF P1).eq HEQ.out
  rcases P1.ends with rfl | rfl
  ·go_wp2_with fail
   go_end0
   exact P2
  ·simp only [tooLong]
   exact ⟨rfl, P2⟩
 | trep L v n cs hx hox hpx =>
  obtain ⟨va, vn, vc, rfl⟩ := ownsRow_sl hox
  have hz : (w.alloc (.cells #[.int .u8 114, .int .i64 0, .slice va vn vc] 75)).heap[w.heap.size]? = some (.cells #[.int .u8 114, .int .i64 0, .slice va vn vc] 75 (0, 0)) := heap_alloc_new w _
  have hk : Keeps [] w (w.alloc (.cells #[.int .u8 114, .int .i64 0, .slice va vn vc] 75)) := (Keeps.refl [] w).alloc _
  have hbk := hbw.keep hk
  have hF : WF B b w (w.alloc (.cells #[.int .u8 114, .int .i64 0, .slice va vn vc] 75)) := WF.ofKeeps hk hBw
  obtain ⟨c0, c1, c2⟩ := treeCells hz
  have hsz : w.heap.size ≤ (w.alloc (.cells #[.int .u8 114, .int .i64 0, .slice va vn vc] 75)).heap.size := hk.size
  go_enter Tryz.func70, Tryz.ntmps70
  go_upto_region 1 with (fail)
  generalize w.alloc (.cells #[.int .u8 114, .int .i64 0, .slice va vn vc] 75) = X at *
  obtain ⟨gx, hgx⟩ : ∃ g, g = w.heap.size := ⟨_, rfl⟩
  rw [← hgx] at hz c0 c1 c2 ⊢
  have hgxb : gx ≠ b := by omega
  clear hgx
  have HEQ : Hid ([40, 114] ++ L.text ++ [41] = (Tr.trep L).text) := by show _ = _; simp [Tr.text]
  go_wp2_with fail
  refine (IB L (by simp only [Tr.sz] at ht; omega) hthin X S B b n l [40, 114] (.slice va vn vc) cs (hx.wf hS hF) (ownsRow_wf hox (fun g hg => hS g (hpx g hg)) hF) hpx hS hbk (by omega) hl (by simp)).mono ?_
  rintro e w1 P1
  have P2 := (WPut.after hF P1).eq HEQ.out
  rcases P1.ends with rfl | rfl
  ·go_wp2_with fail
   go_end0
   exact P2
  ·simp only [tooLong]
   exact ⟨rfl, P2⟩
theorem writersT : ∀ n, TreeW n ∧ BracketW n
 | 0 => ⟨fun t h => by have := t.sz_pos; omega, fun t h => by have := t.sz_pos; omega⟩
 | n + 1 => ⟨wtree_any n (writersT n).2, bracket_any n (writersT n).1⟩
end Go.Proofs.YtnfojonmohijpabGreatDoor
