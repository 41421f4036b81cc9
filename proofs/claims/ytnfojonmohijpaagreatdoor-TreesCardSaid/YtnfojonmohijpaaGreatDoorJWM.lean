/-
  DERIVED. The reference's after: the place behind a right tree. Conditions: a right tree's text lies there; the text is at most 20000 bytes long.
-/
import Derived.Test.YtnfojonmohijpaaGreatDoorJWK
import Derived.Test.YtnfojonmohijpaaGreatDoorJUL
set_option linter.unusedSimpArgs false
set_option linter.unusedVariables false
namespace Go.Proofs.YtnfojonmohijpaaGreatDoor
open Go.RowKit
theorem lies_byte {s : ByteArray} {i : Nat} {l : List UInt8} (h : Lies s i l) {m : Nat} (hm : m < l.length) : ∃ hlt : i + m < s.size, (s[i + m]'hlt).toNat = (l[m]'hm).toNat := by
 have h1 := h m _ (List.getElem?_eq_getElem hm)
 have hlt : i + m < s.size := at'_nn (by omega)
 rw [at'_lt hlt] at h1
 exact ⟨hlt, by omega⟩
theorem lies_byteJ {s : ByteArray} {i : Nat} {l : List UInt8} (h : Lies s i l) {m J : Nat} (hm : m < l.length) (hJ : i + m = J) : ∃ hlt : J < s.size, (s[J]'hlt).toNat = (l[m]'hm).toNat := by
 subst hJ
 exact lies_byte h hm
theorem lies_len {s : ByteArray} {i : Nat} {l : List UInt8} (h : Lies s i l) (hl : l ≠ []) : i + l.length ≤ s.size := by
 have hp : 0 < l.length := List.length_pos_iff.2 hl
 obtain ⟨h1, _⟩ := lies_byte h (m := l.length - 1) (by omega)
 omega
theorem dep_step (l : List UInt8) {m : Nat} (hm : m < l.length) : dep (l.take (m + 1)) = dep (l.take m) + (if l[m] = 40 then 1 else if l[m] = 41 then -1 else 0) := by
 rw [List.take_add_one, List.getElem?_eq_getElem hm, dep_app]
 simp [dep]
theorem dep_bd : ∀ (l : List UInt8), -(l.length : Int) ≤ dep l ∧ dep l ≤ (l.length : Int)
 | [] => by simp [dep]
 | c :: l => by
  have := dep_bd l
  simp only [dep, List.length_cons]
  split
  ·omega
  ·split <;> omega
set_option maxRecDepth 100000 in
set_option maxHeartbeats 2000000 in
theorem after_any (s : ByteArray) (hs : s.size ≤ 20000) (i : Nat) (t : Tr) (ht : TO true t) (hl : Lies s i t.text) (w : World) :
    Calls Tryz.prog 186 #[.string s, .int .i64 i] w fun e w' => e = .returned (.int .i64 ((i + t.text.length : Nat) : Int)) ∧ Keeps [] w w' := by
 have hne : t.text ≠ [] := by cases ht <;> simp [Tr.text]
 have hlen := lies_len hl hne
 have hpos : 0 < t.text.length := List.length_pos_iff.2 hne
 obtain ⟨hi0, hc0⟩ := lies_byte hl hpos
 rw [Nat.add_zero] at hi0
 have hii : (i : Int) < (s.size : Int) := by omega
 have hi1 : (0 : Int) ≤ (i : Int) := by omega
 have hi2 : (i : Int) ≤ 20000 := by omega
 have hc0' : (s[i]'hi0).toNat = (t.text[0]'hpos).toNat := hc0
 obtain ⟨n0, hn0⟩ : ∃ n, (s[i]'hi0).toNat = n := ⟨_, rfl⟩
 have hnt : (t.text[0]'hpos).toNat = n0 := by omega
 clear hc0 hc0'
 rcases ht.kinds with rfl | ⟨b, rfl, hb⟩ | ⟨hbr, hdp⟩
 ·have h0 : n0 = 101 := by rw [← hnt]; rfl
  have h0' : ((n0 : Int) == 101) = true := by simp [h0]
  clear h0 hnt hlen hpos
  go_enter Tryz.func186, Tryz.ntmps186
  go_wp2_with fail
  go_ret
  exact ⟨ret_int (by show (i : Int) + 1 = ((i + 1 : Nat) : Int); omega), Keeps.refl _ _⟩
 ·have h0 : n0 = 98 := by rw [← hnt]; rfl
  have h0' : ((n0 : Int) == 98) = true := by simp [h0]
  have h1' : ((n0 : Int) == 101) = false := by simp [h0]
  clear h0 hnt hlen hpos
  go_enter Tryz.func186, Tryz.ntmps186
  go_wp2_with fail
  go_ret
  exact ⟨ret_int (by show (i : Int) + 3 = ((i + 3 : Nat) : Int); omega), Keeps.refl _ _⟩
 ·have h0 : n0 = 40 := by
     rw [← hnt]
     have : t.text[0]'hpos = 40 := by
      have e : t.text[0]? = some 40 := by rw [hbr]; rfl
      have := List.getElem?_eq_getElem hpos
      rw [this] at e
      exact Option.some.inj e
     rw [this]
     rfl
  have h0' : ((n0 : Int) == 98) = false := by simp [h0]
  have h1' : ((n0 : Int) == 101) = false := by simp [h0]
  have hend : dep t.text = 0 := ht.even.2.1
  obtain ⟨x, hx⟩ : ∃ x, t.text = x := ⟨_, rfl⟩
  rw [hx] at hdp hend hl hlen ⊢
  have HX : Hid ((∀ n, 0 < n → n < x.length → 0 < dep (x.take n)) ∧ dep x = 0 ∧ Lies s i x ∧ i + x.length ≤ s.size ∧ x[0]? = some 40) := ⟨hdp, hend, hl, hlen, by rw [← hx, hbr]; rfl⟩
  have hxl : (x.length : Int) ≤ 20000 := by omega
  clear h0 hnt hpos hbr hdp hend hl hlen hx hne ht
  go_enter Tryz.func186, Tryz.ntmps186
  go_upto_region 7 with (fail)
  go_loopw [1, 5] (fun q1 q5 wr => ∃ m : Nat, m < x.length ∧ q1 = .int .i64 ((i + m : Nat) : Int) ∧ q5 = .int .i64 (dep (x.take m)) ∧ wr = w) (fun q1 _ _ => i + x.length - (intOf q1).toNat)
  case atStart => exact ⟨0, by
    obtain ⟨_, _, _, _, h5⟩ := HX.out
    exact (List.getElem?_eq_some_iff.1 h5).1, rfl, rfl, rfl⟩
  case round =>
   obtain ⟨m, hm, rfl, rfl, rfl⟩ := hrel
   obtain ⟨x1, x2, x3, x4, x5⟩ := HX.out
   obtain ⟨J, hJ⟩ : ∃ J, i + m = J := ⟨_, rfl⟩
   obtain ⟨hlt, hcm⟩ := lies_byteJ x3 hm hJ
   have hst := dep_step x hm
   have hbd := dep_bd (x.take m)
   have hlm : (x.take m).length ≤ m := by simp; omega
   obtain ⟨δ, hδ⟩ : ∃ δ, dep (x.take m) = δ := ⟨_, rfl⟩
   rw [hδ] at hst hbd ⊢
   obtain ⟨nm, hnm⟩ : ∃ n, (s[J]'hlt).toNat = n := ⟨_, rfl⟩
   have hxm : (x[m]'hm).toNat = nm := by omega
   simp only [hJ]
   have hJ1 : (J : Int) < (s.size : Int) := by omega
   have hJ2 : (0 : Int) ≤ (J : Int) := by omega
   have hJ3 : (J : Int) ≤ 20000 := by omega
   have hd1 : δ ≤ 20000 := by omega
   have hd2 : -20000 ≤ δ := by omega
   have HM : Hid (m < x.length ∧ i + m = J) := ⟨hm, hJ⟩
   have h40 : x[m]'hm = 40 ↔ nm = 40 := by
    rw [← hxm]
    constructor
    ·intro h; rw [h]; rfl
    ·intro h; exact UInt8.toNat_inj.1 h
   have h41 : x[m]'hm = 41 ↔ nm = 41 := by
    rw [← hxm]
    constructor
    ·intro h; rw [h]; rfl
    ·intro h; exact UInt8.toNat_inj.1 h
   have hfin : m + 1 = x.length → dep (x.take (m + 1)) = 0 := fun h => by rw [List.take_of_length_le (by omega)]; exact x2
   have hmid : m + 1 < x.length → 0 < dep (x.take (m + 1)) := fun h => x1 (m + 1) (by omega) h
   have hfr : 0 < m → 0 < δ := fun h => by rw [← hδ]; exact x1 m h hm
   by_cases c40 : nm = 40
   ·rw [if_pos (h40.2 c40)] at hst
    have q1 : ((nm : Int) == 40) = true := by simp [c40]
    have hd0 : 0 ≤ δ := by
     rcases Nat.eq_zero_or_pos m with h | h
     ·subst h; rw [← hδ]; simp [dep]
     ·have := hfr h; omega
    have q2 : (δ + 1 == 0) = false := by simp; omega
    have HN : Hid (m + 1 < x.length) := by
     show m + 1 < x.length
     rcases Nat.lt_or_ge (m + 1) x.length with h | h
     ·exact h
     ·have := hfin (by omega); omega
    have HST : Hid (dep (x.take (m + 1)) = δ + 1) := hst
    clear c40 h40 h41 hst hbd hlm hδ hJ hcm hxm hfin hmid hfr x1 x2 x3 x4 x5 hm
    go_wp2_with fail
    exact ⟨⟨m + 1, HN.out, congrArg (Value.int .i64) (by have := HM.out.2; omega), congrArg (Value.int .i64) HST.out.symm, by trivial⟩, by have := HM.out; simp [intOf]; omega⟩
   ·have q1 : ((nm : Int) == 40) = false := by simp; omega
    have q1' : (nm == 40) = false := by simp; omega
    rw [if_neg (fun h => c40 (h40.1 h))] at hst
    have hm0 : 0 < m := by
     rcases Nat.eq_zero_or_pos m with h | h
     ·subst h
      exfalso
      apply c40
      apply h40.1
      have := List.getElem?_eq_getElem hm
      rw [x5] at this
      exact (Option.some.inj this).symm
     ·exact h
    have hδp := hfr hm0
    by_cases c41 : nm = 41
    ·rw [if_pos (h41.2 c41)] at hst
     have q3 : ((nm : Int) == 41) = true := by simp [c41]
     have HST : Hid (dep (x.take (m + 1)) = δ + -1) := hst
     by_cases hlast : m + 1 = x.length
     ·have q4 : (δ - 1 == 0) = true := by have := hfin hlast; simp; omega
      have HL : Hid (m + 1 = x.length) := hlast
      clear c40 c41 h40 h41 hst hbd hlm hδ hJ hcm hxm hfin hmid hfr x1 x2 x3 x4 x5 hm hlast hm0
      go_wp2_with fail
      go_ret
      exact ⟨ret_int (by have := HM.out.2; have := HL.out; omega), Keeps.refl _ _⟩
     ·have q4 : (δ - 1 == 0) = false := by have := hmid (by omega); simp; omega
      have HN : Hid (m + 1 < x.length) := by show m + 1 < x.length; omega
      clear c40 c41 h40 h41 hst hbd hlm hδ hJ hcm hxm hfin hmid hfr x1 x2 x3 x4 x5 hm hlast hm0
      go_wp2_with fail
      exact ⟨⟨m + 1, HN.out, congrArg (Value.int .i64) (by have := HM.out.2; omega), congrArg (Value.int .i64) (by have := HST.out; omega), by trivial⟩, by have := HM.out; simp [intOf]; omega⟩
    ·have q3 : ((nm : Int) == 41) = false := by simp; omega
     have q3' : (nm == 41) = false := by simp; omega
     rw [if_neg (fun h => c41 (h41.1 h))] at hst
     have HST : Hid (dep (x.take (m + 1)) = δ + 0) := hst
     have q4 : (δ == 0) = false := by simp; omega
     have HN : Hid (m + 1 < x.length) := by
      show m + 1 < x.length
      rcases Nat.lt_or_ge (m + 1) x.length with h | h
      ·exact h
      ·have := hfin (by omega); omega
     clear c40 c41 h40 h41 hst hbd hlm hδ hJ hcm hxm hfin hmid hfr x1 x2 x3 x4 x5 hm hm0
     go_wp2_with fail
     exact ⟨⟨m + 1, HN.out, congrArg (Value.int .i64) (by have := HM.out.2; omega), congrArg (Value.int .i64) (by have := HST.out; omega), by trivial⟩, by have := HM.out; simp [intOf]; omega⟩
end Go.Proofs.YtnfojonmohijpaaGreatDoor
namespace Go.Proofs.YtnfojonmohijpaaGreatDoor
open Go.RowKit
theorem at'_bd' (s : ByteArray) (i : Nat) : -1 ≤ at' s i ∧ at' s i ≤ 255 := at'_bd s i
theorem idx_tab (l : List UInt8) (f : Int → Option Nat) (h : ∀ m : Fin 256, idxO l (m.val : Int) = f (m.val : Int)) (h1 : f (-1) = none) (c : Int) (h0 : -1 ≤ c) (h2 : c ≤ 255) : idxO l c = f c := by
 rcases Int.lt_or_le c 0 with hc | hc
 ·obtain rfl : c = -1 := by omega
  rw [h1]
  exact idxO_none fun k u _ => by omega
 ·obtain ⟨n, rfl⟩ : ∃ n : Nat, c = n := ⟨c.toNat, by omega⟩
  exact h ⟨n, by omega⟩
def f1 (c : Int) : Option Nat := if c = 101 then some 0 else if c = 98 then some 1 else if c = 40 then some 2 else none
def fH (c : Int) : Option Nat := if 0 ≤ hexd c then some (hexd c).toNat else none
def fG (c : Int) : Option Nat := if c = 103 then some 0 else if c = 114 then some 1 else if c = 115 then some 2 else if c = 97 then some 3 else none
def fN (c : Int) : Option Nat := if 49 ≤ c ∧ c ≤ 57 then some (c - 49).toNat else none
def fD (c : Int) : Option Nat := if 48 ≤ c ∧ c ≤ 57 then some (c - 48).toNat else none
def fO (x c : Int) : Option Nat := if c = x then some 0 else none
set_option maxRecDepth 100000 in
theorem idx_1 (c : Int) (h0 : -1 ≤ c) (h2 : c ≤ 255) : idxO [101, 98, 40] c = f1 c := idx_tab _ f1 (by decide) (by decide) c h0 h2
set_option maxRecDepth 100000 in
theorem idx_H (c : Int) (h0 : -1 ≤ c) (h2 : c ≤ 255) : idxO [48, 49, 50, 51, 52, 53, 54, 55, 56, 57, 97, 98, 99, 100, 101, 102] c = fH c := idx_tab _ fH (by decide) (by decide) c h0 h2
set_option maxRecDepth 100000 in
theorem idx_G (c : Int) (h0 : -1 ≤ c) (h2 : c ≤ 255) : idxO [103, 114, 115, 97] c = fG c := idx_tab _ fG (by decide) (by decide) c h0 h2
set_option maxRecDepth 100000 in
theorem idx_N (c : Int) (h0 : -1 ≤ c) (h2 : c ≤ 255) : idxO [49, 50, 51, 52, 53, 54, 55, 56, 57] c = fN c := idx_tab _ fN (by decide) (by decide) c h0 h2
set_option maxRecDepth 100000 in
theorem idx_D (c : Int) (h0 : -1 ≤ c) (h2 : c ≤ 255) : idxO [48, 49, 50, 51, 52, 53, 54, 55, 56, 57] c = fD c := idx_tab _ fD (by decide) (by decide) c h0 h2
set_option maxRecDepth 100000 in
theorem idx_32 (c : Int) (h0 : -1 ≤ c) (h2 : c ≤ 255) : idxO [32] c = fO 32 c := idx_tab _ (fO 32) (by decide) (by decide) c h0 h2
set_option maxRecDepth 100000 in
theorem idx_41 (c : Int) (h0 : -1 ≤ c) (h2 : c ≤ 255) : idxO [41] c = fO 41 c := idx_tab _ (fO 41) (by decide) (by decide) c h0 h2
structure WI (X wr : World) (b : Nat) (p : WS) (l : List UInt8) : Prop where
 blk : WB wr b p
 by_ : BY wr 0 p.v l
 fresh : ∀ g, p.v.ownBlock = some g → X.heap.size ≤ g
 keep : Keeps [b] X wr
 old : b < X.heap.size
theorem WI.step {X wr w' : World} {b : Nat} {p p' : WS} {l : List UInt8} (h : WI X wr b p l) (hb : WB w' b p') (hv : p'.v = p.v) (hk : Keeps [b] wr w') : WI X w' b p' l := by
 refine ⟨hb, ?_, by rw [hv]; exact h.fresh, h.keep.trans hk, h.old⟩
 rw [hv]
 exact h.by_.keep hk (fun g hg => by have := h.fresh g hg; have := h.old; simp; omega)
theorem wtake_tab (X : World) (b : Nat) (p : WS) (l : List UInt8) (o : ByteArray) (f : Int → Option Nat) (ho : o.size ≤ 100) (hf : idxO o.data.toList p.cur = f p.cur) (w : World) (h : WI X w b p l) (hb : p.bad = -1) (hle : p.ix ≤ p.s.size) (hs : p.s.size ≤ 20000) :
    Calls Tryz.prog 143 #[.pointer (some ⟨b, 0, none⟩), .string o] w fun e w' => match f p.cur with
     | some k => e = .returned (.int .i64 (k : Nat)) ∧ WI X w' b { p with ix := p.ix + 1 } l
     | none => e = .returned (.int .i64 (-1)) ∧ WI X w' b { p with bad := p.ix } l := by
 refine (wtake_any b p o ho w h.blk hb hle hs).mono ?_
 rintro e w' ⟨rfl, hp, hk⟩
 rw [← hf]
 unfold tkV
 unfold tkP at hp
 cases hi : idxO o.data.toList p.cur with
 | some k => rw [hi] at hp; exact ⟨rfl, h.step hp rfl hk⟩
 | none => rw [hi] at hp; exact ⟨rfl, h.step hp rfl hk⟩
theorem wtake_dead (X : World) (b : Nat) (p : WS) (l : List UInt8) (o : ByteArray) (w : World) (h : WI X w b p l) (hb : 0 ≤ p.bad) :
    Calls Tryz.prog 143 #[.pointer (some ⟨b, 0, none⟩), .string o] w fun e w' => e = .returned (.int .i64 (-1)) ∧ WI X w' b p l := by
 refine (wtake_idle b p o w h.blk hb).mono ?_
 rintro e w' ⟨rfl, hp, hk⟩
 exact ⟨rfl, h.step hp rfl (hk.mono (by simp))⟩
def WAft (X : World) (b : Nat) (p : WS) (l : List UInt8) (q : R Tr) (w' : World) : Prop :=
 match q with
 | .bad j => ∃ p' l', WI X w' b p' l' ∧ p'.s = p.s ∧ p'.bad = (j : Int) ∧ p'.dp = p.dp
 | .ok t j => ∃ v, WI X w' b { p with ix := j, v := v } (l ++ t.flat)
def WRd (s : ByteArray) (n : Nat) : Prop := ∀ (X w : World) (b : Nat) (p : WS) (l : List UInt8), p.s = s → WI X w b p l → p.bad = -1 → p.ix ≤ s.size → s.size - p.ix < n → p.dp ≤ 60 → l.length ≤ p.ix →
 Calls Tryz.prog 89 #[.pointer (some ⟨b, 0, none⟩)] w fun e w' => e = .returned (.tuple #[]) ∧ ∃ q, TG s .thing p.dp p.ix q ∧ WAft X b p l q w'
end Go.Proofs.YtnfojonmohijpaaGreatDoor
namespace Go.Proofs.YtnfojonmohijpaaGreatDoor
open Go.RowKit
def WIn (s : ByteArray) (n : Nat) : Prop := ∀ (X w : World) (b : Nat) (p : WS) (l : List UInt8), p.s = s → WI X w b p l → p.bad = -1 → p.ix ≤ s.size → s.size - p.ix < n → p.dp ≤ 60 → l.length ≤ p.ix →
 Calls Tryz.prog 144 #[.pointer (some ⟨b, 0, none⟩)] w fun e w' => e = .returned (.tuple #[]) ∧ ∃ q, TG s .body p.dp p.ix q ∧ WAft X b p l (shut s q) w'
set_option maxRecDepth 100000 in
set_option maxHeartbeats 4000000 in
theorem read_step (s : ByteArray) (hs : s.size ≤ 20000) (n : Nat) (IH : WIn s n) : WRd s (n + 1) := by
 intro X w b p l hps hW hbad hle hn hdp hll
 subst hps
 have hcb := at'_bd' p.s p.ix
 have hcu : p.cur = at' p.s p.ix := rfl
 have hT := wtake_tab X b p l ⟨#[101, 98, 40]⟩ f1 (by decide) (by rw [hcu]; exact idx_1 _ hcb.1 hcb.2) w hW hbad hle hs
 rw [hcu] at hT
 by_cases h101 : at' p.s p.ix = 101
 ·rw [h101] at hT
  have HC : Hid (at' p.s p.ix = 101) := h101
  have ef : f1 101 = some 0 := by decide
  rw [ef] at hT
  clear h101 hcb hcu
  go_enter Tryz.func89, Tryz.ntmps89
  go_wp2_with (first | (go_at_call 143; refine hT.mono ?_; rintro e w1 ⟨rfl, hW1⟩))
  go_end0
  exact ⟨rfl, _, .nil _ _ HC.out, p.v, by rw [Tr.flat, List.append_nil]; exact hW1⟩
 ·by_cases h98 : at' p.s p.ix = 98
  ·rw [h98] at hT
   have HC : Hid (at' p.s p.ix = 98) := h98
   have ef : f1 98 = some 1 := by decide
   rw [ef] at hT
   have hlt := at'_lt_of h98 (by decide)
   have HL : Hid (p.ix < p.s.size) := hlt
   clear h101 h98 hcb hcu hlt
   go_enter Tryz.func89, Tryz.ntmps89
   go_upto_region 2 with (first | (go_at_call 143; refine hT.mono ?_; rintro e w1 ⟨rfl, hW1⟩))
   have hcb := at'_bd' p.s (p.ix + 1)
   have hA := wtake_tab X b { p with ix := p.ix + 1 } l ⟨#[48, 49, 50, 51, 52, 53, 54, 55, 56, 57, 97, 98, 99, 100, 101, 102]⟩ fH (by decide) (idx_H _ hcb.1 hcb.2) w1 hW1 hbad HL.out hs
   have hcv : WS.cur { p with ix := p.ix + 1 } = at' p.s (p.ix + 1) := rfl
   rw [hcv] at hA
   by_cases ha : 0 ≤ hexd (at' p.s (p.ix + 1))
   ·have ef : fH (at' p.s (p.ix + 1)) = some (hexd (at' p.s (p.ix + 1))).toNat := if_pos ha
    rw [ef] at hA
    have hlt2 := hexd_lt ha
    go_upto_region 3 with (first | (go_at_call 143; refine hA.mono ?_; rintro e w2 ⟨rfl, hW2⟩))
    have hcb2 := at'_bd' p.s (p.ix + 2)
    have hZ := wtake_tab X b { p with ix := p.ix + 1 + 1 } l ⟨#[48, 49, 50, 51, 52, 53, 54, 55, 56, 57, 97, 98, 99, 100, 101, 102]⟩ fH (by decide) (idx_H _ hcb2.1 hcb2.2) w2 hW2 hbad (by simp only; omega) hs
    have hcz : WS.cur { p with ix := p.ix + 1 + 1 } = at' p.s (p.ix + 2) := rfl
    rw [hcz] at hZ
    by_cases hz : 0 ≤ hexd (at' p.s (p.ix + 2))
    ·have ef2 : fH (at' p.s (p.ix + 2)) = some (hexd (at' p.s (p.ix + 2))).toNat := if_pos hz
     rw [ef2] at hZ
     have HTG : Hid (TG p.s .thing p.dp p.ix (.ok (.tbyte (16 * hexd (at' p.s (p.ix + 1)) + hexd (at' p.s (p.ix + 2))).toNat) (p.ix + 3))) := .byte _ _ HC.out ha hz
     have hb1 := hexd_bd (at' p.s (p.ix + 1))
     have hb2 := hexd_bd (at' p.s (p.ix + 2))
     obtain ⟨x, hx⟩ : ∃ x : Nat, hexd (at' p.s (p.ix + 1)) = (x : Int) := ⟨(hexd (at' p.s (p.ix + 1))).toNat, by omega⟩
     obtain ⟨y, hy⟩ : ∃ y : Nat, hexd (at' p.s (p.ix + 2)) = (y : Int) := ⟨(hexd (at' p.s (p.ix + 2))).toNat, by omega⟩
     rw [hx, hy] at HTG
     simp only [hx, hy, Int.toNat_natCast] at hZ ⊢
     have hx15 : (x : Int) ≤ 15 := by omega
     have hy15 : (y : Int) ≤ 15 := by omega
     have hx0 : (0 : Int) ≤ (x : Int) := by omega
     have hy0 : (0 : Int) ≤ (y : Int) := by omega
     have hN : (16 * (x : Int) + (y : Int)).toNat = 16 * x + y := by omega
     rw [hN] at HTG
     have e8 : ((UInt8.ofNat (16 * x + y)).toNat : Int) = 16 * (x : Int) + (y : Int) := by
      have : (UInt8.ofNat (16 * x + y)).toNat = 16 * x + y := by simp; omega
      rw [this]; omega
     clear ha hz hb1 hb2 hcb hcb2 ef ef2 hA hT hcv hcz hx hy hN
     go_upto_region 4 with (first | (go_at_call 143; refine hZ.mono ?_; rintro e w3 ⟨rfl, hW3⟩))
     obtain ⟨c0, c1, c2, c3, c4, g1, g2, g3, g4⟩ := hW3.blk.main
     simp only [hbad] at c2
     obtain ⟨xa, xn, xc, hv⟩ := ownsRow_sl hW3.by_
     have hby := hW3.by_
     simp only at hv hby c4
     rw [hv] at c4 hby
     have hfr : ∀ g, (Value.slice xa xn xc).ownBlock = some g → X.heap.size ≤ g := fun g hg => hW3.fresh g (by simp only; rw [hv]; exact hg)
     have hold := hW3.old
     have hbl := hW3.blk.lt
     have hvne : (Value.slice xa xn xc).ownBlock ≠ some b := fun h => by have := hfr b h; omega
     obtain ⟨i0, hi0, hz0', hz1, hz2⟩ := info_parts infoByte
     have hun := Tryz.underlying64
     have hlm : l.length + 1 ≤ maxLen := by unfold maxLen; omega
     have hlb : (l.length + 1) * 1 ≤ 140737488355328 := by omega
     have hblk := hW3.blk
     have hkeep := hW3.keep
     have hbyi : (16 : Int) * (x : Int) + (y : Int) ≤ 255 := by omega
     have hbyj : (0 : Int) ≤ 16 * (x : Int) + (y : Int) := by omega
     clear hZ hW1 hW2 hW3
     go_wp2_with (first | (at_builtin; refine wpList_append_lies _ rfl _ _ _ rfl 0 5 i0 (.int .u8 0) 1 1 hun hi0 hz0' hz1 hz2 rfl (by decide) (.slice xa xn xc) l.length _ rfl (World.ownsRow.alloc hby _) ⟨w3.heap.size, 0, none⟩ 1 1 [.int .u8 (16 * (x : Int) + (y : Int))] rfl rfl (cell_one_new _ _ _) (by simp [Value.oneCell']) (by omega) hlm hlb (Nat.zero_le _) (w3.heap.size + 1) (by simp) ?_; intro g cap w4 hown hgrow hat hlt4; have hfz : w4.frozen? ⟨b, 4, none⟩ = false := (hgrow.frozen_far ⟨b, 4, none⟩ (by simp; omega) (Ne.symm hvne)).trans ((World.frozen?_alloc_old w3 _ ⟨b, 4, none⟩ (by simp; omega)).trans g4); have hcz : w4.cell? ⟨b, 4, none⟩ = some (.slice xa xn xc) := (hgrow.cell_far ⟨b, 4, none⟩ (by simp; omega) (Ne.symm hvne)).trans ((World.cell?_alloc_old w3 _ ⟨b, 4, none⟩ (by simp; omega)).trans c4)))
     go_end0
     have hk34 : Keeps [] w3 (w3.alloc (.cells #[.int .u8 (16 * (x : Int) + (y : Int))] 5)) := (Keeps.refl [] w3).alloc _
     have hkg : Keeps (Value.slice xa xn xc).ownBlock.toList (w3.alloc (.cells #[.int .u8 (16 * (x : Int) + (y : Int))] 5)) w4 := Keeps.ofGrown hgrow
     have hblk4 := (hblk.keep hk34 (by simp)).keep hkg (fun hm => by rw [Option.mem_toList] at hm; exact hvne hm)
     have hkS : Keeps [b] w4 (w4.setCell ⟨b, 4, none⟩ (.slice (some ⟨g, 0, none⟩) (l.length + 1) cap)) := (Keeps.refl [b] w4).setCell (by simp) _
     have hgX : X.heap.size ≤ g := by
      have h1 := hkeep.size
      rcases hat with h | h
      ·exact hfr g h
      ·rw [h]; simp; omega
     refine ⟨rfl, _, HTG.out, .slice (some ⟨g, 0, none⟩) (l.length + 1) cap, hblk4.setV _, ?_, fun z hz => by simp only [Value.ownBlock, Option.some.injEq] at hz; omega, ?_, hold⟩
     ·have hb4 : BY w4 0 (.slice (some ⟨g, 0, none⟩) (l.length + 1) cap) (l ++ (Tr.tbyte (16 * x + y)).flat) := by
         show w4.ownsRow 0 5 1 _ (l ++ [UInt8.ofNat (16 * x + y)]).length ((l ++ [UInt8.ofNat (16 * x + y)]).map byteV)
         rw [List.length_append, List.map_append]
         have : [UInt8.ofNat (16 * x + y)].map byteV = [.int .u8 (16 * (x : Int) + (y : Int))] := by simp only [List.map_cons, List.map_nil, byteV, e8]
         rw [this]
         exact hown
      exact hb4.keep hkS (fun z hz => by simp only [Value.ownBlock, Option.some.injEq] at hz; simp; omega)
     ·exact (keepsM (hkeep.trans (hk34.mono (by simp))) hkg (by intro z hz; rw [Option.mem_toList] at hz; exact Or.inr (hfr z hz))).trans hkS
    ·have ef2 : fH (at' p.s (p.ix + 2)) = none := if_neg hz
     rw [ef2] at hZ
     have HTG : Hid (TG p.s .thing p.dp p.ix (.bad (p.ix + 2))) := .byte2 _ _ HC.out ha (by omega)
     clear ha hz ef ef2 hA hT hcb hcb2 hcv hcz
     go_upto_region 4 with (first | (go_at_call 143; refine hZ.mono ?_; rintro e w3 ⟨rfl, hW3⟩))
     obtain ⟨c0, c1, c2, c3, c4, g1, g2, g3, g4⟩ := hW3.blk.main
     have hnb : ¬ ((p.ix + 1 + 1 : Nat) : Int) < 0 := by omega
     go_wp2_with fail
     go_end0
     exact ⟨rfl, _, HTG.out, _, l, hW3, rfl, rfl, rfl⟩
   ·have ef : fH (at' p.s (p.ix + 1)) = none := if_neg ha
    rw [ef] at hA
    have HTG : Hid (TG p.s .thing p.dp p.ix (.bad (p.ix + 1))) := .byte1 _ _ HC.out (by omega)
    clear ha ef hT hcb hcv
    go_upto_region 3 with (first | (go_at_call 143; refine hA.mono ?_; rintro e w2 ⟨rfl, hW2⟩))
    have hZ := wtake_dead X b _ l ⟨#[48, 49, 50, 51, 52, 53, 54, 55, 56, 57, 97, 98, 99, 100, 101, 102]⟩ w2 hW2 (by simp only; omega)
    go_upto_region 4 with (first | (go_at_call 143; refine hZ.mono ?_; rintro e w3 ⟨rfl, hW3⟩))
    obtain ⟨c0, c1, c2, c3, c4, g1, g2, g3, g4⟩ := hW3.blk.main
    have hnb : ¬ ((p.ix + 1 : Nat) : Int) < 0 := by omega
    go_wp2_with fail
    go_end0
    exact ⟨rfl, _, HTG.out, _, l, hW3, rfl, rfl, rfl⟩
  ·by_cases h40 : at' p.s p.ix = 40
   ·rw [h40] at hT
    have HC : Hid (at' p.s p.ix = 40) := h40
    have ef : f1 40 = some 2 := by decide
    rw [ef] at hT
    have hlt := at'_lt_of h40 (by decide)
    have HL : Hid (p.ix < p.s.size) := hlt
    have hixi : (p.ix : Int) ≤ 20000 := by omega
    clear h101 h98 h40 hcb hcu hlt
    go_enter Tryz.func89, Tryz.ntmps89
    go_upto_region 7 with (first | (go_at_call 143; refine hT.mono ?_; rintro e w1 ⟨rfl, hW1⟩))
    obtain ⟨c0, c1, c2, c3, c4, g1, g2, g3, g4⟩ := hW1.blk.main
    simp only at c3
    by_cases h60 : p.dp = 60
    ·have hd : ((p.dp : Int) == 60) = true := by simp [h60]
     have HTG : Hid (TG p.s .thing p.dp p.ix (.bad p.ix)) := .deep _ _ HC.out (by omega)
     have hc1' : w1.cell? ⟨b, 1, none⟩ = some (.int .i64 ((p.ix : Int) + 1)) := by rw [c1]; rfl
     have hblk := hW1.blk.setIx p.ix
     have hk1 : Keeps [b] w1 (w1.setCell ⟨b, 1, none⟩ (.int .i64 (p.ix : Int))) := (Keeps.refl [b] w1).setCell (by simp) _
     have hW2 := hW1.step hblk rfl hk1
     have hwr : IntKind.i64.wrap ((p.ix : Int) + 1 - 1) = (p.ix : Int) := by rw [IntKind.wrap_i64]; omega
     clear h60 c1
     go_upto_region 9 with (fail)
     go_wp2_with fail
     refine (wfail_set b _ _ hW2.blk hbad).mono ?_
     rintro e w2 ⟨rfl, hp2, hk2⟩
     go_wp2_with fail
     refine bodyPost_ret (results_none rfl _ _ _) rfl ?_
     exact ⟨rfl, _, HTG.out, _, l, hW2.step hp2 rfl hk2, rfl, rfl, rfl⟩
    ·have hd : ((p.dp : Int) == 60) = false := by simp; omega
     have hdpi : (p.dp : Int) ≤ 59 := by omega
     have hdp0 : (0 : Int) ≤ (p.dp : Int) := by omega
     have hblk := hW1.blk.setDp (p.dp + 1)
     have hcast : ((p.dp + 1 : Nat) : Int) = (p.dp : Int) + 1 := by omega
     rw [hcast] at hblk
     have hk1 : Keeps [b] w1 (w1.setCell ⟨b, 3, none⟩ (.int .i64 ((p.dp : Int) + 1))) := (Keeps.refl [b] w1).setCell (by simp) _
     have hW2 := hW1.step hblk rfl hk1
     have hI := IH X _ b { p with ix := p.ix + 1, dp := p.dp + 1 } l rfl hW2 hbad HL.out (show p.s.size - (p.ix + 1) < n by have := HL.out; omega) (show p.dp + 1 ≤ 60 by omega) (show l.length ≤ p.ix + 1 by omega)
     have HD : Hid (p.dp < 60) := by show p.dp < 60; omega
     clear h60
     go_upto_region 11 with (fail)
     go_wp2_with fail
     refine hI.mono ?_
     rintro e w2 ⟨rfl, q, hTG, hA⟩
     have HTG : Hid (TG p.s .thing p.dp p.ix (shut p.s q)) := .opn _ _ _ HC.out HD.out hTG
     generalize shut p.s q = q2 at *
     cases q2 with
     | bad j =>
      obtain ⟨p', l', hW3, e1, e2, e3⟩ := hA
      obtain ⟨d0, d1, d2, d3, d4, k1, k2, k3, k4⟩ := hW3.blk.main
      rw [e3] at d3
      have d3' : w2.cell? ⟨b, 3, none⟩ = some (.int .i64 ((p.dp : Int) + 1)) := d3
      have hwr : IntKind.i64.wrap ((p.dp : Int) + 1 - 1) = (p.dp : Int) := by rw [IntKind.wrap_i64]; omega
      have hW4 := hW3.step (hW3.blk.setDp p.dp) rfl ((Keeps.refl [b] w2).setCell (by simp) _)
      clear d3
      go_wp2_with fail
      go_end0
      exact ⟨rfl, _, HTG.out, _, l', hW4, e1, e2, rfl⟩
     | ok t j =>
      obtain ⟨v, hW3⟩ := hA
      obtain ⟨d0, d1, d2, d3, d4, k1, k2, k3, k4⟩ := hW3.blk.main
      have d3' : w2.cell? ⟨b, 3, none⟩ = some (.int .i64 ((p.dp : Int) + 1)) := d3
      have hwr : IntKind.i64.wrap ((p.dp : Int) + 1 - 1) = (p.dp : Int) := by rw [IntKind.wrap_i64]; omega
      have hW4 := hW3.step (hW3.blk.setDp p.dp) rfl ((Keeps.refl [b] w2).setCell (by simp) _)
      clear d3
      go_wp2_with fail
      go_end0
      exact ⟨rfl, _, HTG.out, v, hW4⟩
   ·have ef : f1 (at' p.s p.ix) = none := by unfold f1; rw [if_neg h101, if_neg h98, if_neg h40]
    rw [ef] at hT
    have HTG : Hid (TG p.s .thing p.dp p.ix (.bad p.ix)) := .none _ _ h101 h98 h40
    clear h101 h98 h40 hcb hcu ef
    go_enter Tryz.func89, Tryz.ntmps89
    go_wp2_with (first | (go_at_call 143; refine hT.mono ?_; rintro e w1 ⟨rfl, hW1⟩))
    go_end0
    exact ⟨rfl, _, HTG.out, _, l, hW1, rfl, rfl, rfl⟩
end Go.Proofs.YtnfojonmohijpaaGreatDoor
namespace Go.Proofs.YtnfojonmohijpaaGreatDoor
open Go.RowKit
def headT : Tr → List UInt8
 | .tnil => [101]
 | .tbyte b => [98] ++ hexT b
 | .tgrp k _ => [40, 103] ++ decT k
 | .talt p _ => [40, 97] ++ decT p
 | .tser _ => [40, 115]
 | .trep _ => [40, 114]
 | _ => []
def kidL : Tr → List Tr
 | .tgrp _ x => [x]
 | .talt _ x => [x]
 | .tser l => tl l
 | .trep l => tl l
 | _ => []
def shutT : Tr → List UInt8
 | .tnil => []
 | .tbyte _ => []
 | _ => [41]
theorem TO.row {l : Tr} (h : TO false l) : l.text = txts (tl l) ∧ ∀ u, u ∈ tl l → TO true u := by
 generalize hk : false = b at h
 induction h with
 | lnil => exact ⟨rfl, by simp [tl]⟩
 | lcons x r hx _ _ ih =>
  obtain ⟨a, b⟩ := ih hk
  refine ⟨by simp [Tr.text, tl, txts, a], fun u hu => ?_⟩
  rcases List.mem_cons.1 hu with rfl | hu
  ·exact hx
  ·exact b u hu
 | _ => cases hk
theorem TO.parts {t : Tr} (h : TO true t) : t.text = headT t ++ txts (kidL t) ++ shutT t ∧ ∀ u, u ∈ kidL t → TO true u := by
 cases h with
 | tnil => exact ⟨rfl, by simp [kidL]⟩
 | tbyte b hb => exact ⟨by simp [Tr.text, headT, kidL, txts, shutT], by simp [kidL]⟩
 | tgrp k x _ _ hx => exact ⟨by simp [Tr.text, headT, kidL, txts, shutT], by simpa [kidL] using hx⟩
 | talt p x _ hx => exact ⟨by simp [Tr.text, headT, kidL, txts, shutT], by simpa [kidL] using hx⟩
 | tser l hl _ => exact ⟨by simp [Tr.text, headT, kidL, shutT, hl.row.1], by simpa [kidL] using hl.row.2⟩
 | trep l hl => exact ⟨by simp [Tr.text, headT, kidL, shutT, hl.row.1], by simpa [kidL] using hl.row.2⟩
def nosb (l : List UInt8) : Prop := ∀ c, c ∈ l → c ≠ 32 ∧ c ≠ 41
theorem nosb_dec (p : Nat) (hp : p ≤ 99) : nosb (decT p) := by
 have key : ∀ m : Fin 100, ∀ c, c ∈ decT m.val → c ≠ 32 ∧ c ≠ 41 := by decide
 exact key ⟨p, by omega⟩
set_option maxRecDepth 100000 in
theorem nosb_hex (b : Nat) (hb : b < 256) : nosb (hexT b) := by
 have key : ∀ m : Fin 256, ∀ c, c ∈ hexT m.val → c ≠ 32 ∧ c ≠ 41 := by decide
 exact key ⟨b, hb⟩
theorem nosb_app {a b : List UInt8} (ha : nosb a) (hb : nosb b) : nosb (a ++ b) := fun c hc => (List.mem_append.1 hc).elim (ha c) (hb c)
theorem TO.head {t : Tr} (h : TO true t) : nosb (headT t) := by
 cases h with
 | tnil => intro c hc; rw [List.mem_singleton.1 hc]; decide
 | tbyte b hb => exact nosb_app (fun c hc => by rw [List.mem_singleton.1 hc]; decide) (nosb_hex b hb)
 | tgrp k x _ h9 _ => exact nosb_app (by unfold nosb; decide) (nosb_dec k (by omega))
 | talt p x hp _ => exact nosb_app (by unfold nosb; decide) (nosb_dec p (by omega))
 | tser l _ _ =>
  show nosb [40, 115]
  unfold nosb
  decide
 | trep l _ =>
  show nosb [40, 114]
  unfold nosb
  decide
def StrRow (w : World) (lo : Nat) (v : Value) (l : List (List UInt8)) : Prop := w.ownsRow lo 9 1 v l.length (l.map fun x => .string (nmB x))
theorem infoStrW : (Tryz.prog.info? 9).map (fun i => (i.zero, i.size, i.bytes)) = some (some (.string ⟨#[]⟩), 1, 16) := by kernel_rfl
theorem nmB_at (l : List UInt8) (n : Nat) (h : n < l.length) : ∃ hlt : n < (nmB l).size, ((nmB l)[n]'hlt).toNat = (l[n]'h).toNat := by
 have hlt : n < (nmB l).size := by rw [nmB_size]; exact h
 exact ⟨hlt, by simp [nmB, ByteArray.getElem_eq_getElem_data]⟩
theorem nmB_lies (a b c : List UInt8) : Lies (nmB (a ++ b ++ c)) a.length b := by
 intro k x hx
 have hk := (List.getElem?_eq_some_iff.1 hx).1
 have hlt : a.length + k < (nmB (a ++ b ++ c)).size := by rw [nmB_size]; simp; omega
 rw [at'_lt hlt]
 have h2 : (nmB (a ++ b ++ c))[a.length + k]'hlt = x := by
  have e : (a ++ b ++ c)[a.length + k]? = some x := by
   rw [List.append_assoc, List.getElem?_append_right (by omega), Nat.add_sub_cancel_left, List.getElem?_append_left hk]
   exact hx
  have := List.getElem?_eq_some_iff.1 e
  obtain ⟨h1, h3⟩ := this
  rw [← h3]
  simp [nmB, ByteArray.getElem_eq_getElem_data]
 rw [h2]
theorem nmB_cutW (a b c : List UInt8) : (nmB (a ++ b ++ c)).extract a.length (a.length + b.length) = nmB b := by
 apply ByteArray.ext
 simp [nmB, ByteArray.data_extract]
end Go.Proofs.YtnfojonmohijpaaGreatDoor
