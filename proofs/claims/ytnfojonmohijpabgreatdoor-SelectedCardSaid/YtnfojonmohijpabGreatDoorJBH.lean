/-
  DERIVED. The program's ReadArgs. Conditions: the arguments lie in memory.
-/
import Derived.Test.YtnfojonmohijpabGreatDoorJNQ
import Derived.Test.YtnfojonmohijpabGreatDoorJSpec
set_option linter.unusedSimpArgs false
set_option linter.unusedVariables false
namespace Go.Proofs.YtnfojonmohijpabGreatDoor
open Go.RowKit
theorem isDD (s : ByteArray) : (s.toList == [45, 45]) = decide (s = ddS) := by
 rw [show ([45, 45] : List UInt8) = ddS.toList by rw [ByteArray.toList_eq]; rfl, strEq]
theorem isDT (s : ByteArray) : (s.toList == [45, 116]) = decide (s = dtS) := by
 rw [show ([45, 116] : List UInt8) = dtS.toList by rw [ByteArray.toList_eq]; rfl, strEq]
theorem at'_tail (a : ByteArray) (j : Nat) : at' (a.extract 1 a.size) j = at' a (j + 1) := by
 unfold at'
 by_cases h : j + 1 < a.size
 ·rw [dif_pos h, dif_pos (by rw [ByteArray.size_extract]; omega)]
  rw [ByteArray.getElem_extract]
  simp only [Nat.add_comm 1 j]
 ·rw [dif_neg h, dif_neg (by rw [ByteArray.size_extract]; omega)]
theorem letF_tail (a : ByteArray) : ∀ (f j : Nat) (k : Cmd), letF (a.extract 1 a.size) k f j = letF a k f (j + 1)
 | 0, _, _ => rfl
 | f + 1, j, k => by
  simp only [letF, at'_tail]
  cases k.add (at' a (j + 1)) with
  | none => rfl
  | some k' => exact letF_tail a f (j + 1) k'
def kI : Cmd := { k0 with tp := ⟨#[92, 48]⟩ }
def slLen : Value → Nat
 | .slice _ n _ => n
 | _ => 0
theorem results_ra (tmps : Array Value) (w : World) (g : Nat) (k : Cmd) (p : ByteArray) (v5 : Value) (h4 : tmps.getD 2 undef = .pointer (some ⟨g, 0, none⟩)) (h5 : tmps.getD 3 undef = v5) (hp : AB w g k p) :
    (results Tryz.f41 tmps).run Tryz.prog w = .ok (.tuple #[.agg (k.cells p), v5]) w := by
 have h : Tryz.f41.results = #[.cell 2 108, .tmp 3] := rfl
 have e4 : tmps[2]?.getD undef = .pointer (some ⟨g, 0, none⟩) := by simpa using h4
 have e5 : tmps[3]?.getD undef = v5 := by simpa using h5
 have l1 := run_loadVar_row (P := Tryz.prog) w g 108 108 (k.cells p) (0, 0) _ hp Tryz.underlying108 rfl (infoArgs k p)
 simp [results, h, e4, e5, asAddr, l1]
def raE : Option (Cmd × ByteArray) → Ending
 | some (k, p) => .returned (.tuple #[.agg (k.cells p), .bool true])
 | none => .returned (.tuple #[.agg (k0.cells ⟨#[]⟩), .bool false])
theorem WpPost.one {k : Cmd} {l : List ByteArray} {w w' : World} {e : Ending} (h : WpPost k l w e w') : Keeps [] w w' ∧ ∃ k' p b, e = .returned (.tuple #[.agg (Cmd.cells k' p), .bool b]) ∧ raE (oneF k l) = .returned (.tuple #[.agg (Cmd.cells k' p), .bool b]) := by
 obtain ⟨hk, h⟩ := h
 refine ⟨hk, ?_⟩
 cases hq : oneF k l with
 | none => rw [hq] at h; exact ⟨k0, ⟨#[]⟩, false, h, rfl⟩
 | some kp => obtain ⟨k', p⟩ := kp; rw [hq] at h; exact ⟨k', p, true, h, rfl⟩
def RaPost (l : List ByteArray) (w : World) (e : Ending) (w' : World) : Prop := Keeps [] w w' ∧ ∃ q, OptA l kI q ∧ e = raE q
structure RaL (w wr : World) (b r : Nat) (l : List ByteArray) (v : Value) (l' : List ByteArray) (k : Cmd) : Prop where
 args : ArgIs w v l'
 rd : AB wr b k ⟨#[]⟩
 res : AB wr r k0 ⟨#[]⟩
 keep : Keeps [] w wr
 says : ∀ q, OptA l' k q → OptA l kI q
set_option maxRecDepth 100000 in
set_option maxHeartbeats 4000000 in
theorem readArgs_any (v : Value) (l : List ByteArray) (w : World) (hl : ArgIs w v l) : Calls Tryz.prog 41 #[v] w (RaPost l w) := by
 obtain ⟨va, vc, hv⟩ := hl.sl
 subst hv
 have hr0 : AB ((w.alloc (.cells #[.bool false, .bool false, .bool false, .bool false, .bool false, .bool false, .string ⟨#[]⟩, .string ⟨#[]⟩] 108)).alloc (.cells #[.bool false, .bool false, .bool false, .bool false, .bool false, .bool false, .string ⟨#[92, 48]⟩, .string ⟨#[]⟩] 108)) w.heap.size k0 ⟨#[]⟩ := by
  have h := heap_alloc_new w (.cells #[.bool false, .bool false, .bool false, .bool false, .bool false, .bool false, .string ⟨#[]⟩, .string ⟨#[]⟩] 108)
  exact (((Keeps.refl [] (w.alloc (.cells #[.bool false, .bool false, .bool false, .bool false, .bool false, .bool false, .string ⟨#[]⟩, .string ⟨#[]⟩] 108))).alloc (.cells #[.bool false, .bool false, .bool false, .bool false, .bool false, .bool false, .string ⟨#[92, 48]⟩, .string ⟨#[]⟩] 108)).block _ (Array.getElem?_eq_some_iff.1 h).1 (by simp)).trans h
 have hb0 : AB ((w.alloc (.cells #[.bool false, .bool false, .bool false, .bool false, .bool false, .bool false, .string ⟨#[]⟩, .string ⟨#[]⟩] 108)).alloc (.cells #[.bool false, .bool false, .bool false, .bool false, .bool false, .bool false, .string ⟨#[92, 48]⟩, .string ⟨#[]⟩] 108)) (w.heap.size + 1) kI ⟨#[]⟩ := by
  have h := heap_alloc_new (w.alloc (.cells #[.bool false, .bool false, .bool false, .bool false, .bool false, .bool false, .string ⟨#[]⟩, .string ⟨#[]⟩] 108)) (.cells #[.bool false, .bool false, .bool false, .bool false, .bool false, .bool false, .string ⟨#[92, 48]⟩, .string ⟨#[]⟩] 108)
  rw [show (w.alloc (.cells #[.bool false, .bool false, .bool false, .bool false, .bool false, .bool false, .string ⟨#[]⟩, .string ⟨#[]⟩] 108)).heap.size = w.heap.size + 1 by simp] at h
  exact h
 have hk0 : Keeps [] w ((w.alloc (.cells #[.bool false, .bool false, .bool false, .bool false, .bool false, .bool false, .string ⟨#[]⟩, .string ⟨#[]⟩] 108)).alloc (.cells #[.bool false, .bool false, .bool false, .bool false, .bool false, .bool false, .string ⟨#[92, 48]⟩, .string ⟨#[]⟩] 108)) := ((Keeps.refl [] w).alloc _).alloc _
 have hL0 : RaL w _ (w.heap.size + 1) w.heap.size l (.slice va l.length vc) l kI := ⟨hl, hb0, hr0, hk0, fun q h => h⟩
 clear hr0 hb0 hk0 hl
 go_enter Tryz.func41, Tryz.ntmps41
 go_upto_region 2 with (fail)
 generalize (w.alloc (.cells #[.bool false, .bool false, .bool false, .bool false, .bool false, .bool false, .string ⟨#[]⟩, .string ⟨#[]⟩] 108)).alloc (.cells #[.bool false, .bool false, .bool false, .bool false, .bool false, .bool false, .string ⟨#[92, 48]⟩, .string ⟨#[]⟩] 108) = W at *
 obtain ⟨r, hre⟩ : ∃ r, w.heap.size = r := ⟨_, rfl⟩
 have HR : Hid (w.heap.size = r) := hre
 rw [hre] at hL0 ⊢
 obtain ⟨b, hbe⟩ : ∃ b, b = r + 1 := ⟨_, rfl⟩
 have HB : Hid (b = r + 1) := hbe
 rw [← hbe] at hL0 ⊢
 clear hre hbe
 go_loopw [0] (fun q0 wr => ∃ (l' : List ByteArray) (k : Cmd), RaL w wr b r l q0 l' k) (fun q _ => slLen q)
 case atStart => exact ⟨l, kI, hL0⟩
 case round =>
  clear hL0
  obtain ⟨l', k, L⟩ := hrel
  obtain ⟨xa, xc, hv⟩ := L.args.sl
  subst hv
  have HL : Hid (RaL w wr b r l (.slice xa l'.length xc) l' k) := L
  have hrd := L.rd
  have hia := infoArgs k ⟨#[]⟩
  have hlen := L.args.len
  have hlen' : (l'.length : Int) ≤ 9223372036854775807 := by omega
  by_cases hgo : ∃ a r', l' = a :: r' ∧ isOpt a
  rotate_left
  ·have HE : Hid (OptA l kI (oneF k l')) := L.says _ (.left l' k fun a r' e ho => hgo ⟨a, r', e, ho⟩)
   have hwp := withPattern_any k ⟨#[]⟩ (.slice xa l'.length xc) l' wr (L.args.keep L.keep)
   cases l' with
   | nil =>
    clear L hgo
    simp only [List.length_nil] at hwp ⊢
    go_wp2_with (first | (refine wpList_load_row rfl 108 _ rfl b rfl _ _ _ _ hrd Tryz.underlying108 rfl hia ?_))
    refine hwp.mono ?_
    rintro e w2 hw2
    obtain ⟨hk2, k2, p2, b2, rfl, hq2⟩ := hw2.one
    have hres := HL.out.res.keep hk2 (by simp)
    have hia2 := infoArgs k2 p2
    have hone2 := cells_one k2 p2
    have hszz : (k0.cells ⟨#[]⟩).size = (k2.cells p2).size := rfl
    have HQ2 : Hid (raE (oneF k []) = .returned (.tuple #[.agg (Cmd.cells k2 p2), .bool b2])) := hq2
    have hkE : Keeps [] w w2 := HL.out.keep.trans hk2
    clear hwp hw2 hq2
    go_wp2_with (first | (refine wpList_store_row rfl 108 _ _ rfl r (k2.cells p2) rfl rfl _ _ hres hia2 hszz hone2 ?_))
    have hkR := (Keeps.refl [r] w2).setRow (g := r) (by simp) (k2.cells p2)
    refine bodyPost_ret (results_ra _ _ r k2 p2 _ rfl rfl (setRow_heap _ _ _ _ _ _ hres)) rfl ?_
    exact ⟨hkE.fresh hkR (by intro x hx; simp at hx; have := HR.out; exact Or.inr (by omega)), _, HE.out, HQ2.out.symm⟩
   | cons a r' =>
    have hno : decide (isOpt a) = false := decide_eq_false fun ho => hgo ⟨a, r', rfl, ho⟩
    obtain ⟨g, o, c, hv, hca0, hc1, hc2, hasz, hrest⟩ := L.args.cons
    have hca := keep_cell L.keep hca0
    rw [List.length_cons] at hv hwp hlen' ⊢
    cases hv
    have hbo := beginsOption_any a wr
    rw [hno] at hbo
    have hn1 : (0 : Int) < ((r'.length + 1 : Nat) : Int) := by omega
    have hn2 : decide ((0 : Int) < ((r'.length + 1 : Nat) : Int)) = true := decide_eq_true hn1
    obtain ⟨n, hn⟩ : ∃ n, n = r'.length + 1 := ⟨_, rfl⟩
    rw [← hn] at hn1 hn2 hlen' hwp ⊢
    clear L hgo hno hrest hc1 hc2 hn hlen
    go_wp2_with (first | (go_at_call 76; refine hbo.mono ?_; rintro e w1 ⟨rfl, hw1⟩; rw [hw1]; clear hw1) | (refine wpList_load_row rfl 108 _ rfl b rfl _ _ _ _ hrd Tryz.underlying108 rfl hia ?_))
    refine hwp.mono ?_
    rintro e w2 hw2
    obtain ⟨hk2, k2, p2, b2, rfl, hq2⟩ := hw2.one
    have hres := HL.out.res.keep hk2 (by simp)
    have hia2 := infoArgs k2 p2
    have hone2 := cells_one k2 p2
    have hszz : (k0.cells ⟨#[]⟩).size = (k2.cells p2).size := rfl
    have HQ2 : Hid (raE (oneF k (a :: r')) = .returned (.tuple #[.agg (Cmd.cells k2 p2), .bool b2])) := hq2
    have hkE : Keeps [] w w2 := HL.out.keep.trans hk2
    clear hwp hw2 hq2
    go_wp2_with (first | (refine wpList_store_row rfl 108 _ _ rfl r (k2.cells p2) rfl rfl _ _ hres hia2 hszz hone2 ?_))
    have hkR := (Keeps.refl [r] w2).setRow (g := r) (by simp) (k2.cells p2)
    refine bodyPost_ret (results_ra _ _ r k2 p2 _ rfl rfl (setRow_heap _ _ _ _ _ _ hres)) rfl ?_
    exact ⟨hkE.fresh hkR (by intro x hx; simp at hx; have := HR.out; exact Or.inr (by omega)), _, HE.out, HQ2.out.symm⟩
  obtain ⟨a, r', rfl, ho⟩ := hgo
  have hyes : decide (isOpt a) = true := decide_eq_true ho
  obtain ⟨g, o, c, hv, hca0, hc1, hc2, hasz, hrest⟩ := L.args.cons
  have hca := keep_cell L.keep hca0
  rw [List.length_cons] at hv hlen' ⊢
  cases hv
  have hbo := beginsOption_any a wr
  rw [hyes] at hbo
  have hdd := isDD a
  have hdt := isDT a
  have HO : Hid (isOpt a) := ho
  obtain ⟨n, hn⟩ : ∃ n, n = r'.length + 1 := ⟨_, rfl⟩
  have hrl : r'.length = n - 1 := by omega
  rw [← hn] at hlen' hc1 ⊢
  rw [hrl] at hrest
  have HNN : Hid (n = r'.length + 1 ∧ 1 ≤ n ∧ n ≤ xc ∧ xc ≤ 9223372036854775807) := ⟨hn, by omega, hc1, hc2⟩
  have hn5 : (xc : Int) ≤ 9223372036854775807 := by omega
  have hsaN : (1 : Int) ≤ (a.size : Int) := by have := ho.1; omega
  have hsaM : (a.size : Int) ≤ 9223372036854775807 := by omega
  have hal := addLetters_any b k ⟨#[]⟩ (a.extract 1 a.size) (by rw [ByteArray.size_extract]; omega) wr hrd
  rw [letF_tail, ByteArray.size_extract, Nat.min_self] at hal
  have HG : Hid (g < w.heap.size) := World.block_lt_of_cell? _ _ hca0
  clear L hyes ho hlen hn hrl hc1 hc2
  by_cases hx1 : xc = 1
  ·subst hx1
   have hn1e : n = 1 := by have := HNN.out; omega
   subst hn1e
   have hr0 : r' = [] := List.eq_nil_of_length_eq_zero (by have := HNN.out; omega)
   subst hr0
   have hrest1 : ArgIs w (.slice (some ⟨g, o, none⟩) 0 0) [] := ⟨by simp, Or.inl ⟨rfl, _, _, rfl⟩, by simp⟩
   clear hrest
   by_cases h1 : a = ddS
   ·rw [decide_eq_true h1] at hdd
    have HE : Hid (OptA l kI (oneF k [])) := HL.out.says _ (by rw [h1]; exact .dd [] k)
    have hwp := withPattern_any k ⟨#[]⟩ _ [] wr (hrest1.keep HL.out.keep)
    clear hdt h1 hal
    go_wp2_with (first | (go_at_call 76; refine hbo.mono ?_; rintro e w1 ⟨rfl, hw1⟩; rw [hw1]; clear hw1) | (refine wpList_load_row rfl 108 _ rfl b rfl _ _ _ _ hrd Tryz.underlying108 rfl hia ?_))
    refine hwp.mono ?_
    rintro e w2 hw2
    obtain ⟨hk2, k2, p2, b2, rfl, hq2⟩ := hw2.one
    have hres := HL.out.res.keep hk2 (by simp)
    have hia2 := infoArgs k2 p2
    have hone2 := cells_one k2 p2
    have hszz : (k0.cells ⟨#[]⟩).size = (k2.cells p2).size := rfl
    have HQ2 : Hid (raE (oneF k []) = .returned (.tuple #[.agg (Cmd.cells k2 p2), .bool b2])) := hq2
    have hkE : Keeps [] w w2 := HL.out.keep.trans hk2
    clear hwp hw2 hq2
    go_wp2_with (first | (refine wpList_store_row rfl 108 _ _ rfl r (k2.cells p2) rfl rfl _ _ hres hia2 hszz hone2 ?_))
    have hkR := (Keeps.refl [r] w2).setRow (g := r) (by simp) (k2.cells p2)
    refine bodyPost_ret (results_ra _ _ r k2 p2 _ rfl rfl (setRow_heap _ _ _ _ _ _ hres)) rfl ?_
    exact ⟨hkE.fresh hkR (by intro x hx; simp at hx; have := HR.out; exact Or.inr (by omega)), _, HE.out, HQ2.out.symm⟩
   rw [decide_eq_false h1] at hdd
   by_cases h2 : a = dtS
   ·rw [decide_eq_true h2] at hdt
    have H2 : Hid (a = dtS) := h2
    clear h1 h2 hal
    have HE : Hid (OptA l kI none) := HL.out.says _ (by rw [H2.out]; exact .dt0 k)
    have hres := HL.out.res.keep (Keeps.refl [] wr) (by simp)
    have hia2 := infoArgs k0 ⟨#[]⟩
    have hone2 := cells_one k0 ⟨#[]⟩
    have hkE : Keeps [] w wr := HL.out.keep.trans (Keeps.refl [] wr)
    go_wp2_with (first | (go_at_call 76; refine hbo.mono ?_; rintro e w1 ⟨rfl, hw1⟩; rw [hw1]; clear hw1) | (refine wpList_store_row rfl 108 _ _ rfl r (k0.cells ⟨#[]⟩) rfl rfl _ _ hres hia2 rfl hone2 ?_))
    have hkR := (Keeps.refl [r] wr).setRow (g := r) (by simp) (k0.cells ⟨#[]⟩)
    refine bodyPost_ret (results_ra _ _ r k0 ⟨#[]⟩ _ rfl rfl (setRow_heap _ _ _ _ _ _ hres)) rfl ?_
    exact ⟨hkE.fresh hkR (by intro x hx; simp at hx; have := HR.out; exact Or.inr (by omega)), none, HE.out, rfl⟩
   rw [decide_eq_false h2] at hdt
   have HN1 : Hid (a ≠ ddS ∧ a ≠ dtS) := ⟨h1, h2⟩
   clear h1 h2
   cases hlf : letF a k (a.size - 1) (0 + 1) with
   | none =>
    rw [hlf] at hal
    have HE : Hid (OptA l kI none) := HL.out.says _ (.bad a [] k HO.out HN1.out.1 HN1.out.2 (by rw [Nat.zero_add] at hlf; exact hlf))
    clear hlf
    go_upto_region 6 with (first | (go_at_call 76; refine hbo.mono ?_; rintro e w1 ⟨rfl, hw1⟩; rw [hw1]; clear hw1))
    go_wp2_with fail
    refine hal.mono ?_
    rintro e w2 ⟨hk2, rfl⟩
    have hres := HL.out.res.keep hk2 (by simp; have := HB.out; omega)
    have hia2 := infoArgs k0 ⟨#[]⟩
    have hone2 := cells_one k0 ⟨#[]⟩
    have hkE : Keeps [] w w2 := HL.out.keep.fresh hk2 (by intro x hx; simp at hx; have := HB.out; have := HR.out; exact Or.inr (by omega))
    clear hal hrd
    go_wp2_with (first | (refine wpList_store_row rfl 108 _ _ rfl r (k0.cells ⟨#[]⟩) rfl rfl _ _ hres hia2 rfl hone2 ?_))
    have hkR := (Keeps.refl [r] w2).setRow (g := r) (by simp) (k0.cells ⟨#[]⟩)
    refine bodyPost_ret (results_ra _ _ r k0 ⟨#[]⟩ _ rfl rfl (setRow_heap _ _ _ _ _ _ hres)) rfl ?_
    exact ⟨hkE.fresh hkR (by intro x hx; simp at hx; have := HR.out; exact Or.inr (by omega)), none, HE.out, rfl⟩
   | some k2 =>
    rw [hlf] at hal
    have HS2 : Hid (∀ q, OptA [] k2 q → OptA l kI q) := fun q hq => HL.out.says q (.let' a [] k k2 q HO.out HN1.out.1 HN1.out.2 (by rw [Nat.zero_add] at hlf; exact hlf) hq)
    clear hlf
    go_upto_region 6 with (first | (go_at_call 76; refine hbo.mono ?_; rintro e w1 ⟨rfl, hw1⟩; rw [hw1]; clear hw1))
    go_wp2_with fail
    refine hal.mono ?_
    rintro e w2 ⟨hk2, rfl, hrd2⟩
    have HL2 : Hid (RaL w w2 b r l (.slice (some ⟨g, o, none⟩) 0 0) [] k2) := ⟨hrest1, hrd2, HL.out.res.keep hk2 (by simp; have := HB.out; omega), HL.out.keep.fresh hk2 (by intro x hx; simp at hx; have := HB.out; have := HR.out; exact Or.inr (by omega)), HS2.out⟩
    clear hal hrd hrd2 hk2
    go_wp2_with fail
    go_roundw
    case rel => exact ⟨[], k2, HL2.out⟩
    case measure => have := HNN.out; simp [slLen]; try omega
  have hn1 : (0 : Int) < (n : Int) := by have := HNN.out; omega
  have hn2 : decide ((0 : Int) < (n : Int)) = true := decide_eq_true hn1
  have hn3 : (1 : Int) ≤ (n : Int) := by omega
  have hn4 : (n : Int) ≤ (xc : Int) := by have := HNN.out; omega
  have hx1' : ¬ (xc : Int) = 1 := by omega
  have hx1'' : ¬ xc - 1 = 0 := by have := HNN.out; omega
  have hrest1 := hrest
  clear hrest
  by_cases h1 : a = ddS
  ·rw [decide_eq_true h1] at hdd
   have HE : Hid (OptA l kI (oneF k r')) := HL.out.says _ (by rw [h1]; exact .dd r' k)
   have hwp := withPattern_any k ⟨#[]⟩ _ r' wr (hrest1.keep HL.out.keep)
   clear hdt h1 hal
   go_wp2_with (first | (go_at_call 76; refine hbo.mono ?_; rintro e w1 ⟨rfl, hw1⟩; rw [hw1]; clear hw1) | (refine wpList_load_row rfl 108 _ rfl b rfl _ _ _ _ hrd Tryz.underlying108 rfl hia ?_))
   refine hwp.mono ?_
   rintro e w2 hw2
   obtain ⟨hk2, k2, p2, b2, rfl, hq2⟩ := hw2.one
   have hres := HL.out.res.keep hk2 (by simp)
   have hia2 := infoArgs k2 p2
   have hone2 := cells_one k2 p2
   have hszz : (k0.cells ⟨#[]⟩).size = (k2.cells p2).size := rfl
   have HQ2 : Hid (raE (oneF k r') = .returned (.tuple #[.agg (Cmd.cells k2 p2), .bool b2])) := hq2
   have hkE : Keeps [] w w2 := HL.out.keep.trans hk2
   clear hwp hw2 hq2
   go_wp2_with (first | (refine wpList_store_row rfl 108 _ _ rfl r (k2.cells p2) rfl rfl _ _ hres hia2 hszz hone2 ?_))
   have hkR := (Keeps.refl [r] w2).setRow (g := r) (by simp) (k2.cells p2)
   refine bodyPost_ret (results_ra _ _ r k2 p2 _ rfl rfl (setRow_heap _ _ _ _ _ _ hres)) rfl ?_
   exact ⟨hkE.fresh hkR (by intro x hx; simp at hx; have := HR.out; exact Or.inr (by omega)), _, HE.out, HQ2.out.symm⟩
  rw [decide_eq_false h1] at hdd
  by_cases h2 : a = dtS
  ·rw [decide_eq_true h2] at hdt
   have H2 : Hid (a = dtS) := h2
   clear h1 h2 hal
   by_cases hnil : r' = []
   ·subst hnil
    have hne1 : n = 1 := by have := HNN.out.1; simpa using this
    subst hne1
    have HE : Hid (OptA l kI none) := HL.out.says _ (by rw [H2.out]; exact .dt0 k)
    have hres := HL.out.res.keep (Keeps.refl [] wr) (by simp)
    have hia2 := infoArgs k0 ⟨#[]⟩
    have hone2 := cells_one k0 ⟨#[]⟩
    have hkE : Keeps [] w wr := HL.out.keep.trans (Keeps.refl [] wr)
    go_wp2_with (first | (go_at_call 76; refine hbo.mono ?_; rintro e w1 ⟨rfl, hw1⟩; rw [hw1]; clear hw1) | (refine wpList_store_row rfl 108 _ _ rfl r (k0.cells ⟨#[]⟩) rfl rfl _ _ hres hia2 rfl hone2 ?_))
    have hkR := (Keeps.refl [r] wr).setRow (g := r) (by simp) (k0.cells ⟨#[]⟩)
    refine bodyPost_ret (results_ra _ _ r k0 ⟨#[]⟩ _ rfl rfl (setRow_heap _ _ _ _ _ _ hres)) rfl ?_
    exact ⟨hkE.fresh hkR (by intro x hx; simp at hx; have := HR.out; exact Or.inr (by omega)), none, HE.out, rfl⟩
   obtain ⟨t, r2, rfl⟩ : ∃ t r2, r' = t :: r2 := by
    cases r' with
    | nil => exact absurd rfl hnil
    | cons t r2 => exact ⟨t, r2, rfl⟩
   have hnn2 : n = r2.length + 2 := by have := HNN.out.1; rw [List.length_cons] at this; omega
   obtain ⟨g', o', c', hv', hct0, hd1, hd2, htsz, hrest2⟩ := hrest1.cons
   have hv2 : g' = g ∧ o' = o + 1 ∧ c' = xc - 1 := by
    simp only [Value.slice.injEq, Option.some.injEq, Addr.mk.injEq, and_true] at hv'
    exact ⟨hv'.1.1.symm, hv'.1.2.symm, hv'.2.2.symm⟩
   obtain ⟨rfl, rfl, rfl⟩ := hv2
   have hct := keep_cell HL.out.keep hct0
   obtain ⟨c0, c1, c2, c3, c4, c5, c6, c7⟩ := hrd.main
   have f3 := hrd.frz 3
   have f6 := hrd.frz 6
   have hset := hrd.set_t t
   have hkS : Keeps [b] wr ((wr.setCell ⟨b, 3, none⟩ (.bool true)).setCell ⟨b, 6, none⟩ (.string t)) := ((Keeps.refl [b] wr).setCell (p := ⟨b, 3, none⟩) (by simp) _).setCell (p := ⟨b, 6, none⟩) (by simp) _
   have c6' : (wr.setCell ⟨b, 3, none⟩ (.bool true)).cell? ⟨b, 6, none⟩ = some (.string k.tp) := (World.cell?_setCell_other _ _ _ _ (by simp)).trans c6
   have HRES : Hid (AB ((wr.setCell ⟨b, 3, none⟩ (.bool true)).setCell ⟨b, 6, none⟩ (.string t)) b { k with o := true, tp := t } ⟨#[]⟩ ∧ AB ((wr.setCell ⟨b, 3, none⟩ (.bool true)).setCell ⟨b, 6, none⟩ (.string t)) r k0 ⟨#[]⟩ ∧ Keeps [] w ((wr.setCell ⟨b, 3, none⟩ (.bool true)).setCell ⟨b, 6, none⟩ (.string t)) ∧ ∀ q, OptA r2 { k with o := true, tp := t } q → OptA l kI q) :=
    ⟨hset, HL.out.res.keep hkS (by simp; have := HB.out; omega), HL.out.keep.fresh hkS (by intro x hx; simp at hx; have := HB.out; have := HR.out; exact Or.inr (by omega)), fun q hq => HL.out.says q (by rw [H2.out]; exact .dt t r2 k q hq)⟩
   have HN2 : Hid (n = r2.length + 2) := hnn2
   have hn2i : (2 : Int) ≤ (n : Int) := by omega
   have hnz : ¬ n - 1 = 0 := by omega
   have hnz' : (((n - 1 : Nat) : Int) == 0) = false := by have h : ¬ ((n - 1 : Nat) : Int) = 0 := by omega
                                                          simpa using h
   clear hset hkS hct0 c0 c1 c2 c4 c5 c6 c7 hca0 hnil hnn2 hd1 hd2 hv'
   by_cases hx2 : xc - 1 = 1
   ·have hr20 : r2 = [] := List.eq_nil_of_length_eq_zero (by have := HNN.out; have := HN2.out; omega)
    subst hr20
    have hn2e : n = 2 := HN2.out
    subst hn2e
    have hxe : xc = 2 := by omega
    subst hxe
    have HL2 : Hid (RaL w ((wr.setCell ⟨b, 3, none⟩ (.bool true)).setCell ⟨b, 6, none⟩ (.string t)) b r l (.slice (some ⟨g', o + 1, none⟩) 0 0) [] { k with o := true, tp := t }) := ⟨⟨by simp, Or.inl ⟨rfl, _, _, rfl⟩, by simp⟩, HRES.out.1, HRES.out.2.1, HRES.out.2.2.1, HRES.out.2.2.2⟩
    clear hrest1 hrest2 hx2
    go_wp2_with (first | (go_at_call 76; refine hbo.mono ?_; rintro e w1 ⟨rfl, hw1⟩; rw [hw1]; clear hw1))
    go_roundw
    case rel => exact ⟨[], _, HL2.out⟩
    case measure => simp [slLen]
   ·have hr2l : r2.length = n - 1 - 1 := by have := HN2.out; omega
    rw [hr2l] at hrest2
    have HL2 : Hid (RaL w ((wr.setCell ⟨b, 3, none⟩ (.bool true)).setCell ⟨b, 6, none⟩ (.string t)) b r l (.slice (some ⟨g', o + 1 + 1, none⟩) (n - 1 - 1) (xc - 1 - 1)) r2 { k with o := true, tp := t }) := ⟨hrest2, HRES.out.1, HRES.out.2.1, HRES.out.2.2.1, HRES.out.2.2.2⟩
    have hx2' : ¬ xc - 1 - 1 = 0 := by have := HNN.out; omega
    have hx2i : ¬ ((xc - 1 : Nat) : Int) = 1 := by omega
    have hm1 : (1 : Int) ≤ ((n - 1 : Nat) : Int) := by omega
    have hm2 : ((n - 1 : Nat) : Int) ≤ ((xc - 1 : Nat) : Int) := by have := HNN.out; omega
    have hm3 : ((xc - 1 : Nat) : Int) ≤ 9223372036854775807 := by omega
    clear hrest1 hrest2
    go_wp2_with (first | (go_at_call 76; refine hbo.mono ?_; rintro e w1 ⟨rfl, hw1⟩; rw [hw1]; clear hw1))
    go_roundw
    case rel => exact ⟨r2, _, HL2.out⟩
    case measure => have := HN2.out; simp [slLen]; omega
  rw [decide_eq_false h2] at hdt
  have HN1 : Hid (a ≠ ddS ∧ a ≠ dtS) := ⟨h1, h2⟩
  clear h1 h2
  cases hlf : letF a k (a.size - 1) (0 + 1) with
  | none =>
   rw [hlf] at hal
   have HE : Hid (OptA l kI none) := HL.out.says _ (.bad a r' k HO.out HN1.out.1 HN1.out.2 (by rw [Nat.zero_add] at hlf; exact hlf))
   clear hlf
   go_upto_region 6 with (first | (go_at_call 76; refine hbo.mono ?_; rintro e w1 ⟨rfl, hw1⟩; rw [hw1]; clear hw1))
   go_wp2_with fail
   refine hal.mono ?_
   rintro e w2 ⟨hk2, rfl⟩
   have hres := HL.out.res.keep hk2 (by simp; have := HB.out; omega)
   have hia2 := infoArgs k0 ⟨#[]⟩
   have hone2 := cells_one k0 ⟨#[]⟩
   have hkE : Keeps [] w w2 := HL.out.keep.fresh hk2 (by intro x hx; simp at hx; have := HB.out; have := HR.out; exact Or.inr (by omega))
   clear hal hrd
   go_wp2_with (first | (refine wpList_store_row rfl 108 _ _ rfl r (k0.cells ⟨#[]⟩) rfl rfl _ _ hres hia2 rfl hone2 ?_))
   have hkR := (Keeps.refl [r] w2).setRow (g := r) (by simp) (k0.cells ⟨#[]⟩)
   refine bodyPost_ret (results_ra _ _ r k0 ⟨#[]⟩ _ rfl rfl (setRow_heap _ _ _ _ _ _ hres)) rfl ?_
   exact ⟨hkE.fresh hkR (by intro x hx; simp at hx; have := HR.out; exact Or.inr (by omega)), none, HE.out, rfl⟩
  | some k2 =>
   rw [hlf] at hal
   have HS2 : Hid (∀ q, OptA r' k2 q → OptA l kI q) := fun q hq => HL.out.says q (.let' a r' k k2 q HO.out HN1.out.1 HN1.out.2 (by rw [Nat.zero_add] at hlf; exact hlf) hq)
   clear hlf
   go_upto_region 6 with (first | (go_at_call 76; refine hbo.mono ?_; rintro e w1 ⟨rfl, hw1⟩; rw [hw1]; clear hw1))
   go_wp2_with fail
   refine hal.mono ?_
   rintro e w2 ⟨hk2, rfl, hrd2⟩
   have HL2 : Hid (RaL w w2 b r l (.slice (some ⟨g, o + 1, none⟩) (n - 1) (xc - 1)) r' k2) := ⟨hrest1, hrd2, HL.out.res.keep hk2 (by simp; have := HB.out; omega), HL.out.keep.fresh hk2 (by intro x hx; simp at hx; have := HB.out; have := HR.out; exact Or.inr (by omega)), HS2.out⟩
   clear hal hrd hrd2 hk2
   go_wp2_with fail
   go_roundw
   case rel => exact ⟨r', k2, HL2.out⟩
   case measure => have := HNN.out; simp [slLen]; try omega
end Go.Proofs.YtnfojonmohijpabGreatDoor
namespace Go.Proofs.YtnfojonmohijpabGreatDoor
def evs : List Int → List (Nat × Nat × Nat) → List Int
 | l, [] => l
 | l, (n, i, j) :: ev => evs ((l.set (2 * n - 2) i).set (2 * n - 1) j) ev
theorem evs_len : ∀ (ev : List (Nat × Nat × Nat)) (l : List Int), (evs l ev).length = l.length
 | [], l => rfl
 | (n, i, j) :: ev, l => by rw [evs, evs_len ev]; simp
end Go.Proofs.YtnfojonmohijpabGreatDoor
