/-
  DERIVED. strconv.Itoa of numbers below 100. No other conditions.
-/
import Derived.Test.YtnfojonmohijpabGreatDoorJOF
import Derived.Test.YtnfojonmohijpabGreatDoorJOI0
import Derived.Test.YtnfojonmohijpabGreatDoorJPW
import Derived.Test.YtnfojonmohijpabGreatDoorJSpec
set_option linter.unusedSimpArgs false
set_option linter.unusedVariables false
namespace Go.Proofs.YtnfojonmohijpabGreatDoor
open Go.RowKit
theorem eq_nmB {b : ByteArray} {l : List UInt8} (h : b.data.toList = l) : b = nmB l := by
 subst h
 cases b
 simp [nmB]
def digsA : ByteArray := ⟨#[48, 49, 50, 51, 52, 53, 54, 55, 56, 57, 97, 98, 99, 100, 101, 102, 103, 104, 105, 106, 107, 108, 109, 110, 111, 112, 113, 114, 115, 116, 117, 118, 119, 120, 121, 122]⟩
def pairs : ByteArray := ⟨#[48, 48, 48, 49, 48, 50, 48, 51, 48, 52, 48, 53, 48, 54, 48, 55, 48, 56, 48, 57, 49, 48, 49, 49, 49, 50, 49, 51, 49, 52, 49, 53, 49, 54, 49, 55, 49, 56, 49, 57, 50, 48, 50, 49, 50, 50, 50, 51, 50, 52, 50, 53, 50, 54, 50, 55, 50, 56, 50, 57, 51, 48, 51, 49, 51, 50, 51, 51, 51, 52, 51, 53, 51, 54, 51, 55, 51, 56, 51, 57, 52, 48, 52, 49, 52, 50, 52, 51, 52, 52, 52, 53, 52, 54, 52, 55, 52, 56, 52, 57, 53, 48, 53, 49, 53, 50, 53, 51, 53, 52, 53, 53, 53, 54, 53, 55, 53, 56, 53, 57, 54, 48, 54, 49, 54, 50, 54, 51, 54, 52, 54, 53, 54, 54, 54, 55, 54, 56, 54, 57, 55, 48, 55, 49, 55, 50, 55, 51, 55, 52, 55, 53, 55, 54, 55, 55, 55, 56, 55, 57, 56, 48, 56, 49, 56, 50, 56, 51, 56, 52, 56, 53, 56, 54, 56, 55, 56, 56, 56, 57, 57, 48, 57, 49, 57, 50, 57, 51, 57, 52, 57, 53, 57, 54, 57, 55, 57, 56, 57, 57]⟩
theorem digs_at (n : Nat) (h : n < 10) : digsA.extract n (n + 1) = nmB (decT n) := by
 have := of_decide_eq_true (p := ∀ i : Fin 10, (digsA.extract i.val (i.val + 1)).data.toList = decT i.val) (by kernel_rfl) ⟨n, h⟩
 exact eq_nmB this
theorem pairs_at (n : Nat) (h : 10 ≤ n) (h2 : n < 100) : pairs.extract (n * 2) (n * 2 + 2) = nmB (decT n) := by
 have := of_decide_eq_true (p := ∀ i : Fin 90, (pairs.extract ((i.val + 10) * 2) ((i.val + 10) * 2 + 2)).data.toList = decT (i.val + 10)) (by kernel_rfl) ⟨n - 10, by omega⟩
 simp only [Nat.sub_add_cancel h] at this
 exact eq_nmB this
set_option maxRecDepth 100000 in
set_option maxHeartbeats 1000000 in
theorem small100 (n : Nat) (hn : n < 100) (w : World) : Calls Tryz.prog 142 #[.int .i64 (n : Int)] w fun e w' => e = .returned (.string (nmB (decT n))) ∧ Keeps [] w w' := by
 have hn0 : (0 : Int) ≤ (n : Int) := by omega
 by_cases h : n < 10
 ·have hlt : (n : Int) < 10 := by omega
  obtain ⟨m, HM⟩ : ∃ m : Nat, Hid (m = n + 1) := ⟨_, rfl⟩
  have hw : IntKind.i64.wrap ((n : Int) + 1) = (m : Int) := by have := HM.out; rw [wrap_small (by omega) (by omega)]; omega
  have h1 : (n : Int) ≤ (m : Int) := by have := HM.out; omega
  have h2 : (m : Int) ≤ 36 := by have := HM.out; omega
  have h3 : (0 : Int) ≤ (m : Int) := by omega
  go_enter Tryz.func142, Tryz.ntmps142
  go_wp2_with fail
  go_ret
  exact ⟨by rw [HM.out]; exact congrArg (fun z => Ending.returned (Value.string z)) (digs_at n h), Keeps.refl [] w⟩
 ·have hlt : ¬ (n : Int) < 10 := by omega
  obtain ⟨m, HM⟩ : ∃ m : Nat, Hid (m = n * 2) := ⟨_, rfl⟩
  obtain ⟨m2, HM2⟩ : ∃ m2 : Nat, Hid (m2 = m + 2) := ⟨_, rfl⟩
  have hw : IntKind.i64.wrap ((n : Int) * 2) = (m : Int) := by have := HM.out; rw [wrap_small (by omega) (by omega)]; omega
  have hw2 : IntKind.i64.wrap ((m : Int) + 2) = (m2 : Int) := by have := HM.out; have := HM2.out; rw [wrap_small (by omega) (by omega)]; omega
  have h1 : (m : Int) ≤ (m2 : Int) := by have := HM2.out; omega
  have h2 : (m2 : Int) ≤ 200 := by have := HM2.out; have := HM.out; omega
  have h3 : (0 : Int) ≤ (m : Int) := by omega
  have h4 : (0 : Int) ≤ (m2 : Int) := by omega
  go_enter Tryz.func142, Tryz.ntmps142
  go_wp2_with fail
  go_ret
  exact ⟨by rw [HM2.out, HM.out]; exact congrArg (fun z => Ending.returned (Value.string z)) (pairs_at n (by omega) hn), Keeps.refl [] w⟩
set_option maxRecDepth 100000 in
set_option maxHeartbeats 1000000 in
theorem fmt100 (n : Nat) (hn : n < 100) (w : World) : Calls Tryz.prog 120 #[.int .i64 (n : Int), .int .i64 10] w fun e w' => e = .returned (.string (nmB (decT n))) ∧ Keeps [] w w' := by
 have h0 : (0 : Int) ≤ (n : Int) := by omega
 have h1 : (n : Int) < 100 := by omega
 go_enter Tryz.func120, Tryz.ntmps120
 go_wp2_with (first | (go_at_call 142; refine (small100 n hn _).mono ?_; rintro e w1 ⟨rfl, hk1⟩))
 go_ret
 exact ⟨rfl, hk1⟩
set_option maxRecDepth 100000 in
set_option maxHeartbeats 1000000 in
theorem iitoa100 (n : Nat) (hn : n < 100) (w : World) : Calls Tryz.prog 89 #[.int .i64 (n : Int)] w fun e w' => e = .returned (.string (nmB (decT n))) ∧ Keeps [] w w' := by
 go_enter Tryz.func89, Tryz.ntmps89
 go_wp2_with (first | (go_at_call 120; refine (fmt100 n hn _).mono ?_; rintro e w1 ⟨rfl, hk1⟩))
 go_ret
 exact ⟨rfl, hk1⟩
set_option maxRecDepth 100000 in
set_option maxHeartbeats 1000000 in
theorem itoa100 (n : Nat) (hn : n < 100) (w : World) : Calls Tryz.prog 51 #[.int .i64 (n : Int)] w fun e w' => e = .returned (.string (nmB (decT n))) ∧ Keeps [] w w' := by
 go_enter Tryz.func51, Tryz.ntmps51
 go_wp2_with (first | (go_at_call 89; refine (iitoa100 n hn _).mono ?_; rintro e w1 ⟨rfl, hk1⟩))
 go_ret
 exact ⟨rfl, hk1⟩
end Go.Proofs.YtnfojonmohijpabGreatDoor
namespace Go.Proofs.YtnfojonmohijpabGreatDoor
open Go.RowKit
def tooLong : Ending := .panicked [{ v := .iface 104 (.agg #[]), recovered := false }]
structure WPut (B b : Nat) (l m : List UInt8) (w : World) (e : Ending) (w' : World) : Prop where
 fits : l.length + m.length ≤ 20000 → e = .returned (.tuple #[]) ∧ BW w' B b (l ++ m)
 long : 20000 < l.length + m.length → e = tooLong
 frame : WF B b w w'
theorem BW.lt {w : World} {B b : Nat} {l : List UInt8} (h : BW w B b l) : b < w.heap.size := by
 obtain ⟨_, p, v, _, hb, _⟩ := h
 exact (Array.getElem?_eq_some_iff.1 hb).1
set_option maxRecDepth 100000 in
set_option maxHeartbeats 1000000 in
theorem put_any (B b : Nat) (l m : List UInt8) (w : World) (h : BW w B b l) (hl : l.length ≤ 20000) (hm : m.length ≤ 1000000) (hBw : B ≤ w.heap.size) :
    Calls Tryz.prog 107 #[.pointer (some ⟨b, 0, none⟩), .string (nmB m)] w (WPut B b l m w) := by
 have hms : (nmB m).size = m.length := nmB_size m
 have hl' : (l.length : Int) ≤ 20000 := by omega
 have hm' : ((nmB m).size : Int) ≤ 1000000 := by omega
 by_cases hf : l.length + m.length ≤ 20000
 ·have hg : ¬ (20000 : Int) < (l.length : Int) + ((nmB m).size : Int) := by omega
  have HF : Hid (l.length + m.length ≤ 20000) := hf
  clear hms hf
  go_enter Tryz.func107, Tryz.ntmps107
  go_wp2_with (first | (go_at_call 129; refine (wlen_any B b l _ h).mono ?_; rintro e w1 ⟨rfl, hw1⟩; rw [hw1]; clear hw1 w1) | (go_at_call 50; refine (wwriteString_any B b l m w h (by omega) (by omega) hBw).mono ?_; rintro e w2 ⟨⟨v, rfl⟩, hb2, hbel, hoth⟩))
  go_end0
  exact ⟨fun _ => ⟨rfl, hb2⟩, fun h => by have := HF.out; omega, ⟨hbel, hoth⟩⟩
 ·have hg : (20000 : Int) < (l.length : Int) + ((nmB m).size : Int) := by omega
  have HF : Hid (20000 < l.length + m.length) := by show 20000 < l.length + m.length; omega
  clear hms hf
  go_enter Tryz.func107, Tryz.ntmps107
  go_wp2_with (first | (go_at_call 129; refine (wlen_any B b l _ h).mono ?_; rintro e w1 ⟨rfl, hw1⟩; rw [hw1]; clear hw1 w1))
  refine ⟨rfl, ⟨fun h => ?_, fun _ => rfl, WF.refl B b w⟩⟩
  have := HF.out
  omega
theorem TV.wf {w w' : World} {S : Nat → Prop} {b0 : Bool} {t : Tr} {cs : List Value} {B b : Nat} (h : TV w S b0 t cs) (hS : ∀ g, S g → g < B) (hf : WF B b w w') : TV w' S b0 t cs := h.keep (Keeps.ofBelow hf.below) fun g hg => upB_not (hS g hg)
theorem ownsRow_wf {w w' : World} {B b n : Nat} {e : TypeId} {size : Nat} {v : Value} {cs : List Value} (h : w.ownsRow 0 e size v n cs) (hS : ∀ g, v.ownBlock = some g → g < B) (hf : WF B b w w') : w'.ownsRow 0 e size v n cs := h.keep (Keeps.ofBelow hf.below) fun g hg => upB_not (hS g hg)
def TreeW (n : Nat) : Prop := ∀ (t : Tr), t.sz ≤ n → t.thin → ∀ (w : World) (S : Nat → Prop) (B b : Nat) (l : List UInt8) (cs : List Value), TV w S true t cs → (∀ g, S g → g < B) → BW w B b l → B ≤ w.heap.size → l.length ≤ 20000 →
 Calls Tryz.prog 70 #[.pointer (some ⟨b, 0, none⟩), .agg cs.toArray] w (WPut B b l t.text w)
def BracketW (n : Nat) : Prop := ∀ (t : Tr), t.sz ≤ n → t.thin → ∀ (w : World) (S : Nat → Prop) (B b k : Nat) (l h : List UInt8) (v : Value) (cs : List Value), TV w S false t cs → w.ownsRow 0 75 3 v k cs → (∀ g, v.ownBlock = some g → S g) → (∀ g, S g → g < B) → BW w B b l → B ≤ w.heap.size → l.length ≤ 20000 → h.length ≤ 10 →
 Calls Tryz.prog 109 #[.pointer (some ⟨b, 0, none⟩), .string (nmB h), v] w (WPut B b l (h ++ t.text ++ [41]) w)
end Go.Proofs.YtnfojonmohijpabGreatDoor
namespace Go.Proofs.YtnfojonmohijpabGreatDoor
open Go.RowKit
set_option maxRecDepth 100000 in
set_option maxHeartbeats 2000000 in
theorem bracket_any (n : Nat) (IT : TreeW n) : BracketW (n + 1) := by
 intro t ht hthin w S B b k l h v cs htv hown hSv hS hbw hBw hl hh
 obtain ⟨hcl, htx, hat⟩ := htv.tl_at
 obtain ⟨va, vn, vc, rfl⟩ := ownsRow_sl hown
 obtain rfl := ownsRow_lenT hown
 have HK : Hid (vn = (tl t).length) := by
  have := hown.1
  show vn = (tl t).length
  omega
 have HT : Hid (h ++ t.text ++ [41] = h ++ txts (tl t) ++ [41]) := by show _ = _; rw [htx]
 have hbl := hbw.lt
 have hvm : (vn : Int) ≤ 9223372036854775807 := by
  rcases hown.2 with ⟨_, e⟩ | ⟨g, cap, cur, _, _, _, h1, h2, _⟩
  ·omega
  ·unfold maxLen at h2; omega
 clear htx hcl
 go_enter Tryz.func109, Tryz.ntmps109
 go_wp2_with fail
 refine (put_any B b l h w hbw hl (by omega) hBw).mono ?_
 rintro e w1 P1
 by_cases hf1 : l.length + h.length ≤ 20000
 ·obtain ⟨rfl, hb1⟩ := P1.fits hf1
  have hF1 := P1.frame
  clear P1
  go_wp2_with fail
  go_loopw [7, 13] (fun _ q wr => ∃ i : Nat, i ≤ vn ∧ q = .int .i64 i ∧ BW wr B b (l ++ h ++ txts ((tl t).take i)) ∧ Hid ((l ++ h ++ txts ((tl t).take i)).length ≤ 20000) ∧ WF B b w wr) (fun _ q _ => vn - (intOf q).toNat)
  case atStart => exact ⟨0, Nat.zero_le _, rfl, by simpa [txts] using hb1, (by show (l ++ h ++ txts ((tl t).take 0)).length ≤ 20000; simp [txts]; omega), hF1⟩
  case round =>
   clear hb1 hF1
   obtain ⟨i, hi, rfl, hb, HLN, hF⟩ := hrel
   have hsz := hF.below.size
   by_cases hlt : i < vn
   ·obtain ⟨x, hx⟩ : ∃ x, (tl t)[i]? = some x := ⟨_, List.getElem?_eq_getElem (by have := HK.out; omega)⟩
    obtain ⟨ds, hds, hdc, hxsz, hxth⟩ := hat i x hx
    obtain ⟨k1, n1, da, dn, dc, rfl⟩ := hds.form
    obtain ⟨gv, vc', hv, _, hgv⟩ := hown.form (by omega)
    cases hv
    have hgB : gv < B := hS gv (hSv gv rfl)
    have hownr := ownsRow_wf hown (by intro g hg; exact hS g (hSv g hg)) hF
    have hrg : wr.rangeAt gv (i * 3) [.int .u8 k1, .int .i64 n1, .slice da dn dc] := fun j u hu => by
     have hj : j < 3 := (List.getElem?_eq_some_iff.1 hu).1
     exact (World.ownsRow.cellAt hownr (i * 3 + j) (by omega)).trans (hdc j u hu)
    have hi3 : (Tryz.prog.info? 75).map (·.size) = some 3 := by kernel_rfl
    have hi0 : (0 : Int) ≤ (i : Int) := by omega
    have hi1 : (i : Int) < (vn : Int) := by omega
    have HI : Hid (i < vn) := hlt
    have HTN : Hid (txts ((tl t).take (i + 1)) = txts ((tl t).take i) ++ ([32] ++ x.text)) := txts_take _ i x hx
    have hfin := txts_len (tl t) (i + 1)
    have HLT : Hid ((txts ((tl t).take i)).length + 1 + x.text.length ≤ (txts (tl t)).length) := by
     have h1 := HTN.out
     rw [h1] at hfin
     simp only [List.length_append, List.length_singleton] at hfin
     show _ ≤ _
     omega
    have hq0 : (wr.alloc (.cells #[.int .u8 0, .int .i64 0, .slice none 0 0] 75)).heap[wr.heap.size]? = some (.cells #[.int .u8 0, .int .i64 0, .slice none 0 0] 75 (0, 0)) := heap_alloc_new wr _
    have hk1 : Keeps [] wr ((wr.alloc (.cells #[.int .u8 0, .int .i64 0, .slice none 0 0] 75)).setRow wr.heap.size #[.int .u8 k1, .int .i64 n1, .slice da dn dc]) := ((Keeps.refl [] wr).alloc _).setRow (Or.inr (Nat.le_refl _)) _
    have hq1 : ((wr.alloc (.cells #[.int .u8 0, .int .i64 0, .slice none 0 0] 75)).setRow wr.heap.size #[.int .u8 k1, .int .i64 n1, .slice da dn dc]).heap[wr.heap.size]? = some (.cells #[.int .u8 k1, .int .i64 n1, .slice da dn dc] 75 (0, 0)) := setRow_heap _ _ _ _ _ _ hq0
    have hbk := hb.keep hk1
    have hblr := hb.lt
    have hFk : WF B b wr ((wr.alloc (.cells #[.int .u8 0, .int .i64 0, .slice none 0 0] 75)).setRow wr.heap.size #[.int .u8 k1, .int .i64 n1, .slice da dn dc]) := WF.ofKeeps hk1 (by omega)
    clear hi hlt hx hfin
    go_upto_region 4 with (first | (refine wpList_load_mid rfl 75 _ rfl gv (i * 3) rfl _ _ hrg Tryz.underlying75 rfl hi3 ?_) | (refine wpList_store_row rfl 75 _ _ rfl wr.heap.size #[.int .u8 k1, .int .i64 n1, .slice da dn dc] rfl rfl _ _ hq0 (info3 _ _ _) rfl (all3 rfl rfl rfl) ?_; generalize (wr.alloc (.cells #[.int .u8 0, .int .i64 0, .slice none 0 0] 75)).setRow wr.heap.size #[.int .u8 k1, .int .i64 n1, .slice da dn dc] = w2 at *))
    obtain ⟨gq, hgq⟩ : ∃ g, g = wr.heap.size := ⟨_, rfl⟩
    rw [← hgq] at hq1 ⊢
    have hgqb : gq ≠ b := by omega
    clear hgq hq0 hrg hownr
    have hF2 := hF.trans hFk
    have hs2 := hFk.below.size
    go_wp2_with fail
    refine (put_any B b (l ++ h ++ txts ((tl t).take i)) [32] w2 hbk HLN.out (by simp) (by omega)).mono ?_
    rintro e w3 P3
    by_cases hf3 : (l ++ h ++ txts ((tl t).take i)).length + ([32] : List UInt8).length ≤ 20000
    ·obtain ⟨rfl, hb3⟩ := P3.fits hf3
     have hF3 := hF2.trans P3.frame
     have hq3 := row_wf hq1 (by decide) hgqb P3.frame
     have hs3 := P3.frame.below.size
     clear P3 hbk hb hq1
     go_wp2_with (first | (refine wpList_load_row rfl 75 _ rfl gq rfl _ _ _ _ hq3 Tryz.underlying75 rfl (info3 _ _ _) ?_))
     refine (IT x (by omega) (hxth hthin) w3 S B b _ _ (hds.wf hS hF3) hS hb3 (by omega) (by rw [List.length_append]; exact hf3)).mono ?_
     rintro e w4 P4
     have hl3 : (l ++ h ++ txts ((tl t).take i) ++ [32]).length = (l ++ h ++ txts ((tl t).take i)).length + 1 := by simp; omega
     by_cases hf4 : (l ++ h ++ txts ((tl t).take i) ++ [32]).length + x.text.length ≤ 20000
     ·obtain ⟨rfl, hb4⟩ := P4.fits hf4
      have hF4 := hF3.trans P4.frame
      have hb5 : BW w4 B b (l ++ h ++ txts ((tl t).take (i + 1))) := by rw [HTN.out]; simpa using hb4
      have HL5 : Hid ((l ++ h ++ txts ((tl t).take (i + 1))).length ≤ 20000) := by
       show (l ++ h ++ txts ((tl t).take (i + 1))).length ≤ 20000
       rw [HTN.out]
       simp only [List.length_append, List.length_singleton] at hf4 ⊢
       omega
      clear P4 hb3 hb4 hq3 hf4 hl3 hf3
      go_wp2_with fail
      go_roundw
      case rel => exact ⟨i + 1, HI.out, by go_num, hb5, HL5, hF4⟩
      case measure => have := HI.out; simp [intOf]; omega
     ·obtain rfl := P4.long (by omega)
      simp only [tooLong]
      have h1 := HLT.out
      have hlong : 20000 < l.length + (h ++ t.text ++ [41]).length := by
       rw [HT.out]
       simp only [List.length_append, List.length_singleton] at hf4 ⊢
       omega
      exact ⟨rfl, ⟨fun hc => by first | omega | (simp only [List.length_append, List.length_singleton] at hc hlong; omega), fun _ => rfl, hF3.trans P4.frame⟩⟩
    ·obtain rfl := P3.long (by omega)
     simp only [tooLong]
     have h1 := HLT.out
     have hlong : 20000 < l.length + (h ++ t.text ++ [41]).length := by
      rw [HT.out]
      simp only [List.length_append, List.length_singleton] at hf3 ⊢
      omega
     exact ⟨rfl, ⟨fun hc => by first | omega | (simp only [List.length_append, List.length_singleton] at hc hlong; omega), fun _ => rfl, hF2.trans P3.frame⟩⟩
   ·have hie : i = vn := by omega
    have hni : ¬ (i : Int) < (vn : Int) := by omega
    have hall : (tl t).take i = tl t := by rw [hie, HK.out]; exact List.take_length
    have hb' : BW wr B b (l ++ h ++ txts (tl t)) := by rw [hall] at hb; exact hb
    have HL' : Hid ((l ++ h ++ txts (tl t)).length ≤ 20000) := by have := HLN.out; rw [hall] at this; exact this
    clear hie hlt hi hall hb HLN
    go_wp2_with fail
    refine (put_any B b (l ++ h ++ txts (tl t)) [41] wr hb' HL'.out (by simp) (by omega)).mono ?_
    rintro e w3 P3
    have HE : Hid (l ++ (h ++ t.text ++ [41]) = l ++ h ++ txts (tl t) ++ [41]) := by
     have := HT.out
     show l ++ (h ++ t.text ++ [41]) = l ++ h ++ txts (tl t) ++ [41]
     rw [this]
     simp
    have hle : l.length + (h ++ t.text ++ [41]).length = (l ++ h ++ txts (tl t)).length + ([41] : List UInt8).length := by
     have := congrArg List.length HE.out
     simp only [List.length_append] at this ⊢
     omega
    by_cases hf3 : (l ++ h ++ txts (tl t)).length + ([41] : List UInt8).length ≤ 20000
    ·obtain ⟨rfl, hb3⟩ := P3.fits hf3
     have hF3 := hF.trans P3.frame
     have hb9 : BW w3 B b (l ++ (h ++ t.text ++ [41])) := by rw [HE.out]; exact hb3
     have HLE : Hid (l.length + (h ++ t.text ++ [41]).length ≤ 20000) := by show _ ≤ _; omega
     clear P3 hb' hb3 hle hf3
     go_wp2_with fail
     go_end0
     exact ⟨fun _ => ⟨rfl, hb9⟩, fun h => by have := HLE.out; omega, hF3⟩
    ·obtain rfl := P3.long (by omega)
     simp only [tooLong]
     have hlong : 20000 < l.length + (h ++ t.text ++ [41]).length := by rw [hle]; omega
     exact ⟨rfl, ⟨fun hc => by first | omega | (simp only [List.length_append, List.length_singleton] at hc hlong; omega), fun _ => rfl, hF.trans P3.frame⟩⟩
 ·obtain rfl := P1.long (by omega)
  simp only [tooLong]
  have hlong : 20000 < l.length + (h ++ t.text ++ [41]).length := by
   simp only [List.length_append]
   omega
  exact ⟨rfl, ⟨fun hc => by first | omega | (simp only [List.length_append, List.length_singleton] at hc hlong; omega), fun _ => rfl, P1.frame⟩⟩
end Go.Proofs.YtnfojonmohijpabGreatDoor
namespace Go.Proofs.YtnfojonmohijpabGreatDoor
open Go.RowKit
set_option maxRecDepth 100000 in
theorem and15 (c : Nat) (hc : c < 256) : bits BinOp.and IntKind.u8 (c : Int) 15 = (c : Int) % 16 := by
 have key : ∀ m : Fin 256, bits BinOp.and IntKind.u8 ((m.val : Nat) : Int) 15 = ((m.val : Nat) : Int) % 16 := by decide
 exact key ⟨c, hc⟩
theorem conv_two (w : World) (x y : UInt8) : (convert 44 9 (.slice (some ⟨w.heap.size, 0, none⟩) 2 2)).run Tryz.prog (w.alloc (.cells #[.int .u8 (x.toNat : Int), .int .u8 (y.toNat : Int)] 5)).drew = .ok (.string (nmB [x, y])) (w.alloc (.cells #[.int .u8 (x.toNat : Int), .int .u8 (y.toNat : Int)] 5)).drew :=
 conv_name _ 0 _ [x, y] ⟨by simp, Or.inr ⟨_, 2, #[.int .u8 (x.toNat : Int), .int .u8 (y.toNat : Int)], rfl, Nat.zero_le _, heap_alloc_new w _, Nat.le_refl _, by decide, rfl, rfl⟩⟩
theorem hexs_at (k : Nat) (h : k < 16) (h' : k < (ByteArray.mk #[48, 49, 50, 51, 52, 53, 54, 55, 56, 57, 97, 98, 99, 100, 101, 102]).size) : (ByteArray.mk #[48, 49, 50, 51, 52, 53, 54, 55, 56, 57, 97, 98, 99, 100, 101, 102])[k] = hexs.getD k 0 := by
 have key : ∀ m : Fin 16, ∀ hm, (ByteArray.mk #[48, 49, 50, 51, 52, 53, 54, 55, 56, 57, 97, 98, 99, 100, 101, 102])[m.val]'hm = hexs.getD m.val 0 := by decide
 exact key ⟨k, h⟩ h'
set_option maxRecDepth 100000 in
set_option maxHeartbeats 1000000 in
theorem hexPair_text (c : Nat) (hc : c < 256) (w : World) :
    Calls Tryz.prog 108 #[.int .u8 (c : Int)] w fun e w' => e = .returned (.string (nmB [hexs.getD (c / 16) 0, hexs.getD (c % 16) 0])) ∧ Keeps [] w w' := by
 have d1 : (0 : Int) ≤ (c : Int) / 16 := by omega
 have d2 : (c : Int) / 16 < 16 := by omega
 have d3 : (0 : Int) ≤ (c : Int) % 16 := by omega
 have d4 : (c : Int) % 16 < 16 := by omega
 have d5 := and15 c hc
 have cv := fun x y => conv_two w x y
 go_enter Tryz.func108, Tryz.ntmps108
 go_wp2_with fail
 go_region
 all_goals
  go_wp2_with fail
  go_ret
  refine ⟨?_, ((Keeps.refl [] w).alloc _).drewN 1⟩
  show Ending.returned (.string (nmB [_, _])) = _
  rw [hexs_at (c / 16) (by omega), hexs_at (c % 16) (by omega)]
end Go.Proofs.YtnfojonmohijpabGreatDoor
namespace Go.Proofs.YtnfojonmohijpabGreatDoor
open Go.RowKit
theorem treeCells {w : World} {g : Nat} {a b c : Value} (h : w.heap[g]? = some (.cells #[a, b, c] 75 (0, 0))) : w.cell? ⟨g, 0, none⟩ = some a ∧ w.cell? ⟨g, 1, none⟩ = some b ∧ w.cell? ⟨g, 2, none⟩ = some c := by
 refine ⟨?_, ?_, ?_⟩ <;> (rw [Lib.cell_of_heap h]; rfl)
theorem u8_wrap {b : Nat} (h : b < 256) : IntKind.u8.wrap (b : Int) = (b : Int) := by
 have : IntKind.u8.wrap (b : Int) = (b : Int) % 256 := by simp [IntKind.wrap, IntKind.bits, IntKind.signed]
 rw [this]
 omega
theorem cat98 (l : List UInt8) : (⟨#[98]⟩ : ByteArray) ++ nmB l = nmB ([98] ++ l) := nmB_append [98] l
theorem cat40g (l : List UInt8) : (⟨#[40, 103]⟩ : ByteArray) ++ nmB l = nmB ([40, 103] ++ l) := nmB_append [40, 103] l
theorem cat40a (l : List UInt8) : (⟨#[40, 97]⟩ : ByteArray) ++ nmB l = nmB ([40, 97] ++ l) := nmB_append [40, 97] l
theorem WPut.after {B b : Nat} {l m : List UInt8} {w X : World} {e : Ending} {w' : World} (hF : WF B b w X) (h : WPut B b l m X e w') : WPut B b l m w e w' := ⟨h.fits, h.long, hF.trans h.frame⟩
theorem WPut.eq {B b : Nat} {l m m' : List UInt8} {w : World} {e : Ending} {w' : World} (h : WPut B b l m w e w') (hm : m = m') : WPut B b l m' w e w' := hm ▸ h
theorem WPut.ends {B b : Nat} {l m : List UInt8} {w : World} {e : Ending} {w' : World} (h : WPut B b l m w e w') : e = .returned (.tuple #[]) ∨ e = tooLong := by
 by_cases hl : l.length + m.length ≤ 20000
 ·exact Or.inl (h.fits hl).1
 ·exact Or.inr (h.long (by omega))
set_option maxRecDepth 100000 in
set_option maxHeartbeats 2000000 in
theorem wtree_any (n : Nat) (IB : BracketW n) : TreeW (n + 1) := by
 intro t ht hthin w S B b l cs htv hS hbw hBw hl
 have hbl := hbw.lt
 cases htv with
 | tnil =>
  have hz : (w.alloc (.cells #[.int .u8 101, .int .i64 0, .slice none 0 0] 75)).heap[w.heap.size]? = some (.cells #[.int .u8 101, .int .i64 0, .slice none 0 0] 75 (0, 0)) := heap_alloc_new w _
  have hk : Keeps [] w (w.alloc (.cells #[.int .u8 101, .int .i64 0, .slice none 0 0] 75)) := (Keeps.refl [] w).alloc _
  have hbk := hbw.keep hk
  have hF : WF B b w (w.alloc (.cells #[.int .u8 101, .int .i64 0, .slice none 0 0] 75)) := WF.ofKeeps hk hBw
  obtain ⟨c0, c1, c2⟩ := treeCells hz
  have hsz : w.heap.size ≤ (w.alloc (.cells #[.int .u8 101, .int .i64 0, .slice none 0 0] 75)).heap.size := hk.size
  go_enter Tryz.func70, Tryz.ntmps70
  go_upto_region 1 with (fail)
  generalize w.alloc (.cells #[.int .u8 101, .int .i64 0, .slice none 0 0] 75) = X at *
  obtain ⟨gx, hgx⟩ : ∃ g, g = w.heap.size := ⟨_, rfl⟩
  rw [← hgx] at hz c0 c1 c2 ⊢
  have hgxb : gx ≠ b := by omega
  clear hgx
  have hs101 : (⟨#[101]⟩ : ByteArray) = nmB [101] := rfl
  go_wp2_with fail
  refine (put_any B b l [101] X hbk hl (by simp) (by omega)).mono ?_
  rintro e w1 P1
  have P2 := WPut.after hF P1
  rcases P1.ends with rfl | rfl
  ·go_wp2_with fail
   go_end0
   exact P2
  ·simp only [tooLong]
   exact ⟨rfl, P2⟩
 | tbyte c hc =>
  have hz : (w.alloc (.cells #[.int .u8 98, .int .i64 (c : Int), .slice none 0 0] 75)).heap[w.heap.size]? = some (.cells #[.int .u8 98, .int .i64 (c : Int), .slice none 0 0] 75 (0, 0)) := heap_alloc_new w _
  have hk : Keeps [] w (w.alloc (.cells #[.int .u8 98, .int .i64 (c : Int), .slice none 0 0] 75)) := (Keeps.refl [] w).alloc _
  have hbk := hbw.keep hk
  have hF : WF B b w (w.alloc (.cells #[.int .u8 98, .int .i64 (c : Int), .slice none 0 0] 75)) := WF.ofKeeps hk hBw
  obtain ⟨c0, c1, c2⟩ := treeCells hz
  have hsz : w.heap.size ≤ (w.alloc (.cells #[.int .u8 98, .int .i64 (c : Int), .slice none 0 0] 75)).heap.size := hk.size
  have hw8 := u8_wrap hc
  go_enter Tryz.func70, Tryz.ntmps70
  go_upto_region 1 with (fail)
  generalize w.alloc (.cells #[.int .u8 98, .int .i64 (c : Int), .slice none 0 0] 75) = X at *
  obtain ⟨gx, hgx⟩ : ∃ g, g = w.heap.size := ⟨_, rfl⟩
  rw [← hgx] at hz c0 c1 c2 ⊢
  have hgxb : gx ≠ b := by omega
  clear hgx
  have hcat := cat98 (hexT c)
  go_wp2_with (first | (go_at_call 108; refine (hexPair_text c hc _).mono ?_; rintro e w0 ⟨rfl, hk0⟩))
  have hb0 := hbk.keep hk0
  have hF0 : WF B b w w0 := hF.trans (WF.ofKeeps hk0 (by omega))
  have hs0 := hk0.size
  change Calls Tryz.prog 107 #[_, .string ((⟨#[98]⟩ : ByteArray) ++ nmB (hexT c))] _ _
  rw [hcat]
  refine (put_any B b l ([98] ++ hexT c) w0 hb0 hl (by simp [hexT]) (by omega)).mono ?_
  rintro e w1 P1
  have P2 := WPut.after hF0 P1
  rcases P1.ends with rfl | rfl
  ·go_wp2_with fail
   go_end0
   exact P2
  ·simp only [tooLong]
   exact ⟨rfl, P2⟩
 | tgrp k x v cs h9 hx hox hpx =>
  obtain ⟨va, vn, vc, rfl⟩ := ownsRow_sl hox
  have hz : (w.alloc (.cells #[.int .u8 103, .int .i64 (k : Int), .slice va vn vc] 75)).heap[w.heap.size]? = some (.cells #[.int .u8 103, .int .i64 (k : Int), .slice va vn vc] 75 (0, 0)) := heap_alloc_new w _
  have hk : Keeps [] w (w.alloc (.cells #[.int .u8 103, .int .i64 (k : Int), .slice va vn vc] 75)) := (Keeps.refl [] w).alloc _
  have hbk := hbw.keep hk
  have hF : WF B b w (w.alloc (.cells #[.int .u8 103, .int .i64 (k : Int), .slice va vn vc] 75)) := WF.ofKeeps hk hBw
  obtain ⟨c0, c1, c2⟩ := treeCells hz
  have hsz : w.heap.size ≤ (w.alloc (.cells #[.int .u8 103, .int .i64 (k : Int), .slice va vn vc] 75)).heap.size := hk.size
  have h100 : k < 100 := by omega
  have hdl : (decT k).length ≤ 2 := by unfold decT digT; split <;> simp
  go_enter Tryz.func70, Tryz.ntmps70
  go_upto_region 1 with (fail)
  generalize w.alloc (.cells #[.int .u8 103, .int .i64 (k : Int), .slice va vn vc] 75) = X at *
  obtain ⟨gx, hgx⟩ : ∃ g, g = w.heap.size := ⟨_, rfl⟩
  rw [← hgx] at hz c0 c1 c2 ⊢
  have hgxb : gx ≠ b := by omega
  clear hgx
  go_upto_region 7 with (fail)
  have hS0 : X.drew.heap[gx]? = some (.cells #[.int .u8 103, .int .i64 (k : Int), .slice va vn vc] 75 (0, 0)) := hz
  have hkD : Keeps [] X X.drew := (Keeps.refl [] X).drewN 1
  refine wp_region_held (S := fun A => A.heap[gx]? = some (.cells #[.int .u8 103, .int .i64 (k : Int), .slice va vn vc] 75 (0, 0))) (by kernel_rfl) ?_
  change wpAnyH _ _ _ _ _ _ _ _ (World.drew _)
  generalize X.drew = X0 at *
  refine wpAnyH_tk 0 _ (some 21) (.pointer (some ⟨b, 0, none⟩)) rfl rfl (by kernel_rfl) (by kernel_rfl) (by kernel_rfl) (fun _ _ _ h => h) (Or.inl ⟨by rfl, fun X hX => by go_simp⟩) hS0 ?_
  simp only [Act.put, List.setIfInBounds_toArray, List.set_cons_zero, List.set_cons_succ]
  refine wpAnyH_tk 1 _ (some 22) (.pointer (some ⟨gx, 1, none⟩)) rfl rfl (by kernel_rfl) (by kernel_rfl) (by kernel_rfl) (fun _ _ _ h => h) (Or.inl ⟨by rfl, fun X hX => by go_simp⟩) hS0 ?_
  simp only [Act.put, List.setIfInBounds_toArray, List.set_cons_zero, List.set_cons_succ]
  refine wpAnyH_tk 2 _ (some 23) (.int .i64 k) rfl rfl (by kernel_rfl) (by kernel_rfl) (by kernel_rfl) (fun _ _ _ h => h) (Or.inl ⟨by rfl, fun X hX => by (obtain ⟨q0, q1, q2⟩ := treeCells hX; go_simp)⟩) hS0 ?_
  simp only [Act.put, List.setIfInBounds_toArray, List.set_cons_zero, List.set_cons_succ]
  refine wpAnyH_tk 5 _ (some 26) (.pointer (some ⟨gx, 2, none⟩)) rfl rfl (by kernel_rfl) (by kernel_rfl) (by kernel_rfl) (fun _ _ _ h => h) (Or.inl ⟨by rfl, fun X hX => by go_simp⟩) hS0 ?_
  simp only [Act.put, List.setIfInBounds_toArray, List.set_cons_zero, List.set_cons_succ]
  refine wpAnyH_tk 6 _ (some 27) (.slice va vn vc) rfl rfl (by kernel_rfl) (by kernel_rfl) (by kernel_rfl) (fun _ _ _ h => h) (Or.inl ⟨by rfl, fun X hX => by (obtain ⟨q0, q1, q2⟩ := treeCells hX; go_simp)⟩) hS0 ?_
  simp only [Act.put, List.setIfInBounds_toArray, List.set_cons_zero, List.set_cons_succ]
  refine wpAnyH_ready (rs := [3]) (by kernel_rfl) (by simp) ?_
  refine AllReadyH.cons rfl (fun K hK => ?_) AllReadyH.nil
  go_simp
  refine (itoa100 k h100 X0).mono ?_
  rintro e w0 ⟨rfl, hk0⟩
  have hS1 := (hk0.block gx (Array.getElem?_eq_some_iff.1 hS0).1 (by simp)).trans hS0
  have hkA := hkD.trans hk0
  have hb0 := hbk.keep hkA
  have hF0 : WF B b w w0 := hF.trans (WF.ofKeeps hkA (by omega))
  have hs0 := hkA.size
  refine hK.out _ _ hS1 (fun _ => ?_)
  clear hK K
  refine wpAnyH_tk 4 _ (some 25) (.string (nmB ([40, 103] ++ decT k))) rfl rfl (by kernel_rfl) (by kernel_rfl) (by kernel_rfl) (fun _ _ _ h => h) (Or.inl ⟨by rfl, fun X hX => by (have hct := cat40g (decT k); go_simp; rw [nmB_size]; omega)⟩) hS1 ?_
  simp only [Act.put, List.setIfInBounds_toArray, List.set_cons_zero, List.set_cons_succ]
  refine wpAnyH_ready (rs := [7]) (by kernel_rfl) (by simp) ?_
  refine AllReadyH.cons rfl (fun K hK => ?_) AllReadyH.nil
  go_simp
  have HEQ : Hid ((40 :: 103 :: decT k) ++ (Tr.lcons x .lnil).text ++ [41] = (Tr.tgrp k x).text) := by show _ = _; simp [Tr.text]
  refine (IB (.lcons x .lnil) (by simp only [Tr.sz] at ht ⊢; omega) ⟨hthin, trivial⟩ w0 S B b 1 l (40 :: 103 :: decT k) (.slice va vn vc) cs (by have := TV.lcons x .lnil cs [] (hx.wf hS hF0) .lnil; simpa using this) (ownsRow_wf hox (fun g hg => hS g (hpx g hg)) hF0) hpx hS hb0 (by omega) hl (by simp; omega)).mono ?_
  rintro e w1 P1
  have P2 := (WPut.after hF0 P1).eq HEQ.out
  have hS2 : w1.heap[gx]? = some (.cells #[.int .u8 103, .int .i64 (k : Int), .slice va vn vc] 75 (0, 0)) := row_wf hS1 (by decide) hgxb P1.frame
  rcases P1.ends with rfl | rfl
  ·refine hK.out _ _ hS2 (fun _ => ?_)
   refine wpAnyH_done (by kernel_rfl) ?_ _
   go_wp2_with fail
   go_end0
   exact P2
  ·simp only [tooLong]
   exact ⟨rfl, P2⟩
 | talt p x v cs hx hox hpx =>
  obtain ⟨va, vn, vc, rfl⟩ := ownsRow_sl hox
  have hz : (w.alloc (.cells #[.int .u8 97, .int .i64 (p : Int), .slice va vn vc] 75)).heap[w.heap.size]? = some (.cells #[.int .u8 97, .int .i64 (p : Int), .slice va vn vc] 75 (0, 0)) := heap_alloc_new w _
  have hk : Keeps [] w (w.alloc (.cells #[.int .u8 97, .int .i64 (p : Int), .slice va vn vc] 75)) := (Keeps.refl [] w).alloc _
  have hbk := hbw.keep hk
  have hF : WF B b w (w.alloc (.cells #[.int .u8 97, .int .i64 (p : Int), .slice va vn vc] 75)) := WF.ofKeeps hk hBw
  obtain ⟨c0, c1, c2⟩ := treeCells hz
  have hsz : w.heap.size ≤ (w.alloc (.cells #[.int .u8 97, .int .i64 (p : Int), .slice va vn vc] 75)).heap.size := hk.size
  have h100 : p < 100 := hthin.1
  have hdl : (decT p).length ≤ 2 := by unfold decT digT; split <;> simp
  go_enter Tryz.func70, Tryz.ntmps70
  go_upto_region 1 with (fail)
  generalize w.alloc (.cells #[.int .u8 97, .int .i64 (p : Int), .slice va vn vc] 75) = X at *
  obtain ⟨gx, hgx⟩ : ∃ g, g = w.heap.size := ⟨_, rfl⟩
  rw [← hgx] at hz c0 c1 c2 ⊢
  have hgxb : gx ≠ b := by omega
  clear hgx
  go_upto_region 9 with (fail)
  have hS0 : X.drew.heap[gx]? = some (.cells #[.int .u8 97, .int .i64 (p : Int), .slice va vn vc] 75 (0, 0)) := hz
  have hkD : Keeps [] X X.drew := (Keeps.refl [] X).drewN 1
  refine wp_region_held (S := fun A => A.heap[gx]? = some (.cells #[.int .u8 97, .int .i64 (p : Int), .slice va vn vc] 75 (0, 0))) (by kernel_rfl) ?_
  change wpAnyH _ _ _ _ _ _ _ _ (World.drew _)
  generalize X.drew = X0 at *
  refine wpAnyH_tk 0 _ (some 31) (.pointer (some ⟨b, 0, none⟩)) rfl rfl (by kernel_rfl) (by kernel_rfl) (by kernel_rfl) (fun _ _ _ h => h) (Or.inl ⟨by rfl, fun X hX => by go_simp⟩) hS0 ?_
  simp only [Act.put, List.setIfInBounds_toArray, List.set_cons_zero, List.set_cons_succ]
  refine wpAnyH_tk 1 _ (some 32) (.pointer (some ⟨gx, 1, none⟩)) rfl rfl (by kernel_rfl) (by kernel_rfl) (by kernel_rfl) (fun _ _ _ h => h) (Or.inl ⟨by rfl, fun X hX => by go_simp⟩) hS0 ?_
  simp only [Act.put, List.setIfInBounds_toArray, List.set_cons_zero, List.set_cons_succ]
  refine wpAnyH_tk 2 _ (some 33) (.int .i64 p) rfl rfl (by kernel_rfl) (by kernel_rfl) (by kernel_rfl) (fun _ _ _ h => h) (Or.inl ⟨by rfl, fun X hX => by (obtain ⟨q0, q1, q2⟩ := treeCells hX; go_simp)⟩) hS0 ?_
  simp only [Act.put, List.setIfInBounds_toArray, List.set_cons_zero, List.set_cons_succ]
  refine wpAnyH_tk 5 _ (some 36) (.pointer (some ⟨gx, 2, none⟩)) rfl rfl (by kernel_rfl) (by kernel_rfl) (by kernel_rfl) (fun _ _ _ h => h) (Or.inl ⟨by rfl, fun X hX => by go_simp⟩) hS0 ?_
  simp only [Act.put, List.setIfInBounds_toArray, List.set_cons_zero, List.set_cons_succ]
  refine wpAnyH_tk 6 _ (some 37) (.slice va vn vc) rfl rfl (by kernel_rfl) (by kernel_rfl) (by kernel_rfl) (fun _ _ _ h => h) (Or.inl ⟨by rfl, fun X hX => by (obtain ⟨q0, q1, q2⟩ := treeCells hX; go_simp)⟩) hS0 ?_
  simp only [Act.put, List.setIfInBounds_toArray, List.set_cons_zero, List.set_cons_succ]
  refine wpAnyH_ready (rs := [3]) (by kernel_rfl) (by simp) ?_
  refine AllReadyH.cons rfl (fun K hK => ?_) AllReadyH.nil
  go_simp
  refine (itoa100 p h100 X0).mono ?_
  rintro e w0 ⟨rfl, hk0⟩
  have hS1 := (hk0.block gx (Array.getElem?_eq_some_iff.1 hS0).1 (by simp)).trans hS0
  have hkA := hkD.trans hk0
  have hb0 := hbk.keep hkA
  have hF0 : WF B b w w0 := hF.trans (WF.ofKeeps hkA (by omega))
  have hs0 := hkA.size
  refine hK.out _ _ hS1 (fun _ => ?_)
  clear hK K
  refine wpAnyH_tk 4 _ (some 35) (.string (nmB ([40, 97] ++ decT p))) rfl rfl (by kernel_rfl) (by kernel_rfl) (by kernel_rfl) (fun _ _ _ h => h) (Or.inl ⟨by rfl, fun X hX => by (have hct := cat40a (decT p); go_simp; rw [nmB_size]; omega)⟩) hS1 ?_
  simp only [Act.put, List.setIfInBounds_toArray, List.set_cons_zero, List.set_cons_succ]
  refine wpAnyH_ready (rs := [7]) (by kernel_rfl) (by simp) ?_
  refine AllReadyH.cons rfl (fun K hK => ?_) AllReadyH.nil
  go_simp
  have HEQ : Hid ((40 :: 97 :: decT p) ++ (Tr.lcons x .lnil).text ++ [41] = (Tr.talt p x).text) := by show _ = _; simp [Tr.text]
  refine (IB (.lcons x .lnil) (by simp only [Tr.sz] at ht ⊢; omega) ⟨hthin.2, trivial⟩ w0 S B b 1 l (40 :: 97 :: decT p) (.slice va vn vc) cs (by have := TV.lcons x .lnil cs [] (hx.wf hS hF0) .lnil; simpa using this) (ownsRow_wf hox (fun g hg => hS g (hpx g hg)) hF0) hpx hS hb0 (by omega) hl (by simp; omega)).mono ?_
  rintro e w1 P1
  have P2 := (WPut.after hF0 P1).eq HEQ.out
  have hS2 : w1.heap[gx]? = some (.cells #[.int .u8 97, .int .i64 (p : Int), .slice va vn vc] 75 (0, 0)) := row_wf hS1 (by decide) hgxb P1.frame
  rcases P1.ends with rfl | rfl
  ·refine hK.out _ _ hS2 (fun _ => ?_)
   refine wpAnyH_done (by kernel_rfl) ?_ _
   go_wp2_with fail
   go_end0
   exact P2
  ·simp only [tooLong]
   exact ⟨rfl, P2⟩
 | tser L v n cs hx hox hpx =>
  obtain ⟨va, vn, vc, rfl⟩ := ownsRow_sl hox
  have hz : (w.alloc (.cells #[.int .u8 115, .int .i64 0, .slice va vn vc] 75)).heap[w.heap.size]? = some (.cells #[.int .u8 115, .int .i64 0, .slice va vn vc] 75 (0, 0)) := heap_alloc_new w _
  have hk : Keeps [] w (w.alloc (.cells #[.int .u8 115, .int .i64 0, .slice va vn vc] 75)) := (Keeps.refl [] w).alloc _
  have hbk := hbw.keep hk
  have hF : WF B b w (w.alloc (.cells #[.int .u8 115, .int .i64 0, .slice va vn vc] 75)) := WF.ofKeeps hk hBw
  obtain ⟨c0, c1, c2⟩ := treeCells hz
  have hsz : w.heap.size ≤ (w.alloc (.cells #[.int .u8 115, .int .i64 0, .slice va vn vc] 75)).heap.size := hk.size
  go_enter Tryz.func70, Tryz.ntmps70
  go_upto_region 1 with (fail)
  generalize w.alloc (.cells #[.int .u8 115, .int .i64 0, .slice va vn vc] 75) = X at *
  obtain ⟨gx, hgx⟩ : ∃ g, g = w.heap.size := ⟨_, rfl⟩
  rw [← hgx] at hz c0 c1 c2 ⊢
  have hgxb : gx ≠ b := by omega
  clear hgx
  have HEQ : Hid ([40, 115] ++ L.text ++ [41] = (Tr.tser L).text) := by show _ = _; simp [Tr.text]
  go_wp2_with fail
  refine (IB L (by simp only [Tr.sz] at ht; omega) hthin X S B b n l [40, 115] (.slice va vn vc) cs (hx.wf hS hF) (ownsRow_wf hox (fun g hg => hS g (hpx g hg)) hF) hpx hS hbk (by omega) hl (by simp)).mono ?_
  rintro e w1 P1
  have P2 := (WPut.after hF P1).eq HEQ.out
  rcases P1.ends with rfl | rfl
  ·go_wp2_with fail
   go_end0
   exact P2
  ·simp only [tooLong]
   exact ⟨rfl, P2⟩
 | trep L v n cs hx hox hpx =>
  obtain ⟨va, vn, vc, rfl⟩ := ownsRow_sl hox
  have hz : (w.alloc (.cells #[.int .u8 114, .int .i64 0, .slice va vn vc] 75)).heap[w.heap.size]? = some (.cells #[.int .u8 114, .int .i64 0, .slice va vn vc] 75 (0, 0)) := heap_alloc_new w _
  have hk : Keeps [] w (w.alloc (.cells #[.int .u8 114, .int .i64 0, .slice va vn vc] 75)) := (Keeps.refl [] w).alloc _
  have hbk := hbw.keep hk
  have hF : WF B b w (w.alloc (.cells #[.int .u8 114, .int .i64 0, .slice va vn vc] 75)) := WF.ofKeeps hk hBw
  obtain ⟨c0, c1, c2⟩ := treeCells hz
  have hsz : w.heap.size ≤ (w.alloc (.cells #[.int .u8 114, .int .i64 0, .slice va vn vc] 75)).heap.size := hk.size
  go_enter Tryz.func70, Tryz.ntmps70
  go_upto_region 1 with (fail)
  generalize w.alloc (.cells #[.int .u8 114, .int .i64 0, .slice va vn vc] 75) = X at *
  obtain ⟨gx, hgx⟩ : ∃ g, g = w.heap.size := ⟨_, rfl⟩
  rw [← hgx] at hz c0 c1 c2 ⊢
  have hgxb : gx ≠ b := by omega
  clear hgx
  have HEQ : Hid ([40, 114] ++ L.text ++ [41] = (Tr.trep L).text) := by show _ = _; simp [Tr.text]
  go_wp2_with fail
  refine (IB L (by simp only [Tr.sz] at ht; omega) hthin X S B b n l [40, 114] (.slice va vn vc) cs (hx.wf hS hF) (ownsRow_wf hox (fun g hg => hS g (hpx g hg)) hF) hpx hS hbk (by omega) hl (by simp)).mono ?_
  rintro e w1 P1
  have P2 := (WPut.after hF P1).eq HEQ.out
  rcases P1.ends with rfl | rfl
  ·go_wp2_with fail
   go_end0
   exact P2
  ·simp only [tooLong]
   exact ⟨rfl, P2⟩
theorem writersT : ∀ n, TreeW n ∧ BracketW n
 | 0 => ⟨fun t h => by have := t.sz_pos; omega, fun t h => by have := t.sz_pos; omega⟩
 | n + 1 => ⟨wtree_any n (writersT n).2, bracket_any n (writersT n).1⟩
end Go.Proofs.YtnfojonmohijpabGreatDoor
namespace Go.Proofs.YtnfojonmohijpabGreatDoor
open Go.RowKit
set_option maxRecDepth 100000 in
set_option maxHeartbeats 1000000 in
theorem text_any (t : Tr) (hthin : t.thin) (S : Nat → Prop) (cs : List Value) (w : World) (htv : TV w S true t cs) :
    Calls Tryz.prog 37 #[.agg cs.toArray] w fun e w' => ((t.text.length ≤ 20000 ∧ e = .returned (.string (nmB t.text))) ∨ (20000 < t.text.length ∧ e = tooLong)) ∧ Keeps [] w w' := by
 obtain ⟨k1, n1, va, vn, vc, rfl⟩ := htv.form
 have htv1 := htv.mono (S' := fun g => g < w.heap.size) fun g _ h => h
 have hk0 : Keeps [] w ((w.alloc (.cells #[.int .u8 k1, .int .i64 n1, .slice va vn vc] 75)).alloc (.cells #[.pointer none, .slice none 0 0] 154)) := ((Keeps.refl [] w).alloc _).alloc _
 have hz0 : ((w.alloc (.cells #[.int .u8 k1, .int .i64 n1, .slice va vn vc] 75)).alloc (.cells #[.pointer none, .slice none 0 0] 154)).heap[w.heap.size]? = some (.cells #[.int .u8 k1, .int .i64 n1, .slice va vn vc] 75 (0, 0)) := heap_alloc2_old w _ _
 have hb0 : BW ((w.alloc (.cells #[.int .u8 k1, .int .i64 n1, .slice va vn vc] 75)).alloc (.cells #[.pointer none, .slice none 0 0] 154)) w.heap.size (w.heap.size + 1) [] :=
  ⟨by omega, .pointer none, .slice none 0 0, Or.inl rfl, heap_alloc2_new w _ _, ⟨rfl, Or.inl ⟨rfl, rfl⟩⟩, by simp [Value.ownBlock], fun _ => rfl⟩
 have hs0 : ((w.alloc (.cells #[.int .u8 k1, .int .i64 n1, .slice va vn vc] 75)).alloc (.cells #[.pointer none, .slice none 0 0] 154)).heap.size = w.heap.size + 2 := by simp
 go_enter Tryz.func37, Tryz.ntmps37
 go_upto_region 2 with (fail)
 generalize (w.alloc (.cells #[.int .u8 k1, .int .i64 n1, .slice va vn vc] 75)).alloc (.cells #[.pointer none, .slice none 0 0] 154) = X at *
 have htX := htv1.keep hk0 (by simp)
 obtain ⟨B, hB⟩ : ∃ B, B = w.heap.size := ⟨_, rfl⟩
 obtain ⟨b, hb⟩ : ∃ b, b = w.heap.size + 1 := ⟨_, rfl⟩
 rw [← hb] at hb0 ⊢
 rw [← hB] at hb0 hz0 htX ⊢
 have hBX : B ≤ X.heap.size := by omega
 have hBw : B ≤ w.heap.size := by omega
 have hBw2 : w.heap.size ≤ B := by omega
 clear hB hb hs0
 go_wp2_with (first | (refine wpList_load_row rfl 75 _ rfl B rfl _ _ _ _ hz0 Tryz.underlying75 rfl (info3 _ _ _) ?_))
 refine ((writersT t.sz).1 t (Nat.le_refl _) hthin X _ B b [] _ htX (fun g h => h) hb0 hBX (by simp)).mono ?_
 rintro e w1 P1
 have hbel : Keeps [] w w1 := by
  have h1 := hk0
  have h2 := P1.frame.below
  exact ⟨h2.os.trans h1.os, h2.tape.trans h1.tape, h2.output.trans h1.output, Nat.le_trans h1.size h2.size, fun k hk _ => (h2.block k (by omega)).trans (h1.block k hk (by simp))⟩
 by_cases hf : t.text.length ≤ 20000
 ·obtain ⟨rfl, hb1⟩ := P1.fits (by simpa using hf)
  have HF : Hid (t.text.length ≤ 20000) := hf
  clear hf P1
  go_wp2_with fail
  refine (wstring_any B b _ w1 hb1).mono ?_
  rintro e w2 ⟨rfl, hbel2⟩
  have hend : Keeps [] w w2 := ⟨hbel2.os.trans hbel.os, hbel2.tape.trans hbel.tape, hbel2.output.trans hbel.output, Nat.le_trans hbel.size hbel2.size, fun k hk _ => (hbel2.block k (by omega)).trans (hbel.block k hk (by simp))⟩
  go_wp2_with fail
  go_ret
  exact ⟨Or.inl ⟨HF.out, by simp⟩, hend⟩
 ·obtain rfl := P1.long (by simp; omega)
  simp only [tooLong]
  exact ⟨rfl, Or.inr ⟨by omega, rfl⟩, hbel⟩
set_option maxRecDepth 100000 in
set_option maxHeartbeats 400000 in
theorem tcatch_idle (x : Value) (w : World) :
    CallsD Tryz.prog 36 #[x] .returning w fun e u' w' => e = .returned (.tuple #[]) ∧ u' = .returning ∧ w' = w := by
 refine callsD_of_wpS Tryz.func36 rfl fun c₀ cs hu => ?_
 apply wpS_seq
 apply wpS_region
 simp [wpOpsS, go_sem, recoverD, hu, Tryz.ntmps36, Exit.thenS]
 refine wpS_of_wp ?_
 have et : (#[x] ++ (Array.replicate 9 undef).setIfInBounds 3 Value.nilIface) = #[x, undef, undef, undef, .nilIface, undef, undef, undef, undef, undef] := rfl
 rw [et]
 go_wp2_with fail
 cases c₀
 simp_all [bodyPostS, results, Tryz.results36]
theorem assert_long (w : World) : (Instr.typeAssert (.iface 104 (.agg #[])) 20 104 true).run Tryz.prog w = .ok (.tuple #[.agg #[], .bool true]) w := by kernel_rfl
set_option maxRecDepth 100000 in
set_option maxHeartbeats 400000 in
theorem tcatch_long (eb : Addr) (b : Value) (w : World) (h3 : w.cell? eb = some b) (f3 : w.frozen? eb = false) :
    CallsD Tryz.prog 36 #[.pointer (some eb)] (.panicking [{ v := .iface 104 (.agg #[]), recovered := false }]) w fun e u' w' =>
     e = .returned (.tuple #[]) ∧ u' = .panicking [{ v := .iface 104 (.agg #[]), recovered := true }] ∧ w' = (w.alloc (.cells #[] 104)).setCell eb (.int .i64 1) := by
 refine callsD_of_wpS Tryz.func36 rfl fun c₀ cs hu => ?_
 apply wpS_seq
 apply wpS_region
 simp [wpOpsS, go_sem, recoverD, hu, Tryz.ntmps36, Exit.thenS]
 refine wpS_of_wp ?_
 have et : (#[.pointer (some eb)] ++ (Array.replicate 9 undef).setIfInBounds 3 (.iface 104 (.agg #[]))) = #[.pointer (some eb), undef, undef, undef, .iface 104 (.agg #[]), undef, undef, undef, undef, undef] := rfl
 rw [et]
 have hta := fun w => assert_long w
 have hka : Keeps [] w (w.alloc (.cells #[] 104)) := (Keeps.refl [] w).alloc _
 have l3 := World.block_lt_of_cell? w _ h3
 have g3 := keep_cell hka h3
 have k3 : (w.alloc (.cells #[] 104)).frozen? eb = false := (World.frozen?_alloc_old w _ eb (Nat.ne_of_lt l3)).trans f3
 clear et hka l3 h3 f3
 go_wp2_with fail
 cases c₀
 simp_all [bodyPostS, results, Tryz.results36]
theorem results_tell (tmps : Array Value) (w : World) (g : Nat) (v : Value) (y : Int) (h2 : tmps.getD 2 undef = v) (h3 : tmps.getD 3 undef = .pointer (some ⟨g + 1, 0, none⟩)) (hy : w.cell? ⟨g + 1, 0, none⟩ = some (.int .i64 y)) :
    (results Tryz.f22 tmps).run Tryz.prog w = .ok (.tuple #[v, .int .i64 y]) w := by
 have h : Tryz.f22.results = #[.tmp 2, .cell 3 31] := rfl
 have e2 : tmps[2]?.getD undef = v := by simpa using h2
 have e3 : tmps[3]?.getD undef = .pointer (some ⟨g + 1, 0, none⟩) := by simpa using h3
 have l3 := loadInt 31 (Or.inr rfl) _ y w hy
 simp [results, h, e2, e3, asAddr, l3]
def TellA (t : List UInt8) (e : Ending) : Prop := (t.length ≤ 20000 ∧ e = .returned (.tuple #[.string (nmB t), .int .i64 0])) ∨ (20000 < t.length ∧ e = .returned (.tuple #[.string (nmB []), .int .i64 1]))
set_option maxRecDepth 100000 in
set_option maxHeartbeats 1000000 in
theorem tell_any (t : Tr) (hthin : t.thin) (S : Nat → Prop) (cs : List Value) (w : World) (htv : TV w S true t cs) :
    Calls Tryz.prog 22 #[.agg cs.toArray] w fun e w' => TellA t.text e ∧ Keeps [] w w' := by
 have hmf : ∀ (fn : Fn) (first cap : Array Value) (w : World), (Instr.makeFunc fn first cap).run Tryz.prog w = .ok (.func fn first cap) w := fun _ _ _ _ => rfl
 obtain ⟨k1, n1, va, vn, vc, rfl⟩ := htv.form
 have hk0 : Keeps [] w ((w.alloc (.cells #[.int .u8 k1, .int .i64 n1, .slice va vn vc] 75)).alloc (.cells #[.int .i64 0] 31)) := ((Keeps.refl [] w).alloc _).alloc _
 have hz0 : ((w.alloc (.cells #[.int .u8 k1, .int .i64 n1, .slice va vn vc] 75)).alloc (.cells #[.int .i64 0] 31)).heap[w.heap.size]? = some (.cells #[.int .u8 k1, .int .i64 n1, .slice va vn vc] 75 (0, 0)) := heap_alloc2_old w _ _
 have hz1 : ((w.alloc (.cells #[.int .u8 k1, .int .i64 n1, .slice va vn vc] 75)).alloc (.cells #[.int .i64 0] 31)).heap[w.heap.size + 1]? = some (.cells #[.int .i64 0] 31 (0, 0)) := heap_alloc2_new w _ _
 go_enter_defers Tryz.func22, Tryz.ntmps22
 go_upto_region 2 with (fail)
 generalize (w.alloc (.cells #[.int .u8 k1, .int .i64 n1, .slice va vn vc] 75)).alloc (.cells #[.int .i64 0] 31) = X at *
 obtain ⟨g, hg⟩ : ∃ g, w.heap.size = g := ⟨_, rfl⟩
 have hgw : w.heap.size ≤ g := by omega
 rw [hg] at hz0 hz1 ⊢
 clear hg
 have htX := htv.keep hk0 (by simp)
 go_wp2_with (first | (refine wpList_load_row rfl 75 _ rfl g rfl _ _ _ _ hz0 Tryz.underlying75 rfl (info3 _ _ _) ?_))
 refine (text_any t hthin S _ X htX).mono ?_
 rintro e w1 ⟨hc, hk1⟩
 have hkA := hk0.trans hk1
 have hz11 := (hk1.block (g + 1) (Array.getElem?_eq_some_iff.1 hz1).1 (by simp)).trans hz1
 have c1 : w1.cell? ⟨g + 1, 0, none⟩ = some (.int .i64 0) := by rw [Lib.cell_of_heap hz11]; rfl
 have f1 : w1.frozen? ⟨g + 1, 0, none⟩ = false := by simp [World.frozen?, hz11]
 rcases hc with ⟨hl, rfl⟩ | ⟨hl, rfl⟩
 ·have hkC : Keeps [g + 1] w1 (w1.setCell ⟨g + 1, 0, none⟩ (.int .i64 0)) := (Keeps.refl _ w1).setCell (p := ⟨g + 1, 0, none⟩) (by simp) _
  have r1 : (w1.setCell ⟨g + 1, 0, none⟩ (.int .i64 0)).cell? ⟨g + 1, 0, none⟩ = some (.int .i64 0) := World.cell?_setCell_same _ _ _ c1
  go_wp2_with fail
  refine leaves_cons (f := 36) (args := #[.pointer (some ⟨g + 1, 0, none⟩)]) (by simp) (by simp [go_sem]) ?_
  refine (tcatch_idle _ _).mono ?_
  rintro e u' w7 ⟨rfl, rfl, rfl⟩
  exact ⟨_, results_tell _ _ g _ 0 rfl rfl r1, Or.inl ⟨hl, rfl⟩, keepsM hkA hkC (by intro x hx; simp at hx; omega)⟩
 ·simp only [tooLong]
  refine leaves_cons (f := 36) (args := #[.pointer (some ⟨g + 1, 0, none⟩)]) (by simp) (by simp [go_sem]) ?_
  refine (tcatch_long _ _ _ c1 f1).mono ?_
  rintro e u' w6 ⟨rfl, rfl, rfl⟩
  have kf : Keeps [] w1 (w1.alloc (.cells #[] 104)) := (Keeps.refl [] w1).alloc _
  have y1 := keep_cell kf c1
  have hkB := hkA.trans kf
  generalize w1.alloc (.cells #[] 104) = w7 at *
  have hkC : Keeps [g + 1] w7 (w7.setCell ⟨g + 1, 0, none⟩ (.int .i64 1)) := (Keeps.refl _ w7).setCell (p := ⟨g + 1, 0, none⟩) (by simp) _
  have r1 : (w7.setCell ⟨g + 1, 0, none⟩ (.int .i64 1)).cell? ⟨g + 1, 0, none⟩ = some (.int .i64 1) := World.cell?_setCell_same _ _ _ y1
  exact ⟨_, results_tell _ _ g _ 1 rfl rfl r1, Or.inr ⟨hl, rfl⟩, keepsM hkB hkC (by intro x hx; simp at hx; omega)⟩
end Go.Proofs.YtnfojonmohijpabGreatDoor
