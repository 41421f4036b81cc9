/-
  DERIVED. The program's addBytes: the bytes of a tree behind those that are there. Conditions: they are at most 40000.
-/
import Derived.Test.YtnfojonmohijpaaGreatDoorJUJ
import Derived.Test.YtnfojonmohijpaaGreatDoorJPY
import Derived.Test.YtnfojonmohijpaaGreatDoorJMC
import Derived.BigQuiet
import Derived.Deep.QuietTactic
set_option linter.unusedSimpArgs false
set_option linter.unusedVariables false
namespace Go.Proofs.YtnfojonmohijpaaGreatDoor
open Go.RowKit
def Tr.flat : Tr → List UInt8
 | .tnil => []
 | .tbyte b => [UInt8.ofNat b]
 | .tgrp _ x => x.flat
 | .talt _ x => x.flat
 | .tser l => l.flat
 | .trep l => l.flat
 | .lnil => []
 | .lcons x r => x.flat ++ r.flat
def flats (l : List Tr) : List UInt8 := l.flatMap Tr.flat
theorem flats_take (l : List Tr) (i : Nat) (t : Tr) (h : l[i]? = some t) : flats (l.take (i + 1)) = flats (l.take i) ++ t.flat := by
 rw [List.take_add_one, h]
 simp [flats]
theorem flats_len (l : List Tr) (i : Nat) : (flats (l.take i)).length ≤ (flats l).length := by
 have : flats l = flats (l.take i) ++ flats (l.drop i) := by
  unfold flats
  rw [← List.flatMap_append, List.take_append_drop]
 rw [this, List.length_append]
 omega
theorem TV.flats {w : World} {S : Nat → Prop} {t : Tr} {cs : List Value} (h : TV w S false t cs) : t.flat = flats (tl t) := by
 generalize hk : false = b at h
 induction h with
 | lnil => rfl
 | lcons x r cs ds h1 _ _ ih => simp only [Tr.flat, tl, Proofs.YtnfojonmohijpaaGreatDoor.flats, List.flatMap_cons, ih rfl]
 | _ => cases hk
theorem TV.inner {w : World} {S : Nat → Prop} {t : Tr} {k n v : Value} (h : TV w S true t [k, n, v]) :
    (∃ b, t = .tbyte b ∧ b < 256 ∧ k = .int .u8 98 ∧ n = .int .i64 (b : Nat)) ∨
    ∃ (kk : Nat) (l : Tr) (cs : List Value) (m : Nat), k = .int .u8 kk ∧ kk ≠ 98 ∧ TV w S false l cs ∧ w.ownsRow 0 88 3 v m cs ∧ (∀ g, v.ownBlock = some g → S g) ∧ t.flat = l.flat ∧ l.sz ≤ t.sz := by
 cases h with
 | tnil => exact Or.inr ⟨101, .lnil, [], 0, rfl, by decide, .lnil, World.ownsRow_nil _ _ _ _, by simp [Value.ownBlock], rfl, by simp [Tr.sz]⟩
 | tbyte b hb => exact Or.inl ⟨b, rfl, hb, rfl, rfl⟩
 | tgrp k x v cs h9 hx ho hS =>
  have := TV.lcons x .lnil cs [] hx .lnil
  rw [List.append_nil] at this
  exact Or.inr ⟨103, _, cs, 1, rfl, by decide, this, ho, hS, by simp [Tr.flat], by simp [Tr.sz]; omega⟩
 | talt p x v cs hx ho hS =>
  have := TV.lcons x .lnil cs [] hx .lnil
  rw [List.append_nil] at this
  exact Or.inr ⟨97, _, cs, 1, rfl, by decide, this, ho, hS, by simp [Tr.flat], by simp [Tr.sz]; omega⟩
 | tser l v n cs hl ho hS => exact Or.inr ⟨115, l, cs, n, rfl, by decide, hl, ho, hS, rfl, by simp [Tr.sz]⟩
 | trep l v n cs hl ho hS => exact Or.inr ⟨114, l, cs, n, rfl, by decide, hl, ho, hS, rfl, by simp [Tr.sz]⟩
def AddOk (n : Nat) : Prop := ∀ (t : Tr), t.sz ≤ n → ∀ (w : World) (S : Nat → Prop) (cs : List Value) (v : Value) (l : List UInt8), TV w S true t cs → BY w 0 v l → (∀ g, v.ownBlock = some g → ¬ S g) → l.length + t.flat.length ≤ 40000 →
 Calls Tryz.prog 79 #[.agg cs.toArray, v] w fun e w' => ∃ v', e = .returned v' ∧ BY w' 0 v' (l ++ t.flat) ∧ Keeps v.ownBlock.toList w w' ∧ (v'.ownBlock = v.ownBlock ∨ ∀ g, v'.ownBlock = some g → w.heap.size ≤ g)
theorem infoByte : (Tryz.prog.info? 5).map (fun i => (i.zero, i.size, i.bytes)) = some (some (.int .u8 0), 1, 1) := by kernel_rfl
set_option maxRecDepth 100000 in
set_option maxHeartbeats 4000000 in
theorem addBytes_any (n : Nat) (IA : AddOk n) : AddOk (n + 1) := by
 intro t ht w S cs v l htv0 hby hvS hlen
 obtain ⟨k, nn, va, vn, vc, rfl⟩ := htv0.form
 obtain ⟨xa, xn, xc, rfl⟩ := ownsRow_sl hby
 have htv := htv0.mono (S' := fun g => S g ∧ g < w.heap.size) (fun g h1 h2 => ⟨h1, h2⟩)
 have hk0 : Keeps [] w (w.alloc (.cells #[.int .u8 k, .int .i64 nn, .slice va vn vc] 88)) := (Keeps.refl [] w).alloc _
 have h0 : P3 (w.alloc (.cells #[.int .u8 k, .int .i64 nn, .slice va vn vc] 88)) w.heap.size (.int .u8 k) (.int .i64 nn) (.slice va vn vc) := heap_alloc_new w _
 have hz0 : (w.alloc (.cells #[.int .u8 k, .int .i64 nn, .slice va vn vc] 88)).heap.size = w.heap.size + 1 := by simp
 go_enter Tryz.func79, Tryz.ntmps79
 go_upto_region 1 with (fail)
 have hb0 := hby.keep hk0 (by simp)
 have htv1 := htv.keep hk0 (by simp)
 generalize w.alloc (.cells #[.int .u8 k, .int .i64 nn, .slice va vn vc] 88) = W at *
 obtain ⟨c0, c1, c2⟩ := h0.main
 have HZ : Hid (W.heap.size = w.heap.size + 1) := hz0
 clear hz0
 rcases htv1.inner with ⟨b, rfl, hb, hk98, hnb⟩ | ⟨kk, r, rs, m, hkk, hne, hrow, hown, hSv, hfl, hsz⟩
 ·simp only [Value.int.injEq, true_and] at hk98 hnb
  obtain rfl : nn = b := by omega
  have hkE : ((k : Int) == 98) = true := by simp [hk98]
  have hlt1 : l.length + 1 ≤ 40000 := by simpa [Tr.flat] using hlen
  have hby1 : (nn : Int) ≤ 255 := by omega
  have hby0 : (0 : Int) ≤ (nn : Int) := by omega
  obtain ⟨i0, hi0, hz0', hz1, hz2⟩ := info_parts infoByte
  have hun := Tryz.underlying64
  have hlm : l.length + 1 ≤ maxLen := by unfold maxLen; omega
  have e8 : ((UInt8.ofNat nn).toNat : Int) = (nn : Int) := by
   have : (UInt8.ofNat nn).toNat = nn := by simp; omega
   rw [this]
  have hxl : ∀ z, (Value.slice xa xn xc).ownBlock = some z → z < w.heap.size := fun z hz => (World.ownsRow.lt hby z hz).2
  clear hk98 hlen htv0 htv htv1 hvS
  go_wp2_with (first | (at_builtin; refine wpList_append_lies _ rfl _ _ _ rfl 0 5 i0 (.int .u8 0) 1 1 hun hi0 hz0' hz1 hz2 rfl (by decide) (.slice xa xn xc) l.length _ rfl (World.ownsRow.alloc hb0 _) ⟨W.heap.size, 0, none⟩ 1 1 [.int .u8 (nn : Int)] rfl rfl (cell_one_new _ _ _) (by simp [Value.oneCell']) (by omega) hlm (by omega) (Nat.zero_le _) (W.heap.size + 1) (by simp) ?_; intro g cap w4 hown hgrow hat hlt4))
  go_ret
  have hkA : Keeps (Value.slice xa xn xc).ownBlock.toList w w4 := ((hk0.trans ((Keeps.refl [] W).alloc (.cells #[.int .u8 (nn : Int)] 5))).mono (by simp)).trans (Keeps.ofGrown hgrow)
  refine ⟨.slice (some ⟨g, 0, none⟩) (l.length + 1) cap, rfl, ?_, hkA, ?_⟩
  ·show w4.ownsRow 0 5 1 _ (l ++ [UInt8.ofNat nn]).length ((l ++ [UInt8.ofNat nn]).map byteV)
   rw [List.length_append, List.map_append]
   have : [UInt8.ofNat nn].map byteV = [.int .u8 (nn : Int)] := by simp only [List.map_cons, List.map_nil, byteV, e8]
   rw [this]
   exact hown
  ·rcases hat with h | h
   ·exact Or.inl (by rw [h]; rfl)
   ·right
    intro z hz
    simp only [Value.ownBlock, Option.some.injEq] at hz
    subst hz
    have := HZ.out
    rw [h]
    simp
    omega
 ·simp only [Value.int.injEq, true_and] at hkk
  have hkE : ((k : Int) == 98) = false := by simp; omega
  obtain rfl := ownsRow_lenT hown
  obtain ⟨hcl, _, hat⟩ := hrow.tl_at
  have hfl2 := hrow.flats
  have HF : Hid (t.flat = flats (tl r)) := hfl.trans hfl2
  have HK : Hid (vn = (tl r).length) := by
   have := hown.1
   show vn = (tl r).length
   omega
  have hvm : (vn : Int) ≤ 9223372036854775807 := by
   rcases hown.2 with ⟨_, e⟩ | ⟨g, cap, cur, _, _, _, h1, h2, _⟩
   ·omega
   ·unfold maxLen at h2; omega
  have HLN : Hid (l.length + (flats (tl r)).length ≤ 40000) := by rw [← hfl2, ← hfl]; exact hlen
  have hoS : ∀ (g : Nat), (S g ∧ g < w.heap.size) → g ∉ (Value.slice xa xn xc).ownBlock.toList := fun g hg hm => by
   rw [Option.mem_toList] at hm
   exact hvS g hm hg.1
  clear hkk hne hcl hfl hfl2 hlen htv0 htv htv1
  go_upto_region 4 with (fail)
  go_loopw [1, 6, 19] (fun q1 _ q19 wr => ∃ i : Nat, i ≤ vn ∧ q19 = .int .i64 i ∧ BY wr 0 q1 (l ++ flats ((tl r).take i)) ∧ Keeps (Value.slice xa xn xc).ownBlock.toList W wr ∧ (q1.ownBlock = (Value.slice xa xn xc).ownBlock ∨ ∀ g, q1.ownBlock = some g → W.heap.size ≤ g)) (fun _ _ q _ => vn - (intOf q).toNat)
  case atStart => exact ⟨0, Nat.zero_le _, rfl, by simpa [flats] using hb0, Keeps.refl _ _, Or.inl rfl⟩
  case round =>
   obtain ⟨i, hi, rfl, hb, hkr, hor⟩ := hrel
   obtain ⟨ya, yn, yc, rfl⟩ := ownsRow_sl hb
   by_cases hlt : i < vn
   ·obtain ⟨x, hx⟩ : ∃ x, (tl r)[i]? = some x := ⟨_, List.getElem?_eq_getElem (by have := HK.out; omega)⟩
    obtain ⟨ds, hds, hdc, hxsz, _⟩ := hat i x hx
    obtain ⟨k1, n1, da, dn, dc, rfl⟩ := hds.form
    obtain ⟨gv, vc', hv, _, hgv⟩ := hown.form (by omega)
    cases hv
    have hgS := hSv gv rfl
    have hownr : wr.ownsRow 0 88 3 (.slice (some ⟨gv, 0, none⟩) vn vc) vn rs := hown.keep hkr (by intro g hg; simp only [Value.ownBlock, Option.some.injEq] at hg; subst hg; exact hoS _ hgS)
    have hrg : wr.rangeAt gv (i * 3) [.int .u8 k1, .int .i64 n1, .slice da dn dc] := fun j u hu => by
     have hj : j < 3 := (List.getElem?_eq_some_iff.1 hu).1
     exact (World.ownsRow.cellAt hownr (i * 3 + j) (by omega)).trans (hdc j u hu)
    have hi3 : (Tryz.prog.info? 88).map (·.size) = some 3 := by kernel_rfl
    have hi0 : (0 : Int) ≤ (i : Int) := by omega
    have hi1 : (i : Int) < (vn : Int) := by omega
    have HI : Hid (i < vn) := hlt
    have HTN : Hid (flats ((tl r).take (i + 1)) = flats ((tl r).take i) ++ x.flat) := flats_take _ i x hx
    have hfin := flats_len (tl r) (i + 1)
    have HLT : Hid ((l ++ flats ((tl r).take i)).length + x.flat.length ≤ 40000) := by
     have h1 := HTN.out
     have h2 := HLN.out
     rw [h1] at hfin
     show _ ≤ _
     simp only [List.length_append] at hfin ⊢
     omega
    have hq0 : (wr.alloc (.cells #[.int .u8 0, .int .i64 0, .slice none 0 0] 88)).heap[wr.heap.size]? = some (.cells #[.int .u8 0, .int .i64 0, .slice none 0 0] 88 (0, 0)) := heap_alloc_new wr _
    have hk1 : Keeps [] wr ((wr.alloc (.cells #[.int .u8 0, .int .i64 0, .slice none 0 0] 88)).setRow wr.heap.size #[.int .u8 k1, .int .i64 n1, .slice da dn dc]) := ((Keeps.refl [] wr).alloc _).setRow (Or.inr (Nat.le_refl _)) _
    have hq1 : ((wr.alloc (.cells #[.int .u8 0, .int .i64 0, .slice none 0 0] 88)).setRow wr.heap.size #[.int .u8 k1, .int .i64 n1, .slice da dn dc]).heap[wr.heap.size]? = some (.cells #[.int .u8 k1, .int .i64 n1, .slice da dn dc] 88 (0, 0)) := setRow_heap _ _ _ _ _ _ hq0
    have hbk := hb.keep hk1 (by simp)
    have hkr2 := hkr.trans (hk1.mono (by simp))
    have htvx := hds.keep hkr2 hoS
    have hIC := fun A hA hB => IA x (by omega) A (fun g => S g ∧ g < w.heap.size) _ (.slice ya yn yc) (l ++ flats ((tl r).take i)) (hA : TV A (fun g => S g ∧ g < w.heap.size) true x [.int .u8 k1, .int .i64 n1, .slice da dn dc]) (hB : BY A 0 (.slice ya yn yc) (l ++ flats ((tl r).take i))) (by
      intro g hg hS
      rcases hor with h | h
      · rw [h] at hg; exact hvS g hg hS.1
      · have h3 := h g hg; have h4 := HZ.out; have h5 := hS.2; omega) HLT.out
    have hIC2 := hIC _ htvx hbk
    have HOR : Hid ((Value.slice ya yn yc).ownBlock = (Value.slice xa xn xc).ownBlock ∨ ∀ g, (Value.slice ya yn yc).ownBlock = some g → W.heap.size ≤ g) := hor
    clear hi hlt hx hfin hIC hor hb htvx hownr hat
    go_upto_region 6 with (first | (refine wpList_load_mid rfl 88 _ rfl gv (i * 3) rfl _ _ hrg Tryz.underlying88 rfl hi3 ?_) | (refine wpList_store_row rfl 88 _ _ rfl wr.heap.size #[.int .u8 k1, .int .i64 n1, .slice da dn dc] rfl rfl _ _ hq0 (info3 _ _ _) rfl (all3 rfl rfl rfl) ?_; generalize (wr.alloc (.cells #[.int .u8 0, .int .i64 0, .slice none 0 0] 88)).setRow wr.heap.size #[.int .u8 k1, .int .i64 n1, .slice da dn dc] = w2 at *))
    go_wp2_with (first | (refine wpList_load_row rfl 88 _ rfl wr.heap.size rfl _ _ _ _ hq1 Tryz.underlying88 rfl (info3 _ _ _) ?_))
    refine hIC2.mono ?_
    rintro e w3 ⟨v', rfl, hb3, hk3, hor3⟩
    have hkW : Keeps (Value.slice xa xn xc).ownBlock.toList W w3 := keepsM hkr2 hk3 (by
      intro z hz
      rw [Option.mem_toList] at hz
      rcases HOR.out with h | h
      · rw [h] at hz; exact Or.inl (by rw [Option.mem_toList]; exact hz)
      · exact Or.inr (h z hz))
    have hor4 : v'.ownBlock = (Value.slice xa xn xc).ownBlock ∨ ∀ g, v'.ownBlock = some g → W.heap.size ≤ g := by
     have hs2 := hkr2.size
     rcases hor3 with h | h
     ·rw [h]; exact HOR.out
     ·exact Or.inr fun g hg => by have := h g hg; omega
    have hb5 : BY w3 0 v' (l ++ flats ((tl r).take (i + 1))) := by rw [HTN.out, ← List.append_assoc]; exact hb3
    clear hb3 hk3 hor3 hIC2 hbk hq0 hq1 hrg
    go_wp2_with fail
    go_roundw
    case rel => exact ⟨i + 1, HI.out, by go_num, hb5, hkW, hor4⟩
    case measure => have := HI.out; simp [intOf]; omega
   ·have hie : i = vn := by omega
    have hni : ¬ (i : Int) < (vn : Int) := by omega
    have hall : (tl r).take i = tl r := by rw [hie, HK.out]; exact List.take_length
    rw [hall] at hb
    clear hall hlt hi hie
    go_wp2_with fail
    go_ret
    exact ⟨_, rfl, by rw [HF.out]; exact hb, (hk0.mono (by simp)).trans hkr, by
      have := hk0.size
      rcases hor with h | h
      · exact Or.inl h
      · exact Or.inr fun g hg => by have := h g hg; omega⟩
theorem addBytes_all : ∀ n, AddOk n
 | 0 => fun t h => absurd h (by have := t.sz_pos; omega)
 | n + 1 => addBytes_any n (addBytes_all n)
end Go.Proofs.YtnfojonmohijpaaGreatDoor
namespace Go.Proofs.YtnfojonmohijpaaGreatDoor
open Go.RowKit
theorem TG.flat {s : ByteArray} {k : TK} {d i : Nat} {q : R Tr} (h : TG s k d i q) : ∀ t j, q = .ok t j → i ≤ s.size → t.flat.length + i ≤ j := by
 induction h with
 | nil d i h1 => intro t j e _; cases e; simp [Tr.flat]
 | byte d i h1 h2 h3 => intro t j e _; cases e; simp [Tr.flat]; omega
 | opn d i q h1 h2 _ ih =>
  intro t j e hi
  have := at'_lt_of h1 (by decide)
  cases q with
  | bad => cases e
  | ok t' j' =>
   have h3 := ih t' j' rfl (by omega)
   by_cases h4 : at' s j' = 41
   ·simp only [shut, if_pos h4, R.ok.injEq] at e
    obtain ⟨rfl, rfl⟩ := e
    omega
   ·simp only [shut, if_neg h4] at e
    cases e
 | grp d i q h1 h2 h3 h4 ih =>
  intro t j e hi
  have : i + 1 < s.size := at'_nn (by omega)
  cases q with
  | bad => cases e
  | ok l j' =>
   cases e
   obtain ⟨x, rfl, _, _⟩ := TG.one h4
   have := ih _ _ rfl (by omega)
   simp [Tr.flat, hdT] at this ⊢
   omega
 | alt d i q h1 h2 h4 ih =>
  intro t j e hi
  have hp := plE_le h2
  cases q with
  | bad => cases e
  | ok l j' =>
   cases e
   obtain ⟨x, rfl, _, _⟩ := TG.one h4
   have := ih _ _ rfl hp.2
   simp [Tr.flat, hdT] at this ⊢
   omega
 | ser d i q h1 _ ih =>
  intro t j e hi
  have := at'_lt_of h1 (by decide)
  cases q with
  | bad => cases e
  | ok l j' => cases e; have := ih _ _ rfl (by omega); simp only [Tr.flat]; omega
 | rep d i q h1 _ ih =>
  intro t j e hi
  have := at'_lt_of h1 (by decide)
  cases q with
  | bad => cases e
  | ok l j' => cases e; have := ih _ _ rfl (by omega); simp only [Tr.flat]; omega
 | fin d i => intro t j e _; cases e; simp [Tr.flat]
 | stop d i h1 => intro t j e _; cases e; simp [Tr.flat]
 | go n m d i j t q h0 h1 h2 _ ih1 ih2 =>
  intro t' j' e hi
  have := at'_lt_of h1 (by decide)
  have hb := h2.bd (by omega)
  have h3 := ih1 _ _ rfl (by omega)
  cases q with
  | bad => cases e
  | ok l j2 =>
   cases e
   have := ih2 _ _ rfl hb.2.1
   simp only [Tr.flat, List.length_append]
   omega
 | _ => intro t j e; cases e
set_option maxRecDepth 100000 in
set_option maxHeartbeats 2000000 in
theorem tflat_any (t : Tr) (a b c : Value) (w : World) (S : Nat → Prop) (htv : TV w S true t [a, b, c]) (hl : t.flat.length ≤ 40000) :
    Calls Tryz.prog 44 #[.agg #[a, b, c]] w fun e w' => e = .returned (.string (nmB t.flat)) ∧ Keeps [] w w' := by
 obtain ⟨k, nn, va, vn, vc, hf⟩ := htv.form
 simp only [List.cons.injEq, and_true] at hf
 obtain ⟨rfl, rfl, rfl⟩ := hf
 have hk0 : Keeps [] w (w.alloc (.cells #[.int .u8 k, .int .i64 nn, .slice va vn vc] 88)) := (Keeps.refl [] w).alloc _
 have h0 : P3 (w.alloc (.cells #[.int .u8 k, .int .i64 nn, .slice va vn vc] 88)) w.heap.size (.int .u8 k) (.int .i64 nn) (.slice va vn vc) := heap_alloc_new w _
 have htv1 := htv.keep hk0 (by simp)
 go_enter Tryz.func44, Tryz.ntmps44
 go_upto_region 1 with (fail)
 generalize w.alloc (.cells #[.int .u8 k, .int .i64 nn, .slice va vn vc] 88) = W at *
 have hby : BY W 0 (.slice none 0 0) [] := World.ownsRow_nil _ _ _ _
 have hA := addBytes_all t.sz t (Nat.le_refl _) W S _ (.slice none 0 0) [] htv1 hby (by simp [Value.ownBlock]) (by simpa using hl)
 go_wp2_with (first | (refine wpList_load_row rfl 88 _ rfl w.heap.size rfl _ _ _ _ h0 Tryz.underlying88 rfl (info3 _ _ _) ?_))
 refine hA.mono ?_
 rintro e w1 ⟨v, rfl, hb1, hk1, _⟩
 obtain ⟨xa, xn, xc, rfl⟩ := ownsRow_sl hb1
 rw [List.nil_append] at hb1
 have hcv := conv_name w1 0 _ _ hb1
 have hkA := hk0.trans (hk1.mono (by simp [Value.ownBlock]))
 clear hA
 go_wp2_with fail
 go_ret
 exact ⟨rfl, hkA⟩
end Go.Proofs.YtnfojonmohijpaaGreatDoor
namespace Go.Proofs.YtnfojonmohijpaaGreatDoor
open Go.RowKit
inductive Ft : Pat → Tr → Prop
 | set (f : Nat → Bool) (b : Nat) : f b = true → Ft (.set f) (.tbyte b)
 | grp (k : Nat) (x : Pat) (u : Tr) : Ft x u → Ft (.grp k x) (.tgrp k u)
 | rep (mn : Nat) (mx : Int) (x : Pat) (l : Tr) : mn ≤ (tl l).length → (mx < 0 ∨ ((tl l).length : Int) ≤ mx) → (∀ u, u ∈ tl l → Ft x u) → Ft (.rep mn mx x) (.trep l)
 | nil : Ft .pnil .tnil
 | lone (x : Pat) (t : Tr) : Ft x t → Ft (.pcons x .pnil) t
 | ser (x y r : Pat) (l : Tr) : (tl l).length = (pl (.pcons x (.pcons y r))).length → (∀ (i : Nat) (z : Pat) (u : Tr), (pl (.pcons x (.pcons y r)))[i]? = some z → (tl l)[i]? = some u → Ft z u) → Ft (.pcons x (.pcons y r)) (.tser l)
 | one (x : Pat) (t : Tr) : Ft x t → Ft (.wone x) t
 | alt (x r : Pat) (p : Nat) (y : Pat) (u : Tr) : (wl (.wcons x r))[p]? = some y → Ft y u → Ft (.wcons x r) (.talt p u)
def FtA (w : World) (x : Pat) (t : Tr) (e : Ending) (w' : World) : Prop := ∃ b, e = .returned (.bool b) ∧ (b = true ↔ Ft x t) ∧ Keeps [] w w'
def WaysF (n : Nat) : Prop := ∀ (x : Pat), x.sz ≤ n → ∀ (w : World) (S S' : Nat → Prop) (v a b c : Value) (t : Tr), Rep w S .ways x [v] → TV w S' true t [a, b, c] → Calls Tryz.prog 80 #[v, .agg #[a, b, c]] w (FtA w x t)
def WayF (n : Nat) : Prop := ∀ (x : Pat), x.sz ≤ n → ∀ (w : World) (S S' : Nat → Prop) (v a b c : Value) (t : Tr), Rep w S .way x [v] → TV w S' true t [a, b, c] → Calls Tryz.prog 133 #[v, .agg #[a, b, c]] w (FtA w x t)
def PieceF (n : Nat) : Prop := ∀ (x : Pat), x.sz ≤ n → ∀ (w : World) (S S' : Nat → Prop) (cs : List Value) (a b c : Value) (t : Tr), Rep w S .piece x cs → TV w S' true t [a, b, c] → Calls Tryz.prog 184 #[.agg cs.toArray, .agg #[a, b, c]] w (FtA w x t)
def SingleF (n : Nat) : Prop := ∀ (x : Pat), x.sz ≤ n → ∀ (w : World) (S S' : Nat → Prop) (cs : List Value) (a b c : Value) (t : Tr), Rep w S .single x cs → TV w S' true t [a, b, c] → Calls Tryz.prog 223 #[.agg cs.toArray, .agg #[a, b, c]] w (FtA w x t)
def Tr.ltr : Tr → Nat
 | .tnil => 101
 | .tbyte _ => 98
 | .tgrp _ _ => 103
 | .talt _ _ => 97
 | .tser _ => 115
 | .trep _ => 114
 | _ => 0
def Tr.num : Tr → Nat
 | .tbyte b => b
 | .tgrp k _ => k
 | .talt p _ => p
 | _ => 0
theorem TV.face {w : World} {S : Nat → Prop} {t : Tr} {a b c : Value} (h : TV w S true t [a, b, c]) : a = .int .u8 t.ltr ∧ b = .int .i64 t.num ∧ ∃ va vn vc, c = .slice va vn vc := by
 cases h with
 | tnil => exact ⟨rfl, rfl, _, _, _, rfl⟩
 | tbyte b hb => exact ⟨rfl, rfl, _, _, _, rfl⟩
 | tgrp k x v cs _ _ ho => exact ⟨rfl, rfl, ownsRow_sl ho⟩
 | talt p x v cs _ ho => exact ⟨rfl, rfl, ownsRow_sl ho⟩
 | tser l v n cs _ ho => exact ⟨rfl, rfl, ownsRow_sl ho⟩
 | trep l v n cs _ ho => exact ⟨rfl, rfl, ownsRow_sl ho⟩
set_option maxRecDepth 100000 in
set_option maxHeartbeats 4000000 in
theorem singleFits_any (n : Nat) (IW : WaysF n) : SingleF (n + 1) := by
 intro x hx w S S' cs a b c t hrep htv
 obtain ⟨rfl, rfl, va, vn, vc, rfl⟩ := htv.face
 cases hrep with
 | set f =>
  have h2 : ((w.alloc (.cells (sc (.int .i64 0) (.slice none 0 0) f).toArray 208)).alloc (.cells #[.int .u8 t.ltr, .int .i64 t.num, .slice va vn vc] 88)).heap[w.heap.size]? = some (.cells (sc (.int .i64 0) (.slice none 0 0) f).toArray 208 (0, 0)) := heap_alloc2_old w _ _
  have h3 : P3 ((w.alloc (.cells (sc (.int .i64 0) (.slice none 0 0) f).toArray 208)).alloc (.cells #[.int .u8 t.ltr, .int .i64 t.num, .slice va vn vc] 88)) (w.heap.size + 1) (.int .u8 t.ltr) (.int .i64 t.num) (.slice va vn vc) := heap_alloc2_new w _ _
  have hk0 : Keeps [] w ((w.alloc (.cells (sc (.int .i64 0) (.slice none 0 0) f).toArray 208)).alloc (.cells #[.int .u8 t.ltr, .int .i64 t.num, .slice va vn vc] 88)) := ((Keeps.refl [] w).alloc _).alloc _
  obtain ⟨c0, c1, c2⟩ := sc_cells h2
  obtain ⟨d0, d1, d2⟩ := h3.main
  generalize (sc (.int .i64 0) (.slice none 0 0) f).toArray = C at *
  go_enter Tryz.func223, Tryz.ntmps223
  go_upto_region 1 with (fail)
  generalize (w.alloc (.cells C 208)).alloc (.cells #[.int .u8 t.ltr, .int .i64 t.num, .slice va vn vc] 88) = W at *
  by_cases hb : t.ltr = 98
  ·obtain ⟨b, rfl⟩ : ∃ b, t = .tbyte b := by cases t <;> simp [Tr.ltr] at hb; exact ⟨_, rfl⟩
   have hb256 : b < 256 := by cases htv; assumption
   have e1 : (((Tr.tbyte b).ltr : Nat) : Int) = 98 := rfl
   have e2 : (((Tr.tbyte b).num : Nat) : Int) = (b : Int) := rfl
   rw [e1] at d0 ⊢
   rw [e2] at d1 ⊢
   have hcb : W.cell? ⟨w.heap.size, 2 + b, none⟩ = some (.bool (f b)) := c2 b _ (by rw [Array.getElem?_toList]; exact hcells_get f hb256)
   have hb0 : (0 : Int) ≤ (b : Int) := by omega
   have hb1 : (b : Int) < 256 := by omega
   have HF : Hid (f b = true ↔ Ft (.set f) (.tbyte b)) := ⟨fun h => .set f b h, fun h => by cases h; assumption⟩
   clear hb e1 e2 c2
   go_wp2_with fail
   go_ret
   exact ⟨_, rfl, HF.out, hk0⟩
  ·have hkE : ((t.ltr : Int) == 98) = false := by simp; omega
   have HF : Hid (¬ Ft (.set f) t) := fun h => by cases h; exact hb rfl
   clear hb c2
   go_wp2_with fail
   go_ret
   exact ⟨_, rfl, ⟨(nomatch ·), fun h => absurd h HF.out⟩, hk0⟩
 | grp k y v h0 h9 hr =>
  obtain ⟨wa, wn, wc, rfl⟩ : IsSl v := by
   cases hr with
   | ways _ _ _ _ _ ho _ => exact ownsRow_sl ho
  have h2 : ((w.alloc (.cells (sc (.int .i64 k) (.slice wa wn wc) fun _ => false).toArray 208)).alloc (.cells #[.int .u8 t.ltr, .int .i64 t.num, .slice va vn vc] 88)).heap[w.heap.size]? = some (.cells (sc (.int .i64 k) (.slice wa wn wc) fun _ => false).toArray 208 (0, 0)) := heap_alloc2_old w _ _
  have h3 : P3 ((w.alloc (.cells (sc (.int .i64 k) (.slice wa wn wc) fun _ => false).toArray 208)).alloc (.cells #[.int .u8 t.ltr, .int .i64 t.num, .slice va vn vc] 88)) (w.heap.size + 1) (.int .u8 t.ltr) (.int .i64 t.num) (.slice va vn vc) := heap_alloc2_new w _ _
  have hk0 : Keeps [] w ((w.alloc (.cells (sc (.int .i64 k) (.slice wa wn wc) fun _ => false).toArray 208)).alloc (.cells #[.int .u8 t.ltr, .int .i64 t.num, .slice va vn vc] 88)) := ((Keeps.refl [] w).alloc _).alloc _
  obtain ⟨c0, c1, _⟩ := sc_cells h2
  obtain ⟨d0, d1, d2⟩ := h3.main
  have hysz : y.sz ≤ n := by simp [Pat.sz] at hx; omega
  have hkne : ((k : Int) == 0) = false := by simpa using (by omega : ¬ (k : Int) = 0)
  generalize (sc (.int .i64 k) (.slice wa wn wc) fun _ => false).toArray = C at *
  go_enter Tryz.func223, Tryz.ntmps223
  go_upto_region 1 with (fail)
  generalize (w.alloc (.cells C 208)).alloc (.cells #[.int .u8 t.ltr, .int .i64 t.num, .slice va vn vc] 88) = W at *
  by_cases hb : t.ltr = 103
  ·obtain ⟨m, u, rfl⟩ : ∃ m u, t = .tgrp m u := by cases t <;> simp [Tr.ltr] at hb; exact ⟨_, _, rfl⟩
   have e1 : (((Tr.tgrp m u).ltr : Nat) : Int) = 103 := rfl
   have e2 : (((Tr.tgrp m u).num : Nat) : Int) = (m : Int) := rfl
   rw [e1] at h3 d0 ⊢
   rw [e2] at h3 d1 ⊢
   by_cases hmk : m = k
   ·subst hmk
    cases htv with
    | tgrp _ _ _ us h9' hu ho hSv =>
    obtain ⟨gv, vc', hv, _, hgv⟩ := ho.form (by decide)
    cases hv
    obtain ⟨k1, n1, da, dn, dc, rfl⟩ := hu.form
    obtain ⟨g2, hg2⟩ : ∃ g, w.heap.size = g := ⟨_, rfl⟩
    obtain ⟨g3, hg3⟩ : ∃ g, w.heap.size + 1 = g := ⟨_, rfl⟩
    rw [hg3] at h3 d0 d1 d2 ⊢
    rw [hg2] at c0 c1 ⊢
    have hgv' : gv < w.heap.size := hgv
    have hrg : ∀ X : World, Keeps [] w X → X.rangeAt gv 0 [.int .u8 k1, .int .i64 n1, .slice da dn dc] := fun X hk j z hz => by
     have hj : j < 3 := (List.getElem?_eq_some_iff.1 hz).1
     rw [Nat.zero_add]
     exact (World.cell?_of_block (hk.block gv hgv' (by simp))).trans ((World.ownsRow.cellAt ho j (by omega)).trans hz)
    have hi3 : (Tryz.prog.info? 88).map (·.size) = some [Value.int .u8 k1, .int .i64 n1, .slice da dn dc].length := by kernel_rfl
    have hS0 : P3 W.drew g3 (.int .u8 103) (.int .i64 m) (.slice (some ⟨gv, 0, none⟩) 1 vc) ∧ (W.drew.cell? ⟨g2, 0, none⟩ = some (.int .i64 m) ∧ W.drew.cell? ⟨g2, 1, none⟩ = some (.slice wa wn wc)) ∧ Keeps [] w W.drew := ⟨h3, ⟨c0, c1⟩, hk0.drewN 1⟩
    clear hb e1 e2
    go_upto_region 3 with (fail)
    clear c0 c1 d0 d1 d2
    refine wp_region_held (S := fun X => P3 X g3 (.int .u8 103) (.int .i64 m) (.slice (some ⟨gv, 0, none⟩) 1 vc) ∧ (X.cell? ⟨g2, 0, none⟩ = some (.int .i64 m) ∧ X.cell? ⟨g2, 1, none⟩ = some (.slice wa wn wc)) ∧ Keeps [] w X) (by kernel_rfl) ?_
    change wpAnyH _ _ _ _ _ _ _ _ (World.drew _)
    generalize W.drew = X0 at *
    refine wpAnyH_tk 0 _ (some 18) (.pointer (some ⟨g3, 0, none⟩)) rfl rfl (by kernel_rfl) (by kernel_rfl) (by kernel_rfl) (fun _ _ _ h => h) (Or.inl ⟨by rfl, fun X hX => by go_simp⟩) hS0 ?_
    simp only [Act.put, List.setIfInBounds_toArray, List.set_cons_zero, List.set_cons_succ]
    refine wpAnyH_tk 1 _ (some 19) (.int .u8 103) rfl rfl (by kernel_rfl) (by kernel_rfl) (by kernel_rfl) (fun _ _ _ h => h) (Or.inl ⟨by rfl, fun X hX => by (obtain ⟨q0, q1, q2⟩ := hX.1.main; go_simp)⟩) hS0 ?_
    simp only [Act.put, List.setIfInBounds_toArray, List.set_cons_zero, List.set_cons_succ]
    refine wpAnyH_tk 2 _ (some 20) (.bool true) rfl rfl (by kernel_rfl) (by kernel_rfl) (by kernel_rfl) (fun _ _ _ h => h) (Or.inl ⟨by rfl, fun X hX => by go_simp⟩) hS0 ?_
    simp only [Act.put, List.setIfInBounds_toArray, List.set_cons_zero, List.set_cons_succ]
    refine wpAnyH_tk 3 _ (some 21) (.bool true) rfl rfl (by kernel_rfl) (by kernel_rfl) (by kernel_rfl) (fun _ _ _ h => h) (Or.inl ⟨by rfl, fun X hX => by go_simp⟩) hS0 ?_
    simp only [Act.put, List.setIfInBounds_toArray, List.set_cons_zero, List.set_cons_succ]
    refine wpAnyH_tk 4 _ (some 22) (.pointer (some ⟨g3, 1, none⟩)) rfl rfl (by kernel_rfl) (by kernel_rfl) (by kernel_rfl) (fun _ _ _ h => h) (Or.inl ⟨by rfl, fun X hX => by go_simp⟩) hS0 ?_
    simp only [Act.put, List.setIfInBounds_toArray, List.set_cons_zero, List.set_cons_succ]
    refine wpAnyH_tk 5 _ (some 23) (.int .i64 m) rfl rfl (by kernel_rfl) (by kernel_rfl) (by kernel_rfl) (fun _ _ _ h => h) (Or.inl ⟨by rfl, fun X hX => by (obtain ⟨q0, q1, q2⟩ := hX.1.main; go_simp)⟩) hS0 ?_
    simp only [Act.put, List.setIfInBounds_toArray, List.set_cons_zero, List.set_cons_succ]
    refine wpAnyH_tk 6 _ (some 24) (.pointer (some ⟨g2, 0, none⟩)) rfl rfl (by kernel_rfl) (by kernel_rfl) (by kernel_rfl) (fun _ _ _ h => h) (Or.inl ⟨by rfl, fun X hX => by go_simp⟩) hS0 ?_
    simp only [Act.put, List.setIfInBounds_toArray, List.set_cons_zero, List.set_cons_succ]
    refine wpAnyH_tk 7 _ (some 25) (.int .i64 m) rfl rfl (by kernel_rfl) (by kernel_rfl) (by kernel_rfl) (fun _ _ _ h => h) (Or.inl ⟨by rfl, fun X hX => by (obtain ⟨r0, r1⟩ := hX.2.1; go_simp)⟩) hS0 ?_
    simp only [Act.put, List.setIfInBounds_toArray, List.set_cons_zero, List.set_cons_succ]
    refine wpAnyH_tk 8 _ (some 26) (.bool true) rfl rfl (by kernel_rfl) (by kernel_rfl) (by kernel_rfl) (fun _ _ _ h => h) (Or.inl ⟨by rfl, fun X hX => by go_simp⟩) hS0 ?_
    simp only [Act.put, List.setIfInBounds_toArray, List.set_cons_zero, List.set_cons_succ]
    refine wpAnyH_tk 9 _ (some 27) (.bool true) rfl rfl (by kernel_rfl) (by kernel_rfl) (by kernel_rfl) (fun _ _ _ h => h) (Or.inl ⟨by rfl, fun X hX => by go_simp⟩) hS0 ?_
    simp only [Act.put, List.setIfInBounds_toArray, List.set_cons_zero, List.set_cons_succ]
    refine wpAnyH_tk 10 _ (some 28) (.bool true) rfl rfl (by kernel_rfl) (by kernel_rfl) (by kernel_rfl) (fun _ _ _ h => h) (Or.inl ⟨by rfl, fun X hX => by go_simp⟩) hS0 ?_
    simp only [Act.put, List.setIfInBounds_toArray, List.set_cons_zero, List.set_cons_succ]
    refine wpAnyH_tk 11 _ (some 29) (.pointer (some ⟨g2, 1, none⟩)) rfl rfl (by kernel_rfl) (by kernel_rfl) (by kernel_rfl) (fun _ _ _ h => h) (Or.inl ⟨by rfl, fun X hX => by go_simp⟩) hS0 ?_
    simp only [Act.put, List.setIfInBounds_toArray, List.set_cons_zero, List.set_cons_succ]
    refine wpAnyH_tk 12 _ (some 30) (.slice wa wn wc) rfl rfl (by kernel_rfl) (by kernel_rfl) (by kernel_rfl) (fun _ _ _ h => h) (Or.inl ⟨by rfl, fun X hX => by (obtain ⟨r0, r1⟩ := hX.2.1; go_simp)⟩) hS0 ?_
    simp only [Act.put, List.setIfInBounds_toArray, List.set_cons_zero, List.set_cons_succ]
    refine wpAnyH_tk 13 _ (some 31) (.pointer (some ⟨g3, 2, none⟩)) rfl rfl (by kernel_rfl) (by kernel_rfl) (by kernel_rfl) (fun _ _ _ h => h) (Or.inl ⟨by rfl, fun X hX => by go_simp⟩) hS0 ?_
    simp only [Act.put, List.setIfInBounds_toArray, List.set_cons_zero, List.set_cons_succ]
    refine wpAnyH_tk 14 _ (some 32) (.slice (some ⟨gv, 0, none⟩) 1 vc) rfl rfl (by kernel_rfl) (by kernel_rfl) (by kernel_rfl) (fun _ _ _ h => h) (Or.inl ⟨by rfl, fun X hX => by (obtain ⟨q0, q1, q2⟩ := hX.1.main; go_simp)⟩) hS0 ?_
    simp only [Act.put, List.setIfInBounds_toArray, List.set_cons_zero, List.set_cons_succ]
    refine wpAnyH_tk 15 _ (some 33) (.pointer (some ⟨gv, 0, none⟩)) rfl rfl (by kernel_rfl) (by kernel_rfl) (by kernel_rfl) (fun _ _ _ h => h) (Or.inl ⟨by rfl, fun X hX => by go_simp⟩) hS0 ?_
    simp only [Act.put, List.setIfInBounds_toArray, List.set_cons_zero, List.set_cons_succ]
    refine wpAnyH_tk 16 _ (some 34) (.agg #[.int .u8 k1, .int .i64 n1, .slice da dn dc]) rfl rfl (by kernel_rfl) (by kernel_rfl) (by kernel_rfl) (fun _ _ _ h => h) (yieldsIf_load_mid (by rfl) 88 _ rfl gv 0 rfl [.int .u8 k1, .int .i64 n1, .slice da dn dc] _ (fun X hX => hrg X hX.2.2) Tryz.underlying88 rfl hi3) hS0 ?_
    simp only [Act.put, List.setIfInBounds_toArray, List.set_cons_zero, List.set_cons_succ]
    refine wpAnyH_ready (rs := [17]) (by kernel_rfl) (by simp) ?_
    refine AllReadyH.cons rfl (fun K hK => ?_) AllReadyH.nil
    go_simp
    refine (IW y hysz X0 S S' _ _ _ _ u (hr.keep hS0.2.2 (by simp)) (hu.keep hS0.2.2 (by simp))).mono ?_
    rintro e w1 ⟨b, rfl, hbi, hk1⟩
    have hS1 : P3 w1 g3 (.int .u8 103) (.int .i64 m) (.slice (some ⟨gv, 0, none⟩) 1 vc) ∧ (w1.cell? ⟨g2, 0, none⟩ = some (.int .i64 m) ∧ w1.cell? ⟨g2, 1, none⟩ = some (.slice wa wn wc)) ∧ Keeps [] w w1 := ⟨hS0.1.keep hk1 (by simp), ⟨keep_cell hk1 hS0.2.1.1, keep_cell hk1 hS0.2.1.2⟩, hS0.2.2.trans hk1⟩
    refine hK.out _ _ hS1 (fun _ => ?_)
    clear hK K
    refine wpAnyH_tk 18 _ (some 36) (.bool b) rfl rfl (by kernel_rfl) (by kernel_rfl) (by kernel_rfl) (fun _ _ _ h => h) (Or.inl ⟨by rfl, fun X hX => by go_simp⟩) hS1 ?_
    simp only [Act.put, List.setIfInBounds_toArray, List.set_cons_zero, List.set_cons_succ]
    refine wpAnyH_tk 19 _ (some 4) (.bool b) rfl rfl (by kernel_rfl) (by kernel_rfl) (by kernel_rfl) (fun _ _ _ h => h) (Or.inl ⟨by rfl, fun X hX => by go_simp⟩) hS1 ?_
    simp only [Act.put, List.setIfInBounds_toArray, List.set_cons_zero, List.set_cons_succ]
    refine wpAnyH_done (by kernel_rfl) ?_ _
    go_wp2_with fail
    go_ret
    exact ⟨b, rfl, ⟨fun h => .grp m y u (hbi.1 h), fun h => by cases h; exact hbi.2 (by assumption)⟩, hS1.2.2⟩
   ·have hnE : ((m : Int) == (k : Int)) = false := by simp; omega
    have hnE' : (m == k) = false := by simp; omega
    have HF : Hid (¬ Ft (.grp k y) (.tgrp m u)) := fun h => by cases h; exact hmk rfl
    clear hb hmk e1 e2
    go_wp2_with fail
    go_quiet (fail)
    go_wp2_with fail
    go_ret
    exact ⟨_, rfl, ⟨(nomatch ·), fun h => absurd h HF.out⟩, hk0.drewN _⟩
  ·have hkE : ((t.ltr : Int) == 103) = false := by simp; omega
   have hkE' : (t.ltr == 103) = false := by simp; omega
   have HF : Hid (¬ Ft (.grp k y) t) := fun h => by cases h; exact hb rfl
   clear hb
   go_wp2_with fail
   go_quiet (fail)
   go_wp2_with fail
   go_ret
   exact ⟨_, rfl, ⟨(nomatch ·), fun h => absurd h HF.out⟩, hk0.drewN _⟩
end Go.Proofs.YtnfojonmohijpaaGreatDoor
