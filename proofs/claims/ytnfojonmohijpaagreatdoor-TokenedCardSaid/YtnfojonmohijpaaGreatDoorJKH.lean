/-
  DERIVED. The program's Split. Conditions: the rules that were read lie in memory, the text is at most 100 bytes long.
-/
import Derived.Test.YtnfojonmohijpaaGreatDoorJON
import Derived.Test.YtnfojonmohijpaaGreatDoorJKQ
import Derived.Deep.CutRange
import Derived.BigQuiet
set_option linter.unusedSimpArgs false
set_option linter.unusedVariables false
namespace Go.Proofs.YtnfojonmohijpaaGreatDoor
open Go.RowKit
def SpPost (s : ByteArray) (rs : List Rul) (Ws : List Whole) (w : World) (e : Ending) (w' : World) : Prop :=
 ∃ (v : Value) (L : List Tok) (j : Nat), e = .returned (.tuple #[v, .int .i64 j]) ∧ Tks s (Ws.map (·.x)) (skO rs) 0 L j ∧ TkR w' v L ∧ (∀ g, v.ownBlock = some g → w.heap.size ≤ g) ∧ Keeps [] w w'
set_option maxRecDepth 100000 in
set_option maxHeartbeats 8000000 in
theorem split_any (s : ByteArray) (hs : s.size ≤ 100) (rs : List Rul) (Ws : List Whole) (cs : List Value) (S : Nat → Prop) (g n c : Nat) (hn : n = Ws.length) (h1 : 1 ≤ n) (h8 : n ≤ 8) (w : World) (hM : RuM w S rs (.slice (some ⟨g, 0, none⟩) n c) cs Ws) :
    Calls Tryz.prog 94 #[.slice (some ⟨g, 0, none⟩) n c, .string s] w (SpPost s rs Ws w) := by
 obtain ⟨N, HN⟩ : ∃ N, Hid (N = s.size + 1) := ⟨_, rfl⟩
 have HNn : Hid (n = Ws.length ∧ 1 ≤ n ∧ n ≤ 8) := ⟨hn, h1, h8⟩
 have HS : Hid (s.size ≤ 100) := hs
 have h8' : (n : Int) ≤ 8 := by omega
 have hs' : (s.size : Int) ≤ 100 := by omega
 have hgl : g < w.heap.size := (World.ownsRow.lt hM.own g rfl).2
 have hcell : ∀ (X : World) (k : Nat) (W : Whole) (u : Value), Keeps [] w X → Ws[k]? = some W → (∀ q x, (ruV W u (skO rs k))[q]? = some x → cs[k * 5 + q]? = some x) → X.rangeAt g (k * 5) (ruV W u (skO rs k)) := fun X k W u hk hW hq q x hx => by
  have h5 : q < 5 := (List.getElem?_eq_some_iff.1 hx).1
  have hkl : k < Ws.length := (List.getElem?_eq_some_iff.1 hW).1
  have hown := hM.own
  rw [← HNn.out.1] at hown
  have hlt : k * 5 + q < n * 5 := by have := HNn.out.1; omega
  exact (World.cell?_of_block (hk.block g hgl (by simp))).trans ((World.ownsRow.cellAt hown (k * 5 + q) hlt).trans (hq q x hx))
 have HC : Hid (∀ (X : World) (k : Nat) (W : Whole) (u : Value), Keeps [] w X → Ws[k]? = some W → (∀ q x, (ruV W u (skO rs k))[q]? = some x → cs[k * 5 + q]? = some x) → X.rangeAt g (k * 5) (ruV W u (skO rs k))) := hcell
 clear hcell hn h1 h8 hs
 go_enter Tryz.func94, Tryz.ntmps94
 go_wp2_with fail
 go_loopw [6, 17] (fun q6 q wr => ∃ (i : Nat) (ds : List Value), q = .int .i64 i ∧ i ≤ n ∧ MaM wr (fun z => w.heap.size ≤ z) s N q6 ds (Ws.take i) ∧ (∀ g, q6.ownBlock = some g → w.heap.size ≤ g) ∧ Keeps [] w wr) (fun _ q _ => n - (intOf q).toNat)
 case atStart => exact ⟨0, [], rfl, Nat.zero_le _, MaM.zero _ _ _ _, (fun g h => by cases h), Keeps.refl _ _⟩
 case round =>
  obtain ⟨i, ds, rfl, hi, hMa, hfr, hK⟩ := hrel
  obtain ⟨xa, xn, xc, rfl⟩ := ownsRow_sl hMa.own
  by_cases hlt : i < n
  ·obtain ⟨W, hW⟩ : ∃ W, Ws[i]? = some W := ⟨_, List.getElem?_eq_getElem (by have := HNn.out; omega)⟩
   obtain ⟨hok, u, hu, hq, hrep⟩ := hM.parts i W hW
   obtain ⟨hsz, hfair⟩ := hok.good
   have hrg := HC.out wr i W u hK hW hq
   have hrepr := hrep.keep hK (by simp)
   have hi0 : (0 : Int) ≤ (i : Int) := by omega
   have hin : (i : Int) < (n : Int) := by omega
   have HI : Hid (i < n) := hlt
   have HW : Hid (Ws[i]? = some W) := hW
   have hil : i = (Ws.take i).length := by rw [List.length_take]; have := HNn.out.1; omega
   have HIL : Hid (i = (Ws.take i).length) := hil
   have hi5 : (Tryz.prog.info? 245).map (·.size) = some (ruV W u (skO rs i)).length := by kernel_rfl
   obtain ⟨b, hb⟩ : ∃ b, skO rs i = b := ⟨_, rfl⟩
   rw [hb] at hrg hi5
   have hz0 : (wr.alloc (.cells #[.bool false, .bool false, .slice none 0 0, .int .i64 0, .bool false] 245)).heap[wr.heap.size]? = some (.cells #[.bool false, .bool false, .slice none 0 0, .int .i64 0, .bool false] 245 (0, 0)) := heap_alloc_new wr _
   have hk6 : Keeps [] wr ((wr.alloc (.cells #[.bool false, .bool false, .slice none 0 0, .int .i64 0, .bool false] 245)).setRow wr.heap.size (ruV W u b).toArray) := ((Keeps.refl [] wr).alloc _).setRow (Or.inr (Nat.le_refl _)) _
   have hP6 : ((wr.alloc (.cells #[.bool false, .bool false, .slice none 0 0, .int .i64 0, .bool false] 245)).setRow wr.heap.size (ruV W u b).toArray).heap[wr.heap.size]? = some (.cells (ruV W u b).toArray 245 (0, 0)) := setRow_heap _ _ _ _ _ _ hz0
   have hrg6 := ruRow hP6
   have hall := ruV_all (W := W) (b := b) hu
   have hMa6 := hMa.keep hk6
   have hrep6 := hrepr.keep hk6 (by simp)
   have hkw6 := hK.trans hk6
   have hi4 := infoPat4 (.bool W.bg) (.bool W.en) u (.int .i64 (W.g : Int))
   clear hi hlt hW hq hrep hrepr hb hok hK hMa hil
   go_upto_region 5 with (first | (refine wpList_load_mid rfl 245 _ rfl g (i * 5) rfl _ _ hrg Tryz.underlying245 rfl hi5 ?_) | (refine wpList_store_row rfl 245 _ _ rfl wr.heap.size (ruV W u b).toArray rfl rfl _ _ hz0 (infoRu5 W u b) rfl hall ?_; generalize (wr.alloc (.cells #[.bool false, .bool false, .slice none 0 0, .int .i64 0, .bool false] 245)).setRow wr.heap.size (ruV W u b).toArray = w6 at *))
   obtain ⟨b6, hb6⟩ : ∃ b, wr.heap.size = b := ⟨_, rfl⟩
   rw [hb6] at hrg6 ⊢
   have hlo6 := hkw6.size
   clear hb6 hrg hz0 hP6 hk6
   go_wp2_with (first | (refine wpList_load_mid rfl 70 _ rfl b6 0 rfl _ _ hrg6 Tryz.underlying70 rfl hi4 ?_))
   refine (matNew_any s N HN HS.out W u _ w6 hrep6 hsz hfair).mono ?_
   rintro e w7 ⟨a, d, rfl, hmk, hk7⟩
   obtain ⟨hone, a', d', e0, hmp⟩ := hmk.form
   simp only [List.cons.injEq, and_true] at e0
   obtain ⟨rfl, rfl⟩ := e0
   have ha1 := hone a (by simp)
   have hd1 := hone d (by simp)
   have hMa7 := hMa6.keep hk7
   have hown7 := hMa7.own
   rw [← HIL.out] at hown7
   obtain ⟨i0, hi0', hz0', hz1', hz2'⟩ := info_parts infoMat
   have hun := Tryz.underlying246
   have hlm : i + 1 ≤ maxLen := by unfold maxLen; have := HI.out; have := HNn.out; omega
   have hbt : (i + 1) * 104 ≤ 140737488355328 := by have := HI.out; have := HNn.out; omega
   have hH : (w7.alloc (.cells (mat W u s a d) 80)).heap.size = w7.heap.size + 1 := by simp
   have hnews : ∀ j x, (mat W u s a d).toList[j]? = some x → (w7.alloc (.cells (mat W u s a d) 80)).cell? ((⟨w7.heap.size, 0, none⟩ : Addr).add j) = some x := World.news_of_block (cs := mat W u s a d) (heap_alloc_new w7 _)
   have honeM := mat_one (W := W) (s := s) hu ha1 hd1
   have hll : (mat W u s a d).toList.length = 1 * 7 := rfl
   clear hmp hone hrep6 hMa7 hall hi4 hi5 hrg6
   go_wp2_with (first | (refine wpList_maslice rfl (.tmp 25) rfl (some 26) rfl W u s a d rfl ?_) | (at_builtin; refine wpList_append_lies _ rfl _ _ _ rfl 0 80 i0 _ 7 104 hun hi0' hz0' hz1' hz2' rfl (by decide) (.slice xa xn xc) i ds rfl (hown7.alloc _) ⟨w7.heap.size, 0, none⟩ 1 1 (mat W u s a d).toList rfl hll hnews honeM (by omega) hlm hbt (Nat.zero_le _) (w7.heap.size + 1) hH ?_))
   intro g' cap w8 hown8 hgrow hat hlt8
   have hk8 : Keeps (Value.slice xa xn xc).ownBlock.toList w7 w8 := ((Keeps.refl _ w7).alloc _).trans (Keeps.ofGrown hgrow)
   have hMa8 := hMa6.add hk7 hlo6 HIL.out hu ha1 hd1 hmk hown8 hgrow hat
   have htk : Ws.take i ++ [W] = Ws.take (i + 1) := by rw [List.take_add_one, HW.out]; rfl
   rw [htk] at hMa8
   have hkw8 : Keeps [] w w8 := (hkw6.trans hk7).fresh hk8 (by
     intro y hy
     rw [Option.mem_toList] at hy
     exact Or.inr (hfr y hy))
   have hfr8 : ∀ y, (Value.slice (some ⟨g', 0, none⟩) (i + 1) cap).ownBlock = some y → w.heap.size ≤ y := by
    intro y hy
    cases hy
    rcases hat with h | h
    ·exact hfr _ h
    ·have := hk7.size
     show w.heap.size ≤ g'
     omega
   clear hown8 hgrow hnews hH honeM hk8 hown7 hMa6 hmk hat htk hll
   go_wp2_with fail
   go_roundw
   case rel => exact ⟨i + 1, _, by go_num, HI.out, hMa8, hfr8, hkw8⟩
   case measure => have := HI.out; simp [intOf]; omega
  have hin : i = n := by omega
  subst hin
  have hMa' : MaM wr (fun z => w.heap.size ≤ z) s N (.slice xa xn xc) ds Ws := by
   have e : Ws.take i = Ws := List.take_of_length_le (by have := HNn.out.1; omega)
   rw [e] at hMa
   exact hMa
  obtain ⟨gm, mc, hv, _, hgm⟩ : ∃ gm mc, Value.slice xa xn xc = .slice (some ⟨gm, 0, none⟩) i mc ∧ True ∧ gm < wr.heap.size := by
   have hown := hMa'.own
   rw [← HNn.out.1] at hown
   obtain ⟨gm, mc, hv, _, hg⟩ := hown.form (by have := HNn.out; omega)
   exact ⟨gm, mc, hv, trivial, (World.ownsRow.lt hown gm (by rw [hv]; rfl)).2⟩
  rw [hv] at hMa' ⊢
  have SP0 : SpL w wr wr.heap.size s (Ws.map (·.x)) (skO rs) 0 (.slice none 0 0) [] := ⟨TkR.zero _, (fun g h => by cases h), Nat.le_refl _, Nat.zero_le _, hK, fun l e h => h⟩
  have HMa : Hid (MaM wr (fun z => w.heap.size ≤ z) s N (.slice (some ⟨gm, 0, none⟩) i mc) ds Ws) := hMa'
  obtain ⟨W0, hW0⟩ : ∃ W0 : World, W0 = wr := ⟨_, rfl⟩
  subst hW0
  obtain ⟨m, hm⟩ : ∃ m : Nat, m = i := ⟨_, rfl⟩
  subst hm
  clear hv hMa hMa' hfr hi hlt
  go_wp2_with fail
  go_loopw [9, 10] (fun q9 q wr => ∃ (j : Nat) (L : List Tok), q = .int .i64 j ∧ SpL w wr W0.heap.size s (Ws.map (·.x)) (skO rs) j q9 L ∧ Keeps [] W0 wr) (fun _ q _ => s.size - (intOf q).toNat)
  case atStart => exact ⟨0, [], rfl, SP0, Keeps.refl _ _⟩
  case round =>
   clear SP0
   obtain ⟨j, L, rfl, SP, hKr⟩ := hrel
   obtain ⟨ya, yn, yc, rfl⟩ := ownsRow_sl SP.row
   have hjs := SP.ile
   have hj0 : (0 : Int) ≤ (j : Int) := by omega
   by_cases hlt : j < s.size
   ·have hlt' : (j : Int) < (s.size : Int) := by omega
    have HJ : Hid (j < s.size) := hlt
    have hC := lngst_any s N HN HS.out Ws ds _ gm m mc j HNn.out.1 HNn.out.2.2 hjs wr (HMa.out.keep hKr)
    clear hlt hjs
    go_wp2_with fail
    refine hC.mono ?_
    rintro e w2 ⟨r, k, rfl, hrk, hk2⟩
    have hK2 := hKr.trans hk2
    rcases hrk with ⟨hr, hbest⟩ | ⟨rfl, hnone⟩
    ·obtain ⟨W, hW⟩ : ∃ W, Ws[r]? = some W := ⟨_, List.getElem?_eq_getElem (by have := HNn.out.1; omega)⟩
     obtain ⟨_, u, hu, hq, _⟩ := hM.parts r W hW
     have hrg := HC.out w2 r W u (hK.trans hK2) hW hq
     have hsk := hrg 4 (.bool (skO rs r)) rfl
     have hr0 : (0 : Int) ≤ (r : Int) := by omega
     have hrm : (r : Int) < (m : Int) := by omega
     have hjk : ((k : Int) == (j : Int)) = false := by have := hbest.1; simp; omega
     have hjk' : ¬ (k : Int) = (j : Int) := by have := hbest.1; omega
     have HBe : Hid (BestT s (Ws.map (·.x)) j r k) := hbest
     have hkI : (k : Int) ≤ 100 := by have := hbest.2.1; have := HS.out; omega
     cases hb : skO rs r with
     | true =>
      rw [hb] at hsk
      have SP2 : SpL w w2 W0.heap.size s (Ws.map (·.x)) (skO rs) k (.slice ya yn yc) L := ⟨SP.row.keep hk2 (by simp), SP.fresh, by have := SP.len; have := hbest.1; omega, hbest.2.1, SP.keep.trans hk2, fun l e h => SP.says l e (.skip j r k l e hbest hb h)⟩
      have HB : Hid (j < k) := hbest.1
      clear hb hbest hrg hq hW hC SP
      go_wp2_with fail
      go_roundw
      case rel => exact ⟨k, L, rfl, SP2, hK2⟩
      case measure => have := HB.out; have := HJ.out; simp [intOf]; omega
     | false =>
      rw [hb] at hsk
      have hjs' : (j : Int) ≤ (s.size : Int) := by omega
      have hP := position_any s j (by have := HJ.out; omega) HS.out
      have hlp := lnC_pos s j
      obtain ⟨ln, hln⟩ : ∃ z, (lnC s j).1 = z := ⟨_, rfl⟩
      obtain ⟨cl, hcl⟩ : ∃ z, (lnC s j).2 = z := ⟨_, rfl⟩
      rw [hln, hcl] at hP hlp
      have hto := fun l e h => SP.says _ e (.tok j r k l e hbest hb h)
      rw [hln, hcl] at hto
      have HT : Hid (∀ l e, Tks s (Ws.map (·.x)) (skO rs) k l e → Tks s (Ws.map (·.x)) (skO rs) 0 (L ++ (⟨r, j, k, ln, cl⟩ :: l)) e) := hto
      have hown2 : w2.ownsRow 0 111 5 (.slice ya yn yc) L.length (tkV L) := SP.row.keep hk2 (by simp)
      have hLl := SP.len
      obtain ⟨n0, hn0⟩ : ∃ n0, L.length = n0 := ⟨_, rfl⟩
      rw [hn0] at hown2 hLl
      have HL0 : Hid (L.length = n0 ∧ n0 ≤ j) := ⟨hn0, hLl⟩
      obtain ⟨i0, hi0', hz0', hz1', hz2'⟩ := info_parts infoTok
      have hun := Tryz.underlying37
      have hlm : n0 + 1 ≤ maxLen := by unfold maxLen; have := HJ.out; have := HS.out; omega
      have hbt : (n0 + 1) * 40 ≤ 140737488355328 := by have := HJ.out; have := HS.out; omega
      have hH : (w2.alloc (.cells #[.int .i64 r, .int .i64 j, .int .i64 k, .int .i64 ln, .int .i64 cl] 111)).heap.size = w2.heap.size + 1 := by simp
      have hnews : ∀ q x, [Value.int .i64 r, .int .i64 j, .int .i64 k, .int .i64 ln, .int .i64 cl][q]? = some x → (w2.alloc (.cells #[.int .i64 r, .int .i64 j, .int .i64 k, .int .i64 ln, .int .i64 cl] 111)).cell? ((⟨w2.heap.size, 0, none⟩ : Addr).add q) = some x := World.news_of_block (cs := #[.int .i64 r, .int .i64 j, .int .i64 k, .int .i64 ln, .int .i64 cl]) (heap_alloc_new w2 _)
      have h1c : ∀ x ∈ [Value.int .i64 r, .int .i64 j, .int .i64 k, .int .i64 ln, .int .i64 cl], x.oneCell' = true := by
       intro x hx
       simp only [List.mem_cons, List.not_mem_nil, or_false] at hx
       rcases hx with rfl | rfl | rfl | rfl | rfl <;> rfl
      have hfr0 := SP.fresh
      have hkp := SP.keep
      have HB : Hid (j < k ∧ k ≤ s.size) := ⟨hbest.1, hbest.2.1⟩
      clear hb hbest hrg hq hW hC SP hto hln hcl hlp hn0 hLl
      go_wp2_with fail
      refine (hP w2).mono ?_
      rintro e w3 ⟨rfl, rfl⟩
      go_wp2_with (first | (at_builtin; refine wpList_append_lies _ rfl _ _ _ rfl 0 111 i0 _ 5 40 hun hi0' hz0' hz1' hz2' rfl (by decide) (.slice ya yn yc) n0 (tkV L) rfl (hown2.alloc _) ⟨w3.heap.size, 0, none⟩ 1 1 [.int .i64 r, .int .i64 j, .int .i64 k, .int .i64 ln, .int .i64 cl] rfl rfl hnews h1c (by omega) hlm hbt (Nat.zero_le _) (w3.heap.size + 1) hH ?_))
      intro g' cap w5 hown5 hgrow hat hlt5
      have hk5 : Keeps (Value.slice ya yn yc).ownBlock.toList w3 w5 := ((Keeps.refl _ w3).alloc _).trans (Keeps.ofGrown hgrow)
      have hW3 := hK2.size
      have hw0 := hK.size
      have SP5 : SpL w w5 W0.heap.size s (Ws.map (·.x)) (skO rs) k (.slice (some ⟨g', 0, none⟩) (n0 + 1) cap) (L ++ [⟨r, j, k, ln, cl⟩]) := by
       refine ⟨?_, ?_, ?_, HB.out.2, ?_, ?_⟩
       ·unfold TkR
        rw [List.length_append, HL0.out.1, tkV_app]
        exact hown5
       ·intro y hy
        cases hy
        rcases hat with h | h
        ·exact hfr0 _ h
        ·show W0.heap.size ≤ g'
         omega
       ·rw [List.length_append, HL0.out.1]; have := HL0.out.2; have := HB.out.1; simp; omega
       ·exact (hkp.trans hk2).fresh hk5 (by
          intro y hy
          rw [Option.mem_toList] at hy
          exact Or.inr (by have := hfr0 y hy; omega))
       ·intro l e h
        rw [List.append_assoc]
        exact HT.out l e h
      have hK5 : Keeps [] W0 w5 := hK2.fresh hk5 (by
        intro y hy
        rw [Option.mem_toList] at hy
        exact Or.inr (hfr0 y hy))
      clear hown5 hgrow hnews hH h1c hk5 hown2 hat hsk
      go_wp2_with fail
      go_roundw
      case rel => exact ⟨k, _, rfl, SP5, hK5⟩
      case measure => have := HB.out; have := HJ.out; simp [intOf]; omega
    ·have hjk : ((k : Int) == (k : Int)) = true := by simp
     have HE : Hid (Tks s (Ws.map (·.x)) (skO rs) 0 L k) := by
      have := SP.says [] k (.fin k hnone)
      rw [List.append_nil] at this
      exact this
     have hrow := SP.row.keep hk2 (by simp)
     have hkE := SP.keep.trans hk2
     have hfrE : ∀ g, (Value.slice ya yn yc).ownBlock = some g → w.heap.size ≤ g := fun g hg => by have := SP.fresh g hg; have := hK.size; omega
     clear hnone hC SP
     go_wp2_with fail
     go_ret2
     exact ⟨_, L, k, rfl, HE.out, hrow, hfrE, hkE⟩
   ·have he : j = s.size := by omega
    have hnl : ¬ (j : Int) < (s.size : Int) := by omega
    have HE : Hid (Tks s (Ws.map (·.x)) (skO rs) 0 L j) := by
     have := SP.says [] j (.fin j (fun m k x h1 h2 => by omega))
     rw [List.append_nil] at this
     exact this
    have hrow := SP.row
    have hkE := SP.keep
    have hfrE : ∀ g, (Value.slice ya yn yc).ownBlock = some g → w.heap.size ≤ g := fun g hg => by have := SP.fresh g hg; have := hK.size; omega
    clear he hlt hjs SP
    go_wp2_with fail
    go_ret2
    exact ⟨_, L, j, rfl, HE.out, hrow, hfrE, hkE⟩
end Go.Proofs.YtnfojonmohijpaaGreatDoor
namespace Go.Proofs.YtnfojonmohijpaaGreatDoor
open Go.RowKit
theorem RulesA.many {rs : List Rul} {Ws : List Whole} (h : RulesA rs Ws 0) : 1 ≤ Ws.length ∧ Ws.length ≤ 8 := by
 rcases h with ⟨_, _, h⟩ | ⟨h1, h8, ⟨_, _, _, _, h⟩ | ⟨_, h, _⟩⟩
 ·cases h
 ·exact absurd rfl h
 ·omega
set_option maxRecDepth 100000 in
set_option maxHeartbeats 4000000 in
theorem ytokens_any (v : Value) (rs : List Rul) (s : ByteArray) (w : World) (hr : RulIs w v rs) (hgn : GN w) :
    Calls Tryz.prog 54 #[v, .string s] w fun e w' => ∃ (vl : Value) (L : List Tok) (j : Nat) (n : Int), e = .returned (.tuple #[vl, .int .i64 j, .int .i64 n]) ∧ TokA rs s L j n ∧ TkR w' vl L ∧ (∀ g, vl.ownBlock = some g → w.heap.size ≤ g) ∧ Keeps [] w w' := by
 obtain ⟨va, vn, vc, rfl⟩ : IsSl v := by
  rcases hr.rd with ⟨_, a, c, rfl⟩ | ⟨g, o, c, rfl, _⟩
  ·exact ⟨_, _, _, rfl⟩
  ·exact ⟨_, _, _, rfl⟩
 go_enter Tryz.func54, Tryz.ntmps54
 go_wp2_with fail
 refine (readRules_any _ rs w hr hgn).mono ?_
 rintro e w1 ⟨hk1, u, n, Ws, rfl, hA, hc⟩
 rcases hc with ⟨hn, rfl⟩ | ⟨rfl, cs, hM, hfr⟩
 ·have HA : Hid (TokA rs s [] 0 n) := ⟨Ws, n, hA, Or.inl ⟨hn, rfl, rfl, rfl⟩⟩
  have n1 : (n == 0) = false := by simpa using hn
  have n2 : ¬ n = 0 := hn
  clear hA hn hr hgn
  go_wp2_with fail
  go_ret3
  exact ⟨_, [], 0, n, rfl, HA.out, TkR.zero _, (fun g h => by cases h), hk1⟩
 obtain ⟨h1, h8⟩ := hA.many
 obtain ⟨g, c, rfl, _, hg⟩ := hM.own.form h1
 by_cases hl : 100 < s.size
 ·have HA : Hid (TokA rs s [] 0 1) := ⟨Ws, 0, hA, Or.inr ⟨rfl, Or.inl ⟨hl, rfl, rfl, rfl⟩⟩⟩
  have l1 : (100 : Int) < (s.size : Int) := by omega
  have l2 : decide ((100 : Int) < (s.size : Int)) = true := by simp; omega
  clear hA hl hr hgn hM
  go_wp2_with fail
  go_ret3
  exact ⟨_, [], 0, 1, rfl, HA.out, TkR.zero _, (fun g h => by cases h), hk1⟩
 have l1 : (s.size : Int) ≤ 100 := by omega
 have l2 : decide ((100 : Int) < (s.size : Int)) = false := by simp; omega
 have l3 : ¬ (100 : Int) < (s.size : Int) := by omega
 have HA : Hid (RulesA rs Ws 0) := hA
 have HL : Hid (s.size ≤ 100) := (by omega : s.size ≤ 100)
 have HC := split_any s HL.out rs Ws cs _ g Ws.length c rfl h1 h8 w1 hM
 obtain ⟨n, hn⟩ : ∃ n, Ws.length = n := ⟨_, rfl⟩
 rw [hn] at HC ⊢
 clear hA hl hr hgn hM hn h1 h8
 go_wp2_with fail
 refine HC.mono ?_
 rintro e w2 ⟨vl, L, j, rfl, hT, hrow, hfr2, hk2⟩
 obtain ⟨xa, xn, xc, rfl⟩ := ownsRow_sl hrow
 have HT : Hid (TokA rs s L j 0) := ⟨Ws, 0, HA.out, Or.inr ⟨rfl, Or.inr ⟨HL.out, rfl, hT⟩⟩⟩
 have hkE := hk1.trans hk2
 have hfE : ∀ g, (Value.slice xa xn xc).ownBlock = some g → w.heap.size ≤ g := fun g hg => by have := hfr2 g hg; have := hk1.size; omega
 clear hT HC hfr2 hk2
 go_wp2_with fail
 go_ret3
 exact ⟨_, L, j, 0, rfl, HT.out, hrow, hfE, hkE⟩
end Go.Proofs.YtnfojonmohijpaaGreatDoor
namespace Go.Proofs.YtnfojonmohijpaaGreatDoor
open Go.RowKit
theorem RulIs.len' {w : World} {a : Option Addr} {n c : Nat} {rs : List Rul} (h : RulIs w (.slice a n c) rs) : n = rs.length := by
 rcases h.rd with ⟨rfl, a, c, e⟩ | ⟨g, o, c, e, _⟩ <;> cases e <;> rfl
theorem RulIs.at {w : World} {a : Option Addr} {n c : Nat} {rs : List Rul} (h : RulIs w (.slice a n c) rs) {k : Nat} (hk : k < n) : ∃ g o r, a = some ⟨g, o, none⟩ ∧ rs[k]? = some r ∧ w.rangeAt g (o + k * 3) (ruC r) := by
 have hn := h.len'
 rcases h.rd with ⟨rfl, a, c, e⟩ | ⟨g, o, c, e, hc, _⟩
 ·cases e; omega
 ·cases e
  exact ⟨g, o, rs[k]'hk, rfl, List.getElem?_eq_getElem hk, hc k _ (List.getElem?_eq_getElem hk)⟩
def mkd (rs : List Rul) (n i k : Nat) : Rul := if n ≤ k ∧ k < i then mkR else rs[k]?.getD zR
def wpd (rs : List Rul) (n m i k : Nat) : Rul := if k < i then zR else mkd rs n m k
theorem cells3 {w : World} {g o : Nat} {r : Rul} (h : w.rangeAt g o (ruC r)) : w.cell? ⟨g, o, none⟩ = some (.string r.nm) ∧ w.cell? ⟨g, o + 1, none⟩ = some (.string r.pt) ∧ w.cell? ⟨g, o + 2, none⟩ = some (.bool r.sk) := ⟨h 0 _ rfl, h 1 _ rfl, h 2 _ rfl⟩
theorem cells5 {w : World} {g o : Nat} {a b c d e : Value} (h : w.rangeAt g o [a, b, c, d, e]) : w.cell? ⟨g, o, none⟩ = some a ∧ w.cell? ⟨g, o + 1, none⟩ = some b ∧ w.cell? ⟨g, o + 2, none⟩ = some c ∧ w.cell? ⟨g, o + 3, none⟩ = some d ∧ w.cell? ⟨g, o + 4, none⟩ = some e := ⟨h 0 _ rfl, h 1 _ rfl, h 2 _ rfl, h 3 _ rfl, h 4 _ rfl⟩
theorem TkR.max {w : World} {v : Value} {L : List Tok} (h : TkR w v L) : L.length ≤ 9223372036854775807 := by
 rcases h.2 with ⟨_, h0⟩ | ⟨g, cap, cur, _, _, _, h1, h2, _⟩
 ·rw [h0]; decide
 ·unfold maxLen at h2; omega
set_option maxRecDepth 100000 in
set_option maxHeartbeats 8000000 in
theorem law_tokens (v : Value) (rs : List Rul) (s : ByteArray) (w : World) (hr : RulIs w v rs) (hsz : rs.length ≤ 3518437208780) (hgn : GN w) :
    Calls Tryz.prog 25 #[v, .string s] w fun e w' => ∃ (vl : Value) (L : List Tok) (j : Nat) (n : Int), e = .returned (.tuple #[vl, .bool true]) ∧ TokA rs s L j n ∧ TkR w' vl L ∧ (∀ g, vl.ownBlock = some g → w.heap.size ≤ g) ∧ Keeps [] w w' := by
 obtain ⟨va, n, vc, rfl⟩ : IsSl v := by
  rcases hr.rd with ⟨_, a, c, rfl⟩ | ⟨g, o, c, rfl, _⟩
  ·exact ⟨_, _, _, rfl⟩
  ·exact ⟨_, _, _, rfl⟩
 have hnl := hr.len'
 have HN : Hid (n = rs.length ∧ rs.length ≤ 3518437208780) := ⟨hnl, hsz⟩
 have hn1 : (n : Int) ≤ 3518437208780 := by omega
 have hm1 : P3r (w.alloc (.cells #[.string ⟨#[109, 97, 114, 107]⟩, .string ⟨#[109]⟩, .bool false] 41)) w.heap.size mkR := heap_alloc_new w _
 have hk1 : Keeps [] w (w.alloc (.cells #[.string ⟨#[109, 97, 114, 107]⟩, .string ⟨#[109]⟩, .bool false] 41)) := (Keeps.refl [] w).alloc _
 have HB : Hid (w.heap.size ≤ w.heap.size) := Nat.le_refl _
 clear hsz hnl
 go_enter Tryz.func25, Tryz.ntmps25
 go_upto_region 3 with (fail)
 generalize w.alloc (.cells #[.string ⟨#[109, 97, 114, 107]⟩, .string ⟨#[109]⟩, .bool false] 41) = w1 at *
 obtain ⟨bm, hbm⟩ : ∃ b, w.heap.size = b := ⟨_, rfl⟩
 have HBM : Hid (w.heap.size = bm) := hbm
 rw [hbm] at hm1 ⊢
 clear hbm HB
 obtain ⟨i0, hi0, hz0, hz1, hz2⟩ := info_parts infoRul
 have hun := Tryz.underlying36
 have hbw : (bm : Nat) < w1.heap.size := hm1.lt
 obtain ⟨m, hm⟩ : ∃ m, m = n + 8 := ⟨_, rfl⟩
 have HM : Hid (m = n + 8) := hm
 clear hm
 go_upto_region 4 with (first | (refine wpList_make_full w1 rfl _ _ 36 rfl 0 41 i0 (.agg #[.string ⟨#[]⟩, .string ⟨#[]⟩, .bool false]) 3 hun hi0 hz0 hz1 .i64 .i64 ((n : Int) + 8) ((n : Int) + 8) m rfl rfl (by have := HM.out; omega) (by have := HM.out; omega) (by have := HM.out; rw [hz2]; omega) (by have := HM.out; unfold maxLen; omega) (Nat.zero_le _) ?_; intro w2 hown hgr))
 have hO2 := OwR.made hown
 have hk2 : Keeps [] w1 w2 := Keeps.ofGrownNone hgr
 obtain ⟨h, hh⟩ : ∃ h, w1.heap.size = h := ⟨_, rfl⟩
 rw [hh] at hO2 ⊢
 have HH : Hid (w.heap.size ≤ h ∧ bm ≠ h) := ⟨by have := hk1.size; omega, by omega⟩
 have hK2 := hk1.trans hk2
 have hr2 := hr.keep hK2
 have hm2 := hm1.keep hk2 (by simp)
 have hcp := copy_rules 3 hr2 hO2 (by have := HN.out; have := HM.out; omega)
 have hO3 := hO2.copied (rs := rs) (by have := HN.out; have := HM.out; omega)
 have hkS : Keeps [h] w2 (w2.setCells h 0 (rs.flatMap ruC)) := Keeps.setCells (by simp) _ w2 0 (Keeps.refl [h] w2)
 have hK3 : Keeps [] w (w2.setCells h 0 (rs.flatMap ruC)) := hK2.fresh hkS (by intro x hx; simp at hx; have := HH.out; omega)
 have hm3 := hm2.keep hkS (by simp; exact HH.out.2)
 rw [← HN.out.1] at hcp
 clear hgr hown hk2 hbw hh hm1 hm2 hO2 hr2 hkS hK2 hk1
 go_upto_region 5 with (first | (refine Lib.wpList_copy_run w2 rfl (.tmp 25) (.tmp 26) 36 36 rfl (.slice (some ⟨h, 0, none⟩) m m) (.slice va n vc) rfl rfl hcp ?_; generalize w2.setCells h 0 (rs.flatMap ruC) = w3 at *))
 clear hcp
 have hL0 : OwR w3 h m (mkd rs n n) := hO3.ext fun k _ => by unfold mkd; rw [if_neg (by omega)]
 have hn8 : (n : Int) + 8 = (m : Int) := by have := HM.out; omega
 have hw8 : wrap64 (m : Int) = (m : Int) := by have := HM.out; unfold wrap64; omega
 have hmI : (m : Int) ≤ 3518437208788 := by have := HM.out; omega
 clear hO3
 go_wp2_with fail
 go_loopw [9] (fun q9 wr => ∃ i : Nat, q9 = .int .i64 i ∧ n ≤ i ∧ i ≤ m ∧ OwR wr h m (mkd rs n i) ∧ P3r wr bm mkR ∧ Keeps [] w wr) (fun q _ => m - (intOf q).toNat)
 case atStart => exact ⟨n, rfl, Nat.le_refl _, by have := HM.out; omega, hL0, hm3, hK3⟩
 case round =>
  clear hL0 hm3 hK3
  obtain ⟨i, rfl, hni, him, hO, hmk, hK⟩ := hrel
  have hi0' : (0 : Int) ≤ (i : Int) := by omega
  by_cases hlt : i < m
  ·have hlt' : (i : Int) < (m : Int) := by omega
   have HI : Hid (i < m ∧ n ≤ i) := ⟨hlt, hni⟩
   have hth := hO.mid hlt
   have hkS : Keeps [h] wr (wr.setCells h (i * 3) (ruC mkR)) := Keeps.setCells (by simp) _ wr _ (Keeps.refl [h] wr)
   have hO' : OwR (wr.setCells h (i * 3) (ruC mkR)) h m (mkd rs n (i + 1)) := (hO.put hlt mkR).ext fun k _ => by
    unfold mkd
    by_cases e : k = i
    ·rw [if_pos e, if_pos (by omega)]
    ·rw [if_neg e]
     by_cases e2 : n ≤ k ∧ k < i
     ·rw [if_pos e2, if_pos (by omega)]
     ·rw [if_neg e2, if_neg (by omega)]
   have hmk' := hmk.keep hkS (by simp; exact HH.out.2)
   have hK' : Keeps [] w (wr.setCells h (i * 3) (ruC mkR)) := hK.fresh hkS (by intro x hx; simp at hx; have := HH.out; omega)
   have hmb : wr.heap[bm]? = some (.cells #[.string mkR.nm, .string mkR.pt, .bool mkR.sk] 41 (0, 0)) := hmk
   have hi3 := infoRu3 (.string mkR.nm) (.string mkR.pt) (.bool mkR.sk)
   have hone := three_one mkR.nm mkR.pt mkR.sk
   clear hO hmk hkS hni him hlt hK
   go_wp2_with (first | (refine wpList_load_row rfl 41 _ rfl bm rfl _ _ _ _ hmb Tryz.underlying41 rfl hi3 ?_) | (refine wpList_store_mid rfl 41 _ _ rfl h (i * 3) #[.string mkR.nm, .string mkR.pt, .bool mkR.sk] rfl rfl hth hi3 hone ?_))
   exact ⟨⟨i + 1, by go_num, by have := HI.out; omega, HI.out.1, hO', hmk', hK'⟩, by have := HI.out; simp [intOf]; omega⟩
  ·have hie : i = m := by omega
   subst hie
   have hlt' : ¬ (i : Int) < (i : Int) := by omega
   have hgr := hgn.keep hK (by simp)
   have hOm : OwR wr h i (wpd rs n i 0) := hO.ext fun k _ => by unfold wpd; rw [if_neg (by omega)]
   have HO : Hid (OwR wr h i (wpd rs n i 0) ∧ P3r wr bm mkR ∧ Keeps [] w wr ∧ h < wr.heap.size) := ⟨hOm, hmk, hK, hO.lt (by have := HM.out; omega)⟩
   have HRu : Hid (RulIs wr (.slice (some ⟨h, 0, none⟩) n i) rs) := by
    have h1 := hO.rules (rs := rs) (by have := HN.out; have := HM.out; omega) (by have := HM.out; have := HN.out; omega) (fun k r hk => by unfold mkd; rw [if_neg (by have := (List.getElem?_eq_some_iff.1 hk).1; have := HN.out.1; omega), hk]; rfl)
    rw [← HN.out.1] at h1
    exact h1
   have heq := fun X : World => Lib.run_eql_slice_nil (P := Tryz.prog) X 36 41 va n vc 0 0 hun
   have HR0 : Hid (RulIs w (.slice va n vc) rs) := hr
   clear hlt hni him hO hmk hOm hK hr
   go_upto_if 43 with (fail)
   go_cut [10] from 44 to 44 (fun q10 wx => RulIs wx q10 rs ∧ IsSl q10 ∧ wx = wr)
   case first =>
    cases va with
    | none =>
     go_wp2_with fail
     go_meet
     exact ⟨⟨by have := HN.out; omega, Or.inl ⟨(by
       rcases HR0.out.rd with ⟨h0, _⟩ | ⟨g, o, c, e, _⟩
       · exact h0
       · cases e), none, 0, rfl⟩⟩, ⟨_, _, _, rfl⟩, rfl⟩
    | some ad =>
     go_wp2_with fail
     go_meet
     exact ⟨HRu.out, ⟨_, _, _, rfl⟩, rfl⟩
   case rest =>
    obtain ⟨hRu, ⟨xa, xn, xc, rfl⟩, rfl⟩ := hcut
    clear HRu heq
    generalize va.isNone = bn
    go_wp2_with fail
    refine (ytokens_any _ rs s _ hRu hgr).mono ?_
    rintro e w5 ⟨vl, L, j, ne, rfl, hA, hT, hfr, hk5⟩
    obtain ⟨la, lc, rfl, hlg⟩ := hT.sl
    obtain ⟨ll, hll⟩ : ∃ z, L.length = z := ⟨_, rfl⟩
    rw [hll] at hT hfr hlg ⊢
    have HLL : Hid (L.length = ll) := hll
    have HA : Hid (TokA rs s L j ne) := hA
    obtain ⟨hOm, hmk, hK, hhl⟩ := HO.out
    have hm0 : 0 < i := by have := HM.out; omega
    have hO5 := hOm.keep hm0 hk5 (by simp)
    have hmk5 := hmk.keep hk5 (by simp)
    have hK5 := hK.trans hk5
    have HV : Hid (∀ g, (Value.slice la ll lc).ownBlock = some g → g ≠ h ∧ w.heap.size ≤ g) := fun g hg => by
     have h1 := hfr g hg
     have h2 := hK.size
     exact ⟨by omega, by omega⟩
    have HLG : Hid (0 < ll → ∃ g, la = some ⟨g, 0, none⟩) := hlg
    obtain ⟨m, hm⟩ : ∃ m, m = i := ⟨_, rfl⟩
    subst hm
    clear hll hA hOm hmk hK hhl hk5 hfr hRu hgr HO hlg
    go_wp2_with fail
    go_loopw [14] (fun q14 wr => ∃ i : Nat, q14 = .int .i64 i ∧ i ≤ m ∧ OwR wr h m (wpd rs n m i) ∧ P3r wr bm mkR ∧ TkR wr (.slice la ll lc) L ∧ Keeps [] w wr) (fun q _ => m - (intOf q).toNat)
    case atStart => exact ⟨0, rfl, Nat.zero_le _, hO5, hmk5, hT, hK5⟩
    case round =>
     clear hO5 hmk5 hT hK5
     obtain ⟨i, rfl, him, hO, hmk, hT, hK⟩ := hrel
     have hi0'' : (0 : Int) ≤ (i : Int) := by omega
     by_cases hlt : i < m
     ·have hlt' : (i : Int) < (m : Int) := by omega
      have HI : Hid (i < m) := hlt
      have hrgO := hO.rg i hlt
      have HO0 : Hid (OwR wr h m (wpd rs n m i) ∧ P3r wr bm mkR ∧ TkR wr (.slice la ll lc) L ∧ Keeps [] w wr) := ⟨hO, hmk, hT, hK⟩
      by_cases hin : i < n
      ·have hin' : (i : Int) < (n : Int) := by omega
       have hin2 : decide ((i : Int) < (n : Int)) = true := by simpa using hin'
       obtain ⟨g, o, r, hva, hri, hrg⟩ := (HR0.out.keep hK).at hin
       subst hva
       have hR : wpd rs n m i i = r := by unfold wpd mkd; rw [if_neg (by omega), if_neg (by omega), hri]; rfl
       rw [hR] at hrgO
       obtain ⟨a0, a1, a2⟩ := cells3 hrgO
       obtain ⟨b0, b1, b2⟩ := cells3 hrg
       have hne := neqRul r.nm r.pt r.sk
       have hge : decide ((n : Int) ≤ (i : Int)) = false := by simp; omega
       have hge' : ¬ (n : Int) ≤ (i : Int) := by omega
       clear hO hmk hT hK hin hlt him hrg hri hR hrgO
       go_upto_region 16 with (fail)
       go_quiet (fail)
       have hkD : Keeps [] wr (wr.drewN nq) := (Keeps.refl [] wr).drewN nq
       have hO1 := HO0.out.1.keep (by have := HM.out; omega) hkD (by simp)
       have hmk1 := HO0.out.2.1.keep hkD (by simp)
       have hT1 := HO0.out.2.2.1.keep hkD (by simp)
       have hK1 := HO0.out.2.2.2.trans hkD
       generalize wr.drewN nq = X at *
       have hth := hO1.mid HI.out
       have hkS : Keeps [h] X (X.setCells h (i * 3) (ruC zR)) := Keeps.setCells (by simp) _ X _ (Keeps.refl [h] X)
       have hO' : OwR (X.setCells h (i * 3) (ruC zR)) h m (wpd rs n m (i + 1)) := (hO1.put HI.out zR).ext fun k _ => by
        unfold wpd
        by_cases e : k = i
        ·rw [if_pos e, if_pos (by omega)]
        ·rw [if_neg e]
         by_cases e2 : k < i
         ·rw [if_pos e2, if_pos (by omega)]
         ·rw [if_neg e2, if_neg (by omega)]
       have hmk' := hmk1.keep hkS (by simp; exact HH.out.2)
       have hT' : TkR (X.setCells h (i * 3) (ruC zR)) (.slice la ll lc) L := hT1.keep hkS (by intro g hg; simp; exact (HV.out g hg).1)
       have hK' : Keeps [] w (X.setCells h (i * 3) (ruC zR)) := hK1.fresh hkS (by intro x hx; simp at hx; have := HH.out; omega)
       have hi3 := infoRu3 (.string zR.nm) (.string zR.pt) (.bool zR.sk)
       have hone := three_one zR.nm zR.pt zR.sk
       clear hO1 hmk1 hT1 hK1 hkS hkD hne a0 a1 a2 b0 b1 b2
       go_wp2_with (first | (refine wpList_store_mid rfl 41 _ _ rfl h (i * 3) #[.string zR.nm, .string zR.pt, .bool zR.sk] rfl rfl hth hi3 hone ?_))
       go_roundw
       case rel => exact ⟨i + 1, by go_num, HI.out, hO', hmk', hT', hK'⟩
       case measure => have := HI.out; simp [intOf]; omega
      ·have hin' : ¬ (i : Int) < (n : Int) := by omega
       have hin2 : decide ((i : Int) < (n : Int)) = false := by simp; omega
       have hR : wpd rs n m i i = mkR := by unfold wpd mkd; rw [if_neg (by omega), if_pos (by omega)]
       rw [hR] at hrgO
       obtain ⟨a0, a1, a2⟩ := cells3 hrgO
       obtain ⟨b0, b1, b2⟩ := hmk.main
       have hne := neqRul mkR.nm mkR.pt mkR.sk
       have hge : decide ((n : Int) ≤ (i : Int)) = true := by simp; omega
       have hge' : (n : Int) ≤ (i : Int) := by omega
       clear hO hmk hT hK hin hlt him hR hrgO
       go_upto_region 16 with (fail)
       go_quiet (fail)
       have hkD : Keeps [] wr (wr.drewN nq) := (Keeps.refl [] wr).drewN nq
       have hO1 := HO0.out.1.keep (by have := HM.out; omega) hkD (by simp)
       have hmk1 := HO0.out.2.1.keep hkD (by simp)
       have hT1 := HO0.out.2.2.1.keep hkD (by simp)
       have hK1 := HO0.out.2.2.2.trans hkD
       generalize wr.drewN nq = X at *
       have hth := hO1.mid HI.out
       have hkS : Keeps [h] X (X.setCells h (i * 3) (ruC zR)) := Keeps.setCells (by simp) _ X _ (Keeps.refl [h] X)
       have hO' : OwR (X.setCells h (i * 3) (ruC zR)) h m (wpd rs n m (i + 1)) := (hO1.put HI.out zR).ext fun k _ => by
        unfold wpd
        by_cases e : k = i
        ·rw [if_pos e, if_pos (by omega)]
        ·rw [if_neg e]
         by_cases e2 : k < i
         ·rw [if_pos e2, if_pos (by omega)]
         ·rw [if_neg e2, if_neg (by omega)]
       have hmk' := hmk1.keep hkS (by simp; exact HH.out.2)
       have hT' : TkR (X.setCells h (i * 3) (ruC zR)) (.slice la ll lc) L := hT1.keep hkS (by intro g hg; simp; exact (HV.out g hg).1)
       have hK' : Keeps [] w (X.setCells h (i * 3) (ruC zR)) := hK1.fresh hkS (by intro x hx; simp at hx; have := HH.out; omega)
       have hi3 := infoRu3 (.string zR.nm) (.string zR.pt) (.bool zR.sk)
       have hone := three_one zR.nm zR.pt zR.sk
       clear hO1 hmk1 hT1 hK1 hkS hkD hne a0 a1 a2 b0 b1 b2
       go_wp2_with (first | (refine wpList_store_mid rfl 41 _ _ rfl h (i * 3) #[.string zR.nm, .string zR.pt, .bool zR.sk] rfl rfl hth hi3 hone ?_))
       go_roundw
       case rel => exact ⟨i + 1, by go_num, HI.out, hO', hmk', hT', hK'⟩
       case measure => have := HI.out; simp [intOf]; omega
     ·have hie : i = m := by omega
      subst hie
      have hlt' : ¬ (i : Int) < (i : Int) := by omega
      have hr9 := HR0.out.keep hK
      clear hlt him hO hmk
      go_wp2_with fail
      refine (tokens_ref _ rs s _ hr9).mono ?_
      rintro e w6 ⟨vm, M, j2, n2, rfl, hB, hT2, hfr2, hk6⟩
      obtain ⟨rfl, rfl, rfl⟩ := HA.out.det hB
      obtain ⟨ma, mc, rfl, hmg⟩ := hT2.sl
      rw [HLL.out] at hT2 hmg ⊢
      have hT6 := hT.keep hk6 (by simp)
      have hK6 := hK.trans hk6
      have HMG : Hid (0 < ll → ∃ g, ma = some ⟨g, 0, none⟩) := hmg
      have hll2 : (ll : Int) ≤ 9223372036854775807 := by have := TkR.max hT6; rw [HLL.out] at this; omega
      clear hB hfr2 hk6 hT hK hr9 hmg
      go_wp2_with fail
      go_loopw [18] (fun q18 wr => ∃ k : Nat, q18 = .int .i64 k ∧ k ≤ ll ∧ TkR wr (.slice la ll lc) L ∧ TkR wr (.slice ma ll mc) L ∧ Keeps [] w wr) (fun q _ => ll - (intOf q).toNat)
      case atStart => exact ⟨0, rfl, Nat.zero_le _, hT6, hT2, hK6⟩
      case round =>
       clear hT6 hT2 hK6
       obtain ⟨k, rfl, hkl, hT, hT2, hK⟩ := hrel
       have hk0 : (0 : Int) ≤ (k : Int) := by omega
       by_cases hlt : k < ll
       ·have hkl' : (k : Int) < (ll : Int) := by omega
        have HK : Hid (k < ll) := hlt
        obtain ⟨g1, hg1⟩ := HLG.out (by omega)
        obtain ⟨g2, hg2⟩ := HMG.out (by omega)
        subst hg1
        subst hg2
        obtain ⟨t, ht⟩ : ∃ t, L[k]? = some t := ⟨_, List.getElem?_eq_getElem (by have := HLL.out; omega)⟩
        obtain ⟨a0, a1, a2, a3, a4⟩ := cells5 (hT.range HLL.out ht)
        obtain ⟨b0, b1, b2, b3, b4⟩ := cells5 (hT2.range HLL.out ht)
        have hne := neqTok t.rule t.frm t.to t.line t.col
        have HO : Hid (TkR wr (.slice (some ⟨g1, 0, none⟩) ll lc) L ∧ TkR wr (.slice (some ⟨g2, 0, none⟩) ll mc) L ∧ Keeps [] w wr) := ⟨hT, hT2, hK⟩
        clear hT hT2 hK hkl hlt ht
        go_upto_region 25 with (fail)
        go_quiet (fail)
        have hkD : Keeps [] wr (wr.drewN nq) := (Keeps.refl [] wr).drewN nq
        have hT' := HO.out.1.keep hkD (by simp)
        have hT2' := HO.out.2.1.keep hkD (by simp)
        have hK' := HO.out.2.2.trans hkD
        generalize wr.drewN nq = X at *
        clear hkD hne a0 a1 a2 a3 a4 b0 b1 b2 b3 b4
        go_wp2_with fail
        go_roundw
        case rel => exact ⟨k + 1, by go_num, HK.out, hT', hT2', hK'⟩
        case measure => have := HK.out; simp [intOf]; omega
       ·have hke : k = ll := by omega
        have hkl' : ¬ (k : Int) < (ll : Int) := by omega
        clear hlt hkl
        go_wp2_with fail
        go_ret2
        first | exact ⟨_, rfl, L, ⟨j, ne, HA.out⟩, hT, fun g hg => (HV.out g hg).2, hK⟩ | exact ⟨_, L, j, ne, rfl, HA.out, hT, fun g hg => (HV.out g hg).2, hK⟩
end Go.Proofs.YtnfojonmohijpaaGreatDoor
namespace Go.Proofs.YtnfojonmohijpaaGreatDoor
theorem lit_piece {s : ByteArray} {d g i : Nat} {c : Int} (h : at' s i = c) (h0 : 0 ≤ c) (h1 : c ≠ 40 ∧ c ≠ 91 ∧ c ≠ 46 ∧ c ≠ 92) (h2 : ¬ notC c) (hn : at' s (i + 1) ≠ 42 ∧ at' s (i + 1) ≠ 43 ∧ at' s (i + 1) ≠ 63 ∧ at' s (i + 1) ≠ 123) :
    G s .piece d g i (.ok (.set (stretch c c), g) (i + 1)) := by
 have a := G.lit (s := s) d g i (by rw [h]; exact h0) (by rw [h]; exact h1.1) (by rw [h]; exact h1.2.1) (by rw [h]; exact h1.2.2.1) (by rw [h]; exact h1.2.2.2) (by rw [h]; exact h2)
 rw [h] at a
 exact G.rep d g i g (i + 1) _ (.ok none (i + 1)) a (Or.inl ⟨hn.1, hn.2.1, hn.2.2.1, hn.2.2.2, rfl⟩)
theorem way_cons {s : ByteArray} {d g i g1 j g2 k : Nat} {x r : Pat} (h : ¬ stopC (at' s i)) (h1 : G s .piece d g i (.ok (x, g1) j)) (h2 : G s .way d g1 j (.ok (r, g2) k)) : G s .way d g i (.ok (.pcons x r, g2) k) := G.cons d g i g1 j x (.ok (r, g2) k) h h1 h2
def st (c : Int) : Pat := .set (stretch c c)
end Go.Proofs.YtnfojonmohijpaaGreatDoor
namespace Go.Proofs.YtnfojonmohijpaaGreatDoor
open Go.RowKit
def tkS1 : ByteArray := ⟨#[105, 102]⟩
def tkS2 : ByteArray := ⟨#[91, 97, 45, 122, 93, 43]⟩
def tkS3 : ByteArray := ⟨#[32, 43]⟩
def tkT : ByteArray := ⟨#[105, 102, 32, 105, 102, 102, 121]⟩
def tkX1 : Pat := .wone (.pcons (st 105) (.pcons (st 102) .pnil))
def tkX2 : Pat := .wone (.pcons (.rep 1 (-1) (.set (stretch 97 122))) .pnil)
def tkX3 : Pat := .wone (.pcons (.rep 1 (-1) (st 32)) .pnil)
theorem tk_r1 : PatR tkS1 (.ok ⟨false, false, tkX1, 0⟩ 2) := by
 obtain ⟨h0, h1, h2⟩ : at' tkS1 0 = 105 ∧ at' tkS1 1 = 102 ∧ at' tkS1 2 = -1 := by decide
 have b : G tkS1 .way 0 0 1 (.ok (.pcons (st 102) .pnil, 0) 2) := way_cons (by rw [h1]; unfold stopC; decide) (lit_piece h1 (by decide) (by decide) (by unfold notC; decide) (by rw [h2]; decide)) (G.nil 0 0 2 (by rw [h2]; unfold stopC; decide))
 have c : G tkS1 .way 0 0 0 (.ok (.pcons (st 105) (.pcons (st 102) .pnil), 0) 2) := way_cons (by rw [h0]; unfold stopC; decide) (lit_piece h0 (by decide) (by decide) (by unfold notC; decide) (by rw [h1]; decide)) b
 have hw : wi tkS1 = 0 := by simp [wi, h0]
 refine ⟨.ok (tkX1, 0) 2, ?_, ?_⟩
 ·rw [hw]
  exact G.one 0 0 0 0 2 _ c (by rw [h2]; decide)
 ·simp [PatE_ok, h2, h0]
theorem tk_r2 : PatR tkS2 (.ok ⟨false, false, tkX2, 0⟩ 6) := by
 obtain ⟨h0, h1, h2, h3, h4, h5, h6⟩ : at' tkS2 0 = 91 ∧ at' tkS2 1 = 97 ∧ at' tkS2 2 = 45 ∧ at' tkS2 3 = 122 ∧ at' tkS2 4 = 93 ∧ at' tkS2 5 = 43 ∧ at' tkS2 6 = -1 := by decide
 have r1 : rangeS tkS2 1 = .ok (stretch 97 122) 4 := by simp [rangeS, innS, R.bind, h1, h2, h3]
 have hs : SetR tkS2 1 (.ok (stretch 97 122) 5) := Or.inr ⟨by rw [h1]; decide, SetU.go (stretch 97 122) 1 4 _ r1 (SetL.done _ 4 h4)⟩
 have a : G tkS2 .piece 0 0 0 (.ok (.rep 1 (-1) (.set (stretch 97 122)), 0) 6) := G.rep 0 0 0 0 5 _ (.ok (some (1, -1)) 6) (G.set 0 0 0 (.ok (stretch 97 122) 5) h0 hs) (Or.inr (Or.inr (Or.inl ⟨h5, rfl⟩)))
 have c : G tkS2 .way 0 0 0 (.ok (.pcons (.rep 1 (-1) (.set (stretch 97 122))) .pnil, 0) 6) := way_cons (by rw [h0]; unfold stopC; decide) a (G.nil 0 0 6 (by rw [h6]; unfold stopC; decide))
 have hw : wi tkS2 = 0 := by simp [wi, h0]
 refine ⟨.ok (tkX2, 0) 6, ?_, ?_⟩
 ·rw [hw]
  exact G.one 0 0 0 0 6 _ c (by rw [h6]; decide)
 ·simp [PatE_ok, h6, h0]
theorem tk_r3 : PatR tkS3 (.ok ⟨false, false, tkX3, 0⟩ 2) := by
 obtain ⟨h0, h1, h2⟩ : at' tkS3 0 = 32 ∧ at' tkS3 1 = 43 ∧ at' tkS3 2 = -1 := by decide
 have l := G.lit (s := tkS3) 0 0 0 (by rw [h0]; decide) (by rw [h0]; decide) (by rw [h0]; decide) (by rw [h0]; decide) (by rw [h0]; decide) (by rw [h0]; unfold notC; decide)
 rw [h0] at l
 have a : G tkS3 .piece 0 0 0 (.ok (.rep 1 (-1) (st 32), 0) 2) := G.rep 0 0 0 0 1 _ (.ok (some (1, -1)) 2) l (Or.inr (Or.inr (Or.inl ⟨h1, rfl⟩)))
 have c : G tkS3 .way 0 0 0 (.ok (.pcons (.rep 1 (-1) (st 32)) .pnil, 0) 2) := way_cons (by rw [h0]; unfold stopC; decide) a (G.nil 0 0 2 (by rw [h2]; unfold stopC; decide))
 have hw : wi tkS3 = 0 := by simp [wi, h0]
 refine ⟨.ok (tkX3, 0) 2, ?_, ?_⟩
 ·rw [hw]
  exact G.one 0 0 0 0 2 _ c (by rw [h2]; decide)
 ·simp [PatE_ok, h2, h0]
theorem it_set {s : ByteArray} {f : Nat → Bool} : ∀ {n i j : Nat}, It (Mt s (.set f)) n i j ↔ j = i + n ∧ ∀ k, i ≤ k → k < j → k < s.size ∧ f (at' s k).toNat = true
 | 0, i, j => ⟨fun h => ⟨by have : i = j := h; omega, fun k h1 h2 => by have : i = j := h; omega⟩, fun h => by show i = j; omega⟩
 | n + 1, i, j => by
  constructor
  ·rintro ⟨m, ⟨h1, h2, rfl⟩, h3⟩
   obtain ⟨rfl, h4⟩ := it_set.1 h3
   refine ⟨by omega, fun k h5 h6 => ?_⟩
   by_cases e : k = i
   ·subst e; exact ⟨h1, h2⟩
   ·exact h4 k (by omega) h6
  ·rintro ⟨rfl, h⟩
   exact ⟨i + 1, ⟨(h i (Nat.le_refl _) (by omega)).1, (h i (Nat.le_refl _) (by omega)).2, rfl⟩, it_set.2 ⟨by omega, fun k h1 h2 => h k (by omega) h2⟩⟩
theorem plus_iff {s : ByteArray} {f : Nat → Bool} {i j : Nat} : Mt s (.wone (.pcons (.rep 1 (-1) (.set f)) .pnil)) i j ↔ i < j ∧ ∀ k, i ≤ k → k < j → k < s.size ∧ f (at' s k).toNat = true := by
 constructor
 ·rintro ⟨m, ⟨n, hn, _, h⟩, rfl⟩
  obtain ⟨rfl, h⟩ := it_set.1 h
  exact ⟨by omega, h⟩
 ·rintro ⟨h1, h2⟩
  exact ⟨j, ⟨j - i, by omega, Or.inl (by decide), it_set.2 ⟨by omega, h2⟩⟩, rfl⟩
theorem tk_at : at' tkT 0 = 105 ∧ at' tkT 1 = 102 ∧ at' tkT 2 = 32 ∧ at' tkT 3 = 105 ∧ at' tkT 4 = 102 ∧ at' tkT 5 = 102 ∧ at' tkT 6 = 121 ∧ tkT.size = 7 := by decide
theorem tk_x1 {i j : Nat} : Mt tkT tkX1 i j ↔ (i < 7 ∧ stretch 105 105 (at' tkT i).toNat = true) ∧ (i + 1 < 7 ∧ stretch 102 102 (at' tkT (i + 1)).toNat = true) ∧ j = i + 2 := by
 constructor
 ·rintro ⟨m, ⟨h1, h2, rfl⟩, m2, ⟨h3, h4, rfl⟩, rfl⟩
  exact ⟨⟨h1, h2⟩, ⟨h3, h4⟩, rfl⟩
 ·rintro ⟨⟨h1, h2⟩, ⟨h3, h4⟩, rfl⟩
  exact ⟨i + 1, ⟨h1, h2, rfl⟩, i + 2, ⟨h3, h4, rfl⟩, rfl⟩
def tkR : List Rul := [⟨⟨#[107, 119]⟩, tkS1, false⟩, ⟨⟨#[105, 100]⟩, tkS2, false⟩, ⟨⟨#[119, 115]⟩, tkS3, true⟩]
def tkX : List Pat := [tkX1, tkX2, tkX3]
theorem tk_each {P : Nat → Pat → Prop} (h1 : P 0 tkX1) (h2 : P 1 tkX2) (h3 : P 2 tkX3) : ∀ (k : Nat) (x : Pat), tkX[k]? = some x → P k x := by
 intro k x h
 match k, h with
 | 0, h => cases h; exact h1
 | 1, h => cases h; exact h2
 | 2, h => cases h; exact h3
theorem tk_b0 : BestT tkT tkX 0 0 2 := by
 obtain ⟨a0, a1, a2, a3, a4, a5, a6, hs⟩ := tk_at
 refine ⟨by decide, by rw [hs]; decide, ⟨tkX1, rfl, tk_x1.2 ⟨⟨by decide, by rw [a0]; decide⟩, ⟨by decide, by rw [a1]; decide⟩, rfl⟩⟩, fun k x h => by omega, fun m k x h1 h2 => tk_each (P := fun k x => ¬ Mt tkT x 0 m) ?_ ?_ ?_ k x⟩
 ·intro h
  have := (tk_x1.1 h).2.2
  omega
 ·intro h
  have := ((plus_iff.1 h).2 2 (by omega) h1).2
  rw [a2] at this
  exact absurd this (by decide)
 ·intro h
  have := ((plus_iff.1 h).2 0 (by omega) (by omega)).2
  rw [a0] at this
  exact absurd this (by decide)
theorem tk_b2 : BestT tkT tkX 2 2 3 := by
 obtain ⟨a0, a1, a2, a3, a4, a5, a6, hs⟩ := tk_at
 have n1 : ∀ m, ¬ Mt tkT tkX1 2 m := fun m h => by
  have := (tk_x1.1 h).1.2
  rw [a2] at this
  exact absurd this (by decide)
 have n2 : ∀ m, ¬ Mt tkT tkX2 2 m := fun m h => by
  have h1 := plus_iff.1 h
  have := (h1.2 2 (by omega) h1.1).2
  rw [a2] at this
  exact absurd this (by decide)
 refine ⟨by decide, by rw [hs]; decide, ⟨tkX3, rfl, plus_iff.2 ⟨by decide, fun k h1 h2 => ?_⟩⟩, fun k x h hx => ?_, fun m k x h1 h2 => tk_each (P := fun k x => ¬ Mt tkT x 2 m) (n1 m) (n2 m) ?_ k x⟩
 ·obtain rfl : k = 2 := by omega
  exact ⟨by rw [hs]; decide, by rw [a2]; decide⟩
 ·exact tk_each (P := fun k x => k < 2 → ¬ Mt tkT x 2 3) (fun _ => n1 3) (fun _ => n2 3) (fun h => by omega) k x hx h
 ·intro h
  have := ((plus_iff.1 h).2 3 (by omega) h1).2
  rw [a3] at this
  exact absurd this (by decide)
theorem tk_b3 : BestT tkT tkX 3 1 7 := by
 obtain ⟨a0, a1, a2, a3, a4, a5, a6, hs⟩ := tk_at
 refine ⟨by decide, by rw [hs]; decide, ⟨tkX2, rfl, plus_iff.2 ⟨by decide, fun k h1 h2 => ?_⟩⟩, fun k x h hx => ?_, fun m k x h1 h2 => by rw [hs] at h2; omega⟩
 ·refine ⟨by rw [hs]; exact h2, ?_⟩
  have hk : k = 3 ∨ k = 4 ∨ k = 5 ∨ k = 6 := by omega
  rcases hk with rfl | rfl | rfl | rfl
  ·rw [a3]; decide
  ·rw [a4]; decide
  ·rw [a5]; decide
  ·rw [a6]; decide
 ·refine tk_each (P := fun k x => k < 1 → ¬ Mt tkT x 3 7) (fun _ hm => ?_) (fun h => by omega) (fun h => by omega) k x hx h
  have := (tk_x1.1 hm).2.2
  omega
theorem tk_rules : RulesA tkR [⟨false, false, tkX1, 0⟩, ⟨false, false, tkX2, 0⟩, ⟨false, false, tkX3, 0⟩] 0 := by
 refine Or.inr ⟨by decide, by decide, Or.inr ⟨rfl, rfl, fun k W h => ?_⟩⟩
 have nm : ∀ (a b : UInt8), 97 ≤ (a.toNat : Int) ∧ (a.toNat : Int) ≤ 122 → 97 ≤ (b.toNat : Int) ∧ (b.toNat : Int) ≤ 122 → NameOk ⟨#[a, b]⟩ := fun a b h1 h2 => ⟨by show 1 ≤ 2; decide, by show 2 ≤ 8; decide, fun i hi => by
   have h2' : i < 2 := hi
   match i, h2' with
   | 0, _ => exact h1
   | 1, _ => exact h2⟩
 match k, h with
 | 0, h => cases h; exact ⟨_, rfl, nm 107 119 (by decide) (by decide), fun d q hd => by omega, by decide, 2, tk_r1⟩
 | 1, h =>
  cases h
  refine ⟨_, rfl, nm 105 100 (by decide) (by decide), fun d q hd hq => ?_, by decide, 6, tk_r2⟩
  obtain rfl : d = 0 := by omega
  cases hq
  decide
 | 2, h =>
  cases h
  refine ⟨_, rfl, nm 119 115 (by decide) (by decide), fun d q hd hq => ?_, by decide, 2, tk_r3⟩
  have hd2 : d = 0 ∨ d = 1 := by omega
  rcases hd2 with rfl | rfl
  ·cases hq
   decide
  ·cases hq
   decide
theorem tk_ex {L : List Tok} {j : Nat} {n : Int} (h : TokA tkR tkT L j n) : L.length = 2 := by
 have hT : Tks tkT tkX (skO tkR) 0 [⟨0, 0, 2, (lnC tkT 0).1, (lnC tkT 0).2⟩, ⟨1, 3, 7, (lnC tkT 3).1, (lnC tkT 3).2⟩] 7 :=
  .tok 0 0 2 _ 7 tk_b0 rfl (.skip 2 2 3 _ 7 tk_b2 rfl (.tok 3 1 7 _ 7 tk_b3 rfl (.fin 7 fun m k x h1 h2 => by have := tk_at.2.2.2.2.2.2.2; omega)))
 have hA : TokA tkR tkT _ 7 0 := ⟨_, 0, tk_rules, Or.inr ⟨rfl, Or.inr ⟨by rw [tk_at.2.2.2.2.2.2.2]; decide, rfl, hT⟩⟩⟩
 rw [(h.det hA).1]
 rfl
set_option maxRecDepth 100000 in
set_option maxHeartbeats 2000000 in
theorem law_tokened (v : Value) (rs : List Rul) (s : ByteArray) (w : World) (hr : RulIs w v rs) (hsz : rs.length ≤ 3518437208780) (hgn : GN w) :
    Calls Tryz.prog 7 #[v, .string s] w fun e w' => e = .returned (.bool true) ∧ Keeps [] w w' := by
 obtain ⟨va, n, vc, rfl⟩ : IsSl v := by
  rcases hr.rd with ⟨_, a, c, rfl⟩ | ⟨g, o, c, rfl, _⟩
  ·exact ⟨_, _, _, rfl⟩
  ·exact ⟨_, _, _, rfl⟩
 have hnew := heap_alloc_new w (.cells #[.string ⟨#[107, 119]⟩, .string ⟨#[105, 102]⟩, .bool false, .string ⟨#[105, 100]⟩, .string ⟨#[91, 97, 45, 122, 93, 43]⟩, .bool false, .string ⟨#[119, 115]⟩, .string ⟨#[32, 43]⟩, .bool true] 41)
 have hk1 : Keeps [] w (w.alloc (.cells #[.string ⟨#[107, 119]⟩, .string ⟨#[105, 102]⟩, .bool false, .string ⟨#[105, 100]⟩, .string ⟨#[91, 97, 45, 122, 93, 43]⟩, .bool false, .string ⟨#[119, 115]⟩, .string ⟨#[32, 43]⟩, .bool true] 41)) := (Keeps.refl [] w).alloc _
 have hR1 : RulIs (w.alloc (.cells #[.string ⟨#[107, 119]⟩, .string ⟨#[105, 102]⟩, .bool false, .string ⟨#[105, 100]⟩, .string ⟨#[91, 97, 45, 122, 93, 43]⟩, .bool false, .string ⟨#[119, 115]⟩, .string ⟨#[32, 43]⟩, .bool true] 41)) (.slice (some ⟨w.heap.size, 0, none⟩) 3 3) tkR := by
  refine ⟨by decide, Or.inr ⟨w.heap.size, 0, 3, rfl, fun k r hk q u hu => ?_, by decide, by decide⟩⟩
  rw [Lib.cell_of_heap hnew]
  have hq : q < 3 := (List.getElem?_eq_some_iff.1 hu).1
  match k, hk with
  | 0, hk => cases hk; match q, hq, hu with
   | 0, _, hu => exact hu
   | 1, _, hu => exact hu
   | 2, _, hu => exact hu
  | 1, hk => cases hk; match q, hq, hu with
   | 0, _, hu => exact hu
   | 1, _, hu => exact hu
   | 2, _, hu => exact hu
  | 2, hk => cases hk; match q, hq, hu with
   | 0, _, hu => exact hu
   | 1, _, hu => exact hu
   | 2, _, hu => exact hu
 have hg1 := hgn.keep hk1 (by simp)
 have HR : Hid (RulIs w (.slice va n vc) rs) := hr
 clear hnew hr
 go_enter Tryz.func7, Tryz.ntmps7
 go_wp2_with fail
 refine (law_tokens _ tkR tkT _ hR1 (by decide) hg1).mono ?_
 rintro e w2 ⟨vl, L, j, ne, rfl, hA, hT, _, hk2⟩
 obtain ⟨la, lc, rfl, _⟩ := hT.sl
 rw [tk_ex hA]
 have hK2 := hk1.trans hk2
 have hr2 := HR.out.keep hK2
 have hg2 := hgn.keep hK2 (by simp)
 clear hR1 hg1 hA hT hk1 hk2 hgn
 go_wp2_with fail
 refine (law_tokens _ rs s w2 hr2 hsz hg2).mono ?_
 rintro e w3 ⟨vm, M, j2, n2, rfl, hB, hT2, _, hk3⟩
 obtain ⟨ma, mc, rfl, _⟩ := hT2.sl
 have hK3 := hK2.trans hk3
 obtain ⟨ll, hll⟩ : ∃ z, M.length = z := ⟨_, rfl⟩
 rw [hll]
 clear hr2 hg2 hB hT2 hK2 hk3 hll
 go_wp2_with fail
 go_ret
 exact ⟨rfl, hK3⟩
end Go.Proofs.YtnfojonmohijpaaGreatDoor
