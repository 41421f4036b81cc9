/-
  DERIVED. The program's Split. Conditions: the rules that were read lie in memory, the text is at most 100 bytes long.
-/
import Derived.Test.YtnfojonmohijpabGreatDoorJKE
import Derived.Test.YtnfojonmohijpabGreatDoorJDL
import Derived.Test.YtnfojonmohijpabGreatDoorJQB
import Derived.Test.YtnfojonmohijpabGreatDoorJOM
import Derived.Test.YtnfojonmohijpabGreatDoorJOF
import Derived.Test.YtnfojonmohijpabGreatDoorJBE
import Derived.BigQuiet
import Derived.Lib.SliceRun
import Derived.Deep.QuietTactic
import Derived.Test.YtnfojonmohijpabGreatDoorJPC
import Derived.Test.YtnfojonmohijpabGreatDoorJQC
import Derived.Test.YtnfojonmohijpabGreatDoorRows
import Derived.ProofKit
import Derived.LaidMore
import Derived.OpenShut
import Derived.Stop.Joined
import Derived.ChangeMaps5
set_option linter.unusedSimpArgs false
set_option linter.unusedVariables false
namespace Go.Proofs.YtnfojonmohijpabGreatDoor
open Go.RowKit
def SpPost (s : ByteArray) (rs : List Rul) (Ws : List Whole) (w : World) (e : Ending) (w' : World) : Prop :=
 ∃ (v : Value) (L : List Tok) (j : Nat), e = .returned (.tuple #[v, .int .i64 j]) ∧ Tks s (Ws.map (·.x)) (skO rs) 0 L j ∧ TkR w' v L ∧ (∀ g, v.ownBlock = some g → w.heap.size ≤ g) ∧ Keeps [] w w'
set_option maxRecDepth 100000 in
set_option maxHeartbeats 8000000 in
theorem split_any (s : ByteArray) (hs : s.size ≤ 100) (rs : List Rul) (Ws : List Whole) (cs : List Value) (S : Nat → Prop) (g n c : Nat) (hn : n = Ws.length) (h1 : 1 ≤ n) (h8 : n ≤ 8) (w : World) (hM : RuM w S rs (.slice (some ⟨g, 0, none⟩) n c) cs Ws) :
    Calls Tryz.prog 18 #[.slice (some ⟨g, 0, none⟩) n c, .string s] w (SpPost s rs Ws w) := by
 obtain ⟨N, HN⟩ : ∃ N, Hid (N = s.size + 1) := ⟨_, rfl⟩
 have HNn : Hid (n = Ws.length ∧ 1 ≤ n ∧ n ≤ 8) := ⟨hn, h1, h8⟩
 have HS : Hid (s.size ≤ 100) := hs
 have h8' : (n : Int) ≤ 8 := by omega
 have hs' : (s.size : Int) ≤ 100 := by omega
 have hgl : g < w.heap.size := (World.ownsRow.lt hM.own g rfl).2
 have hcell : ∀ (X : World) (k : Nat) (W : Whole) (u : Value), Keeps [] w X → Ws[k]? = some W → (∀ q x, (ruV W u (skO rs k))[q]? = some x → cs[k * 5 + q]? = some x) → X.rangeAt g (k * 5) (ruV W u (skO rs k)) := fun X k W u hk hW hq q x hx => by
  have h5 : q < 5 := (List.getElem?_eq_some_iff.1 hx).1
  have hkl : k < Ws.length := (List.getElem?_eq_some_iff.1 hW).1
  have hown := hM.own
  rw [← HNn.out.1] at hown
  have hlt : k * 5 + q < n * 5 := by have := HNn.out.1; omega
  exact (World.cell?_of_block (hk.block g hgl (by simp))).trans ((World.ownsRow.cellAt hown (k * 5 + q) hlt).trans (hq q x hx))
 have HC : Hid (∀ (X : World) (k : Nat) (W : Whole) (u : Value), Keeps [] w X → Ws[k]? = some W → (∀ q x, (ruV W u (skO rs k))[q]? = some x → cs[k * 5 + q]? = some x) → X.rangeAt g (k * 5) (ruV W u (skO rs k))) := hcell
 clear hcell hn h1 h8 hs
 go_enter Tryz.func18, Tryz.ntmps18
 go_wp2_with fail
 go_loopw [6, 17] (fun q6 q wr => ∃ (i : Nat) (ds : List Value), q = .int .i64 i ∧ i ≤ n ∧ MaM wr (fun z => w.heap.size ≤ z) s N q6 ds (Ws.take i) ∧ (∀ g, q6.ownBlock = some g → w.heap.size ≤ g) ∧ Keeps [] w wr) (fun _ q _ => n - (intOf q).toNat)
 case atStart => exact ⟨0, [], rfl, Nat.zero_le _, MaM.zero _ _ _ _, (fun g h => by cases h), Keeps.refl _ _⟩
 case round =>
  obtain ⟨i, ds, rfl, hi, hMa, hfr, hK⟩ := hrel
  obtain ⟨xa, xn, xc, rfl⟩ := ownsRow_sl hMa.own
  by_cases hlt : i < n
  ·obtain ⟨W, hW⟩ : ∃ W, Ws[i]? = some W := ⟨_, List.getElem?_eq_getElem (by have := HNn.out; omega)⟩
   obtain ⟨hok, u, hu, hq, hrep⟩ := hM.parts i W hW
   obtain ⟨hsz, hfair⟩ := hok.good
   have hrg := HC.out wr i W u hK hW hq
   have hrepr := hrep.keep hK (by simp)
   have hi0 : (0 : Int) ≤ (i : Int) := by omega
   have hin : (i : Int) < (n : Int) := by omega
   have HI : Hid (i < n) := hlt
   have HW : Hid (Ws[i]? = some W) := hW
   have hil : i = (Ws.take i).length := by rw [List.length_take]; have := HNn.out.1; omega
   have HIL : Hid (i = (Ws.take i).length) := hil
   have hi5 : (Tryz.prog.info? 92).map (·.size) = some (ruV W u (skO rs i)).length := by kernel_rfl
   obtain ⟨b, hb⟩ : ∃ b, skO rs i = b := ⟨_, rfl⟩
   rw [hb] at hrg hi5
   have hz0 : (wr.alloc (.cells #[.bool false, .bool false, .slice none 0 0, .int .i64 0, .bool false] 92)).heap[wr.heap.size]? = some (.cells #[.bool false, .bool false, .slice none 0 0, .int .i64 0, .bool false] 92 (0, 0)) := heap_alloc_new wr _
   have hk6 : Keeps [] wr ((wr.alloc (.cells #[.bool false, .bool false, .slice none 0 0, .int .i64 0, .bool false] 92)).setRow wr.heap.size (ruV W u b).toArray) := ((Keeps.refl [] wr).alloc _).setRow (Or.inr (Nat.le_refl _)) _
   have hP6 : ((wr.alloc (.cells #[.bool false, .bool false, .slice none 0 0, .int .i64 0, .bool false] 92)).setRow wr.heap.size (ruV W u b).toArray).heap[wr.heap.size]? = some (.cells (ruV W u b).toArray 92 (0, 0)) := setRow_heap _ _ _ _ _ _ hz0
   have hrg6 := ruRow hP6
   have hall := ruV_all (W := W) (b := b) hu
   have hMa6 := hMa.keep hk6
   have hrep6 := hrepr.keep hk6 (by simp)
   have hkw6 := hK.trans hk6
   have hi4 := infoPat4 (.bool W.bg) (.bool W.en) u (.int .i64 (W.g : Int))
   clear hi hlt hW hq hrep hrepr hb hok hK hMa hil
   go_upto_region 5 with (first | (refine wpList_load_mid rfl 92 _ rfl g (i * 5) rfl _ _ hrg Tryz.underlying92 rfl hi5 ?_) | (refine wpList_store_row rfl 92 _ _ rfl wr.heap.size (ruV W u b).toArray rfl rfl _ _ hz0 (infoRu5 W u b) rfl hall ?_; generalize (wr.alloc (.cells #[.bool false, .bool false, .slice none 0 0, .int .i64 0, .bool false] 92)).setRow wr.heap.size (ruV W u b).toArray = w6 at *))
   obtain ⟨b6, hb6⟩ : ∃ b, wr.heap.size = b := ⟨_, rfl⟩
   rw [hb6] at hrg6 ⊢
   have hlo6 := hkw6.size
   clear hb6 hrg hz0 hP6 hk6
   go_wp2_with (first | (refine wpList_load_mid rfl 58 _ rfl b6 0 rfl _ _ hrg6 Tryz.underlying58 rfl hi4 ?_))
   refine (matNew_any s N HN HS.out W u _ w6 hrep6 hsz hfair).mono ?_
   rintro e w7 ⟨a, d, rfl, hmk, hk7⟩
   obtain ⟨hone, a', d', e0, hmp⟩ := hmk.form
   simp only [List.cons.injEq, and_true] at e0
   obtain ⟨rfl, rfl⟩ := e0
   have ha1 := hone a (by simp)
   have hd1 := hone d (by simp)
   have hMa7 := hMa6.keep hk7
   have hown7 := hMa7.own
   rw [← HIL.out] at hown7
   obtain ⟨i0, hi0', hz0', hz1', hz2'⟩ := info_parts infoMat
   have hun := Tryz.underlying93
   have hlm : i + 1 ≤ maxLen := by unfold maxLen; have := HI.out; have := HNn.out; omega
   have hbt : (i + 1) * 104 ≤ 140737488355328 := by have := HI.out; have := HNn.out; omega
   have hH : (w7.alloc (.cells (mat W u s a d) 67)).heap.size = w7.heap.size + 1 := by simp
   have hnews : ∀ j x, (mat W u s a d).toList[j]? = some x → (w7.alloc (.cells (mat W u s a d) 67)).cell? ((⟨w7.heap.size, 0, none⟩ : Addr).add j) = some x := World.news_of_block (cs := mat W u s a d) (heap_alloc_new w7 _)
   have honeM := mat_one (W := W) (s := s) hu ha1 hd1
   have hll : (mat W u s a d).toList.length = 1 * 7 := rfl
   clear hmp hone hrep6 hMa7 hall hi4 hi5 hrg6
   go_wp2_with (first | (refine wpList_maslice rfl (.tmp 25) rfl (some 26) rfl W u s a d rfl ?_) | (at_builtin; refine wpList_append_lies _ rfl _ _ _ rfl 0 67 i0 _ 7 104 hun hi0' hz0' hz1' hz2' rfl (by decide) (.slice xa xn xc) i ds rfl (hown7.alloc _) ⟨w7.heap.size, 0, none⟩ 1 1 (mat W u s a d).toList rfl hll hnews honeM (by omega) hlm hbt (Nat.zero_le _) (w7.heap.size + 1) hH ?_))
   intro g' cap w8 hown8 hgrow hat hlt8
   have hk8 : Keeps (Value.slice xa xn xc).ownBlock.toList w7 w8 := ((Keeps.refl _ w7).alloc _).trans (Keeps.ofGrown hgrow)
   have hMa8 := hMa6.add hk7 hlo6 HIL.out hu ha1 hd1 hmk hown8 hgrow hat
   have htk : Ws.take i ++ [W] = Ws.take (i + 1) := by rw [List.take_add_one, HW.out]; rfl
   rw [htk] at hMa8
   have hkw8 : Keeps [] w w8 := (hkw6.trans hk7).fresh hk8 (by
     intro y hy
     rw [Option.mem_toList] at hy
     exact Or.inr (hfr y hy))
   have hfr8 : ∀ y, (Value.slice (some ⟨g', 0, none⟩) (i + 1) cap).ownBlock = some y → w.heap.size ≤ y := by
    intro y hy
    cases hy
    rcases hat with h | h
    ·exact hfr _ h
    ·have := hk7.size
     show w.heap.size ≤ g'
     omega
   clear hown8 hgrow hnews hH honeM hk8 hown7 hMa6 hmk hat htk hll
   go_wp2_with fail
   go_roundw
   case rel => exact ⟨i + 1, _, by go_num, HI.out, hMa8, hfr8, hkw8⟩
   case measure => have := HI.out; simp [intOf]; omega
  have hin : i = n := by omega
  subst hin
  have hMa' : MaM wr (fun z => w.heap.size ≤ z) s N (.slice xa xn xc) ds Ws := by
   have e : Ws.take i = Ws := List.take_of_length_le (by have := HNn.out.1; omega)
   rw [e] at hMa
   exact hMa
  obtain ⟨gm, mc, hv, _, hgm⟩ : ∃ gm mc, Value.slice xa xn xc = .slice (some ⟨gm, 0, none⟩) i mc ∧ True ∧ gm < wr.heap.size := by
   have hown := hMa'.own
   rw [← HNn.out.1] at hown
   obtain ⟨gm, mc, hv, _, hg⟩ := hown.form (by have := HNn.out; omega)
   exact ⟨gm, mc, hv, trivial, (World.ownsRow.lt hown gm (by rw [hv]; rfl)).2⟩
  rw [hv] at hMa' ⊢
  have SP0 : SpL w wr wr.heap.size s (Ws.map (·.x)) (skO rs) 0 (.slice none 0 0) [] := ⟨TkR.zero _, (fun g h => by cases h), Nat.le_refl _, Nat.zero_le _, hK, fun l e h => h⟩
  have HMa : Hid (MaM wr (fun z => w.heap.size ≤ z) s N (.slice (some ⟨gm, 0, none⟩) i mc) ds Ws) := hMa'
  obtain ⟨W0, hW0⟩ : ∃ W0 : World, W0 = wr := ⟨_, rfl⟩
  subst hW0
  obtain ⟨m, hm⟩ : ∃ m : Nat, m = i := ⟨_, rfl⟩
  subst hm
  clear hv hMa hMa' hfr hi hlt
  go_wp2_with fail
  go_loopw [9, 10] (fun q9 q wr => ∃ (j : Nat) (L : List Tok), q = .int .i64 j ∧ SpL w wr W0.heap.size s (Ws.map (·.x)) (skO rs) j q9 L ∧ Keeps [] W0 wr) (fun _ q _ => s.size - (intOf q).toNat)
  case atStart => exact ⟨0, [], rfl, SP0, Keeps.refl _ _⟩
  case round =>
   clear SP0
   obtain ⟨j, L, rfl, SP, hKr⟩ := hrel
   obtain ⟨ya, yn, yc, rfl⟩ := ownsRow_sl SP.row
   have hjs := SP.ile
   have hj0 : (0 : Int) ≤ (j : Int) := by omega
   by_cases hlt : j < s.size
   ·have hlt' : (j : Int) < (s.size : Int) := by omega
    have HJ : Hid (j < s.size) := hlt
    have hC := lngst_any s N HN HS.out Ws ds _ gm m mc j HNn.out.1 HNn.out.2.2 hjs wr (HMa.out.keep hKr)
    clear hlt hjs
    go_wp2_with fail
    refine hC.mono ?_
    rintro e w2 ⟨r, k, rfl, hrk, hk2⟩
    have hK2 := hKr.trans hk2
    rcases hrk with ⟨hr, hbest⟩ | ⟨rfl, hnone⟩
    ·obtain ⟨W, hW⟩ : ∃ W, Ws[r]? = some W := ⟨_, List.getElem?_eq_getElem (by have := HNn.out.1; omega)⟩
     obtain ⟨_, u, hu, hq, _⟩ := hM.parts r W hW
     have hrg := HC.out w2 r W u (hK.trans hK2) hW hq
     have hsk := hrg 4 (.bool (skO rs r)) rfl
     have hr0 : (0 : Int) ≤ (r : Int) := by omega
     have hrm : (r : Int) < (m : Int) := by omega
     have hjk : ((k : Int) == (j : Int)) = false := by have := hbest.1; simp; omega
     have hjk' : ¬ (k : Int) = (j : Int) := by have := hbest.1; omega
     have HBe : Hid (BestT s (Ws.map (·.x)) j r k) := hbest
     have hkI : (k : Int) ≤ 100 := by have := hbest.2.1; have := HS.out; omega
     cases hb : skO rs r with
     | true =>
      rw [hb] at hsk
      have SP2 : SpL w w2 W0.heap.size s (Ws.map (·.x)) (skO rs) k (.slice ya yn yc) L := ⟨SP.row.keep hk2 (by simp), SP.fresh, by have := SP.len; have := hbest.1; omega, hbest.2.1, SP.keep.trans hk2, fun l e h => SP.says l e (.skip j r k l e hbest hb h)⟩
      have HB : Hid (j < k) := hbest.1
      clear hb hbest hrg hq hW hC SP
      go_wp2_with fail
      go_roundw
      case rel => exact ⟨k, L, rfl, SP2, hK2⟩
      case measure => have := HB.out; have := HJ.out; simp [intOf]; omega
     | false =>
      rw [hb] at hsk
      have hjs' : (j : Int) ≤ (s.size : Int) := by omega
      have hP := position_any s j (by have := HJ.out; omega) HS.out
      have hlp := lnC_pos s j
      obtain ⟨ln, hln⟩ : ∃ z, (lnC s j).1 = z := ⟨_, rfl⟩
      obtain ⟨cl, hcl⟩ : ∃ z, (lnC s j).2 = z := ⟨_, rfl⟩
      rw [hln, hcl] at hP hlp
      have hto := fun l e h => SP.says _ e (.tok j r k l e hbest hb h)
      rw [hln, hcl] at hto
      have HT : Hid (∀ l e, Tks s (Ws.map (·.x)) (skO rs) k l e → Tks s (Ws.map (·.x)) (skO rs) 0 (L ++ (⟨r, j, k, ln, cl⟩ :: l)) e) := hto
      have hown2 : w2.ownsRow 0 37 5 (.slice ya yn yc) L.length (tkV L) := SP.row.keep hk2 (by simp)
      have hLl := SP.len
      obtain ⟨n0, hn0⟩ : ∃ n0, L.length = n0 := ⟨_, rfl⟩
      rw [hn0] at hown2 hLl
      have HL0 : Hid (L.length = n0 ∧ n0 ≤ j) := ⟨hn0, hLl⟩
      obtain ⟨i0, hi0', hz0', hz1', hz2'⟩ := info_parts infoTok
      have hun := Tryz.underlying30
      have hlm : n0 + 1 ≤ maxLen := by unfold maxLen; have := HJ.out; have := HS.out; omega
      have hbt : (n0 + 1) * 40 ≤ 140737488355328 := by have := HJ.out; have := HS.out; omega
      have hH : (w2.alloc (.cells #[.int .i64 r, .int .i64 j, .int .i64 k, .int .i64 ln, .int .i64 cl] 37)).heap.size = w2.heap.size + 1 := by simp
      have hnews : ∀ q x, [Value.int .i64 r, .int .i64 j, .int .i64 k, .int .i64 ln, .int .i64 cl][q]? = some x → (w2.alloc (.cells #[.int .i64 r, .int .i64 j, .int .i64 k, .int .i64 ln, .int .i64 cl] 37)).cell? ((⟨w2.heap.size, 0, none⟩ : Addr).add q) = some x := World.news_of_block (cs := #[.int .i64 r, .int .i64 j, .int .i64 k, .int .i64 ln, .int .i64 cl]) (heap_alloc_new w2 _)
      have h1c : ∀ x ∈ [Value.int .i64 r, .int .i64 j, .int .i64 k, .int .i64 ln, .int .i64 cl], x.oneCell' = true := by
       intro x hx
       simp only [List.mem_cons, List.not_mem_nil, or_false] at hx
       rcases hx with rfl | rfl | rfl | rfl | rfl <;> rfl
      have hfr0 := SP.fresh
      have hkp := SP.keep
      have HB : Hid (j < k ∧ k ≤ s.size) := ⟨hbest.1, hbest.2.1⟩
      clear hb hbest hrg hq hW hC SP hto hln hcl hlp hn0 hLl
      go_wp2_with fail
      refine (hP w2).mono ?_
      rintro e w3 ⟨rfl, rfl⟩
      go_wp2_with (first | (at_builtin; refine wpList_append_lies _ rfl _ _ _ rfl 0 37 i0 _ 5 40 hun hi0' hz0' hz1' hz2' rfl (by decide) (.slice ya yn yc) n0 (tkV L) rfl (hown2.alloc _) ⟨w3.heap.size, 0, none⟩ 1 1 [.int .i64 r, .int .i64 j, .int .i64 k, .int .i64 ln, .int .i64 cl] rfl rfl hnews h1c (by omega) hlm hbt (Nat.zero_le _) (w3.heap.size + 1) hH ?_))
      intro g' cap w5 hown5 hgrow hat hlt5
      have hk5 : Keeps (Value.slice ya yn yc).ownBlock.toList w3 w5 := ((Keeps.refl _ w3).alloc _).trans (Keeps.ofGrown hgrow)
      have hW3 := hK2.size
      have hw0 := hK.size
      have SP5 : SpL w w5 W0.heap.size s (Ws.map (·.x)) (skO rs) k (.slice (some ⟨g', 0, none⟩) (n0 + 1) cap) (L ++ [⟨r, j, k, ln, cl⟩]) := by
       refine ⟨?_, ?_, ?_, HB.out.2, ?_, ?_⟩
       ·unfold TkR
        rw [List.length_append, HL0.out.1, tkV_app]
        exact hown5
       ·intro y hy
        cases hy
        rcases hat with h | h
        ·exact hfr0 _ h
        ·show W0.heap.size ≤ g'
         omega
       ·rw [List.length_append, HL0.out.1]; have := HL0.out.2; have := HB.out.1; simp; omega
       ·exact (hkp.trans hk2).fresh hk5 (by
          intro y hy
          rw [Option.mem_toList] at hy
          exact Or.inr (by have := hfr0 y hy; omega))
       ·intro l e h
        rw [List.append_assoc]
        exact HT.out l e h
      have hK5 : Keeps [] W0 w5 := hK2.fresh hk5 (by
        intro y hy
        rw [Option.mem_toList] at hy
        exact Or.inr (hfr0 y hy))
      clear hown5 hgrow hnews hH h1c hk5 hown2 hat hsk
      go_wp2_with fail
      go_roundw
      case rel => exact ⟨k, _, rfl, SP5, hK5⟩
      case measure => have := HB.out; have := HJ.out; simp [intOf]; omega
    ·have hjk : ((k : Int) == (k : Int)) = true := by simp
     have HE : Hid (Tks s (Ws.map (·.x)) (skO rs) 0 L k) := by
      have := SP.says [] k (.fin k hnone)
      rw [List.append_nil] at this
      exact this
     have hrow := SP.row.keep hk2 (by simp)
     have hkE := SP.keep.trans hk2
     have hfrE : ∀ g, (Value.slice ya yn yc).ownBlock = some g → w.heap.size ≤ g := fun g hg => by have := SP.fresh g hg; have := hK.size; omega
     clear hnone hC SP
     go_wp2_with fail
     go_ret2
     exact ⟨_, L, k, rfl, HE.out, hrow, hfrE, hkE⟩
   ·have he : j = s.size := by omega
    have hnl : ¬ (j : Int) < (s.size : Int) := by omega
    have HE : Hid (Tks s (Ws.map (·.x)) (skO rs) 0 L j) := by
     have := SP.says [] j (.fin j (fun m k x h1 h2 => by omega))
     rw [List.append_nil] at this
     exact this
    have hrow := SP.row
    have hkE := SP.keep
    have hfrE : ∀ g, (Value.slice ya yn yc).ownBlock = some g → w.heap.size ≤ g := fun g hg => by have := SP.fresh g hg; have := hK.size; omega
    clear he hlt hjs SP
    go_wp2_with fail
    go_ret2
    exact ⟨_, L, j, rfl, HE.out, hrow, hfrE, hkE⟩
end Go.Proofs.YtnfojonmohijpabGreatDoor
namespace Go.Proofs.YtnfojonmohijpabGreatDoor
open Go.RowKit
theorem RulesA.many {rs : List Rul} {Ws : List Whole} (h : RulesA rs Ws 0) : 1 ≤ Ws.length ∧ Ws.length ≤ 8 := by
 rcases h with ⟨_, _, h⟩ | ⟨h1, h8, ⟨_, _, _, _, h⟩ | ⟨_, h, _⟩⟩
 ·cases h
 ·exact absurd rfl h
 ·omega
set_option maxRecDepth 100000 in
set_option maxHeartbeats 4000000 in
theorem ytokens_any (v : Value) (rs : List Rul) (s : ByteArray) (w : World) (hr : RulIs w v rs) (hgn : GN w) :
    Calls Tryz.prog 9 #[v, .string s] w fun e w' => ∃ (vl : Value) (L : List Tok) (j : Nat) (n : Int), e = .returned (.tuple #[vl, .int .i64 j, .int .i64 n]) ∧ TokA rs s L j n ∧ TkR w' vl L ∧ (∀ g, vl.ownBlock = some g → w.heap.size ≤ g) ∧ Keeps [] w w' := by
 obtain ⟨va, vn, vc, rfl⟩ : IsSl v := by
  rcases hr.rd with ⟨_, a, c, rfl⟩ | ⟨g, o, c, rfl, _⟩
  ·exact ⟨_, _, _, rfl⟩
  ·exact ⟨_, _, _, rfl⟩
 go_enter Tryz.func9, Tryz.ntmps9
 go_wp2_with fail
 refine (readRules_any _ rs w hr hgn).mono ?_
 rintro e w1 ⟨hk1, u, n, Ws, rfl, hA, hc⟩
 rcases hc with ⟨hn, rfl⟩ | ⟨rfl, cs, hM, hfr⟩
 ·have HA : Hid (TokA rs s [] 0 n) := ⟨Ws, n, hA, Or.inl ⟨hn, rfl, rfl, rfl⟩⟩
  have n1 : (n == 0) = false := by simpa using hn
  have n2 : ¬ n = 0 := hn
  clear hA hn hr hgn
  go_wp2_with fail
  go_ret3
  exact ⟨_, [], 0, n, rfl, HA.out, TkR.zero _, (fun g h => by cases h), hk1⟩
 obtain ⟨h1, h8⟩ := hA.many
 obtain ⟨g, c, rfl, _, hg⟩ := hM.own.form h1
 by_cases hl : 100 < s.size
 ·have HA : Hid (TokA rs s [] 0 1) := ⟨Ws, 0, hA, Or.inr ⟨rfl, Or.inl ⟨hl, rfl, rfl, rfl⟩⟩⟩
  have l1 : (100 : Int) < (s.size : Int) := by omega
  have l2 : decide ((100 : Int) < (s.size : Int)) = true := by simp; omega
  clear hA hl hr hgn hM
  go_wp2_with fail
  go_ret3
  exact ⟨_, [], 0, 1, rfl, HA.out, TkR.zero _, (fun g h => by cases h), hk1⟩
 have l1 : (s.size : Int) ≤ 100 := by omega
 have l2 : decide ((100 : Int) < (s.size : Int)) = false := by simp; omega
 have l3 : ¬ (100 : Int) < (s.size : Int) := by omega
 have HA : Hid (RulesA rs Ws 0) := hA
 have HL : Hid (s.size ≤ 100) := (by omega : s.size ≤ 100)
 have HC := split_any s HL.out rs Ws cs _ g Ws.length c rfl h1 h8 w1 hM
 obtain ⟨n, hn⟩ : ∃ n, Ws.length = n := ⟨_, rfl⟩
 rw [hn] at HC ⊢
 clear hA hl hr hgn hM hn h1 h8
 go_wp2_with fail
 refine HC.mono ?_
 rintro e w2 ⟨vl, L, j, rfl, hT, hrow, hfr2, hk2⟩
 obtain ⟨xa, xn, xc, rfl⟩ := ownsRow_sl hrow
 have HT : Hid (TokA rs s L j 0) := ⟨Ws, 0, HA.out, Or.inr ⟨rfl, Or.inr ⟨HL.out, rfl, hT⟩⟩⟩
 have hkE := hk1.trans hk2
 have hfE : ∀ g, (Value.slice xa xn xc).ownBlock = some g → w.heap.size ≤ g := fun g hg => by have := hfr2 g hg; have := hk1.size; omega
 clear hT HC hfr2 hk2
 go_wp2_with fail
 go_ret3
 exact ⟨_, L, j, 0, rfl, HT.out, hrow, hfE, hkE⟩
end Go.Proofs.YtnfojonmohijpabGreatDoor
namespace Go.Proofs.YtnfojonmohijpabGreatDoor
open Go.RowKit
theorem dk_ruc {Y : World} {g : Nat} (h : Y.heap[g]? = some (.cells #[.string ⟨#[107, 119]⟩, .string dkS1, .bool false, .string ⟨#[105, 100]⟩, .string dkS2, .bool false, .string ⟨#[119, 115]⟩, .string dkS3, .bool true] 28 (0, 0))) : RuC Y g 0 dkR := by
 intro k r hr j u hu
 have hj : j < 3 := (List.getElem?_eq_some_iff.1 hu).1
 rw [Lib.cell_of_heap h]
 match k, hr with
 | 0, hr =>
  cases hr
  match j, hj, hu with
  | 0, _, hu => exact hu
  | 1, _, hu => exact hu
  | 2, _, hu => exact hu
 | 1, hr =>
  cases hr
  match j, hj, hu with
  | 0, _, hu => exact hu
  | 1, _, hu => exact hu
  | 2, _, hu => exact hu
 | 2, hr =>
  cases hr
  match j, hj, hu with
  | 0, _, hu => exact hu
  | 1, _, hu => exact hu
  | 2, _, hu => exact hu
 | k + 3, hr => simp [dkR] at hr
theorem PlainA.detD {s : ByteArray} {t t' : List UInt8} {p p' e e' : Int} (h : PlainA s t p e) (h' : PlainA s t' p' e') : t = t' ∧ p = p' ∧ e = e' := by
 rcases h with ⟨a, b, c, d⟩ | ⟨a, q, hq, m⟩ <;> rcases h' with ⟨a', b', c', d'⟩ | ⟨a', q', hq', m'⟩
 ·exact ⟨b.trans b'.symm, c.trans c'.symm, d.trans d'.symm⟩
 ·omega
 ·omega
 ·have := hq.det hq'
  subst this
  cases q with
  | bad j => exact ⟨m.1.trans m'.1.symm, m.2.1.trans m'.2.1.symm, m.2.2.trans m'.2.2.symm⟩
  | ok W j => exact ⟨m.1.trans m'.1.symm, m.2.1.trans m'.2.1.symm, m.2.2.trans m'.2.2.symm⟩
theorem iw_two {w : World} {lo : Nat} {r : Value} {a b : Int} (h : IW w lo r (some [a, b])) : ∃ g c, r = .slice (some ⟨g, 0, none⟩) 2 c ∧ w.cell? ⟨g, 0, none⟩ = some (.int .i64 a) ∧ w.cell? ⟨g, 1, none⟩ = some (.int .i64 b) := by
 obtain ⟨hf, g, c, rfl, _⟩ := h.fnd (by simp)
 obtain ⟨_, _, he, _, hc⟩ := hf.sl
 cases he
 exact ⟨g, c, rfl, hc 0 a rfl, hc 1 b rfl⟩
set_option maxRecDepth 100000 in
set_option maxHeartbeats 40000000 in
theorem known_any (c : Int) (hc : inI c) (w : World) (hgn : GN w) (hgp : GP w) :
    Calls Tryz.prog 5 #[.int .i64 c] w fun e w' => e = .returned (.bool true) ∧ Keeps [] w w' := by
 have q23 : ∀ (w : World) (a : Option Addr) (n c : Nat), (binOp .neq 22 (.slice a n c) (.slice none 0 0)).run Tryz.prog w = .ok (.bool (!a.isNone)) w := fun w a n c => run_neq_slice_nil (P := Tryz.prog) w _ _ a n c Tryz.underlying22
 have hp := kpick_any c 5 hc (by decide) (by decide) w
 go_enter Tryz.func5, Tryz.ntmps5
 go_wp2_with fail
 refine hp.mono ?_
 rintro e w0 ⟨rfl, rfl⟩
 have hK : pk c 5 < 5 := Nat.mod_lt _ (by decide)
 generalize pk c 5 = K at hK ⊢
 have hK5 : K = 0 ∨ K = 1 ∨ K = 2 ∨ K = 3 ∨ K = 4 := by omega
 clear hp hK
 rcases hK5 with rfl | rfl | rfl | rfl | rfl
 ·go_wp2_with fail
  refine (ymatch_any mS mT w0 hgn).mono ?_
  rintro e w1 ⟨t, b, n, rfl, h1, hk1⟩
  obtain ⟨rfl, rfl, rfl⟩ := h1.det m_match
  have hg1 := hgn.keep hk1 (by simp)
  have hx : nmB mTree = ⟨#[40, 115, 32, 40, 103, 49, 32, 40, 97, 49, 32, 40, 115, 32, 98, 54, 49, 32, 98, 54, 50, 41, 41, 41, 32, 40, 103, 50, 32, 40, 97, 48, 32, 98, 54, 51, 41, 41, 32, 40, 103, 51, 32, 40, 114, 32, 98, 54, 52, 41, 41, 41]⟩ := rfl
  rw [hx]
  clear h1 hx hgn hgp
  go_wp2_with fail
  refine (ymatch_any kA1 eT w1 hg1).mono ?_
  rintro e w2 ⟨t, b, n, rfl, h1, hk2⟩
  obtain ⟨rfl, rfl, rfl⟩ := h1.det ka1
  have hg2 := hg1.keep hk2 (by simp)
  have hx : nmB [40, 114, 41] = ⟨#[40, 114, 41]⟩ := rfl
  rw [hx]
  have hkA := hk1.trans hk2
  clear h1 hx hg1 hk1 hk2
  go_wp2_with fail
  refine (ymatch_any kA2 eT w2 hg2).mono ?_
  rintro e w3 ⟨t, b, n, rfl, h1, hk3⟩
  obtain ⟨rfl, rfl, rfl⟩ := h1.det ka2
  have hg3 := hg2.keep hk3 (by simp)
  have hx : nmB [40, 114, 32, 40, 103, 49, 32, 40, 114, 41, 41, 41] = ⟨#[40, 114, 32, 40, 103, 49, 32, 40, 114, 41, 41, 41]⟩ := rfl
  rw [hx]
  have hkB := hkA.trans hk3
  clear h1 hx hg2 hkA hk3
  go_wp2_with fail
  refine (ymatch_any kA3 eT w3 hg3).mono ?_
  rintro e w4 ⟨t, b, n, rfl, h1, hk4⟩
  obtain ⟨rfl, rfl, rfl⟩ := h1.det ka3
  have hx : nmB [40, 97, 49, 32, 101, 41] = ⟨#[40, 97, 49, 32, 101, 41]⟩ := rfl
  rw [hx]
  have hkC := hkB.trans hk4
  clear h1 hx hg3 hkB hk4
  go_wp2_with fail
  go_ret
  exact ⟨rfl, hkC⟩
 ·go_wp2_with fail
  refine (yplain_any kB1 w0 hgn hgp).mono ?_
  rintro e w1 ⟨t, b, n, rfl, h1, hk1⟩
  obtain ⟨rfl, rfl, rfl⟩ := h1.detD kp1
  have hg1 := hgn.keep hk1 (by simp)
  have hp1 := hgp.keep hk1
  have hx : nmB [91, 97, 45, 100, 93, 120, 124, 92, 120, 50, 101, 63] = ⟨#[91, 97, 45, 100, 93, 120, 124, 92, 120, 50, 101, 63]⟩ := rfl
  rw [hx]
  clear h1 hx hgn hgp
  go_wp2_with fail
  refine (yplain_any kB2 w1 hg1 hp1).mono ?_
  rintro e w2 ⟨t, b, n, rfl, h1, hk2⟩
  obtain ⟨rfl, rfl, rfl⟩ := h1.detD kp2
  have hg2 := hg1.keep hk2 (by simp)
  have hp2 := hp1.keep hk2
  have hkA := hk1.trans hk2
  clear h1 hg1 hp1 hk1 hk2
  go_wp2_with fail
  refine (yplain_any kB3 w2 hg2 hp2).mono ?_
  rintro e w3 ⟨t, b, n, rfl, h1, hk3⟩
  obtain ⟨rfl, rfl, rfl⟩ := h1.detD kp3
  have hg3 := hg2.keep hk3 (by simp)
  have hp3 := hp2.keep hk3
  have hkB := hkA.trans hk3
  clear h1 hg2 hp2 hkA hk3
  go_wp2_with fail
  refine (yplain_any kB4 w3 hg3 hp3).mono ?_
  rintro e w4 ⟨t, b, n, rfl, h1, hk4⟩
  obtain ⟨rfl, rfl, rfl⟩ := h1.detD kp4
  have hkC := hkB.trans hk4
  clear h1 hg3 hp3 hkB hk4
  go_wp2_with fail
  go_ret
  exact ⟨rfl, hkC⟩
 ·go_wp2_with fail
  refine (ysearch_any kC1 kT2 0 w0 hgn).mono ?_
  rintro e w1 ⟨r1, an, n, rfl, h1, hI1, hk1⟩
  obtain ⟨rfl, rfl⟩ := ks1 h1
  have hg1 := hgn.keep hk1 (by simp)
  clear h1 hgn hgp
  obtain ⟨g1, c1, rfl, _, _⟩ := iw_two hI1
  go_wp2_with fail
  refine (ysearch_any kC1 kT2 1 w1 hg1).mono ?_
  rintro e w2 ⟨r2, an, n, rfl, h1, hI2, hk2⟩
  obtain ⟨rfl, rfl⟩ := ks2 h1
  have hg2 := hg1.keep hk2 (by simp)
  have hI1b := hI1.keep hk2
  have hkA := hk1.trans hk2
  clear h1 hg1 hk1 hk2 hI1
  obtain ⟨g2, c2, rfl, _, _⟩ := iw_two hI2
  go_wp2_with fail
  refine (ysearch_any kC2 kT2 0 w2 hg2).mono ?_
  rintro e w3 ⟨r3, an, n, rfl, h1, hI3, hk3⟩
  obtain ⟨rfl, rfl⟩ := ks3 h1
  have hg3 := hg2.keep hk3 (by simp)
  have hI1c := hI1b.keep hk3
  have hI2c := hI2.keep hk3
  have hkB := hkA.trans hk3
  clear h1 hg2 hkA hk3 hI1b hI2
  obtain ⟨g3, c3, rfl, _, _⟩ := iw_two hI3
  go_wp2_with fail
  refine (ysearch_any kC3 kT2 0 w3 hg3).mono ?_
  rintro e w4 ⟨r4, an, n, rfl, h1, hI4, hk4⟩
  obtain ⟨rfl, rfl⟩ := ks4 h1
  have hr4 : r4 = .slice none 0 0 := hI4
  subst hr4
  obtain ⟨_, _, e1, a1, b1⟩ := iw_two (hI1c.keep hk4)
  obtain ⟨_, _, e2, a2, b2⟩ := iw_two (hI2c.keep hk4)
  obtain ⟨_, _, e3, a3, b3⟩ := iw_two (hI3.keep hk4)
  cases e1
  cases e2
  cases e3
  have hkC := hkB.trans hk4
  clear h1 hg3 hkB hk4 hI1c hI2c hI3 hI4
  go_wp2_with fail
  go_ret
  exact ⟨rfl, hkC⟩
 ·have hrw : (w0.alloc (.cells #[.string ⟨#[107, 119]⟩, .string ⟨#[105, 102, 124, 101, 108, 115, 101]⟩, .bool false, .string ⟨#[105, 100]⟩, .string ⟨#[91, 91, 58, 108, 111, 119, 101, 114, 58, 93, 93, 43]⟩, .bool false, .string ⟨#[119, 115]⟩, .string ⟨#[32, 43]⟩, .bool true] 28)).heap[w0.heap.size]? = some (.cells #[.string ⟨#[107, 119]⟩, .string dkS1, .bool false, .string ⟨#[105, 100]⟩, .string dkS2, .bool false, .string ⟨#[119, 115]⟩, .string dkS3, .bool true] 28 (0, 0)) := heap_alloc_new w0 _
  have hkF : Keeps [] w0 (w0.alloc (.cells #[.string ⟨#[107, 119]⟩, .string ⟨#[105, 102, 124, 101, 108, 115, 101]⟩, .bool false, .string ⟨#[105, 100]⟩, .string ⟨#[91, 91, 58, 108, 111, 119, 101, 114, 58, 93, 93, 43]⟩, .bool false, .string ⟨#[119, 115]⟩, .string ⟨#[32, 43]⟩, .bool true] 28)) := (Keeps.refl [] w0).alloc _
  have hru : RulIs (w0.alloc (.cells #[.string ⟨#[107, 119]⟩, .string ⟨#[105, 102, 124, 101, 108, 115, 101]⟩, .bool false, .string ⟨#[105, 100]⟩, .string ⟨#[91, 91, 58, 108, 111, 119, 101, 114, 58, 93, 93, 43]⟩, .bool false, .string ⟨#[119, 115]⟩, .string ⟨#[32, 43]⟩, .bool true] 28)) (.slice (some ⟨w0.heap.size, 0, none⟩) 3 3) dkR := ⟨by simp [dkR], Or.inr ⟨w0.heap.size, 0, 3, rfl, dk_ruc hrw, by simp [dkR], by decide⟩⟩
  have hg1 := hgn.keep hkF (by simp)
  clear hrw hgn hgp
  go_wp2_with fail
  refine (ytokens_any _ _ dkT _ hru hg1).mono ?_
  rintro e w6 ⟨vl, L, en, n, rfl, hTk, hrow, hfr, hk6⟩
  obtain ⟨rfl, rfl, rfl⟩ := dk_ex hTk
  have hkA := hkF.trans hk6
  obtain ⟨gl, gc, rfl, _, _⟩ := World.ownsRow.form hrow (by decide)
  have hcell : ∀ (q : Nat) (c : Value), q < 10 → (tkV [⟨0, 0, 2, 1, 1⟩, ⟨1, 3, 7, 1, 4⟩])[q]? = some c → w6.cell? ⟨gl, q, none⟩ = some c := fun q c hq hc => (World.ownsRow.cellAt hrow q hq).trans hc
  have t0 := hcell 0 _ (by decide) rfl
  have t1 := hcell 1 _ (by decide) rfl
  have t2 := hcell 2 _ (by decide) rfl
  have t5 := hcell 5 _ (by decide) rfl
  have t6 := hcell 6 _ (by decide) rfl
  have t7 := hcell 7 _ (by decide) rfl
  clear hTk hrow hfr hk6 hkF hru hg1 hcell
  go_wp2_with fail
  go_ret
  exact ⟨rfl, hkA⟩
 ·have hrw : (w0.alloc (.cells #[.string ⟨#[45, 111, 110]⟩, .string ⟨#[91, 48, 45, 57, 93, 43]⟩] 9)).heap[w0.heap.size]? = some (.cells ([onS, exP].map Value.string).toArray 9 (0, 0)) := heap_alloc_new w0 _
  have hkF : Keeps [] w0 (w0.alloc (.cells #[.string ⟨#[45, 111, 110]⟩, .string ⟨#[91, 48, 45, 57, 93, 43]⟩] 9)) := (Keeps.refl [] w0).alloc _
  have hal := args_one (n := 2) rfl hrw (fun a ha => by
    simp only [List.mem_cons, List.not_mem_nil, or_false] at ha
    rcases ha with rfl | rfl
    · decide
    · decide) (by decide)
  have hE := yextract_any _ _ exI _ (hgn.keep hkF (by simp)) hal (fun k p h => by cases ex_opt.det h; exact ⟨rfl, fun _ _ => rfl⟩) (by rw [ex_lines]; decide)
  clear hrw hgn hgp hal
  go_wp2_with fail
  refine hE.mono ?_
  rintro e w6 ⟨hX, hk6⟩
  have hX' := ex_ext hX
  subst hX'
  have hkA := hkF.trans hk6
  clear hE hX hk6 hkF
  go_wp2_with fail
  go_ret
  exact ⟨rfl, hkA⟩
end Go.Proofs.YtnfojonmohijpabGreatDoor
namespace Go.Proofs.YtnfojonmohijpabGreatDoor
open Go.ChangeShapes Go.WideShapes Go.ChangeAt Go.WideMaps Go.WideElems Go.RowKit
theorem ownK : ownKnob Tryz.prog.godebug = none := by kernel_rfl
theorem gCls : Tryz.prog.globalNamed "yarrow/byteset.classNames" = some 6 := by kernel_rfl
theorem tCls : (Tryz.prog.globals[6]?).map (·.type) = some 267 := by kernel_rfl
theorem cStr : Tryz.prog.cellsOf 9 = 1 := by kernel_rfl
theorem cCls : Tryz.prog.cellsOf 267 = 7 := by kernel_rfl
theorem str_cell {H : Type} {enc : TypeId × Value → H} {W : World} {base fuel : Nat} {sp : Nat → Bool} {held : Bool} {c : Value} {x : DataW H × List MemPlace} {l : List UInt8}
    (h : DataW.trod enc Tryz.prog W base sp held fuel 9 [c] = some x) (hx : DataW.lit (.string l) = x.1) : c = .string (nmB l) := by
 obtain ⟨s, hc, rfl, _⟩ := DataW.trod_string Tryz.underlying9 h
 simp only [List.cons.injEq, and_true] at hc
 simp only [DataW.lit.injEq, Lit.string.injEq] at hx
 subst hc
 rw [hx]
 congr 1
theorem seven {α : Type} (l : List α) (h : l.length = 7) : ∃ a b c d e f g, l = [a, b, c, d, e, f, g] := by
 match l, h with
 | [a, b, c, d, e, f, g], _ => exact ⟨a, b, c, d, e, f, g, rfl⟩
set_option maxRecDepth 100000 in
theorem of_laidN {W : World} (h : laidMetH Tryz.prog Rows.selectedRow.laid W) : GN W := by
 rw [MakeChecks.laidMetH_plain _ _ _ (by kernel_rfl)] at h
 obtain ⟨ps, ⟨g0, t0, cs0, f0, p0, q0, hg0, ht0, hv0, hd0, ⟨g1, t1, cs1, f1, p1, q1, hg1, ht1, hv1, hd1, ⟨g2, t2, cs2, f2, p2, q2, hg2, ht2, hv2, hd2, ⟨gA, tA, csA, fA, pA, qA, hgA, htA, hvA, hdA, ⟨g3, t3, cs3, f3, p3, q3, hg3, ht3, hv3, hd3, _, _⟩, _⟩, _⟩, _⟩, _⟩, _, _⟩ := h
 obtain rfl := Option.some.inj (gCls.symm.trans hg3)
 obtain rfl := Option.some.inj (tCls.symm.trans ht3)
 clear hd0 hd1 hd2 hv0 hv1 hv2 hg0 hg1 hg2 ht0 ht1 ht2 hdA hvA hgA htA
 obtain ⟨xs, m, rfl, hx, hlen, hn, hel⟩ := DataW.trod_array Tryz.underlying267 hd3
 rw [cCls] at hlen
 rw [cStr] at hel
 have hl : ∃ t fr, W.heap[6]? = some (.cells cs3 t fr) := by
  simp only [World.var?, gCls, Option.bind_some] at hv3
  split at hv3
  ·rename_i c t fr he
   cases hv3
   exact ⟨t, fr, he⟩
  ·cases hv3
 obtain ⟨t, fr, hl⟩ := hl
 refine ⟨t, fr, hl.trans ?_⟩
 obtain ⟨l3⟩ := cs3
 unfold Rows.laid_yarrow_byteset_classNames at hx
 simp only [Prod.mk.injEq, DataW.agg.injEq] at hx
 obtain ⟨hx, _⟩ := hx
 obtain ⟨c0, c1, c2, c3, c4, c5, c6, rfl⟩ := seven l3 hlen
 obtain ⟨x0, x1, x2, x3, x4, x5, x6, rfl⟩ := seven xs hn
 ·simp only [List.map_cons, List.map_nil, List.cons.injEq, and_true] at hx
  obtain ⟨e0, e1, e2, e3, e4, e5, e6⟩ := hx
  have h0 := str_cell (hel 0 (by decide)) e0
  have h1 := str_cell (hel 1 (by decide)) e1
  have h2 := str_cell (hel 2 (by decide)) e2
  have h3 := str_cell (hel 3 (by decide)) e3
  have h4 := str_cell (hel 4 (by decide)) e4
  have h5 := str_cell (hel 5 (by decide)) e5
  have h6 := str_cell (hel 6 (by decide)) e6
  subst h0 h1 h2 h3 h4 h5 h6
  rfl
theorem gPow : Tryz.prog.globalNamed "internal/strconv.uint64pow10" = some 1 := by kernel_rfl
theorem tPow : (Tryz.prog.globals[1]?).map (·.type) = some 252 := by kernel_rfl
theorem cU64 : Tryz.prog.cellsOf 100 = 1 := by kernel_rfl
set_option maxRecDepth 100000 in
theorem of_laid6 {W : World} (h : laidMetH Tryz.prog Rows.selectedRow.laid W) : GN W ∧ GP W := by
 have h0 := h
 rw [MakeChecks.laidMetH_plain _ _ _ (by kernel_rfl)] at h
 obtain ⟨ps, ⟨g0, t0, cs0, f0, p0, q0, hg0, ht0, hv0, hd0, ⟨g1, t1, cs1, f1, p1, q1, hg1, ht1, hv1, hd1, ⟨g2, t2, cs2, f2, p2, q2, hg2, ht2, hv2, hd2, ⟨gA, tA, csA, fA, pA, qA, hgA, htA, hvA, hdA, ⟨g3, t3, cs3, f3, p3, q3, hg3, ht3, hv3, hd3, _, _⟩, _⟩, _⟩, _⟩, _⟩, _, _⟩ := h
 obtain rfl := Option.some.inj (gPow.symm.trans hg2)
 obtain rfl := Option.some.inj (gCls.symm.trans hg3)
 obtain rfl := Option.some.inj (tPow.symm.trans ht2)
 obtain rfl := Option.some.inj (tCls.symm.trans ht3)
 clear hd0 hd1 hv0 hv1 hg0 hg1 ht0 ht1 hdA hvA hgA htA
 refine ⟨of_laidN h0, ?_⟩
 obtain ⟨xs, m, rfl, hx, hlen, hn, hel⟩ := DataW.trod_array Tryz.underlying252 hd2
 rw [cU64] at hel
 have h0 := hel 0 (by decide)
 unfold Rows.laid_internal_strconv_uint64pow10 at hx
 simp only [Prod.mk.injEq, DataW.agg.injEq] at hx
 obtain ⟨hx, _⟩ := hx
 match xs, hn, hx, h0 with
 | x0 :: r, _, hx, h0 =>
  simp only [List.map_cons, List.cons.injEq] at hx
  obtain ⟨e0, _⟩ := hx
  obtain ⟨k, e1, e2, _⟩ := DataW.trod_int Tryz.underlying100 (show DataW.trod _ Tryz.prog W 0 _ false m 100 _ = some x0 from h0)
  have hk : k = 1 := by rw [e2] at e0; simpa using e0.symm
  subst hk
  have := World.var?_cell hg2 hv2 0
  obtain ⟨l1⟩ := cs2
  match l1, e1 with
  | c :: _, e1 =>
   simp at e1
   subst e1
   unfold GP
   simpa using this
end Go.Proofs.YtnfojonmohijpabGreatDoor
