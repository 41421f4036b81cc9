/-
  DERIVED. What the program's Split has in memory: matchers one by one, tokens one by one. No conditions.
-/
import Derived.Test.YtnfojonmohijpabGreatDoorJKE
import Derived.Test.YtnfojonmohijpabGreatDoorJKF
import Derived.Test.YtnfojonmohijpabGreatDoorJSpec
set_option linter.unusedSimpArgs false
set_option linter.unusedVariables false
namespace Go.Proofs.YtnfojonmohijpabGreatDoor
open Go.RowKit
theorem RlOk.good {rs : List Rul} {i : Nat} {W : Whole} (h : RlOk rs i W) : W.x.sz ≤ 1000 ∧ W.x.fair 9 := by
 obtain ⟨r, _, _, _, hs, j, hq⟩ := h
 exact ⟨whole_sz hs hq, (PatR.good hs hq).1⟩
theorem MaM.zero (w : World) (S : Nat → Prop) (s : ByteArray) (N : Nat) : MaM w S s N (.slice none 0 0) [] [] := ⟨⟨rfl, .inl ⟨rfl, rfl⟩⟩, fun k W h => by simp at h⟩
theorem MaM.add {w w3 w5 : World} {s : ByteArray} {N : Nat} {v u a c : Value} {cs : List Value} {Ws : List Whole} {W : Whole} {lo g' cap i : Nat} (h : MaM w (fun z => lo ≤ z) s N v cs Ws) (hk : Keeps [] w w3) (hlo : lo ≤ w.heap.size) (hi : i = Ws.length) (hu : u.oneCell' = true) (ha : a.oneCell' = true) (hc : c.oneCell' = true) (hr : Mk w3 (fun z => w.heap.size ≤ z) s N .ways W.x [a, c])
    (hown : w5.ownsRow 0 67 7 (.slice (some ⟨g', 0, none⟩) (i + 1) cap) (i + 1) (cs ++ (mat W u s a c).toList)) (hgrow : (w3.alloc (.cells (mat W u s a c) 67)).grownBy w5 v.ownBlock) (hat : v.ownBlock = some g' ∨ g' = w3.heap.size + 1) :
    MaM w5 (fun z => lo ≤ z) s N (.slice (some ⟨g', 0, none⟩) (i + 1) cap) (cs ++ (mat W u s a c).toList) (Ws ++ [W]) := by
 subst hi
 have hk5 : Keeps v.ownBlock.toList w3 w5 := ((Keeps.refl v.ownBlock.toList w3).alloc _).trans (Keeps.ofGrown hgrow)
 have hcl : cs.length = Ws.length * 7 := h.own.1
 have hvl := World.ownsRow.lt h.own
 have s3 := hk.size
 refine ⟨by rw [List.length_append, List.length_singleton]; exact hown, fun k V hV => ?_⟩
 have hno : ∀ z, v.ownBlock ≠ some z → z < w3.heap.size → (Value.slice (some ⟨g', 0, none⟩) (Ws.length + 1) cap).ownBlock ≠ some z := by
  intro z hz hzl e
  simp only [Value.ownBlock, Option.some.injEq] at e
  subst e
  rcases hat with e | e
  ·exact hz e
  ·omega
 by_cases hkl : k < Ws.length
 ·rw [List.getElem?_append_left hkl] at hV
  obtain ⟨u', a', c', h1, h2, h2', h3, h4⟩ := h.parts k V hV
  refine ⟨u', a', c', h1, h2, h2', fun q x hq => ?_, ?_⟩
  ·have := h3 q x hq
   rw [List.getElem?_append_left (List.getElem?_eq_some_iff.1 this).1]
   exact this
  ·refine (((h4.mono (S' := fun z => (lo ≤ z ∧ v.ownBlock ≠ some z) ∧ z < w.heap.size) fun z hz hl => ⟨hz, hl⟩).keep hk (by simp)).keep hk5 ?_).mono ?_
   ·intro z hz hm
    rw [Option.mem_toList] at hm
    exact hz.1.2 hm
   ·intro z hz _
    exact ⟨hz.1.1, hno z hz.1.2 (by have := hz.2; omega)⟩
 ·have hke : k = Ws.length := by
     have := (List.getElem?_eq_some_iff.1 hV).1
     simp at this
     omega
  subst hke
  have hVW : V = W := by
   rw [List.getElem?_append_right (Nat.le_refl _)] at hV
   simp at hV
   exact hV.symm
  subst hVW
  refine ⟨u, a, c, hu, ha, hc, fun q x hq => ?_, ?_⟩
  ·rw [List.getElem?_append_right (by omega), show Ws.length * 7 + q - cs.length = q by omega]
   exact hq
  ·refine ((hr.mono (S' := fun z => w.heap.size ≤ z ∧ z < w3.heap.size) fun z hz hl => ⟨hz, hl⟩).keep hk5 ?_).mono ?_
   ·intro z hz hm
    rw [Option.mem_toList] at hm
    have := (hvl z hm).2
    have := hz.1
    omega
   ·intro z hz _
    refine ⟨by have := hz.1; omega, hno z ?_ hz.2⟩
    intro e
    have := (hvl z e).2
    have := hz.1
    omega
theorem mat_one {W : Whole} {u a c : Value} {s : ByteArray} (hu : u.oneCell' = true) (ha : a.oneCell' = true) (hc : c.oneCell' = true) : ∀ x ∈ (mat W u s a c).toList, x.oneCell' = true := by
 intro x hx
 simp only [mat, List.mem_cons, List.not_mem_nil, or_false] at hx
 rcases hx with rfl | rfl | rfl | rfl | rfl | rfl | rfl
 ·rfl
 ·rfl
 ·exact hu
 ·rfl
 ·rfl
 ·exact ha
 ·exact hc
def tkV : List Tok → List Value
 | [] => []
 | t :: l => [.int .i64 t.rule, .int .i64 t.frm, .int .i64 t.to, .int .i64 t.line, .int .i64 t.col] ++ tkV l
theorem tkV_app : ∀ a b, tkV (a ++ b) = tkV a ++ tkV b
 | [], b => rfl
 | t :: a, b => by rw [List.cons_append, tkV, tkV, tkV_app a b, List.append_assoc]
def TkR (w : World) (v : Value) (l : List Tok) : Prop := w.ownsRow 0 37 5 v l.length (tkV l)
theorem TkR.zero (w : World) : TkR w (.slice none 0 0) [] := ⟨rfl, .inl ⟨rfl, rfl⟩⟩
theorem infoMat : (Tryz.prog.info? 67).map (fun i => (i.zero, i.size, i.bytes)) = some (some (.agg #[.bool false, .bool false, .slice none 0 0, .int .i64 0, .string ⟨#[]⟩, .slice none 0 0, .slice none 0 0]), 7, 104) := by kernel_rfl
theorem infoTok : (Tryz.prog.info? 37).map (fun i => (i.zero, i.size, i.bytes)) = some (some (.agg #[.int .i64 0, .int .i64 0, .int .i64 0, .int .i64 0, .int .i64 0]), 5, 40) := by kernel_rfl
theorem mat_fill (W : Whole) (u : Value) (s : ByteArray) (a c : Value) : Instr.fill (fun i => some (i * 7, 7)) ((Array.range (1 * 7)).map ((#[.bool false, .bool false, .slice none 0 0, .int .i64 0, .string ⟨#[]⟩, .slice none 0 0, .slice none 0 0] : Array Value)[· % 7]!)) [(0, .agg (mat W u s a c))] = some (mat W u s a c) := by
 have e0 : (Array.range (1 * 7)).map ((#[.bool false, .bool false, .slice none 0 0, .int .i64 0, .string ⟨#[]⟩, .slice none 0 0, .slice none 0 0] : Array Value)[· % 7]!) = ([.bool false, .bool false, .slice none 0 0, .int .i64 0, .string ⟨#[]⟩, .slice none 0 0, .slice none 0 0] : List Value).toArray := by kernel_rfl
 rw [e0]
 have h1 := fill_one (fun i => some (i * 7, 7)) 0 (.agg (mat W u s a c)) [] [] [.bool false, .bool false, .slice none 0 0, .int .i64 0, .string ⟨#[]⟩, .slice none 0 0, .slice none 0 0] [] rfl rfl
 simp only [List.append_nil, List.nil_append, Value.cells] at h1
 exact h1.trans rfl
theorem wpList_maslice {ops : Array Oper} {rest : List Oper} {o : Oper} {a : Act} {w : World} {Q : Exit → Act → World → Prop} (hg : o.guard = none) (x : Operand) (ho : o.op = .buildSlice 93 1 #[(0, x)]) (d : Option Tmp) (hd : o.dst = d) (W : Whole) (u : Value) (s : ByteArray) (p c : Value) (hx : a.eval x = .agg (mat W u s p c))
    (h : wpList Tryz.prog ops Q rest (a.put d (.slice (some ⟨w.heap.size, 0, none⟩) 1 1)) (w.alloc (.cells (mat W u s p c) 67))) : wpList Tryz.prog ops Q (o :: rest) a w := by
 subst hd
 obtain ⟨i0, hi0, hz0, hz1, hz2⟩ := info_parts infoMat
 refine wpList_buildSlice hg 93 67 1 #[(0, x)] ho (mat W u s p c) i0 _ Tryz.underlying93 hi0 hz0 (by rw [hz1]; decide) (by rw [hz1]; decide) ?_ h
 rw [hz1]
 have := mat_fill W u s p c
 have e : (Value.agg #[.bool false, .bool false, .slice none 0 0, .int .i64 0, .string ⟨#[]⟩, .slice none 0 0, .slice none 0 0]).cells.size = 7 := rfl
 have e2 : ((#[(0, x)] : Array (Nat × Operand)).map fun (i, x) => (i, a.eval x)).toList = [(0, .agg (mat W u s p c))] := by simp [hx]
 rw [e, e2]
 exact this
theorem ruRow {w : World} {b : Nat} {W : Whole} {u : Value} {q : Bool} (h : w.heap[b]? = some (.cells (ruV W u q).toArray 92 (0, 0))) : w.rangeAt b 0 [.bool W.bg, .bool W.en, u, .int .i64 W.g] := fun j x hx => by
 have h4 : j < 4 := (List.getElem?_eq_some_iff.1 hx).1
 rw [Lib.cell_of_heap h, Nat.zero_add]
 match j, h4, hx with
 | 0, _, hx => exact hx
 | 1, _, hx => exact hx
 | 2, _, hx => exact hx
 | 3, _, hx => exact hx
theorem infoRu5 (W : Whole) (u : Value) (q : Bool) : (Tryz.prog.info? 92).map (·.size) = some (ruV W u q).toArray.size := by kernel_rfl
theorem ruV_all {W : Whole} {u : Value} {b : Bool} (hu : u.oneCell' = true) : (ruV W u b).toArray.all (·.oneCell') = true := by
 have h1 : ∀ b, (Value.bool b).oneCell' = true := fun _ => rfl
 have h2 : (Value.int .i64 W.g).oneCell' = true := rfl
 simp [ruV, h1, h2, hu]
structure SpL (w wr : World) (lo : Nat) (s : ByteArray) (xs : List Pat) (sk : Nat → Bool) (i : Nat) (v : Value) (L : List Tok) : Prop where
 row : TkR wr v L
 fresh : ∀ g, v.ownBlock = some g → lo ≤ g
 len : L.length ≤ i
 ile : i ≤ s.size
 keep : Keeps [] w wr
 says : ∀ l e, Tks s xs sk i l e → Tks s xs sk 0 (L ++ l) e
end Go.Proofs.YtnfojonmohijpabGreatDoor
namespace Go.Proofs.YtnfojonmohijpabGreatDoor
open Go.RowKit
def SpPost (s : ByteArray) (rs : List Rul) (Ws : List Whole) (w : World) (e : Ending) (w' : World) : Prop :=
 ∃ (v : Value) (L : List Tok) (j : Nat), e = .returned (.tuple #[v, .int .i64 j]) ∧ Tks s (Ws.map (·.x)) (skO rs) 0 L j ∧ TkR w' v L ∧ (∀ g, v.ownBlock = some g → w.heap.size ≤ g) ∧ Keeps [] w w'
set_option maxRecDepth 100000 in
set_option maxHeartbeats 8000000 in
theorem split_any (s : ByteArray) (hs : s.size ≤ 100) (rs : List Rul) (Ws : List Whole) (cs : List Value) (S : Nat → Prop) (g n c : Nat) (hn : n = Ws.length) (h1 : 1 ≤ n) (h8 : n ≤ 8) (w : World) (hM : RuM w S rs (.slice (some ⟨g, 0, none⟩) n c) cs Ws) :
    Calls Tryz.prog 18 #[.slice (some ⟨g, 0, none⟩) n c, .string s] w (SpPost s rs Ws w) := by
 obtain ⟨N, HN⟩ : ∃ N, Hid (N = s.size + 1) := ⟨_, rfl⟩
 have HNn : Hid (n = Ws.length ∧ 1 ≤ n ∧ n ≤ 8) := ⟨hn, h1, h8⟩
 have HS : Hid (s.size ≤ 100) := hs
 have h8' : (n : Int) ≤ 8 := by omega
 have hs' : (s.size : Int) ≤ 100 := by omega
 have hgl : g < w.heap.size := (World.ownsRow.lt hM.own g rfl).2
 have hcell : ∀ (X : World) (k : Nat) (W : Whole) (u : Value), Keeps [] w X → Ws[k]? = some W → (∀ q x, (ruV W u (skO rs k))[q]? = some x → cs[k * 5 + q]? = some x) → X.rangeAt g (k * 5) (ruV W u (skO rs k)) := fun X k W u hk hW hq q x hx => by
  have h5 : q < 5 := (List.getElem?_eq_some_iff.1 hx).1
  have hkl : k < Ws.length := (List.getElem?_eq_some_iff.1 hW).1
  have hown := hM.own
  rw [← HNn.out.1] at hown
  have hlt : k * 5 + q < n * 5 := by have := HNn.out.1; omega
  exact (World.cell?_of_block (hk.block g hgl (by simp))).trans ((World.ownsRow.cellAt hown (k * 5 + q) hlt).trans (hq q x hx))
 have HC : Hid (∀ (X : World) (k : Nat) (W : Whole) (u : Value), Keeps [] w X → Ws[k]? = some W → (∀ q x, (ruV W u (skO rs k))[q]? = some x → cs[k * 5 + q]? = some x) → X.rangeAt g (k * 5) (ruV W u (skO rs k))) := hcell
 clear hcell hn h1 h8 hs
 go_enter Tryz.func18, Tryz.ntmps18
 go_wp2_with fail
 go_loopw [6, 17] (fun q6 q wr => ∃ (i : Nat) (ds : List Value), q = .int .i64 i ∧ i ≤ n ∧ MaM wr (fun z => w.heap.size ≤ z) s N q6 ds (Ws.take i) ∧ (∀ g, q6.ownBlock = some g → w.heap.size ≤ g) ∧ Keeps [] w wr) (fun _ q _ => n - (intOf q).toNat)
 case atStart => exact ⟨0, [], rfl, Nat.zero_le _, MaM.zero _ _ _ _, (fun g h => by cases h), Keeps.refl _ _⟩
 case round =>
  obtain ⟨i, ds, rfl, hi, hMa, hfr, hK⟩ := hrel
  obtain ⟨xa, xn, xc, rfl⟩ := ownsRow_sl hMa.own
  by_cases hlt : i < n
  ·obtain ⟨W, hW⟩ : ∃ W, Ws[i]? = some W := ⟨_, List.getElem?_eq_getElem (by have := HNn.out; omega)⟩
   obtain ⟨hok, u, hu, hq, hrep⟩ := hM.parts i W hW
   obtain ⟨hsz, hfair⟩ := hok.good
   have hrg := HC.out wr i W u hK hW hq
   have hrepr := hrep.keep hK (by simp)
   have hi0 : (0 : Int) ≤ (i : Int) := by omega
   have hin : (i : Int) < (n : Int) := by omega
   have HI : Hid (i < n) := hlt
   have HW : Hid (Ws[i]? = some W) := hW
   have hil : i = (Ws.take i).length := by rw [List.length_take]; have := HNn.out.1; omega
   have HIL : Hid (i = (Ws.take i).length) := hil
   have hi5 : (Tryz.prog.info? 92).map (·.size) = some (ruV W u (skO rs i)).length := by kernel_rfl
   obtain ⟨b, hb⟩ : ∃ b, skO rs i = b := ⟨_, rfl⟩
   rw [hb] at hrg hi5
   have hz0 : (wr.alloc (.cells #[.bool false, .bool false, .slice none 0 0, .int .i64 0, .bool false] 92)).heap[wr.heap.size]? = some (.cells #[.bool false, .bool false, .slice none 0 0, .int .i64 0, .bool false] 92 (0, 0)) := heap_alloc_new wr _
   have hk6 : Keeps [] wr ((wr.alloc (.cells #[.bool false, .bool false, .slice none 0 0, .int .i64 0, .bool false] 92)).setRow wr.heap.size (ruV W u b).toArray) := ((Keeps.refl [] wr).alloc _).setRow (Or.inr (Nat.le_refl _)) _
   have hP6 : ((wr.alloc (.cells #[.bool false, .bool false, .slice none 0 0, .int .i64 0, .bool false] 92)).setRow wr.heap.size (ruV W u b).toArray).heap[wr.heap.size]? = some (.cells (ruV W u b).toArray 92 (0, 0)) := setRow_heap _ _ _ _ _ _ hz0
   have hrg6 := ruRow hP6
   have hall := ruV_all (W := W) (b := b) hu
   have hMa6 := hMa.keep hk6
   have hrep6 := hrepr.keep hk6 (by simp)
   have hkw6 := hK.trans hk6
   have hi4 := infoPat4 (.bool W.bg) (.bool W.en) u (.int .i64 (W.g : Int))
   clear hi hlt hW hq hrep hrepr hb hok hK hMa hil
   go_upto_region 5 with (first | (refine wpList_load_mid rfl 92 _ rfl g (i * 5) rfl _ _ hrg Tryz.underlying92 rfl hi5 ?_) | (refine wpList_store_row rfl 92 _ _ rfl wr.heap.size (ruV W u b).toArray rfl rfl _ _ hz0 (infoRu5 W u b) rfl hall ?_; generalize (wr.alloc (.cells #[.bool false, .bool false, .slice none 0 0, .int .i64 0, .bool false] 92)).setRow wr.heap.size (ruV W u b).toArray = w6 at *))
   obtain ⟨b6, hb6⟩ : ∃ b, wr.heap.size = b := ⟨_, rfl⟩
   rw [hb6] at hrg6 ⊢
   have hlo6 := hkw6.size
   clear hb6 hrg hz0 hP6 hk6
   go_wp2_with (first | (refine wpList_load_mid rfl 58 _ rfl b6 0 rfl _ _ hrg6 Tryz.underlying58 rfl hi4 ?_))
   refine (matNew_any s N HN HS.out W u _ w6 hrep6 hsz hfair).mono ?_
   rintro e w7 ⟨a, d, rfl, hmk, hk7⟩
   obtain ⟨hone, a', d', e0, hmp⟩ := hmk.form
   simp only [List.cons.injEq, and_true] at e0
   obtain ⟨rfl, rfl⟩ := e0
   have ha1 := hone a (by simp)
   have hd1 := hone d (by simp)
   have hMa7 := hMa6.keep hk7
   have hown7 := hMa7.own
   rw [← HIL.out] at hown7
   obtain ⟨i0, hi0', hz0', hz1', hz2'⟩ := info_parts infoMat
   have hun := Tryz.underlying93
   have hlm : i + 1 ≤ maxLen := by unfold maxLen; have := HI.out; have := HNn.out; omega
   have hbt : (i + 1) * 104 ≤ 140737488355328 := by have := HI.out; have := HNn.out; omega
   have hH : (w7.alloc (.cells (mat W u s a d) 67)).heap.size = w7.heap.size + 1 := by simp
   have hnews : ∀ j x, (mat W u s a d).toList[j]? = some x → (w7.alloc (.cells (mat W u s a d) 67)).cell? ((⟨w7.heap.size, 0, none⟩ : Addr).add j) = some x := World.news_of_block (cs := mat W u s a d) (heap_alloc_new w7 _)
   have honeM := mat_one (W := W) (s := s) hu ha1 hd1
   have hll : (mat W u s a d).toList.length = 1 * 7 := rfl
   clear hmp hone hrep6 hMa7 hall hi4 hi5 hrg6
   go_wp2_with (first | (refine wpList_maslice rfl (.tmp 25) rfl (some 26) rfl W u s a d rfl ?_) | (at_builtin; refine wpList_append_lies _ rfl _ _ _ rfl 0 67 i0 _ 7 104 hun hi0' hz0' hz1' hz2' rfl (by decide) (.slice xa xn xc) i ds rfl (hown7.alloc _) ⟨w7.heap.size, 0, none⟩ 1 1 (mat W u s a d).toList rfl hll hnews honeM (by omega) hlm hbt (Nat.zero_le _) (w7.heap.size + 1) hH ?_))
   intro g' cap w8 hown8 hgrow hat hlt8
   have hk8 : Keeps (Value.slice xa xn xc).ownBlock.toList w7 w8 := ((Keeps.refl _ w7).alloc _).trans (Keeps.ofGrown hgrow)
   have hMa8 := hMa6.add hk7 hlo6 HIL.out hu ha1 hd1 hmk hown8 hgrow hat
   have htk : Ws.take i ++ [W] = Ws.take (i + 1) := by rw [List.take_add_one, HW.out]; rfl
   rw [htk] at hMa8
   have hkw8 : Keeps [] w w8 := (hkw6.trans hk7).fresh hk8 (by
     intro y hy
     rw [Option.mem_toList] at hy
     exact Or.inr (hfr y hy))
   have hfr8 : ∀ y, (Value.slice (some ⟨g', 0, none⟩) (i + 1) cap).ownBlock = some y → w.heap.size ≤ y := by
    intro y hy
    cases hy
    rcases hat with h | h
    ·exact hfr _ h
    ·have := hk7.size
     show w.heap.size ≤ g'
     omega
   clear hown8 hgrow hnews hH honeM hk8 hown7 hMa6 hmk hat htk hll
   go_wp2_with fail
   go_roundw
   case rel => exact ⟨i + 1, _, by go_num, HI.out, hMa8, hfr8, hkw8⟩
   case measure => have := HI.out; simp [intOf]; omega
  have hin : i = n := by omega
  subst hin
  have hMa' : MaM wr (fun z => w.heap.size ≤ z) s N (.slice xa xn xc) ds Ws := by
   have e : Ws.take i = Ws := List.take_of_length_le (by have := HNn.out.1; omega)
   rw [e] at hMa
   exact hMa
  obtain ⟨gm, mc, hv, _, hgm⟩ : ∃ gm mc, Value.slice xa xn xc = .slice (some ⟨gm, 0, none⟩) i mc ∧ True ∧ gm < wr.heap.size := by
   have hown := hMa'.own
   rw [← HNn.out.1] at hown
   obtain ⟨gm, mc, hv, _, hg⟩ := hown.form (by have := HNn.out; omega)
   exact ⟨gm, mc, hv, trivial, (World.ownsRow.lt hown gm (by rw [hv]; rfl)).2⟩
  rw [hv] at hMa' ⊢
  have SP0 : SpL w wr wr.heap.size s (Ws.map (·.x)) (skO rs) 0 (.slice none 0 0) [] := ⟨TkR.zero _, (fun g h => by cases h), Nat.le_refl _, Nat.zero_le _, hK, fun l e h => h⟩
  have HMa : Hid (MaM wr (fun z => w.heap.size ≤ z) s N (.slice (some ⟨gm, 0, none⟩) i mc) ds Ws) := hMa'
  obtain ⟨W0, hW0⟩ : ∃ W0 : World, W0 = wr := ⟨_, rfl⟩
  subst hW0
  obtain ⟨m, hm⟩ : ∃ m : Nat, m = i := ⟨_, rfl⟩
  subst hm
  clear hv hMa hMa' hfr hi hlt
  go_wp2_with fail
  go_loopw [9, 10] (fun q9 q wr => ∃ (j : Nat) (L : List Tok), q = .int .i64 j ∧ SpL w wr W0.heap.size s (Ws.map (·.x)) (skO rs) j q9 L ∧ Keeps [] W0 wr) (fun _ q _ => s.size - (intOf q).toNat)
  case atStart => exact ⟨0, [], rfl, SP0, Keeps.refl _ _⟩
  case round =>
   clear SP0
   obtain ⟨j, L, rfl, SP, hKr⟩ := hrel
   obtain ⟨ya, yn, yc, rfl⟩ := ownsRow_sl SP.row
   have hjs := SP.ile
   have hj0 : (0 : Int) ≤ (j : Int) := by omega
   by_cases hlt : j < s.size
   ·have hlt' : (j : Int) < (s.size : Int) := by omega
    have HJ : Hid (j < s.size) := hlt
    have hC := lngst_any s N HN HS.out Ws ds _ gm m mc j HNn.out.1 HNn.out.2.2 hjs wr (HMa.out.keep hKr)
    clear hlt hjs
    go_wp2_with fail
    refine hC.mono ?_
    rintro e w2 ⟨r, k, rfl, hrk, hk2⟩
    have hK2 := hKr.trans hk2
    rcases hrk with ⟨hr, hbest⟩ | ⟨rfl, hnone⟩
    ·obtain ⟨W, hW⟩ : ∃ W, Ws[r]? = some W := ⟨_, List.getElem?_eq_getElem (by have := HNn.out.1; omega)⟩
     obtain ⟨_, u, hu, hq, _⟩ := hM.parts r W hW
     have hrg := HC.out w2 r W u (hK.trans hK2) hW hq
     have hsk := hrg 4 (.bool (skO rs r)) rfl
     have hr0 : (0 : Int) ≤ (r : Int) := by omega
     have hrm : (r : Int) < (m : Int) := by omega
     have hjk : ((k : Int) == (j : Int)) = false := by have := hbest.1; simp; omega
     have hjk' : ¬ (k : Int) = (j : Int) := by have := hbest.1; omega
     have HBe : Hid (BestT s (Ws.map (·.x)) j r k) := hbest
     have hkI : (k : Int) ≤ 100 := by have := hbest.2.1; have := HS.out; omega
     cases hb : skO rs r with
     | true =>
      rw [hb] at hsk
      have SP2 : SpL w w2 W0.heap.size s (Ws.map (·.x)) (skO rs) k (.slice ya yn yc) L := ⟨SP.row.keep hk2 (by simp), SP.fresh, by have := SP.len; have := hbest.1; omega, hbest.2.1, SP.keep.trans hk2, fun l e h => SP.says l e (.skip j r k l e hbest hb h)⟩
      have HB : Hid (j < k) := hbest.1
      clear hb hbest hrg hq hW hC SP
      go_wp2_with fail
      go_roundw
      case rel => exact ⟨k, L, rfl, SP2, hK2⟩
      case measure => have := HB.out; have := HJ.out; simp [intOf]; omega
     | false =>
      rw [hb] at hsk
      have hjs' : (j : Int) ≤ (s.size : Int) := by omega
      have hP := position_any s j (by have := HJ.out; omega) HS.out
      have hlp := lnC_pos s j
      obtain ⟨ln, hln⟩ : ∃ z, (lnC s j).1 = z := ⟨_, rfl⟩
      obtain ⟨cl, hcl⟩ : ∃ z, (lnC s j).2 = z := ⟨_, rfl⟩
      rw [hln, hcl] at hP hlp
      have hto := fun l e h => SP.says _ e (.tok j r k l e hbest hb h)
      rw [hln, hcl] at hto
      have HT : Hid (∀ l e, Tks s (Ws.map (·.x)) (skO rs) k l e → Tks s (Ws.map (·.x)) (skO rs) 0 (L ++ (⟨r, j, k, ln, cl⟩ :: l)) e) := hto
      have hown2 : w2.ownsRow 0 37 5 (.slice ya yn yc) L.length (tkV L) := SP.row.keep hk2 (by simp)
      have hLl := SP.len
      obtain ⟨n0, hn0⟩ : ∃ n0, L.length = n0 := ⟨_, rfl⟩
      rw [hn0] at hown2 hLl
      have HL0 : Hid (L.length = n0 ∧ n0 ≤ j) := ⟨hn0, hLl⟩
      obtain ⟨i0, hi0', hz0', hz1', hz2'⟩ := info_parts infoTok
      have hun := Tryz.underlying30
      have hlm : n0 + 1 ≤ maxLen := by unfold maxLen; have := HJ.out; have := HS.out; omega
      have hbt : (n0 + 1) * 40 ≤ 140737488355328 := by have := HJ.out; have := HS.out; omega
      have hH : (w2.alloc (.cells #[.int .i64 r, .int .i64 j, .int .i64 k, .int .i64 ln, .int .i64 cl] 37)).heap.size = w2.heap.size + 1 := by simp
      have hnews : ∀ q x, [Value.int .i64 r, .int .i64 j, .int .i64 k, .int .i64 ln, .int .i64 cl][q]? = some x → (w2.alloc (.cells #[.int .i64 r, .int .i64 j, .int .i64 k, .int .i64 ln, .int .i64 cl] 37)).cell? ((⟨w2.heap.size, 0, none⟩ : Addr).add q) = some x := World.news_of_block (cs := #[.int .i64 r, .int .i64 j, .int .i64 k, .int .i64 ln, .int .i64 cl]) (heap_alloc_new w2 _)
      have h1c : ∀ x ∈ [Value.int .i64 r, .int .i64 j, .int .i64 k, .int .i64 ln, .int .i64 cl], x.oneCell' = true := by
       intro x hx
       simp only [List.mem_cons, List.not_mem_nil, or_false] at hx
       rcases hx with rfl | rfl | rfl | rfl | rfl <;> rfl
      have hfr0 := SP.fresh
      have hkp := SP.keep
      have HB : Hid (j < k ∧ k ≤ s.size) := ⟨hbest.1, hbest.2.1⟩
      clear hb hbest hrg hq hW hC SP hto hln hcl hlp hn0 hLl
      go_wp2_with fail
      refine (hP w2).mono ?_
      rintro e w3 ⟨rfl, rfl⟩
      go_wp2_with (first | (at_builtin; refine wpList_append_lies _ rfl _ _ _ rfl 0 37 i0 _ 5 40 hun hi0' hz0' hz1' hz2' rfl (by decide) (.slice ya yn yc) n0 (tkV L) rfl (hown2.alloc _) ⟨w3.heap.size, 0, none⟩ 1 1 [.int .i64 r, .int .i64 j, .int .i64 k, .int .i64 ln, .int .i64 cl] rfl rfl hnews h1c (by omega) hlm hbt (Nat.zero_le _) (w3.heap.size + 1) hH ?_))
      intro g' cap w5 hown5 hgrow hat hlt5
      have hk5 : Keeps (Value.slice ya yn yc).ownBlock.toList w3 w5 := ((Keeps.refl _ w3).alloc _).trans (Keeps.ofGrown hgrow)
      have hW3 := hK2.size
      have hw0 := hK.size
      have SP5 : SpL w w5 W0.heap.size s (Ws.map (·.x)) (skO rs) k (.slice (some ⟨g', 0, none⟩) (n0 + 1) cap) (L ++ [⟨r, j, k, ln, cl⟩]) := by
       refine ⟨?_, ?_, ?_, HB.out.2, ?_, ?_⟩
       ·unfold TkR
        rw [List.length_append, HL0.out.1, tkV_app]
        exact hown5
       ·intro y hy
        cases hy
        rcases hat with h | h
        ·exact hfr0 _ h
        ·show W0.heap.size ≤ g'
         omega
       ·rw [List.length_append, HL0.out.1]; have := HL0.out.2; have := HB.out.1; simp; omega
       ·exact (hkp.trans hk2).fresh hk5 (by
          intro y hy
          rw [Option.mem_toList] at hy
          exact Or.inr (by have := hfr0 y hy; omega))
       ·intro l e h
        rw [List.append_assoc]
        exact HT.out l e h
      have hK5 : Keeps [] W0 w5 := hK2.fresh hk5 (by
        intro y hy
        rw [Option.mem_toList] at hy
        exact Or.inr (hfr0 y hy))
      clear hown5 hgrow hnews hH h1c hk5 hown2 hat hsk
      go_wp2_with fail
      go_roundw
      case rel => exact ⟨k, _, rfl, SP5, hK5⟩
      case measure => have := HB.out; have := HJ.out; simp [intOf]; omega
    ·have hjk : ((k : Int) == (k : Int)) = true := by simp
     have HE : Hid (Tks s (Ws.map (·.x)) (skO rs) 0 L k) := by
      have := SP.says [] k (.fin k hnone)
      rw [List.append_nil] at this
      exact this
     have hrow := SP.row.keep hk2 (by simp)
     have hkE := SP.keep.trans hk2
     have hfrE : ∀ g, (Value.slice ya yn yc).ownBlock = some g → w.heap.size ≤ g := fun g hg => by have := SP.fresh g hg; have := hK.size; omega
     clear hnone hC SP
     go_wp2_with fail
     go_ret2
     exact ⟨_, L, k, rfl, HE.out, hrow, hfrE, hkE⟩
   ·have he : j = s.size := by omega
    have hnl : ¬ (j : Int) < (s.size : Int) := by omega
    have HE : Hid (Tks s (Ws.map (·.x)) (skO rs) 0 L j) := by
     have := SP.says [] j (.fin j (fun m k x h1 h2 => by omega))
     rw [List.append_nil] at this
     exact this
    have hrow := SP.row
    have hkE := SP.keep
    have hfrE : ∀ g, (Value.slice ya yn yc).ownBlock = some g → w.heap.size ≤ g := fun g hg => by have := SP.fresh g hg; have := hK.size; omega
    clear he hlt hjs SP
    go_wp2_with fail
    go_ret2
    exact ⟨_, L, j, rfl, HE.out, hrow, hfrE, hkE⟩
end Go.Proofs.YtnfojonmohijpabGreatDoor
namespace Go.Proofs.YtnfojonmohijpabGreatDoor
open Go.RowKit
theorem RulesA.many {rs : List Rul} {Ws : List Whole} (h : RulesA rs Ws 0) : 1 ≤ Ws.length ∧ Ws.length ≤ 8 := by
 rcases h with ⟨_, _, h⟩ | ⟨h1, h8, ⟨_, _, _, _, h⟩ | ⟨_, h, _⟩⟩
 ·cases h
 ·exact absurd rfl h
 ·omega
set_option maxRecDepth 100000 in
set_option maxHeartbeats 4000000 in
theorem ytokens_any (v : Value) (rs : List Rul) (s : ByteArray) (w : World) (hr : RulIs w v rs) (hgn : GN w) :
    Calls Tryz.prog 9 #[v, .string s] w fun e w' => ∃ (vl : Value) (L : List Tok) (j : Nat) (n : Int), e = .returned (.tuple #[vl, .int .i64 j, .int .i64 n]) ∧ TokA rs s L j n ∧ TkR w' vl L ∧ (∀ g, vl.ownBlock = some g → w.heap.size ≤ g) ∧ Keeps [] w w' := by
 obtain ⟨va, vn, vc, rfl⟩ : IsSl v := by
  rcases hr.rd with ⟨_, a, c, rfl⟩ | ⟨g, o, c, rfl, _⟩
  ·exact ⟨_, _, _, rfl⟩
  ·exact ⟨_, _, _, rfl⟩
 go_enter Tryz.func9, Tryz.ntmps9
 go_wp2_with fail
 refine (readRules_any _ rs w hr hgn).mono ?_
 rintro e w1 ⟨hk1, u, n, Ws, rfl, hA, hc⟩
 rcases hc with ⟨hn, rfl⟩ | ⟨rfl, cs, hM, hfr⟩
 ·have HA : Hid (TokA rs s [] 0 n) := ⟨Ws, n, hA, Or.inl ⟨hn, rfl, rfl, rfl⟩⟩
  have n1 : (n == 0) = false := by simpa using hn
  have n2 : ¬ n = 0 := hn
  clear hA hn hr hgn
  go_wp2_with fail
  go_ret3
  exact ⟨_, [], 0, n, rfl, HA.out, TkR.zero _, (fun g h => by cases h), hk1⟩
 obtain ⟨h1, h8⟩ := hA.many
 obtain ⟨g, c, rfl, _, hg⟩ := hM.own.form h1
 by_cases hl : 100 < s.size
 ·have HA : Hid (TokA rs s [] 0 1) := ⟨Ws, 0, hA, Or.inr ⟨rfl, Or.inl ⟨hl, rfl, rfl, rfl⟩⟩⟩
  have l1 : (100 : Int) < (s.size : Int) := by omega
  have l2 : decide ((100 : Int) < (s.size : Int)) = true := by simp; omega
  clear hA hl hr hgn hM
  go_wp2_with fail
  go_ret3
  exact ⟨_, [], 0, 1, rfl, HA.out, TkR.zero _, (fun g h => by cases h), hk1⟩
 have l1 : (s.size : Int) ≤ 100 := by omega
 have l2 : decide ((100 : Int) < (s.size : Int)) = false := by simp; omega
 have l3 : ¬ (100 : Int) < (s.size : Int) := by omega
 have HA : Hid (RulesA rs Ws 0) := hA
 have HL : Hid (s.size ≤ 100) := (by omega : s.size ≤ 100)
 have HC := split_any s HL.out rs Ws cs _ g Ws.length c rfl h1 h8 w1 hM
 obtain ⟨n, hn⟩ : ∃ n, Ws.length = n := ⟨_, rfl⟩
 rw [hn] at HC ⊢
 clear hA hl hr hgn hM hn h1 h8
 go_wp2_with fail
 refine HC.mono ?_
 rintro e w2 ⟨vl, L, j, rfl, hT, hrow, hfr2, hk2⟩
 obtain ⟨xa, xn, xc, rfl⟩ := ownsRow_sl hrow
 have HT : Hid (TokA rs s L j 0) := ⟨Ws, 0, HA.out, Or.inr ⟨rfl, Or.inr ⟨HL.out, rfl, hT⟩⟩⟩
 have hkE := hk1.trans hk2
 have hfE : ∀ g, (Value.slice xa xn xc).ownBlock = some g → w.heap.size ≤ g := fun g hg => by have := hfr2 g hg; have := hk1.size; omega
 clear hT HC hfr2 hk2
 go_wp2_with fail
 go_ret3
 exact ⟨_, L, j, 0, rfl, HT.out, hrow, hfE, hkE⟩
end Go.Proofs.YtnfojonmohijpabGreatDoor
namespace Go.Proofs.YtnfojonmohijpabGreatDoor
def Lies (s : ByteArray) (i : Nat) (p : List UInt8) : Prop := ∀ k c, p[k]? = some c → at' s (i + k) = (c.toNat : Int)
theorem Lies.nil {s : ByteArray} {i : Nat} : Lies s i [] := fun k c h => by simp at h
theorem Lies.cons {s : ByteArray} {i : Nat} {c : UInt8} {p : List UInt8} : Lies s i (c :: p) ↔ at' s i = (c.toNat : Int) ∧ Lies s (i + 1) p := by
 constructor
 ·intro h
  refine ⟨h 0 c rfl, fun k d hd => ?_⟩
  have := h (k + 1) d (by simpa using hd)
  rw [show i + 1 + k = i + (k + 1) by omega]
  exact this
 ·rintro ⟨h1, h2⟩ k d hd
  cases k with
  | zero => simp at hd; subst hd; exact h1
  | succ k =>
   have := h2 k d (by simpa using hd)
   rw [show i + (k + 1) = i + 1 + k by omega]
   exact this
theorem Lies.app {s : ByteArray} {p q : List UInt8} : ∀ {i : Nat}, Lies s i (p ++ q) ↔ Lies s i p ∧ Lies s (i + p.length) q := by
 induction p with
 | nil => intro i; simp [Lies.nil]
 | cons c p ih =>
  intro i
  rw [List.cons_append, Lies.cons, ih, Lies.cons, List.length_cons, show i + 1 + p.length = i + (p.length + 1) by omega]
  exact ⟨fun ⟨a, b, d⟩ => ⟨⟨a, b⟩, d⟩, fun ⟨⟨a, b⟩, d⟩ => ⟨a, b, d⟩⟩
theorem lies_get {s : ByteArray} {i : Nat} {c : UInt8} (h : at' s i = (c.toNat : Int)) : s.get! i = c := by
 have hlt : i < s.size := at'_nn (by omega)
 rw [at'_lt hlt] at h
 have h2 : s[i].toNat = c.toNat := by omega
 have h3 : s[i] = c := UInt8.toNat_inj.1 h2
 have e : s.get! i = s[i] := by
  cases s with
  | mk a => exact getElem!_pos a i hlt
 rw [e, h3]
def noRep (c : Int) : Prop := c ≠ 42 ∧ c ≠ 43 ∧ c ≠ 63 ∧ c ≠ 123
def pre : List Pat → Pat → Pat
 | [], y => y
 | x :: l, y => .pcons x (pre l y)
theorem pre_app (l m : List Pat) (y : Pat) : pre (l ++ m) y = pre l (pre m y) := by
 induction l with
 | nil => rfl
 | cons x l ih => rw [List.cons_append, pre, pre, ih]
structure Wy (p : List UInt8) (f : Nat → List Pat) (n dep : Nat) : Prop where
 hd : ∃ c r, p = c :: r ∧ noRep (c.toNat : Int)
 rd : ∀ (s : ByteArray) (i d g : Nat) (q : R (Pat × Nat)), Lies s i p → d + dep ≤ 6 → g + n ≤ 9 → noRep (at' s (i + p.length)) → G s .way d (g + n) (i + p.length) q → G s .way d g i (q.map fun y => (pre (f g) y.1, y.2))
def Ws (p : List UInt8) (x : Nat → Pat) (n dep : Nat) : Prop :=
 ∀ (s : ByteArray) (i d g : Nat), Lies s i p → d + dep ≤ 6 → g + n ≤ 9 → (at' s (i + p.length) = 41 ∨ at' s (i + p.length) = -1) → G s .ways d g i (.ok (x g, g + n) (i + p.length))
def Sg (p : List UInt8) (x : Pat) : Prop := (∃ c r, p = c :: r ∧ noRep (c.toNat : Int) ∧ ¬ stopC (c.toNat : Int)) ∧ ∀ (s : ByteArray) (i d g : Nat), Lies s i p → G s .single d g i (.ok (x, g) (i + p.length))
def Rx (r : List UInt8) (o : Option (Nat × Int)) : Prop := ∀ (s : ByteArray) (j : Nat), Lies s j r → noRep (at' s (j + r.length)) → RepR s j (.ok o (j + r.length))
theorem Wy.app {p q : List UInt8} {f f' : Nat → List Pat} {n n' a a' : Nat} (h : Wy p f n a) (k : Wy q f' n' a') : Wy (p ++ q) (fun g => f g ++ f' (g + n)) (n + n') (max a a') := by
 obtain ⟨c, r, rfl, hc⟩ := h.hd
 obtain ⟨c', r', rfl, hc'⟩ := k.hd
 refine ⟨⟨c, r ++ (c' :: r'), rfl, hc⟩, ?_⟩
 intro s i d g z hl hd hg he hz
 obtain ⟨l1, l2⟩ := Lies.app.1 hl
 have e : i + ((c :: r) ++ (c' :: r')).length = i + (c :: r).length + (c' :: r').length := by rw [List.length_append]; omega
 rw [e] at he hz
 rw [show g + (n + n') = g + n + n' by omega] at hz
 have h2 := k.rd s (i + (c :: r).length) d (g + n) z l2 (by omega) (by omega) he hz
 have h3 := h.rd s i d g _ l1 (by omega) (by omega) (by rw [(Lies.cons.1 l2).1]; exact hc') h2
 cases z with
 | bad j => exact h3
 | ok y j =>
  have e3 : (R.ok y j).map (fun y => (pre (f g ++ f' (g + n)) y.1, y.2)) = ((R.ok y j).map fun y => (pre (f' (g + n)) y.1, y.2)).map fun y => (pre (f g) y.1, y.2) := by simp [R.map, pre_app]
  rw [e3]
  exact h3
theorem Wy.single {p r : List UInt8} {x : Pat} {o : Option (Nat × Int)} (h : Sg p x) (hr : Rx r o) : Wy (p ++ r) (fun _ => [withRep x o]) 0 0 := by
 obtain ⟨⟨c, t, rfl, hc, hs⟩, h⟩ := h
 refine ⟨⟨c, t ++ r, rfl, hc⟩, ?_⟩
 intro s i d g z hl hd hg he hz
 obtain ⟨l1, l2⟩ := Lies.app.1 hl
 have e : i + ((c :: t) ++ r).length = i + (c :: t).length + r.length := by rw [List.length_append]; omega
 rw [e] at he hz
 have h1 := h s i d g l1
 have h2 := G.rep d g i g (i + (c :: t).length) x (.ok o (i + (c :: t).length + r.length)) h1 (hr s _ l2 he)
 exact G.cons d g i g _ _ z (by rw [(Lies.cons.1 l1).1]; exact hs) h2 hz
theorem Ws.one {p : List UInt8} {f : Nat → List Pat} {n a : Nat} (h : Wy p f n a) : Ws p (fun g => .wone (pre (f g) .pnil)) n a := by
 intro s i d g hl hd hg he
 have h1 := h.rd s i d g (.ok (.pnil, g + n) (i + p.length)) hl hd hg (by unfold noRep; omega) (G.nil d (g + n) _ (by unfold stopC; omega))
 exact G.one d g i (g + n) _ _ h1 (by omega)
theorem Ws.nil : Ws [] (fun _ => .wone .pnil) 0 0 := by
 intro s i d g _ _ _ he
 exact G.one d g i g _ _ (G.nil d g i (by simp only [List.length_nil, Nat.add_zero] at he; unfold stopC; omega)) (by simp only [List.length_nil, Nat.add_zero] at he ⊢; omega)
theorem Ws.cons {p q : List UInt8} {f : Nat → List Pat} {y : Nat → Pat} {n n' a a' : Nat} (h : Wy p f n a) (k : Ws q y n' a') : Ws (p ++ [124] ++ q) (fun g => .wcons (pre (f g) .pnil) (y (g + n))) (n + n') (max a a') := by
 intro s i d g hl hd hg he
 obtain ⟨l12, l3⟩ := Lies.app.1 hl
 obtain ⟨l1, l2⟩ := Lies.app.1 l12
 have hb : at' s (i + p.length) = 124 := (Lies.cons.1 l2).1
 have e1 : i + (p ++ [124]).length = i + p.length + 1 := by rw [List.length_append]; rfl
 have e2 : i + (p ++ [124] ++ q).length = i + p.length + 1 + q.length := by rw [List.length_append, List.length_append]; simp only [List.length_singleton]; omega
 rw [e1] at l3
 rw [e2] at he ⊢
 have h1 := h.rd s i d g (.ok (.pnil, g + n) (i + p.length)) l1 (by omega) (by omega) (by unfold noRep; omega) (G.nil d (g + n) _ (by unfold stopC; omega))
 have h2 := k s (i + p.length + 1) d (g + n) l3 (by omega) (by omega) he
 have h3 := G.more d g i (g + n) (i + p.length) _ (.ok (y (g + n), g + n + n') (i + p.length + 1 + q.length)) h1 hb h2
 rw [show g + (n + n') = g + n + n' by omega]
 exact h3
theorem Wy.grp {p r : List UInt8} {x : Nat → Pat} {n a : Nat} {o : Option (Nat × Int)} (h : Ws p x n a) (hr : Rx r o) : Wy ([40] ++ p ++ [41] ++ r) (fun g => [withRep (.grp (g + 1) (x (g + 1))) o]) (n + 1) (a + 1) := by
 refine ⟨⟨40, p ++ [41] ++ r, by simp, by unfold noRep; decide⟩, ?_⟩
 intro s i d g z hl hd hg he hz
 obtain ⟨l123, l4⟩ := Lies.app.1 hl
 obtain ⟨l12, l3⟩ := Lies.app.1 l123
 obtain ⟨l1, l2⟩ := Lies.app.1 l12
 have e1 : i + ([40] : List UInt8).length = i + 1 := rfl
 have e2 : i + ([40] ++ p).length = i + 1 + p.length := by rw [List.length_append]; simp only [List.length_singleton]; omega
 have e3 : i + ([40] ++ p ++ [41]).length = i + 1 + p.length + 1 := by rw [List.length_append, List.length_append]; simp only [List.length_singleton]; omega
 have e4 : i + ([40] ++ p ++ [41] ++ r).length = i + 1 + p.length + 1 + r.length := by rw [List.length_append]; omega
 rw [e1] at l2
 rw [e2] at l3
 rw [e3] at l4
 rw [e4] at he hz
 have ho : at' s i = 40 := (Lies.cons.1 l1).1
 have hc : at' s (i + 1 + p.length) = 41 := (Lies.cons.1 l3).1
 have h1 := h s (i + 1) (d + 1) (g + 1) l2 (by omega) (by omega) (Or.inl hc)
 have h2 := G.grp d g i (g + 1 + n) (i + 1 + p.length) _ ho (by omega) h1 hc
 have h3 := G.rep d g i (g + 1 + n) (i + 1 + p.length + 1) _ (.ok o (i + 1 + p.length + 1 + r.length)) h2 (hr s _ l4 he)
 rw [show g + (n + 1) = g + 1 + n by omega] at hz
 exact G.cons d g i (g + 1 + n) _ _ z (by rw [ho]; unfold stopC; decide) h3 hz
theorem Rx.none : Rx [] none := fun s j _ he => Or.inl ⟨he.1, he.2.1, he.2.2.1, he.2.2.2, rfl⟩
theorem Rx.star : Rx [42] (some (0, -1)) := fun s j hl _ => Or.inr (Or.inl ⟨(Lies.cons.1 hl).1, rfl⟩)
theorem Rx.plus : Rx [43] (some (1, -1)) := fun s j hl _ => Or.inr (Or.inr (Or.inl ⟨(Lies.cons.1 hl).1, rfl⟩))
theorem Rx.opt : Rx [63] (some (0, 1)) := fun s j hl _ => Or.inr (Or.inr (Or.inr (Or.inl ⟨(Lies.cons.1 hl).1, rfl⟩)))
theorem num1 {s : ByteArray} {least m i : Nat} (h : at' s i = ((48 + m : Nat) : Int)) (hm : m ≤ 5) (hl : least ≤ m) (hn : digB (at' s (i + 1)) = false) : NumL s least 0 false i (.ok m (i + 1)) := by
 refine NumL.dig 0 m false i _ ?_ (by rw [h]; omega) hm (Or.inr hl) (NumL.done m (i + 1) hn hl)
 rw [h]
 simp only [digB, Bool.and_eq_true, decide_eq_true_eq]
 omega
theorem Rx.from {m : Nat} (hm : m ≤ 5) : Rx [123, UInt8.ofNat (48 + m), 44, 125] (some (m, -1)) := by
 intro s j hl _
 obtain ⟨h0, hl⟩ := Lies.cons.1 hl
 obtain ⟨h1, hl⟩ := Lies.cons.1 hl
 obtain ⟨h2, hl⟩ := Lies.cons.1 hl
 obtain ⟨h3, _⟩ := Lies.cons.1 hl
 have e : ((UInt8.ofNat (48 + m)).toNat : Int) = ((48 + m : Nat) : Int) := by
  have : (UInt8.ofNat (48 + m)).toNat = 48 + m := by simp; omega
  rw [this]
 rw [e] at h1
 exact Or.inr (Or.inr (Or.inr (Or.inr ⟨h0, _, num1 h1 hm (Nat.zero_le _) (by rw [h2]; decide), Or.inl ⟨h2, h3, rfl⟩⟩)))
theorem Rx.upto {m n : Nat} (hm : m ≤ n) (hn : n ≤ 5) : Rx [123, UInt8.ofNat (48 + m), 44, UInt8.ofNat (48 + n), 125] (some (m, (n : Int))) := by
 intro s j hl _
 obtain ⟨h0, hl⟩ := Lies.cons.1 hl
 obtain ⟨h1, hl⟩ := Lies.cons.1 hl
 obtain ⟨h2, hl⟩ := Lies.cons.1 hl
 obtain ⟨h3, hl⟩ := Lies.cons.1 hl
 obtain ⟨h4, _⟩ := Lies.cons.1 hl
 have e : ∀ k, k ≤ 5 → ((UInt8.ofNat (48 + k)).toNat : Int) = ((48 + k : Nat) : Int) := fun k hk => by
  have : (UInt8.ofNat (48 + k)).toNat = 48 + k := by simp; omega
  rw [this]
 rw [e m (by omega)] at h1
 rw [e n hn] at h3
 have h4' : at' s (j + 1 + 1 + 1 + 1) = 125 := h4
 exact Or.inr (Or.inr (Or.inr (Or.inr ⟨h0, _, num1 h1 (by omega) (Nat.zero_le _) (by rw [h2]; decide), Or.inr (Or.inl ⟨h2, by rw [h3]; omega, _, num1 h3 hn hm (by rw [h4]; decide), by rw [Rep3, if_pos h4']; rfl⟩)⟩)))
theorem Ws.whole {p : List UInt8} {x : Nat → Pat} {n a : Nat} (h : Ws p x n a) (ha : a ≤ 6) (hn : n ≤ 9) (hp : p.head? ≠ some 94) (s : ByteArray) (hs : s.data.toList = p) : PatR s (.ok ⟨false, false, x 0, n⟩ p.length) := by
 have hsz : s.size = p.length := by rw [← hs, Array.length_toList]; rfl
 have hl : Lies s 0 p := by
  intro k c hc
  have hk : k < s.size := by rw [hsz]; exact (List.getElem?_eq_some_iff.1 hc).1
  rw [Nat.zero_add, at'_lt hk]
  have : s.data.toList[k]? = some c := by rw [hs]; exact hc
  have h2 : s[k] = c := by
   have h3 : s.data[k]? = some c := by simpa using this
   exact (Array.getElem?_eq_some_iff.1 h3).2
  rw [h2]
 have he : at' s p.length = -1 := at'_ge (by omega)
 have h1 := h s 0 0 0 hl (by omega) (by omega) (Or.inr (by rw [Nat.zero_add]; exact he))
 have h0 : at' s 0 ≠ 94 := by
  cases p with
  | nil => rw [at'_ge (by rw [hsz]; simp)]; decide
  | cons c r =>
   have := (Lies.cons.1 hl).1
   rw [this]
   intro hc
   apply hp
   simp only [List.head?_cons, Option.some.injEq]
   apply UInt8.toNat_inj.1
   have : (94 : UInt8).toNat = 94 := rfl
   omega
 have hw : wi s = 0 := by unfold wi; rw [if_neg h0]
 rw [Nat.zero_add, Nat.zero_add] at h1
 refine ⟨_, by rw [hw]; exact h1, ?_⟩
 rw [PatE_ok, he]
 simp [h0, he]
end Go.Proofs.YtnfojonmohijpabGreatDoor
namespace Go.Proofs.YtnfojonmohijpabGreatDoor
def evs : List Int → List (Nat × Nat × Nat) → List Int
 | l, [] => l
 | l, (n, i, j) :: ev => evs ((l.set (2 * n - 2) i).set (2 * n - 1) j) ev
theorem evs_len : ∀ (ev : List (Nat × Nat × Nat)) (l : List Int), (evs l ev).length = l.length
 | [], l => rfl
 | (n, i, j) :: ev, l => by rw [evs, evs_len ev]; simp
end Go.Proofs.YtnfojonmohijpabGreatDoor
