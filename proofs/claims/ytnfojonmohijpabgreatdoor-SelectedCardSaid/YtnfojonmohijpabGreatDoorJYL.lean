/-
  DERIVED. A handed-in row of ints, read: RawIs.
-/
import Derived.Test.YtnfojonmohijpabGreatDoorJYE
import Derived.ProofKit
import Derived.Test.YtnfojonmohijpabGreatDoorJOF
import Derived.Test.YtnfojonmohijpabGreatDoorJOL
import Derived.BigQuiet
import Derived.Lib.SliceRun
import Derived.Deep.QuietTactic
import Derived.Test.YtnfojonmohijpabGreatDoorJYA
import Derived.Test.YtnfojonmohijpabGreatDoorJSpec
import Derived.WalkLawsBesides
import Derived.Test.YtnfojonmohijpabGreatDoorJRG
import Derived.Test.YtnfojonmohijpabGreatDoorJNK
import Derived.Deep.CutRange
import Derived.Test.YtnfojonmohijpabGreatDoorRows
import Derived.LaidMore
import Derived.OpenShut
import Derived.Stop.Joined
import Derived.ChangeMaps5
set_option linter.unusedSimpArgs false
set_option linter.unusedVariables false
namespace Go.Proofs.YtnfojonmohijpabGreatDoor
open Go.ChangeShapes Go.WideShapes Go.ChangeAt Go.WideMaps Go.WideElems Go.RowKit
set_option maxRecDepth 100000 in
theorem raw_open {H : Type} {enc : TypeId × Value → H} {W : World} {base : Nat} {v : Value} {d : DataW H} {p : List MemPlace} (hv : Value.okWide Tryz.prog W .any base 22 v)
    (h : DataW.Trod enc Tryz.prog W 0 (fun _ => true) true 22 v d p) : ∃ zs, RawIs W v zs := by
 obtain ⟨a0, len0, cap0, rfl⟩ := okWide_slice Tryz.underlying22 hv
 obtain ⟨fuel, hf⟩ := h
 rcases open_ints Tryz.underlying22 Tryz.underlying3 (by kernel_rfl) hf with ⟨hcs, _⟩ | ⟨x, l, c, zs, hcs, _, hl, hm, hz, _, hcell, hwz⟩
 ·simp [Value.cells] at hcs
  obtain ⟨rfl, rfl, rfl⟩ := hcs
  exact ⟨[], ⟨none, 0, rfl, fun i z h => by simp at h⟩, by simp, fun i z h => by simp at h⟩
 ·simp [Value.cells] at hcs
  obtain ⟨rfl, rfl, rfl⟩ := hcs
  simp only [if_true] at hz
  have hll : (zs.take len0).length = len0 := by simp; omega
  have hget : ∀ (i : Nat) (z : Int), (zs.take len0)[i]? = some z → zs[i]? = some z ∧ i < zs.length := by
   intro i z hi
   have h1 := (List.getElem?_eq_some_iff.1 hi).1
   rw [hll] at h1
   rw [List.getElem?_take_of_lt h1] at hi
   exact ⟨hi, (List.getElem?_eq_some_iff.1 hi).1⟩
  refine ⟨zs.take len0, ⟨some x, cap0, by rw [hll], fun i z hi => ?_⟩, ?_, fun i z hi => ?_⟩
  ·obtain ⟨h1, h2⟩ := hget i z hi
   have h3 := hcell i h2
   rw [List.getD_eq_getElem?_getD, h1] at h3
   have h4 := World.block_lt_of_cell? _ _ h3
   have h5 : (x.add i).block = x.block := by unfold Addr.add; first | rfl | (split <;> rfl)
   exact ⟨x, rfl, by rw [← h5]; exact h4, h3⟩
  ·rw [hll]; unfold maxLen at hm; omega
  ·obtain ⟨h1, _⟩ := hget i z hi
   have h3 := hwz z (List.mem_of_getElem? h1)
   simp [Lit.wf] at h3
   have h6 : IntKind.i64.min = -9223372036854775808 := by decide
   exact ⟨by omega, h3.2⟩
end Go.Proofs.YtnfojonmohijpabGreatDoor
namespace Go.Proofs.YtnfojonmohijpabGreatDoor
open Go.RowKit
set_option maxRecDepth 100000 in
theorem txD_no10 (s : ByteArray) (n : Nat) : ∀ i, at' (txT s n) i ≠ 10 := by
 intro i
 by_cases h : i < (txT s n).size
 ·rw [at'_lt h]
  have h2 : (txT s n).data[i]? = some (txT s n)[i] := Array.getElem?_eq_getElem h
  have h3 : (txT s n).data.toList[i]? = some (txT s n)[i] := by rw [Array.getElem?_toList]; exact h2
  unfold txT bOf at h3
  simp only [List.getElem?_map] at h3
  cases hb : (s.data.toList.take n)[i]? with
  | none => rw [hb] at h3; cases h3
  | some b =>
   rw [hb] at h3
   simp only [Option.map_some, Option.some.injEq] at h3
   unfold txT bOf
   rw [← h3]
   have key : ∀ m : Fin 256, (ltr m.val).toNat ≠ 10 := by decide
   have := key ⟨b.toNat, b.toNat_lt⟩
   intro e
   exact this (by exact_mod_cast e)
 ·rw [at'_ge (by omega)]; decide
theorem no10_all {s : ByteArray} (h : ∀ i, at' s i ≠ 10) : ∀ b ∈ s.data.toList, b ≠ 10 := by
 intro b hb e
 subst e
 obtain ⟨i, hi, he⟩ := List.mem_iff_getElem.1 hb
 have hs : i < s.size := hi
 refine h i ?_
 rw [at'_lt hs]
 have : s[i] = (10 : UInt8) := he
 rw [this]
 rfl
theorem conv2 (w : World) (x : Int) : (convert 44 9 (.slice (some ⟨w.heap.size, 0, none⟩) 2 2)).run Tryz.prog (w.alloc (.cells #[.int .u8 x, .int .u8 10] 5)) = .ok (.string (nmB [UInt8.ofNat x.toNat, 10])) (w.alloc (.cells #[.int .u8 x, .int .u8 10] 5)) := by
 have h : (loadCells ⟨w.heap.size, 0, none⟩ 2).run Tryz.prog (w.alloc (.cells #[.int .u8 x, .int .u8 10] 5)) = .ok ([x, 10].map (Value.int .u8)).toArray (w.alloc (.cells #[.int .u8 x, .int .u8 10] 5)) := by
  simp [loadCells, go_sem]
 rw [run_convert_bytes_string _ _ _ _ _ _ _ Tryz.underlying44 Tryz.underlying5 Tryz.underlying9, run_bytesToString _ _ _ _ [x, 10] h]
 rfl
theorem dec9 (n : Nat) (h : n ≤ 9) : nmB [UInt8.ofNat (48 + (n : Int)).toNat, 10] = nmB (decT n ++ [10]) := by
 have := of_decide_eq_true (p := ∀ i : Fin 10, [UInt8.ofNat (48 + (i.val : Int)).toNat, 10] = decT i.val ++ [10]) (by kernel_rfl) ⟨n, by omega⟩
 rw [this]
structure SlI (W : Whole) (nT : Nat) (D : List Dl) (a b c d : ByteArray) (n m i : Nat) : Prop where
 ins : a = nmB (D.flatMap Dl.line)
 yes : b = nmB (D.flatMap Dl.yes)
 no : c = nmB (D.flatMap Dl.no)
 only : d = nmB (D.flatMap Dl.only)
 hn : n = cntD false D
 hm : m = cntD true D
 len : i = D.length
 le : i ≤ nT
 l9 : i ≤ 9
 ok : ∀ x ∈ D, x.ok W
 nl : ∀ x ∈ D, ∀ y ∈ x.t.data.toList, y ≠ 10
 ts : ∀ x ∈ D, x.t.size ≤ 9
 sz : a.size ≤ 100 * i ∧ b.size ≤ 100 * i ∧ c.size ≤ 100 * i ∧ d.size ≤ 100 * i
theorem cnt_le (v : Bool) (D : List Dl) : cntD v D ≤ D.length := List.countP_le_length
theorem nl10 : (⟨#[10]⟩ : ByteArray) = nmB [10] := rfl
theorem ba_list (t : ByteArray) : t = nmB t.data.toList := by simp [nmB]
theorem app_line (a t : ByteArray) : a ++ t ++ ⟨#[10]⟩ = a ++ nmB (t.data.toList ++ [10]) := by
 rw [ByteArray.append_assoc, nl10, ← nmB_append, ← ba_list t]
theorem app_non (a : ByteArray) : a = a ++ nmB [] := by
 have : nmB [] = ByteArray.empty := rfl
 rw [this, ByteArray.append_empty]
theorem flat_snoc (f : Dl → List UInt8) (D : List Dl) (x : Dl) : (D ++ [x]).flatMap f = D.flatMap f ++ f x := by simp
theorem SlI.more {W : Whole} {nT : Nat} {D : List Dl} {a b c d a' b' c' d' : ByteArray} {n m i n' m' : Nat} (h : SlI W nT D a b c d n m i) (x : Dl) (hx : x.ok W) (hnl : ∀ y ∈ x.t.data.toList, y ≠ 10) (hts : x.t.size ≤ 9) (hlt : i < nT ∧ i < 9)
    (ha : a' = a ++ nmB x.line) (hb : b' = b ++ nmB x.yes) (hc : c' = c ++ nmB x.no) (hd : d' = d ++ nmB x.only) (hn : n' = n + if x.fs.isSome = true then 1 else 0) (hm : m' = m + if x.fs.isSome = true then 0 else 1) (hds : d'.size ≤ d.size + 100) : SlI W nT (D ++ [x]) a' b' c' d' n' m' (i + 1) := by
 have hall : ∀ (P : Dl → Prop), (∀ y ∈ D, P y) → P x → ∀ y ∈ D ++ [x], P y := fun P h1 h2 y hy => by
  rcases List.mem_append.1 hy with hy | hy
  ·exact h1 y hy
  ·rw [List.mem_singleton.1 hy]; exact h2
 refine ⟨?_, ?_, ?_, ?_, ?_, ?_, ?_, by omega, by omega, hall _ h.ok hx, hall _ h.nl hnl, hall _ h.ts hts, ?_⟩
 ·rw [ha, h.ins, flat_snoc, nmB_append]
 ·rw [hb, h.yes, flat_snoc, nmB_append]
 ·rw [hc, h.no, flat_snoc, nmB_append]
 ·rw [hd, h.only, flat_snoc, nmB_append]
 ·rw [hn, h.hn]
  unfold cntD
  rw [List.countP_append]
  cases hfs : x.fs <;> simp [List.countP_cons, hfs]
 ·rw [hm, h.hm]
  unfold cntD
  rw [List.countP_append]
  cases hfs : x.fs <;> simp [List.countP_cons, hfs]
 ·rw [List.length_append, h.len]; rfl
 ·have hln : (nmB x.line).size ≤ 10 := by
     rw [nmB_size]
     unfold Dl.line
     have e : x.t.data.toList.length = x.t.size := rfl
     rw [List.length_append, e]
     simp
     omega
  have hy : (nmB x.yes).size ≤ 10 := by
   unfold Dl.yes
   split
   ·exact hln
   ·rw [nmB_size]; simp
  have hno : (nmB x.no).size ≤ 10 := by
   unfold Dl.no
   split
   ·rw [nmB_size]; simp
   ·exact hln
  have hz := h.sz
  have e1 : a'.size = a.size + (nmB x.line).size := by rw [ha, ByteArray.size_append]
  have e2 : b'.size = b.size + (nmB x.yes).size := by rw [hb, ByteArray.size_append]
  have e3 : c'.size = c.size + (nmB x.no).size := by rw [hc, ByteArray.size_append]
  omega
structure InI (W : Whole) (t d d' : ByteArray) (fr : Nat) (an : Option (List Int)) (done : List (List Int)) : Prop where
 only : d' = d ++ nmB (onT t done)
 le : fr ≤ t.size + 1
 fnd : fr ≤ t.size → FindA t W fr an
 non : t.size < fr → an = none
 says : ∀ fs, SinA t W fr fs → SinA t W 0 (done ++ fs)
 sz : d'.size ≤ d.size + 10 * fr
theorem InI.fin {W : Whole} {t d d' : ByteArray} {fr : Nat} {done : List (List Int)} (h : InI W t d d' fr none done) : SinA t W 0 done := by
 have := h.says [] (by
   by_cases hf : fr < t.size
   · exact .none fr hf (h.fnd (by omega))
   · exact .fin fr (by omega))
 rw [List.append_nil] at this
 exact this
theorem SinA.end' {s : ByteArray} {W : Whole} {fr : Nat} {fs : List (List Int)} (h : SinA s W fr fs) (hf : s.size ≤ fr) : fs = [] := by
 cases h with
 | fin => rfl
 | none => rfl
 | hit _ _ _ _ _ h => omega
 | empty _ _ _ _ _ h => omega
theorem InI.hit {W : Whole} {t d d' d2 : ByteArray} {fr ix jx : Nat} {rr : List Int} {done : List (List Int)} {an : Option (List Int)} (h : InI W t d d' fr (some ((ix : Int) :: (jx : Int) :: rr)) done) (hle : fr ≤ ix ∧ ix ≤ jx ∧ jx ≤ t.size) (hij : ix < jx) (hf : FindA t W jx an) (hd : d2 = d' ++ (t.extract ix jx) ++ ⟨#[10]⟩) (ht9 : t.size ≤ 9) : InI W t d d2 jx an (done ++ [(ix : Int) :: (jx : Int) :: rr]) := by
 refine ⟨?_, by omega, fun _ => hf, fun h => by omega, fun fs hs => ?_, ?_⟩
 ·rw [hd, h.only, ba_list (t.extract ix jx), nl10, ByteArray.append_assoc, ByteArray.append_assoc, nmB_append, nmB_append]
  unfold onT
  rw [List.flatMap_append]
  simp [cutL]
 ·have := h.says _ (.hit fr ix jx rr fs (by omega) (h.fnd (by omega)) hij hs)
  rw [List.append_assoc]
  exact this
 ·have h1 := h.sz
  have e : d2.size = d'.size + (t.extract ix jx).size + 1 := by rw [hd, ByteArray.size_append, ByteArray.size_append]; rfl
  have e2 : (t.extract ix jx).size ≤ 9 := by rw [ByteArray.size_extract]; omega
  omega
theorem InI.empty {W : Whole} {t d d' : ByteArray} {fr ix jx : Nat} {rr : List Int} {done : List (List Int)} {an : Option (List Int)} (h : InI W t d d' fr (some ((ix : Int) :: (jx : Int) :: rr)) done) (hle : fr ≤ ix ∧ ix ≤ jx ∧ jx ≤ t.size) (hij : ix = jx) (hf : jx + 1 ≤ t.size → FindA t W (jx + 1) an) (hn : t.size < jx + 1 → an = none) : InI W t d d' (jx + 1) an done := by
 refine ⟨h.only, by omega, hf, hn, fun fs hs => ?_, by have := h.sz; omega⟩
 by_cases hfr : fr < t.size
 ·exact h.says _ (.empty fr ix jx rr fs hfr (h.fnd (by omega)) (by omega) hs)
 ·have := hs.end' (by omega)
  subst this
  exact h.says [] (.fin fr (by omega))
theorem args_one {X : World} {g : Nat} {l : List ByteArray} {n : Nat} (hn : l.length = n) (h : X.heap[g]? = some (.cells (l.map Value.string).toArray 9 (0, 0))) (hs : ∀ a ∈ l, a.size ≤ 9223372036854775807) (hl : n ≤ 9) : ArgIs X (.slice (some ⟨g, 0, none⟩) n n) l := by
 subst hn
 refine ⟨by omega, Or.inr ⟨g, 0, l.length, rfl, fun k a ha => ?_, Nat.le_refl _, by omega⟩, hs⟩
 rw [Lib.cell_of_heap h]
 simp [ha]
def stN (n : Nat) : Int := if n = 0 then 1 else 0
theorem runE_plain {k : Cmd} (hc : k.c = false) (o : List UInt8) (m : Nat) : RunE k o m = .returned (.tuple #[.string (nmB o), .int .i64 (stN m)]) := by
 unfold RunE stN
 rw [if_neg (by rw [hc]; decide), List.append_nil]
theorem runE_count {k : Cmd} (hc : k.c = true) (m : Nat) : RunE k [] m = .returned (.tuple #[.string (nmB (decT m ++ [10])), .int .i64 (stN m)]) := by
 unfold RunE stN
 rw [if_pos hc, List.nil_append]
theorem ext_call {p : ByteArray} {W : Whole} {D : List Dl} (h : SelI p W D) {l : List ByteArray} {k : Cmd} (ho : OptA l kI (some (k, p))) (hi : k.i = false) (hx : k.x = false) (v : Value) (X : World) (hgn : GN X) (hl : ArgIs X v l) :
    Calls Tryz.prog 13 #[v, .string (nmB (D.flatMap Dl.line))] X fun e w' => ExtA l (nmB (D.flatMap Dl.line)) e ∧ Keeps [] X w' := by
 refine yextract_any v l _ X hgn hl (fun k' p' h' => ?_) ?_
 ·cases ho.det h'
  exact ⟨hi, fun _ _ => hx⟩
 ·rw [lnF_in D h.nl, List.length_map]
  have := h.len
  omega
theorem sel_calls {P : ByteArray} {W : Whole} {nT : Nat} {D : List Dl} {a b c d : ByteArray} {n m i : Nat} (L : SlI W nT D a b c d n m i) (hW : (∃ j, PatR P (.ok W j)) ∧ P.size ≤ 60 ∧ ¬ isOpt P) :
    (∀ X v, GN X → ArgIs X v [P] → Calls Tryz.prog 13 #[v, .string a] X fun e w' => e = .returned (.tuple #[.string b, .int .i64 (stN n)]) ∧ Keeps [] X w') ∧
    (∀ X v, GN X → ArgIs X v [vS, P] → Calls Tryz.prog 13 #[v, .string a] X fun e w' => e = .returned (.tuple #[.string c, .int .i64 (stN m)]) ∧ Keeps [] X w') ∧
    (∀ X v, GN X → ArgIs X v [oS, ddS, P] → Calls Tryz.prog 13 #[v, .string a] X fun e w' => e = .returned (.tuple #[.string d, .int .i64 (stN n)]) ∧ Keeps [] X w') ∧
    (∀ X v, GN X → ArgIs X v [cS, P] → Calls Tryz.prog 13 #[v, .string a] X fun e w' => e = .returned (.tuple #[.string (nmB (decT n ++ [10])), .int .i64 (stN n)]) ∧ Keeps [] X w') ∧
    ∀ X v, GN X → ArgIs X v [cvS, P] → Calls Tryz.prog 13 #[v, .string a] X fun e w' => e = .returned (.tuple #[.string (nmB (decT m ++ [10])), .int .i64 (stN m)]) ∧ Keeps [] X w' := by
 have SI : SelI P W D := ⟨hW.1, hW.2.1, hW.2.2, L.ok, L.nl, L.ts, by have := L.len; have := L.l9; omega⟩
 rw [L.ins, L.yes, L.no, L.only, L.hn, L.hm]
 refine ⟨fun X v hg hl => ?_, fun X v hg hl => ?_, fun X v hg hl => ?_, fun X v hg hl => ?_, fun X v hg hl => ?_⟩
 ·exact (ext_call SI (opt_one P SI.no kI) rfl rfl v X hg hl).mono fun e w' ⟨h, k⟩ => ⟨(SI.plain h).trans (runE_plain rfl _ _), k⟩
 ·exact (ext_call SI (opt_v P SI.no) rfl rfl v X hg hl).mono fun e w' ⟨h, k⟩ => ⟨(SI.others h).trans (runE_plain rfl _ _), k⟩
 ·exact (ext_call SI (opt_o P) rfl rfl v X hg hl).mono fun e w' ⟨h, k⟩ => ⟨(SI.onl h).trans (runE_plain rfl _ _), k⟩
 ·exact (ext_call SI (opt_c P SI.no) rfl rfl v X hg hl).mono fun e w' ⟨h, k⟩ => ⟨(SI.count h).trans (runE_count rfl _), k⟩
 ·exact (ext_call SI (opt_cv P SI.no) rfl rfl v X hg hl).mono fun e w' ⟨h, k⟩ => ⟨(SI.countV h).trans (runE_count rfl _), k⟩
theorem stN_or (n : Nat) : (stN n = 0 ∧ decide ((0 : Int) < (n : Int)) = true ∧ (0 : Int) < (n : Int)) ∨ (stN n = 1 ∧ decide ((0 : Int) < (n : Int)) = false ∧ ¬ (0 : Int) < (n : Int)) := by
 unfold stN
 by_cases h : n = 0
 ·rw [if_pos h]; exact Or.inr ⟨rfl, by simp; omega, by omega⟩
 ·rw [if_neg h]; exact Or.inl ⟨rfl, by simp; omega, by omega⟩
theorem args_at (w : World) (l : List ByteArray) (n : Nat) (hn : l.length = n) (hs : ∀ a ∈ l, a.size ≤ 60) (hl : n ≤ 9) : ArgIs (w.alloc (.cells (l.map Value.string).toArray 9)) (.slice (some ⟨w.heap.size, 0, none⟩) n n) l :=
 args_one hn (heap_alloc_new w _) (fun a ha => Nat.le_trans (hs a ha) (by decide)) hl
end Go.Proofs.YtnfojonmohijpabGreatDoor
namespace Go.Proofs.YtnfojonmohijpabGreatDoor
open Go.RowKit
theorem made2_pat {p : List UInt8} (h : Made2 p) : ∃ W, PatR (bOf p) (.ok W p.length) := by
 obtain ⟨f, g, da, P, hg, hda⟩ := h
 exact ⟨_, P.one.ws.whole (by omega) (by omega) P.hd (bOf p) (by simp [bOf])⟩
theorem get_lt {T : List ByteArray} {i n : Nat} (hn : T.length = n) (h : i < n) : ∃ a, T[i]? = some a := ⟨_, List.getElem?_eq_getElem (by omega)⟩
set_option maxRecDepth 100000 in
set_option maxHeartbeats 40000000 in
theorem selected_any (v1 v2 : Value) (z1 : List Int) (T : List ByteArray) (w : World) (hr1 : RawIs w v1 z1) (hT : StrIs w v2 T) (hgn : GN w) :
    Calls Tryz.prog 4 #[v1, v2] w fun e w' => e = .returned (.bool true) ∧ Keeps [] w w' := by
 have q22 : ∀ (w : World) (a : Option Addr) (n c n' c' : Nat), (binOp .eql 22 (.slice a n c) (.slice none n' c')).run Tryz.prog w = .ok (.bool a.isNone) w := fun w a n c n' c' => Lib.run_eql_slice_nil w _ _ a n c n' c' Tryz.underlying22
 have q23 : ∀ (w : World) (a : Option Addr) (n c : Nat), (binOp .neq 22 (.slice a n c) (.slice none 0 0)).run Tryz.prog w = .ok (.bool (!a.isNone)) w := fun w a n c => run_neq_slice_nil (P := Tryz.prog) w _ _ a n c Tryz.underlying22
 have HA : Hid (∀ w, GN w → Calls Tryz.prog 6 #[] w fun e w' => e = .returned (.bool true) ∧ Keeps [] w w') := awake_any
 obtain ⟨va, vc, hv⟩ := hT.sl
 subst hv
 obtain ⟨nT, hnT⟩ : ∃ n, T.length = n := ⟨_, rfl⟩
 have HNT : Hid (T.length = nT) := hnT
 have hnb : (nT : Int) ≤ 9223372036854775807 := by have := hT.len; omega
 rw [hnT] at hT ⊢
 clear hnT
 go_enter Tryz.func4, Tryz.ntmps4
 go_wp2_with fail
 refine (HA.out w hgn).mono ?_
 rintro e w1 ⟨rfl, hk1⟩
 have hg1 := hgn.keep hk1 (by simp)
 have hr11 := hr1.keep hk1
 have hT1 := hT.keep hk1
 clear hr1 hgn HA hT
 go_wp2_with fail
 refine (made_any v1 z1 2 (by decide) 0 (by decide) w1 hr11).mono ?_
 rintro e w3 ⟨rfl, hk3⟩
 have hMp := made2_md (cv z1) 0
 have hLp := mdT_len (cv z1) 2 0
 have hHp := mdT_hd (cv z1) 2 0
 generalize mdT (cv z1) 2 0 = p at hMp hLp hHp ⊢
 obtain ⟨W, hW⟩ := made2_pat hMp
 have hzp : (bOf p).size ≤ 60 := by rw [bOf_size]; omega
 have hop := not_opt hHp
 have HG : Hid (∀ m, W.x.has m → 0 < m ∧ m ≤ W.g) := hW.nest.2
 have HW : Hid ((∃ j, PatR (bOf p) (.ok W j)) ∧ (bOf p).size ≤ 60 ∧ ¬ isOpt (bOf p)) := ⟨⟨_, hW⟩, hzp, hop⟩
 clear hMp hLp hHp hW hop
 generalize bOf p = P at HW hzp ⊢
 have hkA := hk1.trans hk3
 have hg3 := hg1.keep hk3 (by simp)
 have hT3 := hT1.keep hk3
 have hzp' : (P.size : Int) ≤ 60 := by omega
 have i5 : ¬ (60 : Int) < (P.size : Int) := by omega
 have i3 : decide ((60 : Int) < (P.size : Int)) = false := by simp; omega
 clear hk1 hk3 hg1 hr11 hT1 hzp
 go_wp2_with fail
 clear i5 i3
 go_loopw [7, 8, 9, 10, 11, 12, 13] (fun q7 q8 q9 q10 q11 q12 q13 wr => ∃ (D : List Dl) (a b c d : ByteArray) (n m i : Nat), q7 = .string a ∧ q8 = .string b ∧ q9 = .string c ∧ q10 = .string d ∧ q11 = .int .i64 n ∧ q12 = .int .i64 m ∧ q13 = .int .i64 i ∧ SlI W nT D a b c d n m i ∧ Keeps [] w3 wr) (fun _ _ _ _ _ _ q13 _ => 9 - (intOf q13).toNat)
 case atStart => exact ⟨[], _, _, _, _, 0, 0, 0, rfl, rfl, rfl, rfl, rfl, rfl, rfl, ⟨rfl, rfl, rfl, rfl, rfl, rfl, rfl, Nat.zero_le _, Nat.zero_le _, by simp, by simp, by simp, ⟨Nat.le_refl _, Nat.le_refl _, Nat.le_refl _, Nat.le_refl _⟩⟩, Keeps.refl _ _⟩
 case round =>
  obtain ⟨D, a, b, c, d, n, m, i, rfl, rfl, rfl, rfl, rfl, rfl, rfl, L, hK⟩ := hrel
  have HL : Hid (SlI W nT D a b c d n m i) := L
  have hn9 : n ≤ 9 := by have := cnt_le false D; have := L.hn; have := L.len; have := L.l9; omega
  have hm9 : m ≤ 9 := by have := cnt_le true D; have := L.hm; have := L.len; have := L.l9; omega
  have hn9' : (n : Int) ≤ 9 := by omega
  have hm9' : (m : Int) ≤ 9 := by omega
  have hi9 : (i : Int) ≤ 9 := by have := L.l9; omega
  have hi0 : (0 : Int) ≤ (i : Int) := by omega
  have HNM : Hid (n ≤ 9 ∧ m ≤ 9) := ⟨hn9, hm9⟩
  have hza : (a.size : Int) ≤ 900 := by have := L.sz; have := L.l9; omega
  have hzb : (b.size : Int) ≤ 900 := by have := L.sz; have := L.l9; omega
  have hzc : (c.size : Int) ≤ 900 := by have := L.sz; have := L.l9; omega
  have hzd : (d.size : Int) ≤ 900 := by have := L.sz; have := L.l9; omega
  have hgr := hg3.keep hK (by simp)
  by_cases hlt : i < nT ∧ i < 9
  ·obtain ⟨a0, ha0⟩ := get_lt HNT.out hlt.1
   obtain ⟨g, o, hva, hcell⟩ := (hT3.keep hK).at ha0
   subst hva
   have hl1 : (i : Int) < (nT : Int) := by omega
   have hl2 : (i : Int) < 9 := by omega
   have HLT : Hid (i < nT ∧ i < 9) := hlt
   clear L hn9 hm9 hlt ha0
   go_wp2_with fail
   refine (ktext_any a0 9 (by decide) wr).mono ?_
   rintro e w5 ⟨rfl, hk5⟩
   have hts := txT_size a0 9
   have hnl := no10_all (txD_no10 a0 9)
   generalize txT a0 9 = t at hts hnl ⊢
   have HT : Hid (t.size ≤ 9 ∧ ∀ y ∈ t.data.toList, y ≠ 10) := ⟨hts, hnl⟩
   have hts' : (t.size : Int) ≤ 9 := by omega
   have hg5 := hgr.keep hk5 (by simp)
   have hK5 := hK.trans hk5
   clear hk5 hgr hcell hts hnl hK
   go_wp2_with fail
   refine (ysearch_any P t 0 w5 hg5).mono ?_
   rintro e w6 ⟨r, ans, n6, rfl, hSA, hI, hk6⟩
   obtain ⟨jW, hPW⟩ := HW.out.1
   obtain ⟨hF, rfl⟩ := SearchA.find (fr := 0) hSA HW.out.2.1 (by have := HT.out.1; omega) (Nat.zero_le _) hPW
   have hg6 := hg5.keep hk6 (by simp)
   have hK6 := hK5.trans hk6
   have hI6 := hI.low (Nat.zero_le _)
   clear hk6 hSA hPW hg5 hK5 hI
   cases ans with
   | none =>
    have hr : r = .slice none 0 0 := hI6
    subst hr
    have HS : Hid (SlI W nT (D ++ [⟨t, none⟩]) (a ++ t ++ ⟨#[10]⟩) b (c ++ t ++ ⟨#[10]⟩) d n (m + 1) (i + 1)) := by
     refine HL.out.more ⟨t, none⟩ hF HT.out.2 HT.out.1 HLT.out (app_line a t) (app_non b) (app_line c t) (app_non d) rfl rfl (Nat.le_add_right _ _)
    clear hF hI6 q23
    go_wp2_with fail
    go_roundw
    case rel => exact ⟨_, _, _, _, _, n, m + 1, i + 1, rfl, rfl, rfl, rfl, rfl, by go_num, by go_num, HS.out, hK6⟩
    case measure => have := HLT.out; simp [intOf]; omega
   | some l =>
    obtain ⟨_, ix, jx, rr, hl, hf1, hf2, hf3⟩ := hF.sp HG.out
    obtain ⟨hfn, g1, cg, rfl, _⟩ := hI6.fnd (by rw [hl]; simp)
    have HSP : Hid (∃ sp, FindA t W 0 (some sp)) := ⟨_, hF⟩
    have HIN : Hid (InI W t d d 0 (some l) []) := ⟨app_non d, by omega, fun _ => hF, fun h => by omega, fun fs h => h, Nat.le_refl _⟩
    obtain ⟨ln, hln⟩ : ∃ ln, l.length = ln := ⟨_, rfl⟩
    rw [hln] at hI6 ⊢
    clear hF hl hf1 hf2 hf3 hfn hln
    go_wp2_with fail
    go_loopw [10, 15, 16, 17] (fun q10 q15 q16 q17 wr => ∃ (d' : ByteArray) (fr : Nat) (an : Option (List Int)) (done : List (List Int)) (r : Value), q10 = .string d' ∧ q15 = .int .i64 fr ∧ q16 = r ∧ q17 = .int .i64 0 ∧ InI W t d d' fr an done ∧ IW wr 0 r an ∧ Keeps [] w3 wr) (fun _ q15 _ _ _ => t.size + 1 - (intOf q15).toNat)
    case atStart => exact ⟨d, 0, some l, [], _, rfl, rfl, rfl, rfl, HIN.out, hI6, hK6⟩
    case round =>
     clear hI6 HIN
     obtain ⟨d', fr, an, done, r, rfl, rfl, rfl, rfl, IN, hIr, hKr⟩ := hrel
     cases an with
     | none =>
      have hr := (show _ = Value.slice none 0 0 from hIr)
      subst hr
      have HS : Hid (SlI W nT (D ++ [⟨t, some done⟩]) (a ++ t ++ ⟨#[10]⟩) (b ++ t ++ ⟨#[10]⟩) c d' (n + 1) m (i + 1)) := HL.out.more ⟨t, some done⟩ ⟨HSP.out, IN.fin⟩ HT.out.2 HT.out.1 HLT.out (app_line a t) (app_line b t) (app_non c) IN.only rfl rfl (by have := IN.sz; have := IN.le; have := HT.out.1; omega)
      clear IN hIr q22 hK6
      go_wp2_with fail
      first
       | exact ⟨⟨_, _, _, _, _, n + 1, m, i + 1, rfl, rfl, rfl, rfl, by go_num, rfl, by go_num, HS.out, hKr⟩, by have := HLT.out; simp [intOf]; omega⟩
       | (go_roundw
          case rel => exact ⟨_, _, _, _, _, n + 1, m, i + 1, rfl, rfl, rfl, rfl, by go_num, rfl, by go_num, HS.out, hKr⟩
          case measure => have := HLT.out; simp [intOf]; omega)
     | some l' =>
      have hle : fr ≤ t.size := by
       by_cases h : fr ≤ t.size
       ·exact h
       ·have := IN.non (by omega); cases this
      obtain ⟨_, ix, jx, rr, hl, hf1, hf2, hf3⟩ := (IN.fnd hle).sp HG.out
      obtain ⟨hfn, g1, cg, rfl, _⟩ := hIr.fnd (by rw [hl]; simp)
      obtain ⟨_, _, he, hglt, hcel⟩ := hfn.sl
      cases he
      have cc0 := hcel 0 ix (by rw [hl]; rfl)
      have cc1 := hcel 1 jx (by rw [hl]; rfl)
      have HIN : Hid (InI W t d d' fr (some ((ix : Int) :: (jx : Int) :: rr)) done) := by rw [← hl]; exact IN
      have HXY : Hid (fr ≤ ix ∧ ix ≤ jx ∧ jx ≤ t.size) := ⟨hf1, hf2, hf3⟩
      obtain ⟨ln, hln⟩ : ∃ ln, l'.length = ln := ⟨_, rfl⟩
      have hl2 : (2 : Int) ≤ (ln : Int) := by rw [← hln, hl]; simp; omega
      have hl3 : (1 : Int) < (ln : Int) := by omega
      have hl4 : (0 : Int) < (ln : Int) := by omega
      have hl5 : decide ((ln : Int) < 2) = false := by simp; omega
      have hl6 : ¬ (ln : Int) < 2 := by omega
      have k1 : decide ((ix : Int) < (fr : Int)) = false := by simp; omega
      have k2 : ¬ (ix : Int) < (fr : Int) := by omega
      have k3 : decide ((jx : Int) < (ix : Int)) = false := by simp; omega
      have k4 : ¬ (jx : Int) < (ix : Int) := by omega
      have k5 : decide ((t.size : Int) < (jx : Int)) = false := by simp; omega
      have k6 : ¬ (t.size : Int) < (jx : Int) := by omega
      rw [hln]
      have hgr2 := hg3.keep hKr (by simp)
      clear IN hIr hfn hcel hl hf1 hf2 hf3 hle hln hK6 hg6 hglt
      go_upto_region 28 with (fail)
      go_quiet (fail)
      have hkD : Keeps [] wr (wr.drewN nq) := (Keeps.refl [] wr).drewN nq
      have cd0 := keep_cell hkD cc0
      have cd1 := keep_cell hkD cc1
      have hKd := hKr.trans hkD
      have hgd := hgr2.keep hkD (by simp)
      generalize wr.drewN nq = Y at *
      clear hkD cc0 cc1 hKr hgr2 hl5 hl6 k1 k2 k3 k4 k5 k6 hl2
      have hj0 : (0 : Int) ≤ (jx : Int) := by omega
      have hx0 : (0 : Int) ≤ (ix : Int) := by omega
      have hj9 : (jx : Int) ≤ 9 := by have := HXY.out; have := HT.out.1; omega
      by_cases hij : ix = jx
      ·have he1 : ((ix : Int) == (jx : Int)) = true := by simp; omega
       have HIJ : Hid (ix = jx) := hij
       clear hij
       go_upto_region 31 with (fail)
       go_quiet (fail)
       have hkE : Keeps [] Y (Y.drewN nq) := (Keeps.refl [] Y).drewN nq
       have hKe := hKd.trans hkE
       have hge := hgd.keep hkE (by simp)
       generalize Y.drewN nq = Z at *
       clear hkE cd0 cd1 hKd hgd he1 hl3 hl4
       by_cases hle2 : jx + 1 ≤ t.size
       ·have hl7 : (jx : Int) + 1 ≤ (t.size : Int) := by omega
        have HLE : Hid (jx + 1 ≤ t.size) := hle2
        clear hle2
        go_wp2_with fail
        refine (ysearch_any P t ((jx : Int) + 1) Z hge).mono ?_
        rintro e w8 ⟨r8, an8, n8, rfl, hSA, hI8, hk8⟩
        have hcast : (jx : Int) + 1 = ((jx + 1 : Nat) : Int) := by omega
        rw [hcast] at hSA
        obtain ⟨jW, hPW⟩ := HW.out.1
        obtain ⟨hF8, rfl⟩ := SearchA.find hSA HW.out.2.1 (by have := HT.out.1; omega) HLE.out hPW
        have HN : Hid (InI W t d d' (jx + 1) an8 done) := HIN.out.empty HXY.out HIJ.out (fun _ => hF8) (fun h => by have := HLE.out; omega)
        have hI8' := hI8.low (Nat.zero_le _)
        have hK8 := hKe.trans hk8
        clear hSA hF8 hI8 hk8 hcast hPW hge hKe
        go_wp2_with fail
        first
         | exact ⟨⟨d', jx + 1, an8, done, r8, rfl, by go_num, rfl, rfl, HN.out, hI8', hK8⟩, by have := HXY.out; have := HIJ.out; have := HLE.out; simp [intOf]; omega⟩
         | (go_roundw
            case rel => exact ⟨d', jx + 1, an8, done, r8, rfl, by go_num, rfl, rfl, HN.out, hI8', hK8⟩
            case measure => have := HXY.out; have := HIJ.out; have := HLE.out; simp [intOf]; omega)
       ·have hl7 : ¬ (jx : Int) + 1 ≤ (t.size : Int) := by omega
        have HN : Hid (InI W t d d' (jx + 1) none done) := HIN.out.empty HXY.out HIJ.out (fun h => by omega) (fun _ => rfl)
        clear hle2
        go_wp2_with fail
        first
         | exact ⟨⟨d', jx + 1, none, done, _, rfl, by go_num, rfl, rfl, HN.out, rfl, hKe⟩, by have := HXY.out; have := HIJ.out; simp [intOf]; omega⟩
         | (go_roundw
            case rel => exact ⟨d', jx + 1, none, done, _, rfl, by go_num, rfl, rfl, HN.out, rfl, hKe⟩
            case measure => have := HXY.out; have := HIJ.out; simp [intOf]; omega)
      ·have he1 : ((ix : Int) == (jx : Int)) = false := by simp; omega
       have HIJ : Hid (ix < jx) := by show ix < jx; have := HXY.out; omega
       have hxj : (ix : Int) ≤ (jx : Int) := by have := HXY.out; omega
       have hjt : (jx : Int) ≤ (t.size : Int) := by have := HXY.out; omega
       have hzd' : (d'.size : Int) ≤ 1000 := by have := HIN.out.sz; have := HIN.out.le; have := HT.out.1; omega
       clear hij
       go_upto_region 31 with (fail)
       go_quiet (fail)
       have hkE : Keeps [] Y (Y.drewN nq) := (Keeps.refl [] Y).drewN nq
       have cf0 := keep_cell hkE cd0
       have cf1 := keep_cell hkE cd1
       have hKe := hKd.trans hkE
       have hge := hgd.keep hkE (by simp)
       generalize Y.drewN nq = Z at *
       clear hkE cd0 cd1 hKd hgd he1
       go_upto_region 33 with (fail)
       go_quiet (fail)
       have hkF : Keeps [] Z (Z.drewN nq) := (Keeps.refl [] Z).drewN nq
       have hKf := hKe.trans hkF
       have hgf := hge.keep hkF (by simp)
       generalize Z.drewN nq = V at *
       clear hkF cf0 cf1 hKe hge hl3 hl4
       go_wp2_with fail
       refine (ysearch_any P t (jx : Int) V hgf).mono ?_
       rintro e w8 ⟨r8, an8, n8, rfl, hSA, hI8, hk8⟩
       obtain ⟨jW, hPW⟩ := HW.out.1
       obtain ⟨hF8, rfl⟩ := SearchA.find hSA HW.out.2.1 (by have := HT.out.1; omega) HXY.out.2.2 hPW
       have HN : Hid (InI W t d (d' ++ (t.extract ix jx) ++ ⟨#[10]⟩) jx an8 (done ++ [(ix : Int) :: (jx : Int) :: rr])) := HIN.out.hit HXY.out HIJ.out hF8 rfl HT.out.1
       have hI8' := hI8.low (Nat.zero_le _)
       have hK8 := hKf.trans hk8
       clear hSA hF8 hI8 hk8 hPW hgf hKf
       go_wp2_with fail
       first
        | exact ⟨⟨_, jx, an8, _, r8, rfl, rfl, rfl, rfl, HN.out, hI8', hK8⟩, by have := HXY.out; have := HIJ.out; simp [intOf]; omega⟩
        | (go_roundw
           case rel => exact ⟨_, jx, an8, _, r8, rfl, rfl, rfl, rfl, HN.out, hI8', hK8⟩
           case measure => have := HXY.out; have := HIJ.out; simp [intOf]; omega)
  ·have HC : Hid (_ ∧ _ ∧ _ ∧ _ ∧ _) := sel_calls L HW.out
   have hs1 : P.size ≤ 60 := HW.out.2.1
   have h1s : ∀ x ∈ [P], x.size ≤ 60 := fun x hx => by rw [List.mem_singleton.1 hx]; exact hs1
   have h2s : ∀ y, y.size ≤ 60 → ∀ x ∈ [y, P], x.size ≤ 60 := fun y hy x hx => by
    rcases List.mem_cons.1 hx with rfl | hx
    ·exact hy
    ·exact h1s x hx
   have h3s : ∀ x ∈ [oS, ddS, P], x.size ≤ 60 := fun x hx => by
    rcases List.mem_cons.1 hx with rfl | hx
    ·decide
    ·exact h2s ddS (by decide) x hx
   have HSZ : Hid ((∀ x ∈ [P], x.size ≤ 60) ∧ (∀ y, y.size ≤ 60 → ∀ x ∈ [y, P], x.size ≤ 60) ∧ ∀ x ∈ [oS, ddS, P], x.size ≤ 60) := ⟨h1s, h2s, h3s⟩
   have hcs : ¬ (i : Int) < (nT : Int) ∨ ((i : Int) < (nT : Int) ∧ ¬ (i : Int) < 9) := by omega
   have hkw := hkA.trans hK
   clear L hlt hn9 hm9 hs1 h1s h2s h3s hK hg3 hT3 hkA HL
   rcases hcs with hcs | ⟨hcs, hcs9⟩
   all_goals
    have hA1 := args_at wr [P] 1 rfl HSZ.out.1 (by decide)
    have hkB : Keeps [] wr (wr.alloc (.cells ([P].map Value.string).toArray 9)) := (Keeps.refl [] wr).alloc _
    have hC1 := HC.out.1 _ _ (hgr.keep hkB (by simp)) hA1
    have hkw1 := hkw.trans hkB
    have hg1 := hgr.keep hkB (by simp)
    clear hA1 hkB hgr hkw
    go_wp2_with fail
    refine hC1.mono ?_
    rintro e y1 ⟨rfl, hk1⟩
    have hgn1 := hg1.keep hk1 (by simp)
    have hkw2 := hkw1.trans hk1
    clear hC1 hk1 hg1 hkw1
    have hA2 := args_at y1 [vS, P] 2 rfl (HSZ.out.2.1 vS (by decide)) (by decide)
    have hkB2 : Keeps [] y1 (y1.alloc (.cells ([vS, P].map Value.string).toArray 9)) := (Keeps.refl [] y1).alloc _
    have hC2 := HC.out.2.1 _ _ (hgn1.keep hkB2 (by simp)) hA2
    have hg2 := hgn1.keep hkB2 (by simp)
    have hkx2 := hkw2.trans hkB2
    clear hA2 hkB2 hgn1 hkw2
    go_wp2_with fail
    refine hC2.mono ?_
    rintro e y2 ⟨rfl, hk2⟩
    have hgn2 := hg2.keep hk2 (by simp)
    have hkw3 := hkx2.trans hk2
    clear hC2 hk2 hg2 hkx2
    have hA3 := args_at y2 [oS, ddS, P] 3 rfl HSZ.out.2.2 (by decide)
    have hkB3 : Keeps [] y2 (y2.alloc (.cells ([oS, ddS, P].map Value.string).toArray 9)) := (Keeps.refl [] y2).alloc _
    have hC3 := HC.out.2.2.1 _ _ (hgn2.keep hkB3 (by simp)) hA3
    have hg3 := hgn2.keep hkB3 (by simp)
    have hkx3 := hkw3.trans hkB3
    clear hA3 hkB3 hgn2 hkw3
    go_wp2_with fail
    refine hC3.mono ?_
    rintro e y3 ⟨rfl, hk3⟩
    have hgn3 := hg3.keep hk3 (by simp)
    have hkw4 := hkx3.trans hk3
    clear hC3 hk3 hg3 hkx3
    have hA4 := args_at y3 [cS, P] 2 rfl (HSZ.out.2.1 cS (by decide)) (by decide)
    have hkB4 : Keeps [] y3 (y3.alloc (.cells ([cS, P].map Value.string).toArray 9)) := (Keeps.refl [] y3).alloc _
    have hC4 := HC.out.2.2.2.1 _ _ (hgn3.keep hkB4 (by simp)) hA4
    have hg4 := hgn3.keep hkB4 (by simp)
    have hkx4 := hkw4.trans hkB4
    clear hA4 hkB4 hgn3 hkw4
    go_wp2_with fail
    refine hC4.mono ?_
    rintro e y4 ⟨rfl, hk4⟩
    have hgn4 := hg4.keep hk4 (by simp)
    have hkw5 := hkx4.trans hk4
    clear hC4 hk4 hg4 hkx4
    have hA5 := args_at y4 [cvS, P] 2 rfl (HSZ.out.2.1 cvS (by decide)) (by decide)
    have hkB5 : Keeps [] y4 (y4.alloc (.cells ([cvS, P].map Value.string).toArray 9)) := (Keeps.refl [] y4).alloc _
    have hC5 := HC.out.2.2.2.2 _ _ (hgn4.keep hkB5 (by simp)) hA5
    have hg5 := hgn4.keep hkB5 (by simp)
    have hkx5 := hkw5.trans hkB5
    clear hA5 hkB5 hgn4 hkw5
    go_wp2_with fail
    refine hC5.mono ?_
    rintro e y5 ⟨rfl, hk5⟩
    have hgn5 := hg5.keep hk5 (by simp)
    have hkw6 := hkx5.trans hk5
    clear hC5 hk5 hg5 hkx5
    have hd1 := dec9 n HNM.out.1
    have hd2 := dec9 m HNM.out.2
    generalize nmB (decT n ++ [10]) = s1 at hd1 ⊢
    generalize nmB (decT m ++ [10]) = s2 at hd2 ⊢
    have hcv1 : ∀ w : World, (convert 44 9 (.slice (some ⟨w.heap.size, 0, none⟩) 2 2)).run Tryz.prog (w.alloc (.cells #[.int .u8 (48 + (n : Int)), .int .u8 10] 5)) = .ok (.string s1) (w.alloc (.cells #[.int .u8 (48 + (n : Int)), .int .u8 10] 5)) := fun w => by rw [← hd1]; exact conv2 w _
    have hcv2 : ∀ w : World, (convert 44 9 (.slice (some ⟨w.heap.size, 0, none⟩) 2 2)).run Tryz.prog (w.alloc (.cells #[.int .u8 (48 + (m : Int)), .int .u8 10] 5)) = .ok (.string s2) (w.alloc (.cells #[.int .u8 (48 + (m : Int)), .int .u8 10] 5)) := fun w => by rw [← hd2]; exact conv2 w _
    have hcv3 := hcv2 (y5.alloc (.cells #[.int .u8 (48 + (n : Int)), .int .u8 10] 5))
    rw [show (y5.alloc (.cells #[.int .u8 (48 + (n : Int)), .int .u8 10] 5)).heap.size = y5.heap.size + 1 by simp] at hcv3
    have h1n := stN_or n
    have h1m := stN_or m
    generalize stN n = z1 at h1n ⊢
    generalize stN m = z2 at h1m ⊢
    have hn0 : (0 : Int) ≤ (n : Int) := by omega
    have hm0 : (0 : Int) ≤ (m : Int) := by omega
    have HK6 : Hid (Keeps [] w y5) := hkw6
    clear hd1 hd2 hgn5 hkw6 HC HSZ q22 q23
    rcases h1n with ⟨rfl, u1, u2⟩ | ⟨rfl, u1, u2⟩ <;> rcases h1m with ⟨rfl, u3, u4⟩ | ⟨rfl, u3, u4⟩
    all_goals
     go_wp2_with fail
     go_ret
     exact ⟨rfl, (HK6.out.alloc _).alloc _⟩
end Go.Proofs.YtnfojonmohijpabGreatDoor
namespace Go.Proofs.YtnfojonmohijpabGreatDoor
open Go.RowKit
def GP (w : World) : Prop := w.cell? ⟨1, 0, none⟩ = some (.int .u64 1)
end Go.Proofs.YtnfojonmohijpabGreatDoor
namespace Go.Proofs.YtnfojonmohijpabGreatDoor
open Go.ChangeShapes Go.WideShapes Go.ChangeAt Go.WideMaps Go.WideElems Go.RowKit
theorem ownK : ownKnob Tryz.prog.godebug = none := by kernel_rfl
theorem gCls : Tryz.prog.globalNamed "yarrow/byteset.classNames" = some 6 := by kernel_rfl
theorem tCls : (Tryz.prog.globals[6]?).map (·.type) = some 267 := by kernel_rfl
theorem cStr : Tryz.prog.cellsOf 9 = 1 := by kernel_rfl
theorem cCls : Tryz.prog.cellsOf 267 = 7 := by kernel_rfl
theorem str_cell {H : Type} {enc : TypeId × Value → H} {W : World} {base fuel : Nat} {sp : Nat → Bool} {held : Bool} {c : Value} {x : DataW H × List MemPlace} {l : List UInt8}
    (h : DataW.trod enc Tryz.prog W base sp held fuel 9 [c] = some x) (hx : DataW.lit (.string l) = x.1) : c = .string (nmB l) := by
 obtain ⟨s, hc, rfl, _⟩ := DataW.trod_string Tryz.underlying9 h
 simp only [List.cons.injEq, and_true] at hc
 simp only [DataW.lit.injEq, Lit.string.injEq] at hx
 subst hc
 rw [hx]
 congr 1
theorem seven {α : Type} (l : List α) (h : l.length = 7) : ∃ a b c d e f g, l = [a, b, c, d, e, f, g] := by
 match l, h with
 | [a, b, c, d, e, f, g], _ => exact ⟨a, b, c, d, e, f, g, rfl⟩
set_option maxRecDepth 100000 in
theorem of_laidN {W : World} (h : laidMetH Tryz.prog Rows.selectedRow.laid W) : GN W := by
 rw [MakeChecks.laidMetH_plain _ _ _ (by kernel_rfl)] at h
 obtain ⟨ps, ⟨g0, t0, cs0, f0, p0, q0, hg0, ht0, hv0, hd0, ⟨g1, t1, cs1, f1, p1, q1, hg1, ht1, hv1, hd1, ⟨g2, t2, cs2, f2, p2, q2, hg2, ht2, hv2, hd2, ⟨gA, tA, csA, fA, pA, qA, hgA, htA, hvA, hdA, ⟨g3, t3, cs3, f3, p3, q3, hg3, ht3, hv3, hd3, _, _⟩, _⟩, _⟩, _⟩, _⟩, _, _⟩ := h
 obtain rfl := Option.some.inj (gCls.symm.trans hg3)
 obtain rfl := Option.some.inj (tCls.symm.trans ht3)
 clear hd0 hd1 hd2 hv0 hv1 hv2 hg0 hg1 hg2 ht0 ht1 ht2 hdA hvA hgA htA
 obtain ⟨xs, m, rfl, hx, hlen, hn, hel⟩ := DataW.trod_array Tryz.underlying267 hd3
 rw [cCls] at hlen
 rw [cStr] at hel
 have hl : ∃ t fr, W.heap[6]? = some (.cells cs3 t fr) := by
  simp only [World.var?, gCls, Option.bind_some] at hv3
  split at hv3
  ·rename_i c t fr he
   cases hv3
   exact ⟨t, fr, he⟩
  ·cases hv3
 obtain ⟨t, fr, hl⟩ := hl
 refine ⟨t, fr, hl.trans ?_⟩
 obtain ⟨l3⟩ := cs3
 unfold Rows.laid_yarrow_byteset_classNames at hx
 simp only [Prod.mk.injEq, DataW.agg.injEq] at hx
 obtain ⟨hx, _⟩ := hx
 obtain ⟨c0, c1, c2, c3, c4, c5, c6, rfl⟩ := seven l3 hlen
 obtain ⟨x0, x1, x2, x3, x4, x5, x6, rfl⟩ := seven xs hn
 ·simp only [List.map_cons, List.map_nil, List.cons.injEq, and_true] at hx
  obtain ⟨e0, e1, e2, e3, e4, e5, e6⟩ := hx
  have h0 := str_cell (hel 0 (by decide)) e0
  have h1 := str_cell (hel 1 (by decide)) e1
  have h2 := str_cell (hel 2 (by decide)) e2
  have h3 := str_cell (hel 3 (by decide)) e3
  have h4 := str_cell (hel 4 (by decide)) e4
  have h5 := str_cell (hel 5 (by decide)) e5
  have h6 := str_cell (hel 6 (by decide)) e6
  subst h0 h1 h2 h3 h4 h5 h6
  rfl
theorem gPow : Tryz.prog.globalNamed "internal/strconv.uint64pow10" = some 1 := by kernel_rfl
theorem tPow : (Tryz.prog.globals[1]?).map (·.type) = some 252 := by kernel_rfl
theorem cU64 : Tryz.prog.cellsOf 100 = 1 := by kernel_rfl
set_option maxRecDepth 100000 in
theorem of_laid6 {W : World} (h : laidMetH Tryz.prog Rows.selectedRow.laid W) : GN W ∧ GP W := by
 have h0 := h
 rw [MakeChecks.laidMetH_plain _ _ _ (by kernel_rfl)] at h
 obtain ⟨ps, ⟨g0, t0, cs0, f0, p0, q0, hg0, ht0, hv0, hd0, ⟨g1, t1, cs1, f1, p1, q1, hg1, ht1, hv1, hd1, ⟨g2, t2, cs2, f2, p2, q2, hg2, ht2, hv2, hd2, ⟨gA, tA, csA, fA, pA, qA, hgA, htA, hvA, hdA, ⟨g3, t3, cs3, f3, p3, q3, hg3, ht3, hv3, hd3, _, _⟩, _⟩, _⟩, _⟩, _⟩, _, _⟩ := h
 obtain rfl := Option.some.inj (gPow.symm.trans hg2)
 obtain rfl := Option.some.inj (gCls.symm.trans hg3)
 obtain rfl := Option.some.inj (tPow.symm.trans ht2)
 obtain rfl := Option.some.inj (tCls.symm.trans ht3)
 clear hd0 hd1 hv0 hv1 hg0 hg1 ht0 ht1 hdA hvA hgA htA
 refine ⟨of_laidN h0, ?_⟩
 obtain ⟨xs, m, rfl, hx, hlen, hn, hel⟩ := DataW.trod_array Tryz.underlying252 hd2
 rw [cU64] at hel
 have h0 := hel 0 (by decide)
 unfold Rows.laid_internal_strconv_uint64pow10 at hx
 simp only [Prod.mk.injEq, DataW.agg.injEq] at hx
 obtain ⟨hx, _⟩ := hx
 match xs, hn, hx, h0 with
 | x0 :: r, _, hx, h0 =>
  simp only [List.map_cons, List.cons.injEq] at hx
  obtain ⟨e0, _⟩ := hx
  obtain ⟨k, e1, e2, _⟩ := DataW.trod_int Tryz.underlying100 (show DataW.trod _ Tryz.prog W 0 _ false m 100 _ = some x0 from h0)
  have hk : k = 1 := by rw [e2] at e0; simpa using e0.symm
  subst hk
  have := World.var?_cell hg2 hv2 0
  obtain ⟨l1⟩ := cs2
  match l1, e1 with
  | c :: _, e1 =>
   simp at e1
   subst e1
   unfold GP
   simpa using this
end Go.Proofs.YtnfojonmohijpabGreatDoor
