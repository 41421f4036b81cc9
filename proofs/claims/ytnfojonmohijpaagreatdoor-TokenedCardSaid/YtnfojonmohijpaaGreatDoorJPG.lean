/-
  DERIVED. The contract of className. Conditions: the text is at most 60 bytes long, the place is within it, the variable classNames holds the seven names.
-/
import Derived.Test.YtnfojonmohijpaaGreatDoorJNH
import Derived.Laws.Tables
import Derived.Great.BuildSlice
set_option linter.unusedSimpArgs false
set_option linter.unusedVariables false
namespace Go.Proofs.YtnfojonmohijpaaGreatDoor
open Go.RowKit
def lenV : Value → Nat
 | .slice _ n _ => n
 | _ => 0
def muN (w : World) (nb : Nat) : Nat := 6 - (match w.cell? ⟨nb, 0, none⟩ with | some v => lenV v | none => 0)
theorem BY.len {w : World} {base : Nat} {v : Value} {word : List UInt8} (h : BY w base v word) : lenV v = word.length := by
 rcases h.2 with ⟨rfl, hn⟩ | ⟨g, cap, cur, rfl, _⟩
 ·exact hn.symm
 ·rfl
theorem muN_eq {w : World} {nb base : Nat} {v : Value} {word : List UInt8} (hc : w.cell? ⟨nb, 0, none⟩ = some v) (h : BY w base v word) : muN w nb = 6 - word.length := by
 unfold muN; rw [hc]; simp only [h.len]
structure CN (p : QS) (b nb : Nat) (w wr : World) (v : Value) (word : List UInt8) (i : Nat) : Prop where
 qb : QB wr b { p with ix := i }
 cell : wr.cell? ⟨nb, 0, none⟩ = some v
 fro : wr.frozen? ⟨nb, 0, none⟩ = false
 bytes : BY wr (nb + 1) v word
 gn : GN wr
 keep : Keeps [b] w wr
 ile : i ≤ p.s.size
 wl : word.length ≤ 5
 w5 : word.length = 5 → word ∈ names
 spec : clsS p.s 6 [] p.ix = clsS p.s (6 - word.length) word i
def NPost (b : Nat) (p : QS) (w : World) (r : R Nat) (e : Ending) (w' : World) : Prop :=
 Keeps [b] w w' ∧ match r with
  | .ok k j => e = .returned (.string (nmB (nm k))) ∧ QB w' b { p with ix := j }
  | .bad j => e = fault j
theorem Keeps.fresh {S S' : List Nat} {a w w' : World} (h : Keeps S a w) (k : Keeps S' w w') (hs : ∀ x, x ∈ S' → x ∈ S ∨ a.heap.size ≤ x) : Keeps S a w' :=
 ⟨k.os.trans h.os, k.tape.trans h.tape, k.output.trans h.output, Nat.le_trans h.size k.size, fun j hj hn => (k.block j (Nat.lt_of_lt_of_le hj h.size) (fun hm => (hs j hm).elim hn (fun hh => Nat.lt_irrefl _ (Nat.lt_of_lt_of_le hj hh)))).trans (h.block j hj hn)⟩
theorem Keeps.ofGrown {w w' : World} {v : Value} (h : w.grownBy w' v.ownBlock) : Keeps v.ownBlock.toList w w' :=
 ⟨h.os, h.tape, h.output, h.size, fun j hj hnj => h.block j hj (by intro e; apply hnj; rw [← e]; simp)⟩
theorem CN.next {p : QS} {b nb : Nat} {w w3 w4 : World} {v : Value} {word : List UInt8} {i g cap : Nat} {u : UInt8} (hk : Keeps [b] w w3) (hq : QB w3 b { p with ix := i + 1 }) (hg3 : GN w3) (hb3 : BY w3 (nb + 1) v word)
    (hc3 : w3.cell? ⟨nb, 0, none⟩ = some v) (hnb : b < nb) (hgl : 6 < nb) (hw : w.heap.size = nb)
    (hown : w4.ownsRow (nb + 1) 5 1 (.slice (some ⟨g, 0, none⟩) (word.length + 1) cap) (word.length + 1) (word.map byteV ++ [byteV u])) (hgrow : (w3.alloc (.cells #[byteV u] 5)).grownBy w4 v.ownBlock)
    (hf4 : w4.frozen? ⟨nb, 0, none⟩ = false) (hilt : i < p.s.size) (hwl : word.length ≤ 4) (h5 : (word ++ [u]).length = 5 → word ++ [u] ∈ names) (hsp : clsS p.s 6 [] p.ix = clsS p.s (5 - word.length) (word ++ [u]) (i + 1)) :
    CN p b nb w (w4.setCell ⟨nb, 0, none⟩ (.slice (some ⟨g, 0, none⟩) (word.length + 1) cap)) (.slice (some ⟨g, 0, none⟩) (word.length + 1) cap) (word ++ [u]) (i + 1) := by
 have hvlt := World.ownsRow.lt hb3
 have hnb3 := World.block_lt_of_cell? w3 _ hc3
 have hg4 := (World.ownsRow.lt hown g rfl)
 have hkA : Keeps v.ownBlock.toList w3 w4 := ((Keeps.refl _ w3).alloc (.cells #[byteV u] 5)).trans (Keeps.ofGrown hgrow)
 have hkB : Keeps (nb :: v.ownBlock.toList) w3 (w4.setCell ⟨nb, 0, none⟩ (.slice (some ⟨g, 0, none⟩) (word.length + 1) cap)) := (hkA.mono (by intro x hx; exact List.mem_cons_of_mem _ hx)).setCell (by simp) _
 have hfar : ∀ x, x ≤ nb → x ∉ v.ownBlock.toList := by
  intro x hx hm
  rw [Option.mem_toList] at hm
  have := (hvlt x hm).1
  omega
 have hnbk : w4.cell? ⟨nb, 0, none⟩ = some v := (World.cell?_of_block (hkA.block nb hnb3 (hfar nb (Nat.le_refl _)))).trans hc3
 refine ⟨hq.keep hkB ?_, ?_, ?_, ?_, hg3.keep hkB ?_, hk.fresh hkB ?_, hilt, by simp; omega, h5, ?_⟩
 ·simp only [List.mem_cons, not_or]; exact ⟨by omega, hfar b (by omega)⟩
 ·exact World.cell?_setCell_same _ _ _ hnbk
 ·rw [World.frozen?_setCell]; exact hf4
 ·have := World.ownsRow.setOther hown (a := ⟨nb, 0, none⟩) (by simp [Value.ownBlock]; omega) (.slice (some ⟨g, 0, none⟩) (word.length + 1) cap)
  unfold BY
  rw [List.length_append, List.map_append]
  exact this
 ·simp only [List.mem_cons, not_or]; exact ⟨by omega, hfar _ (by omega)⟩
 ·intro x hx
  right
  rcases List.mem_cons.1 hx with rfl | hx
  ·omega
  ·rw [Option.mem_toList] at hx
   have := (hvlt x hx).1
   omega
 ·rw [hsp, List.length_append, List.length_singleton]; congr 1; omega
theorem first_name {word : List UInt8} (h : word ∈ names) : ∃ k, k < 7 ∧ nm k = word ∧ ∀ j, j < k → nm j ≠ word := by
 have key : ∀ k j : Fin 7, nm k = nm j → k = j := by decide
 obtain ⟨k, hk, rfl⟩ := List.mem_iff_getElem.1 h
 have hk7 : k < 7 := by rw [names_count] at hk; exact hk
 refine ⟨k, hk7, nm_get hk7, fun j hj e => ?_⟩
 have := key ⟨k, hk7⟩ ⟨j, by omega⟩ ((nm_get hk7).trans e.symm)
 have := congrArg Fin.val this
 simp at this
 omega
theorem Tryz.infoByte : (Tryz.prog.info? 5).map (fun i => (i.zero, i.size, i.bytes)) = some (some (.int .u8 0), 1, 1) := by kernel_rfl
theorem frozen_keep_b {w w' : World} {b : Nat} (h : Keeps [b] w w') {a : Addr} {v : Value} (hb : a.block ≠ b) (hc : w.cell? a = some v) (hf : w.frozen? a = false) : w'.frozen? a = false :=
 (World.frozen?_of_block (h.block a.block (World.block_lt_of_cell? w a hc) (by simpa using hb))).trans hf
set_option maxRecDepth 100000 in
set_option maxHeartbeats 2000000 in
theorem className_prog (b : Nat) (p : QS) (w : World) (hp : QB w b p) (hs : p.s.size ≤ 60) (hle : p.ix ≤ p.s.size) (hg : GN w) (hbg : b ≠ 6) :
    Calls Tryz.prog 289 #[.pointer (some ⟨b, 0, none⟩)] w (NPost b p w (clsS p.s 6 [] p.ix)) := by
 obtain ⟨i0, hi0, hz0, hz1, hz2⟩ := info_parts Tryz.infoByte
 have hmf : ∀ (fn : Fn) (first cap : Array Value) (w : World), (Instr.makeFunc fn first cap).run Tryz.prog w = .ok (.func fn first cap) w := fun _ _ _ _ => rfl
 have hbl := hp.lt
 have hgl := hg.lt
 go_enter Tryz.func289, Tryz.ntmps289
 go_wp2_with fail
 have C0 : CN p b w.heap.size w (w.alloc (.cells #[.slice none 0 0] 64)) (.slice none 0 0) [] p.ix :=
  ⟨hp.keep ((Keeps.refl [] w).alloc _) (by simp), by simp, by simp, World.ownsRow_nil _ _ _ _, hg.keep ((Keeps.refl [] w).alloc _) (by simp), (Keeps.refl [b] w).alloc _, hle, by simp, by simp, rfl⟩
 have hnb : w.heap.size ≠ b := by omega
 have hnb0 : w.heap.size < (w.alloc (.cells #[.slice none 0 0] 64)).heap.size := by simp
 generalize hnbq : w.heap.size = nb at *
 generalize (w.alloc (.cells #[.slice none 0 0] 64)) = W at *
 go_loopw [4] (fun _ wr => ∃ v word i, CN p b nb w wr v word i) (fun _ wr => muN wr nb)
 case atStart => exact ⟨_, _, _, C0⟩
 case round =>
  clear C0
  obtain ⟨v, word, i, C⟩ := hrel
  have hcv := conv_name _ _ _ _ C.bytes
  have hc := C.cell
  have hf := C.fro
  by_cases hm : word ∈ names
  ·have IC := isClass_any word _ C.gn
   rw [decide_eq_true hm] at IC
   go_wp2_with (go_at_call 297; refine IC.mono ?_; rintro e w' ⟨rfl, rfl⟩)
   go_ret
   obtain ⟨k, hk7, hkw⟩ : ∃ k, k < 7 ∧ nm k = word ∧ ∀ j, j < k → nm j ≠ word := first_name hm
   have hr : clsS p.s 6 [] p.ix = .ok k i := by
    rw [C.spec, show 6 - word.length = 1 from by rw [← hkw.1, nm_len hk7], clsS, find_some hk7 hkw.2 hkw.1]
   refine ⟨C.keep, ?_⟩
   rw [hr]
   exact ⟨by rw [hkw.1]; rfl, C.qb⟩
  ·have IC := isClass_any word _ C.gn
   rw [decide_eq_false hm] at IC
   have hw4 : word.length ≤ 4 := by
    have := C.wl
    have h5 := C.w5
    by_cases h : word.length = 5
    ·exact absurd (h5 h) hm
    ·omega
   have HS : Hid (clsS p.s 6 [] p.ix = if goesOn word (at' p.s i) then clsS p.s (5 - word.length) (word ++ [p.s.get! i]) (i + 1) else .bad i) := by
    show clsS p.s 6 [] p.ix = _
    rw [C.spec, show 6 - word.length = (5 - word.length) + 1 from by omega, clsS, find_none (by intro j hj h; exact hm (by rw [← h]; exact nm_mem hj))]
   clear hm
   go_wp2_with (go_at_call 297; refine IC.mono ?_; rintro e w' ⟨rfl, rfl⟩)
   have hmay : 0 ≤ at' p.s i → May 298 #[.pointer (some ⟨nb, 0, none⟩)] (at' p.s i) (goesOn word (at' p.s i)) w' := by
    intro h0
    have hlt : i < p.s.size := at'_nn h0
    rw [at'_lt hlt]
    exact may_cls1 _ nb (nb + 1) v word (by omega) _ C.cell C.bytes C.gn
   refine (take_may b { p with ix := i } 298 _ (goesOn word (at' p.s i)) _ C.qb hs C.ile hmay (if 0 ≤ at' p.s i ∧ goesOn word (at' p.s i) = true then .ok (at' p.s i) (i + 1) else .bad i) rfl).mono ?_
   rintro e w3 ⟨hk3, hc3⟩
   by_cases h2 : 0 ≤ at' p.s i ∧ goesOn word (at' p.s i) = true
   ·rw [if_pos h2] at hc3
    obtain ⟨rfl, hq3⟩ := hc3
    have hlt : i < p.s.size := at'_nn h2.1
    have hgo := h2.2
    have HS2 : Hid (clsS p.s 6 [] p.ix = clsS p.s (5 - word.length) (word ++ [p.s.get! i]) (i + 1)) := by show clsS p.s 6 [] p.ix = _; rw [HS.out, if_pos hgo]
    have HW5 : Hid ((word ++ [p.s.get! i]).length = 5 → word ++ [p.s.get! i] ∈ names) := goesOn_mem hgo hw4 hlt
    have hbyte : at' p.s i = ((p.s.get! i).toNat : Int) := by rw [at'_lt hlt, get!_eq hlt]
    have hc4 := keep_cell_b hk3 hnb C.cell
    have hf4 := frozen_keep_b hk3 hnb C.cell C.fro
    have hvlt := World.ownsRow.lt C.bytes
    have hb4 : BY w3 (nb + 1) v word := C.bytes.keep hk3 (by intro g e; have := (hvlt g e).1; simp; omega)
    have hvlt3 := World.ownsRow.lt hb4
    have hg4 := C.gn.keep hk3 (by simp; omega)
    have hlm : word.length + 1 ≤ maxLen := by unfold maxLen; omega
    have hun := Tryz.underlying64
    have hnb3 := World.block_lt_of_cell? w3 _ hc4
    have hnb3' : nb < w3.heap.size := hnb3
    have hvne : v.ownBlock ≠ some nb := by intro e; have := (hvlt nb e).1; omega
    have hk4 := C.keep.trans hk3
    have hmu := muN_eq C.cell C.bytes
    clear h2 hgo HS hcv hc hf hmay C IC
    rw [hbyte]
    generalize p.s.get! i = u at *
    go_wp2_with (first | (at_builtin; refine wpList_append_lies _ rfl _ _ _ rfl (nb + 1) 5 i0 (.int .u8 0) 1 1 hun hi0 hz0 hz1 hz2 rfl (by decide) v word.length _ rfl (World.ownsRow.alloc hb4 _) ⟨w3.heap.size, 0, none⟩ 1 1 [.int .u8 (u.toNat : Int)] rfl rfl (cell_one_new _ _ _) (by simp [Value.oneCell']) (by omega) hlm (by omega) (by simp; omega) (w3.heap.size + 1) (by simp) ?_; intro g cap w4 hown hgrow hat hlt4; have hfz : w4.frozen? ⟨nb, 0, none⟩ = false := (hgrow.frozen_far ⟨nb, 0, none⟩ (by simp; omega) (Ne.symm hvne)).trans ((World.frozen?_alloc_old w3 _ ⟨nb, 0, none⟩ (by simp; omega)).trans hf4); have hcz : w4.cell? ⟨nb, 0, none⟩ = some v := (hgrow.cell_far ⟨nb, 0, none⟩ (by simp; omega) (Ne.symm hvne)).trans ((World.cell?_alloc_old w3 _ ⟨nb, 0, none⟩ (by simp; omega)).trans hc4)))
    have C5 := CN.next hk4 hq3 hg4 hb4 hc4 hbl hgl hnbq hown hgrow hfz hlt hw4 HW5.out HS2.out
    go_roundw
    case rel => exact ⟨_, _, _, C5⟩
    case measure => rw [hmu, muN_eq C5.cell C5.bytes, List.length_append]; simp; omega
   ·rw [if_neg h2] at hc3
    subst hc3
    have hr : clsS p.s 6 [] p.ix = .bad i := by
     rw [HS.out, if_neg]
     intro hgo
     apply h2
     refine ⟨?_, hgo⟩
     by_cases h0 : i < p.s.size
     ·rw [at'_lt h0]; omega
     ·rw [at'_ge (by omega), goesOn_none] at hgo; cases hgo
    simp only [fault]
    exact ⟨rfl, C.keep.trans hk3, by rw [hr]; rfl⟩
end Go.Proofs.YtnfojonmohijpaaGreatDoor
namespace Go.Proofs.YtnfojonmohijpaaGreatDoor
open Go.RowKit
def HQ (w : World) (h : Nat) (f : Nat → Bool) : Prop := w.heap[h]? = some (.cells (hcells f) 206 (0, 0))
theorem HQ.lt {w : World} {h : Nat} {f : Nat → Bool} (H : HQ w h f) : h < w.heap.size := (Array.getElem?_eq_some_iff.1 H).1
theorem HQ.keep {w w' : World} {h : Nat} {f : Nat → Bool} {S : List Nat} (H : HQ w h f) (hk : Keeps S w w') (hb : h ∉ S) : HQ w' h f := (hk.block h H.lt hb).trans H
theorem HQ.cell {w : World} {h : Nat} {f : Nat → Bool} (H : HQ w h f) {k : Nat} (hk : k < 256) : w.cell? ⟨h, k, none⟩ = some (.bool (f k)) := by
 unfold HQ at H
 simp [World.cell?, H, hcells_get f hk]
theorem HQ.frozen {w : World} {h : Nat} {f : Nat → Bool} (H : HQ w h f) (k : Nat) : w.frozen? ⟨h, k, none⟩ = false := by
 unfold HQ at H
 simp [World.frozen?, H]
theorem HQ.set {w : World} {h : Nat} {f : Nat → Bool} (H : HQ w h f) (k : Nat) (v : Bool) : HQ (w.setCell ⟨h, k, none⟩ (.bool v)) h (fun n => if n = k then v else f n) := by
 unfold HQ at *
 simp [World.setCell, Array.getElem?_modify, H, hcells_set]
theorem hcells_congr {f g : Nat → Bool} (e : ∀ n, n < 256 → f n = g n) : hcells f = hcells g := by
 apply Array.ext_getElem?
 intro i
 by_cases hi : i < 256
 ·rw [hcells_get _ hi, hcells_get _ hi, e i hi]
 ·rw [Array.getElem?_eq_none (by rw [hcells_size]; omega), Array.getElem?_eq_none (by rw [hcells_size]; omega)]
theorem HQ.congr {w : World} {h : Nat} {f g : Nat → Bool} (H : HQ w h f) (e : ∀ n, n < 256 → f n = g n) : HQ w h g := by
 unfold HQ at *
 rw [H, hcells_congr e]
def ranB (a l : Int) (n : Nat) : Bool := decide (a ≤ n) && decide ((n : Int) ≤ l)
set_option maxRecDepth 100000 in
set_option maxHeartbeats 1000000 in
theorem addRange_any (h : Nat) (f : Nat → Bool) (a l : Int) (w : World) (hh : HQ w h f) (ha0 : 0 ≤ a) (ha1 : a ≤ 255) (hl0 : 0 ≤ l) (hl1 : l ≤ 255) :
    Calls Tryz.prog 291 #[.pointer (some ⟨h, 0, none⟩), .int .u8 a, .int .u8 l] w fun e w' => e = .returned (.tuple #[]) ∧ HQ w' h (fun n => f n || ranB a l n) ∧ Keeps [h] w w' := by
 obtain ⟨A, rfl⟩ : ∃ A : Nat, a = A := ⟨a.toNat, by omega⟩
 go_enter Tryz.func291, Tryz.ntmps291
 go_wp2
 go_loopw [6] (fun q wr => ∃ m : Nat, A ≤ m ∧ m ≤ 256 ∧ ((m : Int) ≤ l + 1 ∨ m = A) ∧ q = .int .i64 m ∧ HQ wr h (fun n => f n || ranB A ((m : Int) - 1) n) ∧ Keeps [h] w wr) (fun q _ => 256 - (intOf q).toNat)
 case atStart => exact ⟨A, Nat.le_refl _, by omega, Or.inr rfl, rfl, hh.congr (fun n hn => by have : ranB A ((A : Int) - 1) n = false := by { unfold ranB; by_cases h1 : (A : Int) ≤ n; { rw [decide_eq_false (show ¬ (n : Int) ≤ (A : Int) - 1 by omega), Bool.and_false] }; { rw [decide_eq_false h1, Bool.false_and] } }; rw [this, Bool.or_false]), Keeps.refl _ _⟩
 case round =>
  obtain ⟨m, hAm, hm, hml, rfl, hq, hk⟩ := hrel
  by_cases hlt : (m : Int) ≤ l
  ·have hm255 : m < 256 := by omega
   have hcm := hq.cell hm255
   have hfm := hq.frozen m
   have hm0 : (0 : Int) ≤ (m : Int) := by omega
   have hm1 : (m : Int) ≤ 255 := by omega
   have HN : HQ (wr.setCell ⟨h, m, none⟩ (.bool true)) h (fun n => f n || ranB A (((m + 1 : Nat) : Int) - 1) n) := (hq.set m true).congr fun n hn => by
    unfold ranB
    by_cases e : n = m
    ·subst e
     rw [if_pos rfl, decide_eq_true (show (A : Int) ≤ n by omega), decide_eq_true (show (n : Int) ≤ ((n + 1 : Nat) : Int) - 1 by omega)]; simp
    ·rw [if_neg e]
     congr 2
     rw [decide_eq_decide]; omega
   go_wp2
   go_roundw
   case rel => exact ⟨m + 1, by omega, by omega, Or.inl (by omega), by go_num, HN, hk.setCell (by simp) _⟩
   case measure => simp [intOf]; omega
  ·go_wp2
   go_end0
   refine ⟨rfl, hq.congr fun n hn => ?_, hk⟩
   unfold ranB
   congr 1
   by_cases h1 : (A : Int) ≤ n
   ·rw [decide_eq_true h1]
    congr 1
    rw [decide_eq_decide]; omega
   ·rw [decide_eq_false h1, Bool.false_and, Bool.false_and]
end Go.Proofs.YtnfojonmohijpaaGreatDoor
namespace Go.Proofs.YtnfojonmohijpaaGreatDoor
open Go.RowKit
theorem eqLit (a b : List UInt8) : ((nmB a).toList == b) = decide (a = b) := by
 have := eqL a b
 rwa [ByteArray.toList_eq (nmB b), nmB_toList] at this
set_option maxRecDepth 100000 in
set_option maxHeartbeats 1000000 in
theorem addClass_0 (h : Nat) (f : Nat → Bool) (w : World) (hh : HQ w h f) :
    Calls Tryz.prog 288 #[.pointer (some ⟨h, 0, none⟩), .string (nmB (nm 0))] w fun e w' => e = .returned (.tuple #[]) ∧ HQ w' h (fun n => f n || clsB 0 n) ∧ Keeps [h] w w' := by
 have e4 : ((nmB (nm 0)).toList == [97, 108, 110, 117, 109]) = false := (eqLit _ _).trans (by decide)
 have e3 : ((nmB (nm 0)).toList == [97, 108, 112, 104, 97]) = false := (eqLit _ _).trans (by decide)
 have e1 : ((nmB (nm 0)).toList == [108, 111, 119, 101, 114]) = false := (eqLit _ _).trans (by decide)
 have e2 : ((nmB (nm 0)).toList == [117, 112, 112, 101, 114]) = false := (eqLit _ _).trans (by decide)
 have e0 : ((nmB (nm 0)).toList == [100, 105, 103, 105, 116]) = true := (eqLit _ _).trans (by decide)
 have e5 : ((nmB (nm 0)).toList == [115, 112, 97, 99, 101]) = false := (eqLit _ _).trans (by decide)
 have e6 : ((nmB (nm 0)).toList == [112, 117, 110, 99, 116]) = false := (eqLit _ _).trans (by decide)
 generalize nmB (nm 0) = S at *
 go_enter Tryz.func288, Tryz.ntmps288
 go_wp2_with (first | (go_at_call 291; refine (addRange_any h _ 48 57 _ hh (by omega) (by omega) (by omega) (by omega)).mono ?_; rintro e w1 ⟨rfl, hq1, hk1⟩))
 go_end0
 refine ⟨rfl, hq1.congr fun n hn => ?_, hk1⟩
 have key : ∀ m : Fin 256, (ranB 48 57 m.val) = clsB 0 (m.val : Int) := by decide
 have := key ⟨n, hn⟩
 simp only [Bool.or_assoc] at this ⊢
 rw [this]
set_option maxRecDepth 100000 in
set_option maxHeartbeats 1000000 in
theorem addClass_1 (h : Nat) (f : Nat → Bool) (w : World) (hh : HQ w h f) :
    Calls Tryz.prog 288 #[.pointer (some ⟨h, 0, none⟩), .string (nmB (nm 1))] w fun e w' => e = .returned (.tuple #[]) ∧ HQ w' h (fun n => f n || clsB 1 n) ∧ Keeps [h] w w' := by
 have e4 : ((nmB (nm 1)).toList == [97, 108, 110, 117, 109]) = false := (eqLit _ _).trans (by decide)
 have e3 : ((nmB (nm 1)).toList == [97, 108, 112, 104, 97]) = false := (eqLit _ _).trans (by decide)
 have e1 : ((nmB (nm 1)).toList == [108, 111, 119, 101, 114]) = true := (eqLit _ _).trans (by decide)
 have e2 : ((nmB (nm 1)).toList == [117, 112, 112, 101, 114]) = false := (eqLit _ _).trans (by decide)
 have e0 : ((nmB (nm 1)).toList == [100, 105, 103, 105, 116]) = false := (eqLit _ _).trans (by decide)
 have e5 : ((nmB (nm 1)).toList == [115, 112, 97, 99, 101]) = false := (eqLit _ _).trans (by decide)
 have e6 : ((nmB (nm 1)).toList == [112, 117, 110, 99, 116]) = false := (eqLit _ _).trans (by decide)
 generalize nmB (nm 1) = S at *
 go_enter Tryz.func288, Tryz.ntmps288
 go_wp2_with (first | (go_at_call 291; refine (addRange_any h _ 97 122 _ hh (by omega) (by omega) (by omega) (by omega)).mono ?_; rintro e w1 ⟨rfl, hq1, hk1⟩))
 go_end0
 refine ⟨rfl, hq1.congr fun n hn => ?_, hk1⟩
 have key : ∀ m : Fin 256, (ranB 97 122 m.val) = clsB 1 (m.val : Int) := by decide
 have := key ⟨n, hn⟩
 simp only [Bool.or_assoc] at this ⊢
 rw [this]
set_option maxRecDepth 100000 in
set_option maxHeartbeats 1000000 in
theorem addClass_2 (h : Nat) (f : Nat → Bool) (w : World) (hh : HQ w h f) :
    Calls Tryz.prog 288 #[.pointer (some ⟨h, 0, none⟩), .string (nmB (nm 2))] w fun e w' => e = .returned (.tuple #[]) ∧ HQ w' h (fun n => f n || clsB 2 n) ∧ Keeps [h] w w' := by
 have e4 : ((nmB (nm 2)).toList == [97, 108, 110, 117, 109]) = false := (eqLit _ _).trans (by decide)
 have e3 : ((nmB (nm 2)).toList == [97, 108, 112, 104, 97]) = false := (eqLit _ _).trans (by decide)
 have e1 : ((nmB (nm 2)).toList == [108, 111, 119, 101, 114]) = false := (eqLit _ _).trans (by decide)
 have e2 : ((nmB (nm 2)).toList == [117, 112, 112, 101, 114]) = true := (eqLit _ _).trans (by decide)
 have e0 : ((nmB (nm 2)).toList == [100, 105, 103, 105, 116]) = false := (eqLit _ _).trans (by decide)
 have e5 : ((nmB (nm 2)).toList == [115, 112, 97, 99, 101]) = false := (eqLit _ _).trans (by decide)
 have e6 : ((nmB (nm 2)).toList == [112, 117, 110, 99, 116]) = false := (eqLit _ _).trans (by decide)
 generalize nmB (nm 2) = S at *
 go_enter Tryz.func288, Tryz.ntmps288
 go_wp2_with (first | (go_at_call 291; refine (addRange_any h _ 65 90 _ hh (by omega) (by omega) (by omega) (by omega)).mono ?_; rintro e w1 ⟨rfl, hq1, hk1⟩))
 go_end0
 refine ⟨rfl, hq1.congr fun n hn => ?_, hk1⟩
 have key : ∀ m : Fin 256, (ranB 65 90 m.val) = clsB 2 (m.val : Int) := by decide
 have := key ⟨n, hn⟩
 simp only [Bool.or_assoc] at this ⊢
 rw [this]
set_option maxRecDepth 100000 in
set_option maxHeartbeats 1000000 in
theorem addClass_3 (h : Nat) (f : Nat → Bool) (w : World) (hh : HQ w h f) :
    Calls Tryz.prog 288 #[.pointer (some ⟨h, 0, none⟩), .string (nmB (nm 3))] w fun e w' => e = .returned (.tuple #[]) ∧ HQ w' h (fun n => f n || clsB 3 n) ∧ Keeps [h] w w' := by
 have e4 : ((nmB (nm 3)).toList == [97, 108, 110, 117, 109]) = false := (eqLit _ _).trans (by decide)
 have e3 : ((nmB (nm 3)).toList == [97, 108, 112, 104, 97]) = true := (eqLit _ _).trans (by decide)
 have e1 : ((nmB (nm 3)).toList == [108, 111, 119, 101, 114]) = false := (eqLit _ _).trans (by decide)
 have e2 : ((nmB (nm 3)).toList == [117, 112, 112, 101, 114]) = false := (eqLit _ _).trans (by decide)
 have e0 : ((nmB (nm 3)).toList == [100, 105, 103, 105, 116]) = false := (eqLit _ _).trans (by decide)
 have e5 : ((nmB (nm 3)).toList == [115, 112, 97, 99, 101]) = false := (eqLit _ _).trans (by decide)
 have e6 : ((nmB (nm 3)).toList == [112, 117, 110, 99, 116]) = false := (eqLit _ _).trans (by decide)
 generalize nmB (nm 3) = S at *
 go_enter Tryz.func288, Tryz.ntmps288
 go_wp2_with (first | (go_at_call 291; refine (addRange_any h _ 97 122 _ hq1 (by omega) (by omega) (by omega) (by omega)).mono ?_; rintro e w2 ⟨rfl, hq2, hk2⟩) | (go_at_call 291; refine (addRange_any h _ 65 90 _ hh (by omega) (by omega) (by omega) (by omega)).mono ?_; rintro e w1 ⟨rfl, hq1, hk1⟩))
 go_end0
 refine ⟨rfl, hq2.congr fun n hn => ?_, (hk1.trans hk2)⟩
 have key : ∀ m : Fin 256, (ranB 65 90 m.val || ranB 97 122 m.val) = clsB 3 (m.val : Int) := by decide
 have := key ⟨n, hn⟩
 simp only [Bool.or_assoc] at this ⊢
 rw [this]
set_option maxRecDepth 100000 in
set_option maxHeartbeats 1000000 in
theorem addClass_4 (h : Nat) (f : Nat → Bool) (w : World) (hh : HQ w h f) :
    Calls Tryz.prog 288 #[.pointer (some ⟨h, 0, none⟩), .string (nmB (nm 4))] w fun e w' => e = .returned (.tuple #[]) ∧ HQ w' h (fun n => f n || clsB 4 n) ∧ Keeps [h] w w' := by
 have e4 : ((nmB (nm 4)).toList == [97, 108, 110, 117, 109]) = true := (eqLit _ _).trans (by decide)
 have e3 : ((nmB (nm 4)).toList == [97, 108, 112, 104, 97]) = false := (eqLit _ _).trans (by decide)
 have e1 : ((nmB (nm 4)).toList == [108, 111, 119, 101, 114]) = false := (eqLit _ _).trans (by decide)
 have e2 : ((nmB (nm 4)).toList == [117, 112, 112, 101, 114]) = false := (eqLit _ _).trans (by decide)
 have e0 : ((nmB (nm 4)).toList == [100, 105, 103, 105, 116]) = false := (eqLit _ _).trans (by decide)
 have e5 : ((nmB (nm 4)).toList == [115, 112, 97, 99, 101]) = false := (eqLit _ _).trans (by decide)
 have e6 : ((nmB (nm 4)).toList == [112, 117, 110, 99, 116]) = false := (eqLit _ _).trans (by decide)
 generalize nmB (nm 4) = S at *
 go_enter Tryz.func288, Tryz.ntmps288
 go_wp2_with (first | (go_at_call 291; refine (addRange_any h _ 97 122 _ hq2 (by omega) (by omega) (by omega) (by omega)).mono ?_; rintro e w3 ⟨rfl, hq3, hk3⟩) | (go_at_call 291; refine (addRange_any h _ 65 90 _ hq1 (by omega) (by omega) (by omega) (by omega)).mono ?_; rintro e w2 ⟨rfl, hq2, hk2⟩) | (go_at_call 291; refine (addRange_any h _ 48 57 _ hh (by omega) (by omega) (by omega) (by omega)).mono ?_; rintro e w1 ⟨rfl, hq1, hk1⟩))
 go_end0
 refine ⟨rfl, hq3.congr fun n hn => ?_, ((hk1.trans hk2).trans hk3)⟩
 have key : ∀ m : Fin 256, (ranB 48 57 m.val || ranB 65 90 m.val || ranB 97 122 m.val) = clsB 4 (m.val : Int) := by decide
 have := key ⟨n, hn⟩
 simp only [Bool.or_assoc] at this ⊢
 rw [this]
set_option maxRecDepth 100000 in
set_option maxHeartbeats 1000000 in
theorem addClass_5 (h : Nat) (f : Nat → Bool) (w : World) (hh : HQ w h f) :
    Calls Tryz.prog 288 #[.pointer (some ⟨h, 0, none⟩), .string (nmB (nm 5))] w fun e w' => e = .returned (.tuple #[]) ∧ HQ w' h (fun n => f n || clsB 5 n) ∧ Keeps [h] w w' := by
 have e4 : ((nmB (nm 5)).toList == [97, 108, 110, 117, 109]) = false := (eqLit _ _).trans (by decide)
 have e3 : ((nmB (nm 5)).toList == [97, 108, 112, 104, 97]) = false := (eqLit _ _).trans (by decide)
 have e1 : ((nmB (nm 5)).toList == [108, 111, 119, 101, 114]) = false := (eqLit _ _).trans (by decide)
 have e2 : ((nmB (nm 5)).toList == [117, 112, 112, 101, 114]) = false := (eqLit _ _).trans (by decide)
 have e0 : ((nmB (nm 5)).toList == [100, 105, 103, 105, 116]) = false := (eqLit _ _).trans (by decide)
 have e5 : ((nmB (nm 5)).toList == [115, 112, 97, 99, 101]) = true := (eqLit _ _).trans (by decide)
 have e6 : ((nmB (nm 5)).toList == [112, 117, 110, 99, 116]) = false := (eqLit _ _).trans (by decide)
 generalize nmB (nm 5) = S at *
 go_enter Tryz.func288, Tryz.ntmps288
 go_wp2_with (first | (go_at_call 291; refine (addRange_any h _ 32 32 _ hq1 (by omega) (by omega) (by omega) (by omega)).mono ?_; rintro e w2 ⟨rfl, hq2, hk2⟩) | (go_at_call 291; refine (addRange_any h _ 9 13 _ hh (by omega) (by omega) (by omega) (by omega)).mono ?_; rintro e w1 ⟨rfl, hq1, hk1⟩))
 go_end0
 refine ⟨rfl, hq2.congr fun n hn => ?_, (hk1.trans hk2)⟩
 have key : ∀ m : Fin 256, (ranB 9 13 m.val || ranB 32 32 m.val) = clsB 5 (m.val : Int) := by decide
 have := key ⟨n, hn⟩
 simp only [Bool.or_assoc] at this ⊢
 rw [this]
set_option maxRecDepth 100000 in
set_option maxHeartbeats 1000000 in
theorem addClass_6 (h : Nat) (f : Nat → Bool) (w : World) (hh : HQ w h f) :
    Calls Tryz.prog 288 #[.pointer (some ⟨h, 0, none⟩), .string (nmB (nm 6))] w fun e w' => e = .returned (.tuple #[]) ∧ HQ w' h (fun n => f n || clsB 6 n) ∧ Keeps [h] w w' := by
 have e4 : ((nmB (nm 6)).toList == [97, 108, 110, 117, 109]) = false := (eqLit _ _).trans (by decide)
 have e3 : ((nmB (nm 6)).toList == [97, 108, 112, 104, 97]) = false := (eqLit _ _).trans (by decide)
 have e1 : ((nmB (nm 6)).toList == [108, 111, 119, 101, 114]) = false := (eqLit _ _).trans (by decide)
 have e2 : ((nmB (nm 6)).toList == [117, 112, 112, 101, 114]) = false := (eqLit _ _).trans (by decide)
 have e0 : ((nmB (nm 6)).toList == [100, 105, 103, 105, 116]) = false := (eqLit _ _).trans (by decide)
 have e5 : ((nmB (nm 6)).toList == [115, 112, 97, 99, 101]) = false := (eqLit _ _).trans (by decide)
 have e6 : ((nmB (nm 6)).toList == [112, 117, 110, 99, 116]) = true := (eqLit _ _).trans (by decide)
 generalize nmB (nm 6) = S at *
 go_enter Tryz.func288, Tryz.ntmps288
 go_wp2_with (first | (go_at_call 291; refine (addRange_any h _ 123 126 _ hq3 (by omega) (by omega) (by omega) (by omega)).mono ?_; rintro e w4 ⟨rfl, hq4, hk4⟩) | (go_at_call 291; refine (addRange_any h _ 91 96 _ hq2 (by omega) (by omega) (by omega) (by omega)).mono ?_; rintro e w3 ⟨rfl, hq3, hk3⟩) | (go_at_call 291; refine (addRange_any h _ 58 64 _ hq1 (by omega) (by omega) (by omega) (by omega)).mono ?_; rintro e w2 ⟨rfl, hq2, hk2⟩) | (go_at_call 291; refine (addRange_any h _ 33 47 _ hh (by omega) (by omega) (by omega) (by omega)).mono ?_; rintro e w1 ⟨rfl, hq1, hk1⟩))
 go_end0
 refine ⟨rfl, hq4.congr fun n hn => ?_, (((hk1.trans hk2).trans hk3).trans hk4)⟩
 have key : ∀ m : Fin 256, (ranB 33 47 m.val || ranB 58 64 m.val || ranB 91 96 m.val || ranB 123 126 m.val) = clsB 6 (m.val : Int) := by decide
 have := key ⟨n, hn⟩
 simp only [Bool.or_assoc] at this ⊢
 rw [this]
theorem addClass_any (h k : Nat) (hk : k < 7) (f : Nat → Bool) (w : World) (hh : HQ w h f) :
    Calls Tryz.prog 288 #[.pointer (some ⟨h, 0, none⟩), .string (nmB (nm k))] w fun e w' => e = .returned (.tuple #[]) ∧ HQ w' h (fun n => f n || clsB k n) ∧ Keeps [h] w w' :=
 match k, hk with
 | 0, _ => addClass_0 h f w hh
 | 1, _ => addClass_1 h f w hh
 | 2, _ => addClass_2 h f w hh
 | 3, _ => addClass_3 h f w hh
 | 4, _ => addClass_4 h f w hh
 | 5, _ => addClass_5 h f w hh
 | 6, _ => addClass_6 h f w hh
end Go.Proofs.YtnfojonmohijpaaGreatDoor
namespace Go.Proofs.YtnfojonmohijpaaGreatDoor
open Go.RowKit
def EPost (b : Nat) (p : QS) (w : World) (r : R Unit) (e : Ending) (w' : World) : Prop :=
 Keeps [b] w w' ∧ match r with
  | .ok _ j => e = .returned (.tuple #[]) ∧ QB w' b { p with ix := j }
  | .bad j => e = fault j
theorem expect_any (b : Nat) (p : QS) (c : Int) (hc : 0 ≤ c) (w : World) (hp : QB w b p) (hle : p.ix ≤ p.s.size) (hs : p.s.size ≤ 60) :
    Calls Tryz.prog 221 #[.pointer (some ⟨b, 0, none⟩), .int .u8 c] w (EPost b p w (needS p.s c p.ix)) := by
 by_cases h : p.cur = c
 ·refine (expect_ok b p c hc w hp hs h).mono ?_
  rintro e w' ⟨rfl, hq, hk⟩
  refine ⟨hk, ?_⟩
  unfold needS
  rw [if_pos (show at' p.s p.ix = c from h)]
  exact ⟨rfl, hq⟩
 ·refine (expect_bad b p c hc w hp hle hs h).mono ?_
  rintro e w' ⟨rfl, hk⟩
  refine ⟨hk, ?_⟩
  unfold needS
  rw [if_neg (show ¬ at' p.s p.ix = c from h)]
theorem needS_okB {s : ByteArray} {c : Int} {i j : Nat} {u : Unit} (hc : 0 ≤ c) (h : needS s c i = .ok u j) : i < j ∧ j ≤ s.size := by
 unfold needS at h
 by_cases e : at' s i = c
 ·rw [if_pos e] at h
  cases h
  have : i < s.size := at'_nn (by omega)
  omega
 ·rw [if_neg e] at h; cases h
def RPost (b h : Nat) (p : QS) (f : Nat → Bool) (w : World) (r : R (Nat → Bool)) (e : Ending) (w' : World) : Prop :=
 Keeps [b, h] w w' ∧ match r with
  | .ok r j => e = .returned (.tuple #[]) ∧ QB w' b { p with ix := j } ∧ HQ w' h (fun n => f n || r n)
  | .bad j => e = fault j
theorem took_yes {p : QS} {c : Int} (h : at' p.s p.ix = c) : decide (p.cur = c) = true ∧ p.took c = { p with ix := p.ix + 1 } := by
 have h' : p.cur = c := h
 exact ⟨by simpa using h', by unfold QS.took; rw [if_pos h']⟩
theorem took_no {p : QS} {c : Int} (h : ¬ at' p.s p.ix = c) : decide (p.cur = c) = false ∧ p.took c = p := by
 have h' : ¬ p.cur = c := h
 exact ⟨by simpa using h', by unfold QS.took; rw [if_neg h']⟩
set_option maxRecDepth 100000 in
set_option maxHeartbeats 2000000 in
theorem addRange_prog (b h : Nat) (p : QS) (f : Nat → Bool) (w : World) (hp : QB w b p) (hh : HQ w h f) (hs : p.s.size ≤ 60) (hle : p.ix ≤ p.s.size) (hg : GN w) (hbg : b ≠ 6) (hbh : b ≠ h) :
    Calls Tryz.prog 275 #[.pointer (some ⟨b, 0, none⟩), .pointer (some ⟨h, 0, none⟩)] w (RPost b h p f w (rangeS p.s p.ix)) := by
 go_enter Tryz.func275, Tryz.ntmps275
 go_wp2_with fail
 refine (skip_any b p 91 (by omega) _ hp hle hs).mono ?_
 rintro e w1 ⟨rfl, hq1, hk1⟩
 have hh1 : HQ w1 h f := hh.keep hk1 (by simp; omega)
 have hg1 : GN w1 := hg.keep hk1 (by simp; omega)
 have hkA : Keeps [b, h] w w1 := hk1.mono (by simp)
 by_cases h91 : at' p.s p.ix = 91
 ·obtain ⟨hd, htk⟩ := took_yes h91
  rw [htk] at hq1
  have hlt : p.ix + 1 ≤ p.s.size := at'_nn (by omega)
  have HA : Hid (rangeS p.s p.ix = ((needS p.s 58 (p.ix + 1)).bind fun _ j => (clsS p.s 6 [] j).bind fun k j => (needS p.s 58 j).bind fun _ j => (needS p.s 93 j).bind fun _ j => .ok k j).bind fun k j => .ok (fun n : Nat => clsB k n) j) := by
   show rangeS p.s p.ix = _
   unfold rangeS; rw [if_pos h91]; rfl
  clear h91 htk
  rw [hd]
  go_wp2_with fail
  refine (expect_any b { p with ix := p.ix + 1 } 58 (by omega) _ hq1 hlt hs).mono ?_
  rintro e w2 ⟨hk2, hc2⟩
  have hh2 : HQ w2 h f := hh1.keep hk2 (by simp; omega)
  have hg2 : GN w2 := hg1.keep hk2 (by simp; omega)
  have hkB : Keeps [b, h] w w2 := hkA.trans (hk2.mono (by simp))
  have hr2' : ∀ r, needS p.s 58 (p.ix + 1) = r → needS (QS.s { p with ix := p.ix + 1 }) 58 (QS.ix { p with ix := p.ix + 1 }) = r := fun r h => h
  cases hr2 : needS p.s 58 (p.ix + 1) with
  | bad j =>
   rw [hr2' _ hr2] at hc2
   subst hc2
   simp only [fault]
   exact ⟨rfl, hkB, by rw [HA.out, hr2]; rfl⟩
  | ok u j2 =>
   rw [hr2' _ hr2] at hc2
   obtain ⟨rfl, hq2⟩ := hc2
   have hj2 := (needS_okB (by omega) hr2).2
   have HB : Hid (rangeS p.s p.ix = ((clsS p.s 6 [] j2).bind fun k j => (needS p.s 58 j).bind fun _ j => (needS p.s 93 j).bind fun _ j => .ok k j).bind fun k j => .ok (fun n : Nat => clsB k n) j) := by
    show rangeS p.s p.ix = _; rw [HA.out, hr2]; rfl
   clear hr2 HA hr2'
   go_wp2_with fail
   refine (className_prog b { p with ix := j2 } _ hq2 hs hj2 hg2 hbg).mono ?_
   rintro e w3 ⟨hk3, hc3⟩
   have hh3 : HQ w3 h f := hh2.keep hk3 (by simp; omega)
   have hkC : Keeps [b, h] w w3 := hkB.trans (hk3.mono (by simp))
   have hr3' : ∀ r, clsS p.s 6 [] j2 = r → clsS (QS.s { p with ix := j2 }) 6 [] (QS.ix { p with ix := j2 }) = r := fun r h => h
   cases hr3 : clsS p.s 6 [] j2 with
   | bad j =>
    rw [hr3' _ hr3] at hc3
    subst hc3
    simp only [fault]
    exact ⟨rfl, hkC, by rw [HB.out, hr3]; rfl⟩
   | ok k j3 =>
    rw [hr3' _ hr3] at hc3
    obtain ⟨rfl, hq3⟩ := hc3
    have hj3 := clsS_ok 6 hr3
    have hj3' := hj3.2.1 hj2
    have HC : Hid (rangeS p.s p.ix = ((needS p.s 58 j3).bind fun _ j => (needS p.s 93 j).bind fun _ j => .ok k j).bind fun k j => .ok (fun n : Nat => clsB k n) j) := by
     show rangeS p.s p.ix = _; rw [HB.out, hr3]; rfl
    have AC := fun w1 h1 => addClass_any h k hj3.2.2 f w1 h1
    clear hr3 HB hr3' hj3
    generalize nmB (nm k) = S at *
    go_wp2_with fail
    refine (AC _ hh3).mono ?_
    rintro e w4 ⟨rfl, hh4, hk4⟩
    have hq4 : QB w4 b { p with ix := j3 } := hq3.keep hk4 (by simp; omega)
    have hkD : Keeps [b, h] w w4 := hkC.trans (hk4.mono (by simp))
    clear AC hh3 hq3 hk4
    go_wp2_with fail
    refine (expect_any b { p with ix := j3 } 58 (by omega) _ hq4 hj3' hs).mono ?_
    rintro e w5 ⟨hk5, hc5⟩
    have hh5 := hh4.keep hk5 (by simp; omega)
    have hkE : Keeps [b, h] w w5 := hkD.trans (hk5.mono (by simp))
    have hr5' : ∀ r, needS p.s 58 j3 = r → needS (QS.s { p with ix := j3 }) 58 (QS.ix { p with ix := j3 }) = r := fun r h => h
    cases hr5 : needS p.s 58 j3 with
    | bad j =>
     rw [hr5' _ hr5] at hc5
     subst hc5
     simp only [fault]
     exact ⟨rfl, hkE, by rw [HC.out, hr5]; rfl⟩
    | ok u5 j5 =>
     rw [hr5' _ hr5] at hc5
     obtain ⟨rfl, hq5⟩ := hc5
     have hj5 := (needS_okB (by omega) hr5).2
     have HD : Hid (rangeS p.s p.ix = ((needS p.s 93 j5).bind fun _ j => R.ok k j).bind fun k j => .ok (fun n : Nat => clsB k n) j) := by
      show rangeS p.s p.ix = _; rw [HC.out, hr5]; rfl
     clear hr5 HC hr5'
     go_wp2_with fail
     refine (expect_any b { p with ix := j5 } 93 (by omega) _ hq5 hj5 hs).mono ?_
     rintro e w6 ⟨hk6, hc6⟩
     have hh6 := hh5.keep hk6 (by simp; omega)
     have hkF : Keeps [b, h] w w6 := hkE.trans (hk6.mono (by simp))
     have hr6' : ∀ r, needS p.s 93 j5 = r → needS (QS.s { p with ix := j5 }) 93 (QS.ix { p with ix := j5 }) = r := fun r h => h
     cases hr6 : needS p.s 93 j5 with
     | bad j =>
      rw [hr6' _ hr6] at hc6
      subst hc6
      simp only [fault]
      exact ⟨rfl, hkF, by rw [HD.out, hr6]; rfl⟩
     | ok u6 j6 =>
      rw [hr6' _ hr6] at hc6
      obtain ⟨rfl, hq6⟩ := hc6
      have HE : Hid (rangeS p.s p.ix = .ok (fun n : Nat => clsB k n) j6) := by
       show rangeS p.s p.ix = _; rw [HD.out, hr6]; rfl
      clear hr6 HD hr6'
      go_wp2_with fail
      refine bodyPost_ret (results_none rfl _ _ _) rfl ?_
      refine ⟨hkF, ?_⟩
      rw [HE.out]
      exact ⟨rfl, hq6, hh6⟩
 ·obtain ⟨hd, htk⟩ := took_no h91
  rw [htk] at hq1
  have HA : Hid (rangeS p.s p.ix = (innS p.s 0 p.ix).bind fun a j => if at' p.s j = 45 then (innS p.s a (j + 1)).bind fun c k => .ok (stretch a c) k else .ok (stretch a a) j) := by
   show rangeS p.s p.ix = _
   unfold rangeS; rw [if_neg h91]
  clear h91 htk
  rw [hd]
  go_wp2_with fail
  refine (inner_prog b p 0 _ hq1 hs hle (by omega) (by omega)).mono ?_
  rintro e w2 ⟨hk2, hc2⟩
  have hh2 : HQ w2 h f := hh1.keep hk2 (by simp; omega)
  have hkB : Keeps [b, h] w w2 := hkA.trans (hk2.mono (by simp))
  cases hr2 : innS p.s 0 p.ix with
  | bad j =>
   rw [hr2] at hc2
   subst hc2
   simp only [fault]
   exact ⟨rfl, hkB, by rw [HA.out, hr2]; rfl⟩
  | ok a j2 =>
   rw [hr2] at hc2
   obtain ⟨rfl, hq2⟩ := hc2
   obtain ⟨_, hj2, ha0, ha1⟩ := innS_ok hr2
   have HB : Hid (rangeS p.s p.ix = if at' p.s j2 = 45 then (innS p.s a (j2 + 1)).bind fun c k => .ok (stretch a c) k else .ok (stretch a a) j2) := by
    show rangeS p.s p.ix = _; rw [HA.out, hr2]; rfl
   clear hr2 HA
   go_wp2_with fail
   refine (skip_any b { p with ix := j2 } 45 (by omega) _ hq2 hj2 hs).mono ?_
   rintro e w3 ⟨rfl, hq3, hk3⟩
   have hh3 : HQ w3 h f := hh2.keep hk3 (by simp; omega)
   have hkC : Keeps [b, h] w w3 := hkB.trans (hk3.mono (by simp))
   by_cases h45 : at' p.s j2 = 45
   ·obtain ⟨hd3, htk3⟩ := took_yes (p := { p with ix := j2 }) h45
    rw [htk3] at hq3
    have hlt3 : j2 + 1 ≤ p.s.size := at'_nn (by omega)
    have HC : Hid (rangeS p.s p.ix = (innS p.s a (j2 + 1)).bind fun c k => .ok (stretch a c) k) := by
     show rangeS p.s p.ix = _; rw [HB.out, if_pos h45]
    clear h45 htk3 HB
    rw [hd3]
    go_wp2_with fail
    refine (inner_prog b { p with ix := j2 + 1 } a _ hq3 hs hlt3 ha0 ha1).mono ?_
    rintro e w4 ⟨hk4, hc4⟩
    have hh4 : HQ w4 h f := hh3.keep hk4 (by simp; omega)
    have hkD : Keeps [b, h] w w4 := hkC.trans (hk4.mono (by simp))
    have hr4' : ∀ r, innS p.s a (j2 + 1) = r → innS (QS.s { p with ix := j2 + 1 }) a (QS.ix { p with ix := j2 + 1 }) = r := fun r h => h
    cases hr4 : innS p.s a (j2 + 1) with
    | bad j =>
     rw [hr4' _ hr4] at hc4
     subst hc4
     simp only [fault]
     exact ⟨rfl, hkD, by rw [HC.out, hr4]; rfl⟩
    | ok c j4 =>
     rw [hr4' _ hr4] at hc4
     obtain ⟨rfl, hq4⟩ := hc4
     obtain ⟨_, hj4, hc0, hc1⟩ := innS_ok hr4
     have HD : Hid (rangeS p.s p.ix = .ok (stretch a c) j4) := by
      show rangeS p.s p.ix = _; rw [HC.out, hr4]; rfl
     clear hr4 HC hr4'
     go_wp2_with fail
     refine (addRange_any h f a c _ hh4 ha0 ha1 hc0 hc1).mono ?_
     rintro e w5 ⟨rfl, hh5, hk5⟩
     have hq5 : QB w5 b { p with ix := j4 } := hq4.keep hk5 (by simp; omega)
     have hkE : Keeps [b, h] w w5 := hkD.trans (hk5.mono (by simp))
     go_wp2_with fail
     go_end0
     refine ⟨hkE, ?_⟩
     rw [HD.out]
     exact ⟨rfl, hq5, hh5⟩
   ·obtain ⟨hd3, htk3⟩ := took_no (p := { p with ix := j2 }) h45
    rw [htk3] at hq3
    have HC : Hid (rangeS p.s p.ix = .ok (stretch a a) j2) := by
     show rangeS p.s p.ix = _; rw [HB.out, if_neg h45]
    clear h45 htk3 HB
    rw [hd3]
    go_wp2_with fail
    refine (addRange_any h f a a _ hh3 ha0 ha1 ha0 ha1).mono ?_
    rintro e w5 ⟨rfl, hh5, hk5⟩
    have hq5 : QB w5 b { p with ix := j2 } := hq3.keep hk5 (by simp; omega)
    have hkE : Keeps [b, h] w w5 := hkC.trans (hk5.mono (by simp))
    go_wp2_with fail
    go_end0
    refine ⟨hkE, ?_⟩
    rw [HC.out]
    exact ⟨rfl, hq5, hh5⟩
end Go.Proofs.YtnfojonmohijpaaGreatDoor
namespace Go.Proofs.YtnfojonmohijpaaGreatDoor
open Go.RowKit
theorem Keeps.setRow {S : List Nat} {a w : World} (h : Keeps S a w) {g : Nat} (hp : g ∈ S ∨ a.heap.size ≤ g) (cs : Array Value) : Keeps S a (w.setRow g cs) :=
 ⟨h.os, h.tape, h.output, by simpa using h.size, fun k hk hn => by
   rw [setRow_other]
   · exact h.block k hk hn
   · rintro rfl
     rcases hp with hp | hp
     · exact hn hp
     · omega⟩
theorem zero_set (w : World) : (Instr.alloc 206 true (.tuple #[])).run Tryz.prog w = .ok (.pointer (some ⟨w.heap.size, 0, none⟩)) (w.alloc (.cells (hcells fun _ => false) 206)) := by kernel_rfl
theorem wpList_zeroSet {ops : Array Oper} {rest : List Oper} {o : Oper} {a : Act} {w : World} {Q : Exit → Act → World → Prop} (hg : o.guard = none) (ho : o.op = .alloc 206) (d : Option Tmp) (hd : o.dst = d)
    (h : wpList Tryz.prog ops Q rest (a.put d (.pointer (some ⟨w.heap.size, 0, none⟩))) (w.alloc (.cells (hcells fun _ => false) 206))) : wpList Tryz.prog ops Q (o :: rest) a w := by
 subst hd
 refine wpList_plain hg fun K hK => ?_
 unfold Oper.wp execOp
 simp only [ho, Sem.run_bind, zero_set, Sem.run_pure, Result.andThen_ok]
 exact hK _ _ h
theorem hcells_one (f : Nat → Bool) : (hcells f).all (·.oneCell') = true := by
 rw [Array.all_eq_true]
 intro i hi
 have hi' : i < 256 := by rw [hcells_size] at hi; exact hi
 have := hcells_get f hi'
 rw [Array.getElem?_eq_getElem hi] at this
 rw [Option.some.inj this]
 rfl
theorem Tryz.infoSet : (Tryz.prog.info? 206).map (·.size) = some 256 := by kernel_rfl
theorem infoSetC (f : Nat → Bool) : (Tryz.prog.info? 206).map (·.size) = some (hcells f).size := by rw [hcells_size]; exact Tryz.infoSet
set_option maxRecDepth 100000 in
set_option maxHeartbeats 400000 in
theorem others_any (f : Nat → Bool) (w : World) :
    Calls Tryz.prog 252 #[.agg (hcells f)] w fun e w' => e = .returned (.agg (hcells fun n => !f n)) ∧ Keeps [] w w' := by
 have hz0 : HQ ((w.alloc (.cells (hcells f) 206)).alloc (.cells (hcells fun _ => false) 206)) w.heap.size f := heap_alloc2_old w _ _
 have hz1 : HQ ((w.alloc (.cells (hcells f) 206)).alloc (.cells (hcells fun _ => false) 206)) (w.heap.size + 1) (fun _ => false) := heap_alloc2_new w _ _
 have hk0 : Keeps [] w ((w.alloc (.cells (hcells f) 206)).alloc (.cells (hcells fun _ => false) 206)) := ((Keeps.refl [] w).alloc _).alloc _
 generalize hC : hcells f = C at *
 go_enter Tryz.func252, Tryz.ntmps252
 go_wp2_with (first | (refine wpList_zeroSet rfl rfl (some 2) rfl ?_))
 generalize (w.alloc (.cells C 206)).alloc (.cells (hcells fun _ => false) 206) = W at *
 obtain ⟨g, hgq⟩ : ∃ g, w.heap.size = g := ⟨_, rfl⟩
 rw [hgq] at hz0 hz1 ⊢
 go_loopw [4] (fun q wr => ∃ m : Nat, m ≤ 256 ∧ q = .int .i64 m ∧ HQ wr g (fun n => if n < m then !f n else f n) ∧ HQ wr (g + 1) (fun _ => false) ∧ Keeps [] w wr) (fun q _ => 256 - (intOf q).toNat)
 case atStart => exact ⟨0, by omega, rfl, hz0.congr (fun n _ => by simp), hz1, hk0⟩
 case round =>
  clear hz0 hz1 hk0
  obtain ⟨m, hm, rfl, hq0, hq1, hk⟩ := hrel
  by_cases hlt : m < 256
  ·have hcm := hq0.cell hlt
   rw [if_neg (Nat.lt_irrefl m)] at hcm
   have hfm := hq0.frozen m
   have hm0 : (0 : Int) ≤ (m : Int) := by omega
   have hm1 : (m : Int) < 256 := by omega
   have HN : HQ (wr.setCell ⟨g, m, none⟩ (.bool (!f m))) g (fun n => if n < m + 1 then !f n else f n) := (hq0.set m (!f m)).congr fun n hn => by
    by_cases e : n = m
    ·subst e; simp
    ·by_cases e2 : n < m
     ·rw [if_neg e, if_pos e2, if_pos (by omega)]
     ·rw [if_neg e, if_neg e2, if_neg (by omega)]
   have HM : HQ (wr.setCell ⟨g, m, none⟩ (.bool (!f m))) (g + 1) (fun _ => false) := hq1.keep ((Keeps.refl [g] wr).setCell (p := ⟨g, m, none⟩) (by simp) _) (by simp)
   go_wp2
   go_roundw
   case rel => exact ⟨m + 1, by omega, by go_num, HN, HM, hk.setCell (Or.inr (by simp; omega)) _⟩
   case measure => simp [intOf]; omega
  ·have e : m = 256 := by omega
   subst e
   have hq2 : HQ wr g (fun n => !f n) := hq0.congr fun n hn => by rw [if_pos hn]
   go_wp2_with (first | (refine wpList_load_row rfl 206 _ rfl g rfl _ _ _ _ hq2 Tryz.underlying206 rfl (infoSetC _) ?_) | (refine wpList_store_row rfl 206 _ _ rfl (g + 1) _ rfl rfl _ _ hq1 (infoSetC _) (by rw [hcells_size, hcells_size]) (hcells_one _) ?_))
   refine bodyPost_ret (results_cell_row rfl _ _ (g + 1) _ _ _ _ rfl (setRow_heap _ _ _ _ _ _ hq1) Tryz.underlying206 rfl (infoSetC _)) rfl ?_
   exact ⟨rfl, hk.setRow (Or.inr (by omega)) _⟩
end Go.Proofs.YtnfojonmohijpaaGreatDoor
namespace Go.Proofs.YtnfojonmohijpaaGreatDoor
open Go.RowKit
set_option maxRecDepth 100000 in
set_option maxHeartbeats 400000 in
theorem one_set (c : Nat) (hc : c < 256) (w : World) :
    Calls Tryz.prog 249 #[.int .u8 (c : Int)] w fun e w' => e = .returned (.agg (hcells fun n => decide (n = c))) ∧ Keeps [] w w' := by
 have hz0 : HQ ((w.alloc (.cells (hcells fun _ => false) 206)).alloc (.cells (hcells fun _ => false) 206)) w.heap.size (fun _ => false) := heap_alloc2_old w _ _
 have hz1 : HQ ((w.alloc (.cells (hcells fun _ => false) 206)).alloc (.cells (hcells fun _ => false) 206)) (w.heap.size + 1) (fun _ => false) := heap_alloc2_new w _ _
 have hk0 : Keeps [] w ((w.alloc (.cells (hcells fun _ => false) 206)).alloc (.cells (hcells fun _ => false) 206)) := ((Keeps.refl [] w).alloc _).alloc _
 have hcm := hz1.cell hc
 have hfm := hz1.frozen c
 have hq2 := (hz1.set c true).congr (g := fun n => decide (n = c)) (fun n _ => by by_cases e : n = c <;> simp [e])
 have hq3 := hz0.keep ((Keeps.refl [w.heap.size + 1] _).setCell (p := ⟨w.heap.size + 1, c, none⟩) (by simp) (.bool true)) (by simp)
 have hk1 := hk0.setCell (p := ⟨w.heap.size + 1, c, none⟩) (Or.inr (by simp)) (.bool true)
 have hc0 : (0 : Int) ≤ (c : Int) := by omega
 have hc1 : (c : Int) < 256 := by omega
 go_enter Tryz.func249, Tryz.ntmps249
 go_wp2_with (first | (refine wpList_zeroSet rfl rfl (some 3) rfl ?_; generalize (w.alloc (.cells (hcells fun _ => false) 206)).alloc (.cells (hcells fun _ => false) 206) = W at *) | (refine wpList_zeroSet rfl rfl (some 2) rfl ?_) | (refine wpList_load_row rfl 206 _ rfl (w.heap.size + 1) rfl _ _ _ _ hq2 Tryz.underlying206 rfl (infoSetC _) ?_) | (refine wpList_store_row rfl 206 _ _ rfl w.heap.size _ rfl rfl _ _ hq3 (infoSetC _) (by rw [hcells_size, hcells_size]) (hcells_one _) ?_))
 refine bodyPost_ret (results_cell_row rfl _ _ w.heap.size _ _ _ _ rfl (setRow_heap _ _ _ _ _ _ hq3) Tryz.underlying206 rfl (infoSetC _)) rfl ?_
 exact ⟨rfl, hk1.setRow (Or.inr (Nat.le_refl _)) _⟩
theorem built_zero : Tryz.prog.built 206 [] = some (hcells fun _ => false) := by kernel_rfl
theorem hcells_true : (hcells fun n => !(fun _ => false : Nat → Bool) n) = hcells fun _ => true := rfl
set_option maxRecDepth 100000 in
set_option maxHeartbeats 400000 in
theorem all_set (w : World) :
    Calls Tryz.prog 207 #[] w fun e w' => e = .returned (.agg (hcells fun _ => true)) ∧ Keeps [] w w' := by
 have hz0 : HQ (w.alloc (.cells (hcells fun _ => false) 206)) w.heap.size (fun _ => false) := heap_alloc_new w _
 have hk0 : Keeps [] w (w.alloc (.cells (hcells fun _ => false) 206)) := (Keeps.refl [] w).alloc _
 have hlt : w.heap.size < (w.alloc (.cells (hcells fun _ => false) 206)).heap.size := by simp
 go_enter Tryz.func207, Tryz.ntmps207
 go_wp2_with (first | (refine wpList_zeroSet rfl rfl (some 0) rfl ?_; generalize w.alloc (.cells (hcells fun _ => false) 206) = W at *) | (refine Great.wpList_buildTo rfl 206 #[] rfl (some 1) rfl (hcells fun _ => false) built_zero ?_) | (go_at_call 252; refine (others_any (fun _ => false) _).mono ?_; rintro e w1 ⟨rfl, hk1⟩; rw [hcells_true]; have hq1 := hz0.keep hk1 (by simp)) | (refine wpList_store_row rfl 206 _ _ rfl w.heap.size _ rfl rfl _ _ hq1 (infoSetC _) (by rw [hcells_size, hcells_size]) (hcells_one _) ?_))
 refine bodyPost_ret (results_cell_row rfl _ _ w.heap.size _ _ _ _ rfl (setRow_heap _ _ _ _ _ _ hq1) Tryz.underlying206 rfl (infoSetC _)) rfl ?_
 exact ⟨rfl, (hk0.trans hk1).setRow (Or.inr (Nat.le_refl _)) _⟩
end Go.Proofs.YtnfojonmohijpaaGreatDoor
