/-
  DERIVED. The contract of className. Conditions: the text is at most 60 bytes long, the place is within it, the variable classNames holds the seven names.
-/
import Derived.Test.YtnfojonmohijpaaGreatDoorJPF
set_option linter.unusedSimpArgs false
set_option linter.unusedVariables false
namespace Go.Proofs.YtnfojonmohijpaaGreatDoor
open Go.RowKit

def lenV : Value → Nat
  | .slice _ n _ => n
  | _ => 0
/-- How many bytes of a name may still come: the loop's measure. -/
def muN (w : World) (nb : Nat) : Nat := 6 - (match w.cell? ⟨nb, 0, none⟩ with | some v => lenV v | none => 0)
theorem BY.len {w : World} {base : Nat} {v : Value} {word : List UInt8} (h : BY w base v word) : lenV v = word.length := by
  rcases h.2 with ⟨rfl, hn⟩ | ⟨g, cap, cur, rfl, _⟩
  · exact hn.symm
  · rfl
theorem muN_eq {w : World} {nb base : Nat} {v : Value} {word : List UInt8} (hc : w.cell? ⟨nb, 0, none⟩ = some v) (h : BY w base v word) : muN w nb = 6 - word.length := by
  unfold muN; rw [hc]; simp only [h.len]

/-- What has been read of a name so far, and where it lies. -/
structure CN (p : QS) (b nb : Nat) (w wr : World) (v : Value) (word : List UInt8) (i : Nat) : Prop where
  qb : QB wr b { p with ix := i }
  cell : wr.cell? ⟨nb, 0, none⟩ = some v
  fro : wr.frozen? ⟨nb, 0, none⟩ = false
  bytes : BY wr (nb + 1) v word
  gn : GN wr
  keep : Keeps [b] w wr
  ile : i ≤ p.s.size
  wl : word.length ≤ 5
  w5 : word.length = 5 → word ∈ names
  spec : clsS p.s 6 [] p.ix = clsS p.s (6 - word.length) word i

def NPost (b : Nat) (p : QS) (w : World) (r : R Nat) (e : Ending) (w' : World) : Prop :=
  Keeps [b] w w' ∧ match r with
    | .ok k j => e = .returned (.string (nmB (nm k))) ∧ QB w' b { p with ix := j }
    | .bad j => e = fault j

/-- What turns only blocks that are new, or of S. -/
theorem Keeps.fresh {S S' : List Nat} {a w w' : World} (h : Keeps S a w) (k : Keeps S' w w') (hs : ∀ x, x ∈ S' → x ∈ S ∨ a.heap.size ≤ x) : Keeps S a w' :=
  ⟨k.os.trans h.os, k.tape.trans h.tape, k.output.trans h.output, Nat.le_trans h.size k.size, fun j hj hn => (k.block j (Nat.lt_of_lt_of_le hj h.size) (fun hm => (hs j hm).elim hn (fun hh => Nat.lt_irrefl _ (Nat.lt_of_lt_of_le hj hh)))).trans (h.block j hj hn)⟩
theorem Keeps.ofGrown {w w' : World} {v : Value} (h : w.grownBy w' v.ownBlock) : Keeps v.ownBlock.toList w w' :=
  ⟨h.os, h.tape, h.output, h.size, fun j hj hnj => h.block j hj (by intro e; apply hnj; rw [← e]; simp)⟩

/-- A byte more of the name. -/
theorem CN.next {p : QS} {b nb : Nat} {w w3 w4 : World} {v : Value} {word : List UInt8} {i g cap : Nat} {u : UInt8} (hk : Keeps [b] w w3) (hq : QB w3 b { p with ix := i + 1 }) (hg3 : GN w3) (hb3 : BY w3 (nb + 1) v word)
    (hc3 : w3.cell? ⟨nb, 0, none⟩ = some v) (hnb : b < nb) (hgl : 6 < nb) (hw : w.heap.size = nb)
    (hown : w4.ownsRow (nb + 1) 5 1 (.slice (some ⟨g, 0, none⟩) (word.length + 1) cap) (word.length + 1) (word.map byteV ++ [byteV u])) (hgrow : (w3.alloc (.cells #[byteV u] 5)).grownBy w4 v.ownBlock)
    (hf4 : w4.frozen? ⟨nb, 0, none⟩ = false) (hilt : i < p.s.size) (hwl : word.length ≤ 4) (h5 : (word ++ [u]).length = 5 → word ++ [u] ∈ names) (hsp : clsS p.s 6 [] p.ix = clsS p.s (5 - word.length) (word ++ [u]) (i + 1)) :
    CN p b nb w (w4.setCell ⟨nb, 0, none⟩ (.slice (some ⟨g, 0, none⟩) (word.length + 1) cap)) (.slice (some ⟨g, 0, none⟩) (word.length + 1) cap) (word ++ [u]) (i + 1) := by
  have hvlt := World.ownsRow.lt hb3
  have hnb3 := World.block_lt_of_cell? w3 _ hc3
  have hg4 := (World.ownsRow.lt hown g rfl)
  have hkA : Keeps v.ownBlock.toList w3 w4 := ((Keeps.refl _ w3).alloc (.cells #[byteV u] 5)).trans (Keeps.ofGrown hgrow)
  have hkB : Keeps (nb :: v.ownBlock.toList) w3 (w4.setCell ⟨nb, 0, none⟩ (.slice (some ⟨g, 0, none⟩) (word.length + 1) cap)) := (hkA.mono (by intro x hx; exact List.mem_cons_of_mem _ hx)).setCell (by simp) _
  have hfar : ∀ x, x ≤ nb → x ∉ v.ownBlock.toList := by
    intro x hx hm
    rw [Option.mem_toList] at hm
    have := (hvlt x hm).1
    omega
  have hnbk : w4.cell? ⟨nb, 0, none⟩ = some v := (World.cell?_of_block (hkA.block nb hnb3 (hfar nb (Nat.le_refl _)))).trans hc3
  refine ⟨hq.keep hkB ?_, ?_, ?_, ?_, hg3.keep hkB ?_, hk.fresh hkB ?_, hilt, by simp; omega, h5, ?_⟩
  · simp only [List.mem_cons, not_or]; exact ⟨by omega, hfar b (by omega)⟩
  · exact World.cell?_setCell_same _ _ _ hnbk
  · rw [World.frozen?_setCell]; exact hf4
  · have := World.ownsRow.setOther hown (a := ⟨nb, 0, none⟩) (by simp [Value.ownBlock]; omega) (.slice (some ⟨g, 0, none⟩) (word.length + 1) cap)
    unfold BY
    rw [List.length_append, List.map_append]
    exact this
  · simp only [List.mem_cons, not_or]; exact ⟨by omega, hfar _ (by omega)⟩
  · intro x hx
    right
    rcases List.mem_cons.1 hx with rfl | hx
    · omega
    · rw [Option.mem_toList] at hx
      have := (hvlt x hx).1
      omega
  · rw [hsp, List.length_append, List.length_singleton]; congr 1; omega

theorem first_name {word : List UInt8} (h : word ∈ names) : ∃ k, k < 7 ∧ nm k = word ∧ ∀ j, j < k → nm j ≠ word := by
  have key : ∀ k j : Fin 7, nm k = nm j → k = j := by decide
  obtain ⟨k, hk, rfl⟩ := List.mem_iff_getElem.1 h
  have hk7 : k < 7 := by rw [names_count] at hk; exact hk
  refine ⟨k, hk7, nm_get hk7, fun j hj e => ?_⟩
  have := key ⟨k, hk7⟩ ⟨j, by omega⟩ ((nm_get hk7).trans e.symm)
  have := congrArg Fin.val this
  simp at this
  omega

theorem Tryz.infoByte : (Tryz.prog.info? 5).map (fun i => (i.zero, i.size, i.bytes)) = some (some (.int .u8 0), 1, 1) := by kernel_rfl

theorem frozen_keep_b {w w' : World} {b : Nat} (h : Keeps [b] w w') {a : Addr} {v : Value} (hb : a.block ≠ b) (hc : w.cell? a = some v) (hf : w.frozen? a = false) : w'.frozen? a = false :=
  (World.frozen?_of_block (h.block a.block (World.block_lt_of_cell? w a hc) (by simpa using hb))).trans hf

set_option maxRecDepth 100000 in
set_option maxHeartbeats 2000000 in
theorem className_prog (b : Nat) (p : QS) (w : World) (hp : QB w b p) (hs : p.s.size ≤ 60) (hle : p.ix ≤ p.s.size) (hg : GN w) (hbg : b ≠ 6) :
    Calls Tryz.prog 289 #[.pointer (some ⟨b, 0, none⟩)] w (NPost b p w (clsS p.s 6 [] p.ix)) := by
  obtain ⟨i0, hi0, hz0, hz1, hz2⟩ := info_parts Tryz.infoByte
  have hmf : ∀ (fn : Fn) (first cap : Array Value) (w : World), (Instr.makeFunc fn first cap).run Tryz.prog w = .ok (.func fn first cap) w := fun _ _ _ _ => rfl
  have hbl := hp.lt
  have hgl := hg.lt
  go_enter Tryz.func289, Tryz.ntmps289
  go_wp2_with fail
  have C0 : CN p b w.heap.size w (w.alloc (.cells #[.slice none 0 0] 64)) (.slice none 0 0) [] p.ix :=
    ⟨hp.keep ((Keeps.refl [] w).alloc _) (by simp), by simp, by simp, World.ownsRow_nil _ _ _ _, hg.keep ((Keeps.refl [] w).alloc _) (by simp), (Keeps.refl [b] w).alloc _, hle, by simp, by simp, rfl⟩
  have hnb : w.heap.size ≠ b := by omega
  have hnb0 : w.heap.size < (w.alloc (.cells #[.slice none 0 0] 64)).heap.size := by simp
  generalize hnbq : w.heap.size = nb at *
  generalize (w.alloc (.cells #[.slice none 0 0] 64)) = W at *
  go_loopw [4] (fun _ wr => ∃ v word i, CN p b nb w wr v word i) (fun _ wr => muN wr nb)
  case atStart => exact ⟨_, _, _, C0⟩
  case round =>
    clear C0
    obtain ⟨v, word, i, C⟩ := hrel
    have hcv := conv_name _ _ _ _ C.bytes
    have hc := C.cell
    have hf := C.fro
    by_cases hm : word ∈ names
    · have IC := isClass_any word _ C.gn
      rw [decide_eq_true hm] at IC
      go_wp2_with (go_at_call 297; refine IC.mono ?_; rintro e w' ⟨rfl, rfl⟩)
      go_ret
      obtain ⟨k, hk7, hkw⟩ : ∃ k, k < 7 ∧ nm k = word ∧ ∀ j, j < k → nm j ≠ word := first_name hm
      have hr : clsS p.s 6 [] p.ix = .ok k i := by
        rw [C.spec, show 6 - word.length = 1 from by rw [← hkw.1, nm_len hk7], clsS, find_some hk7 hkw.2 hkw.1]
      refine ⟨C.keep, ?_⟩
      rw [hr]
      exact ⟨by rw [hkw.1]; rfl, C.qb⟩
    · have IC := isClass_any word _ C.gn
      rw [decide_eq_false hm] at IC
      have hw4 : word.length ≤ 4 := by
        have := C.wl
        have h5 := C.w5
        by_cases h : word.length = 5
        · exact absurd (h5 h) hm
        · omega
      have HS : Hid (clsS p.s 6 [] p.ix = if goesOn word (at' p.s i) then clsS p.s (5 - word.length) (word ++ [p.s.get! i]) (i + 1) else .bad i) := by
        show clsS p.s 6 [] p.ix = _
        rw [C.spec, show 6 - word.length = (5 - word.length) + 1 from by omega, clsS, find_none (by intro j hj h; exact hm (by rw [← h]; exact nm_mem hj))]
      clear hm
      go_wp2_with (go_at_call 297; refine IC.mono ?_; rintro e w' ⟨rfl, rfl⟩)
      have hmay : 0 ≤ at' p.s i → May 298 #[.pointer (some ⟨nb, 0, none⟩)] (at' p.s i) (goesOn word (at' p.s i)) w' := by
        intro h0
        have hlt : i < p.s.size := at'_nn h0
        rw [at'_lt hlt]
        exact may_cls1 _ nb (nb + 1) v word (by omega) _ C.cell C.bytes C.gn
      refine (take_may b { p with ix := i } 298 _ (goesOn word (at' p.s i)) _ C.qb hs C.ile hmay (if 0 ≤ at' p.s i ∧ goesOn word (at' p.s i) = true then .ok (at' p.s i) (i + 1) else .bad i) rfl).mono ?_
      rintro e w3 ⟨hk3, hc3⟩
      by_cases h2 : 0 ≤ at' p.s i ∧ goesOn word (at' p.s i) = true
      · rw [if_pos h2] at hc3
        obtain ⟨rfl, hq3⟩ := hc3
        have hlt : i < p.s.size := at'_nn h2.1
        have hgo := h2.2
        have HS2 : Hid (clsS p.s 6 [] p.ix = clsS p.s (5 - word.length) (word ++ [p.s.get! i]) (i + 1)) := by show clsS p.s 6 [] p.ix = _; rw [HS.out, if_pos hgo]
        have HW5 : Hid ((word ++ [p.s.get! i]).length = 5 → word ++ [p.s.get! i] ∈ names) := goesOn_mem hgo hw4 hlt
        have hbyte : at' p.s i = ((p.s.get! i).toNat : Int) := by rw [at'_lt hlt, get!_eq hlt]
        have hc4 := keep_cell_b hk3 hnb C.cell
        have hf4 := frozen_keep_b hk3 hnb C.cell C.fro
        have hvlt := World.ownsRow.lt C.bytes
        have hb4 : BY w3 (nb + 1) v word := C.bytes.keep hk3 (by intro g e; have := (hvlt g e).1; simp; omega)
        have hvlt3 := World.ownsRow.lt hb4
        have hg4 := C.gn.keep hk3 (by simp; omega)
        have hlm : word.length + 1 ≤ maxLen := by unfold maxLen; omega
        have hun := Tryz.underlying64
        have hnb3 := World.block_lt_of_cell? w3 _ hc4
        have hnb3' : nb < w3.heap.size := hnb3
        have hvne : v.ownBlock ≠ some nb := by intro e; have := (hvlt nb e).1; omega
        have hk4 := C.keep.trans hk3
        have hmu := muN_eq C.cell C.bytes
        clear h2 hgo HS hcv hc hf hmay C IC
        rw [hbyte]
        generalize p.s.get! i = u at *
        go_wp2_with (first | (at_builtin; refine wpList_append_lies _ rfl _ _ _ rfl (nb + 1) 5 i0 (.int .u8 0) 1 1 hun hi0 hz0 hz1 hz2 rfl (by decide) v word.length _ rfl (World.ownsRow.alloc hb4 _) ⟨w3.heap.size, 0, none⟩ 1 1 [.int .u8 (u.toNat : Int)] rfl rfl (cell_one_new _ _ _) (by simp [Value.oneCell']) (by omega) hlm (by omega) (by simp; omega) (w3.heap.size + 1) (by simp) ?_; intro g cap w4 hown hgrow hat hlt4; have hfz : w4.frozen? ⟨nb, 0, none⟩ = false := (hgrow.frozen_far ⟨nb, 0, none⟩ (by simp; omega) (Ne.symm hvne)).trans ((World.frozen?_alloc_old w3 _ ⟨nb, 0, none⟩ (by simp; omega)).trans hf4); have hcz : w4.cell? ⟨nb, 0, none⟩ = some v := (hgrow.cell_far ⟨nb, 0, none⟩ (by simp; omega) (Ne.symm hvne)).trans ((World.cell?_alloc_old w3 _ ⟨nb, 0, none⟩ (by simp; omega)).trans hc4)))
        have C5 := CN.next hk4 hq3 hg4 hb4 hc4 hbl hgl hnbq hown hgrow hfz hlt hw4 HW5.out HS2.out
        go_roundw
        case rel => exact ⟨_, _, _, C5⟩
        case measure => rw [hmu, muN_eq C5.cell C5.bytes, List.length_append]; simp; omega
      · rw [if_neg h2] at hc3
        subst hc3
        have hr : clsS p.s 6 [] p.ix = .bad i := by
          rw [HS.out, if_neg]
          intro hgo
          apply h2
          refine ⟨?_, hgo⟩
          by_cases h0 : i < p.s.size
          · rw [at'_lt h0]; omega
          · rw [at'_ge (by omega), goesOn_none] at hgo; cases hgo
        simp only [fault]
        exact ⟨rfl, C.keep.trans hk3, by rw [hr]; rfl⟩
end Go.Proofs.YtnfojonmohijpaaGreatDoor
