/-
  DERIVED. Rows of bools that the reference's matching makes, by what they hold at each place; the reference's 'only'. Conditions: the text is at most 100 bytes long.
-/
import Derived.Test.YtnfojonmohijpaaGreatDoorJRT
import Derived.Test.YtnfojonmohijpaaGreatDoorJSD
import Derived.OwnWalk
import Derived.Test.YtnfojonmohijpaaGreatDoorJRF
import Derived.Laws.Rows
import Derived.Laws.Tables
import Derived.KernelRfl
import Derived.Test.YtnfojonmohijpaaGreatDoorJRK
import Derived.Test.YtnfojonmohijpaaGreatDoorJPC
set_option linter.unusedSimpArgs false
set_option linter.unusedVariables false
namespace Go.Proofs.YtnfojonmohijpaaGreatDoor
open Go.RowKit
def bl (n : Nat) (f : Nat → Bool) : List Value := (List.range n).map fun j => .bool (f j)
theorem bl_at {n j : Nat} (f : Nat → Bool) (h : j < n) : (bl n f)[j]? = some (.bool (f j)) := by simp [bl, h]
theorem bl_set (n k : Nat) (f : Nat → Bool) (b : Bool) : (bl n f).set k (.bool b) = bl n (fun j => if j = k then b else f j) := by
 apply List.ext_getElem?
 intro j
 rw [List.getElem?_set]
 by_cases hj : j < n
 ·by_cases e : k = j
  ·subst e; simp [bl, hj]
  ·have e' : ¬ j = k := fun h => e h.symm
   simp [bl, hj, e, e']
 ·by_cases e : k = j
  ·subst e; simp [bl, hj]
  ·simp [bl, hj, e]
theorem bl_ext {n : Nat} {f g : Nat → Bool} (h : ∀ j, j < n → f j = g j) : bl n f = bl n g := by
 unfold bl
 apply List.map_congr_left
 intro j hj
 rw [h j (by simpa using hj)]
theorem bl_snoc (n : Nat) (f : Nat → Bool) : bl (n + 1) f = bl n f ++ [.bool (f n)] := by simp [bl, List.range_succ]
theorem bl_made (n : Nat) : (madeCells #[Value.bool false] n).toList = bl n (fun _ => false) := by
 apply List.ext_getElem?
 intro j
 by_cases hj : j < n
 ·rw [bl_at _ hj]
  simp [madeCells, hj, Nat.mod_one]
 ·simp [madeCells, bl, hj]
def RB (w : World) (v : Value) (n : Nat) (f : Nat → Bool) : Prop := w.ownsRow 0 4 1 v n (bl n f)
theorem RB.keep {w w' : World} {S : List Nat} {v : Value} {n : Nat} {f : Nat → Bool} (h : RB w v n f) (hk : Keeps S w w') (hs : ∀ g, v.ownBlock = some g → g ∉ S) : RB w' v n f := World.ownsRow.keep h hk hs
theorem RB.form {w : World} {v : Value} {n : Nat} {f : Nat → Bool} (h : RB w v n f) (hn : 0 < n) : ∃ g cap, v = .slice (some ⟨g, 0, none⟩) n cap ∧ g < w.heap.size := by
 obtain ⟨g, cap, hv, _, hg⟩ := World.ownsRow.form h hn
 exact ⟨g, cap, hv, hg⟩
theorem RB.ext {w : World} {v : Value} {n : Nat} {f g : Nat → Bool} (h : RB w v n f) (e : ∀ j, j < n → f j = g j) : RB w v n g := by
 unfold RB at *
 rw [← bl_ext e]
 exact h
theorem RB.at {w : World} {g cap n : Nat} {f : Nat → Bool} (h : RB w (.slice (some ⟨g, 0, none⟩) n cap) n f) {j : Nat} (hj : j < n) : w.cell? ⟨g, j, none⟩ = some (.bool (f j)) := by
 rw [World.ownsRow.cellAt h j (by omega), bl_at f hj]
theorem RB.frozen {w : World} {g cap n : Nat} {f : Nat → Bool} (h : RB w (.slice (some ⟨g, 0, none⟩) n cap) n f) (j : Nat) : w.frozen? ⟨g, j, none⟩ = false := World.ownsRow.frozenAt h j
theorem RB.put {w : World} {g cap n : Nat} {f : Nat → Bool} (h : RB w (.slice (some ⟨g, 0, none⟩) n cap) n f) (k : Nat) (b : Bool) : RB (w.setCell ⟨g, k, none⟩ (.bool b)) (.slice (some ⟨g, 0, none⟩) n cap) n (fun j => if j = k then b else f j) := by
 have := (World.ownsRow.stored h k (.bool b)).1
 rw [bl_set] at this
 exact this
theorem infoBool : (Tryz.prog.info? 4).map (fun i => (i.zero, i.size, i.bytes)) = some (some (.bool false), 1, 1) := by kernel_rfl
def XB (w : World) (b : Nat) (P : Value) (s : ByteArray) (E : Value) : Prop := w.heap[b]? = some (.cells #[P, .string s, .bool false, E] 154 (0, 0))
theorem XB.main {w : World} {b : Nat} {P : Value} {s : ByteArray} {E : Value} (h : XB w b P s E) : w.cell? ⟨b, 0, none⟩ = some P ∧ w.cell? ⟨b, 1, none⟩ = some (.string s) ∧ w.cell? ⟨b, 2, none⟩ = some (.bool false) ∧ w.cell? ⟨b, 3, none⟩ = some E := by
 unfold XB at h
 simp [World.cell?, h]
theorem XB.lt {w : World} {b : Nat} {P : Value} {s : ByteArray} {E : Value} (h : XB w b P s E) : b < w.heap.size := (Array.getElem?_eq_some_iff.1 h).1
theorem XB.keep {w w' : World} {S : List Nat} {b : Nat} {P : Value} {s : ByteArray} {E : Value} (h : XB w b P s E) (hk : Keeps S w w') (hb : b ∉ S) : XB w' b P s E := (hk.block b h.lt hb).trans h
theorem Keeps.ofGrownNone {w w' : World} (h : w.grownBy w' none) : Keeps [] w w' := ⟨h.os, h.tape, h.output, h.size, fun j hj _ => h.block j hj (by simp)⟩
theorem keepsM {w w1 w2 : World} {S S' : List Nat} (h : Keeps S' w w1) (k : Keeps S w1 w2) (hs : ∀ x, x ∈ S → x ∈ S' ∨ w.heap.size ≤ x) : Keeps S' w w2 :=
 ⟨k.os.trans h.os, k.tape.trans h.tape, k.output.trans h.output, Nat.le_trans h.size k.size, fun j hj hn => (k.block j (Nat.lt_of_lt_of_le hj h.size) (fun hm => by
   rcases hs j hm with h1 | h1
   · exact hn h1
   · omega)).trans (h.block j hj hn)⟩
set_option maxRecDepth 100000 in
set_option maxHeartbeats 1000000 in
theorem only_any (b : Nat) (P E : Value) (s : ByteArray) (i : Nat) (hi : i ≤ s.size) (hs : s.size ≤ 100) (w : World) (h : XB w b P s E) :
    Calls Tryz.prog 137 #[.pointer (some ⟨b, 0, none⟩), .int .i64 i] w fun e w' => ∃ g, e = .returned (.slice (some ⟨g, 0, none⟩) (s.size + 1) (s.size + 1)) ∧ RB w' (.slice (some ⟨g, 0, none⟩) (s.size + 1) (s.size + 1)) (s.size + 1) (fun j => decide (j = i)) ∧ Keeps [] w w' ∧ w.heap.size ≤ g := by
 obtain ⟨i0, hi0, hz0, hz1, hz2⟩ := info_parts infoBool
 obtain ⟨x0, x1, x2, x3⟩ := h.main
 have hun := Tryz.underlying98
 have hadd : (s.size : Int) + 1 ≤ 9223372036854775807 := by omega
 go_enter Tryz.func137, Tryz.ntmps137
 go_wp2_with (first | (refine wpList_make_full w rfl _ _ 98 rfl 0 4 i0 (.bool false) 1 hun hi0 hz0 hz1 .i64 .i64 ((s.size : Int) + 1) ((s.size : Int) + 1) (s.size + 1) rfl rfl (by omega) (by omega) (by rw [hz2]; omega) (by unfold maxLen; omega) (Nat.zero_le _) ?_))
 intro w1 hown hgr
 rw [bl_made] at hown
 have hR : RB w1 (.slice (some ⟨w.heap.size, 0, none⟩) (s.size + 1) (s.size + 1)) (s.size + 1) (fun _ => false) := hown
 have hc := hR.at (j := i) (by omega)
 have hf := hR.frozen i
 have hi0' : (0 : Int) ≤ (i : Int) := by omega
 have hi1' : (i : Int) < ((s.size + 1 : Nat) : Int) := by omega
 have hend := hR.put i true
 have hk : Keeps [] w w1 := Keeps.ofGrownNone hgr
 have hk2 : Keeps [] w (w1.setCell ⟨w.heap.size, i, none⟩ (.bool true)) := keepsM hk ((Keeps.refl [w.heap.size] w1).setCell (p := ⟨w.heap.size, i, none⟩) (by simp) _) (by intro x hx; simp at hx; omega)
 clear hown hR hgr hk
 go_wp2_with fail
 go_ret
 exact ⟨_, rfl, hend.ext (fun j _ => by by_cases e : j = i <;> simp [e]), hk2, Nat.le_refl _⟩
end Go.Proofs.YtnfojonmohijpaaGreatDoor
namespace Go.Proofs.YtnfojonmohijpaaGreatDoor
theorem NumL.total (s : ByteArray) (least : Nat) : ∀ (k n : Nat) (any : Bool) (i : Nat), s.size + 1 - i ≤ k → ∃ q, NumL s least n any i q := by
 intro k
 induction k with
 | zero =>
  intro n any i hk
  have hd : digB (at' s i) = false := by rw [at'_ge (by omega)]; rfl
  by_cases h : any = false ∨ n < least
  ·exact ⟨_, .short n any i hd h⟩
  ·cases any
   ·exact absurd (Or.inl rfl) h
   ·exact ⟨_, .done n i hd (by omega)⟩
 | succ k ih =>
  intro n any i hk
  cases hd : digB (at' s i) with
  | false =>
   by_cases h : any = false ∨ n < least
   ·exact ⟨_, .short n any i hd h⟩
   ·cases any
    ·exact absurd (Or.inl rfl) h
    ·exact ⟨_, .done n i hd (by omega)⟩
  | true =>
   have hb : 48 ≤ at' s i ∧ at' s i ≤ 57 := by simp [digB] at hd; exact hd
   have hlt := at'_nn (s := s) (i := i) (by omega)
   have hx : (((10 * n + (at' s i - 48).toNat : Nat)) : Int) = 10 * n + (at' s i - 48) := by omega
   by_cases h : 10 * n + (at' s i - 48).toNat ≤ 5 ∧ (10 * n + (at' s i - 48).toNat = 0 ∨ least ≤ 10 * n + (at' s i - 48).toNat)
   ·obtain ⟨q, hq⟩ := ih (10 * n + (at' s i - 48).toNat) true (i + 1) (by omega)
    exact ⟨q, .dig n _ any i q hd hx h.1 h.2 hq⟩
   ·exact ⟨_, .big n _ any i hd hx h⟩
theorem NumL.some (s : ByteArray) (least n : Nat) (any : Bool) (i : Nat) : ∃ q, NumL s least n any i q := NumL.total s least _ n any i (Nat.le_refl _)
theorem RepR.some (s : ByteArray) (j : Nat) : ∃ q, RepR s j q := by
 by_cases h1 : at' s j = 42
 ·exact ⟨_, Or.inr (Or.inl ⟨h1, rfl⟩)⟩
 by_cases h2 : at' s j = 43
 ·exact ⟨_, Or.inr (Or.inr (Or.inl ⟨h2, rfl⟩))⟩
 by_cases h3 : at' s j = 63
 ·exact ⟨_, Or.inr (Or.inr (Or.inr (Or.inl ⟨h3, rfl⟩)))⟩
 by_cases h4 : at' s j = 123
 ·obtain ⟨q1, hq1⟩ := NumL.some s 0 0 false (j + 1)
  have : ∃ q, Rep2 s q1 q := by
   cases q1 with
   | bad k => exact ⟨_, rfl⟩
   | ok m k =>
    by_cases h5 : at' s k = 44
    ·by_cases h6 : at' s (k + 1) = 125
     ·exact ⟨_, Or.inl ⟨h5, h6, rfl⟩⟩
     ·obtain ⟨q2, hq2⟩ := NumL.some s m 0 false (k + 1)
      cases q2 with
      | bad l => exact ⟨_, Or.inr (Or.inl ⟨h5, h6, _, hq2, rfl⟩)⟩
      | ok n l => exact ⟨_, Or.inr (Or.inl ⟨h5, h6, _, hq2, rfl⟩)⟩
    ·exact ⟨_, Or.inr (Or.inr ⟨h5, rfl⟩)⟩
  obtain ⟨q, hq⟩ := this
  exact ⟨q, Or.inr (Or.inr (Or.inr (Or.inr ⟨h4, q1, hq1, hq⟩)))⟩
 ·exact ⟨_, Or.inl ⟨h1, h2, h3, h4, rfl⟩⟩
end Go.Proofs.YtnfojonmohijpaaGreatDoor
namespace Go.Proofs.YtnfojonmohijpaaGreatDoor
open Go.RowKit
theorem blitL : ∀ (l A B C : List Value) (off k : Nat), B.length = l.length → off + k = A.length →
    List.foldl (fun (cs : Array Value) (p : Value × Nat) => cs.setIfInBounds (off + p.2) p.1) (A ++ B ++ C).toArray (l.zipIdx k) = (A ++ l ++ C).toArray := by
 intro l
 induction l with
 | nil =>
  intro A B C off k hB _
  have : B = [] := List.length_eq_zero_iff.1 (by simpa using hB)
  subst this
  rfl
 | cons c l ih =>
  intro A B C off k hB hk
  cases B with
  | nil => simp at hB
  | cons b B =>
   rw [List.zipIdx_cons, List.foldl_cons]
   have e : (A ++ b :: B ++ C).toArray.setIfInBounds (off + k) c = ((A ++ [c]) ++ B ++ C).toArray := by
    rw [hk]
    apply Array.ext'
    simp
   show List.foldl _ ((A ++ b :: B ++ C).toArray.setIfInBounds (off + k) c) _ = _
   rw [e, ih (A ++ [c]) B C off (k + 1) (by simpa using hB) (by simp; omega)]
   simp
theorem blit (vs : Array Value) (A B C : List Value) (h : B.length = vs.size) :
    vs.zipIdx.foldl (fun (cs : Array Value) (p : Value × Nat) => cs.setIfInBounds (A.length + p.2) p.1) (A ++ B ++ C).toArray = (A ++ vs.toList ++ C).toArray := by
 have e := blitL vs.toList A B C A.length 0 (by simpa using h) (by omega)
 rw [← e, ← Array.foldl_toList, Array.toList_zipIdx]
theorem fill_one (place : Nat → Option (Nat × Nat)) (i : Nat) (v : Value) (rest : List (Nat × Value)) (A B C : List Value) (hp : place i = some (A.length, B.length)) (hv : v.cells.size = B.length) :
    Instr.fill place (A ++ B ++ C).toArray ((i, v) :: rest) = Instr.fill place (A ++ v.cells.toList ++ C).toArray rest := by
 conv => lhs; unfold Instr.fill
 rw [hp]
 have h1 : (decide (v.cells.size ≠ B.length) || decide (A.length + v.cells.size > (A ++ B ++ C).toArray.size)) = false := by
  rw [hv]; simp
 show (if (decide (v.cells.size ≠ B.length) || decide (A.length + v.cells.size > (A ++ B ++ C).toArray.size)) = true then none else _) = _
 rw [h1, if_neg (by simp)]
 have := blit v.cells A B C hv.symm
 exact congrArg (fun x => Instr.fill place x rest) this
def sc (k : Value) (v : Value) (f : Nat → Bool) : List Value := k :: v :: (hcells f).toList
theorem sc_len (k v : Value) (f : Nat → Bool) : (sc k v f).length = 258 := by simp [sc, hcells_size]
def pz : List Value := sc (.int .i64 0) (.slice none 0 0) (fun _ => false) ++ [Value.bool false, Value.int .i64 0, Value.int .i64 0]
theorem pz_len : pz.length = 261 := by simp [pz, sc_len]
def plS : Nat → Option (Nat × Nat) := fun i => (#[(0, 1), (1, 1), (2, 256)] : Array (Nat × Nat))[i]?
def plP : Nat → Option (Nat × Nat) := fun i => (#[(0, 258), (258, 3)] : Array (Nat × Nat))[i]?
theorem built_single (parts : List (Nat × Value)) : Tryz.prog.built 208 parts = Instr.fill plS (sc (.int .i64 0) (.slice none 0 0) fun _ => false).toArray parts := by kernel_rfl
theorem built_piece (parts : List (Nat × Value)) : Tryz.prog.built 212 parts = Instr.fill plP pz.toArray parts := by kernel_rfl
theorem infoPiece : (Tryz.prog.info? 212).map (fun i => (i.zero, i.size, i.bytes)) = some (some (.agg pz.toArray), 261, 312) := by kernel_rfl
theorem infoWay : (Tryz.prog.info? 204).map (fun i => (i.zero, i.size, i.bytes)) = some (some (.slice none 0 0), 1, 24) := by kernel_rfl
theorem piece_row : ((Array.range (1 * 261)).map (pz.toArray[· % 261]!)) = pz.toArray := by kernel_rfl
theorem piece_fill (pc : List Value) (h : pc.length = 261) : Instr.fill (fun i => some (i * 261, 261)) ((Array.range (1 * 261)).map (pz.toArray[· % 261]!)) [(0, .agg pc.toArray)] = some pc.toArray := by
 rw [piece_row]
 have h1 := fill_one (fun i => some (i * 261, 261)) 0 (.agg pc.toArray) [] [] pz [] (by simp [pz_len]) (by simp [pz_len, Value.cells, h])
 simp only [List.append_nil, List.nil_append, Value.cells] at h1
 exact h1.trans rfl
theorem way_row : ((Array.range (1 * 1)).map ((#[Value.slice none 0 0] : Array Value)[· % 1]!)) = #[Value.slice none 0 0] := by kernel_rfl
theorem way_fill (v : Value) (hv : v.cells = #[v]) : Instr.fill (fun i => some (i * 1, 1)) ((Array.range (1 * 1)).map ((#[Value.slice none 0 0] : Array Value)[· % 1]!)) [(0, v)] = some #[v] := by
 rw [way_row]
 have h1 := fill_one (fun i => some (i * 1, 1)) 0 v [] [] [.slice none 0 0] [] rfl (by rw [hv]; rfl)
 rw [hv] at h1
 exact h1.trans rfl
theorem alloc_single (w : World) : (Instr.alloc 208 true (.tuple #[])).run Tryz.prog w = .ok (.pointer (some ⟨w.heap.size, 0, none⟩)) (w.alloc (.cells (sc (.int .i64 0) (.slice none 0 0) fun _ => false).toArray 208)) := by kernel_rfl
end Go.Proofs.YtnfojonmohijpaaGreatDoor
namespace Go.Proofs.YtnfojonmohijpaaGreatDoor
open Go.RowKit
inductive Kr where
 | single | piece | plist | way | wlist | ways
def repC : Option (Nat × Int) → List Value
 | none => [.bool false, .int .i64 0, .int .i64 0]
 | some (m, n) => [.bool true, .int .i64 m, .int .i64 n]
theorem repC_len (o : Option (Nat × Int)) : (repC o).length = 3 := by cases o <;> rfl
def okRep : Option (Nat × Int) → Prop
 | none => True
 | some (m, n) => m ≤ 5 ∧ (n = -1 ∨ ∃ k : Nat, n = k ∧ k ≤ 5)
theorem RepR.okRep {s : ByteArray} {j k : Nat} {o : Option (Nat × Int)} (h : RepR s j (.ok o k)) : okRep o := by
 rcases h with ⟨a, b, c, d, e⟩ | ⟨a, e⟩ | ⟨a, e⟩ | ⟨a, e⟩ | ⟨a, q1, n, e⟩
 ·cases e; trivial
 ·cases e; exact ⟨by omega, Or.inl rfl⟩
 ·cases e; exact ⟨by omega, Or.inl rfl⟩
 ·cases e; exact ⟨by omega, Or.inr ⟨1, rfl, by omega⟩⟩
 ·cases q1 with
  | bad l => cases e
  | ok m l =>
   have hl := (n.ok m l rfl).2.2.1 (by omega)
   rcases e with ⟨a, b, e⟩ | ⟨a, b, q2, n', e⟩ | ⟨a, e⟩
   ·cases e; exact ⟨hl, Or.inl rfl⟩
   ·cases q2 with
    | bad x => cases e
    | ok y x =>
     have hx := (n'.ok y x rfl).2.2.1 (by omega)
     simp only [Rep3] at e
     by_cases h5 : at' s x = 125
     ·rw [if_pos h5] at e; cases e; exact ⟨hl, Or.inr ⟨y, rfl, hx⟩⟩
     ·rw [if_neg h5] at e; cases e
   ·by_cases h5 : at' s l = 125
    ·rw [if_pos h5] at e; cases e; exact ⟨hl, Or.inr ⟨m, rfl, hl⟩⟩
    ·rw [if_neg h5] at e; cases e
inductive Rep (w : World) (S : Nat → Prop) : Kr → Pat → List Value → Prop
 | set (f : Nat → Bool) : Rep w S .single (.set f) (sc (.int .i64 0) (.slice none 0 0) f)
 | grp (k : Nat) (x : Pat) (v : Value) : 0 < k → k ≤ 9 → Rep w S .ways x [v] → Rep w S .single (.grp k x) (sc (.int .i64 k) v fun _ => false)
 | piece (x : Pat) (o : Option (Nat × Int)) (cs : List Value) : okRep o → Rep w S .single x cs → Rep w S .piece (withRep x o) (cs ++ repC o)
 | pnil : Rep w S .plist .pnil []
 | pcons (x r : Pat) (cs ds : List Value) : Rep w S .piece x cs → Rep w S .plist r ds → Rep w S .plist (.pcons x r) (cs ++ ds)
 | way (x : Pat) (cs : List Value) (v : Value) (n : Nat) : Rep w S .plist x cs → w.ownsRow 0 212 261 v n cs → (∀ g, v.ownBlock = some g → S g) → Rep w S .way x [v]
 | wone (x : Pat) (v : Value) : Rep w S .way x [v] → Rep w S .wlist (.wone x) [v]
 | wcons (x r : Pat) (v : Value) (vs : List Value) : Rep w S .way x [v] → Rep w S .wlist r vs → Rep w S .wlist (.wcons x r) (v :: vs)
 | ways (x : Pat) (vs : List Value) (v : Value) (n : Nat) : Rep w S .wlist x vs → w.ownsRow 0 204 1 v n vs → (∀ g, v.ownBlock = some g → S g) → Rep w S .ways x [v]
theorem Rep.keep {w w' : World} {S : Nat → Prop} {L : List Nat} (hk : Keeps L w w') (hs : ∀ g, S g → g ∉ L) {k : Kr} {x : Pat} {cs : List Value} (h : Rep w S k x cs) : Rep w' S k x cs := by
 induction h with
 | set f => exact .set f
 | grp k x v h0 h9 _ ih => exact .grp k x v h0 h9 ih
 | piece x o cs ho _ ih => exact .piece x o cs ho ih
 | pnil => exact .pnil
 | pcons x r cs ds _ _ i1 i2 => exact .pcons x r cs ds i1 i2
 | way x cs v n _ ho hp ih => exact .way x cs v n ih (ho.keep hk fun g hg => hs g (hp g hg)) hp
 | wone x v _ ih => exact .wone x v ih
 | wcons x r v vs _ _ i1 i2 => exact .wcons x r v vs i1 i2
 | ways x vs v n _ ho hp ih => exact .ways x vs v n ih (ho.keep hk fun g hg => hs g (hp g hg)) hp
theorem Rep.mono {w : World} {S S' : Nat → Prop} (hs : ∀ g, S g → g < w.heap.size → S' g) {k : Kr} {x : Pat} {cs : List Value} (h : Rep w S k x cs) : Rep w S' k x cs := by
 have hb : ∀ {e : TypeId} {size : Nat} {v : Value} {n : Nat} {xs : List Value}, w.ownsRow 0 e size v n xs → (∀ g, v.ownBlock = some g → S g) → ∀ g, v.ownBlock = some g → S' g := fun ho hp g hg => hs g (hp g hg) (ho.lt g hg).2
 induction h with
 | set f => exact .set f
 | grp k x v h0 h9 _ ih => exact .grp k x v h0 h9 ih
 | piece x o cs ho _ ih => exact .piece x o cs ho ih
 | pnil => exact .pnil
 | pcons x r cs ds _ _ i1 i2 => exact .pcons x r cs ds i1 i2
 | way x cs v n _ ho hp ih => exact .way x cs v n ih ho (hb ho hp)
 | wone x v _ ih => exact .wone x v ih
 | wcons x r v vs _ _ i1 i2 => exact .wcons x r v vs i1 i2
 | ways x vs v n _ ho hp ih => exact .ways x vs v n ih ho (hb ho hp)
theorem ownsRow_one {w : World} {e : TypeId} {size : Nat} {v : Value} {n : Nat} {xs : List Value} (h : w.ownsRow 0 e size v n xs) : v.oneCell' = true ∧ v.cells = #[v] := by
 rcases h.2 with ⟨rfl, _⟩ | ⟨g, cap, cur, rfl, _⟩ <;> exact ⟨rfl, rfl⟩
theorem Rep.cells {w : World} {S : Nat → Prop} {k : Kr} {x : Pat} {cs : List Value} (h : Rep w S k x cs) :
    (∀ u ∈ cs, u.oneCell' = true) ∧ (match k with | .single => cs.length = 258 | .piece => cs.length = 261 | .way => ∃ v, cs = [v] ∧ v.cells = #[v] | .ways => ∃ v, cs = [v] ∧ v.cells = #[v] | _ => True) := by
 have hc : ∀ f : Nat → Bool, ∀ u ∈ (hcells f).toList, u.oneCell' = true := by
  intro f u hu
  rw [hcells, Array.toList_ofFn, List.mem_ofFn] at hu
  obtain ⟨i, rfl⟩ := hu
  rfl
 induction h with
 | set f =>
  refine ⟨?_, sc_len _ _ _⟩
  intro u hu
  simp only [sc, List.mem_cons] at hu
  rcases hu with rfl | rfl | hu
  ·rfl
  ·rfl
  ·exact hc f u hu
 | grp k x v _ _ _ ih =>
  refine ⟨?_, sc_len _ _ _⟩
  intro u hu
  simp only [sc, List.mem_cons] at hu
  rcases hu with rfl | rfl | hu
  ·rfl
  ·exact ih.1 _ (by simp)
  ·exact hc _ u hu
 | piece x o cs _ _ ih =>
  refine ⟨?_, ?_⟩
  ·intro u hu
   rcases List.mem_append.1 hu with hu | hu
   ·exact ih.1 u hu
   ·cases o with
    | none => simp [repC] at hu; rcases hu with rfl | rfl <;> rfl
    | some p => simp [repC] at hu; rcases hu with rfl | rfl | rfl <;> rfl
  ·have := ih.2
   simp only [List.length_append, repC_len] at this ⊢
   omega
 | pnil => exact ⟨by simp, trivial⟩
 | pcons x r cs ds _ _ i1 i2 =>
  refine ⟨?_, trivial⟩
  intro u hu
  rcases List.mem_append.1 hu with hu | hu
  ·exact i1.1 u hu
  ·exact i2.1 u hu
 | way x cs v n _ ho hp ih => exact ⟨by simpa using (ownsRow_one ho).1, v, rfl, (ownsRow_one ho).2⟩
 | wone x v _ ih => exact ⟨ih.1, trivial⟩
 | wcons x r v vs _ _ i1 i2 =>
  refine ⟨?_, trivial⟩
  intro u hu
  rcases List.mem_cons.1 hu with rfl | hu
  ·exact i1.1 _ (by simp)
  ·exact i2.1 u hu
 | ways x vs v n _ ho hp ih => exact ⟨by simpa using (ownsRow_one ho).1, v, rfl, (ownsRow_one ho).2⟩
end Go.Proofs.YtnfojonmohijpaaGreatDoor
namespace Go.Proofs.YtnfojonmohijpaaGreatDoor
open Go.RowKit
set_option maxRecDepth 100000 in
set_option maxHeartbeats 1000000 in
theorem escaped_prog (b : Nat) (p : QS) (least : Int) (w : World) (hp : QB w b p) (hs : p.s.size ≤ 60) (hl0 : 0 ≤ least) (hl1 : least ≤ 255) (h92 : p.cur = 92) :
    Calls Tryz.prog 250 #[.pointer (some ⟨b, 0, none⟩), .int .u8 least] w (PPost b p w (escS p.s least (p.ix + 1))) := by
 have hmf : ∀ (fn : Fn) (first cap : Array Value) (w : World), (Instr.makeFunc fn first cap).run Tryz.prog w = .ok (.func fn first cap) w := fun _ _ _ _ => rfl
 obtain ⟨hq0, hl, hk0, hne⟩ := boxed b p least w hp
 have hlt : p.ix < p.s.size := at'_nn (by show 0 ≤ p.cur; omega)
 have EX := fun w1 h => expect_ok b p 92 (by omega) w1 h hs h92
 clear h92
 go_enter Tryz.func250, Tryz.ntmps250
 go_wp2_with fail
 generalize (w.alloc (.cells #[.int .u8 least] 5)) = W at *
 generalize w.heap.size = lb at *
 refine (EX _ hq0).mono ?_
 rintro e w1 ⟨rfl, hq1, hk1⟩
 have hl2 := keep_cell_b hk1 hne hl
 go_wp2_with fail
 refine (skip_any b { p with ix := p.ix + 1 } 120 (by omega) _ hq1 hlt hs).mono ?_
 rintro e w2 ⟨rfl, hq2, hk2⟩
 have hl3 := keep_cell_b hk2 hne hl2
 have hkA : Keeps [b] w w2 := (hk0.trans hk1).trans hk2
 by_cases hx : at' p.s (p.ix + 1) = 120
 ·have hd : decide (QS.cur { p with ix := p.ix + 1 } = 120) = true := by simpa using (show QS.cur { p with ix := p.ix + 1 } = 120 from hx)
  have htk : QS.took { p with ix := p.ix + 1 } 120 = { p with ix := p.ix + 2 } := by unfold QS.took; rw [if_pos (show QS.cur { p with ix := p.ix + 1 } = 120 from hx)]
  rw [htk] at hq2
  have hlt2 : p.ix + 1 < p.s.size := at'_nn (by omega)
  have HE : Hid (escS p.s least (p.ix + 1) = hexPS p.s least (p.ix + 2)) := escS_x hx
  clear hx
  rw [hd]
  go_wp2_with fail
  refine (hexPair_prog b { p with ix := p.ix + 2 } least _ hq2 hs hlt2 hl0 hl1).mono ?_
  rintro e w3 ⟨hk3, hc3⟩
  cases hr : hexPS p.s least (p.ix + 2) with
  | ok v j =>
   rw [show hexPS (QS.s { p with ix := p.ix + 2 }) least (QS.ix { p with ix := p.ix + 2 }) = .ok v j from hr] at hc3
   obtain ⟨rfl, hq3⟩ := hc3
   have HE2 : Hid (escS p.s least (p.ix + 1) = .ok v j) := HE.out.trans hr
   clear hr
   go_wp2_with fail
   go_ret
   refine ⟨hkA.trans hk3, ?_⟩
   rw [HE2.out]
   exact ⟨rfl, hq3⟩
  | bad j =>
   rw [show hexPS (QS.s { p with ix := p.ix + 2 }) least (QS.ix { p with ix := p.ix + 2 }) = .bad j from hr] at hc3
   subst hc3
   simp only [fault]
   exact ⟨rfl, hkA.trans hk3, by rw [HE.out, hr]; rfl⟩
 ·have hd : decide (QS.cur { p with ix := p.ix + 1 } = 120) = false := by simpa using (show ¬ QS.cur { p with ix := p.ix + 1 } = 120 from hx)
  have htk : QS.took { p with ix := p.ix + 1 } 120 = { p with ix := p.ix + 1 } := by unfold QS.took; rw [if_neg (show ¬ QS.cur { p with ix := p.ix + 1 } = 120 from hx)]
  rw [htk] at hq2
  have HE : Hid (escS p.s least (p.ix + 1) = if 0 ≤ at' p.s (p.ix + 1) ∧ (!alnB (at' p.s (p.ix + 1)) && decide (least ≤ at' p.s (p.ix + 1))) = true then .ok (at' p.s (p.ix + 1)) (p.ix + 2) else .bad (p.ix + 1)) := by
   show escS p.s least (p.ix + 1) = _
   unfold escS
   rw [if_neg hx]
   by_cases hc : at' p.s (p.ix + 1) < 0 ∨ alnB (at' p.s (p.ix + 1)) = true ∨ at' p.s (p.ix + 1) < least
   ·rw [if_pos hc, if_neg]
    rintro ⟨a, bb⟩
    simp at bb
    rcases hc with h | h | h
    ·omega
    ·rw [h] at bb; cases bb.1
    ·omega
   ·rw [if_neg hc, if_pos]
    refine ⟨Int.not_lt.1 fun h => hc (Or.inl h), ?_⟩
    have h1 : alnB (at' p.s (p.ix + 1)) = false := Bool.eq_false_iff.2 fun h => hc (Or.inr (Or.inl h))
    have h2 : least ≤ at' p.s (p.ix + 1) := Int.not_lt.1 fun h => hc (Or.inr (Or.inr h))
    simp [h1, h2]
  clear hx
  rw [hd]
  go_wp2_with fail
  refine (take_may b { p with ix := p.ix + 1 } 277 _ _ _ hq2 hs hlt (fun h => may_esc1 hl3) (if 0 ≤ at' p.s (p.ix + 1) ∧ (!alnB (at' p.s (p.ix + 1)) && decide (least ≤ at' p.s (p.ix + 1))) = true then .ok (at' p.s (p.ix + 1)) (p.ix + 2) else .bad (p.ix + 1)) rfl).mono ?_
  rintro e w3 ⟨hk3, hc3⟩
  by_cases hc : 0 ≤ at' p.s (p.ix + 1) ∧ (!alnB (at' p.s (p.ix + 1)) && decide (least ≤ at' p.s (p.ix + 1))) = true
  ·rw [if_pos hc] at hc3
   obtain ⟨rfl, hq3⟩ := hc3
   have HE2 : Hid (escS p.s least (p.ix + 1) = .ok (at' p.s (p.ix + 1)) (p.ix + 2)) := by show escS p.s least (p.ix + 1) = _; rw [HE.out, if_pos hc]
   clear hc
   go_wp2_with fail
   go_ret
   refine ⟨hkA.trans hk3, ?_⟩
   rw [HE2.out]
   exact ⟨rfl, hq3⟩
  ·rw [if_neg hc] at hc3
   subst hc3
   simp only [fault]
   exact ⟨rfl, hkA.trans hk3, by rw [HE.out, if_neg hc]; rfl⟩
set_option maxRecDepth 100000 in
set_option maxHeartbeats 1000000 in
theorem inner_prog (b : Nat) (p : QS) (least : Int) (w : World) (hp : QB w b p) (hs : p.s.size ≤ 60) (hle : p.ix ≤ p.s.size) (hl0 : 0 ≤ least) (hl1 : least ≤ 255) :
    Calls Tryz.prog 290 #[.pointer (some ⟨b, 0, none⟩), .int .u8 least] w (PPost b p w (innS p.s least p.ix)) := by
 have hmf : ∀ (fn : Fn) (first cap : Array Value) (w : World), (Instr.makeFunc fn first cap).run Tryz.prog w = .ok (.func fn first cap) w := fun _ _ _ _ => rfl
 obtain ⟨hq0, hl, hk0, hne⟩ := boxed b p least w hp
 have hcb := at'_bd p.s p.ix
 go_enter Tryz.func290, Tryz.ntmps290
 go_wp2_with fail
 generalize (w.alloc (.cells #[.int .u8 least] 5)) = W at *
 generalize w.heap.size = lb at *
 refine (ahead_any b p 92 (by omega) _ hq0 hle hs).mono ?_
 rintro e w1 ⟨rfl, hq1, hk1⟩
 have hl2 := keep_cell hk1 hl
 have hkA : Keeps [b] w w1 := hk0.trans (hk1.mono (by simp))
 by_cases hx : at' p.s p.ix = 92
 ·have hd : decide (p.cur = 92) = true := by simpa using (show p.cur = 92 from hx)
  have HE : Hid (innS p.s least p.ix = escS p.s least (p.ix + 1)) := by show innS p.s least p.ix = _; unfold innS; rw [if_pos hx]
  have hcur : p.cur = 92 := hx
  have EC := fun w1 h => escaped_prog b p least w1 h hs hl0 hl1 hcur
  clear hx hcur
  rw [hd]
  go_wp2_with fail
  refine (EC _ hq1).mono ?_
  rintro e w3 ⟨hk3, hc3⟩
  cases hr : escS p.s least (p.ix + 1) with
  | ok v j =>
   rw [hr] at hc3
   obtain ⟨rfl, hq3⟩ := hc3
   have HE2 : Hid (innS p.s least p.ix = .ok v j) := HE.out.trans hr
   clear hr
   go_wp2_with fail
   go_ret
   refine ⟨hkA.trans hk3, ?_⟩
   rw [HE2.out]
   exact ⟨rfl, hq3⟩
  | bad j =>
   rw [hr] at hc3
   subst hc3
   simp only [fault]
   exact ⟨rfl, hkA.trans hk3, by rw [HE.out, hr]; rfl⟩
 ·have hd : decide (p.cur = 92) = false := by simpa using (show ¬ p.cur = 92 from hx)
  have HE : Hid (innS p.s least p.ix = if 0 ≤ at' p.s p.ix ∧ (!decide (at' p.s p.ix = 91 ∨ at' p.s p.ix = 93 ∨ at' p.s p.ix = 45 ∨ at' p.s p.ix = 94) && decide (least ≤ at' p.s p.ix)) = true then .ok (at' p.s p.ix) (p.ix + 1) else .bad p.ix) := by
   show innS p.s least p.ix = _
   unfold innS
   rw [if_neg hx]
   by_cases hc : at' p.s p.ix < 0 ∨ at' p.s p.ix = 91 ∨ at' p.s p.ix = 93 ∨ at' p.s p.ix = 45 ∨ at' p.s p.ix = 94 ∨ at' p.s p.ix < least
   ·rw [if_pos hc, if_neg]
    rintro ⟨a, bb⟩
    simp at bb
    omega
   ·rw [if_neg hc, if_pos]
    refine ⟨by omega, ?_⟩
    have h1 : ¬ (at' p.s p.ix = 91 ∨ at' p.s p.ix = 93 ∨ at' p.s p.ix = 45 ∨ at' p.s p.ix = 94) := by omega
    have h2 : least ≤ at' p.s p.ix := by omega
    simp only [decide_eq_false h1, decide_eq_true h2]; rfl
  clear hx
  rw [hd]
  go_wp2_with fail
  refine (take_may b p 300 _ _ _ hq1 hs hle (fun h => may_inn1 h hcb.2 hl2) (if 0 ≤ at' p.s p.ix ∧ (!decide (at' p.s p.ix = 91 ∨ at' p.s p.ix = 93 ∨ at' p.s p.ix = 45 ∨ at' p.s p.ix = 94) && decide (least ≤ at' p.s p.ix)) = true then .ok (at' p.s p.ix) (p.ix + 1) else .bad p.ix) rfl).mono ?_
  rintro e w3 ⟨hk3, hc3⟩
  by_cases hc : 0 ≤ at' p.s p.ix ∧ (!decide (at' p.s p.ix = 91 ∨ at' p.s p.ix = 93 ∨ at' p.s p.ix = 45 ∨ at' p.s p.ix = 94) && decide (least ≤ at' p.s p.ix)) = true
  ·rw [if_pos hc] at hc3
   obtain ⟨rfl, hq3⟩ := hc3
   have HE2 : Hid (innS p.s least p.ix = .ok (at' p.s p.ix) (p.ix + 1)) := by show innS p.s least p.ix = _; rw [HE.out, if_pos hc]
   clear hc
   go_wp2_with fail
   go_ret
   refine ⟨hkA.trans hk3, ?_⟩
   rw [HE2.out]
   exact ⟨rfl, hq3⟩
  ·rw [if_neg hc] at hc3
   subst hc3
   simp only [fault]
   exact ⟨rfl, hkA.trans hk3, by rw [HE.out, if_neg hc]; rfl⟩
end Go.Proofs.YtnfojonmohijpaaGreatDoor
