/-
  DERIVED. Values of many cells put together: a single, a piece, a slice of one piece. No conditions but the numbers of cells.
-/
import Derived.Test.YtnfojonmohijpaaGreatDoorJRE
import Derived.Test.YtnfojonmohijpaaGreatDoorJSpec
import Derived.Laws.Rows
import Derived.Laws.Tables
import Derived.KernelRfl
import Derived.Test.YtnfojonmohijpaaGreatDoorJRK
set_option linter.unusedSimpArgs false
set_option linter.unusedVariables false
namespace Go.Proofs.YtnfojonmohijpaaGreatDoor
open Go.RowKit

theorem blitL : ∀ (l A B C : List Value) (off k : Nat), B.length = l.length → off + k = A.length →
    List.foldl (fun (cs : Array Value) (p : Value × Nat) => cs.setIfInBounds (off + p.2) p.1) (A ++ B ++ C).toArray (l.zipIdx k) = (A ++ l ++ C).toArray := by
  intro l
  induction l with
  | nil =>
    intro A B C off k hB _
    have : B = [] := List.length_eq_zero_iff.1 (by simpa using hB)
    subst this
    rfl
  | cons c l ih =>
    intro A B C off k hB hk
    cases B with
    | nil => simp at hB
    | cons b B =>
      rw [List.zipIdx_cons, List.foldl_cons]
      have e : (A ++ b :: B ++ C).toArray.setIfInBounds (off + k) c = ((A ++ [c]) ++ B ++ C).toArray := by
        rw [hk]
        apply Array.ext'
        simp
      show List.foldl _ ((A ++ b :: B ++ C).toArray.setIfInBounds (off + k) c) _ = _
      rw [e, ih (A ++ [c]) B C off (k + 1) (by simpa using hB) (by simp; omega)]
      simp

theorem blit (vs : Array Value) (A B C : List Value) (h : B.length = vs.size) :
    vs.zipIdx.foldl (fun (cs : Array Value) (p : Value × Nat) => cs.setIfInBounds (A.length + p.2) p.1) (A ++ B ++ C).toArray = (A ++ vs.toList ++ C).toArray := by
  have e := blitL vs.toList A B C A.length 0 (by simpa using h) (by omega)
  rw [← e, ← Array.foldl_toList, Array.toList_zipIdx]

/-- One part laid. -/
theorem fill_one (place : Nat → Option (Nat × Nat)) (i : Nat) (v : Value) (rest : List (Nat × Value)) (A B C : List Value) (hp : place i = some (A.length, B.length)) (hv : v.cells.size = B.length) :
    Instr.fill place (A ++ B ++ C).toArray ((i, v) :: rest) = Instr.fill place (A ++ v.cells.toList ++ C).toArray rest := by
  conv => lhs; unfold Instr.fill
  rw [hp]
  have h1 : (decide (v.cells.size ≠ B.length) || decide (A.length + v.cells.size > (A ++ B ++ C).toArray.size)) = false := by
    rw [hv]; simp
  show (if (decide (v.cells.size ≠ B.length) || decide (A.length + v.cells.size > (A ++ B ++ C).toArray.size)) = true then none else _) = _
  rw [h1, if_neg (by simp)]
  have := blit v.cells A B C hv.symm
  exact congrArg (fun x => Instr.fill place x rest) this

/-- The cells of a single of these: the group's number, its ways, its set. -/
def sc (k : Value) (v : Value) (f : Nat → Bool) : List Value := k :: v :: (hcells f).toList
theorem sc_len (k v : Value) (f : Nat → Bool) : (sc k v f).length = 258 := by simp [sc, hcells_size]

def pz : List Value := sc (.int .i64 0) (.slice none 0 0) (fun _ => false) ++ [Value.bool false, Value.int .i64 0, Value.int .i64 0]
theorem pz_len : pz.length = 261 := by simp [pz, sc_len]

def plS : Nat → Option (Nat × Nat) := fun i => (#[(0, 1), (1, 1), (2, 256)] : Array (Nat × Nat))[i]?
def plP : Nat → Option (Nat × Nat) := fun i => (#[(0, 258), (258, 3)] : Array (Nat × Nat))[i]?

theorem built_single (parts : List (Nat × Value)) : Tryz.prog.built 208 parts = Instr.fill plS (sc (.int .i64 0) (.slice none 0 0) fun _ => false).toArray parts := by kernel_rfl
theorem built_piece (parts : List (Nat × Value)) : Tryz.prog.built 212 parts = Instr.fill plP pz.toArray parts := by kernel_rfl
theorem infoPiece : (Tryz.prog.info? 212).map (fun i => (i.zero, i.size, i.bytes)) = some (some (.agg pz.toArray), 261, 312) := by kernel_rfl
theorem infoWay : (Tryz.prog.info? 204).map (fun i => (i.zero, i.size, i.bytes)) = some (some (.slice none 0 0), 1, 24) := by kernel_rfl

theorem build_set (w : World) (f : Nat → Bool) : (Instr.build 208 #[(2, .agg (hcells f))]).run Tryz.prog w = .ok (.agg (sc (.int .i64 0) (.slice none 0 0) f).toArray) w := by
  refine run_build w _ _ _ ((built_single _).trans ?_)
  have := fill_one plS 2 (.agg (hcells f)) [] [.int .i64 0, .slice none 0 0] (hcells fun _ => false).toList [] (by simp [plS, hcells_size]) (by simp [Value.cells, hcells_size])
  simp only [List.append_nil] at this
  exact this.trans rfl
theorem build_grp (w : World) (k : Int) (v : Value) (hv : v.cells = #[v]) : (Instr.build 208 #[(0, .int .i64 k), (1, v)]).run Tryz.prog w = .ok (.agg (sc (.int .i64 k) v fun _ => false).toArray) w := by
  refine run_build w _ _ _ ((built_single _).trans ?_)
  have h1 := fill_one plS 0 (.int .i64 k) [(1, v)] [] [.int .i64 0] (.slice none 0 0 :: (hcells fun _ => false).toList) rfl rfl
  have h2 := fill_one plS 1 v [] [.int .i64 k] [.slice none 0 0] (hcells fun _ => false).toList rfl (by rw [hv]; rfl)
  rw [hv] at h2
  exact h1.trans (h2.trans rfl)
theorem build_piece (w : World) (cs rc : List Value) (h1 : cs.length = 258) (h2 : rc.length = 3) : (Instr.build 212 #[(0, .agg cs.toArray), (1, .agg rc.toArray)]).run Tryz.prog w = .ok (.agg (cs ++ rc).toArray) w := by
  refine run_build w _ _ _ ((built_piece _).trans ?_)
  have e1 := fill_one plP 0 (.agg cs.toArray) [(1, .agg rc.toArray)] [] (sc (.int .i64 0) (.slice none 0 0) (fun _ => false)) [Value.bool false, Value.int .i64 0, Value.int .i64 0] (by rw [sc_len]; rfl) (by rw [sc_len]; simpa [Value.cells] using h1)
  have e2 := fill_one plP 1 (.agg rc.toArray) [] cs [.bool false, .int .i64 0, .int .i64 0] [] (by rw [h1]; rfl) (by simpa [Value.cells] using h2)
  simp only [List.append_nil, List.nil_append, Value.cells] at e1 e2
  exact e1.trans (e2.trans rfl)

theorem piece_row : ((Array.range (1 * 261)).map (pz.toArray[· % 261]!)) = pz.toArray := by kernel_rfl
theorem piece_fill (pc : List Value) (h : pc.length = 261) : Instr.fill (fun i => some (i * 261, 261)) ((Array.range (1 * 261)).map (pz.toArray[· % 261]!)) [(0, .agg pc.toArray)] = some pc.toArray := by
  rw [piece_row]
  have h1 := fill_one (fun i => some (i * 261, 261)) 0 (.agg pc.toArray) [] [] pz [] (by simp [pz_len]) (by simp [pz_len, Value.cells, h])
  simp only [List.append_nil, List.nil_append, Value.cells] at h1
  exact h1.trans rfl
theorem way_row : ((Array.range (1 * 1)).map ((#[Value.slice none 0 0] : Array Value)[· % 1]!)) = #[Value.slice none 0 0] := by kernel_rfl
theorem way_fill (v : Value) (hv : v.cells = #[v]) : Instr.fill (fun i => some (i * 1, 1)) ((Array.range (1 * 1)).map ((#[Value.slice none 0 0] : Array Value)[· % 1]!)) [(0, v)] = some #[v] := by
  rw [way_row]
  have h1 := fill_one (fun i => some (i * 1, 1)) 0 v [] [] [.slice none 0 0] [] rfl (by rw [hv]; rfl)
  rw [hv] at h1
  exact h1.trans rfl
theorem alloc_single (w : World) : (Instr.alloc 208 true (.tuple #[])).run Tryz.prog w = .ok (.pointer (some ⟨w.heap.size, 0, none⟩)) (w.alloc (.cells (sc (.int .i64 0) (.slice none 0 0) fun _ => false).toArray 208)) := by kernel_rfl
end Go.Proofs.YtnfojonmohijpaaGreatDoor

/-
  DERIVED. How the program lays a pattern that has been read: singles, pieces, ways as slices of cells. No conditions.
-/
namespace Go.Proofs.YtnfojonmohijpaaGreatDoor
open Go.RowKit

inductive Kr where
  | single | piece | plist | way | wlist | ways

/-- The cells of a repeat. -/
def repC : Option (Nat × Int) → List Value
  | none => [.bool false, .int .i64 0, .int .i64 0]
  | some (m, n) => [.bool true, .int .i64 m, .int .i64 n]
theorem repC_len (o : Option (Nat × Int)) : (repC o).length = 3 := by cases o <;> rfl

/-- A repeat's numbers are within their bounds. -/
def okRep : Option (Nat × Int) → Prop
  | none => True
  | some (m, n) => m ≤ 5 ∧ (n = -1 ∨ ∃ k : Nat, n = k ∧ k ≤ 5)
theorem RepR.okRep {s : ByteArray} {j k : Nat} {o : Option (Nat × Int)} (h : RepR s j (.ok o k)) : okRep o := by
  rcases h with ⟨a, b, c, d, e⟩ | ⟨a, e⟩ | ⟨a, e⟩ | ⟨a, e⟩ | ⟨a, q1, n, e⟩
  · cases e; trivial
  · cases e; exact ⟨by omega, Or.inl rfl⟩
  · cases e; exact ⟨by omega, Or.inl rfl⟩
  · cases e; exact ⟨by omega, Or.inr ⟨1, rfl, by omega⟩⟩
  · cases q1 with
    | bad l => cases e
    | ok m l =>
      have hl := (n.ok m l rfl).2.2.1 (by omega)
      rcases e with ⟨a, b, e⟩ | ⟨a, b, q2, n', e⟩ | ⟨a, e⟩
      · cases e; exact ⟨hl, Or.inl rfl⟩
      · cases q2 with
        | bad x => cases e
        | ok y x =>
          have hx := (n'.ok y x rfl).2.2.1 (by omega)
          simp only [Rep3] at e
          by_cases h5 : at' s x = 125
          · rw [if_pos h5] at e; cases e; exact ⟨hl, Or.inr ⟨y, rfl, hx⟩⟩
          · rw [if_neg h5] at e; cases e
      · by_cases h5 : at' s l = 125
        · rw [if_pos h5] at e; cases e; exact ⟨hl, Or.inr ⟨m, rfl, hl⟩⟩
        · rw [if_neg h5] at e; cases e

/-- A pattern, or a part of one, lies in these cells; all blocks that it reaches are of S. -/
inductive Rep (w : World) (S : Nat → Prop) : Kr → Pat → List Value → Prop
  | set (f : Nat → Bool) : Rep w S .single (.set f) (sc (.int .i64 0) (.slice none 0 0) f)
  | grp (k : Nat) (x : Pat) (v : Value) : 0 < k → k ≤ 9 → Rep w S .ways x [v] → Rep w S .single (.grp k x) (sc (.int .i64 k) v fun _ => false)
  | piece (x : Pat) (o : Option (Nat × Int)) (cs : List Value) : okRep o → Rep w S .single x cs → Rep w S .piece (withRep x o) (cs ++ repC o)
  | pnil : Rep w S .plist .pnil []
  | pcons (x r : Pat) (cs ds : List Value) : Rep w S .piece x cs → Rep w S .plist r ds → Rep w S .plist (.pcons x r) (cs ++ ds)
  | way (x : Pat) (cs : List Value) (v : Value) (n : Nat) : Rep w S .plist x cs → w.ownsRow 0 212 261 v n cs → (∀ g, v.ownBlock = some g → S g) → Rep w S .way x [v]
  | wone (x : Pat) (v : Value) : Rep w S .way x [v] → Rep w S .wlist (.wone x) [v]
  | wcons (x r : Pat) (v : Value) (vs : List Value) : Rep w S .way x [v] → Rep w S .wlist r vs → Rep w S .wlist (.wcons x r) (v :: vs)
  | ways (x : Pat) (vs : List Value) (v : Value) (n : Nat) : Rep w S .wlist x vs → w.ownsRow 0 204 1 v n vs → (∀ g, v.ownBlock = some g → S g) → Rep w S .ways x [v]

theorem Rep.keep {w w' : World} {S : Nat → Prop} {L : List Nat} (hk : Keeps L w w') (hs : ∀ g, S g → g ∉ L) {k : Kr} {x : Pat} {cs : List Value} (h : Rep w S k x cs) : Rep w' S k x cs := by
  induction h with
  | set f => exact .set f
  | grp k x v h0 h9 _ ih => exact .grp k x v h0 h9 ih
  | piece x o cs ho _ ih => exact .piece x o cs ho ih
  | pnil => exact .pnil
  | pcons x r cs ds _ _ i1 i2 => exact .pcons x r cs ds i1 i2
  | way x cs v n _ ho hp ih => exact .way x cs v n ih (ho.keep hk fun g hg => hs g (hp g hg)) hp
  | wone x v _ ih => exact .wone x v ih
  | wcons x r v vs _ _ i1 i2 => exact .wcons x r v vs i1 i2
  | ways x vs v n _ ho hp ih => exact .ways x vs v n ih (ho.keep hk fun g hg => hs g (hp g hg)) hp

theorem Rep.mono {w : World} {S S' : Nat → Prop} (hs : ∀ g, S g → g < w.heap.size → S' g) {k : Kr} {x : Pat} {cs : List Value} (h : Rep w S k x cs) : Rep w S' k x cs := by
  have hb : ∀ {e : TypeId} {size : Nat} {v : Value} {n : Nat} {xs : List Value}, w.ownsRow 0 e size v n xs → (∀ g, v.ownBlock = some g → S g) → ∀ g, v.ownBlock = some g → S' g := fun ho hp g hg => hs g (hp g hg) (ho.lt g hg).2
  induction h with
  | set f => exact .set f
  | grp k x v h0 h9 _ ih => exact .grp k x v h0 h9 ih
  | piece x o cs ho _ ih => exact .piece x o cs ho ih
  | pnil => exact .pnil
  | pcons x r cs ds _ _ i1 i2 => exact .pcons x r cs ds i1 i2
  | way x cs v n _ ho hp ih => exact .way x cs v n ih ho (hb ho hp)
  | wone x v _ ih => exact .wone x v ih
  | wcons x r v vs _ _ i1 i2 => exact .wcons x r v vs i1 i2
  | ways x vs v n _ ho hp ih => exact .ways x vs v n ih ho (hb ho hp)

/-- The cells of a single are 258, those of a piece 261, of a way or of ways one; each is one cell. -/
theorem ownsRow_one {w : World} {e : TypeId} {size : Nat} {v : Value} {n : Nat} {xs : List Value} (h : w.ownsRow 0 e size v n xs) : v.oneCell' = true ∧ v.cells = #[v] := by
  rcases h.2 with ⟨rfl, _⟩ | ⟨g, cap, cur, rfl, _⟩ <;> exact ⟨rfl, rfl⟩
theorem Rep.cells {w : World} {S : Nat → Prop} {k : Kr} {x : Pat} {cs : List Value} (h : Rep w S k x cs) :
    (∀ u ∈ cs, u.oneCell' = true) ∧ (match k with | .single => cs.length = 258 | .piece => cs.length = 261 | .way => ∃ v, cs = [v] ∧ v.cells = #[v] | .ways => ∃ v, cs = [v] ∧ v.cells = #[v] | _ => True) := by
  have hc : ∀ f : Nat → Bool, ∀ u ∈ (hcells f).toList, u.oneCell' = true := by
    intro f u hu
    rw [hcells, Array.toList_ofFn, List.mem_ofFn] at hu
    obtain ⟨i, rfl⟩ := hu
    rfl
  induction h with
  | set f =>
    refine ⟨?_, sc_len _ _ _⟩
    intro u hu
    simp only [sc, List.mem_cons] at hu
    rcases hu with rfl | rfl | hu
    · rfl
    · rfl
    · exact hc f u hu
  | grp k x v _ _ _ ih =>
    refine ⟨?_, sc_len _ _ _⟩
    intro u hu
    simp only [sc, List.mem_cons] at hu
    rcases hu with rfl | rfl | hu
    · rfl
    · exact ih.1 _ (by simp)
    · exact hc _ u hu
  | piece x o cs _ _ ih =>
    refine ⟨?_, ?_⟩
    · intro u hu
      rcases List.mem_append.1 hu with hu | hu
      · exact ih.1 u hu
      · cases o with
        | none => simp [repC] at hu; rcases hu with rfl | rfl <;> rfl
        | some p => simp [repC] at hu; rcases hu with rfl | rfl | rfl <;> rfl
    · have := ih.2
      simp only [List.length_append, repC_len] at this ⊢
      omega
  | pnil => exact ⟨by simp, trivial⟩
  | pcons x r cs ds _ _ i1 i2 =>
    refine ⟨?_, trivial⟩
    intro u hu
    rcases List.mem_append.1 hu with hu | hu
    · exact i1.1 u hu
    · exact i2.1 u hu
  | way x cs v n _ ho hp ih => exact ⟨by simpa using (ownsRow_one ho).1, v, rfl, (ownsRow_one ho).2⟩
  | wone x v _ ih => exact ⟨ih.1, trivial⟩
  | wcons x r v vs _ _ i1 i2 =>
    refine ⟨?_, trivial⟩
    intro u hu
    rcases List.mem_cons.1 hu with rfl | hu
    · exact i1.1 _ (by simp)
    · exact i2.1 u hu
  | ways x vs v n _ ho hp ih => exact ⟨by simpa using (ownsRow_one ho).1, v, rfl, (ownsRow_one ho).2⟩
end Go.Proofs.YtnfojonmohijpaaGreatDoor
