/-
  DERIVED. The program's rows of sets of places, by the stretches that they say; bytesOf. Conditions: the text is at most 100 bytes long.
-/
import Derived.Test.YtnfojonmohijpaaGreatDoorJRU
import Derived.Test.YtnfojonmohijpaaGreatDoorJSpec
import Derived.Test.YtnfojonmohijpaaGreatDoorJRA
import Derived.Laws.Rows
import Derived.Laws.Tables
import Derived.KernelRfl
import Derived.Test.YtnfojonmohijpaaGreatDoorJRI
import Derived.Test.YtnfojonmohijpaaGreatDoorJPA
import Derived.Test.YtnfojonmohijpaaGreatDoorJRR
import Derived.Laws.BytesString
set_option linter.unusedSimpArgs false
set_option linter.unusedVariables false
namespace Go.Proofs.YtnfojonmohijpaaGreatDoor
open Go.RowKit
def MP (w : World) (S : Nat → Prop) (N : Nat) (v : Value) (R : Nat → Nat → Prop) : Prop :=
 ∃ g c f, v = .slice (some ⟨g, 0, none⟩) N c ∧ MV w (.slice (some ⟨g, 0, none⟩) N c) N f ∧ S g ∧ ∀ i j, i < N → j < N → (f i j = true ↔ R i j)
theorem MP.keep {w w' : World} {S : Nat → Prop} {L : List Nat} {N : Nat} {v : Value} {R : Nat → Nat → Prop} (h : MP w S N v R) (hk : Keeps L w w') (hs : ∀ g, S g → g ∉ L) : MP w' S N v R := by
 obtain ⟨g, c, f, e, hm, hg, hr⟩ := h
 exact ⟨g, c, f, e, hm.keep hk (fun x hx => by simp only [Value.ownBlock, Option.some.injEq] at hx; subst hx; exact hs _ hg), hg, hr⟩
theorem MP.mono {w : World} {S S' : Nat → Prop} {N : Nat} {v : Value} {R : Nat → Nat → Prop} (h : MP w S N v R) (hs : ∀ g, S g → g < w.heap.size → S' g) : MP w S' N v R := by
 obtain ⟨g, c, f, e, hm, hg, hr⟩ := h
 exact ⟨g, c, f, e, hm, hs g hg (World.ownsRow.lt hm g rfl).2, hr⟩
theorem MP.congr {w : World} {S : Nat → Prop} {N : Nat} {v : Value} {R R' : Nat → Nat → Prop} (h : MP w S N v R) (e : ∀ i j, i < N → j < N → (R i j ↔ R' i j)) : MP w S N v R' := by
 obtain ⟨g, c, f, e', hm, hg, hr⟩ := h
 exact ⟨g, c, f, e', hm, hg, fun i j hi hj => (hr i j hi hj).trans (e i j hi hj)⟩
theorem MP.one {w : World} {S : Nat → Prop} {N : Nat} {v : Value} {R : Nat → Nat → Prop} (h : MP w S N v R) : v.oneCell' = true ∧ v.cells = #[v] := by
 obtain ⟨g, c, f, rfl, _⟩ := h
 exact ⟨rfl, rfl⟩
def NewMP (w : World) (N : Nat) (R : Nat → Nat → Prop) (e : Ending) (w' : World) : Prop := ∃ v, e = .returned v ∧ MP w' (fun g => w.heap.size ≤ g) N v R ∧ Keeps [] w w'
theorem NewMap.toMP {w w' : World} {N : Nat} {f : Nat → Nat → Bool} {R : Nat → Nat → Prop} {e : Ending} (h : NewMap w N f e w') (hr : ∀ i j, i < N → j < N → (f i j = true ↔ R i j)) : NewMP w N R e w' := by
 obtain ⟨g, rfl, hm, hk, hg⟩ := h
 exact ⟨_, rfl, ⟨g, N, f, rfl, hm, hg, hr⟩, hk⟩
theorem none_mp (n N : Nat) (HN : Hid (N = n + 1)) (hn : n ≤ 100) (w : World) : Calls Tryz.prog 124 #[.int .i64 n] w (NewMP w N fun _ _ => False) := (none_any n N HN hn w).mono fun e w' h => h.toMP fun i j _ _ => by simp
theorem empty_mp (n N : Nat) (HN : Hid (N = n + 1)) (hn : n ≤ 100) (w : World) : Calls Tryz.prog 172 #[.int .i64 n] w (NewMP w N fun i j => i = j) := (empty_any n N HN hn w).mono fun e w' h => h.toMP fun i j _ _ => by simp
theorem or_mp (N : Nat) (hN : N ≤ 101) {S1 S2 : Nat → Prop} {v1 v2 : Value} {R1 R2 : Nat → Nat → Prop} (w : World) (h1 : MP w S1 N v1 R1) (h2 : MP w S2 N v2 R2) : Calls Tryz.prog 126 #[v1, v2] w (NewMP w N fun i j => R1 i j ∨ R2 i j) := by
 obtain ⟨g1, c1, f1, rfl, m1, _, r1⟩ := h1
 obtain ⟨g2, c2, f2, rfl, m2, _, r2⟩ := h2
 exact (or_any N hN g1 c1 g2 c2 f1 f2 w m1 m2).mono fun e w' h => h.toMP fun i j hi hj => by rw [Bool.or_eq_true, r1 i j hi hj, r2 i j hi hj]
theorem then_mp (N : Nat) (hN : N ≤ 101) {S1 S2 : Nat → Prop} {v1 v2 : Value} {R1 R2 : Nat → Nat → Prop} (hle : ∀ i j, R1 i j → i ≤ j) (hin : ∀ i j, R1 i j → i < N → j < N) (w : World) (h1 : MP w S1 N v1 R1) (h2 : MP w S2 N v2 R2) : Calls Tryz.prog 175 #[v1, v2] w (NewMP w N fun i j => ∃ m, R1 i m ∧ R2 m j) := by
 obtain ⟨g1, c1, f1, rfl, m1, _, r1⟩ := h1
 obtain ⟨g2, c2, f2, rfl, m2, _, r2⟩ := h2
 refine (then_any N hN g1 c1 g2 c2 f1 f2 w m1 m2).mono fun e w' h => h.toMP fun i j hi hj => ?_
 rw [thenB_iff]
 constructor
 ·rintro ⟨m, a, b, c, d⟩; exact ⟨m, (r1 i m hi b).1 c, (r2 m j b hj).1 d⟩
 ·rintro ⟨m, a, b⟩
  have hm := hin i m a hi
  exact ⟨m, hle i m a, hm, (r1 i m hi hm).2 a, (r2 m j hm hj).2 b⟩
theorem star_mp (N n : Nat) (HN : Hid (N = n + 1)) (hn : n ≤ 100) {S : Nat → Prop} {v : Value} {R : Nat → Nat → Prop} (hle : ∀ i j, R i j → i ≤ j) (hin : ∀ i j, R i j → i < N → j < N) (w : World) (h : MP w S N v R) : Calls Tryz.prog 255 #[v] w (NewMP w N (Tm R 0 (-1))) := by
 obtain ⟨g, c, f, rfl, m, _, r⟩ := h
 refine (anyTimes_any N n HN hn g c R f r hle hin w m).mono ?_
 rintro e w' ⟨h, hm, hr⟩
 exact hm.toMP hr
theorem has_mp (N : Nat) (hN : N ≤ 101) {S : Nat → Prop} {v : Value} {R : Nat → Nat → Prop} (w : World) (h : MP w S N v R) (i : Nat) (hi : i < N) : ∃ g c f, v = .slice (some ⟨g, 0, none⟩) N c ∧ w.rangeAt g (i * 2) [.int .u64 (wk f 0), .int .u64 (wk f 1)] ∧ (∀ j, j < N → (f j = true ↔ R i j)) ∧ S g ∧ g < w.heap.size := by
 obtain ⟨g, c, f, rfl, m, hg, r⟩ := h
 exact ⟨g, c, f i, rfl, m.range hi, fun j hj => r i j hi hj, hg, (World.ownsRow.lt m g rfl).2⟩
end Go.Proofs.YtnfojonmohijpaaGreatDoor
namespace Go.Proofs.YtnfojonmohijpaaGreatDoor
theorem NumL.total (s : ByteArray) (least : Nat) : ∀ (k n : Nat) (any : Bool) (i : Nat), s.size + 1 - i ≤ k → ∃ q, NumL s least n any i q := by
 intro k
 induction k with
 | zero =>
  intro n any i hk
  have hd : digB (at' s i) = false := by rw [at'_ge (by omega)]; rfl
  by_cases h : any = false ∨ n < least
  ·exact ⟨_, .short n any i hd h⟩
  ·cases any
   ·exact absurd (Or.inl rfl) h
   ·exact ⟨_, .done n i hd (by omega)⟩
 | succ k ih =>
  intro n any i hk
  cases hd : digB (at' s i) with
  | false =>
   by_cases h : any = false ∨ n < least
   ·exact ⟨_, .short n any i hd h⟩
   ·cases any
    ·exact absurd (Or.inl rfl) h
    ·exact ⟨_, .done n i hd (by omega)⟩
  | true =>
   have hb : 48 ≤ at' s i ∧ at' s i ≤ 57 := by simp [digB] at hd; exact hd
   have hlt := at'_nn (s := s) (i := i) (by omega)
   have hx : (((10 * n + (at' s i - 48).toNat : Nat)) : Int) = 10 * n + (at' s i - 48) := by omega
   by_cases h : 10 * n + (at' s i - 48).toNat ≤ 5 ∧ (10 * n + (at' s i - 48).toNat = 0 ∨ least ≤ 10 * n + (at' s i - 48).toNat)
   ·obtain ⟨q, hq⟩ := ih (10 * n + (at' s i - 48).toNat) true (i + 1) (by omega)
    exact ⟨q, .dig n _ any i q hd hx h.1 h.2 hq⟩
   ·exact ⟨_, .big n _ any i hd hx h⟩
theorem NumL.some (s : ByteArray) (least n : Nat) (any : Bool) (i : Nat) : ∃ q, NumL s least n any i q := NumL.total s least _ n any i (Nat.le_refl _)
theorem RepR.some (s : ByteArray) (j : Nat) : ∃ q, RepR s j q := by
 by_cases h1 : at' s j = 42
 ·exact ⟨_, Or.inr (Or.inl ⟨h1, rfl⟩)⟩
 by_cases h2 : at' s j = 43
 ·exact ⟨_, Or.inr (Or.inr (Or.inl ⟨h2, rfl⟩))⟩
 by_cases h3 : at' s j = 63
 ·exact ⟨_, Or.inr (Or.inr (Or.inr (Or.inl ⟨h3, rfl⟩)))⟩
 by_cases h4 : at' s j = 123
 ·obtain ⟨q1, hq1⟩ := NumL.some s 0 0 false (j + 1)
  have : ∃ q, Rep2 s q1 q := by
   cases q1 with
   | bad k => exact ⟨_, rfl⟩
   | ok m k =>
    by_cases h5 : at' s k = 44
    ·by_cases h6 : at' s (k + 1) = 125
     ·exact ⟨_, Or.inl ⟨h5, h6, rfl⟩⟩
     ·obtain ⟨q2, hq2⟩ := NumL.some s m 0 false (k + 1)
      cases q2 with
      | bad l => exact ⟨_, Or.inr (Or.inl ⟨h5, h6, _, hq2, rfl⟩)⟩
      | ok n l => exact ⟨_, Or.inr (Or.inl ⟨h5, h6, _, hq2, rfl⟩)⟩
    ·exact ⟨_, Or.inr (Or.inr ⟨h5, rfl⟩)⟩
  obtain ⟨q, hq⟩ := this
  exact ⟨q, Or.inr (Or.inr (Or.inr (Or.inr ⟨h4, q1, hq1, hq⟩)))⟩
 ·exact ⟨_, Or.inl ⟨h1, h2, h3, h4, rfl⟩⟩
end Go.Proofs.YtnfojonmohijpaaGreatDoor
namespace Go.Proofs.YtnfojonmohijpaaGreatDoor
open Go.RowKit
theorem blitL : ∀ (l A B C : List Value) (off k : Nat), B.length = l.length → off + k = A.length →
    List.foldl (fun (cs : Array Value) (p : Value × Nat) => cs.setIfInBounds (off + p.2) p.1) (A ++ B ++ C).toArray (l.zipIdx k) = (A ++ l ++ C).toArray := by
 intro l
 induction l with
 | nil =>
  intro A B C off k hB _
  have : B = [] := List.length_eq_zero_iff.1 (by simpa using hB)
  subst this
  rfl
 | cons c l ih =>
  intro A B C off k hB hk
  cases B with
  | nil => simp at hB
  | cons b B =>
   rw [List.zipIdx_cons, List.foldl_cons]
   have e : (A ++ b :: B ++ C).toArray.setIfInBounds (off + k) c = ((A ++ [c]) ++ B ++ C).toArray := by
    rw [hk]
    apply Array.ext'
    simp
   show List.foldl _ ((A ++ b :: B ++ C).toArray.setIfInBounds (off + k) c) _ = _
   rw [e, ih (A ++ [c]) B C off (k + 1) (by simpa using hB) (by simp; omega)]
   simp
theorem blit (vs : Array Value) (A B C : List Value) (h : B.length = vs.size) :
    vs.zipIdx.foldl (fun (cs : Array Value) (p : Value × Nat) => cs.setIfInBounds (A.length + p.2) p.1) (A ++ B ++ C).toArray = (A ++ vs.toList ++ C).toArray := by
 have e := blitL vs.toList A B C A.length 0 (by simpa using h) (by omega)
 rw [← e, ← Array.foldl_toList, Array.toList_zipIdx]
theorem fill_one (place : Nat → Option (Nat × Nat)) (i : Nat) (v : Value) (rest : List (Nat × Value)) (A B C : List Value) (hp : place i = some (A.length, B.length)) (hv : v.cells.size = B.length) :
    Instr.fill place (A ++ B ++ C).toArray ((i, v) :: rest) = Instr.fill place (A ++ v.cells.toList ++ C).toArray rest := by
 conv => lhs; unfold Instr.fill
 rw [hp]
 have h1 : (decide (v.cells.size ≠ B.length) || decide (A.length + v.cells.size > (A ++ B ++ C).toArray.size)) = false := by
  rw [hv]; simp
 show (if (decide (v.cells.size ≠ B.length) || decide (A.length + v.cells.size > (A ++ B ++ C).toArray.size)) = true then none else _) = _
 rw [h1, if_neg (by simp)]
 have := blit v.cells A B C hv.symm
 exact congrArg (fun x => Instr.fill place x rest) this
def sc (k : Value) (v : Value) (f : Nat → Bool) : List Value := k :: v :: (hcells f).toList
theorem sc_len (k v : Value) (f : Nat → Bool) : (sc k v f).length = 258 := by simp [sc, hcells_size]
def pz : List Value := sc (.int .i64 0) (.slice none 0 0) (fun _ => false) ++ [Value.bool false, Value.int .i64 0, Value.int .i64 0]
theorem pz_len : pz.length = 261 := by simp [pz, sc_len]
def plS : Nat → Option (Nat × Nat) := fun i => (#[(0, 1), (1, 1), (2, 256)] : Array (Nat × Nat))[i]?
def plP : Nat → Option (Nat × Nat) := fun i => (#[(0, 258), (258, 3)] : Array (Nat × Nat))[i]?
theorem built_single (parts : List (Nat × Value)) : Tryz.prog.built 208 parts = Instr.fill plS (sc (.int .i64 0) (.slice none 0 0) fun _ => false).toArray parts := by kernel_rfl
theorem built_piece (parts : List (Nat × Value)) : Tryz.prog.built 212 parts = Instr.fill plP pz.toArray parts := by kernel_rfl
theorem infoPiece : (Tryz.prog.info? 212).map (fun i => (i.zero, i.size, i.bytes)) = some (some (.agg pz.toArray), 261, 312) := by kernel_rfl
theorem infoWay : (Tryz.prog.info? 204).map (fun i => (i.zero, i.size, i.bytes)) = some (some (.slice none 0 0), 1, 24) := by kernel_rfl
theorem piece_row : ((Array.range (1 * 261)).map (pz.toArray[· % 261]!)) = pz.toArray := by kernel_rfl
theorem piece_fill (pc : List Value) (h : pc.length = 261) : Instr.fill (fun i => some (i * 261, 261)) ((Array.range (1 * 261)).map (pz.toArray[· % 261]!)) [(0, .agg pc.toArray)] = some pc.toArray := by
 rw [piece_row]
 have h1 := fill_one (fun i => some (i * 261, 261)) 0 (.agg pc.toArray) [] [] pz [] (by simp [pz_len]) (by simp [pz_len, Value.cells, h])
 simp only [List.append_nil, List.nil_append, Value.cells] at h1
 exact h1.trans rfl
theorem way_row : ((Array.range (1 * 1)).map ((#[Value.slice none 0 0] : Array Value)[· % 1]!)) = #[Value.slice none 0 0] := by kernel_rfl
theorem way_fill (v : Value) (hv : v.cells = #[v]) : Instr.fill (fun i => some (i * 1, 1)) ((Array.range (1 * 1)).map ((#[Value.slice none 0 0] : Array Value)[· % 1]!)) [(0, v)] = some #[v] := by
 rw [way_row]
 have h1 := fill_one (fun i => some (i * 1, 1)) 0 v [] [] [.slice none 0 0] [] rfl (by rw [hv]; rfl)
 rw [hv] at h1
 exact h1.trans rfl
theorem alloc_single (w : World) : (Instr.alloc 208 true (.tuple #[])).run Tryz.prog w = .ok (.pointer (some ⟨w.heap.size, 0, none⟩)) (w.alloc (.cells (sc (.int .i64 0) (.slice none 0 0) fun _ => false).toArray 208)) := by kernel_rfl
end Go.Proofs.YtnfojonmohijpaaGreatDoor
namespace Go.Proofs.YtnfojonmohijpaaGreatDoor
open Go.RowKit
inductive Kr where
 | single | piece | plist | way | wlist | ways
def repC : Option (Nat × Int) → List Value
 | none => [.bool false, .int .i64 0, .int .i64 0]
 | some (m, n) => [.bool true, .int .i64 m, .int .i64 n]
theorem repC_len (o : Option (Nat × Int)) : (repC o).length = 3 := by cases o <;> rfl
def okRep : Option (Nat × Int) → Prop
 | none => True
 | some (m, n) => m ≤ 5 ∧ (n = -1 ∨ ∃ k : Nat, n = k ∧ k ≤ 5)
theorem RepR.okRep {s : ByteArray} {j k : Nat} {o : Option (Nat × Int)} (h : RepR s j (.ok o k)) : okRep o := by
 rcases h with ⟨a, b, c, d, e⟩ | ⟨a, e⟩ | ⟨a, e⟩ | ⟨a, e⟩ | ⟨a, q1, n, e⟩
 ·cases e; trivial
 ·cases e; exact ⟨by omega, Or.inl rfl⟩
 ·cases e; exact ⟨by omega, Or.inl rfl⟩
 ·cases e; exact ⟨by omega, Or.inr ⟨1, rfl, by omega⟩⟩
 ·cases q1 with
  | bad l => cases e
  | ok m l =>
   have hl := (n.ok m l rfl).2.2.1 (by omega)
   rcases e with ⟨a, b, e⟩ | ⟨a, b, q2, n', e⟩ | ⟨a, e⟩
   ·cases e; exact ⟨hl, Or.inl rfl⟩
   ·cases q2 with
    | bad x => cases e
    | ok y x =>
     have hx := (n'.ok y x rfl).2.2.1 (by omega)
     simp only [Rep3] at e
     by_cases h5 : at' s x = 125
     ·rw [if_pos h5] at e; cases e; exact ⟨hl, Or.inr ⟨y, rfl, hx⟩⟩
     ·rw [if_neg h5] at e; cases e
   ·by_cases h5 : at' s l = 125
    ·rw [if_pos h5] at e; cases e; exact ⟨hl, Or.inr ⟨m, rfl, hl⟩⟩
    ·rw [if_neg h5] at e; cases e
inductive Rep (w : World) (S : Nat → Prop) : Kr → Pat → List Value → Prop
 | set (f : Nat → Bool) : Rep w S .single (.set f) (sc (.int .i64 0) (.slice none 0 0) f)
 | grp (k : Nat) (x : Pat) (v : Value) : 0 < k → k ≤ 9 → Rep w S .ways x [v] → Rep w S .single (.grp k x) (sc (.int .i64 k) v fun _ => false)
 | piece (x : Pat) (o : Option (Nat × Int)) (cs : List Value) : okRep o → Rep w S .single x cs → Rep w S .piece (withRep x o) (cs ++ repC o)
 | pnil : Rep w S .plist .pnil []
 | pcons (x r : Pat) (cs ds : List Value) : Rep w S .piece x cs → Rep w S .plist r ds → Rep w S .plist (.pcons x r) (cs ++ ds)
 | way (x : Pat) (cs : List Value) (v : Value) (n : Nat) : Rep w S .plist x cs → w.ownsRow 0 212 261 v n cs → (∀ g, v.ownBlock = some g → S g) → Rep w S .way x [v]
 | wone (x : Pat) (v : Value) : Rep w S .way x [v] → Rep w S .wlist (.wone x) [v]
 | wcons (x r : Pat) (v : Value) (vs : List Value) : Rep w S .way x [v] → Rep w S .wlist r vs → Rep w S .wlist (.wcons x r) (v :: vs)
 | ways (x : Pat) (vs : List Value) (v : Value) (n : Nat) : Rep w S .wlist x vs → w.ownsRow 0 204 1 v n vs → (∀ g, v.ownBlock = some g → S g) → Rep w S .ways x [v]
theorem Rep.keep {w w' : World} {S : Nat → Prop} {L : List Nat} (hk : Keeps L w w') (hs : ∀ g, S g → g ∉ L) {k : Kr} {x : Pat} {cs : List Value} (h : Rep w S k x cs) : Rep w' S k x cs := by
 induction h with
 | set f => exact .set f
 | grp k x v h0 h9 _ ih => exact .grp k x v h0 h9 ih
 | piece x o cs ho _ ih => exact .piece x o cs ho ih
 | pnil => exact .pnil
 | pcons x r cs ds _ _ i1 i2 => exact .pcons x r cs ds i1 i2
 | way x cs v n _ ho hp ih => exact .way x cs v n ih (ho.keep hk fun g hg => hs g (hp g hg)) hp
 | wone x v _ ih => exact .wone x v ih
 | wcons x r v vs _ _ i1 i2 => exact .wcons x r v vs i1 i2
 | ways x vs v n _ ho hp ih => exact .ways x vs v n ih (ho.keep hk fun g hg => hs g (hp g hg)) hp
theorem Rep.mono {w : World} {S S' : Nat → Prop} (hs : ∀ g, S g → g < w.heap.size → S' g) {k : Kr} {x : Pat} {cs : List Value} (h : Rep w S k x cs) : Rep w S' k x cs := by
 have hb : ∀ {e : TypeId} {size : Nat} {v : Value} {n : Nat} {xs : List Value}, w.ownsRow 0 e size v n xs → (∀ g, v.ownBlock = some g → S g) → ∀ g, v.ownBlock = some g → S' g := fun ho hp g hg => hs g (hp g hg) (ho.lt g hg).2
 induction h with
 | set f => exact .set f
 | grp k x v h0 h9 _ ih => exact .grp k x v h0 h9 ih
 | piece x o cs ho _ ih => exact .piece x o cs ho ih
 | pnil => exact .pnil
 | pcons x r cs ds _ _ i1 i2 => exact .pcons x r cs ds i1 i2
 | way x cs v n _ ho hp ih => exact .way x cs v n ih ho (hb ho hp)
 | wone x v _ ih => exact .wone x v ih
 | wcons x r v vs _ _ i1 i2 => exact .wcons x r v vs i1 i2
 | ways x vs v n _ ho hp ih => exact .ways x vs v n ih ho (hb ho hp)
theorem ownsRow_one {w : World} {e : TypeId} {size : Nat} {v : Value} {n : Nat} {xs : List Value} (h : w.ownsRow 0 e size v n xs) : v.oneCell' = true ∧ v.cells = #[v] := by
 rcases h.2 with ⟨rfl, _⟩ | ⟨g, cap, cur, rfl, _⟩ <;> exact ⟨rfl, rfl⟩
theorem Rep.cells {w : World} {S : Nat → Prop} {k : Kr} {x : Pat} {cs : List Value} (h : Rep w S k x cs) :
    (∀ u ∈ cs, u.oneCell' = true) ∧ (match k with | .single => cs.length = 258 | .piece => cs.length = 261 | .way => ∃ v, cs = [v] ∧ v.cells = #[v] | .ways => ∃ v, cs = [v] ∧ v.cells = #[v] | _ => True) := by
 have hc : ∀ f : Nat → Bool, ∀ u ∈ (hcells f).toList, u.oneCell' = true := by
  intro f u hu
  rw [hcells, Array.toList_ofFn, List.mem_ofFn] at hu
  obtain ⟨i, rfl⟩ := hu
  rfl
 induction h with
 | set f =>
  refine ⟨?_, sc_len _ _ _⟩
  intro u hu
  simp only [sc, List.mem_cons] at hu
  rcases hu with rfl | rfl | hu
  ·rfl
  ·rfl
  ·exact hc f u hu
 | grp k x v _ _ _ ih =>
  refine ⟨?_, sc_len _ _ _⟩
  intro u hu
  simp only [sc, List.mem_cons] at hu
  rcases hu with rfl | rfl | hu
  ·rfl
  ·exact ih.1 _ (by simp)
  ·exact hc _ u hu
 | piece x o cs _ _ ih =>
  refine ⟨?_, ?_⟩
  ·intro u hu
   rcases List.mem_append.1 hu with hu | hu
   ·exact ih.1 u hu
   ·cases o with
    | none => simp [repC] at hu; rcases hu with rfl | rfl <;> rfl
    | some p => simp [repC] at hu; rcases hu with rfl | rfl | rfl <;> rfl
  ·have := ih.2
   simp only [List.length_append, repC_len] at this ⊢
   omega
 | pnil => exact ⟨by simp, trivial⟩
 | pcons x r cs ds _ _ i1 i2 =>
  refine ⟨?_, trivial⟩
  intro u hu
  rcases List.mem_append.1 hu with hu | hu
  ·exact i1.1 u hu
  ·exact i2.1 u hu
 | way x cs v n _ ho hp ih => exact ⟨by simpa using (ownsRow_one ho).1, v, rfl, (ownsRow_one ho).2⟩
 | wone x v _ ih => exact ⟨ih.1, trivial⟩
 | wcons x r v vs _ _ i1 i2 =>
  refine ⟨?_, trivial⟩
  intro u hu
  rcases List.mem_cons.1 hu with rfl | hu
  ·exact i1.1 _ (by simp)
  ·exact i2.1 u hu
 | ways x vs v n _ ho hp ih => exact ⟨by simpa using (ownsRow_one ho).1, v, rfl, (ownsRow_one ho).2⟩
end Go.Proofs.YtnfojonmohijpaaGreatDoor
namespace Go.Proofs.YtnfojonmohijpaaGreatDoor
open Go.RowKit
theorem cf_hp1 (args : Array Value) (w : World) : (callFunc 292 args).run Tryz.prog w = .ok (.enter 292 args) w := by kernel_rfl
theorem cf_hp2 (args : Array Value) (w : World) : (callFunc 293 args).run Tryz.prog w = .ok (.enter 293 args) w := by kernel_rfl
theorem cf_esc1 (args : Array Value) (w : World) : (callFunc 277 args).run Tryz.prog w = .ok (.enter 277 args) w := by kernel_rfl
theorem cf_inn1 (args : Array Value) (w : World) : (callFunc 300 args).run Tryz.prog w = .ok (.enter 300 args) w := by kernel_rfl
theorem keep_cell {w w' : World} (h : Keeps [] w w') {a : Addr} {v : Value} (hc : w.cell? a = some v) : w'.cell? a = some v :=
 (World.cell?_of_block (h.block a.block (World.block_lt_of_cell? w a hc) (by simp))).trans hc
theorem keep_cell_b {w w' : World} {b : Nat} (h : Keeps [b] w w') {a : Addr} {v : Value} (hb : a.block ≠ b) (hc : w.cell? a = some v) : w'.cell? a = some v :=
 (World.cell?_of_block (h.block a.block (World.block_lt_of_cell? w a hc) (by simpa using hb))).trans hc
def PPost (b : Nat) (p : QS) (w : World) (r : R Int) (e : Ending) (w' : World) : Prop :=
 Keeps [b] w w' ∧ match r with
  | .ok v j => e = .returned (.int .u8 v) ∧ QB w' b { p with ix := j }
  | .bad j => e = fault j
theorem may_hp1 {c l : Int} (h0 : 0 ≤ c) (h1 : c ≤ 255) {lb : Nat} {w : World} (hl : w.cell? ⟨lb, 0, none⟩ = some (.int .u8 l)) : May 292 #[.pointer (some ⟨lb, 0, none⟩)] c (decide (0 ≤ hexd c) && decide (l ≤ 16 * hexd c + 15)) w :=
 ⟨cf_hp1, fun w1 hk => (hp1_any c l h0 h1 lb w1 (keep_cell hk hl)).mono fun e w2 ⟨he, n, hw⟩ => ⟨he, by rw [hw]; exact (Keeps.refl _ _).drewN n⟩⟩
theorem may_hp2 {c l a : Int} (h0 : 0 ≤ c) (h1 : c ≤ 255) (ha0 : 0 ≤ a) (ha1 : a ≤ 15) {ab lb : Nat} {w : World} (hla : w.cell? ⟨ab, 0, none⟩ = some (.int .u8 a)) (hl : w.cell? ⟨lb, 0, none⟩ = some (.int .u8 l)) : May 293 #[.pointer (some ⟨ab, 0, none⟩), .pointer (some ⟨lb, 0, none⟩)] c (decide (0 ≤ hexd c) && decide (l ≤ 16 * a + hexd c)) w :=
 ⟨cf_hp2, fun w1 hk => (hp2_any c l a h0 h1 ha0 ha1 ab lb w1 (keep_cell hk hla) (keep_cell hk hl)).mono fun e w2 ⟨he, n, hw⟩ => ⟨he, by rw [hw]; exact (Keeps.refl _ _).drewN n⟩⟩
theorem may_esc1 {c l : Int} {lb : Nat} {w : World} (hl : w.cell? ⟨lb, 0, none⟩ = some (.int .u8 l)) : May 277 #[.pointer (some ⟨lb, 0, none⟩)] c (!alnB c && decide (l ≤ c)) w :=
 ⟨cf_esc1, fun w1 hk => (esc1_any c l lb w1 (keep_cell hk hl)).mono fun e w2 ⟨he, hw⟩ => ⟨he, by rw [hw]; exact Keeps.refl _ _⟩⟩
theorem may_inn1 {c l : Int} (h0 : 0 ≤ c) (h1 : c ≤ 255) {lb : Nat} {w : World} (hl : w.cell? ⟨lb, 0, none⟩ = some (.int .u8 l)) : May 300 #[.pointer (some ⟨lb, 0, none⟩)] c (!decide (c = 91 ∨ c = 93 ∨ c = 45 ∨ c = 94) && decide (l ≤ c)) w :=
 ⟨cf_inn1, fun w1 hk => (inn1_any c l h0 h1 lb w1 (keep_cell hk hl)).mono fun e w2 ⟨he, hw⟩ => ⟨he, by rw [hw]; exact Keeps.refl _ _⟩⟩
theorem take_may (b : Nat) (p : QS) (F : Nat) (caps : Array Value) (v : Bool) (w : World) (hp : QB w b p) (hs : p.s.size ≤ 60) (hle : p.ix ≤ p.s.size) (hm : 0 ≤ p.cur → May F caps p.cur v w) (r : R Int)
    (hr : r = if 0 ≤ p.cur ∧ v = true then .ok p.cur (p.ix + 1) else .bad p.ix) :
    Calls Tryz.prog 218 #[.pointer (some ⟨b, 0, none⟩), .func (.func F) #[] caps] w (PPost b p w r) := by
 subst hr
 by_cases hlt : p.ix < p.s.size
 ·have h0 : 0 ≤ p.cur := by show 0 ≤ at' p.s p.ix; rw [at'_lt hlt]; omega
  cases v
  ·rw [if_neg (by simp)]
   refine (take_bad b p F caps w hp hs hlt (hm h0)).mono ?_
   rintro e w' ⟨rfl, hk⟩
   exact ⟨hk, rfl⟩
  ·rw [if_pos ⟨h0, rfl⟩]
   refine (take_ok b p F caps w hp hs hlt (hm h0)).mono ?_
   rintro e w' ⟨rfl, hq, hk⟩
   exact ⟨hk, rfl, hq⟩
 ·have hge : p.ix = p.s.size := by omega
  have h0 : p.cur = -1 := at'_ge (by omega)
  rw [if_neg (by rw [h0]; omega)]
  refine (take_end b p _ w hp hge).mono ?_
  rintro e w' ⟨rfl, hk⟩
  exact ⟨hk, rfl⟩
theorem boxed (b : Nat) (p : QS) (l : Int) (w : World) (hp : QB w b p) : QB (w.alloc (.cells #[.int .u8 l] 5)) b p ∧ (w.alloc (.cells #[.int .u8 l] 5)).cell? ⟨w.heap.size, 0, none⟩ = some (.int .u8 l) ∧ Keeps [b] w (w.alloc (.cells #[.int .u8 l] 5)) ∧ w.heap.size ≠ b :=
 ⟨hp.keep ((Keeps.refl [] w).alloc _) (by simp), by simp, (Keeps.refl [b] w).alloc _, by have := hp.lt; omega⟩
theorem hexS_iff (s : ByteArray) (ahead : Int) (last : Bool) (least : Int) (i : Nat) (g : Int) (hg : g = if last then ahead + hexd (at' s i) else 16 * (ahead + hexd (at' s i)) + 15) :
    hexS s ahead last least i = (if 0 ≤ at' s i ∧ (decide (0 ≤ hexd (at' s i)) && decide (least ≤ g)) = true then .ok (hexd (at' s i)) (i + 1) else .bad i) := by
 unfold hexS
 rw [← hg]
 by_cases h : 0 ≤ hexd (at' s i) ∧ least ≤ g
 ·have hc : 0 ≤ at' s i := by
     by_cases hh : 0 ≤ at' s i
     ·exact hh
     ·exfalso
      have := h.1
      unfold hexd at this; rw [if_neg (by omega), if_neg (by omega)] at this; omega
  rw [if_neg (by omega), if_pos ⟨hc, by simp [h.1, h.2]⟩]
 ·rw [if_pos (by omega), if_neg (by rintro ⟨_, hh⟩; simp at hh; exact h hh)]
set_option maxRecDepth 100000 in
set_option maxHeartbeats 1000000 in
theorem hexPair_prog (b : Nat) (p : QS) (least : Int) (w : World) (hp : QB w b p) (hs : p.s.size ≤ 60) (hle : p.ix ≤ p.s.size) (hl0 : 0 ≤ least) (hl1 : least ≤ 255) :
    Calls Tryz.prog 276 #[.pointer (some ⟨b, 0, none⟩), .int .u8 least] w (PPost b p w (hexPS p.s least p.ix)) := by
 have hmf : ∀ (fn : Fn) (first cap : Array Value) (w : World), (Instr.makeFunc fn first cap).run Tryz.prog w = .ok (.func fn first cap) w := fun _ _ _ _ => rfl
 obtain ⟨hq0, hl, hk0, hne⟩ := boxed b p least w hp
 have hcb := at'_bd p.s p.ix
 have hcur : p.cur = at' p.s p.ix := rfl
 go_enter Tryz.func276, Tryz.ntmps276
 go_wp2_with fail
 generalize (w.alloc (.cells #[.int .u8 least] 5)) = W at *
 generalize w.heap.size = lb at *
 have r1 : hexS p.s 0 false least p.ix = (if 0 ≤ p.cur ∧ (decide (0 ≤ hexd p.cur) && decide (least ≤ 16 * hexd p.cur + 15)) = true then .ok (hexd p.cur) (p.ix + 1) else .bad p.ix) := by
  have := hexS_iff p.s 0 false least p.ix (16 * hexd (at' p.s p.ix) + 15) (by simp)
  exact this
 refine (take_may b p 292 _ _ W hq0 hs hle (fun h => may_hp1 h (by omega) hl) _ rfl).mono ?_
 rintro e w1 ⟨hk1, hc1⟩
 by_cases h1 : 0 ≤ p.cur ∧ (decide (0 ≤ hexd p.cur) && decide (least ≤ 16 * hexd p.cur + 15)) = true
 ·rw [if_pos h1] at hc1 r1
  obtain ⟨rfl, hq1⟩ := hc1
  have hx0 : 0 ≤ hexd p.cur := by have := h1.2; simp at this; exact this.1
  have hx1 := (hexd_bd p.cur).2
  have HV := hexValue_any p.cur h1.1 (by rw [hcur]; omega) hx0
  have hl1' := keep_cell_b hk1 hne hl
  generalize hexd p.cur = x at *
  clear hcur h1 hcb
  go_wp2_with (first | (go_at_call 220; refine (HV _).mono ?_; rintro e w1 ⟨rfl, rfl⟩))
  obtain ⟨hq2, hla, hk2, hne2⟩ := boxed b { p with ix := p.ix + 1 } x w1 hq1
  have hl2 := keep_cell ((Keeps.refl [] w1).alloc (.cells #[.int .u8 x] 5)) hl1'
  generalize (w1.alloc (.cells #[.int .u8 x] 5)) = W2 at *
  generalize w1.heap.size = ab at *
  have hle2 : p.ix + 1 ≤ p.s.size := by
   have := (hexS_ok r1).2.2.2.1
   exact this
  have hcb := at'_bd p.s (p.ix + 1)
  have r2 : hexS p.s (16 * x) true least (p.ix + 1) = (if 0 ≤ at' p.s (p.ix + 1) ∧ (decide (0 ≤ hexd (at' p.s (p.ix + 1))) && decide (least ≤ 16 * x + hexd (at' p.s (p.ix + 1)))) = true then .ok (hexd (at' p.s (p.ix + 1))) (p.ix + 2) else .bad (p.ix + 1)) :=
   hexS_iff p.s (16 * x) true least (p.ix + 1) (16 * x + hexd (at' p.s (p.ix + 1))) (by simp)
  have HP : hexPS p.s least p.ix = (hexS p.s (16 * x) true least (p.ix + 1)).bind fun b k => .ok (16 * x + b) k := by
   unfold hexPS; rw [r1]; rfl
  refine (take_may b { p with ix := p.ix + 1 } 293 _ _ W2 hq2 hs hle2 (fun h => may_hp2 h hcb.2 hx0 hx1 hla hl2) (if 0 ≤ at' p.s (p.ix + 1) ∧ (decide (0 ≤ hexd (at' p.s (p.ix + 1))) && decide (least ≤ 16 * x + hexd (at' p.s (p.ix + 1)))) = true then .ok (at' p.s (p.ix + 1)) (p.ix + 2) else .bad (p.ix + 1)) rfl).mono ?_
  rintro e w3 ⟨hk3, hc3⟩
  have hkk : Keeps [b] w w3 := ((hk0.trans hk1).trans hk2).trans hk3
  by_cases h2 : 0 ≤ at' p.s (p.ix + 1) ∧ (decide (0 ≤ hexd (at' p.s (p.ix + 1))) && decide (least ≤ 16 * x + hexd (at' p.s (p.ix + 1)))) = true
  ·rw [if_pos h2] at r2
   rw [if_pos h2] at hc3
   obtain ⟨rfl, hq3⟩ := hc3
   have hy0 : 0 ≤ hexd (at' p.s (p.ix + 1)) := by have := h2.2; simp at this; exact this.1
   have hy1 := (hexd_bd (at' p.s (p.ix + 1))).2
   have HV2 := hexValue_any (at' p.s (p.ix + 1)) h2.1 hcb.2 hy0
   have HF : Hid (hexPS p.s least p.ix = .ok (16 * x + hexd (at' p.s (p.ix + 1))) (p.ix + 2)) := by show hexPS p.s least p.ix = _; rw [HP, r2]; rfl
   have ho := or_hex x (hexd (at' p.s (p.ix + 1))) hx0 hx1 hy0 hy1
   have hla3 := keep_cell_b hk3 hne2 hla
   clear r1 r2 HP h2 hcb
   go_wp2_with (first | (go_at_call 220; refine (HV2 _).mono ?_; rintro e w3 ⟨rfl, rfl⟩))
   go_ret
   refine ⟨hkk, ?_⟩
   rw [HF.out]
   exact ⟨ret_int (by first | rfl | exact ho), hq3⟩
  ·rw [if_neg h2] at r2
   rw [if_neg h2] at hc3
   subst hc3
   simp only [fault]
   exact ⟨rfl, hkk, by rw [HP, r2]; rfl⟩
 ·rw [if_neg h1] at hc1 r1
  subst hc1
  simp only [fault]
  exact ⟨rfl, hk0.trans hk1, by unfold hexPS; rw [r1]; rfl⟩
end Go.Proofs.YtnfojonmohijpaaGreatDoor
namespace Go.Proofs.YtnfojonmohijpaaGreatDoor
open Go.RowKit
set_option maxRecDepth 100000 in
set_option maxHeartbeats 1000000 in
theorem escaped_prog (b : Nat) (p : QS) (least : Int) (w : World) (hp : QB w b p) (hs : p.s.size ≤ 60) (hl0 : 0 ≤ least) (hl1 : least ≤ 255) (h92 : p.cur = 92) :
    Calls Tryz.prog 250 #[.pointer (some ⟨b, 0, none⟩), .int .u8 least] w (PPost b p w (escS p.s least (p.ix + 1))) := by
 have hmf : ∀ (fn : Fn) (first cap : Array Value) (w : World), (Instr.makeFunc fn first cap).run Tryz.prog w = .ok (.func fn first cap) w := fun _ _ _ _ => rfl
 obtain ⟨hq0, hl, hk0, hne⟩ := boxed b p least w hp
 have hlt : p.ix < p.s.size := at'_nn (by show 0 ≤ p.cur; omega)
 have EX := fun w1 h => expect_ok b p 92 (by omega) w1 h hs h92
 clear h92
 go_enter Tryz.func250, Tryz.ntmps250
 go_wp2_with fail
 generalize (w.alloc (.cells #[.int .u8 least] 5)) = W at *
 generalize w.heap.size = lb at *
 refine (EX _ hq0).mono ?_
 rintro e w1 ⟨rfl, hq1, hk1⟩
 have hl2 := keep_cell_b hk1 hne hl
 go_wp2_with fail
 refine (skip_any b { p with ix := p.ix + 1 } 120 (by omega) _ hq1 hlt hs).mono ?_
 rintro e w2 ⟨rfl, hq2, hk2⟩
 have hl3 := keep_cell_b hk2 hne hl2
 have hkA : Keeps [b] w w2 := (hk0.trans hk1).trans hk2
 by_cases hx : at' p.s (p.ix + 1) = 120
 ·have hd : decide (QS.cur { p with ix := p.ix + 1 } = 120) = true := by simpa using (show QS.cur { p with ix := p.ix + 1 } = 120 from hx)
  have htk : QS.took { p with ix := p.ix + 1 } 120 = { p with ix := p.ix + 2 } := by unfold QS.took; rw [if_pos (show QS.cur { p with ix := p.ix + 1 } = 120 from hx)]
  rw [htk] at hq2
  have hlt2 : p.ix + 1 < p.s.size := at'_nn (by omega)
  have HE : Hid (escS p.s least (p.ix + 1) = hexPS p.s least (p.ix + 2)) := escS_x hx
  clear hx
  rw [hd]
  go_wp2_with fail
  refine (hexPair_prog b { p with ix := p.ix + 2 } least _ hq2 hs hlt2 hl0 hl1).mono ?_
  rintro e w3 ⟨hk3, hc3⟩
  cases hr : hexPS p.s least (p.ix + 2) with
  | ok v j =>
   rw [show hexPS (QS.s { p with ix := p.ix + 2 }) least (QS.ix { p with ix := p.ix + 2 }) = .ok v j from hr] at hc3
   obtain ⟨rfl, hq3⟩ := hc3
   have HE2 : Hid (escS p.s least (p.ix + 1) = .ok v j) := HE.out.trans hr
   clear hr
   go_wp2_with fail
   go_ret
   refine ⟨hkA.trans hk3, ?_⟩
   rw [HE2.out]
   exact ⟨rfl, hq3⟩
  | bad j =>
   rw [show hexPS (QS.s { p with ix := p.ix + 2 }) least (QS.ix { p with ix := p.ix + 2 }) = .bad j from hr] at hc3
   subst hc3
   simp only [fault]
   exact ⟨rfl, hkA.trans hk3, by rw [HE.out, hr]; rfl⟩
 ·have hd : decide (QS.cur { p with ix := p.ix + 1 } = 120) = false := by simpa using (show ¬ QS.cur { p with ix := p.ix + 1 } = 120 from hx)
  have htk : QS.took { p with ix := p.ix + 1 } 120 = { p with ix := p.ix + 1 } := by unfold QS.took; rw [if_neg (show ¬ QS.cur { p with ix := p.ix + 1 } = 120 from hx)]
  rw [htk] at hq2
  have HE : Hid (escS p.s least (p.ix + 1) = if 0 ≤ at' p.s (p.ix + 1) ∧ (!alnB (at' p.s (p.ix + 1)) && decide (least ≤ at' p.s (p.ix + 1))) = true then .ok (at' p.s (p.ix + 1)) (p.ix + 2) else .bad (p.ix + 1)) := by
   show escS p.s least (p.ix + 1) = _
   unfold escS
   rw [if_neg hx]
   by_cases hc : at' p.s (p.ix + 1) < 0 ∨ alnB (at' p.s (p.ix + 1)) = true ∨ at' p.s (p.ix + 1) < least
   ·rw [if_pos hc, if_neg]
    rintro ⟨a, bb⟩
    simp at bb
    rcases hc with h | h | h
    ·omega
    ·rw [h] at bb; cases bb.1
    ·omega
   ·rw [if_neg hc, if_pos]
    refine ⟨Int.not_lt.1 fun h => hc (Or.inl h), ?_⟩
    have h1 : alnB (at' p.s (p.ix + 1)) = false := Bool.eq_false_iff.2 fun h => hc (Or.inr (Or.inl h))
    have h2 : least ≤ at' p.s (p.ix + 1) := Int.not_lt.1 fun h => hc (Or.inr (Or.inr h))
    simp [h1, h2]
  clear hx
  rw [hd]
  go_wp2_with fail
  refine (take_may b { p with ix := p.ix + 1 } 277 _ _ _ hq2 hs hlt (fun h => may_esc1 hl3) (if 0 ≤ at' p.s (p.ix + 1) ∧ (!alnB (at' p.s (p.ix + 1)) && decide (least ≤ at' p.s (p.ix + 1))) = true then .ok (at' p.s (p.ix + 1)) (p.ix + 2) else .bad (p.ix + 1)) rfl).mono ?_
  rintro e w3 ⟨hk3, hc3⟩
  by_cases hc : 0 ≤ at' p.s (p.ix + 1) ∧ (!alnB (at' p.s (p.ix + 1)) && decide (least ≤ at' p.s (p.ix + 1))) = true
  ·rw [if_pos hc] at hc3
   obtain ⟨rfl, hq3⟩ := hc3
   have HE2 : Hid (escS p.s least (p.ix + 1) = .ok (at' p.s (p.ix + 1)) (p.ix + 2)) := by show escS p.s least (p.ix + 1) = _; rw [HE.out, if_pos hc]
   clear hc
   go_wp2_with fail
   go_ret
   refine ⟨hkA.trans hk3, ?_⟩
   rw [HE2.out]
   exact ⟨rfl, hq3⟩
  ·rw [if_neg hc] at hc3
   subst hc3
   simp only [fault]
   exact ⟨rfl, hkA.trans hk3, by rw [HE.out, if_neg hc]; rfl⟩
set_option maxRecDepth 100000 in
set_option maxHeartbeats 1000000 in
theorem inner_prog (b : Nat) (p : QS) (least : Int) (w : World) (hp : QB w b p) (hs : p.s.size ≤ 60) (hle : p.ix ≤ p.s.size) (hl0 : 0 ≤ least) (hl1 : least ≤ 255) :
    Calls Tryz.prog 290 #[.pointer (some ⟨b, 0, none⟩), .int .u8 least] w (PPost b p w (innS p.s least p.ix)) := by
 have hmf : ∀ (fn : Fn) (first cap : Array Value) (w : World), (Instr.makeFunc fn first cap).run Tryz.prog w = .ok (.func fn first cap) w := fun _ _ _ _ => rfl
 obtain ⟨hq0, hl, hk0, hne⟩ := boxed b p least w hp
 have hcb := at'_bd p.s p.ix
 go_enter Tryz.func290, Tryz.ntmps290
 go_wp2_with fail
 generalize (w.alloc (.cells #[.int .u8 least] 5)) = W at *
 generalize w.heap.size = lb at *
 refine (ahead_any b p 92 (by omega) _ hq0 hle hs).mono ?_
 rintro e w1 ⟨rfl, hq1, hk1⟩
 have hl2 := keep_cell hk1 hl
 have hkA : Keeps [b] w w1 := hk0.trans (hk1.mono (by simp))
 by_cases hx : at' p.s p.ix = 92
 ·have hd : decide (p.cur = 92) = true := by simpa using (show p.cur = 92 from hx)
  have HE : Hid (innS p.s least p.ix = escS p.s least (p.ix + 1)) := by show innS p.s least p.ix = _; unfold innS; rw [if_pos hx]
  have hcur : p.cur = 92 := hx
  have EC := fun w1 h => escaped_prog b p least w1 h hs hl0 hl1 hcur
  clear hx hcur
  rw [hd]
  go_wp2_with fail
  refine (EC _ hq1).mono ?_
  rintro e w3 ⟨hk3, hc3⟩
  cases hr : escS p.s least (p.ix + 1) with
  | ok v j =>
   rw [hr] at hc3
   obtain ⟨rfl, hq3⟩ := hc3
   have HE2 : Hid (innS p.s least p.ix = .ok v j) := HE.out.trans hr
   clear hr
   go_wp2_with fail
   go_ret
   refine ⟨hkA.trans hk3, ?_⟩
   rw [HE2.out]
   exact ⟨rfl, hq3⟩
  | bad j =>
   rw [hr] at hc3
   subst hc3
   simp only [fault]
   exact ⟨rfl, hkA.trans hk3, by rw [HE.out, hr]; rfl⟩
 ·have hd : decide (p.cur = 92) = false := by simpa using (show ¬ p.cur = 92 from hx)
  have HE : Hid (innS p.s least p.ix = if 0 ≤ at' p.s p.ix ∧ (!decide (at' p.s p.ix = 91 ∨ at' p.s p.ix = 93 ∨ at' p.s p.ix = 45 ∨ at' p.s p.ix = 94) && decide (least ≤ at' p.s p.ix)) = true then .ok (at' p.s p.ix) (p.ix + 1) else .bad p.ix) := by
   show innS p.s least p.ix = _
   unfold innS
   rw [if_neg hx]
   by_cases hc : at' p.s p.ix < 0 ∨ at' p.s p.ix = 91 ∨ at' p.s p.ix = 93 ∨ at' p.s p.ix = 45 ∨ at' p.s p.ix = 94 ∨ at' p.s p.ix < least
   ·rw [if_pos hc, if_neg]
    rintro ⟨a, bb⟩
    simp at bb
    omega
   ·rw [if_neg hc, if_pos]
    refine ⟨by omega, ?_⟩
    have h1 : ¬ (at' p.s p.ix = 91 ∨ at' p.s p.ix = 93 ∨ at' p.s p.ix = 45 ∨ at' p.s p.ix = 94) := by omega
    have h2 : least ≤ at' p.s p.ix := by omega
    simp only [decide_eq_false h1, decide_eq_true h2]; rfl
  clear hx
  rw [hd]
  go_wp2_with fail
  refine (take_may b p 300 _ _ _ hq1 hs hle (fun h => may_inn1 h hcb.2 hl2) (if 0 ≤ at' p.s p.ix ∧ (!decide (at' p.s p.ix = 91 ∨ at' p.s p.ix = 93 ∨ at' p.s p.ix = 45 ∨ at' p.s p.ix = 94) && decide (least ≤ at' p.s p.ix)) = true then .ok (at' p.s p.ix) (p.ix + 1) else .bad p.ix) rfl).mono ?_
  rintro e w3 ⟨hk3, hc3⟩
  by_cases hc : 0 ≤ at' p.s p.ix ∧ (!decide (at' p.s p.ix = 91 ∨ at' p.s p.ix = 93 ∨ at' p.s p.ix = 45 ∨ at' p.s p.ix = 94) && decide (least ≤ at' p.s p.ix)) = true
  ·rw [if_pos hc] at hc3
   obtain ⟨rfl, hq3⟩ := hc3
   have HE2 : Hid (innS p.s least p.ix = .ok (at' p.s p.ix) (p.ix + 1)) := by show innS p.s least p.ix = _; rw [HE.out, if_pos hc]
   clear hc
   go_wp2_with fail
   go_ret
   refine ⟨hkA.trans hk3, ?_⟩
   rw [HE2.out]
   exact ⟨rfl, hq3⟩
  ·rw [if_neg hc] at hc3
   subst hc3
   simp only [fault]
   exact ⟨rfl, hkA.trans hk3, by rw [HE.out, if_neg hc]; rfl⟩
end Go.Proofs.YtnfojonmohijpaaGreatDoor
namespace Go.Proofs.YtnfojonmohijpaaGreatDoor
open Go.RowKit
def GN (w : World) : Prop := ∃ t fr, w.heap[6]? = some (.cells ncells t fr)
theorem GN.lt {w : World} (H : GN w) : 6 < w.heap.size := by
 obtain ⟨t, fr, h⟩ := H
 exact (Array.getElem?_eq_some_iff.1 h).1
theorem GN.keep {w w' : World} {S : List Nat} (H : GN w) (hk : Keeps S w w') (hb : 6 ∉ S) : GN w' := by
 have hl := H.lt
 obtain ⟨t, fr, h⟩ := H
 exact ⟨t, fr, (hk.block _ hl hb).trans h⟩
theorem idx_n0 (w : World) : (Instr.index 357 (.agg ncells) (.int .i64 0)).run Tryz.prog w = .ok (.string (nmB (nm 0))) w := by kernel_rfl
theorem idx_n1 (w : World) : (Instr.index 357 (.agg ncells) (.int .i64 1)).run Tryz.prog w = .ok (.string (nmB (nm 1))) w := by kernel_rfl
theorem idx_n2 (w : World) : (Instr.index 357 (.agg ncells) (.int .i64 2)).run Tryz.prog w = .ok (.string (nmB (nm 2))) w := by kernel_rfl
theorem idx_n3 (w : World) : (Instr.index 357 (.agg ncells) (.int .i64 3)).run Tryz.prog w = .ok (.string (nmB (nm 3))) w := by kernel_rfl
theorem idx_n4 (w : World) : (Instr.index 357 (.agg ncells) (.int .i64 4)).run Tryz.prog w = .ok (.string (nmB (nm 4))) w := by kernel_rfl
theorem idx_n5 (w : World) : (Instr.index 357 (.agg ncells) (.int .i64 5)).run Tryz.prog w = .ok (.string (nmB (nm 5))) w := by kernel_rfl
theorem idx_n6 (w : World) : (Instr.index 357 (.agg ncells) (.int .i64 6)).run Tryz.prog w = .ok (.string (nmB (nm 6))) w := by kernel_rfl
theorem idx_names {k : Nat} (hk : k < 7) (w : World) : (Instr.index 357 (.agg ncells) (.int .i64 (k : Int))).run Tryz.prog w = .ok (.string (nmB (nm k))) w :=
 match k, hk with
 | 0, _ => idx_n0 w
 | 1, _ => idx_n1 w
 | 2, _ => idx_n2 w
 | 3, _ => idx_n3 w
 | 4, _ => idx_n4 w
 | 5, _ => idx_n5 w
 | 6, _ => idx_n6 w
set_option maxRecDepth 100000 in
set_option maxHeartbeats 400000 in
theorem isClass_any (word : List UInt8) (w : World) (hg : GN w) :
    Calls Tryz.prog 297 #[.string (nmB word)] w fun e w' => e = .returned (.bool (decide (word ∈ names))) ∧ w' = w := by
 obtain ⟨t, fr, hg⟩ := hg
 go_enter Tryz.func297, Tryz.ntmps297
 go_wp2_with (refine wpList_load_row rfl 357 _ rfl 6 rfl t _ fr _ hg Tryz.underlying357 rfl (by kernel_rfl) ?_)
 clear hg
 have hnc : ∀ k : Nat, k < 7 → ∀ w, (Instr.index 357 (.agg ncells) (.int .i64 (k : Int))).run Tryz.prog w = .ok (.string (nmB (nm k))) w := fun k h w => idx_names h w
 generalize ncells = NC at *
 go_loop [6] (fun q => ∃ k : Nat, k ≤ 7 ∧ q = .int .i64 k ∧ Hid (∀ j, j < k → nm j ≠ word)) (fun q => 7 - (intOf q).toNat)
 case atStart => exact ⟨0, by omega, rfl, fun j hj => by omega⟩
 case round =>
  obtain ⟨k, hk7, rfl, hno⟩ := hrel
  by_cases hlt7 : k < 7
  ·have hix := hnc k hlt7
   have hk7i : (k : Int) < 7 := by omega
   have hk7j : (0 : Int) ≤ (k : Int) := by omega
   by_cases heq : nm k = word
   ·have heqb : ((nmB word).toList == (nmB (nm k)).toList) = true := by rw [eqL]; simpa using heq.symm
    have HE : Hid (word ∈ names) := by show word ∈ names; rw [← heq]; exact nm_mem hlt7
    clear heq hnc
    go_wp2
    go_ret
    exact ⟨by rw [decide_eq_true HE.out]; rfl, rfl⟩
   ·have heqb : ((nmB word).toList == (nmB (nm k)).toList) = false := by rw [eqL]; simpa using fun h => heq h.symm
    have HE : Hid (∀ j, j < k + 1 → nm j ≠ word) := fun j hj => by
     by_cases e : j = k
     ·subst e; exact heq
     ·exact hno.out j (by omega)
    clear heq hnc
    go_wp2
    go_round
    case rel => exact ⟨k + 1, by omega, by go_num, HE⟩
    case measure => simp [intOf]; omega
  ·have e : k = 7 := by omega
   subst e
   have HE : Hid (¬ word ∈ names) := by
    show ¬ word ∈ names
    intro hm
    have := find_none hno.out
    rw [List.findIdx?_eq_none_iff] at this
    have := this word hm
    simp at this
   clear hnc
   go_wp2
   go_ret
   exact ⟨by rw [decide_eq_false HE.out]; rfl, rfl⟩
def preB (a b : List UInt8) : Bool := decide (b.length ≤ a.length) && decide (a.take b.length = b)
set_option maxRecDepth 100000 in
set_option maxHeartbeats 400000 in
theorem prefixLite_any (a b : List UInt8) (ha : a.length ≤ 60) (hb : b.length ≤ 60) (w : World) :
    Calls Tryz.prog 233 #[.string (nmB a), .string (nmB b)] w fun e w' => e = .returned (.bool (preB a b)) ∧ w' = w := by
 have hza : (nmB a).size = a.length := nmB_size a
 have hzb : (nmB b).size = b.length := nmB_size b
 by_cases hl : b.length ≤ a.length
 ·have hl2 : ((nmB b).size : Int) ≤ ((nmB a).size : Int) := by omega
  have hl3 : (nmB b).size ≤ (nmB a).size := by omega
  have HX := eqX a b (nmB b).size
  have HP : Hid (preB a b = decide (a.take (nmB b).size = b)) := by show preB a b = _; unfold preB; rw [decide_eq_true hl, hzb]; rfl
  have hA : ((nmB a).size : Int) ≤ 60 := by omega
  have hB : ((nmB b).size : Int) ≤ 60 := by omega
  clear hl hza hzb
  go_enter Tryz.func233, Tryz.ntmps233
  go_wp2
  go_ret
  exact ⟨by rw [HP.out]; first | rfl | (rw [← HX]; rfl), rfl⟩
 ·have hl2 : ¬ ((nmB b).size : Int) ≤ ((nmB a).size : Int) := by omega
  have HP : Hid (preB a b = false) := by show preB a b = _; unfold preB; rw [decide_eq_false hl]; rfl
  have hA : ((nmB a).size : Int) ≤ 60 := by omega
  have hB : ((nmB b).size : Int) ≤ 60 := by omega
  clear hl hza hzb
  go_enter Tryz.func233, Tryz.ntmps233
  go_wp2
  go_ret
  exact ⟨by rw [HP.out]; rfl, rfl⟩
set_option maxHeartbeats 400000 in
theorem prefix_any (a b : List UInt8) (ha : a.length ≤ 60) (hb : b.length ≤ 60) (w : World) :
    Calls Tryz.prog 194 #[.string (nmB a), .string (nmB b)] w fun e w' => e = .returned (.bool (preB a b)) ∧ w' = w := by
 go_enter Tryz.func194, Tryz.ntmps194
 go_wp2_with (go_at_call 233; refine (prefixLite_any a b ha hb _).mono ?_; rintro e w' ⟨rfl, rfl⟩)
 go_ret
 exact ⟨rfl, rfl⟩
def begB (b : List UInt8) : Bool := names.any fun n => preB n b
theorem begB_false {b : List UInt8} (h : ∀ j, j < 7 → preB (nm j) b = false) : begB b = false := by
 unfold begB
 rw [List.any_eq_false]
 intro n hn
 obtain ⟨j, hj, rfl⟩ := List.mem_iff_getElem.1 hn
 have hj7 : j < 7 := by rw [names_count] at hj; exact hj
 rw [← nm_get hj7, h j hj7]; simp
theorem begB_true {b : List UInt8} {j : Nat} (hj : j < 7) (h : preB (nm j) b = true) : begB b = true := by
 unfold begB
 rw [List.any_eq_true]
 exact ⟨nm j, nm_mem hj, h⟩
set_option maxRecDepth 100000 in
set_option maxHeartbeats 400000 in
theorem begins_any (word : List UInt8) (hw : word.length ≤ 60) (w : World) (hg : GN w) :
    Calls Tryz.prog 299 #[.string (nmB word)] w fun e w' => e = .returned (.bool (begB word)) ∧ w' = w := by
 obtain ⟨t, fr, hg⟩ := hg
 go_enter Tryz.func299, Tryz.ntmps299
 go_wp2_with (refine wpList_load_row rfl 357 _ rfl 6 rfl t _ fr _ hg Tryz.underlying357 rfl (by kernel_rfl) ?_)
 clear hg
 have hnc : ∀ k : Nat, k < 7 → ∀ w, (Instr.index 357 (.agg ncells) (.int .i64 (k : Int))).run Tryz.prog w = .ok (.string (nmB (nm k))) w := fun k h w => idx_names h w
 generalize ncells = NC at *
 go_loop [6] (fun q => ∃ k : Nat, k ≤ 7 ∧ q = .int .i64 k ∧ Hid (∀ j, j < k → preB (nm j) word = false)) (fun q => 7 - (intOf q).toNat)
 case atStart => exact ⟨0, by omega, rfl, fun j hj => by omega⟩
 case round =>
  obtain ⟨k, hk7, rfl, hno⟩ := hrel
  by_cases hlt7 : k < 7
  ·have hix := hnc k hlt7
   have hk7i : (k : Int) < 7 := by omega
   have hk7j : (0 : Int) ≤ (k : Int) := by omega
   have PX := fun w => prefix_any (nm k) word (by rw [nm_len hlt7]; omega) hw w
   cases heq : preB (nm k) word
   ·have HE : Hid (∀ j, j < k + 1 → preB (nm j) word = false) := fun j hj => by
       by_cases e : j = k
       ·subst e; exact heq
       ·exact hno.out j (by omega)
    rw [heq] at PX
    clear heq hnc
    go_wp2_with (go_at_call 194; refine (PX _).mono ?_; rintro e w' ⟨rfl, rfl⟩)
    go_round
    case rel => exact ⟨k + 1, by omega, by go_num, HE⟩
    case measure => simp [intOf]; omega
   ·have HE : Hid (begB word = true) := begB_true hlt7 heq
    rw [heq] at PX
    clear heq hnc
    go_wp2_with (go_at_call 194; refine (PX _).mono ?_; rintro e w' ⟨rfl, rfl⟩)
    go_ret
    exact ⟨by rw [HE.out]; rfl, rfl⟩
  ·have e : k = 7 := by omega
   subst e
   have HE : Hid (begB word = false) := begB_false hno.out
   clear hnc
   go_wp2
   go_ret
   exact ⟨by rw [HE.out]; rfl, rfl⟩
theorem preB_snoc (n word : List UInt8) (c : UInt8) : preB n (word ++ [c]) = fit1 word (c.toNat : Int) n := by
 unfold preB fit1
 by_cases hl : word.length < n.length
 ·have h1 : (word ++ [c]).length ≤ n.length := by simp; omega
  rw [decide_eq_true hl, decide_eq_true h1, Bool.true_and, Bool.true_and]
  have e : n.take (word ++ [c]).length = n.take word.length ++ [n.getD word.length 0] := by
   rw [List.length_append, List.length_singleton, List.take_succ_eq_append_getElem hl, List.getD_eq_getElem?_getD, List.getElem?_eq_getElem hl]; rfl
  rw [e]
  by_cases h2 : n.take word.length = word
  ·rw [decide_eq_true h2, Bool.true_and, h2]
   by_cases h3 : n.getD word.length 0 = c
   ·rw [h3]; simp
   ·have : ¬ ((n.getD word.length 0).toNat : Int) = (c.toNat : Int) := fun h => h3 (UInt8.toNat_inj.1 (by omega))
    rw [decide_eq_false this]
    simp only [decide_eq_false_iff_not]
    intro h
    have := List.append_cancel_left h
    simp at this
    exact h3 (by simpa using this)
  ·rw [decide_eq_false h2, Bool.false_and]
   simp only [decide_eq_false_iff_not]
   intro h
   exact h2 (List.append_inj_left' h rfl)
 ·have h1 : ¬ (word ++ [c]).length ≤ n.length := by simp; omega
  rw [decide_eq_false hl, decide_eq_false h1]; rfl
theorem begB_snoc (word : List UInt8) (c : UInt8) : begB (word ++ [c]) = goesOn word (c.toNat : Int) := by
 unfold begB
 show _ = names.any (fit1 word (c.toNat : Int))
 congr 1
 funext n
 exact preB_snoc n word c
end Go.Proofs.YtnfojonmohijpaaGreatDoor
namespace Go.Proofs.YtnfojonmohijpaaGreatDoor
open Go.RowKit
def byteV (u : UInt8) : Value := .int .u8 (u.toNat : Int)
def BY (w : World) (base : Nat) (v : Value) (word : List UInt8) : Prop := w.ownsRow base 5 1 v word.length (word.map byteV)
theorem push_bytes (l : List UInt8) (s : ByteArray) : (l.map fun u => (u.toNat : Int)).foldl (fun r n => r.push (UInt8.ofNat n.toNat)) s = s ++ nmB l := by
 induction l generalizing s with
 | nil =>
  apply ByteArray.ext
  simp [nmB, ByteArray.data_append]
 | cons u l ih =>
  rw [List.map_cons, List.foldl_cons, ih]
  apply ByteArray.ext
  apply Array.ext'
  simp [nmB, ByteArray.data_append, ByteArray.data_push]
theorem conv_name (w : World) (base : Nat) (v : Value) (word : List UInt8) (h : BY w base v word) : (convert 64 9 v).run Tryz.prog w = .ok (.string (nmB word)) w := by
 have hl := h.1
 rcases h.2 with ⟨rfl, hn⟩ | ⟨g, cap, cur, rfl, hb, hgg, hnc, hcm, hcs, htk⟩
 ·have : word = [] := List.length_eq_zero_iff.1 hn
  subst this
  rw [run_convert_bytes_string w _ _ 5 none 0 0 Tryz.underlying64 Tryz.underlying5 Tryz.underlying9]
  rfl
 ·rw [run_convert_bytes_string w _ _ 5 _ _ _ Tryz.underlying64 Tryz.underlying5 Tryz.underlying9]
  have hld : (loadCells ⟨g, 0, none⟩ word.length).run Tryz.prog w = .ok ((word.map fun u => (u.toNat : Int)).map (Value.int .u8)).toArray w := by
   have := run_loadCells_list (P := Tryz.prog) w ⟨g, 0, none⟩ (word.map byteV) (World.ownsRow.cells h rfl)
   rw [List.length_map] at this
   rw [this, List.map_map]
   rfl
  rw [run_bytesToString w _ _ _ _ hld, push_bytes]
  congr 2
theorem BY.keep {w w' : World} {base : Nat} {v : Value} {word : List UInt8} {S : List Nat} (h : BY w base v word) (hk : Keeps S w w') (hs : ∀ g, v.ownBlock = some g → g ∉ S) : BY w' base v word := World.ownsRow.keep h hk hs
theorem conv_one (w : World) (u : UInt8) : (convert 64 9 (.slice (some ⟨w.heap.size, 0, none⟩) 1 1)).run Tryz.prog (w.alloc (.cells #[.int .u8 (u.toNat : Int)] 5)) = .ok (.string (nmB [u])) (w.alloc (.cells #[.int .u8 (u.toNat : Int)] 5)) :=
 conv_name _ 0 _ [u] ⟨by simp, Or.inr ⟨_, 1, #[.int .u8 (u.toNat : Int)], rfl, Nat.zero_le _, heap_alloc_new w _, Nat.le_refl _, by decide, rfl, rfl⟩⟩
theorem nmB_append (a b : List UInt8) : nmB a ++ nmB b = nmB (a ++ b) := by
 apply ByteArray.ext
 simp [nmB, ByteArray.data_append]
set_option maxRecDepth 100000 in
set_option maxHeartbeats 1000000 in
theorem cls1_any (u : UInt8) (nb base : Nat) (v : Value) (word : List UInt8) (hw : word.length ≤ 10) (w : World) (hc : w.cell? ⟨nb, 0, none⟩ = some v) (hby : BY w base v word) (hg : GN w) :
    Calls Tryz.prog 298 #[.int .u8 (u.toNat : Int), .pointer (some ⟨nb, 0, none⟩)] w fun e w' => e = .returned (.bool (goesOn word (u.toNat : Int))) ∧ Keeps [] w w' := by
 have hcv := conv_name w base v word hby
 have hc1 := fun w => conv_one w u
 have hsz : ¬ 9223372036854775807 < (nmB word).size + (nmB [u]).size := by rw [nmB_size, nmB_size]; simp; omega
 have hap := nmB_append word [u]
 have hg2 : GN (w.alloc (.cells #[.int .u8 (u.toNat : Int)] 5)) := hg.keep ((Keeps.refl [] w).alloc _) (by simp)
 have BE := begins_any (word ++ [u]) (by simp; omega) _ hg2
 rw [begB_snoc, ← hap] at BE
 clear hap hg2
 go_enter Tryz.func298, Tryz.ntmps298
 go_wp2_with (go_at_call 299; refine BE.mono ?_; rintro e w' ⟨rfl, rfl⟩)
 go_ret
 exact ⟨rfl, (Keeps.refl [] w).alloc _⟩
theorem cf_cls1 (args : Array Value) (w : World) : (callFunc 298 args).run Tryz.prog w = .ok (.enter 298 args) w := by kernel_rfl
theorem may_cls1 (u : UInt8) (nb base : Nat) (v : Value) (word : List UInt8) (hw : word.length ≤ 10) (w : World) (hc : w.cell? ⟨nb, 0, none⟩ = some v) (hby : BY w base v word) (hg : GN w) :
    May 298 #[.pointer (some ⟨nb, 0, none⟩)] (u.toNat : Int) (goesOn word (u.toNat : Int)) w :=
 ⟨cf_cls1, fun w1 hk => cls1_any u nb base v word hw w1 (keep_cell hk hc) (hby.keep hk (by simp)) (hg.keep hk (by simp))⟩
end Go.Proofs.YtnfojonmohijpaaGreatDoor
