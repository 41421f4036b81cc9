/-
  DERIVED. The program's rows of sets of places, by the stretches that they say; bytesOf. Conditions: the text is at most 100 bytes long.
-/
import Derived.Test.YtnfojonmohijpabGreatDoorJNC
import Derived.Test.YtnfojonmohijpabGreatDoorJSpec
import Derived.Test.YtnfojonmohijpabGreatDoorJMA
import Derived.Laws.Rows
import Derived.Laws.Tables
import Derived.KernelRfl
import Derived.Lib.Bytealg
import Derived.Laws.StandIn
set_option linter.unusedSimpArgs false
set_option linter.unusedVariables false
namespace Go.Proofs.YtnfojonmohijpabGreatDoor
open Go.RowKit
def MP (w : World) (S : Nat → Prop) (N : Nat) (v : Value) (R : Nat → Nat → Prop) : Prop :=
 ∃ g c f, v = .slice (some ⟨g, 0, none⟩) N c ∧ MV w (.slice (some ⟨g, 0, none⟩) N c) N f ∧ S g ∧ ∀ i j, i < N → j < N → (f i j = true ↔ R i j)
theorem MP.keep {w w' : World} {S : Nat → Prop} {L : List Nat} {N : Nat} {v : Value} {R : Nat → Nat → Prop} (h : MP w S N v R) (hk : Keeps L w w') (hs : ∀ g, S g → g ∉ L) : MP w' S N v R := by
 obtain ⟨g, c, f, e, hm, hg, hr⟩ := h
 exact ⟨g, c, f, e, hm.keep hk (fun x hx => by simp only [Value.ownBlock, Option.some.injEq] at hx; subst hx; exact hs _ hg), hg, hr⟩
theorem MP.mono {w : World} {S S' : Nat → Prop} {N : Nat} {v : Value} {R : Nat → Nat → Prop} (h : MP w S N v R) (hs : ∀ g, S g → g < w.heap.size → S' g) : MP w S' N v R := by
 obtain ⟨g, c, f, e, hm, hg, hr⟩ := h
 exact ⟨g, c, f, e, hm, hs g hg (World.ownsRow.lt hm g rfl).2, hr⟩
theorem MP.congr {w : World} {S : Nat → Prop} {N : Nat} {v : Value} {R R' : Nat → Nat → Prop} (h : MP w S N v R) (e : ∀ i j, i < N → j < N → (R i j ↔ R' i j)) : MP w S N v R' := by
 obtain ⟨g, c, f, e', hm, hg, hr⟩ := h
 exact ⟨g, c, f, e', hm, hg, fun i j hi hj => (hr i j hi hj).trans (e i j hi hj)⟩
theorem MP.one {w : World} {S : Nat → Prop} {N : Nat} {v : Value} {R : Nat → Nat → Prop} (h : MP w S N v R) : v.oneCell' = true ∧ v.cells = #[v] := by
 obtain ⟨g, c, f, rfl, _⟩ := h
 exact ⟨rfl, rfl⟩
def NewMP (w : World) (N : Nat) (R : Nat → Nat → Prop) (e : Ending) (w' : World) : Prop := ∃ v, e = .returned v ∧ MP w' (fun g => w.heap.size ≤ g) N v R ∧ Keeps [] w w'
theorem NewMap.toMP {w w' : World} {N : Nat} {f : Nat → Nat → Bool} {R : Nat → Nat → Prop} {e : Ending} (h : NewMap w N f e w') (hr : ∀ i j, i < N → j < N → (f i j = true ↔ R i j)) : NewMP w N R e w' := by
 obtain ⟨g, rfl, hm, hk, hg⟩ := h
 exact ⟨_, rfl, ⟨g, N, f, rfl, hm, hg, hr⟩, hk⟩
theorem none_mp (n N : Nat) (HN : Hid (N = n + 1)) (hn : n ≤ 100) (w : World) : Calls Tryz.prog 67 #[.int .i64 n] w (NewMP w N fun _ _ => False) := (none_any n N HN hn w).mono fun e w' h => h.toMP fun i j _ _ => by simp
theorem empty_mp (n N : Nat) (HN : Hid (N = n + 1)) (hn : n ≤ 100) (w : World) : Calls Tryz.prog 102 #[.int .i64 n] w (NewMP w N fun i j => i = j) := (empty_any n N HN hn w).mono fun e w' h => h.toMP fun i j _ _ => by simp
theorem or_mp (N : Nat) (hN : N ≤ 101) {S1 S2 : Nat → Prop} {v1 v2 : Value} {R1 R2 : Nat → Nat → Prop} (w : World) (h1 : MP w S1 N v1 R1) (h2 : MP w S2 N v2 R2) : Calls Tryz.prog 69 #[v1, v2] w (NewMP w N fun i j => R1 i j ∨ R2 i j) := by
 obtain ⟨g1, c1, f1, rfl, m1, _, r1⟩ := h1
 obtain ⟨g2, c2, f2, rfl, m2, _, r2⟩ := h2
 exact (or_any N hN g1 c1 g2 c2 f1 f2 w m1 m2).mono fun e w' h => h.toMP fun i j hi hj => by rw [Bool.or_eq_true, r1 i j hi hj, r2 i j hi hj]
theorem then_mp (N : Nat) (hN : N ≤ 101) {S1 S2 : Nat → Prop} {v1 v2 : Value} {R1 R2 : Nat → Nat → Prop} (hle : ∀ i j, R1 i j → i ≤ j) (hin : ∀ i j, R1 i j → i < N → j < N) (w : World) (h1 : MP w S1 N v1 R1) (h2 : MP w S2 N v2 R2) : Calls Tryz.prog 105 #[v1, v2] w (NewMP w N fun i j => ∃ m, R1 i m ∧ R2 m j) := by
 obtain ⟨g1, c1, f1, rfl, m1, _, r1⟩ := h1
 obtain ⟨g2, c2, f2, rfl, m2, _, r2⟩ := h2
 refine (then_any N hN g1 c1 g2 c2 f1 f2 w m1 m2).mono fun e w' h => h.toMP fun i j hi hj => ?_
 rw [thenB_iff]
 constructor
 ·rintro ⟨m, a, b, c, d⟩; exact ⟨m, (r1 i m hi b).1 c, (r2 m j b hj).1 d⟩
 ·rintro ⟨m, a, b⟩
  have hm := hin i m a hi
  exact ⟨m, hle i m a, hm, (r1 i m hi hm).2 a, (r2 m j hm hj).2 b⟩
theorem star_mp (N n : Nat) (HN : Hid (N = n + 1)) (hn : n ≤ 100) {S : Nat → Prop} {v : Value} {R : Nat → Nat → Prop} (hle : ∀ i j, R i j → i ≤ j) (hin : ∀ i j, R i j → i < N → j < N) (w : World) (h : MP w S N v R) : Calls Tryz.prog 162 #[v] w (NewMP w N (Tm R 0 (-1))) := by
 obtain ⟨g, c, f, rfl, m, _, r⟩ := h
 refine (anyTimes_any N n HN hn g c R f r hle hin w m).mono ?_
 rintro e w' ⟨h, hm, hr⟩
 exact hm.toMP hr
theorem longest_mp (N : Nat) (hN : N ≤ 101) {S1 S2 : Nat → Prop} {v1 v2 : Value} {R1 R2 : Nat → Nat → Prop} (i j : Nat) (hij : i ≤ j) (hj : j < N) (w : World) (h1 : MP w S1 N v1 R1) (h2 : MP w S2 N v2 R2) :
    Calls Tryz.prog 111 #[v1, v2, .int .i64 i, .int .i64 j] w fun e w' => ∃ c : Nat, e = .returned (.int .i64 c) ∧ Cut (fun m => R1 i m ∧ R2 m j) i j c ∧ Keeps [] w w' := by
 obtain ⟨g1, c1, f1, rfl, m1, _, r1⟩ := h1
 obtain ⟨g2, c2, f2, rfl, m2, _, r2⟩ := h2
 refine (longest_any N hN g1 c1 g2 c2 f1 f2 i j hij hj w m1 m2).mono ?_
 rintro e w' ⟨c, rfl, hc, hk⟩
 refine ⟨c, rfl, ⟨hc.1, hc.2.1, fun h => ?_, fun m a b => ?_⟩, hk⟩
 ·have hcN : c < N := by have := hc.2.1; omega
  obtain ⟨x, y⟩ := hc.2.2.1 h
  exact ⟨(r1 i c (by omega) hcN).1 x, (r2 c j hcN hj).1 y⟩
 ·rintro ⟨x, y⟩
  exact hc.2.2.2 m a b ⟨(r1 i m (by omega) (by omega)).2 x, (r2 m j (by omega) hj).2 y⟩
theorem has_mp (N : Nat) (hN : N ≤ 101) {S : Nat → Prop} {v : Value} {R : Nat → Nat → Prop} (w : World) (h : MP w S N v R) (i : Nat) (hi : i < N) : ∃ g c f, v = .slice (some ⟨g, 0, none⟩) N c ∧ w.rangeAt g (i * 2) [.int .u64 (wk f 0), .int .u64 (wk f 1)] ∧ (∀ j, j < N → (f j = true ↔ R i j)) ∧ S g ∧ g < w.heap.size := by
 obtain ⟨g, c, f, rfl, m, hg, r⟩ := h
 exact ⟨g, c, f i, rfl, m.range hi, fun j hj => r i j hi hj, hg, (World.ownsRow.lt m g rfl).2⟩
end Go.Proofs.YtnfojonmohijpabGreatDoor
namespace Go.Proofs.YtnfojonmohijpabGreatDoor
theorem NumL.total (s : ByteArray) (least : Nat) : ∀ (k n : Nat) (any : Bool) (i : Nat), s.size + 1 - i ≤ k → ∃ q, NumL s least n any i q := by
 intro k
 induction k with
 | zero =>
  intro n any i hk
  have hd : digB (at' s i) = false := by rw [at'_ge (by omega)]; rfl
  by_cases h : any = false ∨ n < least
  ·exact ⟨_, .short n any i hd h⟩
  ·cases any
   ·exact absurd (Or.inl rfl) h
   ·exact ⟨_, .done n i hd (by omega)⟩
 | succ k ih =>
  intro n any i hk
  cases hd : digB (at' s i) with
  | false =>
   by_cases h : any = false ∨ n < least
   ·exact ⟨_, .short n any i hd h⟩
   ·cases any
    ·exact absurd (Or.inl rfl) h
    ·exact ⟨_, .done n i hd (by omega)⟩
  | true =>
   have hb : 48 ≤ at' s i ∧ at' s i ≤ 57 := by simp [digB] at hd; exact hd
   have hlt := at'_nn (s := s) (i := i) (by omega)
   have hx : (((10 * n + (at' s i - 48).toNat : Nat)) : Int) = 10 * n + (at' s i - 48) := by omega
   by_cases h : 10 * n + (at' s i - 48).toNat ≤ 5 ∧ (10 * n + (at' s i - 48).toNat = 0 ∨ least ≤ 10 * n + (at' s i - 48).toNat)
   ·obtain ⟨q, hq⟩ := ih (10 * n + (at' s i - 48).toNat) true (i + 1) (by omega)
    exact ⟨q, .dig n _ any i q hd hx h.1 h.2 hq⟩
   ·exact ⟨_, .big n _ any i hd hx h⟩
theorem NumL.some (s : ByteArray) (least n : Nat) (any : Bool) (i : Nat) : ∃ q, NumL s least n any i q := NumL.total s least _ n any i (Nat.le_refl _)
theorem RepR.some (s : ByteArray) (j : Nat) : ∃ q, RepR s j q := by
 by_cases h1 : at' s j = 42
 ·exact ⟨_, Or.inr (Or.inl ⟨h1, rfl⟩)⟩
 by_cases h2 : at' s j = 43
 ·exact ⟨_, Or.inr (Or.inr (Or.inl ⟨h2, rfl⟩))⟩
 by_cases h3 : at' s j = 63
 ·exact ⟨_, Or.inr (Or.inr (Or.inr (Or.inl ⟨h3, rfl⟩)))⟩
 by_cases h4 : at' s j = 123
 ·obtain ⟨q1, hq1⟩ := NumL.some s 0 0 false (j + 1)
  have : ∃ q, Rep2 s q1 q := by
   cases q1 with
   | bad k => exact ⟨_, rfl⟩
   | ok m k =>
    by_cases h5 : at' s k = 44
    ·by_cases h6 : at' s (k + 1) = 125
     ·exact ⟨_, Or.inl ⟨h5, h6, rfl⟩⟩
     ·obtain ⟨q2, hq2⟩ := NumL.some s m 0 false (k + 1)
      cases q2 with
      | bad l => exact ⟨_, Or.inr (Or.inl ⟨h5, h6, _, hq2, rfl⟩)⟩
      | ok n l => exact ⟨_, Or.inr (Or.inl ⟨h5, h6, _, hq2, rfl⟩)⟩
    ·exact ⟨_, Or.inr (Or.inr ⟨h5, rfl⟩)⟩
  obtain ⟨q, hq⟩ := this
  exact ⟨q, Or.inr (Or.inr (Or.inr (Or.inr ⟨h4, q1, hq1, hq⟩)))⟩
 ·exact ⟨_, Or.inl ⟨h1, h2, h3, h4, rfl⟩⟩
end Go.Proofs.YtnfojonmohijpabGreatDoor
namespace Go.Proofs.YtnfojonmohijpabGreatDoor
open Go.RowKit
theorem blitL : ∀ (l A B C : List Value) (off k : Nat), B.length = l.length → off + k = A.length →
    List.foldl (fun (cs : Array Value) (p : Value × Nat) => cs.setIfInBounds (off + p.2) p.1) (A ++ B ++ C).toArray (l.zipIdx k) = (A ++ l ++ C).toArray := by
 intro l
 induction l with
 | nil =>
  intro A B C off k hB _
  have : B = [] := List.length_eq_zero_iff.1 (by simpa using hB)
  subst this
  rfl
 | cons c l ih =>
  intro A B C off k hB hk
  cases B with
  | nil => simp at hB
  | cons b B =>
   rw [List.zipIdx_cons, List.foldl_cons]
   have e : (A ++ b :: B ++ C).toArray.setIfInBounds (off + k) c = ((A ++ [c]) ++ B ++ C).toArray := by
    rw [hk]
    apply Array.ext'
    simp
   show List.foldl _ ((A ++ b :: B ++ C).toArray.setIfInBounds (off + k) c) _ = _
   rw [e, ih (A ++ [c]) B C off (k + 1) (by simpa using hB) (by simp; omega)]
   simp
theorem blit (vs : Array Value) (A B C : List Value) (h : B.length = vs.size) :
    vs.zipIdx.foldl (fun (cs : Array Value) (p : Value × Nat) => cs.setIfInBounds (A.length + p.2) p.1) (A ++ B ++ C).toArray = (A ++ vs.toList ++ C).toArray := by
 have e := blitL vs.toList A B C A.length 0 (by simpa using h) (by omega)
 rw [← e, ← Array.foldl_toList, Array.toList_zipIdx]
theorem fill_one (place : Nat → Option (Nat × Nat)) (i : Nat) (v : Value) (rest : List (Nat × Value)) (A B C : List Value) (hp : place i = some (A.length, B.length)) (hv : v.cells.size = B.length) :
    Instr.fill place (A ++ B ++ C).toArray ((i, v) :: rest) = Instr.fill place (A ++ v.cells.toList ++ C).toArray rest := by
 conv => lhs; unfold Instr.fill
 rw [hp]
 have h1 : (decide (v.cells.size ≠ B.length) || decide (A.length + v.cells.size > (A ++ B ++ C).toArray.size)) = false := by
  rw [hv]; simp
 show (if (decide (v.cells.size ≠ B.length) || decide (A.length + v.cells.size > (A ++ B ++ C).toArray.size)) = true then none else _) = _
 rw [h1, if_neg (by simp)]
 have := blit v.cells A B C hv.symm
 exact congrArg (fun x => Instr.fill place x rest) this
def sc (k : Value) (v : Value) (f : Nat → Bool) : List Value := k :: v :: (hcells f).toList
theorem sc_len (k v : Value) (f : Nat → Bool) : (sc k v f).length = 258 := by simp [sc, hcells_size]
def pz : List Value := sc (.int .i64 0) (.slice none 0 0) (fun _ => false) ++ [Value.bool false, Value.int .i64 0, Value.int .i64 0]
theorem pz_len : pz.length = 261 := by simp [pz, sc_len]
def plS : Nat → Option (Nat × Nat) := fun i => (#[(0, 1), (1, 1), (2, 256)] : Array (Nat × Nat))[i]?
def plP : Nat → Option (Nat × Nat) := fun i => (#[(0, 258), (258, 3)] : Array (Nat × Nat))[i]?
theorem built_single (parts : List (Nat × Value)) : Tryz.prog.built 176 parts = Instr.fill plS (sc (.int .i64 0) (.slice none 0 0) fun _ => false).toArray parts := by kernel_rfl
theorem built_piece (parts : List (Nat × Value)) : Tryz.prog.built 180 parts = Instr.fill plP pz.toArray parts := by kernel_rfl
theorem infoPiece : (Tryz.prog.info? 180).map (fun i => (i.zero, i.size, i.bytes)) = some (some (.agg pz.toArray), 261, 312) := by kernel_rfl
theorem infoWay : (Tryz.prog.info? 146).map (fun i => (i.zero, i.size, i.bytes)) = some (some (.slice none 0 0), 1, 24) := by kernel_rfl
theorem piece_row : ((Array.range (1 * 261)).map (pz.toArray[· % 261]!)) = pz.toArray := by kernel_rfl
theorem piece_fill (pc : List Value) (h : pc.length = 261) : Instr.fill (fun i => some (i * 261, 261)) ((Array.range (1 * 261)).map (pz.toArray[· % 261]!)) [(0, .agg pc.toArray)] = some pc.toArray := by
 rw [piece_row]
 have h1 := fill_one (fun i => some (i * 261, 261)) 0 (.agg pc.toArray) [] [] pz [] (by simp [pz_len]) (by simp [pz_len, Value.cells, h])
 simp only [List.append_nil, List.nil_append, Value.cells] at h1
 exact h1.trans rfl
theorem way_row : ((Array.range (1 * 1)).map ((#[Value.slice none 0 0] : Array Value)[· % 1]!)) = #[Value.slice none 0 0] := by kernel_rfl
theorem way_fill (v : Value) (hv : v.cells = #[v]) : Instr.fill (fun i => some (i * 1, 1)) ((Array.range (1 * 1)).map ((#[Value.slice none 0 0] : Array Value)[· % 1]!)) [(0, v)] = some #[v] := by
 rw [way_row]
 have h1 := fill_one (fun i => some (i * 1, 1)) 0 v [] [] [.slice none 0 0] [] rfl (by rw [hv]; rfl)
 rw [hv] at h1
 exact h1.trans rfl
theorem alloc_single (w : World) : (Instr.alloc 176 true (.tuple #[])).run Tryz.prog w = .ok (.pointer (some ⟨w.heap.size, 0, none⟩)) (w.alloc (.cells (sc (.int .i64 0) (.slice none 0 0) fun _ => false).toArray 176)) := by kernel_rfl
end Go.Proofs.YtnfojonmohijpabGreatDoor
namespace Go.Proofs.YtnfojonmohijpabGreatDoor
open Go.RowKit
inductive Kr where
 | single | piece | plist | way | wlist | ways
def repC : Option (Nat × Int) → List Value
 | none => [.bool false, .int .i64 0, .int .i64 0]
 | some (m, n) => [.bool true, .int .i64 m, .int .i64 n]
theorem repC_len (o : Option (Nat × Int)) : (repC o).length = 3 := by cases o <;> rfl
def okRep : Option (Nat × Int) → Prop
 | none => True
 | some (m, n) => m ≤ 5 ∧ (n = -1 ∨ ∃ k : Nat, n = k ∧ k ≤ 5)
theorem RepR.okRep {s : ByteArray} {j k : Nat} {o : Option (Nat × Int)} (h : RepR s j (.ok o k)) : okRep o := by
 rcases h with ⟨a, b, c, d, e⟩ | ⟨a, e⟩ | ⟨a, e⟩ | ⟨a, e⟩ | ⟨a, q1, n, e⟩
 ·cases e; trivial
 ·cases e; exact ⟨by omega, Or.inl rfl⟩
 ·cases e; exact ⟨by omega, Or.inl rfl⟩
 ·cases e; exact ⟨by omega, Or.inr ⟨1, rfl, by omega⟩⟩
 ·cases q1 with
  | bad l => cases e
  | ok m l =>
   have hl := (n.ok m l rfl).2.2.1 (by omega)
   rcases e with ⟨a, b, e⟩ | ⟨a, b, q2, n', e⟩ | ⟨a, e⟩
   ·cases e; exact ⟨hl, Or.inl rfl⟩
   ·cases q2 with
    | bad x => cases e
    | ok y x =>
     have hx := (n'.ok y x rfl).2.2.1 (by omega)
     simp only [Rep3] at e
     by_cases h5 : at' s x = 125
     ·rw [if_pos h5] at e; cases e; exact ⟨hl, Or.inr ⟨y, rfl, hx⟩⟩
     ·rw [if_neg h5] at e; cases e
   ·by_cases h5 : at' s l = 125
    ·rw [if_pos h5] at e; cases e; exact ⟨hl, Or.inr ⟨m, rfl, hl⟩⟩
    ·rw [if_neg h5] at e; cases e
inductive Rep (w : World) (S : Nat → Prop) : Kr → Pat → List Value → Prop
 | set (f : Nat → Bool) : Rep w S .single (.set f) (sc (.int .i64 0) (.slice none 0 0) f)
 | grp (k : Nat) (x : Pat) (v : Value) : 0 < k → k ≤ 9 → Rep w S .ways x [v] → Rep w S .single (.grp k x) (sc (.int .i64 k) v fun _ => false)
 | piece (x : Pat) (o : Option (Nat × Int)) (cs : List Value) : okRep o → Rep w S .single x cs → Rep w S .piece (withRep x o) (cs ++ repC o)
 | pnil : Rep w S .plist .pnil []
 | pcons (x r : Pat) (cs ds : List Value) : Rep w S .piece x cs → Rep w S .plist r ds → Rep w S .plist (.pcons x r) (cs ++ ds)
 | way (x : Pat) (cs : List Value) (v : Value) (n : Nat) : Rep w S .plist x cs → w.ownsRow 0 180 261 v n cs → (∀ g, v.ownBlock = some g → S g) → Rep w S .way x [v]
 | wone (x : Pat) (v : Value) : Rep w S .way x [v] → Rep w S .wlist (.wone x) [v]
 | wcons (x r : Pat) (v : Value) (vs : List Value) : Rep w S .way x [v] → Rep w S .wlist r vs → Rep w S .wlist (.wcons x r) (v :: vs)
 | ways (x : Pat) (vs : List Value) (v : Value) (n : Nat) : Rep w S .wlist x vs → w.ownsRow 0 146 1 v n vs → (∀ g, v.ownBlock = some g → S g) → Rep w S .ways x [v]
theorem Rep.keep {w w' : World} {S : Nat → Prop} {L : List Nat} (hk : Keeps L w w') (hs : ∀ g, S g → g ∉ L) {k : Kr} {x : Pat} {cs : List Value} (h : Rep w S k x cs) : Rep w' S k x cs := by
 induction h with
 | set f => exact .set f
 | grp k x v h0 h9 _ ih => exact .grp k x v h0 h9 ih
 | piece x o cs ho _ ih => exact .piece x o cs ho ih
 | pnil => exact .pnil
 | pcons x r cs ds _ _ i1 i2 => exact .pcons x r cs ds i1 i2
 | way x cs v n _ ho hp ih => exact .way x cs v n ih (ho.keep hk fun g hg => hs g (hp g hg)) hp
 | wone x v _ ih => exact .wone x v ih
 | wcons x r v vs _ _ i1 i2 => exact .wcons x r v vs i1 i2
 | ways x vs v n _ ho hp ih => exact .ways x vs v n ih (ho.keep hk fun g hg => hs g (hp g hg)) hp
theorem Rep.mono {w : World} {S S' : Nat → Prop} (hs : ∀ g, S g → g < w.heap.size → S' g) {k : Kr} {x : Pat} {cs : List Value} (h : Rep w S k x cs) : Rep w S' k x cs := by
 have hb : ∀ {e : TypeId} {size : Nat} {v : Value} {n : Nat} {xs : List Value}, w.ownsRow 0 e size v n xs → (∀ g, v.ownBlock = some g → S g) → ∀ g, v.ownBlock = some g → S' g := fun ho hp g hg => hs g (hp g hg) (ho.lt g hg).2
 induction h with
 | set f => exact .set f
 | grp k x v h0 h9 _ ih => exact .grp k x v h0 h9 ih
 | piece x o cs ho _ ih => exact .piece x o cs ho ih
 | pnil => exact .pnil
 | pcons x r cs ds _ _ i1 i2 => exact .pcons x r cs ds i1 i2
 | way x cs v n _ ho hp ih => exact .way x cs v n ih ho (hb ho hp)
 | wone x v _ ih => exact .wone x v ih
 | wcons x r v vs _ _ i1 i2 => exact .wcons x r v vs i1 i2
 | ways x vs v n _ ho hp ih => exact .ways x vs v n ih ho (hb ho hp)
theorem ownsRow_one {w : World} {e : TypeId} {size : Nat} {v : Value} {n : Nat} {xs : List Value} (h : w.ownsRow 0 e size v n xs) : v.oneCell' = true ∧ v.cells = #[v] := by
 rcases h.2 with ⟨rfl, _⟩ | ⟨g, cap, cur, rfl, _⟩ <;> exact ⟨rfl, rfl⟩
theorem Rep.cells {w : World} {S : Nat → Prop} {k : Kr} {x : Pat} {cs : List Value} (h : Rep w S k x cs) :
    (∀ u ∈ cs, u.oneCell' = true) ∧ (match k with | .single => cs.length = 258 | .piece => cs.length = 261 | .way => ∃ v, cs = [v] ∧ v.cells = #[v] | .ways => ∃ v, cs = [v] ∧ v.cells = #[v] | _ => True) := by
 have hc : ∀ f : Nat → Bool, ∀ u ∈ (hcells f).toList, u.oneCell' = true := by
  intro f u hu
  rw [hcells, Array.toList_ofFn, List.mem_ofFn] at hu
  obtain ⟨i, rfl⟩ := hu
  rfl
 induction h with
 | set f =>
  refine ⟨?_, sc_len _ _ _⟩
  intro u hu
  simp only [sc, List.mem_cons] at hu
  rcases hu with rfl | rfl | hu
  ·rfl
  ·rfl
  ·exact hc f u hu
 | grp k x v _ _ _ ih =>
  refine ⟨?_, sc_len _ _ _⟩
  intro u hu
  simp only [sc, List.mem_cons] at hu
  rcases hu with rfl | rfl | hu
  ·rfl
  ·exact ih.1 _ (by simp)
  ·exact hc _ u hu
 | piece x o cs _ _ ih =>
  refine ⟨?_, ?_⟩
  ·intro u hu
   rcases List.mem_append.1 hu with hu | hu
   ·exact ih.1 u hu
   ·cases o with
    | none => simp [repC] at hu; rcases hu with rfl | rfl <;> rfl
    | some p => simp [repC] at hu; rcases hu with rfl | rfl | rfl <;> rfl
  ·have := ih.2
   simp only [List.length_append, repC_len] at this ⊢
   omega
 | pnil => exact ⟨by simp, trivial⟩
 | pcons x r cs ds _ _ i1 i2 =>
  refine ⟨?_, trivial⟩
  intro u hu
  rcases List.mem_append.1 hu with hu | hu
  ·exact i1.1 u hu
  ·exact i2.1 u hu
 | way x cs v n _ ho hp ih => exact ⟨by simpa using (ownsRow_one ho).1, v, rfl, (ownsRow_one ho).2⟩
 | wone x v _ ih => exact ⟨ih.1, trivial⟩
 | wcons x r v vs _ _ i1 i2 =>
  refine ⟨?_, trivial⟩
  intro u hu
  rcases List.mem_cons.1 hu with rfl | hu
  ·exact i1.1 _ (by simp)
  ·exact i2.1 u hu
 | ways x vs v n _ ho hp ih => exact ⟨by simpa using (ownsRow_one ho).1, v, rfl, (ownsRow_one ho).2⟩
end Go.Proofs.YtnfojonmohijpabGreatDoor
namespace Go.Proofs.YtnfojonmohijpabGreatDoor
open Go.RowKit
structure QS where
 s : ByteArray
 ix : Nat
 op : Nat
 gr : Nat
def QS.cells (p : QS) : Array Value := #[.string p.s, .int .i64 p.ix, .int .i64 p.op, .int .i64 p.gr]
def QB (w : World) (b : Nat) (p : QS) : Prop := w.heap[b]? = some (.cells p.cells 141 (0, 0))
theorem QB.lt {w : World} {b : Nat} {p : QS} (h : QB w b p) : b < w.heap.size := (Array.getElem?_eq_some_iff.1 h).1
theorem QB.keep {w w' : World} {b : Nat} {p : QS} {S : List Nat} (h : QB w b p) (hk : Keeps S w w') (hb : b ∉ S) : QB w' b p := (hk.block b h.lt hb).trans h
theorem QB.drewN {w : World} {b : Nat} {p : QS} (h : QB w b p) (n : Nat) : QB (w.drewN n) b p := h
theorem QB.main {w : World} {b : Nat} {p : QS} (h : QB w b p) :
    w.cell? ⟨b, 0, none⟩ = some (.string p.s) ∧ w.cell? ⟨b, 1, none⟩ = some (.int .i64 p.ix) ∧ w.cell? ⟨b, 2, none⟩ = some (.int .i64 p.op) ∧ w.cell? ⟨b, 3, none⟩ = some (.int .i64 p.gr) ∧
    w.frozen? ⟨b, 1, none⟩ = false ∧ w.frozen? ⟨b, 2, none⟩ = false ∧ w.frozen? ⟨b, 3, none⟩ = false := by
 unfold QB at h
 simp [World.cell?, World.frozen?, h, QS.cells]
theorem QB.setIx {w : World} {b : Nat} {p : QS} (h : QB w b p) (x : Nat) : QB (w.setCell ⟨b, 1, none⟩ (.int .i64 x)) b { p with ix := x } := by
 unfold QB at *
 simp [World.setCell, Array.getElem?_modify, h, QS.cells]
theorem QB.setOp {w : World} {b : Nat} {p : QS} (h : QB w b p) (x : Nat) : QB (w.setCell ⟨b, 2, none⟩ (.int .i64 x)) b { p with op := x } := by
 unfold QB at *
 simp [World.setCell, Array.getElem?_modify, h, QS.cells]
theorem QB.setGr {w : World} {b : Nat} {p : QS} (h : QB w b p) (x : Nat) : QB (w.setCell ⟨b, 3, none⟩ (.int .i64 x)) b { p with gr := x } := by
 unfold QB at *
 simp [World.setCell, Array.getElem?_modify, h, QS.cells]
def QS.cur (p : QS) : Int := at' p.s p.ix
def fault (j : Nat) : Ending := .panicked [{ v := .iface 136 (.agg #[.int .i64 (j : Int)]), recovered := false }]
set_option maxHeartbeats 400000 in
theorem peek_some (b : Nat) (p : QS) (w : World) (hp : QB w b p) (hlt : p.ix < p.s.size) (hs : p.s.size ≤ 60) :
    Calls Tryz.prog 100 #[.pointer (some ⟨b, 0, none⟩)] w fun e w' => e = .returned (.tuple #[.int .u8 p.cur, .bool true]) ∧ QB w' b p ∧ Keeps [] w w' := by
 obtain ⟨c0, c1, _, _, f1, _, _⟩ := hp.main
 have hki : (p.ix : Int) < (p.s.size : Int) := by omega
 have hk0 : (0 : Int) ≤ (p.ix : Int) := by omega
 have hne : ((p.ix : Int) == (p.s.size : Int)) = false := by simpa using (by omega : ¬ (p.ix : Int) = (p.s.size : Int))
 have HC : Hid (p.cur = (p.s[p.ix].toNat : Int)) := at'_lt hlt
 go_enter Tryz.func100, Tryz.ntmps100
 go_wp2_with fail
 go_quiet (fail)
 go_wp2_with fail
 go_quiet (fail)
 go_wp2_with fail
 go_ret2
 exact ⟨by rw [HC.out]; rfl, (hp.drewN _).drewN _, ((Keeps.refl _ _).drewN _).drewN _⟩
set_option maxHeartbeats 400000 in
theorem peek_none (b : Nat) (p : QS) (w : World) (hp : QB w b p) (hge : p.ix = p.s.size) :
    Calls Tryz.prog 100 #[.pointer (some ⟨b, 0, none⟩)] w fun e w' => e = .returned (.tuple #[.int .u8 0, .bool false]) ∧ QB w' b p ∧ Keeps [] w w' := by
 obtain ⟨c0, c1, _, _, f1, _, _⟩ := hp.main
 have hne : ((p.ix : Int) == (p.s.size : Int)) = true := by simpa using (by omega : (p.ix : Int) = (p.s.size : Int))
 clear hge
 go_enter Tryz.func100, Tryz.ntmps100
 go_wp2_with fail
 go_quiet (fail)
 go_wp2_with fail
 go_ret2
 exact ⟨rfl, (hp.drewN _), (Keeps.refl _ _).drewN _⟩
set_option maxHeartbeats 400000 in
theorem ahead_any (b : Nat) (p : QS) (c : Int) (hc : 0 ≤ c) (w : World) (hp : QB w b p) (hle : p.ix ≤ p.s.size) (hs : p.s.size ≤ 60) :
    Calls Tryz.prog 98 #[.pointer (some ⟨b, 0, none⟩), .int .u8 c] w fun e w' => e = .returned (.bool (decide (p.cur = c))) ∧ QB w' b p ∧ Keeps [] w w' := by
 by_cases hlt : p.ix < p.s.size
 ·go_enter Tryz.func98, Tryz.ntmps98
  go_wp2_with (first | (go_at_call 100; refine (peek_some b p _ hp hlt hs).mono ?_; rintro e w1 ⟨rfl, hp1, hk1⟩))
  go_ret
  exact ⟨by simp [BEq.beq], hp1, hk1⟩
 ·have hge : p.ix = p.s.size := by omega
  have HC : Hid (p.cur = -1) := at'_ge (by omega)
  go_enter Tryz.func98, Tryz.ntmps98
  go_wp2_with (first | (go_at_call 100; refine (peek_none b p _ hp hge).mono ?_; rintro e w1 ⟨rfl, hp1, hk1⟩))
  go_ret
  exact ⟨by rw [HC.out]; simp; omega, hp1, hk1⟩
def QS.took (p : QS) (c : Int) : QS := if p.cur = c then { p with ix := p.ix + 1 } else p
set_option maxHeartbeats 400000 in
theorem skip_any (b : Nat) (p : QS) (c : Int) (hc : 0 ≤ c) (w : World) (hp : QB w b p) (hle : p.ix ≤ p.s.size) (hs : p.s.size ≤ 60) :
    Calls Tryz.prog 64 #[.pointer (some ⟨b, 0, none⟩), .int .u8 c] w fun e w' => e = .returned (.bool (decide (p.cur = c))) ∧ QB w' b (p.took c) ∧ Keeps [b] w w' := by
 by_cases h : p.cur = c
 ·have hd : decide (p.cur = c) = true := by simpa using h
  have H : Hid (p.cur = c) := h
  have hlt : p.ix < p.s.size := at'_nn (by show 0 ≤ p.cur; omega)
  have hb1 : (0 : Int) ≤ (p.ix : Int) := by omega
  have hb2 : (p.ix : Int) ≤ 60 := by omega
  clear h
  go_enter Tryz.func64, Tryz.ntmps64
  go_wp2_with (first | (go_at_call 98; refine (ahead_any b p c hc _ hp hle hs).mono ?_; rintro e w1 ⟨rfl, hp1, hk1⟩; obtain ⟨c0, c1, _, _, f1, _, _⟩ := hp1.main))
  go_ret
  exact ⟨by simp [hd], by simp only [QS.took, H.out, if_true]; exact hp1.setIx (p.ix + 1), (hk1.mono (by simp)).setCell (by simp) _⟩
 ·have hd : decide (p.cur = c) = false := by simpa using h
  have H : Hid (¬ p.cur = c) := h
  clear h
  go_enter Tryz.func64, Tryz.ntmps64
  go_wp2_with (first | (go_at_call 98; refine (ahead_any b p c hc _ hp hle hs).mono ?_; rintro e w1 ⟨rfl, hp1, hk1⟩))
  go_ret
  exact ⟨by simp [hd], by simp only [QS.took, H.out, if_false]; exact hp1, hk1.mono (by simp)⟩
set_option maxHeartbeats 400000 in
theorem pfail_any (b : Nat) (p : QS) (w : World) (hp : QB w b p) :
    Calls Tryz.prog 101 #[.pointer (some ⟨b, 0, none⟩)] w fun e w' => e = fault p.ix ∧ w' = w := by
 obtain ⟨c0, c1, _, _, f1, _, _⟩ := hp.main
 go_enter Tryz.func101, Tryz.ntmps101
 go_wp2_with fail
 exact ⟨rfl, rfl, rfl⟩
set_option maxHeartbeats 400000 in
theorem expect_ok (b : Nat) (p : QS) (c : Int) (hc : 0 ≤ c) (w : World) (hp : QB w b p) (hs : p.s.size ≤ 60) (h : p.cur = c) :
    Calls Tryz.prog 159 #[.pointer (some ⟨b, 0, none⟩), .int .u8 c] w fun e w' => e = .returned (.tuple #[]) ∧ QB w' b { p with ix := p.ix + 1 } ∧ Keeps [b] w w' := by
 have hlt : p.ix < p.s.size := at'_nn (by show 0 ≤ p.cur; omega)
 have hd : decide (p.cur = c) = true := by simpa using h
 have htk : p.took c = { p with ix := p.ix + 1 } := by unfold QS.took; rw [if_pos h]
 clear h
 go_enter Tryz.func159, Tryz.ntmps159
 go_wp2_with (first | (go_at_call 64; refine (skip_any b p c hc _ hp (Nat.le_of_lt hlt) hs).mono ?_; rintro e w1 ⟨rfl, hp1, hk1⟩; rw [htk] at hp1))
 go_end0
 exact ⟨rfl, hp1, hk1⟩
set_option maxHeartbeats 400000 in
theorem expect_bad (b : Nat) (p : QS) (c : Int) (hc : 0 ≤ c) (w : World) (hp : QB w b p) (hle : p.ix ≤ p.s.size) (hs : p.s.size ≤ 60) (h : p.cur ≠ c) :
    Calls Tryz.prog 159 #[.pointer (some ⟨b, 0, none⟩), .int .u8 c] w fun e w' => e = fault p.ix ∧ Keeps [b] w w' := by
 have hd : decide (p.cur = c) = false := by simpa using h
 have htk : p.took c = p := by unfold QS.took; rw [if_neg h]
 clear h
 go_enter Tryz.func159, Tryz.ntmps159
 go_wp2_with (first | (go_at_call 101; refine (pfail_any b p _ hp1).mono ?_; rintro e w2 ⟨rfl, rfl⟩; simp only [fault]) | (go_at_call 64; refine (skip_any b p c hc _ hp hle hs).mono ?_; rintro e w1 ⟨rfl, hp1, hk1⟩; rw [htk] at hp1))
 exact ⟨rfl, rfl, hk1⟩
set_option maxHeartbeats 400000 in
theorem end_ok (b : Nat) (p : QS) (w : World) (hp : QB w b p) (h : p.ix = p.s.size) :
    Calls Tryz.prog 66 #[.pointer (some ⟨b, 0, none⟩)] w fun e w' => e = .returned (.tuple #[]) ∧ QB w' b p ∧ Keeps [] w w' := by
 go_enter Tryz.func66, Tryz.ntmps66
 go_wp2_with (first | (go_at_call 100; refine (peek_none b p _ hp h).mono ?_; rintro e w1 ⟨rfl, hp1, hk1⟩))
 go_end0
 exact ⟨rfl, hp1, hk1⟩
set_option maxHeartbeats 400000 in
theorem end_bad (b : Nat) (p : QS) (w : World) (hp : QB w b p) (h : p.ix < p.s.size) (hs : p.s.size ≤ 60) :
    Calls Tryz.prog 66 #[.pointer (some ⟨b, 0, none⟩)] w fun e w' => e = fault p.ix ∧ Keeps [] w w' := by
 go_enter Tryz.func66, Tryz.ntmps66
 go_wp2_with (first | (go_at_call 100; refine (peek_some b p _ hp h hs).mono ?_; rintro e w1 ⟨rfl, hp1, hk1⟩) | (go_at_call 101; refine (pfail_any b p _ hp1).mono ?_; rintro e w2 ⟨rfl, rfl⟩; simp only [fault]))
 exact ⟨rfl, rfl, hk1⟩
set_option maxHeartbeats 400000 in
theorem isDigit_any (c : Int) (w : World) :
    Calls Tryz.prog 139 #[.int .u8 c] w fun e w' => e = .returned (.bool (digB c)) ∧ w' = w := by
 go_enter Tryz.func139, Tryz.ntmps139
 go_wp2
 all_goals go_ret
 all_goals exact ⟨by simp [digB]; omega, rfl⟩
def lwB (c : Int) : Bool := decide (97 ≤ c) && decide (c ≤ 122)
set_option maxHeartbeats 400000 in
theorem isLower_any (c : Int) (w : World) :
    Calls Tryz.prog 92 #[.int .u8 c] w fun e w' => e = .returned (.bool (lwB c)) ∧ w' = w := by
 go_enter Tryz.func92, Tryz.ntmps92
 go_wp2
 all_goals go_ret
 all_goals exact ⟨by simp [lwB]; omega, rfl⟩
set_option maxHeartbeats 400000 in
theorem isAlnum_any (c : Int) (w : World) :
    Calls Tryz.prog 171 #[.int .u8 c] w fun e w' => e = .returned (.bool (alnB c)) ∧ w' = w := by
 cases hd : digB c
 all_goals
  cases hl : lwB c
  all_goals
   have hl' := hl
   simp [lwB] at hl'
   go_enter Tryz.func171, Tryz.ntmps171
   go_wp2_with (first | (go_at_call 139; refine (isDigit_any c _).mono ?_; rintro e w' ⟨rfl, rfl⟩) | (go_at_call 92; refine (isLower_any c _).mono ?_; rintro e w' ⟨rfl, rfl⟩))
   all_goals go_ret
   all_goals exact ⟨ret_bool (by simp [alnB, hd] <;> omega), rfl⟩
def May (F : Nat) (caps : Array Value) (c : Int) (v : Bool) (w : World) : Prop :=
 (∀ args w1, (callFunc F args).run Tryz.prog w1 = .ok (.enter F args) w1) ∧ ∀ w1, Keeps [] w w1 → Calls Tryz.prog F (#[.int .u8 c] ++ caps) w1 fun e w2 => e = .returned (.bool v) ∧ Keeps [] w1 w2
set_option maxRecDepth 100000 in
set_option maxHeartbeats 400000 in
theorem take_ok (b : Nat) (p : QS) (F : Nat) (caps : Array Value) (w : World) (hp : QB w b p) (hs : p.s.size ≤ 60) (hlt : p.ix < p.s.size) (hm : May F caps p.cur true w) :
    Calls Tryz.prog 136 #[.pointer (some ⟨b, 0, none⟩), .func (.func F) #[] caps] w fun e w' => e = .returned (.int .u8 p.cur) ∧ QB w' b { p with ix := p.ix + 1 } ∧ Keeps [b] w w' := by
 have hb1 : (0 : Int) ≤ (p.ix : Int) := by omega
 have hb2 : (p.ix : Int) ≤ 60 := by omega
 obtain ⟨hcf, hcall⟩ := hm
 go_enter Tryz.func136, Tryz.ntmps136
 go_wp2_with (first | (go_at_call 100; refine (peek_some b p _ hp hlt hs).mono ?_; rintro e w1 ⟨rfl, hp1, hk1⟩))
 refine (hcall _ hk1).mono ?_
 rintro e w2 ⟨rfl, hk2⟩
 have hp2 := hp1.keep hk2 (by simp)
 obtain ⟨c0, c1, _, _, f1, _, _⟩ := hp2.main
 go_wp2_with fail
 go_ret
 exact ⟨rfl, hp2.setIx (p.ix + 1), ((hk1.trans hk2).mono (by simp)).setCell (by simp) _⟩
set_option maxRecDepth 100000 in
set_option maxHeartbeats 400000 in
theorem take_bad (b : Nat) (p : QS) (F : Nat) (caps : Array Value) (w : World) (hp : QB w b p) (hs : p.s.size ≤ 60) (hlt : p.ix < p.s.size) (hm : May F caps p.cur false w) :
    Calls Tryz.prog 136 #[.pointer (some ⟨b, 0, none⟩), .func (.func F) #[] caps] w fun e w' => e = fault p.ix ∧ Keeps [b] w w' := by
 obtain ⟨hcf, hcall⟩ := hm
 go_enter Tryz.func136, Tryz.ntmps136
 go_wp2_with (first | (go_at_call 100; refine (peek_some b p _ hp hlt hs).mono ?_; rintro e w1 ⟨rfl, hp1, hk1⟩))
 refine (hcall _ hk1).mono ?_
 rintro e w2 ⟨rfl, hk2⟩
 have hp2 := hp1.keep hk2 (by simp)
 go_wp2_with (first | (go_at_call 101; refine (pfail_any b p _ hp2).mono ?_; rintro e w3 ⟨rfl, rfl⟩; simp only [fault]))
 exact ⟨rfl, rfl, (hk1.trans hk2).mono (by simp)⟩
set_option maxRecDepth 100000 in
set_option maxHeartbeats 400000 in
theorem take_end (b : Nat) (p : QS) (fv : Value) (w : World) (hp : QB w b p) (hge : p.ix = p.s.size) :
    Calls Tryz.prog 136 #[.pointer (some ⟨b, 0, none⟩), fv] w fun e w' => e = fault p.ix ∧ Keeps [b] w w' := by
 go_enter Tryz.func136, Tryz.ntmps136
 go_wp2_with (first | (go_at_call 100; refine (peek_none b p _ hp hge).mono ?_; rintro e w1 ⟨rfl, hp1, hk1⟩) | (go_at_call 101; refine (pfail_any b p _ hp1).mono ?_; rintro e w3 ⟨rfl, rfl⟩; simp only [fault]))
 exact ⟨rfl, rfl, hk1.mono (by simp)⟩
end Go.Proofs.YtnfojonmohijpabGreatDoor
namespace Go.Proofs.YtnfojonmohijpabGreatDoor
open Go.RowKit
theorem idx_run (s : ByteArray) (c : Int) (w : World) : (callFunc 172 #[.string s, .int .u8 c]).run Tryz.prog w = .ok (.value (.int .i64 (Lib.indexByte s.data.toList c.toNat.toUInt8))) w := by
 rw [run_callFunc_indexByte Tryz.func172 (by kernel_rfl) (by kernel_rfl) (by kernel_rfl) (by kernel_rfl), Lib.run_indexByteString]
 rfl
set_option maxHeartbeats 400000 in
theorem lite_any (s : ByteArray) (c : Int) (w : World) :
    Calls Tryz.prog 150 #[.string s, .int .u8 c] w fun e w' => e = .returned (.int .i64 (Lib.indexByte s.data.toList c.toNat.toUInt8)) ∧ w' = w := by
 have hi := fun w => idx_run s c w
 go_enter Tryz.func150, Tryz.ntmps150
 go_wp2
 go_ret
 exact ⟨rfl, rfl⟩
set_option maxHeartbeats 400000 in
theorem index_any (s : ByteArray) (c : Int) (w : World) :
    Calls Tryz.prog 154 #[.string s, .int .u8 c] w fun e w' => e = .returned (.int .i64 (Lib.indexByte s.data.toList c.toNat.toUInt8)) ∧ w' = w := by
 go_enter Tryz.func154, Tryz.ntmps154
 go_wp2_with (go_at_call 150; refine (lite_any s c _).mono ?_; rintro e w' ⟨rfl, rfl⟩)
 go_ret
 exact ⟨rfl, rfl⟩
set_option maxRecDepth 100000 in
theorem hex_idx (c : Int) (h0 : 0 ≤ c) (h1 : c ≤ 255) : Lib.indexByte (ByteArray.data ⟨#[48, 49, 50, 51, 52, 53, 54, 55, 56, 57, 97, 98, 99, 100, 101, 102]⟩).toList c.toNat.toUInt8 = hexd c := by
 obtain ⟨n, rfl⟩ : ∃ n : Nat, c = n := ⟨c.toNat, by omega⟩
 have hn : n < 256 := by omega
 have key : ∀ m : Fin 256, Lib.indexByte (ByteArray.data ⟨#[48, 49, 50, 51, 52, 53, 54, 55, 56, 57, 97, 98, 99, 100, 101, 102]⟩).toList ((m.val : Int)).toNat.toUInt8 = hexd (m.val : Int) := by decide
 exact key ⟨n, hn⟩
set_option maxHeartbeats 400000 in
theorem isHex_any (c : Int) (h0 : 0 ≤ c) (h1 : c ≤ 255) (w : World) :
    Calls Tryz.prog 186 #[.int .u8 c] w fun e w' => e = .returned (.bool (decide (0 ≤ hexd c))) ∧ w' = w := by
 go_enter Tryz.func186, Tryz.ntmps186
 go_wp2_with (go_at_call 154; refine (index_any _ c _).mono ?_; rintro e w' ⟨rfl, rfl⟩; rw [hex_idx c h0 h1])
 go_ret
 exact ⟨rfl, rfl⟩
set_option maxHeartbeats 400000 in
theorem hexValue_any (c : Int) (h0 : 0 ≤ c) (h1 : c ≤ 255) (hh : 0 ≤ hexd c) (w : World) :
    Calls Tryz.prog 184 #[.int .u8 c] w fun e w' => e = .returned (.int .u8 (hexd c)) ∧ w' = w := by
 have hb := hexd_bd c
 have hb2 := hb.2
 go_enter Tryz.func184, Tryz.ntmps184
 go_wp2_with (go_at_call 154; refine (index_any _ c _).mono ?_; rintro e w' ⟨rfl, rfl⟩; rw [hex_idx c h0 h1])
 go_ret
 exact ⟨rfl, rfl⟩
theorem isHex_v (c : Int) (v : Bool) (h0 : 0 ≤ c) (h1 : c ≤ 255) (h : decide (0 ≤ hexd c) = v) (w : World) :
    Calls Tryz.prog 186 #[.int .u8 c] w fun e w' => e = .returned (.bool v) ∧ w' = w := by
 subst h; exact isHex_any c h0 h1 w
theorem or_hex (a b : Int) (ha0 : 0 ≤ a) (ha1 : a ≤ 15) (hb0 : 0 ≤ b) (hb1 : b ≤ 15) : bits .or .u8 (a * 16) b = 16 * a + b := by
 obtain ⟨x, rfl⟩ : ∃ x : Nat, a = x := ⟨a.toNat, by omega⟩
 obtain ⟨y, rfl⟩ : ∃ y : Nat, b = y := ⟨b.toNat, by omega⟩
 have key : ∀ (m n : Fin 16), bits .or .u8 ((m.val : Int) * 16) (n.val : Int) = 16 * (m.val : Int) + (n.val : Int) := by decide
 exact key ⟨x, by omega⟩ ⟨y, by omega⟩
set_option maxRecDepth 100000 in
set_option maxHeartbeats 400000 in
theorem esc1_any (c l : Int) (lb : Nat) (w : World) (hl : w.cell? ⟨lb, 0, none⟩ = some (.int .u8 l)) :
    Calls Tryz.prog 176 #[.int .u8 c, .pointer (some ⟨lb, 0, none⟩)] w fun e w' => e = .returned (.bool (!alnB c && decide (l ≤ c))) ∧ w' = w := by
 cases ha : alnB c
 all_goals
  go_enter Tryz.func176, Tryz.ntmps176
  go_wp2_with (go_at_call 171; refine (isAlnum_any c _).mono ?_; rintro e w' ⟨rfl, rfl⟩)
  all_goals go_ret
  all_goals exact ⟨by simp [ha], rfl⟩
set_option maxRecDepth 100000 in
set_option maxHeartbeats 400000 in
theorem hp1_any (c l : Int) (h0 : 0 ≤ c) (h1 : c ≤ 255) (lb : Nat) (w : World) (hl : w.cell? ⟨lb, 0, none⟩ = some (.int .u8 l)) :
    Calls Tryz.prog 185 #[.int .u8 c, .pointer (some ⟨lb, 0, none⟩)] w fun e w' => e = .returned (.bool (decide (0 ≤ hexd c) && decide (l ≤ 16 * hexd c + 15))) ∧ ∃ n, w' = w.drewN n := by
 have hb := hexd_bd c
 by_cases hh : 0 ≤ hexd c
 ·have hd : decide (0 ≤ hexd c) = true := by simpa using hh
  have hb2 := hb.2
  have IH := isHex_v c true h0 h1 hd
  have HV := hexValue_any c h0 h1 hh
  have hb15 := or_hex (hexd c) 15 hh hb2 (by omega) (by omega)
  generalize hexd c = x at *
  go_enter Tryz.func185, Tryz.ntmps185
  go_wp2_with fail
  go_quiet (first | (go_at_call 186; exact Calls.quiet_of_same (IH _)) | (go_at_call 184; exact Calls.quiet_of_same (HV _)))
  go_wp2_with fail
  go_ret
  exact ⟨ret_bool (by simp [hd]), _, rfl⟩
 ·have hd : decide (0 ≤ hexd c) = false := by simpa using hh
  have IH := isHex_v c false h0 h1 hd
  have H0 : Hid (¬ 0 ≤ hexd c) := hh
  clear hh hb
  go_enter Tryz.func185, Tryz.ntmps185
  go_wp2_with fail
  go_quiet ((go_at_call 186; exact Calls.quiet_of_same (IH _)))
  go_wp2_with fail
  go_ret
  exact ⟨by rw [hd]; rfl, _, rfl⟩
set_option maxRecDepth 100000 in
set_option maxHeartbeats 400000 in
theorem hp2_any (c l a : Int) (h0 : 0 ≤ c) (h1 : c ≤ 255) (ha0 : 0 ≤ a) (ha1 : a ≤ 15) (ab lb : Nat) (w : World) (hla : w.cell? ⟨ab, 0, none⟩ = some (.int .u8 a)) (hl : w.cell? ⟨lb, 0, none⟩ = some (.int .u8 l)) :
    Calls Tryz.prog 187 #[.int .u8 c, .pointer (some ⟨ab, 0, none⟩), .pointer (some ⟨lb, 0, none⟩)] w fun e w' => e = .returned (.bool (decide (0 ≤ hexd c) && decide (l ≤ 16 * a + hexd c))) ∧ ∃ n, w' = w.drewN n := by
 have hb := hexd_bd c
 by_cases hh : 0 ≤ hexd c
 ·have hd : decide (0 ≤ hexd c) = true := by simpa using hh
  have hb2 := hb.2
  have IH := isHex_v c true h0 h1 hd
  have HV := hexValue_any c h0 h1 hh
  have hb15 := or_hex a (hexd c) ha0 ha1 hh hb2
  generalize hexd c = x at *
  go_enter Tryz.func187, Tryz.ntmps187
  go_wp2_with fail
  go_quiet (first | (go_at_call 186; exact Calls.quiet_of_same (IH _)) | (go_at_call 184; exact Calls.quiet_of_same (HV _)))
  go_wp2_with fail
  go_ret
  exact ⟨ret_bool (by simp [hd]), _, rfl⟩
 ·have hd : decide (0 ≤ hexd c) = false := by simpa using hh
  have IH := isHex_v c false h0 h1 hd
  clear hh hb
  go_enter Tryz.func187, Tryz.ntmps187
  go_wp2_with fail
  go_quiet ((go_at_call 186; exact Calls.quiet_of_same (IH _)))
  go_wp2_with fail
  go_ret
  exact ⟨by rw [hd]; rfl, _, rfl⟩
set_option maxRecDepth 100000 in
theorem inn_idx (c : Int) (h0 : 0 ≤ c) (h1 : c ≤ 255) : decide (Lib.indexByte (ByteArray.data ⟨#[91, 93, 45, 94]⟩).toList c.toNat.toUInt8 < 0) = !decide (c = 91 ∨ c = 93 ∨ c = 45 ∨ c = 94) := by
 obtain ⟨n, rfl⟩ : ∃ n : Nat, c = n := ⟨c.toNat, by omega⟩
 have hn : n < 256 := by omega
 have key : ∀ m : Fin 256, decide (Lib.indexByte (ByteArray.data ⟨#[91, 93, 45, 94]⟩).toList ((m.val : Int)).toNat.toUInt8 < 0) = !decide ((m.val : Int) = 91 ∨ (m.val : Int) = 93 ∨ (m.val : Int) = 45 ∨ (m.val : Int) = 94) := by decide
 exact key ⟨n, hn⟩
set_option maxRecDepth 100000 in
set_option maxHeartbeats 400000 in
theorem inn1_any (c l : Int) (h0 : 0 ≤ c) (h1 : c ≤ 255) (lb : Nat) (w : World) (hl : w.cell? ⟨lb, 0, none⟩ = some (.int .u8 l)) :
    Calls Tryz.prog 193 #[.int .u8 c, .pointer (some ⟨lb, 0, none⟩)] w fun e w' => e = .returned (.bool (!decide (c = 91 ∨ c = 93 ∨ c = 45 ∨ c = 94) && decide (l ≤ c))) ∧ w' = w := by
 have hi := inn_idx c h0 h1
 by_cases hn : Lib.indexByte (ByteArray.data ⟨#[91, 93, 45, 94]⟩).toList c.toNat.toUInt8 < 0
 ·rw [decide_eq_true hn] at hi
  rw [← hi]
  clear hi
  generalize hgx : Lib.indexByte (ByteArray.data ⟨#[91, 93, 45, 94]⟩).toList c.toNat.toUInt8 = x at *
  go_enter Tryz.func193, Tryz.ntmps193
  go_wp2_with (go_at_call 154; refine (index_any _ c _).mono ?_; rintro e w' ⟨rfl, rfl⟩; rw [hgx])
  go_ret
  exact ⟨by simp, rfl⟩
 ·rw [decide_eq_false hn] at hi
  rw [← hi]
  clear hi
  generalize hgx : Lib.indexByte (ByteArray.data ⟨#[91, 93, 45, 94]⟩).toList c.toNat.toUInt8 = x at *
  go_enter Tryz.func193, Tryz.ntmps193
  go_wp2_with (go_at_call 154; refine (index_any _ c _).mono ?_; rintro e w' ⟨rfl, rfl⟩; rw [hgx])
  go_ret
  exact ⟨by simp, rfl⟩
end Go.Proofs.YtnfojonmohijpabGreatDoor
