/-
  DERIVED. How a pattern that has been read lies in the reference's list of nodes, and that list in memory; a node more. Nothing is assumed but what stands in each theorem.
-/
import Derived.Test.YtnfojonmohijpaaGreatDoorJMA
import Derived.Test.YtnfojonmohijpaaGreatDoorJSpec
import Derived.OwnWalk
import Derived.Deep.MidRow
set_option linter.unusedSimpArgs false
set_option linter.unusedVariables false
namespace Go.Proofs.YtnfojonmohijpaaGreatDoor
open Go.RowKit
theorem G.okb {s : ByteArray} {k : Kd} {d g i : Nat} {q : R (Pat × Nat)} (h : G s k d g i q) : ∀ x g1 j, q = .ok (x, g1) j → i ≤ j ∧ (i ≤ s.size → j ≤ s.size) ∧ (k = .piece ∨ k = .single → i < j) ∧ g ≤ g1 ∧ (g ≤ 9 → g1 ≤ 9) := by
  have A : ∀ i, 0 ≤ at' s i → i < s.size := fun i hi => at'_nn hi
  induction h with
  | one d g i g1 j x _ e ih => intro x' g1' j' e'; cases e'; have := ih x g1 j rfl; simp; omega
  | more d g i g1 j x q _ e _ ih ih2 =>
    intro x' g1' j' e'
    cases q with
    | bad l => cases e'
    | ok y l =>
      have h1 := ih x g1 j rfl
      have h2 := ih2 y.1 y.2 l rfl
      cases e'
      have := A j (by omega)
      simp; omega
  | wbad => intro x' g1' j' e'; cases e'
  | nil d g i e => intro x' g1' j' e'; cases e'; simp
  | cons d g i g1 j x q e _ _ ih ih2 =>
    intro x' g1' j' e'
    cases q with
    | bad l => cases e'
    | ok y l =>
      have h1 := ih x g1 j rfl
      have h2 := ih2 y.1 y.2 l rfl
      cases e'
      simp; omega
  | pbad => intro x' g1' j' e'; cases e'
  | rep d g i g1 j x q _ r ih =>
    intro x' g1' j' e'
    cases q with
    | bad l => cases e'
    | ok y l =>
      cases e'
      have h1 := ih x g1 j rfl
      have h2 := r.ok
      simp at h1 ⊢; omega
  | sbad => intro x' g1' j' e'; cases e'
  | deep => intro x' g1' j' e'; cases e'
  | grp d g i g1 j x e o _ c ih => intro x' g1' j' e'; cases e'; have := ih x g1 j rfl; have := A j (by omega); simp; omega
  | gopen => intro x' g1' j' e'; cases e'
  | gbad => intro x' g1' j' e'; cases e'
  | set d g i q e r =>
    intro x' g1' j' e'
    have := A i (by omega)
    cases q with
    | bad l => cases e'
    | ok y l =>
      cases e'
      have hU : ∀ {i f j}, SetU s i (.ok f j) → i < j ∧ j ≤ s.size := by
        intro i f j hu
        have hL : ∀ {f i q}, SetL s f i q → ∀ f' j, q = .ok f' j → i < j ∧ j ≤ s.size := by
          intro f i q hl
          induction hl with
          | done f i e => intro f' j e'; cases e'; have := A i (by omega); omega
          | more f r i j q e e2 _ ih => intro f' j' e'; have := ih f' j' e'; have := rangeS_ok e2; omega
          | bad => intro f' j e'; cases e'
        cases hu with
        | go r _ j' _ e hl => have := rangeS_ok e; have := hL hl f j rfl; omega
      rcases r with ⟨e94, q', hq, hm⟩ | ⟨_, hq⟩
      · cases q' with
        | bad l => cases hm
        | ok f l => cases hm; have := hU hq; simp; omega
      · have := hU hq; simp; omega
  | dot d g i e => intro x' g1' j' e'; cases e'; have := A i (by omega); simp; omega
  | esc d g i e =>
    intro x' g1' j' e'
    have := A i (by omega)
    cases r : escS s 0 (i + 1) with
    | bad l => rw [r] at e'; cases e'
    | ok y l => rw [r] at e'; cases e'; have := escS_ok r; simp; omega
  | no => intro x' g1' j' e'; cases e'
  | lit d g i a => intro x' g1' j' e'; cases e'; have := A i (by omega); simp; omega
structure Nd where
  kind : Nat
  f : Nat → Bool
  n : Nat
  mn : Nat
  mx : Int
  kids : List Nat
def ListN (nds : List Nd) (kind : Nat) (l : List Nat) (c : Nat) : Prop := l = [c] ∨ (l.length ≠ 1 ∧ ∃ nd, nds[c]? = some nd ∧ nd.kind = kind ∧ nd.kids = l)
def rep (nds : List Nd) : Pat → List Nat → Prop
  | .set f, l => ∃ k nd, l = [k] ∧ nds[k]? = some nd ∧ nd.kind = 98 ∧ nd.kids = [] ∧ ∀ n, n < 256 → nd.f n = f n
  | .grp j x, l => ∃ k nd c lw, l = [k] ∧ nds[k]? = some nd ∧ nd.kind = 103 ∧ nd.n = j ∧ nd.kids = [c] ∧ rep nds x lw ∧ ListN nds 111 lw c
  | .rep mn mx x, l => ∃ k nd c, l = [k] ∧ nds[k]? = some nd ∧ nd.kind = 114 ∧ nd.mn = mn ∧ nd.mx = mx ∧ nd.kids = [c] ∧ rep nds x [c]
  | .pnil, l => l = []
  | .pcons x r, l => ∃ k l', l = k :: l' ∧ rep nds x [k] ∧ rep nds r l'
  | .wone x, l => ∃ c lp, l = [c] ∧ rep nds x lp ∧ ListN nds 119 lp c
  | .wcons x r, l => ∃ c lp l', l = c :: l' ∧ (rep nds x lp ∧ ListN nds 119 lp c) ∧ rep nds r l'
theorem get_app {nds ext : List Nd} {k : Nat} {nd : Nd} (h : nds[k]? = some nd) : (nds ++ ext)[k]? = some nd := by
  obtain ⟨hk, e⟩ := List.getElem?_eq_some_iff.1 h
  rw [List.getElem?_append_left hk]; exact h
theorem ListN.app {nds : List Nd} {kind : Nat} {l : List Nat} {c : Nat} (h : ListN nds kind l c) (ext : List Nd) : ListN (nds ++ ext) kind l c := by
  rcases h with h | ⟨h, nd, e, r⟩
  · exact Or.inl h
  · exact Or.inr ⟨h, nd, get_app e, r⟩
theorem rep_app {nds : List Nd} (ext : List Nd) : ∀ {x : Pat} {l : List Nat}, rep nds x l → rep (nds ++ ext) x l := by
  intro x
  induction x with
  | set f => rintro l ⟨k, nd, rfl, e, r⟩; exact ⟨k, nd, rfl, get_app e, r⟩
  | grp j x ih => rintro l ⟨k, nd, c, lw, rfl, e, a, b, d, r, t⟩; exact ⟨k, nd, c, lw, rfl, get_app e, a, b, d, ih r, t.app ext⟩
  | rep mn mx x ih => rintro l ⟨k, nd, c, rfl, e, a, b, d, r, t⟩; exact ⟨k, nd, c, rfl, get_app e, a, b, d, r, ih t⟩
  | pnil => rintro l h; exact h
  | pcons x r ih1 ih2 => rintro l ⟨k, l', rfl, a, b⟩; exact ⟨k, l', rfl, ih1 a, ih2 b⟩
  | wone x ih => rintro l ⟨c, lp, rfl, a, b⟩; exact ⟨c, lp, rfl, ih a, b.app ext⟩
  | wcons x r ih1 ih2 => rintro l ⟨c, lp, l', rfl, ⟨a, b⟩, d⟩; exact ⟨c, lp, l', rfl, ⟨ih1 a, b.app ext⟩, ih2 d⟩
def KidsV (w : World) (av : List Nat) (kv : Value) (kids : List Nat) : Prop :=
  w.ownsRow 0 3 1 kv kids.length (kids.map fun (k : Nat) => Value.int .i64 (k : Int)) ∧ ∀ g, kv.ownBlock = some g → g ∉ av
def HoldsV (w : World) (av : List Nat) (hv : Value) (nd : Nd) : Prop :=
  (∃ a n c, hv = .slice a n c) ∧ (nd.kind = 98 → ∃ h, hv = .slice (some ⟨h, 0, none⟩) 256 256 ∧ HB w h nd.f ∧ h ∉ av)
def NdAt (w : World) (av : List Nat) (nd : Nd) (cs : List Value) : Prop :=
  ∃ hv kv, cs = [.int .u8 nd.kind, hv, .int .i64 nd.n, .int .i64 nd.mn, .int .i64 nd.mx, kv] ∧ HoldsV w av hv nd ∧ KidsV w av kv nd.kids
def avo (b : Nat) (v : Value) : List Nat := b :: v.ownBlock.toList
def avoA (b : Nat) (A : List Nat) (v : Value) : List Nat := b :: (v.ownBlock.toList ++ A)
def NInv (w : World) (b : Nat) (A : List Nat) (v : Value) (nds : List Nd) : Prop :=
  ∃ css : List (List Value), css.length = nds.length ∧ w.ownsRow 0 157 6 v nds.length css.flatten ∧ v.ownBlock ≠ some b ∧ (∀ g, v.ownBlock = some g → g ∉ A) ∧
    ∀ (k : Nat) (nd : Nd), nds[k]? = some nd → ∃ cs, css[k]? = some cs ∧ NdAt w (avoA b A v) nd cs
theorem KidsV.step {w w' : World} {av av' S : List Nat} {kv : Value} {kids : List Nat} (h : KidsV w av kv kids) (hk : Keeps S w w') (hS : ∀ x, x < w.heap.size → x ∈ S → x ∈ av) (ha : ∀ x, x < w.heap.size → x ∈ av' → x ∈ av) : KidsV w' av' kv kids :=
  ⟨h.1.keep hk fun g hg hs => h.2 g hg (hS g (h.1.lt g hg).2 hs), fun g hg hs => h.2 g hg (ha g (h.1.lt g hg).2 hs)⟩
theorem HoldsV.step {w w' : World} {av av' S : List Nat} {hv : Value} {nd : Nd} (h : HoldsV w av hv nd) (hk : Keeps S w w') (hS : ∀ x, x < w.heap.size → x ∈ S → x ∈ av) (ha : ∀ x, x < w.heap.size → x ∈ av' → x ∈ av) : HoldsV w' av' hv nd := by
  refine ⟨h.1, fun e => ?_⟩
  obtain ⟨x, rfl, H, hx⟩ := h.2 e
  exact ⟨x, rfl, H.keep hk fun hs => hx (hS x H.lt hs), fun hs => hx (ha x H.lt hs)⟩
theorem NdAt.step {w w' : World} {av av' S : List Nat} {nd : Nd} {cs : List Value} (h : NdAt w av nd cs) (hk : Keeps S w w') (hS : ∀ x, x < w.heap.size → x ∈ S → x ∈ av) (ha : ∀ x, x < w.heap.size → x ∈ av' → x ∈ av) : NdAt w' av' nd cs := by
  obtain ⟨hv, kv, e, h1, h2⟩ := h
  exact ⟨hv, kv, e, h1.step hk hS ha, h2.step hk hS ha⟩
theorem NInv.keepA {w w' : World} {b : Nat} {A : List Nat} {v : Value} {nds : List Nd} {S : List Nat} (h : NInv w b A v nds) (hk : Keeps S w w') (hS : ∀ x, x ∈ S → x = b ∨ x ∈ A ∨ w.heap.size ≤ x) : NInv w' b A v nds := by
  obtain ⟨css, hl, ho, hne, hnA, hn⟩ := h
  refine ⟨css, hl, ho.keep hk ?_, hne, hnA, ?_⟩
  · intro g hg hs
    rcases hS g hs with rfl | h | h
    · exact hne hg
    · exact hnA g hg h
    · have := (ho.lt g hg).2; omega
  · intro k nd hk'
    obtain ⟨cs, e, hc⟩ := hn k nd hk'
    refine ⟨cs, e, hc.step hk ?_ fun _ _ h => h⟩
    intro x hx hs
    rcases hS x hs with rfl | h | h
    · simp [avoA]
    · simp [avoA, h]
    · omega
theorem NInv.keep {w w' : World} {b : Nat} {A : List Nat} {v : Value} {nds : List Nd} {S : List Nat} (h : NInv w b A v nds) (hk : Keeps S w w') (hS : ∀ x, x ∈ S → x = b ∨ w.heap.size ≤ x) : NInv w' b A v nds :=
  h.keepA hk fun x hx => (hS x hx).elim Or.inl fun h => Or.inr (Or.inr h)
theorem NInv.less {w : World} {b : Nat} {A A' : List Nat} {v : Value} {nds : List Nd} (h : NInv w b A v nds) (hs : ∀ x, x ∈ A' → x ∈ A ∨ w.heap.size ≤ x) : NInv w b A' v nds := by
  obtain ⟨css, hl, ho, hne, hnA, hn⟩ := h
  refine ⟨css, hl, ho, hne, ?_, ?_⟩
  · intro g hg hm
    rcases hs g hm with h | h
    · exact hnA g hg h
    · have := (ho.lt g hg).2; omega
  · intro k nd hk'
    obtain ⟨cs, e, hc⟩ := hn k nd hk'
    refine ⟨cs, e, hc.step (Keeps.refl [] w) (by simp) ?_⟩
    intro x hx hm
    simp only [avoA, List.mem_cons, List.mem_append, Option.mem_toList] at hm ⊢
    rcases hm with h | h | h
    · exact Or.inl h
    · exact Or.inr (Or.inl h)
    · rcases hs x h with h | h
      · exact Or.inr (Or.inr h)
      · omega
def Grow (b : Nat) (v v' : Value) (w w' : World) : Prop := Keeps (avo b v) w w' ∧ (v'.ownBlock = v.ownBlock ∨ ∃ g, v'.ownBlock = some g ∧ w.heap.size ≤ g)
theorem Grow.refl (b : Nat) (v : Value) (w : World) : Grow b v v w w := ⟨Keeps.refl _ _, Or.inl rfl⟩
theorem Grow.trans {b : Nat} {v v' v'' : Value} {w w' w'' : World} (h : Grow b v v' w w') (h' : Grow b v' v'' w' w'') : Grow b v v'' w w'' := by
  obtain ⟨k1, o1⟩ := h
  obtain ⟨k2, o2⟩ := h'
  refine ⟨⟨k2.os.trans k1.os, k2.tape.trans k1.tape, k2.output.trans k1.output, Nat.le_trans k1.size k2.size, ?_⟩, ?_⟩
  · intro k hk hn
    refine (k2.block k (Nat.lt_of_lt_of_le hk k1.size) ?_).trans (k1.block k hk hn)
    simp only [avo, List.mem_cons, Option.mem_toList] at hn ⊢
    rintro (h | h)
    · exact hn (Or.inl h)
    · rcases o1 with e | ⟨g, e, hg⟩
      · rw [e] at h; exact hn (Or.inr h)
      · rw [e] at h; cases h; omega
  · rcases o2 with e | ⟨g, e, hg⟩
    · rw [e]; exact o1
    · exact Or.inr ⟨g, e, Nat.le_trans k1.size hg⟩
theorem Grow.of {b : Nat} {v : Value} {w w' : World} {S : List Nat} (h : Keeps S w w') (hS : ∀ x, x ∈ S → x = b ∨ w.heap.size ≤ x) : Grow b v v w w' := by
  refine ⟨⟨h.os, h.tape, h.output, h.size, fun k hk hn => h.block k hk fun hs => ?_⟩, Or.inl rfl⟩
  rcases hS k hs with rfl | h'
  · exact hn (by simp [avo])
  · omega
theorem Grow.block {b : Nat} {v v' : Value} {w w' : World} (h : Grow b v v' w w') {k : Nat} (hk : k < w.heap.size) (hb : k ≠ b) (hv : v.ownBlock ≠ some k) : w'.heap[k]? = w.heap[k]? ∧ v'.ownBlock ≠ some k := by
  refine ⟨h.1.block k hk ?_, ?_⟩
  · simp only [avo, List.mem_cons, Option.mem_toList]
    rintro (h | h)
    · exact hb h
    · exact hv h
  · intro e
    rcases h.2 with e' | ⟨g, e', hg⟩
    · rw [e'] at e; exact hv e
    · rw [e'] at e; cases e; omega
end Go.Proofs.YtnfojonmohijpaaGreatDoor
namespace Go.Proofs.YtnfojonmohijpaaGreatDoor
open Go.RowKit
def endOf {α : Type} (s : ByteArray) : R α → Nat
  | .ok _ j => j
  | .bad _ => s.size
def After (p : PS) (q : R (Pat × Nat)) (p' : PS) : Prop :=
  p'.s = p.s ∧ p'.root = p.root ∧ p'.bg = p.bg ∧ p'.en = p.en ∧ p'.deep = p.deep ∧
  match q with
  | .ok (_, g1) j => p'.ix = j ∧ p'.gr = g1 ∧ p'.bad = p.bad
  | .bad j => p'.bad = (j : Int)
def repK (nds : List Nd) : Kd → Pat → Nat → Prop
  | .single, x, k => rep nds x [k]
  | .piece, x, k => rep nds x [k]
  | .way, x, k => ∃ lp, rep nds x lp ∧ ListN nds 119 lp k
  | .ways, x, k => ∃ lw, rep nds x lw ∧ ListN nds 111 lw k
def bndL : Kd → Nat
  | .single => 1
  | _ => 0
def bndR : Kd → Nat
  | .way => 1
  | .ways => 2
  | _ => 0
theorem PB.setGr {w : World} {b : Nat} {p : PS} (h : PB w b p) (x : Nat) : PB (w.setCell ⟨b, 5, none⟩ (.int .i64 x)) b { p with gr := x } := by
  unfold PB at *
  simp [World.setCell, Array.getElem?_modify, h, PS.cells]
theorem Keeps.setB {b : Nat} {a w : World} (h : Keeps [b] a w) (o : Nat) (u : Value) : Keeps [b] a (w.setCell ⟨b, o, none⟩ u) := h.setCell (by simp) u
theorem sub_b {b : Nat} {w : World} : ∀ x, x ∈ [b] → x = b ∨ w.heap.size ≤ x := by simp
theorem sub_nil {b : Nat} {w : World} : ∀ x, x ∈ ([] : List Nat) → x = b ∨ w.heap.size ≤ x := by simp
theorem kids_one {w : World} (k : Nat) (av : List Nat) (hav : ∀ x, x ∈ av → x < w.heap.size) : KidsV (w.alloc (.cells #[.int .i64 (k : Int)] 3)) av (.slice (some ⟨w.heap.size, 0, none⟩) 1 1) [k] := by
  refine ⟨⟨rfl, Or.inr ⟨w.heap.size, 1, #[.int .i64 (k : Int)], rfl, Nat.zero_le _, heap_alloc_new w _, Nat.le_refl _, by unfold maxLen; omega, rfl, rfl⟩⟩, ?_⟩
  intro g hg hm
  have : g = w.heap.size := by simpa [Value.ownBlock] using hg.symm
  have := hav g hm
  omega
theorem NInv.av {w : World} {b : Nat} {A : List Nat} {v : Value} {nds : List Nd} (h : NInv w b A v nds) (hb : b < w.heap.size) (hA : ∀ x, x ∈ A → x < w.heap.size) : ∀ x, x ∈ avoA b A v → x < w.heap.size := by
  obtain ⟨css, hl, ho, hne, hnA, hn⟩ := h
  intro x hx
  simp only [avoA, List.mem_cons, List.mem_append, Option.mem_toList] at hx
  rcases hx with rfl | h | h
  · exact hb
  · exact (ho.lt x h).2
  · exact hA x h
theorem endOf_le {s : ByteArray} {k : Kd} {d g i : Nat} {q : R (Pat × Nat)} (h : G s k d g i q) (hi : i ≤ s.size) : endOf s q ≤ s.size := by
  cases q with
  | bad j => exact Nat.le_refl _
  | ok x j => exact (h.okb x.1 x.2 j rfl).2.1 hi
end Go.Proofs.YtnfojonmohijpaaGreatDoor
namespace Go.Proofs.YtnfojonmohijpaaGreatDoor
open Go.RowKit
def NV (w : World) (nb h : Nat) : Prop := w.heap[nb]? = some (.cells #[.int .u8 98, .slice (some ⟨h, 0, none⟩) 256 256, .int .i64 0, .int .i64 0, .int .i64 0, .slice none 0 0] 157 (0, 0))
theorem NV.lt {w : World} {nb h : Nat} (H : NV w nb h) : nb < w.heap.size := (Array.getElem?_eq_some_iff.1 H).1
theorem NV.keep {w w' : World} {nb h : Nat} {S : List Nat} (H : NV w nb h) (hk : Keeps S w w') (hb : nb ∉ S) : NV w' nb h := (hk.block nb H.lt hb).trans H
theorem NV.cells {w : World} {nb h : Nat} (H : NV w nb h) : w.cell? ⟨nb, 0, none⟩ = some (.int .u8 98) ∧ w.cell? ⟨nb, 1, none⟩ = some (.slice (some ⟨h, 0, none⟩) 256 256) ∧ w.cell? ⟨nb, 2, none⟩ = some (.int .i64 0) ∧
    w.cell? ⟨nb, 3, none⟩ = some (.int .i64 0) ∧ w.cell? ⟨nb, 4, none⟩ = some (.int .i64 0) ∧ w.cell? ⟨nb, 5, none⟩ = some (.slice none 0 0) := by
  unfold NV at H
  simp [World.cell?, H]
structure SSt (b : Nat) (A : List Nat) (p : PS) (nds : List Nd) (w0 : World) (h nb : Nat) (p9 : PS) (F : Nat → Bool) (w9 : World) : Prop where
  pb : PB w9 b p9
  hb : HB w9 h F
  nv : NV w9 nb h
  nodes : p9.nodes = p.nodes
  fresh : w0.heap.size ≤ h ∧ w0.heap.size ≤ nb ∧ h ≠ nb
  kb : Keeps [b] w0 w9
  old : NInv w0 b A p.nodes nds
  avl : ∀ x, x ∈ A → x < w0.heap.size
  bl : b < w0.heap.size
theorem SSt.inv {b : Nat} {A : List Nat} {p : PS} {nds : List Nd} {w0 : World} {h nb : Nat} {p9 : PS} {F : Nat → Bool} {w9 : World} (S : SSt b A p nds w0 h nb p9 F w9) : NInv w9 b A p9.nodes nds := by rw [S.nodes]; exact S.old.keep S.kb sub_b
theorem SSt.grow {b : Nat} {A : List Nat} {p : PS} {nds : List Nd} {w0 : World} {h nb : Nat} {p9 : PS} {F : Nat → Bool} {w9 : World} (S : SSt b A p nds w0 h nb p9 F w9) : Grow b p.nodes p.nodes w0 w9 := Grow.of S.kb sub_b
theorem SSt.drewN {b : Nat} {A : List Nat} {p : PS} {nds : List Nd} {w0 : World} {h nb : Nat} {p9 : PS} {F : Nat → Bool} {w9 : World} (S : SSt b A p nds w0 h nb p9 F w9) (n : Nat) : SSt b A p nds w0 h nb p9 F (w9.drewN n) :=
  ⟨S.pb, S.hb, S.nv, S.nodes, S.fresh, S.kb.drewN n, S.old, S.avl, S.bl⟩
theorem SSt.set {b : Nat} {A : List Nat} {p : PS} {nds : List Nd} {w0 : World} {h nb : Nat} {p9 p10 : PS} {F F' : Nat → Bool} {w9 w10 : World} (S : SSt b A p nds w0 h nb p9 F w9) (hp : PB w10 b p10) (hh : HB w10 h F') (hk : Keeps [b, h] w9 w10) (hn : p10.nodes = p9.nodes) : SSt b A p nds w0 h nb p10 F' w10 := by
  have h2 : nb ∉ [b, h] := by have := S.fresh.2.1; have := S.fresh.2.2; have := S.bl; simp; omega
  refine ⟨hp, hh, S.nv.keep hk h2, hn.trans S.nodes, S.fresh, ⟨hk.os.trans S.kb.os, hk.tape.trans S.kb.tape, hk.output.trans S.kb.output, Nat.le_trans S.kb.size hk.size, ?_⟩, S.old, S.avl, S.bl⟩
  intro k hkl hkn
  refine (hk.block k (Nat.lt_of_lt_of_le hkl S.kb.size) ?_).trans (S.kb.block k hkl hkn)
  have := S.fresh.1
  simp at hkn ⊢
  omega
theorem SSt.ix {b : Nat} {A : List Nat} {p : PS} {nds : List Nd} {w0 : World} {h nb : Nat} {p9 : PS} {F : Nat → Bool} {w9 : World} (S : SSt b A p nds w0 h nb p9 F w9) (x : Nat) : SSt b A p nds w0 h nb { p9 with ix := x } F (w9.setCell ⟨b, 7, none⟩ (.int .i64 x)) := by
  have h1 : ¬ b = h := by have := S.fresh.1; have := S.bl; omega
  exact S.set (S.pb.setIx x) (S.hb.setOther h1 _) ((Keeps.refl _ _).setCell (by simp) _) rfl
theorem SSt.bad {b : Nat} {A : List Nat} {p : PS} {nds : List Nd} {w0 : World} {h nb : Nat} {p9 : PS} {F : Nat → Bool} {w9 : World} (S : SSt b A p nds w0 h nb p9 F w9) (x : Int) : SSt b A p nds w0 h nb { p9 with bad := x } F (w9.setCell ⟨b, 6, none⟩ (.int .i64 x)) := by
  have h1 : ¬ b = h := by have := S.fresh.1; have := S.bl; omega
  exact S.set (S.pb.setBad x) (S.hb.setOther h1 _) ((Keeps.refl _ _).setCell (by simp) _) rfl
theorem SSt.put {b : Nat} {A : List Nat} {p : PS} {nds : List Nd} {w0 : World} {h nb : Nat} {p9 : PS} {F : Nat → Bool} {w9 : World} (S : SSt b A p nds w0 h nb p9 F w9) (k : Nat) : SSt b A p nds w0 h nb p9 (fun n => if n = k then true else F n) (w9.setCell ⟨h, k, none⟩ (.bool true)) := by
  have h1 : ¬ h = b := by have := S.fresh.1; have := S.bl; omega
  exact S.set (S.pb.setOther h1 _) (S.hb.set k true) ((Keeps.refl _ _).setCell (by simp) _) rfl
end Go.Proofs.YtnfojonmohijpaaGreatDoor
namespace Go.Proofs.YtnfojonmohijpaaGreatDoor
open Go.RowKit
structure QSt (b : Nat) (A : List Nat) (p1 : PS) (nds1 : List Nd) (w1 : World) (kb nb k mn : Nat) (mx : Int) (p9 : PS) (w9 : World) : Prop where
  pb : PB w9 b p9
  kv : w9.heap[kb]? = some (.cells #[.int .i64 (k : Int)] 3 (0, 0))
  nv : w9.heap[nb]? = some (.cells #[.int .u8 114, .slice none 0 0, .int .i64 0, .int .i64 (mn : Int), .int .i64 mx, .slice (some ⟨kb, 0, none⟩) 1 1] 157 (0, 0))
  nodes : p9.nodes = p1.nodes
  fresh : w1.heap.size ≤ kb ∧ w1.heap.size ≤ nb ∧ kb ≠ nb
  kp : Keeps [b] w1 w9
  old : NInv w1 b A p1.nodes nds1
  avl : ∀ x, x ∈ A → x < w1.heap.size
  bl : b < w1.heap.size
theorem QSt.cells {b : Nat} {A : List Nat} {p1 : PS} {nds1 : List Nd} {w1 : World} {kb nb k mn : Nat} {mx : Int} {p9 : PS} {w9 : World} (S : QSt b A p1 nds1 w1 kb nb k mn mx p9 w9) : w9.cell? ⟨nb, 0, none⟩ = some (.int .u8 114) ∧ w9.cell? ⟨nb, 1, none⟩ = some (.slice none 0 0) ∧ w9.cell? ⟨nb, 2, none⟩ = some (.int .i64 0) ∧
    w9.cell? ⟨nb, 3, none⟩ = some (.int .i64 (mn : Int)) ∧ w9.cell? ⟨nb, 4, none⟩ = some (.int .i64 mx) ∧ w9.cell? ⟨nb, 5, none⟩ = some (.slice (some ⟨kb, 0, none⟩) 1 1) ∧ w9.frozen? ⟨nb, 3, none⟩ = false ∧ w9.frozen? ⟨nb, 4, none⟩ = false := by
  simp [World.cell?, World.frozen?, S.nv]
theorem QSt.inv {b : Nat} {A : List Nat} {p1 : PS} {nds1 : List Nd} {w1 : World} {kb nb k mn : Nat} {mx : Int} {p9 : PS} {w9 : World} (S : QSt b A p1 nds1 w1 kb nb k mn mx p9 w9) : NInv w9 b A p9.nodes nds1 := by rw [S.nodes]; exact S.old.keep S.kp sub_b
theorem QSt.grow {b : Nat} {A : List Nat} {p1 : PS} {nds1 : List Nd} {w1 : World} {kb nb k mn : Nat} {mx : Int} {p9 : PS} {w9 : World} (S : QSt b A p1 nds1 w1 kb nb k mn mx p9 w9) : Grow b p1.nodes p1.nodes w1 w9 := Grow.of S.kp sub_b
theorem QSt.call {b : Nat} {A : List Nat} {p1 : PS} {nds1 : List Nd} {w1 : World} {kb nb k mn : Nat} {mx : Int} {p9 : PS} {w9 : World} (S : QSt b A p1 nds1 w1 kb nb k mn mx p9 w9) {p10 : PS} {w10 : World} (hp : PB w10 b p10) (hk : Keeps [b] w9 w10) (hn : p10.nodes = p9.nodes) : QSt b A p1 nds1 w1 kb nb k mn mx p10 w10 := by
  have h0 := S.bl
  have h1 : kb ∉ [b] := by have := S.fresh.1; simp; omega
  have h2 : nb ∉ [b] := by have := S.fresh.2.1; simp; omega
  have l1 := (Array.getElem?_eq_some_iff.1 S.kv).1
  have l2 := (Array.getElem?_eq_some_iff.1 S.nv).1
  exact ⟨hp, (hk.block kb l1 h1).trans S.kv, (hk.block nb l2 h2).trans S.nv, hn.trans S.nodes, S.fresh, S.kp.trans hk, S.old, S.avl, S.bl⟩
theorem QSt.drewN {b : Nat} {A : List Nat} {p1 : PS} {nds1 : List Nd} {w1 : World} {kb nb k mn : Nat} {mx : Int} {p9 : PS} {w9 : World} (S : QSt b A p1 nds1 w1 kb nb k mn mx p9 w9) (n : Nat) : QSt b A p1 nds1 w1 kb nb k mn mx p9 (w9.drewN n) := ⟨S.pb, S.kv, S.nv, S.nodes, S.fresh, S.kp.drewN n, S.old, S.avl, S.bl⟩
theorem QSt.ix {b : Nat} {A : List Nat} {p1 : PS} {nds1 : List Nd} {w1 : World} {kb nb k mn : Nat} {mx : Int} {p9 : PS} {w9 : World} (S : QSt b A p1 nds1 w1 kb nb k mn mx p9 w9) (x : Nat) : QSt b A p1 nds1 w1 kb nb k mn mx { p9 with ix := x } (w9.setCell ⟨b, 7, none⟩ (.int .i64 x)) := S.call (S.pb.setIx x) ((Keeps.refl [b] w9).setB 7 _) rfl
theorem QSt.mn {b : Nat} {A : List Nat} {p1 : PS} {nds1 : List Nd} {w1 : World} {kb nb k mn : Nat} {mx : Int} {p9 : PS} {w9 : World} (S : QSt b A p1 nds1 w1 kb nb k mn mx p9 w9) (x : Nat) : QSt b A p1 nds1 w1 kb nb k x mx p9 (w9.setCell ⟨nb, 3, none⟩ (.int .i64 x)) := by
  have h0 := S.bl
  have h1 := S.fresh
  refine ⟨S.pb.setOther (by simp; omega) _, ?_, ?_, S.nodes, S.fresh, S.kp.setCell (Or.inr (by simp; omega)) _, S.old, S.avl, S.bl⟩
  · rw [Below.heap_setCell _ _ _ _ (by simp; omega)]; exact S.kv
  · simp [World.setCell, Array.getElem?_modify, S.nv]
theorem QSt.mx {b : Nat} {A : List Nat} {p1 : PS} {nds1 : List Nd} {w1 : World} {kb nb k mn : Nat} {mx : Int} {p9 : PS} {w9 : World} (S : QSt b A p1 nds1 w1 kb nb k mn mx p9 w9) (x : Int) : QSt b A p1 nds1 w1 kb nb k mn x p9 (w9.setCell ⟨nb, 4, none⟩ (.int .i64 x)) := by
  have h0 := S.bl
  have h1 := S.fresh
  refine ⟨S.pb.setOther (by simp; omega) _, ?_, ?_, S.nodes, S.fresh, S.kp.setCell (Or.inr (by simp; omega)) _, S.old, S.avl, S.bl⟩
  · rw [Below.heap_setCell _ _ _ _ (by simp; omega)]; exact S.kv
  · simp [World.setCell, Array.getElem?_modify, S.nv]
end Go.Proofs.YtnfojonmohijpaaGreatDoor
namespace Go.Proofs.YtnfojonmohijpaaGreatDoor
open Go.RowKit
theorem NAfter.eq {p p' : PS} {q : R Nat} (h : NAfter p q p') : ∃ a z, p' = { p with ix := a, bad := z } := by
  rcases h with rfl | ⟨_, rfl⟩
  · cases q <;> exact ⟨_, _, rfl⟩
  · exact ⟨_, _, rfl⟩
theorem NAfter.nodes {p p' : PS} {q : R Nat} (h : NAfter p q p') : p'.nodes = p.nodes := by obtain ⟨a, z, rfl⟩ := h.eq; rfl
theorem NAfter.s {p p' : PS} {q : R Nat} (h : NAfter p q p') : p'.s = p.s := by obtain ⟨a, z, rfl⟩ := h.eq; rfl
theorem NAfter.root {p p' : PS} {q : R Nat} (h : NAfter p q p') : p'.root = p.root := by obtain ⟨a, z, rfl⟩ := h.eq; rfl
theorem NAfter.bg {p p' : PS} {q : R Nat} (h : NAfter p q p') : p'.bg = p.bg := by obtain ⟨a, z, rfl⟩ := h.eq; rfl
theorem NAfter.en {p p' : PS} {q : R Nat} (h : NAfter p q p') : p'.en = p.en := by obtain ⟨a, z, rfl⟩ := h.eq; rfl
theorem NAfter.deep {p p' : PS} {q : R Nat} (h : NAfter p q p') : p'.deep = p.deep := by obtain ⟨a, z, rfl⟩ := h.eq; rfl
theorem NAfter.gr {p p' : PS} {q : R Nat} (h : NAfter p q p') : p'.gr = p.gr := by obtain ⟨a, z, rfl⟩ := h.eq; rfl
end Go.Proofs.YtnfojonmohijpaaGreatDoor
namespace Go.Proofs.YtnfojonmohijpaaGreatDoor
open Go.RowKit
def app : List Pat → Pat → Pat
  | [], y => y
  | x :: xs, y => .pcons x (app xs y)
theorem app_snoc (xs : List Pat) (x y : Pat) : app (xs ++ [x]) y = app xs (.pcons x y) := by
  induction xs with
  | nil => rfl
  | cons z zs ih => simp only [List.cons_append, app, ih]
def repL (nds : List Nd) : List Pat → List Nat → Prop
  | [], [] => True
  | x :: xs, k :: ks => rep nds x [k] ∧ repL nds xs ks
  | _, _ => False
theorem repL_app {nds : List Nd} (ext : List Nd) : ∀ {xs : List Pat} {ks : List Nat}, repL nds xs ks → repL (nds ++ ext) xs ks
  | [], [], _ => trivial
  | _ :: _, _ :: _, h => ⟨rep_app ext h.1, repL_app ext h.2⟩
theorem repL_snoc {nds : List Nd} {x : Pat} {k : Nat} : ∀ {xs : List Pat} {ks : List Nat}, repL nds xs ks → rep nds x [k] → repL nds (xs ++ [x]) (ks ++ [k])
  | [], [], _, h => ⟨h, trivial⟩
  | _ :: _, _ :: _, h, h' => ⟨h.1, repL_snoc h.2 h'⟩
def appW : List Pat → Pat → Pat
  | [], y => y
  | x :: xs, y => .wcons x (appW xs y)
theorem appW_snoc (xs : List Pat) (x y : Pat) : appW (xs ++ [x]) y = appW xs (.wcons x y) := by
  induction xs with
  | nil => rfl
  | cons z zs ih => simp only [List.cons_append, appW, ih]
def repW (nds : List Nd) : List Pat → List Nat → Prop
  | [], [] => True
  | x :: xs, k :: ks => (∃ lp, rep nds x lp ∧ ListN nds 119 lp k) ∧ repW nds xs ks
  | _, _ => False
theorem repW_app {nds : List Nd} (ext : List Nd) : ∀ {xs : List Pat} {ks : List Nat}, repW nds xs ks → repW (nds ++ ext) xs ks
  | [], [], _ => trivial
  | _ :: _, _ :: _, h => ⟨by obtain ⟨lp, a, b⟩ := h.1; exact ⟨lp, rep_app ext a, b.app ext⟩, repW_app ext h.2⟩
theorem repW_snoc {nds : List Nd} {x : Pat} {k : Nat} : ∀ {xs : List Pat} {ks : List Nat}, repW nds xs ks → (∃ lp, rep nds x lp ∧ ListN nds 119 lp k) → repW nds (xs ++ [x]) (ks ++ [k])
  | [], [], _, h => ⟨h, trivial⟩
  | _ :: _, _ :: _, h, h' => ⟨h.1, repW_snoc h.2 h'⟩
theorem Grow.step {b : Nat} {v v' : Value} {w wr wr' : World} {S : List Nat} (h : Grow b v v' w wr) (hk : Keeps S wr wr') (hS : ∀ x, x ∈ S → x = b ∨ w.heap.size ≤ x) : Grow b v v' w wr' := by
  obtain ⟨k1, o1⟩ := h
  refine ⟨⟨hk.os.trans k1.os, hk.tape.trans k1.tape, hk.output.trans k1.output, Nat.le_trans k1.size hk.size, ?_⟩, o1⟩
  intro k hkl hn
  refine (hk.block k (Nat.lt_of_lt_of_le hkl k1.size) fun hs => ?_).trans (k1.block k hkl hn)
  rcases hS k hs with h | h
  · exact hn (by simp [avo, h])
  · omega
structure Lst (b : Nat) (A : List Nat) (p : PS) (w : World) (nds : List Nd) (lv : Value) (ks : List Nat) (p' : PS) (ext : List Nd) (wr : World) : Prop where
  pb : PB wr b p'
  kids : KidsV wr (avoA b A p'.nodes) lv ks
  inv : NInv wr b (lv.ownBlock.toList ++ A) p'.nodes (nds ++ ext)
  grow : Grow b p.nodes p'.nodes w wr
  fresh : ∀ g, lv.ownBlock = some g → w.heap.size ≤ g
  few : ks.length ≤ 61
  avl : ∀ x, x ∈ A → x < w.heap.size
theorem Lst.call {b : Nat} {A : List Nat} {p : PS} {w : World} {nds : List Nd} {lv : Value} {ks : List Nat} {p' : PS} {ext : List Nd} {wr : World} (L : Lst b A p w nds lv ks p' ext wr) {p2 : PS} {ext2 : List Nd} {w2 : World}
    (hp : PB w2 b p2) (hi : NInv w2 b (lv.ownBlock.toList ++ A) p2.nodes (nds ++ ext ++ ext2)) (hg : Grow b p'.nodes p2.nodes wr w2) : Lst b A p w nds lv ks p2 (ext ++ ext2) w2 := by
  refine ⟨hp, ?_, by rw [← List.append_assoc]; exact hi, L.grow.trans hg, L.fresh, L.few, L.avl⟩
  refine L.kids.step hg.1 ?_ ?_
  · intro x _ hx
    simp only [avo, avoA, List.mem_cons, List.mem_append] at hx ⊢
    rcases hx with h | h
    · exact Or.inl h
    · exact Or.inr (Or.inl h)
  · intro x hxl hx
    simp only [avoA, List.mem_cons, List.mem_append, Option.mem_toList] at hx ⊢
    rcases hx with h | h | h
    · exact Or.inl h
    · rcases hg.2 with e | ⟨g, e, hgl⟩
      · rw [e] at h; exact Or.inr (Or.inl h)
      · rw [e] at h; cases h; omega
    · exact Or.inr (Or.inr h)
end Go.Proofs.YtnfojonmohijpaaGreatDoor
namespace Go.Proofs.YtnfojonmohijpaaGreatDoor
open Go.RowKit
def SameF (p p' : PS) : Prop := p'.s = p.s ∧ p'.root = p.root ∧ p'.bg = p.bg ∧ p'.en = p.en ∧ p'.deep = p.deep
def WSt (b : Nat) (A : List Nat) (p : PS) (w : World) (nds : List Nd) (lv : Value) (wr : World) : Prop :=
  ∃ ks p' ext, Lst b A p w nds lv ks p' ext wr ∧ SameF p p' ∧
    ((p'.bad = p.bad ∧ p.ix ≤ p'.ix ∧ p'.ix ≤ p.s.size ∧ p'.gr ≤ 9 ∧ ext.length ≤ 4 * (p'.ix - p.ix) ∧ ks.length ≤ p'.ix - p.ix ∧
        ∃ xs, repL (nds ++ ext) xs ks ∧ (∀ y g' j', G p.s .way p.deep p'.gr p'.ix (.ok (y, g') j') → G p.s .way p.deep p.gr p.ix (.ok (app xs y, g') j')) ∧
          (∀ l, G p.s .way p.deep p'.gr p'.ix (.bad l) → G p.s .way p.deep p.gr p.ix (.bad l))) ∨
     (∃ j : Nat, p'.bad = (j : Int) ∧ ext.length ≤ 4 * (p.s.size - p.ix) ∧ G p.s .way p.deep p.gr p.ix (.bad j)))
theorem Lst.keep {b : Nat} {A : List Nat} {p : PS} {w : World} {nds : List Nd} {lv : Value} {ks : List Nat} {p' : PS} {ext : List Nd} {wr w9 : World} (L : Lst b A p w nds lv ks p' ext wr) (hk : Keeps [] wr w9) : Lst b A p w nds lv ks p' ext w9 :=
  ⟨L.pb.keep hk (by simp), L.kids.step hk (by simp) (fun _ _ h => h), L.inv.keep hk sub_nil, L.grow.step hk sub_nil, L.fresh, L.few, L.avl⟩
theorem WSt.next {b : Nat} {A : List Nat} {p : PS} {w : World} {nds : List Nd} {lv : Value} {ks : List Nat} {p' p2 : PS} {ext ext2 : List Nd} {w1 : World} {k : Nat} {xs : List Pat} {q : R (Pat × Nat)} (L : Lst b A p w nds lv (ks ++ [k]) p2 (ext ++ ext2) w1) (hF : SameF p p') (hbad : p'.bad = p.bad)
    (hi1 : p.ix ≤ p'.ix) (hbd : ext.length ≤ 4 * (p'.ix - p.ix)) (hkl : ks.length ≤ p'.ix - p.ix) (hrx : repL (nds ++ ext) xs ks)
    (hG1 : ∀ y g' j', G p.s .way p.deep p'.gr p'.ix (.ok (y, g') j') → G p.s .way p.deep p.gr p.ix (.ok (app xs y, g') j')) (hG2 : ∀ l, G p.s .way p.deep p'.gr p'.ix (.bad l) → G p.s .way p.deep p.gr p.ix (.bad l))
    (hst : ¬ stopC (at' p.s p'.ix)) (hG : G p'.s .piece p'.deep p'.gr p'.ix q) (hA : After p' q p2) (hbd3 : ext2.length + bndL .piece ≤ 4 * (endOf p'.s q - p'.ix) + bndR .piece) (hrep : ∀ x g j, q = .ok (x, g) j → repK (nds ++ ext ++ ext2) .piece x k) (hlt : p'.ix < p.s.size) (hg9 : p'.gr ≤ 9) :
    WSt b A p w nds lv w1 := by
  obtain ⟨f1, f2, f3, f4, f5⟩ := hF
  obtain ⟨a1, a2, a3, a4, a5, a6⟩ := hA
  rw [f1, f5] at hG
  rw [f1] at hbd3
  refine ⟨ks ++ [k], p2, ext ++ ext2, L, ⟨a1.trans f1, a2.trans f2, a3.trans f3, a4.trans f4, a5.trans f5⟩, ?_⟩
  cases q with
  | bad j =>
    right
    refine ⟨j, a6, ?_, hG2 j (.pbad _ _ _ _ hst hG)⟩
    simp only [endOf, bndL, bndR] at hbd3
    simp only [List.length_append]; omega
  | ok xg j =>
    obtain ⟨x, g1⟩ := xg
    obtain ⟨e1, e2, e3⟩ := a6
    have hok := hG.okb x g1 j rfl
    left
    simp only [endOf, bndL, bndR] at hbd3
    have hj1 := hok.2.2.1 (Or.inl rfl)
    have hj2 := hok.2.1 (Nat.le_of_lt hlt)
    rw [e1, e2]
    refine ⟨e3.trans hbad, by omega, hj2, hok.2.2.2.2 hg9, by simp only [List.length_append]; omega, by simp only [List.length_append, List.length_singleton]; omega, xs ++ [x], ?_, ?_, ?_⟩
    · rw [← List.append_assoc]
      exact repL_snoc (repL_app _ hrx) (hrep x g1 j rfl)
    · intro y g' j' hy
      rw [app_snoc]
      exact hG1 _ _ _ (.cons _ _ _ _ _ _ _ hst hG hy)
    · intro l hl
      exact hG2 l (.cons _ _ _ _ _ _ _ hst hG hl)
end Go.Proofs.YtnfojonmohijpaaGreatDoor
namespace Go.Proofs.YtnfojonmohijpaaGreatDoor
open Go.RowKit
theorem Lst.first {b : Nat} {A : List Nat} {p p' : PS} {w w1 : World} {nds ext : List Nd} (k : Nat) (hp : PB w1 b p') (hi : NInv w1 b A p'.nodes (nds ++ ext)) (hg : Grow b p.nodes p'.nodes w w1) (hA : ∀ x, x ∈ A → x < w.heap.size) :
    Lst b A p w nds (.slice (some ⟨w1.heap.size, 0, none⟩) 1 1) [k] p' ext (w1.alloc (.cells #[.int .i64 (k : Int)] 3)) := by
  have hk := (Keeps.refl [] w1).alloc (.cells #[.int .i64 (k : Int)] 3)
  have hs := hg.1.size
  have hA1 : ∀ x, x ∈ A → x < w1.heap.size := fun x hx => Nat.lt_of_lt_of_le (hA x hx) hs
  refine ⟨hp.keep hk (by simp), kids_one k _ (hi.av hp.lt hA1), ?_, hg.step hk sub_nil, ?_, by simp, hA⟩
  · refine (hi.less (A' := [w1.heap.size] ++ A) ?_).keep hk sub_nil
    intro x hx
    simp only [List.mem_append, List.mem_singleton] at hx
    rcases hx with rfl | h
    · exact Or.inr (Nat.le_refl _)
    · exact Or.inl h
  · intro g e
    have : g = w1.heap.size := by simpa [Value.ownBlock] using e.symm
    omega
def YSt (b : Nat) (A : List Nat) (p : PS) (w : World) (nds : List Nd) (k0 : Nat) (lv : Value) (wr : World) : Prop :=
  ∃ tl p' ext, Lst b A p w nds lv (k0 :: tl) p' ext wr ∧ SameF p p' ∧
    ((p'.bad = p.bad ∧ p.ix ≤ p'.ix ∧ p'.ix ≤ p.s.size ∧ p'.gr ≤ 9 ∧ ext.length ≤ 4 * (p'.ix - p.ix) + 1 ∧ tl.length ≤ p'.ix - p.ix ∧
        ∃ xs x, repW (nds ++ ext) (xs ++ [x]) (k0 :: tl) ∧ (at' p.s p'.ix ≠ 124 → G p.s .ways p.deep p.gr p.ix (.ok (appW xs (.wone x), p'.gr) p'.ix)) ∧
          (at' p.s p'.ix = 124 → ∀ q, G p.s .ways p.deep p'.gr (p'.ix + 1) q → G p.s .ways p.deep p.gr p.ix (q.map fun y => (appW (xs ++ [x]) y.1, y.2)))) ∨
     (∃ j : Nat, p'.bad = (j : Int) ∧ ext.length ≤ 4 * (p.s.size - p.ix) + 1 ∧ G p.s .ways p.deep p.gr p.ix (.bad j)))
theorem YSt.start {b : Nat} {A : List Nat} {p : PS} {w : World} {nds : List Nd} {lv : Value} {k : Nat} {p' : PS} {ext : List Nd} {w1 : World} {q : R (Pat × Nat)} (L : Lst b A p w nds lv [k] p' ext w1) (hG : G p.s .way p.deep p.gr p.ix q) (hA : After p q p') (hbd : ext.length + bndL .way ≤ 4 * (endOf p.s q - p.ix) + bndR .way)
    (hrep : ∀ x g j, q = .ok (x, g) j → repK (nds ++ ext) .way x k) (hpi : p.ix ≤ p.s.size) (hg9 : p.gr ≤ 9) : YSt b A p w nds k lv w1 := by
  obtain ⟨a1, a2, a3, a4, a5, a6⟩ := hA
  refine ⟨[], p', ext, L, ⟨a1, a2, a3, a4, a5⟩, ?_⟩
  cases q with
  | bad j => right; exact ⟨j, a6, by simpa [endOf, bndL, bndR] using hbd, .wbad _ _ _ _ hG⟩
  | ok xg j =>
    obtain ⟨x, g1⟩ := xg
    obtain ⟨e1, e2, e3⟩ := a6
    have hok := hG.okb x g1 j rfl
    left
    rw [e1, e2]
    refine ⟨e3, hok.1, hok.2.1 hpi, hok.2.2.2.2 hg9, by simpa [endOf, bndL, bndR] using hbd, by simp, [], x, ⟨hrep x g1 j rfl, trivial⟩, fun h => .one _ _ _ _ _ _ hG h, fun h q hq => ?_⟩
    have := G.more _ _ _ _ _ _ _ hG h hq
    exact this
theorem YSt.next {b : Nat} {A : List Nat} {p : PS} {w : World} {nds : List Nd} {lv : Value} {k0 k : Nat} {tl : List Nat} {p' p1 p2 : PS} {ext ext2 : List Nd} {w1 : World} {xs : List Pat} {x : Pat} {q : R (Pat × Nat)} (L : Lst b A p w nds lv ((k0 :: tl) ++ [k]) p2 (ext ++ ext2) w1) (hF : SameF p p') (hbad : p'.bad = p.bad)
    (hp1 : p1 = { p' with ix := p'.ix + 1 }) (hi1 : p.ix ≤ p'.ix) (hbd : ext.length ≤ 4 * (p'.ix - p.ix) + 1) (hkl : tl.length ≤ p'.ix - p.ix) (hrx : repW (nds ++ ext) (xs ++ [x]) (k0 :: tl)) (h124 : at' p.s p'.ix = 124)
    (hG2 : at' p.s p'.ix = 124 → ∀ q, G p.s .ways p.deep p'.gr (p'.ix + 1) q → G p.s .ways p.deep p.gr p.ix (q.map fun y => (appW (xs ++ [x]) y.1, y.2)))
    (hG : G p1.s .way p1.deep p1.gr p1.ix q) (hA : After p1 q p2) (hbd3 : ext2.length + bndL .way ≤ 4 * (endOf p1.s q - p1.ix) + bndR .way) (hrep : ∀ x g j, q = .ok (x, g) j → repK (nds ++ ext ++ ext2) .way x k) (hg9 : p'.gr ≤ 9) :
    YSt b A p w nds k0 lv w1 := by
  subst hp1
  obtain ⟨f1, f2, f3, f4, f5⟩ := hF
  obtain ⟨a1, a2, a3, a4, a5, a6⟩ := hA
  have hG' : G p.s .way p.deep p'.gr (p'.ix + 1) q := by rw [← f1, ← f5]; exact hG
  have hb3 : ext2.length + 0 ≤ 4 * (endOf p.s q - (p'.ix + 1)) + 1 := by rw [← f1]; exact hbd3
  have hlt := at'_nn (s := p.s) (i := p'.ix) (by omega)
  refine ⟨tl ++ [k], p2, ext ++ ext2, L, ⟨a1.trans f1, a2.trans f2, a3.trans f3, a4.trans f4, a5.trans f5⟩, ?_⟩
  cases q with
  | bad j =>
    right
    refine ⟨j, a6, ?_, hG2 h124 _ (.wbad _ _ _ _ hG')⟩
    simp only [endOf] at hb3
    simp only [List.length_append]; omega
  | ok xg j =>
    obtain ⟨y, g1⟩ := xg
    obtain ⟨e1, e2, e3⟩ := a6
    have hok := hG'.okb y g1 j rfl
    left
    simp only [endOf] at hb3
    have hj1 := hok.1
    have hj2 := hok.2.1 hlt
    rw [e1, e2]
    refine ⟨e3.trans hbad, by omega, hj2, hok.2.2.2.2 hg9, by simp only [List.length_append]; omega, by simp only [List.length_append, List.length_singleton]; omega, xs ++ [x], y, ?_, ?_, ?_⟩
    · rw [← List.append_assoc]
      exact repW_snoc (ks := k0 :: tl) (repW_app _ hrx) (hrep y g1 j rfl)
    · intro hne
      exact hG2 h124 _ (.one _ _ _ _ _ _ hG' hne)
    · intro he q hq
      have := hG2 h124 _ (.more _ _ _ _ _ _ _ hG' he hq)
      cases q with
      | bad l => exact this
      | ok z l => simp only [R.map] at this ⊢; rw [appW_snoc]; exact this
end Go.Proofs.YtnfojonmohijpaaGreatDoor
namespace Go.Proofs.YtnfojonmohijpaaGreatDoor
open Go.RowKit
def p0 (s : ByteArray) : PS := { s := s, nodes := .slice none 0 0, root := 0, bg := false, en := false, gr := 0, bad := -1, ix := 0, deep := 0 }
end Go.Proofs.YtnfojonmohijpaaGreatDoor
namespace Go.Proofs.YtnfojonmohijpaaGreatDoor
open Go.RowKit
def bl (n : Nat) (f : Nat → Bool) : List Value := (List.range n).map fun j => .bool (f j)
theorem bl_at {n j : Nat} (f : Nat → Bool) (h : j < n) : (bl n f)[j]? = some (.bool (f j)) := by simp [bl, h]
theorem bl_set (n k : Nat) (f : Nat → Bool) (b : Bool) : (bl n f).set k (.bool b) = bl n (fun j => if j = k then b else f j) := by
  apply List.ext_getElem?
  intro j
  rw [List.getElem?_set]
  by_cases hj : j < n
  · by_cases e : k = j
    · subst e; simp [bl, hj]
    · have e' : ¬ j = k := fun h => e h.symm
      simp [bl, hj, e, e']
  · by_cases e : k = j
    · subst e; simp [bl, hj]
    · simp [bl, hj, e]
theorem bl_ext {n : Nat} {f g : Nat → Bool} (h : ∀ j, j < n → f j = g j) : bl n f = bl n g := by
  unfold bl
  apply List.map_congr_left
  intro j hj
  rw [h j (by simpa using hj)]
def RB (w : World) (v : Value) (n : Nat) (f : Nat → Bool) : Prop := w.ownsRow 0 4 1 v n (bl n f)
theorem RB.keep {w w' : World} {S : List Nat} {v : Value} {n : Nat} {f : Nat → Bool} (h : RB w v n f) (hk : Keeps S w w') (hs : ∀ g, v.ownBlock = some g → g ∉ S) : RB w' v n f := World.ownsRow.keep h hk hs
theorem RB.form {w : World} {v : Value} {n : Nat} {f : Nat → Bool} (h : RB w v n f) (hn : 0 < n) : ∃ g cap, v = .slice (some ⟨g, 0, none⟩) n cap ∧ g < w.heap.size := by
  obtain ⟨g, cap, hv, _, hg⟩ := World.ownsRow.form h hn
  exact ⟨g, cap, hv, hg⟩
theorem RB.ext {w : World} {v : Value} {n : Nat} {f g : Nat → Bool} (h : RB w v n f) (e : ∀ j, j < n → f j = g j) : RB w v n g := by
  unfold RB at *
  rw [← bl_ext e]
  exact h
theorem RB.at {w : World} {g cap n : Nat} {f : Nat → Bool} (h : RB w (.slice (some ⟨g, 0, none⟩) n cap) n f) {j : Nat} (hj : j < n) : w.cell? ⟨g, j, none⟩ = some (.bool (f j)) := by
  rw [World.ownsRow.cellAt h j (by omega), bl_at f hj]
theorem RB.frozen {w : World} {g cap n : Nat} {f : Nat → Bool} (h : RB w (.slice (some ⟨g, 0, none⟩) n cap) n f) (j : Nat) : w.frozen? ⟨g, j, none⟩ = false := World.ownsRow.frozenAt h j
theorem RB.put {w : World} {g cap n : Nat} {f : Nat → Bool} (h : RB w (.slice (some ⟨g, 0, none⟩) n cap) n f) (k : Nat) (b : Bool) : RB (w.setCell ⟨g, k, none⟩ (.bool b)) (.slice (some ⟨g, 0, none⟩) n cap) n (fun j => if j = k then b else f j) := by
  have := (World.ownsRow.stored h k (.bool b)).1
  rw [bl_set] at this
  exact this
def XB (w : World) (b : Nat) (P : Value) (s : ByteArray) (E : Value) : Prop := w.heap[b]? = some (.cells #[P, .string s, .bool false, E] 154 (0, 0))
theorem XB.main {w : World} {b : Nat} {P : Value} {s : ByteArray} {E : Value} (h : XB w b P s E) : w.cell? ⟨b, 0, none⟩ = some P ∧ w.cell? ⟨b, 1, none⟩ = some (.string s) ∧ w.cell? ⟨b, 2, none⟩ = some (.bool false) ∧ w.cell? ⟨b, 3, none⟩ = some E := by
  unfold XB at h
  simp [World.cell?, h]
theorem XB.lt {w : World} {b : Nat} {P : Value} {s : ByteArray} {E : Value} (h : XB w b P s E) : b < w.heap.size := (Array.getElem?_eq_some_iff.1 h).1
theorem XB.keep {w w' : World} {S : List Nat} {b : Nat} {P : Value} {s : ByteArray} {E : Value} (h : XB w b P s E) (hk : Keeps S w w') (hb : b ∉ S) : XB w' b P s E := (hk.block b h.lt hb).trans h
theorem Keeps.ofGrownNone {w w' : World} (h : w.grownBy w' none) : Keeps [] w w' := ⟨h.os, h.tape, h.output, h.size, fun j hj _ => h.block j hj (by simp)⟩
theorem keepsM {w w1 w2 : World} {S S' : List Nat} (h : Keeps S' w w1) (k : Keeps S w1 w2) (hs : ∀ x, x ∈ S → x ∈ S' ∨ w.heap.size ≤ x) : Keeps S' w w2 :=
  ⟨k.os.trans h.os, k.tape.trans h.tape, k.output.trans h.output, Nat.le_trans h.size k.size, fun j hj hn => (k.block j (Nat.lt_of_lt_of_le hj h.size) (fun hm => by
    rcases hs j hm with h1 | h1
    · exact hn h1
    · omega)).trans (h.block j hj hn)⟩
end Go.Proofs.YtnfojonmohijpaaGreatDoor
namespace Go.Proofs.YtnfojonmohijpaaGreatDoor
open Go.RowKit
def NewMap (w : World) (N : Nat) (f : Nat → Nat → Bool) (e : Ending) (w' : World) : Prop :=
  ∃ g, e = .returned (.slice (some ⟨g, 0, none⟩) N N) ∧ MV w' (.slice (some ⟨g, 0, none⟩) N N) N f ∧ Keeps [] w w' ∧ w.heap.size ≤ g
theorem infoPlaces : (Tryz.prog.info? 141).map (fun i => (i.zero, i.size, i.bytes)) = some (some (.agg #[.int .u64 0, .int .u64 0]), 2, 16) := by kernel_rfl
theorem mc_made (N : Nat) : (madeCells #[Value.int .u64 0, Value.int .u64 0] (N * 2)).toList = mc N (fun _ _ => false) := by
  apply List.ext_getElem?
  intro q
  by_cases hq : q < 2 * N
  · rw [mc_at _ hq, wk_none]
    have h2 : q < N * 2 := by omega
    have h3 : q % 2 = 0 ∨ q % 2 = 1 := by omega
    rcases h3 with h3 | h3 <;> simp [madeCells, h2, h3]
  · have h1 : (mc N (fun _ _ => false))[q]? = none := by rw [List.getElem?_eq_none_iff, mc_len]; omega
    rw [h1]
    have h2 : ¬ q < N * 2 := by omega
    simp [madeCells, h2]
set_option maxRecDepth 100000 in
set_option maxHeartbeats 1000000 in
theorem none_any (n N : Nat) (HN : Hid (N = n + 1)) (hn : n ≤ 100) (w : World) : Calls Tryz.prog 124 #[.int .i64 n] w (NewMap w N fun _ _ => false) := by
  obtain ⟨i0, hi0, hz0, hz1, hz2⟩ := info_parts infoPlaces
  have hun := Tryz.underlying76
  have hadd : (n : Int) + 1 ≤ 9223372036854775807 := by omega
  go_enter Tryz.func124, Tryz.ntmps124
  go_wp2_with (first | (refine wpList_make_full w rfl _ _ 76 rfl 0 141 i0 (.agg #[.int .u64 0, .int .u64 0]) 2 hun hi0 hz0 hz1 .i64 .i64 ((n : Int) + 1) ((n : Int) + 1) N rfl rfl (by have := HN.out; omega) (by have := HN.out; omega) (by have := HN.out; rw [hz2]; omega) (by have := HN.out; unfold maxLen; omega) (Nat.zero_le _) ?_))
  intro w1 hown hgr
  rw [mc_made] at hown
  have hk : Keeps [] w w1 := Keeps.ofGrownNone hgr
  go_wp2_with fail
  go_ret
  exact ⟨_, rfl, hown, hk, Nat.le_refl _⟩
set_option maxRecDepth 100000 in
set_option maxHeartbeats 1000000 in
theorem empty_any (n N : Nat) (HN : Hid (N = n + 1)) (hn : n ≤ 100) (w : World) : Calls Tryz.prog 172 #[.int .i64 n] w (NewMap w N fun i j => decide (i = j)) := by
  go_enter Tryz.func172, Tryz.ntmps172
  go_wp2_with fail
  refine (none_any n N HN hn w).mono ?_
  rintro e w1 ⟨g, rfl, hM, hk, hg⟩
  have hNm : (N : Int) ≤ 101 := by have := HN.out; omega
  go_wp2_with fail
  go_loopw [4, 9] (fun _ q wr => ∃ k : Nat, k ≤ N ∧ q = .int .i64 k ∧ MV wr (.slice (some ⟨g, 0, none⟩) N N) N (fun i j => decide (i = j) && decide (i < k)) ∧ Keeps [] w wr) (fun _ q _ => N - (intOf q).toNat)
  case atStart => exact ⟨0, by omega, rfl, hM.ext (fun a b _ _ => by simp), hk⟩
  case round =>
    clear hM hk
    obtain ⟨k, hk, rfl, hM, hK⟩ := hrel
    by_cases hlt : k < N
    · have hk0 : (0 : Int) ≤ (k : Int) := by omega
      have hk1 : (k : Int) < (N : Int) := by omega
      have HK : Hid (k < N) := hlt
      clear hk hlt
      go_wp2_with fail
      refine (padd_any g N N k k _ HK.out (by have := HK.out; omega) wr hM).mono ?_
      rintro e w2 ⟨rfl, hM2, hK2⟩
      have hK3 : Keeps [] w w2 := keepsM hK hK2 (by intro x hx; simp at hx; omega)
      clear hK2 hM
      go_wp2_with fail
      go_roundw
      case rel => exact ⟨k + 1, HK.out, by go_num, hM2.ext (fun a b _ _ => by
        by_cases e1 : a = k
        · subst e1
          have : decide (a = b) = decide (b = a) := by simp [eq_comm]
          simp [this]
        · have : (a < k + 1) ↔ (a < k) := by omega
          simp [e1, this]), hK3⟩
      case measure => have := HK.out; simp [intOf]; omega
    · have he : k = N := by omega
      have hnk : ¬ (k : Int) < (N : Int) := by omega
      have hM2 := hM.ext (g := fun i j => decide (i = j)) (fun a b ha _ => by simp [he, ha])
      clear hM hk he hlt
      go_wp2_with fail
      go_ret
      exact ⟨g, rfl, hM2, hK, hg⟩
end Go.Proofs.YtnfojonmohijpaaGreatDoor
