/-
  DERIVED. The contract of the reference's 'times'. Conditions: the numbers are at most 5, the second at least -1.
-/
import Derived.Test.YtnfojonmohijpaaGreatDoorJTB
set_option linter.unusedSimpArgs false
set_option linter.unusedVariables false
namespace Go.Proofs.YtnfojonmohijpaaGreatDoor
open Go.RowKit

def digs : List UInt8 := [48, 49, 50, 51, 52, 53, 54, 55]
theorem digs_cut (n : Nat) (h : n ≤ 5) : (nmB digs).extract n (n + 1) = nmB (digT n) := by
  rw [nmB_cut digs n (by show n < 8; omega)]
  match n, h with
  | 0, _ => rfl
  | 1, _ => rfl
  | 2, _ => rfl
  | 3, _ => rfl
  | 4, _ => rfl
  | 5, _ => rfl
theorem digT_size (n : Nat) : (nmB (digT n)).size = 1 := rfl

set_option maxRecDepth 100000 in
set_option maxHeartbeats 2000000 in
theorem times_any (k n0 : Int) (hv kv : Value) (mn : Nat) (mx : Int) (h5 : mn ≤ 5) (hx0 : -1 ≤ mx) (hx5 : mx ≤ 5) (hv1 : hv.oneCell' = true) (kv1 : kv.oneCell' = true) (w : World) :
    Calls Tryz.prog 123 #[.agg #[.int .u8 k, hv, .int .i64 n0, .int .i64 mn, .int .i64 mx, kv]] w fun e w' => e = .returned (.string (nmB (repT mn mx))) ∧ Keeps [] w w' := by
  have m0 : (0 : Int) ≤ (mn : Int) := by omega
  have m5 : (mn : Int) ≤ 5 := by omega
  by_cases hneg : mx < 0
  · by_cases e0 : mn = 0
    · have q0 : ((mn : Int) == 0) = true := by simpa using (by omega : (mn : Int) = 0)
      have HT : Hid (repT mn mx = [42]) := by show repT mn mx = _; unfold repT; rw [if_pos ⟨hneg, e0⟩]
      clear e0
      go_enter Tryz.func123, Tryz.ntmps123
      go_wp2_with fail
      go_ret
      exact ⟨ret_str (by rw [HT.out]; rfl), (Keeps.refl _ _).alloc _⟩
    · have q0 : ((mn : Int) == 0) = false := by simpa using (by omega : ¬ (mn : Int) = 0)
      by_cases e1 : mn = 1
      · have q1 : ((mn : Int) == 1) = true := by simpa using (by omega : (mn : Int) = 1)
        have HT : Hid (repT mn mx = [43]) := by show repT mn mx = _; unfold repT; rw [if_neg (fun h => e0 h.2), if_pos ⟨hneg, e1⟩]
        clear e0 e1
        go_enter Tryz.func123, Tryz.ntmps123
        go_wp2_with fail
        go_ret
        exact ⟨ret_str (by rw [HT.out]; rfl), (Keeps.refl _ _).alloc _⟩
      · have q1 : ((mn : Int) == 1) = false := by simpa using (by omega : ¬ (mn : Int) = 1)
        have HT : Hid (repT mn mx = [123] ++ digT mn ++ [44, 125]) := by show repT mn mx = _; unfold repT; rw [if_neg (fun h => e0 h.2), if_neg (fun h => e1 h.2), if_pos hneg]
        have hs2 : (nmB [123] ++ nmB (digT mn)).size ≤ 2 := by rw [nmB_appT, nmB_size, List.length_append]; simp [digT]
        clear e0 e1
        go_enter Tryz.func123, Tryz.ntmps123
        go_wp2_with fail
        go_ret
        exact ⟨ret_str (by rw [HT.out, ← nmB_appT, ← nmB_appT, ← digs_cut mn h5]; rfl), (Keeps.refl _ _).alloc _⟩
  · obtain ⟨mx, rfl⟩ : ∃ x : Nat, mx = x := ⟨mx.toNat, by omega⟩
    have x0 : (0 : Int) ≤ (mx : Int) := by omega
    by_cases e1 : mx = 1 ∧ mn = 0
    · obtain ⟨e1, e0⟩ := e1
      have q1 : ((mx : Int) == 1) = true := by simpa using (by omega : (mx : Int) = 1)
      have q0 : ((mn : Int) == 0) = true := by simpa using (by omega : (mn : Int) = 0)
      have HT : Hid (repT mn mx = [63]) := by show repT mn mx = _; unfold repT; rw [if_neg (by omega), if_neg (by omega), if_neg (by omega), if_pos (by omega)]
      clear e0 e1
      go_enter Tryz.func123, Tryz.ntmps123
      go_wp2_with fail
      go_ret
      exact ⟨ret_str (by rw [HT.out]; rfl), (Keeps.refl _ _).alloc _⟩
    · have hs2 : (nmB [123] ++ nmB (digT mn)).size ≤ 2 := by rw [nmB_appT, nmB_size, List.length_append]; simp [digT]
      by_cases e2 : mx = mn
      · have q2 : ((mx : Int) == (mn : Int)) = true := by simpa using (by omega : (mx : Int) = (mn : Int))
        have HT : Hid (repT mn mx = [123] ++ digT mn ++ [125]) := by show repT mn mx = _; unfold repT; rw [if_neg (by omega), if_neg (by omega), if_neg (by omega), if_neg (by omega), if_pos (by omega)]
        by_cases e3 : mx = 1
        · have q1 : ((mx : Int) == 1) = true := by simpa using (by omega : (mx : Int) = 1)
          have q0 : ((mn : Int) == 0) = false := by simpa using (by omega : ¬ (mn : Int) = 0)
          clear e1 e2 e3
          go_enter Tryz.func123, Tryz.ntmps123
          go_wp2_with fail
          go_ret
          exact ⟨ret_str (by rw [HT.out, ← nmB_appT, ← nmB_appT, ← digs_cut mn h5]; rfl), (Keeps.refl _ _).alloc _⟩
        · have q1 : ((mx : Int) == 1) = false := by simpa using (by omega : ¬ (mx : Int) = 1)
          clear e1 e2 e3
          go_enter Tryz.func123, Tryz.ntmps123
          go_wp2_with fail
          go_ret
          exact ⟨ret_str (by rw [HT.out, ← nmB_appT, ← nmB_appT, ← digs_cut mn h5]; rfl), (Keeps.refl _ _).alloc _⟩
      · have q2 : ((mx : Int) == (mn : Int)) = false := by simpa using (by omega : ¬ (mx : Int) = (mn : Int))
        have HT : Hid (repT mn mx = [123] ++ digT mn ++ [44] ++ digT mx ++ [125]) := by show repT mn mx = _; unfold repT; rw [if_neg (by omega), if_neg (by omega), if_neg (by omega), if_neg (by omega), if_neg (by omega)]; rfl
        have hs3 : (nmB [123] ++ nmB (digT mn) ++ nmB [44]).size ≤ 3 := by rw [nmB_appT, nmB_appT, nmB_size, List.length_append, List.length_append]; simp [digT]
        have hs4 : (nmB [123] ++ nmB (digT mn) ++ nmB [44] ++ nmB (digT mx)).size ≤ 4 := by rw [nmB_appT, nmB_appT, nmB_appT, nmB_size, List.length_append, List.length_append, List.length_append]; simp [digT]
        by_cases e3 : mx = 1
        · have q1 : ((mx : Int) == 1) = true := by simpa using (by omega : (mx : Int) = 1)
          have q0 : ((mn : Int) == 0) = false := by simpa using (by omega : ¬ (mn : Int) = 0)
          clear e1 e2 e3
          go_enter Tryz.func123, Tryz.ntmps123
          go_wp2_with fail
          go_ret
          exact ⟨ret_str (by rw [HT.out, ← nmB_appT, ← nmB_appT, ← nmB_appT, ← nmB_appT, ← digs_cut mn h5, ← digs_cut mx (by omega)]; rfl), (Keeps.refl _ _).alloc _⟩
        · have q1 : ((mx : Int) == 1) = false := by simpa using (by omega : ¬ (mx : Int) = 1)
          clear e1 e2 e3
          go_enter Tryz.func123, Tryz.ntmps123
          go_wp2_with fail
          go_ret
          exact ⟨ret_str (by rw [HT.out, ← nmB_appT, ← nmB_appT, ← nmB_appT, ← nmB_appT, ← digs_cut mn h5, ← digs_cut mx (by omega)]; rfl), (Keeps.refl _ _).alloc _⟩
end Go.Proofs.YtnfojonmohijpaaGreatDoor

/-
  DERIVED. The contract of the reference's 'write', node by node. Conditions: the nodes lie as they should, the parts are written as claimed, no text is longer than a hundred million bytes.
-/
namespace Go.Proofs.YtnfojonmohijpaaGreatDoor
open Go.RowKit

theorem flat_get {css : List (List Value)} (h6 : ∀ c, c ∈ css → c.length = 6) : ∀ {k : Nat} {cs : List Value}, css[k]? = some cs → ∀ j, j < 6 → css.flatten[k * 6 + j]? = cs[j]? := by
  induction css with
  | nil => intro k cs h; simp at h
  | cons c css ih =>
    intro k cs h j hj
    have hc := h6 c (by simp)
    cases k with
    | zero =>
      have e : c = cs := by simpa using h
      subst e
      rw [List.flatten_cons, Nat.zero_mul, Nat.zero_add, List.getElem?_append_left (by omega)]
    | succ k =>
      have h' : css[k]? = some cs := by simpa using h
      rw [List.flatten_cons, List.getElem?_append_right (by omega), show (k + 1) * 6 + j - c.length = k * 6 + j from by omega]
      exact ih (fun c hc => h6 c (by simp [hc])) h' j hj

/-- What the nodes say of one of them, cell by cell. -/
theorem NInv.node {w : World} {b : Nat} {A : List Nat} {v : Value} {nds : List Nd} (h : NInv w b A v nds) {k : Nat} {nd : Nd} (hk : nds[k]? = some nd) :
    ∃ g cap hv kv, v = .slice (some ⟨g, 0, none⟩) nds.length cap ∧ k < nds.length ∧ HoldsV w (avoA b A v) hv nd ∧ KidsV w (avoA b A v) kv nd.kids ∧
      w.cell? ⟨g, k * 6, none⟩ = some (.int .u8 nd.kind) ∧ w.cell? ⟨g, k * 6 + 1, none⟩ = some hv ∧ w.cell? ⟨g, k * 6 + 2, none⟩ = some (.int .i64 nd.n) ∧ w.cell? ⟨g, k * 6 + 3, none⟩ = some (.int .i64 nd.mn) ∧
      w.cell? ⟨g, k * 6 + 4, none⟩ = some (.int .i64 nd.mx) ∧ w.cell? ⟨g, k * 6 + 5, none⟩ = some kv := by
  obtain ⟨css, hl, ho, hne, hnA, hn⟩ := h
  have hlt := (List.getElem?_eq_some_iff.1 hk).1
  obtain ⟨g, cap, rfl, _, _⟩ := ho.form (by omega)
  have h6 : ∀ c, c ∈ css → c.length = 6 := by
    intro c hc
    obtain ⟨j, hj, rfl⟩ := List.mem_iff_getElem.1 hc
    obtain ⟨cs, e, hv, kv, rfl, _⟩ := hn j (nds[j]'(by omega)) (List.getElem?_eq_getElem (by omega))
    rw [List.getElem?_eq_getElem hj] at e
    injection e with e
    rw [e]; rfl
  obtain ⟨cs, e, hv, kv, rfl, h1, h2⟩ := hn k nd hk
  refine ⟨g, cap, hv, kv, rfl, hlt, h1, h2, ?_⟩
  have hc := fun j u hj (hu : [Value.int .u8 nd.kind, hv, .int .i64 nd.n, .int .i64 nd.mn, .int .i64 nd.mx, kv][j]? = some u) => ho.cells (g := g) rfl (k * 6 + j) u ((flat_get h6 e j hj).trans hu)
  have c0 := hc 0 _ (by omega) rfl
  have c1 := hc 1 _ (by omega) rfl
  have c2 := hc 2 _ (by omega) rfl
  have c3 := hc 3 _ (by omega) rfl
  have c4 := hc 4 _ (by omega) rfl
  have c5 := hc 5 _ (by omega) rfl
  simp only [Addr.add_lit, Nat.zero_add, Nat.add_zero] at c0 c1 c2 c3 c4 c5
  exact ⟨c0, c1, c2, c3, c4, c5⟩

def joinTo (bar : Bool) (ts : List (List UInt8)) : Nat → List UInt8
  | 0 => []
  | m + 1 => (joinTo bar ts m ++ (if bar = true ∧ 0 < m then [124] else [])) ++ ts.getD m []
/-- A node's text, by its parts'. -/
def nodeT (nd : Nd) (ts : List (List UInt8)) : List UInt8 :=
  if nd.kind = 98 then setT nd.f else if nd.kind = 103 then [40] ++ joinTo false ts ts.length ++ [41] else if nd.kind = 114 then joinTo false ts ts.length ++ repT nd.mn nd.mx
  else joinTo (decide (nd.kind = 111)) ts ts.length

def Writes (nds : List Nd) (k : Nat) (t : List UInt8) : Prop := ∀ (b : Nat) (p : PS) (w : World), PB w b p → NInv w b [] p.nodes nds →
  Calls Tryz.prog 71 #[.pointer (some ⟨b, 0, none⟩), .int .i64 k] w fun e w' => e = .returned (.string (nmB t)) ∧ Keeps [] w w'

theorem Keeps.cell {w w' : World} (h : Keeps [] w w') {a : Addr} {v : Value} (hc : w.cell? a = some v) : w'.cell? a = some v :=
  (World.cell?_of_block (h.block a.block (World.block_lt_of_cell? w a hc) (by simp))).trans hc
theorem KidsV.form {w : World} {av : List Nat} {kv : Value} {kids : List Nat} (h : KidsV w av kv kids) : ∃ ka kc, kv = .slice ka kids.length kc ∧ ∀ i (hi : i < kids.length), ∃ kb, ka = some ⟨kb, 0, none⟩ ∧ w.cell? ⟨kb, i, none⟩ = some (.int .i64 ((kids[i]'hi : Nat) : Int)) := by
  rcases h.1.2 with ⟨rfl, hz⟩ | ⟨kb, kc, cur, rfl, _⟩
  · exact ⟨none, 0, by rw [hz], fun i hi => by omega⟩
  · refine ⟨some ⟨kb, 0, none⟩, kc, rfl, fun i hi => ⟨kb, rfl, ?_⟩⟩
    have := h.1.cells (g := kb) rfl i (.int .i64 ((kids[i]'hi : Nat) : Int)) (by simp [hi])
    simpa [Addr.add_lit] using this

end Go.Proofs.YtnfojonmohijpaaGreatDoor
