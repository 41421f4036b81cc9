/-
  DERIVED. The tree's writer: tree, over bracket; Text. Conditions: no place of a way has more than two digits.
-/
import Derived.Test.YtnfojonmohijpaaGreatDoorJOG
import Derived.Test.YtnfojonmohijpaaGreatDoorJOI0
import Derived.Test.YtnfojonmohijpaaGreatDoorJOF
import Derived.Test.YtnfojonmohijpaaGreatDoorJSpec
set_option linter.unusedSimpArgs false
set_option linter.unusedVariables false
namespace Go.Proofs.YtnfojonmohijpaaGreatDoor
open Go.RowKit
theorem treeCells {w : World} {g : Nat} {a b c : Value} (h : w.heap[g]? = some (.cells #[a, b, c] 88 (0, 0))) : w.cell? ⟨g, 0, none⟩ = some a ∧ w.cell? ⟨g, 1, none⟩ = some b ∧ w.cell? ⟨g, 2, none⟩ = some c := by
  refine ⟨?_, ?_, ?_⟩ <;> (rw [Lib.cell_of_heap h]; rfl)
theorem u8_wrap {b : Nat} (h : b < 256) : IntKind.u8.wrap (b : Int) = (b : Int) := by
  have : IntKind.u8.wrap (b : Int) = (b : Int) % 256 := by simp [IntKind.wrap, IntKind.bits, IntKind.signed]
  rw [this]
  omega
theorem cat98 (l : List UInt8) : (⟨#[98]⟩ : ByteArray) ++ nmB l = nmB ([98] ++ l) := nmB_append [98] l
theorem cat40g (l : List UInt8) : (⟨#[40, 103]⟩ : ByteArray) ++ nmB l = nmB ([40, 103] ++ l) := nmB_append [40, 103] l
theorem cat40a (l : List UInt8) : (⟨#[40, 97]⟩ : ByteArray) ++ nmB l = nmB ([40, 97] ++ l) := nmB_append [40, 97] l
theorem WPut.after {B b : Nat} {l m : List UInt8} {w X : World} {e : Ending} {w' : World} (hF : WF B b w X) (h : WPut B b l m X e w') : WPut B b l m w e w' := ⟨h.fits, h.long, hF.trans h.frame⟩
theorem WPut.eq {B b : Nat} {l m m' : List UInt8} {w : World} {e : Ending} {w' : World} (h : WPut B b l m w e w') (hm : m = m') : WPut B b l m' w e w' := hm ▸ h
theorem WPut.ends {B b : Nat} {l m : List UInt8} {w : World} {e : Ending} {w' : World} (h : WPut B b l m w e w') : e = .returned (.tuple #[]) ∨ e = tooLong := by
  by_cases hl : l.length + m.length ≤ 20000
  · exact Or.inl (h.fits hl).1
  · exact Or.inr (h.long (by omega))
set_option maxRecDepth 100000 in
set_option maxHeartbeats 2000000 in
theorem wtree_any (n : Nat) (IB : BracketW n) : TreeW (n + 1) := by
  intro t ht hthin w S B b l cs htv hS hbw hBw hl
  have hbl := hbw.lt
  cases htv with
  | tnil =>
    have hz : (w.alloc (.cells #[.int .u8 101, .int .i64 0, .slice none 0 0] 88)).heap[w.heap.size]? = some (.cells #[.int .u8 101, .int .i64 0, .slice none 0 0] 88 (0, 0)) := heap_alloc_new w _
    have hk : Keeps [] w (w.alloc (.cells #[.int .u8 101, .int .i64 0, .slice none 0 0] 88)) := (Keeps.refl [] w).alloc _
    have hbk := hbw.keep hk
    have hF : WF B b w (w.alloc (.cells #[.int .u8 101, .int .i64 0, .slice none 0 0] 88)) := WF.ofKeeps hk hBw
    obtain ⟨c0, c1, c2⟩ := treeCells hz
    have hsz : w.heap.size ≤ (w.alloc (.cells #[.int .u8 101, .int .i64 0, .slice none 0 0] 88)).heap.size := hk.size
    go_enter Tryz.func127, Tryz.ntmps127
    go_upto_region 1 with (fail)
    generalize w.alloc (.cells #[.int .u8 101, .int .i64 0, .slice none 0 0] 88) = X at *
    obtain ⟨gx, hgx⟩ : ∃ g, g = w.heap.size := ⟨_, rfl⟩
    rw [← hgx] at hz c0 c1 c2 ⊢
    have hgxb : gx ≠ b := by omega
    clear hgx
    have hs101 : (⟨#[101]⟩ : ByteArray) = nmB [101] := rfl
    go_wp2_with fail
    refine (put_any B b l [101] X hbk hl (by simp) (by omega)).mono ?_
    rintro e w1 P1
    have P2 := WPut.after hF P1
    rcases P1.ends with rfl | rfl
    · go_wp2_with fail
      go_end0
      exact P2
    · simp only [tooLong]
      exact ⟨rfl, P2⟩
  | tbyte c hc =>
    have hz : (w.alloc (.cells #[.int .u8 98, .int .i64 (c : Int), .slice none 0 0] 88)).heap[w.heap.size]? = some (.cells #[.int .u8 98, .int .i64 (c : Int), .slice none 0 0] 88 (0, 0)) := heap_alloc_new w _
    have hk : Keeps [] w (w.alloc (.cells #[.int .u8 98, .int .i64 (c : Int), .slice none 0 0] 88)) := (Keeps.refl [] w).alloc _
    have hbk := hbw.keep hk
    have hF : WF B b w (w.alloc (.cells #[.int .u8 98, .int .i64 (c : Int), .slice none 0 0] 88)) := WF.ofKeeps hk hBw
    obtain ⟨c0, c1, c2⟩ := treeCells hz
    have hsz : w.heap.size ≤ (w.alloc (.cells #[.int .u8 98, .int .i64 (c : Int), .slice none 0 0] 88)).heap.size := hk.size
    have hw8 := u8_wrap hc
    go_enter Tryz.func127, Tryz.ntmps127
    go_upto_region 1 with (fail)
    generalize w.alloc (.cells #[.int .u8 98, .int .i64 (c : Int), .slice none 0 0] 88) = X at *
    obtain ⟨gx, hgx⟩ : ∃ g, g = w.heap.size := ⟨_, rfl⟩
    rw [← hgx] at hz c0 c1 c2 ⊢
    have hgxb : gx ≠ b := by omega
    clear hgx
    have hcat := cat98 (hexT c)
    go_wp2_with (first | (go_at_call 178; refine (hexPair_text c hc _).mono ?_; rintro e w0 ⟨rfl, hk0⟩))
    have hb0 := hbk.keep hk0
    have hF0 : WF B b w w0 := hF.trans (WF.ofKeeps hk0 (by omega))
    have hs0 := hk0.size
    change Calls Tryz.prog 177 #[_, .string ((⟨#[98]⟩ : ByteArray) ++ nmB (hexT c))] _ _
    rw [hcat]
    refine (put_any B b l ([98] ++ hexT c) w0 hb0 hl (by simp [hexT]) (by omega)).mono ?_
    rintro e w1 P1
    have P2 := WPut.after hF0 P1
    rcases P1.ends with rfl | rfl
    · go_wp2_with fail
      go_end0
      exact P2
    · simp only [tooLong]
      exact ⟨rfl, P2⟩
  | tgrp k x v cs h9 hx hox hpx =>
    obtain ⟨va, vn, vc, rfl⟩ := ownsRow_sl hox
    have hz : (w.alloc (.cells #[.int .u8 103, .int .i64 (k : Int), .slice va vn vc] 88)).heap[w.heap.size]? = some (.cells #[.int .u8 103, .int .i64 (k : Int), .slice va vn vc] 88 (0, 0)) := heap_alloc_new w _
    have hk : Keeps [] w (w.alloc (.cells #[.int .u8 103, .int .i64 (k : Int), .slice va vn vc] 88)) := (Keeps.refl [] w).alloc _
    have hbk := hbw.keep hk
    have hF : WF B b w (w.alloc (.cells #[.int .u8 103, .int .i64 (k : Int), .slice va vn vc] 88)) := WF.ofKeeps hk hBw
    obtain ⟨c0, c1, c2⟩ := treeCells hz
    have hsz : w.heap.size ≤ (w.alloc (.cells #[.int .u8 103, .int .i64 (k : Int), .slice va vn vc] 88)).heap.size := hk.size
    have h100 : k < 100 := by omega
    have hdl : (decT k).length ≤ 2 := by unfold decT digT; split <;> simp
    go_enter Tryz.func127, Tryz.ntmps127
    go_upto_region 1 with (fail)
    generalize w.alloc (.cells #[.int .u8 103, .int .i64 (k : Int), .slice va vn vc] 88) = X at *
    obtain ⟨gx, hgx⟩ : ∃ g, g = w.heap.size := ⟨_, rfl⟩
    rw [← hgx] at hz c0 c1 c2 ⊢
    have hgxb : gx ≠ b := by omega
    clear hgx
    go_upto_region 7 with (fail)
    have hS0 : X.drew.heap[gx]? = some (.cells #[.int .u8 103, .int .i64 (k : Int), .slice va vn vc] 88 (0, 0)) := hz
    have hkD : Keeps [] X X.drew := (Keeps.refl [] X).drewN 1
    refine wp_region_held (S := fun A => A.heap[gx]? = some (.cells #[.int .u8 103, .int .i64 (k : Int), .slice va vn vc] 88 (0, 0))) (by kernel_rfl) ?_
    change wpAnyH _ _ _ _ _ _ _ _ (World.drew _)
    generalize X.drew = X0 at *
    refine wpAnyH_tk 0 _ (some 21) (.pointer (some ⟨b, 0, none⟩)) rfl rfl (by kernel_rfl) (by kernel_rfl) (by kernel_rfl) (fun _ _ _ h => h) (Or.inl ⟨by rfl, fun X hX => by go_simp⟩) hS0 ?_
    simp only [Act.put, List.setIfInBounds_toArray, List.set_cons_zero, List.set_cons_succ]
    refine wpAnyH_tk 1 _ (some 22) (.pointer (some ⟨gx, 1, none⟩)) rfl rfl (by kernel_rfl) (by kernel_rfl) (by kernel_rfl) (fun _ _ _ h => h) (Or.inl ⟨by rfl, fun X hX => by go_simp⟩) hS0 ?_
    simp only [Act.put, List.setIfInBounds_toArray, List.set_cons_zero, List.set_cons_succ]
    refine wpAnyH_tk 2 _ (some 23) (.int .i64 k) rfl rfl (by kernel_rfl) (by kernel_rfl) (by kernel_rfl) (fun _ _ _ h => h) (Or.inl ⟨by rfl, fun X hX => by (obtain ⟨q0, q1, q2⟩ := treeCells hX; go_simp)⟩) hS0 ?_
    simp only [Act.put, List.setIfInBounds_toArray, List.set_cons_zero, List.set_cons_succ]
    refine wpAnyH_tk 5 _ (some 26) (.pointer (some ⟨gx, 2, none⟩)) rfl rfl (by kernel_rfl) (by kernel_rfl) (by kernel_rfl) (fun _ _ _ h => h) (Or.inl ⟨by rfl, fun X hX => by go_simp⟩) hS0 ?_
    simp only [Act.put, List.setIfInBounds_toArray, List.set_cons_zero, List.set_cons_succ]
    refine wpAnyH_tk 6 _ (some 27) (.slice va vn vc) rfl rfl (by kernel_rfl) (by kernel_rfl) (by kernel_rfl) (fun _ _ _ h => h) (Or.inl ⟨by rfl, fun X hX => by (obtain ⟨q0, q1, q2⟩ := treeCells hX; go_simp)⟩) hS0 ?_
    simp only [Act.put, List.setIfInBounds_toArray, List.set_cons_zero, List.set_cons_succ]
    refine wpAnyH_ready (rs := [3]) (by kernel_rfl) (by simp) ?_
    refine AllReadyH.cons rfl (fun K hK => ?_) AllReadyH.nil
    go_simp
    refine (itoa100 k h100 X0).mono ?_
    rintro e w0 ⟨rfl, hk0⟩
    have hS1 := (hk0.block gx (Array.getElem?_eq_some_iff.1 hS0).1 (by simp)).trans hS0
    have hkA := hkD.trans hk0
    have hb0 := hbk.keep hkA
    have hF0 : WF B b w w0 := hF.trans (WF.ofKeeps hkA (by omega))
    have hs0 := hkA.size
    refine hK.out _ _ hS1 (fun _ => ?_)
    clear hK K
    refine wpAnyH_tk 4 _ (some 25) (.string (nmB ([40, 103] ++ decT k))) rfl rfl (by kernel_rfl) (by kernel_rfl) (by kernel_rfl) (fun _ _ _ h => h) (Or.inl ⟨by rfl, fun X hX => by (have hct := cat40g (decT k); go_simp; rw [nmB_size]; omega)⟩) hS1 ?_
    simp only [Act.put, List.setIfInBounds_toArray, List.set_cons_zero, List.set_cons_succ]
    refine wpAnyH_ready (rs := [7]) (by kernel_rfl) (by simp) ?_
    refine AllReadyH.cons rfl (fun K hK => ?_) AllReadyH.nil
    go_simp
    have HEQ : Hid ((40 :: 103 :: decT k) ++ (Tr.lcons x .lnil).text ++ [41] = (Tr.tgrp k x).text) := by show _ = _; simp [Tr.text]
    refine (IB (.lcons x .lnil) (by simp only [Tr.sz] at ht ⊢; omega) ⟨hthin, trivial⟩ w0 S B b 1 l (40 :: 103 :: decT k) (.slice va vn vc) cs (by have := TV.lcons x .lnil cs [] (hx.wf hS hF0) .lnil; simpa using this) (ownsRow_wf hox (fun g hg => hS g (hpx g hg)) hF0) hpx hS hb0 (by omega) hl (by simp; omega)).mono ?_
    rintro e w1 P1
    have P2 := (WPut.after hF0 P1).eq HEQ.out
    have hS2 : w1.heap[gx]? = some (.cells #[.int .u8 103, .int .i64 (k : Int), .slice va vn vc] 88 (0, 0)) := row_wf hS1 (by decide) hgxb P1.frame
    rcases P1.ends with rfl | rfl
    · refine hK.out _ _ hS2 (fun _ => ?_)
      refine wpAnyH_done (by kernel_rfl) ?_ _
      go_wp2_with fail
      go_end0
      exact P2
    · simp only [tooLong]
      exact ⟨rfl, P2⟩
  | talt p x v cs hx hox hpx =>
    obtain ⟨va, vn, vc, rfl⟩ := ownsRow_sl hox
    have hz : (w.alloc (.cells #[.int .u8 97, .int .i64 (p : Int), .slice va vn vc] 88)).heap[w.heap.size]? = some (.cells #[.int .u8 97, .int .i64 (p : Int), .slice va vn vc] 88 (0, 0)) := heap_alloc_new w _
    have hk : Keeps [] w (w.alloc (.cells #[.int .u8 97, .int .i64 (p : Int), .slice va vn vc] 88)) := (Keeps.refl [] w).alloc _
    have hbk := hbw.keep hk
    have hF : WF B b w (w.alloc (.cells #[.int .u8 97, .int .i64 (p : Int), .slice va vn vc] 88)) := WF.ofKeeps hk hBw
    obtain ⟨c0, c1, c2⟩ := treeCells hz
    have hsz : w.heap.size ≤ (w.alloc (.cells #[.int .u8 97, .int .i64 (p : Int), .slice va vn vc] 88)).heap.size := hk.size
    have h100 : p < 100 := hthin.1
    have hdl : (decT p).length ≤ 2 := by unfold decT digT; split <;> simp
    go_enter Tryz.func127, Tryz.ntmps127
    go_upto_region 1 with (fail)
    generalize w.alloc (.cells #[.int .u8 97, .int .i64 (p : Int), .slice va vn vc] 88) = X at *
    obtain ⟨gx, hgx⟩ : ∃ g, g = w.heap.size := ⟨_, rfl⟩
    rw [← hgx] at hz c0 c1 c2 ⊢
    have hgxb : gx ≠ b := by omega
    clear hgx
    go_upto_region 9 with (fail)
    have hS0 : X.drew.heap[gx]? = some (.cells #[.int .u8 97, .int .i64 (p : Int), .slice va vn vc] 88 (0, 0)) := hz
    have hkD : Keeps [] X X.drew := (Keeps.refl [] X).drewN 1
    refine wp_region_held (S := fun A => A.heap[gx]? = some (.cells #[.int .u8 97, .int .i64 (p : Int), .slice va vn vc] 88 (0, 0))) (by kernel_rfl) ?_
    change wpAnyH _ _ _ _ _ _ _ _ (World.drew _)
    generalize X.drew = X0 at *
    refine wpAnyH_tk 0 _ (some 31) (.pointer (some ⟨b, 0, none⟩)) rfl rfl (by kernel_rfl) (by kernel_rfl) (by kernel_rfl) (fun _ _ _ h => h) (Or.inl ⟨by rfl, fun X hX => by go_simp⟩) hS0 ?_
    simp only [Act.put, List.setIfInBounds_toArray, List.set_cons_zero, List.set_cons_succ]
    refine wpAnyH_tk 1 _ (some 32) (.pointer (some ⟨gx, 1, none⟩)) rfl rfl (by kernel_rfl) (by kernel_rfl) (by kernel_rfl) (fun _ _ _ h => h) (Or.inl ⟨by rfl, fun X hX => by go_simp⟩) hS0 ?_
    simp only [Act.put, List.setIfInBounds_toArray, List.set_cons_zero, List.set_cons_succ]
    refine wpAnyH_tk 2 _ (some 33) (.int .i64 p) rfl rfl (by kernel_rfl) (by kernel_rfl) (by kernel_rfl) (fun _ _ _ h => h) (Or.inl ⟨by rfl, fun X hX => by (obtain ⟨q0, q1, q2⟩ := treeCells hX; go_simp)⟩) hS0 ?_
    simp only [Act.put, List.setIfInBounds_toArray, List.set_cons_zero, List.set_cons_succ]
    refine wpAnyH_tk 5 _ (some 36) (.pointer (some ⟨gx, 2, none⟩)) rfl rfl (by kernel_rfl) (by kernel_rfl) (by kernel_rfl) (fun _ _ _ h => h) (Or.inl ⟨by rfl, fun X hX => by go_simp⟩) hS0 ?_
    simp only [Act.put, List.setIfInBounds_toArray, List.set_cons_zero, List.set_cons_succ]
    refine wpAnyH_tk 6 _ (some 37) (.slice va vn vc) rfl rfl (by kernel_rfl) (by kernel_rfl) (by kernel_rfl) (fun _ _ _ h => h) (Or.inl ⟨by rfl, fun X hX => by (obtain ⟨q0, q1, q2⟩ := treeCells hX; go_simp)⟩) hS0 ?_
    simp only [Act.put, List.setIfInBounds_toArray, List.set_cons_zero, List.set_cons_succ]
    refine wpAnyH_ready (rs := [3]) (by kernel_rfl) (by simp) ?_
    refine AllReadyH.cons rfl (fun K hK => ?_) AllReadyH.nil
    go_simp
    refine (itoa100 p h100 X0).mono ?_
    rintro e w0 ⟨rfl, hk0⟩
    have hS1 := (hk0.block gx (Array.getElem?_eq_some_iff.1 hS0).1 (by simp)).trans hS0
    have hkA := hkD.trans hk0
    have hb0 := hbk.keep hkA
    have hF0 : WF B b w w0 := hF.trans (WF.ofKeeps hkA (by omega))
    have hs0 := hkA.size
    refine hK.out _ _ hS1 (fun _ => ?_)
    clear hK K
    refine wpAnyH_tk 4 _ (some 35) (.string (nmB ([40, 97] ++ decT p))) rfl rfl (by kernel_rfl) (by kernel_rfl) (by kernel_rfl) (fun _ _ _ h => h) (Or.inl ⟨by rfl, fun X hX => by (have hct := cat40a (decT p); go_simp; rw [nmB_size]; omega)⟩) hS1 ?_
    simp only [Act.put, List.setIfInBounds_toArray, List.set_cons_zero, List.set_cons_succ]
    refine wpAnyH_ready (rs := [7]) (by kernel_rfl) (by simp) ?_
    refine AllReadyH.cons rfl (fun K hK => ?_) AllReadyH.nil
    go_simp
    have HEQ : Hid ((40 :: 97 :: decT p) ++ (Tr.lcons x .lnil).text ++ [41] = (Tr.talt p x).text) := by show _ = _; simp [Tr.text]
    refine (IB (.lcons x .lnil) (by simp only [Tr.sz] at ht ⊢; omega) ⟨hthin.2, trivial⟩ w0 S B b 1 l (40 :: 97 :: decT p) (.slice va vn vc) cs (by have := TV.lcons x .lnil cs [] (hx.wf hS hF0) .lnil; simpa using this) (ownsRow_wf hox (fun g hg => hS g (hpx g hg)) hF0) hpx hS hb0 (by omega) hl (by simp; omega)).mono ?_
    rintro e w1 P1
    have P2 := (WPut.after hF0 P1).eq HEQ.out
    have hS2 : w1.heap[gx]? = some (.cells #[.int .u8 97, .int .i64 (p : Int), .slice va vn vc] 88 (0, 0)) := row_wf hS1 (by decide) hgxb P1.frame
    rcases P1.ends with rfl | rfl
    · refine hK.out _ _ hS2 (fun _ => ?_)
      refine wpAnyH_done (by kernel_rfl) ?_ _
      go_wp2_with fail
      go_end0
      exact P2
    · simp only [tooLong]
      exact ⟨rfl, P2⟩
  | tser L v n cs hx hox hpx =>
    obtain ⟨va, vn, vc, rfl⟩ := ownsRow_sl hox
    have hz : (w.alloc (.cells #[.int .u8 115, .int .i64 0, .slice va vn vc] 88)).heap[w.heap.size]? = some (.cells #[.int .u8 115, .int .i64 0, .slice va vn vc] 88 (0, 0)) := heap_alloc_new w _
    have hk : Keeps [] w (w.alloc (.cells #[.int .u8 115, .int .i64 0, .slice va vn vc] 88)) := (Keeps.refl [] w).alloc _
    have hbk := hbw.keep hk
    have hF : WF B b w (w.alloc (.cells #[.int .u8 115, .int .i64 0, .slice va vn vc] 88)) := WF.ofKeeps hk hBw
    obtain ⟨c0, c1, c2⟩ := treeCells hz
    have hsz : w.heap.size ≤ (w.alloc (.cells #[.int .u8 115, .int .i64 0, .slice va vn vc] 88)).heap.size := hk.size
    go_enter Tryz.func127, Tryz.ntmps127
    go_upto_region 1 with (fail)
    generalize w.alloc (.cells #[.int .u8 115, .int .i64 0, .slice va vn vc] 88) = X at *
    obtain ⟨gx, hgx⟩ : ∃ g, g = w.heap.size := ⟨_, rfl⟩
    rw [← hgx] at hz c0 c1 c2 ⊢
    have hgxb : gx ≠ b := by omega
    clear hgx
    have HEQ : Hid ([40, 115] ++ L.text ++ [41] = (Tr.tser L).text) := by show _ = _; simp [Tr.text]
    go_wp2_with fail
    refine (IB L (by simp only [Tr.sz] at ht; omega) hthin X S B b n l [40, 115] (.slice va vn vc) cs (hx.wf hS hF) (ownsRow_wf hox (fun g hg => hS g (hpx g hg)) hF) hpx hS hbk (by omega) hl (by simp)).mono ?_
    rintro e w1 P1
    have P2 := (WPut.after hF P1).eq HEQ.out
    rcases P1.ends with rfl | rfl
    · go_wp2_with fail
      go_end0
      exact P2
    · simp only [tooLong]
      exact ⟨rfl, P2⟩
  | trep L v n cs hx hox hpx =>
    obtain ⟨va, vn, vc, rfl⟩ := ownsRow_sl hox
    have hz : (w.alloc (.cells #[.int .u8 114, .int .i64 0, .slice va vn vc] 88)).heap[w.heap.size]? = some (.cells #[.int .u8 114, .int .i64 0, .slice va vn vc] 88 (0, 0)) := heap_alloc_new w _
    have hk : Keeps [] w (w.alloc (.cells #[.int .u8 114, .int .i64 0, .slice va vn vc] 88)) := (Keeps.refl [] w).alloc _
    have hbk := hbw.keep hk
    have hF : WF B b w (w.alloc (.cells #[.int .u8 114, .int .i64 0, .slice va vn vc] 88)) := WF.ofKeeps hk hBw
    obtain ⟨c0, c1, c2⟩ := treeCells hz
    have hsz : w.heap.size ≤ (w.alloc (.cells #[.int .u8 114, .int .i64 0, .slice va vn vc] 88)).heap.size := hk.size
    go_enter Tryz.func127, Tryz.ntmps127
    go_upto_region 1 with (fail)
    generalize w.alloc (.cells #[.int .u8 114, .int .i64 0, .slice va vn vc] 88) = X at *
    obtain ⟨gx, hgx⟩ : ∃ g, g = w.heap.size := ⟨_, rfl⟩
    rw [← hgx] at hz c0 c1 c2 ⊢
    have hgxb : gx ≠ b := by omega
    clear hgx
    have HEQ : Hid ([40, 114] ++ L.text ++ [41] = (Tr.trep L).text) := by show _ = _; simp [Tr.text]
    go_wp2_with fail
    refine (IB L (by simp only [Tr.sz] at ht; omega) hthin X S B b n l [40, 114] (.slice va vn vc) cs (hx.wf hS hF) (ownsRow_wf hox (fun g hg => hS g (hpx g hg)) hF) hpx hS hbk (by omega) hl (by simp)).mono ?_
    rintro e w1 P1
    have P2 := (WPut.after hF P1).eq HEQ.out
    rcases P1.ends with rfl | rfl
    · go_wp2_with fail
      go_end0
      exact P2
    · simp only [tooLong]
      exact ⟨rfl, P2⟩
theorem writersT : ∀ n, TreeW n ∧ BracketW n
  | 0 => ⟨fun t h => by have := t.sz_pos; omega, fun t h => by have := t.sz_pos; omega⟩
  | n + 1 => ⟨wtree_any n (writersT n).2, bracket_any n (writersT n).1⟩
end Go.Proofs.YtnfojonmohijpaaGreatDoor
namespace Go.Proofs.YtnfojonmohijpaaGreatDoor
open Go.RowKit
set_option maxRecDepth 100000 in
set_option maxHeartbeats 1000000 in
theorem text_any (t : Tr) (hthin : t.thin) (S : Nat → Prop) (cs : List Value) (w : World) (htv : TV w S true t cs) :
    Calls Tryz.prog 75 #[.agg cs.toArray] w fun e w' => ((t.text.length ≤ 20000 ∧ e = .returned (.string (nmB t.text))) ∨ (20000 < t.text.length ∧ e = tooLong)) ∧ Keeps [] w w' := by
  obtain ⟨k1, n1, va, vn, vc, rfl⟩ := htv.form
  have htv1 := htv.mono (S' := fun g => g < w.heap.size) fun g _ h => h
  have hk0 : Keeps [] w ((w.alloc (.cells #[.int .u8 k1, .int .i64 n1, .slice va vn vc] 88)).alloc (.cells #[.pointer none, .slice none 0 0] 226)) := ((Keeps.refl [] w).alloc _).alloc _
  have hz0 : ((w.alloc (.cells #[.int .u8 k1, .int .i64 n1, .slice va vn vc] 88)).alloc (.cells #[.pointer none, .slice none 0 0] 226)).heap[w.heap.size]? = some (.cells #[.int .u8 k1, .int .i64 n1, .slice va vn vc] 88 (0, 0)) := heap_alloc2_old w _ _
  have hb0 : BW ((w.alloc (.cells #[.int .u8 k1, .int .i64 n1, .slice va vn vc] 88)).alloc (.cells #[.pointer none, .slice none 0 0] 226)) w.heap.size (w.heap.size + 1) [] :=
    ⟨by omega, .pointer none, .slice none 0 0, Or.inl rfl, heap_alloc2_new w _ _, ⟨rfl, Or.inl ⟨rfl, rfl⟩⟩, by simp [Value.ownBlock], fun _ => rfl⟩
  have hs0 : ((w.alloc (.cells #[.int .u8 k1, .int .i64 n1, .slice va vn vc] 88)).alloc (.cells #[.pointer none, .slice none 0 0] 226)).heap.size = w.heap.size + 2 := by simp
  go_enter Tryz.func75, Tryz.ntmps75
  go_upto_region 2 with (fail)
  generalize (w.alloc (.cells #[.int .u8 k1, .int .i64 n1, .slice va vn vc] 88)).alloc (.cells #[.pointer none, .slice none 0 0] 226) = X at *
  have htX := htv1.keep hk0 (by simp)
  obtain ⟨B, hB⟩ : ∃ B, B = w.heap.size := ⟨_, rfl⟩
  obtain ⟨b, hb⟩ : ∃ b, b = w.heap.size + 1 := ⟨_, rfl⟩
  rw [← hb] at hb0 ⊢
  rw [← hB] at hb0 hz0 htX ⊢
  have hBX : B ≤ X.heap.size := by omega
  have hBw : B ≤ w.heap.size := by omega
  have hBw2 : w.heap.size ≤ B := by omega
  clear hB hb hs0
  go_wp2_with (first | (refine wpList_load_row rfl 88 _ rfl B rfl _ _ _ _ hz0 Tryz.underlying88 rfl (info3 _ _ _) ?_))
  refine ((writersT t.sz).1 t (Nat.le_refl _) hthin X _ B b [] _ htX (fun g h => h) hb0 hBX (by simp)).mono ?_
  rintro e w1 P1
  have hbel : Keeps [] w w1 := by
    have h1 := hk0
    have h2 := P1.frame.below
    exact ⟨h2.os.trans h1.os, h2.tape.trans h1.tape, h2.output.trans h1.output, Nat.le_trans h1.size h2.size, fun k hk _ => (h2.block k (by omega)).trans (h1.block k hk (by simp))⟩
  by_cases hf : t.text.length ≤ 20000
  · obtain ⟨rfl, hb1⟩ := P1.fits (by simpa using hf)
    have HF : Hid (t.text.length ≤ 20000) := hf
    clear hf P1
    go_wp2_with fail
    refine (wstring_any B b _ w1 hb1).mono ?_
    rintro e w2 ⟨rfl, hbel2⟩
    have hend : Keeps [] w w2 := ⟨hbel2.os.trans hbel.os, hbel2.tape.trans hbel.tape, hbel2.output.trans hbel.output, Nat.le_trans hbel.size hbel2.size, fun k hk _ => (hbel2.block k (by omega)).trans (hbel.block k hk (by simp))⟩
    go_wp2_with fail
    go_ret
    exact ⟨Or.inl ⟨HF.out, by simp⟩, hend⟩
  · obtain rfl := P1.long (by simp; omega)
    simp only [tooLong]
    exact ⟨rfl, Or.inr ⟨by omega, rfl⟩, hbel⟩
set_option maxRecDepth 100000 in
set_option maxHeartbeats 400000 in
theorem tcatch_idle (x : Value) (w : World) :
    CallsD Tryz.prog 74 #[x] .returning w fun e u' w' => e = .returned (.tuple #[]) ∧ u' = .returning ∧ w' = w := by
  refine callsD_of_wpS Tryz.func74 rfl fun c₀ cs hu => ?_
  apply wpS_seq
  apply wpS_region
  simp [wpOpsS, go_sem, recoverD, hu, Tryz.ntmps74, Exit.thenS]
  refine wpS_of_wp ?_
  have et : (#[x] ++ (Array.replicate 9 undef).setIfInBounds 3 Value.nilIface) = #[x, undef, undef, undef, .nilIface, undef, undef, undef, undef, undef] := rfl
  rw [et]
  go_wp2_with fail
  cases c₀
  simp_all [bodyPostS, results, Tryz.results74]
theorem assert_long (w : World) : (Instr.typeAssert (.iface 144 (.agg #[])) 20 144 true).run Tryz.prog w = .ok (.tuple #[.agg #[], .bool true]) w := by kernel_rfl
set_option maxRecDepth 100000 in
set_option maxHeartbeats 400000 in
theorem tcatch_long (eb : Addr) (b : Value) (w : World) (h3 : w.cell? eb = some b) (f3 : w.frozen? eb = false) :
    CallsD Tryz.prog 74 #[.pointer (some eb)] (.panicking [{ v := .iface 144 (.agg #[]), recovered := false }]) w fun e u' w' =>
      e = .returned (.tuple #[]) ∧ u' = .panicking [{ v := .iface 144 (.agg #[]), recovered := true }] ∧ w' = (w.alloc (.cells #[] 144)).setCell eb (.int .i64 1) := by
  refine callsD_of_wpS Tryz.func74 rfl fun c₀ cs hu => ?_
  apply wpS_seq
  apply wpS_region
  simp [wpOpsS, go_sem, recoverD, hu, Tryz.ntmps74, Exit.thenS]
  refine wpS_of_wp ?_
  have et : (#[.pointer (some eb)] ++ (Array.replicate 9 undef).setIfInBounds 3 (.iface 144 (.agg #[]))) = #[.pointer (some eb), undef, undef, undef, .iface 144 (.agg #[]), undef, undef, undef, undef, undef] := rfl
  rw [et]
  have hta := fun w => assert_long w
  have hka : Keeps [] w (w.alloc (.cells #[] 144)) := (Keeps.refl [] w).alloc _
  have l3 := World.block_lt_of_cell? w _ h3
  have g3 := keep_cell hka h3
  have k3 : (w.alloc (.cells #[] 144)).frozen? eb = false := (World.frozen?_alloc_old w _ eb (Nat.ne_of_lt l3)).trans f3
  clear et hka l3 h3 f3
  go_wp2_with fail
  cases c₀
  simp_all [bodyPostS, results, Tryz.results74]
theorem results_tell (tmps : Array Value) (w : World) (g : Nat) (v : Value) (y : Int) (h2 : tmps.getD 2 undef = v) (h3 : tmps.getD 3 undef = .pointer (some ⟨g + 1, 0, none⟩)) (hy : w.cell? ⟨g + 1, 0, none⟩ = some (.int .i64 y)) :
    (results Tryz.f41 tmps).run Tryz.prog w = .ok (.tuple #[v, .int .i64 y]) w := by
  have h : Tryz.f41.results = #[.tmp 2, .cell 3 22] := rfl
  have e2 : tmps[2]?.getD undef = v := by simpa using h2
  have e3 : tmps[3]?.getD undef = .pointer (some ⟨g + 1, 0, none⟩) := by simpa using h3
  have l3 := loadInt 22 (Or.inr rfl) _ y w hy
  simp [results, h, e2, e3, asAddr, l3]
def TellA (t : List UInt8) (e : Ending) : Prop := (t.length ≤ 20000 ∧ e = .returned (.tuple #[.string (nmB t), .int .i64 0])) ∨ (20000 < t.length ∧ e = .returned (.tuple #[.string (nmB []), .int .i64 1]))
set_option maxRecDepth 100000 in
set_option maxHeartbeats 1000000 in
theorem tell_any (t : Tr) (hthin : t.thin) (S : Nat → Prop) (cs : List Value) (w : World) (htv : TV w S true t cs) :
    Calls Tryz.prog 41 #[.agg cs.toArray] w fun e w' => TellA t.text e ∧ Keeps [] w w' := by
  have hmf : ∀ (fn : Fn) (first cap : Array Value) (w : World), (Instr.makeFunc fn first cap).run Tryz.prog w = .ok (.func fn first cap) w := fun _ _ _ _ => rfl
  obtain ⟨k1, n1, va, vn, vc, rfl⟩ := htv.form
  have hk0 : Keeps [] w ((w.alloc (.cells #[.int .u8 k1, .int .i64 n1, .slice va vn vc] 88)).alloc (.cells #[.int .i64 0] 22)) := ((Keeps.refl [] w).alloc _).alloc _
  have hz0 : ((w.alloc (.cells #[.int .u8 k1, .int .i64 n1, .slice va vn vc] 88)).alloc (.cells #[.int .i64 0] 22)).heap[w.heap.size]? = some (.cells #[.int .u8 k1, .int .i64 n1, .slice va vn vc] 88 (0, 0)) := heap_alloc2_old w _ _
  have hz1 : ((w.alloc (.cells #[.int .u8 k1, .int .i64 n1, .slice va vn vc] 88)).alloc (.cells #[.int .i64 0] 22)).heap[w.heap.size + 1]? = some (.cells #[.int .i64 0] 22 (0, 0)) := heap_alloc2_new w _ _
  go_enter_defers Tryz.func41, Tryz.ntmps41
  go_upto_region 2 with (fail)
  generalize (w.alloc (.cells #[.int .u8 k1, .int .i64 n1, .slice va vn vc] 88)).alloc (.cells #[.int .i64 0] 22) = X at *
  obtain ⟨g, hg⟩ : ∃ g, w.heap.size = g := ⟨_, rfl⟩
  have hgw : w.heap.size ≤ g := by omega
  rw [hg] at hz0 hz1 ⊢
  clear hg
  have htX := htv.keep hk0 (by simp)
  go_wp2_with (first | (refine wpList_load_row rfl 88 _ rfl g rfl _ _ _ _ hz0 Tryz.underlying88 rfl (info3 _ _ _) ?_))
  refine (text_any t hthin S _ X htX).mono ?_
  rintro e w1 ⟨hc, hk1⟩
  have hkA := hk0.trans hk1
  have hz11 := (hk1.block (g + 1) (Array.getElem?_eq_some_iff.1 hz1).1 (by simp)).trans hz1
  have c1 : w1.cell? ⟨g + 1, 0, none⟩ = some (.int .i64 0) := by rw [Lib.cell_of_heap hz11]; rfl
  have f1 : w1.frozen? ⟨g + 1, 0, none⟩ = false := by simp [World.frozen?, hz11]
  rcases hc with ⟨hl, rfl⟩ | ⟨hl, rfl⟩
  · have hkC : Keeps [g + 1] w1 (w1.setCell ⟨g + 1, 0, none⟩ (.int .i64 0)) := (Keeps.refl _ w1).setCell (p := ⟨g + 1, 0, none⟩) (by simp) _
    have r1 : (w1.setCell ⟨g + 1, 0, none⟩ (.int .i64 0)).cell? ⟨g + 1, 0, none⟩ = some (.int .i64 0) := World.cell?_setCell_same _ _ _ c1
    go_wp2_with fail
    refine leaves_cons (f := 74) (args := #[.pointer (some ⟨g + 1, 0, none⟩)]) (by simp) (by simp [go_sem]) ?_
    refine (tcatch_idle _ _).mono ?_
    rintro e u' w7 ⟨rfl, rfl, rfl⟩
    exact ⟨_, results_tell _ _ g _ 0 rfl rfl r1, Or.inl ⟨hl, rfl⟩, keepsM hkA hkC (by intro x hx; simp at hx; omega)⟩
  · simp only [tooLong]
    refine leaves_cons (f := 74) (args := #[.pointer (some ⟨g + 1, 0, none⟩)]) (by simp) (by simp [go_sem]) ?_
    refine (tcatch_long _ _ _ c1 f1).mono ?_
    rintro e u' w6 ⟨rfl, rfl, rfl⟩
    have kf : Keeps [] w1 (w1.alloc (.cells #[] 144)) := (Keeps.refl [] w1).alloc _
    have y1 := keep_cell kf c1
    have hkB := hkA.trans kf
    generalize w1.alloc (.cells #[] 144) = w7 at *
    have hkC : Keeps [g + 1] w7 (w7.setCell ⟨g + 1, 0, none⟩ (.int .i64 1)) := (Keeps.refl _ w7).setCell (p := ⟨g + 1, 0, none⟩) (by simp) _
    have r1 : (w7.setCell ⟨g + 1, 0, none⟩ (.int .i64 1)).cell? ⟨g + 1, 0, none⟩ = some (.int .i64 1) := World.cell?_setCell_same _ _ _ y1
    exact ⟨_, results_tell _ _ g _ 1 rfl rfl r1, Or.inr ⟨hl, rfl⟩, keepsM hkB hkC (by intro x hx; simp at hx; omega)⟩
end Go.Proofs.YtnfojonmohijpaaGreatDoor
namespace Go.Proofs.YtnfojonmohijpaaGreatDoor
open Go.RowKit
theorem infoMat7 (a b c d e f g : Value) : (Tryz.prog.info? 80).map (·.size) = some [a, b, c, d, e, f, g].length := by kernel_rfl
set_option maxRecDepth 100000 in
set_option maxHeartbeats 2000000 in
theorem ymatch_any (p s : ByteArray) (w : World) (hgn : GN w) :
    Calls Tryz.prog 17 #[.string p, .string s] w fun e w' => ∃ t b n, e = .returned (.tuple #[.string (nmB t), .bool b, .int .i64 n]) ∧ MatchA p s t b n ∧ Keeps [] w w' := by
  go_enter Tryz.func17, Tryz.ntmps17
  go_wp2_with fail
  refine (readPattern_prog p w hgn).mono ?_
  rintro e w1 ⟨hk1, hc1⟩
  have hz0 : P4 (w1.alloc (.cells #[.bool false, .bool false, .slice none 0 0, .int .i64 0] 70)) w1.heap.size (.bool false) (.bool false) (.slice none 0 0) (.int .i64 0) := heap_alloc_new w1 _
  have hk2 : Keeps [] w1 (w1.alloc (.cells #[.bool false, .bool false, .slice none 0 0, .int .i64 0] 70)) := (Keeps.refl [] w1).alloc _
  have hC : (∃ x y : Int, y ≠ 0 ∧ e = .returned (.tuple #[.agg #[.bool false, .bool false, .slice none 0 0, .int .i64 0], .int .i64 x, .int .i64 y]) ∧ MatchA p s [] false y) ∨
      ∃ W j v, p.size ≤ 60 ∧ PatR p (.ok W j) ∧ e = .returned (.tuple #[.agg #[.bool W.bg, .bool W.en, v, .int .i64 W.g], .int .i64 0, .int .i64 0]) ∧ v.oneCell' = true ∧ Rep w1 (fun g => w.heap.size ≤ g) .ways W.x [v] := by
    rcases hc1 with ⟨hl, he⟩ | ⟨hs, q, hq, h⟩
    · exact Or.inl ⟨0, 1, by decide, he, Or.inl ⟨hl, rfl, rfl, rfl⟩⟩
    · cases q with
      | bad j => exact Or.inl ⟨j, 2, by decide, h, Or.inr ⟨hs, .bad j, hq, rfl, rfl, rfl⟩⟩
      | ok W j =>
        obtain ⟨v, he, hv, hrep⟩ := h
        exact Or.inr ⟨W, j, v, hs, hq, he, hv, hrep⟩
  clear hc1
  rcases hC with ⟨x, y, hy0, rfl, hp⟩ | ⟨W, j, v, hs, hq, rfl, hv, hrep⟩
  · have o4 := four_one (x := false) (y := false) (n := 0) (v := .slice none 0 0) rfl
    have hk3 : Keeps [] w1 ((w1.alloc (.cells #[.bool false, .bool false, .slice none 0 0, .int .i64 0] 70)).setRow w1.heap.size #[.bool false, .bool false, .slice none 0 0, .int .i64 0]) := hk2.setRow (Or.inr (Nat.le_refl _)) _
    have hkA := hk1.trans hk3
    have HP : Hid (MatchA p s [] false y) := hp
    clear hk2 hk3 hp hk1
    go_wp2_with (first | (refine wpList_store_row rfl 70 _ _ rfl w1.heap.size _ rfl rfl _ _ hz0 infoPat rfl o4 ?_; generalize (w1.alloc (.cells #[.bool false, .bool false, .slice none 0 0, .int .i64 0] 70)).setRow w1.heap.size #[.bool false, .bool false, .slice none 0 0, .int .i64 0] = W3 at *))
    go_ret3
    exact ⟨[], false, y, rfl, HP.out, hkA⟩
  have hsz := whole_sz hs hq
  obtain ⟨hfair, hthin, _⟩ := hq.good hs
  have o4 := four_one (x := W.bg) (y := W.en) (n := (W.g : Int)) hv
  have hk3 : Keeps [] w1 ((w1.alloc (.cells #[.bool false, .bool false, .slice none 0 0, .int .i64 0] 70)).setRow w1.heap.size #[.bool W.bg, .bool W.en, v, .int .i64 (W.g : Int)]) := hk2.setRow (Or.inr (Nat.le_refl _)) _
  have hrow : ((w1.alloc (.cells #[.bool false, .bool false, .slice none 0 0, .int .i64 0] 70)).setRow w1.heap.size #[.bool W.bg, .bool W.en, v, .int .i64 (W.g : Int)]).heap[w1.heap.size]? = some (.cells #[.bool W.bg, .bool W.en, v, .int .i64 (W.g : Int)] 70 (0, 0)) := setRow_heap _ _ _ _ _ _ hz0
  have hc3 : ∀ t u, [Value.bool W.bg, .bool W.en, v, .int .i64 (W.g : Int)][t]? = some u → ((w1.alloc (.cells #[.bool false, .bool false, .slice none 0 0, .int .i64 0] 70)).setRow w1.heap.size #[.bool W.bg, .bool W.en, v, .int .i64 (W.g : Int)]).cell? ⟨w1.heap.size, 0 + t, none⟩ = some u := by
    intro t u hu
    rw [Lib.cell_of_heap hrow, Nat.zero_add]
    simpa using hu
  have hr3 := hrep.keep hk3 (by simp)
  have hkA := hk1.trans hk3
  have hi4 := infoPat4 (.bool W.bg) (.bool W.en) v (.int .i64 (W.g : Int))
  have HQ : Hid (PatR p (.ok W j)) := hq
  have HPS : Hid (p.size ≤ 60) := hs
  clear hrep hq hgn hs hk1 hk2 hrow
  by_cases hT : s.size ≤ 100
  rotate_left
  · have hT' : (100 : Int) < (s.size : Int) := by omega
    have HA : Hid (MatchA p s [] false 1) := Or.inr ⟨HPS.out, .ok W j, HQ.out, Or.inl ⟨by omega, rfl, rfl, rfl⟩⟩
    clear hT hr3 hc3
    go_wp2_with (first | (refine wpList_store_row rfl 70 _ _ rfl w1.heap.size _ rfl rfl _ _ hz0 infoPat rfl o4 ?_; generalize (w1.alloc (.cells #[.bool false, .bool false, .slice none 0 0, .int .i64 0] 70)).setRow w1.heap.size #[.bool W.bg, .bool W.en, v, .int .i64 (W.g : Int)] = W3 at *))
    go_ret3
    exact ⟨[], false, 1, rfl, HA.out, hkA⟩
  have HT : Hid (s.size ≤ 100) := hT
  have hT' : ¬ (100 : Int) < (s.size : Int) := by omega
  clear hT
  go_wp2_with (first | (refine wpList_store_row rfl 70 _ _ rfl w1.heap.size _ rfl rfl _ _ hz0 infoPat rfl o4 ?_; generalize (w1.alloc (.cells #[.bool false, .bool false, .slice none 0 0, .int .i64 0] 70)).setRow w1.heap.size #[.bool W.bg, .bool W.en, v, .int .i64 (W.g : Int)] = W3 at *) | (refine wpList_load_at rfl 70 _ rfl w1.heap.size 0 rfl [.bool W.bg, .bool W.en, v, .int .i64 (W.g : Int)] _ hc3 Tryz.underlying70 rfl hi4 ?_))
  refine (matNew_any s (s.size + 1) rfl HT.out W v _ W3 hr3 hsz hfair).mono ?_
  rintro e w4 ⟨a, c, rfl, hm, hk4⟩
  have hkB := hkA.trans hk4
  have hal := hm.form.1
  have o7 : (#[.bool W.bg, .bool W.en, v, .int .i64 (W.g : Int), .string s, a, c] : Array Value).all (·.oneCell') = true := all7 rfl rfl hv rfl rfl (hal a (by simp)) (hal c (by simp))
  have hz4 : (w4.alloc (.cells #[.bool false, .bool false, .slice none 0 0, .int .i64 0, .string ⟨#[]⟩, .slice none 0 0, .slice none 0 0] 80)).heap[w4.heap.size]? = some (.cells #[.bool false, .bool false, .slice none 0 0, .int .i64 0, .string ⟨#[]⟩, .slice none 0 0, .slice none 0 0] 80 (0, 0)) := heap_alloc_new w4 _
  have hk5 : Keeps [] w4 ((w4.alloc (.cells #[.bool false, .bool false, .slice none 0 0, .int .i64 0, .string ⟨#[]⟩, .slice none 0 0, .slice none 0 0] 80)).setRow w4.heap.size #[.bool W.bg, .bool W.en, v, .int .i64 (W.g : Int), .string s, a, c]) := ((Keeps.refl [] w4).alloc _).setRow (Or.inr (Nat.le_refl _)) _
  have hrow4 : ((w4.alloc (.cells #[.bool false, .bool false, .slice none 0 0, .int .i64 0, .string ⟨#[]⟩, .slice none 0 0, .slice none 0 0] 80)).setRow w4.heap.size #[.bool W.bg, .bool W.en, v, .int .i64 (W.g : Int), .string s, a, c]).heap[w4.heap.size]? = some (.cells #[.bool W.bg, .bool W.en, v, .int .i64 (W.g : Int), .string s, a, c] 80 (0, 0)) := setRow_heap _ _ _ _ _ _ hz4
  have hm5 := hm.keep hk5 (by simp)
  have hkC := hkB.trans hk5
  have hi7 := infoMat7 (.bool W.bg) (.bool W.en) v (.int .i64 (W.g : Int)) (.string s) a c
  have hin7 := info7 (.bool W.bg) (.bool W.en) v (.int .i64 (W.g : Int)) (.string s) a c
  have hg4 : w4.heap.size < ((w4.alloc (.cells #[.bool false, .bool false, .slice none 0 0, .int .i64 0, .string ⟨#[]⟩, .slice none 0 0, .slice none 0 0] 80)).setRow w4.heap.size #[.bool W.bg, .bool W.en, v, .int .i64 (W.g : Int), .string s, a, c]).heap.size := (Array.getElem?_eq_some_iff.1 hrow4).1
  have cM : ∀ X : World, X.heap[w4.heap.size]? = some (.cells #[.bool W.bg, .bool W.en, v, .int .i64 (W.g : Int), .string s, a, c] 80 (0, 0)) → ∀ t u, ([.bool W.bg, .bool W.en, v, .int .i64 (W.g : Int), .string s, a, c] : List Value)[t]? = some u → X.cell? ⟨w4.heap.size, 0 + t, none⟩ = some u := by
    intro X hX t u hu
    rw [Lib.cell_of_heap hX, Nat.zero_add]
    simpa using hu
  have hc5 := cM _ hrow4
  clear hr3 hc3 hk3 hz0 hm hk4 hkA hkB hk5 hi4 o4
  simp only [mat]
  go_wp2_with (first | (refine wpList_store_row rfl 80 _ _ rfl w4.heap.size _ rfl rfl _ _ hz4 hin7 rfl o7 ?_; generalize ((w4.alloc (.cells #[.bool false, .bool false, .slice none 0 0, .int .i64 0, .string ⟨#[]⟩, .slice none 0 0, .slice none 0 0] 80)).setRow w4.heap.size #[.bool W.bg, .bool W.en, v, .int .i64 (W.g : Int), .string s, a, c]) = W5 at *) | (refine wpList_load_at rfl 80 _ rfl w4.heap.size 0 rfl [.bool W.bg, .bool W.en, v, .int .i64 (W.g : Int), .string s, a, c] _ hc5 Tryz.underlying80 rfl hi7 ?_))
  refine (show Calls Tryz.prog 40 #[.agg #[.bool W.bg, .bool W.en, v, .int .i64 (W.g : Int), .string s, a, c], .int .i64 0, .int .i64 s.size] W5 _ from canM_any s (s.size + 1) rfl HT.out W v a c _ W5 hm5 0 s.size (Nat.zero_le _) (Nat.le_refl _)).mono ?_
  rintro e w6 ⟨b, rfl, hb, hk6⟩
  have hkD := hkC.trans hk6
  have hm6 := hm5.keep hk6 (by simp)
  have hc6 := cM _ ((hk6.block _ hg4 (by simp)).trans hrow4)
  clear hm5 hkC hc5 hk6 hrow4 hg4 cM hz4
  by_cases hbt : b = true
  rotate_left
  · obtain rfl : b = false := by simpa using hbt
    have HA : Hid (MatchA p s [] false 0) := Or.inr ⟨HPS.out, .ok W j, HQ.out, Or.inr ⟨HT.out, Or.inl ⟨fun h => hbt (hb.2 h), rfl, rfl, rfl⟩⟩⟩
    clear hb hbt hm6 hc6
    go_wp2_with fail
    go_ret3
    exact ⟨[], false, 0, rfl, HA.out, hkD⟩
  have hmt := hb.1 hbt
  have HM : Hid (Mt s W.x 0 s.size) := hmt
  subst hbt
  clear hb
  go_wp2_with (first | (refine wpList_load_at rfl 80 _ rfl w4.heap.size 0 rfl [.bool W.bg, .bool W.en, v, .int .i64 (W.g : Int), .string s, a, c] _ hc6 Tryz.underlying80 rfl hi7 ?_))
  refine (show Calls Tryz.prog 42 #[.agg #[.bool W.bg, .bool W.en, v, .int .i64 (W.g : Int), .string s, a, c], .int .i64 0, .int .i64 s.size] w6 _ from treeM_any s (s.size + 1) rfl HT.out W v a c hv _ w6 hm6 hsz 0 s.size (Nat.zero_le _) (Nat.le_refl _) hmt).mono ?_
  rintro e w7 ⟨t, cs, rfl, htv, htt, hk7⟩
  have hkE := hkD.trans hk7
  have hth := htt.thin hthin
  have HR : Hid (TR s (.node W.x) 0 s.size t.text (t.evs 0)) := (htt.toTR hmt).1
  clear hm6 hc6 hkD hk7 htt hmt
  go_wp2_with fail
  refine (tell_any t hth _ cs w7 htv).mono ?_
  rintro e w8 ⟨hte, hk8⟩
  have hkF := hkE.trans hk8
  clear hkE hk8 htv hth
  rcases hte with ⟨hl, rfl⟩ | ⟨hl, rfl⟩
  · have HA : Hid (MatchA p s t.text true 0) := Or.inr ⟨HPS.out, .ok W j, HQ.out, Or.inr ⟨HT.out, Or.inr ⟨HM.out, _, _, HR.out, Or.inl ⟨hl, rfl, rfl, rfl⟩⟩⟩⟩
    clear hl
    go_wp2_with fail
    go_ret3
    exact ⟨_, true, 0, rfl, HA.out, hkF⟩
  · have HA : Hid (MatchA p s [] false 1) := Or.inr ⟨HPS.out, .ok W j, HQ.out, Or.inr ⟨HT.out, Or.inr ⟨HM.out, _, _, HR.out, Or.inr ⟨hl, rfl, rfl, rfl⟩⟩⟩⟩
    clear hl
    go_wp2_with fail
    go_ret3
    exact ⟨_, false, 1, rfl, HA.out, hkF⟩
end Go.Proofs.YtnfojonmohijpaaGreatDoor
namespace Go.Proofs.YtnfojonmohijpaaGreatDoor
def st (c : Int) : Pat := .set (stretch c c)
def m1 : Pat := .wcons (.pcons (st 97) .pnil) (.wone (.pcons (st 97) (.pcons (st 98) .pnil)))
def m2 : Pat := .wcons (.pcons (st 99) .pnil) (.wone (.pcons (st 98) (.pcons (st 99) (.pcons (st 100) .pnil))))
def m3 : Pat := .wone (.pcons (.rep 0 (-1) (st 100)) .pnil)
theorem st_yes {s : ByteArray} {c : Int} {i : Nat} (h : i < s.size ∧ stretch c c (at' s i).toNat = true) : Mt s (st c) i (i + 1) := ⟨h.1, h.2, rfl⟩
theorem st_no {s : ByteArray} {c : Int} {i j : Nat} (h : stretch c c (at' s i).toNat = false) : ¬ Mt s (st c) i j := fun hm => by have := hm.2.1; rw [h] at this; cases this
theorem TR.cast {s : ByteArray} {J : Job} {i j : Nat} {t u : List UInt8} {ev : List (Nat × Nat × Nat)} (h : TR s J i j t ev) (e : t = u) : TR s J i j u ev := e ▸ h
end Go.Proofs.YtnfojonmohijpaaGreatDoor
namespace Go.Proofs.YtnfojonmohijpaaGreatDoor
open Go.RowKit
theorem Sg.lit {c : UInt8} (h1 : (c.toNat : Int) ≠ 40 ∧ (c.toNat : Int) ≠ 91 ∧ (c.toNat : Int) ≠ 46 ∧ (c.toNat : Int) ≠ 92) (h2 : ¬ notC (c.toNat : Int)) : Sg [c] (.set (stretch (c.toNat : Int) (c.toNat : Int))) := by
  refine ⟨⟨c, [], rfl, ?_, ?_⟩, ?_⟩
  · unfold notC at h2; unfold noRep; omega
  · unfold notC at h2; unfold stopC; omega
  · intro s i d g hl
    have h := (Lies.cons.1 hl).1
    have a := G.lit (s := s) d g i (by omega) (by rw [h]; exact h1.1) (by rw [h]; exact h1.2.1) (by rw [h]; exact h1.2.2.1) (by rw [h]; exact h1.2.2.2) (by rw [h]; exact h2)
    rw [h] at a
    exact a
theorem sg97 : Sg [97] (st 97) := Sg.lit (c := 97) (by decide) (by unfold notC; decide)
def wP : ByteArray := ⟨#[97, 42]⟩
def wT : ByteArray := ⟨#[97, 97]⟩
def wX : Pat := .wone (.pcons (.rep 0 (-1) (st 97)) .pnil)
theorem w_read : PatR wP (.ok ⟨false, false, wX, 0⟩ 2) := (Ws.one (Wy.single sg97 Rx.star)).whole (by decide) (by decide) (by decide) wP rfl
theorem w_at : stretch 97 97 (at' wT 0).toNat = true ∧ stretch 97 97 (at' wT 1).toNat = true ∧ wT.size = 2 := by decide
theorem w_match : MatchA wP wT [40, 114, 32, 98, 54, 49, 32, 98, 54, 49, 41] true 0 := by
  obtain ⟨b0, b1, hs⟩ := w_at
  have m0 : Mt wT (st 97) 0 1 := st_yes ⟨by rw [hs]; decide, b0⟩
  have m1 : Mt wT (st 97) 1 2 := st_yes ⟨by rw [hs]; decide, b1⟩
  have t1 : TR wT (.times (0 - 1) (less (-1)) (st 97)) 1 2 _ _ := .tgo _ _ (st 97) 1 2 2 _ _ _ _ (Or.inl (by decide)) ⟨by decide, by decide, fun _ => ⟨m1, 0, by decide, Or.inl (by decide), rfl⟩, fun m h1 h2 _ => by omega⟩ (.byte _ 1 2) (.tend _ _ _ 2 2 (by decide))
  have t0 : TR wT (.times 0 (-1) (st 97)) 0 2 _ _ := .tgo 0 (-1) (st 97) 0 2 1 _ _ _ _ (Or.inl (by decide)) ⟨by decide, by decide, fun _ => ⟨m0, 1, by decide, Or.inl (by decide), 2, m1, rfl⟩, fun m h1 h2 hm => by have := hm.1.2.2; omega⟩ (.byte _ 0 1) t1
  have z : TR wT (.node wX) 0 2 _ _ := .wone _ 0 2 _ _ (.lone _ 0 2 _ _ (.rep 0 (-1) _ 0 2 _ _ t0))
  have hm : Mt wT wX 0 2 := ⟨2, ⟨2, by decide, Or.inl (by decide), 1, m0, 2, m1, rfl⟩, rfl⟩
  refine Or.inr ⟨by decide, _, w_read, Or.inr ⟨by decide, Or.inr ⟨by rw [hs]; exact hm, _, _, by rw [hs]; exact z.cast (u := [40, 114, 32, 98, 54, 49, 32, 98, 54, 49, 41]) (by decide +kernel), Or.inl ⟨by decide, rfl, rfl, rfl⟩⟩⟩⟩
def vP : ByteArray := ⟨#[97]⟩
def vT : ByteArray := ⟨#[98, 97]⟩
def vX : Pat := .wone (.pcons (st 97) .pnil)
theorem v_read : PatR vP (.ok ⟨false, false, vX, 0⟩ 1) := (Ws.one (Wy.single sg97 Rx.none)).whole (by decide) (by decide) (by decide) vP rfl
theorem v_at : stretch 97 97 (at' vT 0).toNat = false ∧ stretch 97 97 (at' vT 1).toNat = true ∧ vT.size = 2 := by decide
theorem v_found {ans : Option (List Int)} {n : Int} (h : SearchA vP vT 0 ans n) : ans = some [1, 2] ∧ n = 0 := by
  obtain ⟨b0, b1, hs⟩ := v_at
  have hps : vP.size ≤ 60 := by decide
  have m1 : Mt vT vX 1 2 := ⟨2, st_yes ⟨by rw [hs]; decide, b1⟩, rfl⟩
  have hF : FirstAt vT ⟨false, false, vX, 0⟩ 0 1 2 := by
    refine ⟨by decide, by decide, by rw [hs]; decide, ⟨m1, fun h => (Bool.noConfusion h), fun h => (Bool.noConfusion h)⟩, ?_, fun j' h1 h2 => by omega⟩
    intro i' j' _ h2 _ _ hok
    have e : i' = 0 := by omega
    subst e
    obtain ⟨m, hm, _⟩ := hok.1
    exact st_no b0 hm
  rcases h with ⟨h, _⟩ | ⟨_, q, hq, h⟩
  · omega
  · cases hq.det v_read
    rcases h with ⟨h, _⟩ | ⟨_, ⟨h, _⟩ | ⟨_, _, h, rfl⟩⟩
    · omega
    · omega
    · rcases h with ⟨_, h⟩ | ⟨i, j, t, ev, hf, _, h⟩
      · exact absurd hF.2.2.2.1 (h 1 2 (by decide) (by decide) (by rw [hs]; decide))
      · obtain ⟨rfl, rfl⟩ := hF.one hf
        refine ⟨?_, rfl⟩
        rw [h]
        have e : evs (List.replicate (2 * 0) (-1)) ev = [] := List.length_eq_zero_iff.1 (by rw [evs_len]; rfl)
        exact congrArg some (by rw [e]; rfl)
set_option maxRecDepth 100000 in
set_option maxHeartbeats 2000000 in
theorem awake_any (w : World) (hgn : GN w) : Calls Tryz.prog 30 #[] w fun e w' => e = .returned (.bool true) ∧ Keeps [] w w' := by
  go_enter Tryz.func30, Tryz.ntmps30
  go_wp2_with fail
  refine (ymatch_any wP wT w hgn).mono ?_
  rintro e w1 ⟨t, b, n, rfl, h1, hk1⟩
  obtain ⟨rfl, rfl, rfl⟩ := h1.det w_match
  have hgn1 := hgn.keep hk1 (by simp)
  have hx : nmB [40, 114, 32, 98, 54, 49, 32, 98, 54, 49, 41] = ⟨#[40, 114, 32, 98, 54, 49, 32, 98, 54, 49, 41]⟩ := rfl
  rw [hx]
  clear h1 hgn
  go_wp2_with fail
  refine (ysearch_any vP vT 0 w1 hgn1).mono ?_
  rintro e w2 ⟨r, ans, n2, rfl, h2, hI, hk2⟩
  obtain ⟨rfl, rfl⟩ := v_found h2
  have hrow : w2.ownsRow w1.heap.size 3 1 r 2 (spW [1, 2]) := hI
  obtain ⟨g, cap, rfl, _, _⟩ := World.ownsRow.form hrow (by decide)
  have c0 : w2.cell? ⟨g, 0, none⟩ = some (.int .i64 1) := (World.ownsRow.cellAt hrow 0 (by decide)).trans rfl
  have c1 : w2.cell? ⟨g, 1, none⟩ = some (.int .i64 2) := (World.ownsRow.cellAt hrow 1 (by decide)).trans rfl
  have hk := hk1.trans hk2
  clear h2 hI hrow hk1 hk2 hgn1
  go_wp2_with fail
  go_ret
  exact ⟨rfl, hk⟩
end Go.Proofs.YtnfojonmohijpaaGreatDoor
