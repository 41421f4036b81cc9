/-
  DERIVED. The contract of the reference's 'write' at a node of kind 98. Conditions: the nodes lie as they should, the parts are written as claimed, no text is longer than a hundred million bytes.
-/
import Derived.Test.YtnfojonmohijpaaGreatDoorJTC
set_option linter.unusedSimpArgs false
set_option linter.unusedVariables false
namespace Go.Proofs.YtnfojonmohijpaaGreatDoor
open Go.RowKit

set_option maxRecDepth 100000 in
set_option maxHeartbeats 2000000 in
theorem write_98 (nds : List Nd) (hn : nds.length ≤ 1000) (k : Nat) (nd : Nd) (hk : nds[k]? = some nd) (ts : List (List UInt8)) (hl : ts.length = nd.kids.length) (hw : ∀ (i c : Nat) (t : List UInt8), nd.kids[i]? = some c → ts[i]? = some t → Writes nds c t)
    (hB : ∀ bar m, m ≤ ts.length → (joinTo bar ts m).length ≤ 100000000) (hT : ∀ i, (ts.getD i []).length ≤ 100000000) (hkl : nd.kids.length ≤ 1000)
    (hkind : nd.kind = 98) (h5 : nd.kind = 114 → nd.mn ≤ 5 ∧ -1 ≤ nd.mx ∧ nd.mx ≤ 5) : Writes nds k (nodeT nd ts) := by
  intro b p w hp hinv
  obtain ⟨g, cap, hv, kv, hform, hkn, hH, hK, c0, c1, c2, c3, c4, c5⟩ := hinv.node hk
  have HK : Hid (nd.kind = 98) := hkind
  rw [hkind] at c0
  obtain ⟨n1, _⟩ := hp.nodes
  rw [hform] at n1
  obtain ⟨h, rfl, hHB, _⟩ := hH.2 HK.out
  obtain ⟨ka, kc, rfl, hkid⟩ := hK.form
  have hk0 : (0 : Int) ≤ (k : Int) := by omega
  have hk1 : (k : Int) < (nds.length : Int) := by omega
  have hk2 : (nds.length : Int) ≤ 1000 := by omega
  have hWk := (Keeps.refl [] w).alloc (.cells #[.int .u8 98, .slice (some ⟨h, 0, none⟩) 256 256, .int .i64 nd.n, .int .i64 nd.mn, .int .i64 nd.mx, .slice ka nd.kids.length kc] 157)
  have hnew := heap_alloc_new w (.cells #[.int .u8 98, .slice (some ⟨h, 0, none⟩) 256 256, .int .i64 nd.n, .int .i64 nd.mn, .int .i64 nd.mx, .slice ka nd.kids.length kc] 157)
  have hmk0 : (nd.kids.length : Int) ≤ 1000 := by omega
  have HL : Hid (ts.length = nd.kids.length) := hl
  clear hkind hform hH hK hkn hk hl
  go_enter Tryz.func71, Tryz.ntmps71
  go_wp2_with fail
  clear c0 c1 c2 c3 c4 c5 n1
  generalize (w.alloc (.cells #[.int .u8 98, .slice (some ⟨h, 0, none⟩) 256 256, .int .i64 nd.n, .int .i64 nd.mn, .int .i64 nd.mx, .slice ka nd.kids.length kc] 157)) = W at *
  obtain ⟨N, hN⟩ : ∃ N, N = w.heap.size := ⟨_, rfl⟩
  rw [← hN] at hnew ⊢
  clear hN
  have e0 : W.cell? ⟨N, 0, none⟩ = some (.int .u8 98) := by simp [World.cell?, hnew]
  have e1 : W.cell? ⟨N, 1, none⟩ = some (.slice (some ⟨h, 0, none⟩) 256 256) := by simp [World.cell?, hnew]
  have e2 : W.cell? ⟨N, 2, none⟩ = some (.int .i64 nd.n) := by simp [World.cell?, hnew]
  have e3 : W.cell? ⟨N, 3, none⟩ = some (.int .i64 nd.mn) := by simp [World.cell?, hnew]
  have e4 : W.cell? ⟨N, 4, none⟩ = some (.int .i64 nd.mx) := by simp [World.cell?, hnew]
  have e5 : W.cell? ⟨N, 5, none⟩ = some (.slice ka nd.kids.length kc) := by simp [World.cell?, hnew]
  clear hnew
  go_loopw [6, 7] (fun o q wr => ∃ m : Nat, m ≤ nd.kids.length ∧ q = .int .i64 m ∧ o = .string (nmB (joinTo false ts m)) ∧ Keeps [] W wr) (fun _ q _ => nd.kids.length - (intOf q).toNat)
  case atStart => exact ⟨0, Nat.zero_le _, rfl, rfl, Keeps.refl _ _⟩
  case round =>
    obtain ⟨m, hm, rfl, rfl, hkr⟩ := hrel
    have r0 := (Keeps.cell hkr e0)
    have r5 := (Keeps.cell hkr e5)
    have hbm := hB false m (by have := HL.out; omega)
    by_cases hml : m < nd.kids.length
    · have hmi : (m : Int) < (nd.kids.length : Int) := by omega
      have hmj : (0 : Int) ≤ (m : Int) := by omega
      have hmk : (nd.kids.length : Int) ≤ 1000 := by omega
      obtain ⟨kb, rfl, hkc⟩ := hkid m hml
      have ec : nd.kids[m]? = some (nd.kids[m]'hml) := List.getElem?_eq_getElem hml
      have et : ts[m]? = some (ts[m]'(by have := HL.out; omega)) := List.getElem?_eq_getElem (by have := HL.out; omega)
      have hrk := Keeps.cell (hWk.trans hkr) hkc
      have htl := hT m
      have htg : ts.getD m [] = ts[m]'(by have := HL.out; omega) := by rw [List.getD_eq_getElem?_getD, et]; rfl
      rw [htg] at htl
      generalize (nd.kids[m]'hml) = c at *
      generalize (ts[m]'(by have := HL.out; omega)) = t at *
      have hz1 : (nmB t).size ≤ 100000000 := by rw [nmB_size]; exact htl
      have hz2 : (nmB (joinTo false ts m)).size ≤ 100000000 := by rw [nmB_size]; exact hbm
      have HJ : Hid (joinTo false ts (m + 1) = (joinTo false ts m ++ []) ++ t) := by show (joinTo false ts m ++ (if false = true ∧ 0 < m then [124] else [])) ++ ts.getD m [] = _; rw [htg]; simp
      have hz3 : (nmB (joinTo false ts m) ++ nmB []).size ≤ 100000000 := by rw [nmB_appT, List.append_nil]; exact hz2
      clear htg htl hbm
      go_wp2_with fail
      refine (hw m c t ec et b p _ (hp.keep (hWk.trans hkr) (by simp)) (hinv.keep (hWk.trans hkr) sub_nil)).mono ?_
      rintro e w2 ⟨rfl, hk2⟩
      go_wp2_with fail
      go_roundw
      case rel => exact ⟨m + 1, by omega, by go_num, by rw [HJ.out, List.append_nil, ← nmB_appT], hkr.trans hk2⟩
      case measure => simp [intOf]; omega
    · have hme : m = ts.length := by have := HL.out; omega
      subst hme
      have hmi : ¬ ((ts.length : Nat) : Int) < (nd.kids.length : Int) := by have := HL.out; omega
      have hz2 : (nmB (joinTo false ts ts.length)).size ≤ 100000000 := by rw [nmB_size]; exact hbm
      have r1 := (Keeps.cell hkr e1)
      have r2 := (Keeps.cell hkr e2)
      have r3 := (Keeps.cell hkr e3)
      have r4 := (Keeps.cell hkr e4)
      have HN : Hid (nodeT nd ts = setT nd.f) := by show nodeT nd ts = _; unfold nodeT; rw [if_pos HK.out]
      go_wp2_with fail
      refine (single_text h nd.f _ (hHB.keep (hWk.trans hkr) (by simp))).mono ?_
      rintro e w2 ⟨rfl, hk2⟩
      go_wp2_with fail
      go_ret
      exact ⟨ret_str (by rw [HN.out]), (hWk.trans hkr).trans hk2⟩

end Go.Proofs.YtnfojonmohijpaaGreatDoor

/-
  DERIVED. The contract of the reference's 'write' at a node of kind 103. Conditions: the nodes lie as they should, the parts are written as claimed, no text is longer than a hundred million bytes.
-/
namespace Go.Proofs.YtnfojonmohijpaaGreatDoor
open Go.RowKit

set_option maxRecDepth 100000 in
set_option maxHeartbeats 2000000 in
theorem write_103 (nds : List Nd) (hn : nds.length ≤ 1000) (k : Nat) (nd : Nd) (hk : nds[k]? = some nd) (ts : List (List UInt8)) (hl : ts.length = nd.kids.length) (hw : ∀ (i c : Nat) (t : List UInt8), nd.kids[i]? = some c → ts[i]? = some t → Writes nds c t)
    (hB : ∀ bar m, m ≤ ts.length → (joinTo bar ts m).length ≤ 100000000) (hT : ∀ i, (ts.getD i []).length ≤ 100000000) (hkl : nd.kids.length ≤ 1000)
    (hkind : nd.kind = 103) (h5 : nd.kind = 114 → nd.mn ≤ 5 ∧ -1 ≤ nd.mx ∧ nd.mx ≤ 5) : Writes nds k (nodeT nd ts) := by
  intro b p w hp hinv
  obtain ⟨g, cap, hv, kv, hform, hkn, hH, hK, c0, c1, c2, c3, c4, c5⟩ := hinv.node hk
  have HK : Hid (nd.kind = 103) := hkind
  rw [hkind] at c0
  obtain ⟨n1, _⟩ := hp.nodes
  rw [hform] at n1
  obtain ⟨hva, hvn, hvc, rfl⟩ := hH.1
  obtain ⟨ka, kc, rfl, hkid⟩ := hK.form
  have hk0 : (0 : Int) ≤ (k : Int) := by omega
  have hk1 : (k : Int) < (nds.length : Int) := by omega
  have hk2 : (nds.length : Int) ≤ 1000 := by omega
  have hWk := (Keeps.refl [] w).alloc (.cells #[.int .u8 103, .slice hva hvn hvc, .int .i64 nd.n, .int .i64 nd.mn, .int .i64 nd.mx, .slice ka nd.kids.length kc] 157)
  have hnew := heap_alloc_new w (.cells #[.int .u8 103, .slice hva hvn hvc, .int .i64 nd.n, .int .i64 nd.mn, .int .i64 nd.mx, .slice ka nd.kids.length kc] 157)
  have hmk0 : (nd.kids.length : Int) ≤ 1000 := by omega
  have HL : Hid (ts.length = nd.kids.length) := hl
  clear hkind hform hH hK hkn hk hl
  go_enter Tryz.func71, Tryz.ntmps71
  go_wp2_with fail
  clear c0 c1 c2 c3 c4 c5 n1
  generalize (w.alloc (.cells #[.int .u8 103, .slice hva hvn hvc, .int .i64 nd.n, .int .i64 nd.mn, .int .i64 nd.mx, .slice ka nd.kids.length kc] 157)) = W at *
  obtain ⟨N, hN⟩ : ∃ N, N = w.heap.size := ⟨_, rfl⟩
  rw [← hN] at hnew ⊢
  clear hN
  have e0 : W.cell? ⟨N, 0, none⟩ = some (.int .u8 103) := by simp [World.cell?, hnew]
  have e1 : W.cell? ⟨N, 1, none⟩ = some (.slice hva hvn hvc) := by simp [World.cell?, hnew]
  have e2 : W.cell? ⟨N, 2, none⟩ = some (.int .i64 nd.n) := by simp [World.cell?, hnew]
  have e3 : W.cell? ⟨N, 3, none⟩ = some (.int .i64 nd.mn) := by simp [World.cell?, hnew]
  have e4 : W.cell? ⟨N, 4, none⟩ = some (.int .i64 nd.mx) := by simp [World.cell?, hnew]
  have e5 : W.cell? ⟨N, 5, none⟩ = some (.slice ka nd.kids.length kc) := by simp [World.cell?, hnew]
  clear hnew
  go_loopw [6, 7] (fun o q wr => ∃ m : Nat, m ≤ nd.kids.length ∧ q = .int .i64 m ∧ o = .string (nmB (joinTo false ts m)) ∧ Keeps [] W wr) (fun _ q _ => nd.kids.length - (intOf q).toNat)
  case atStart => exact ⟨0, Nat.zero_le _, rfl, rfl, Keeps.refl _ _⟩
  case round =>
    obtain ⟨m, hm, rfl, rfl, hkr⟩ := hrel
    have r0 := (Keeps.cell hkr e0)
    have r5 := (Keeps.cell hkr e5)
    have hbm := hB false m (by have := HL.out; omega)
    by_cases hml : m < nd.kids.length
    · have hmi : (m : Int) < (nd.kids.length : Int) := by omega
      have hmj : (0 : Int) ≤ (m : Int) := by omega
      have hmk : (nd.kids.length : Int) ≤ 1000 := by omega
      obtain ⟨kb, rfl, hkc⟩ := hkid m hml
      have ec : nd.kids[m]? = some (nd.kids[m]'hml) := List.getElem?_eq_getElem hml
      have et : ts[m]? = some (ts[m]'(by have := HL.out; omega)) := List.getElem?_eq_getElem (by have := HL.out; omega)
      have hrk := Keeps.cell (hWk.trans hkr) hkc
      have htl := hT m
      have htg : ts.getD m [] = ts[m]'(by have := HL.out; omega) := by rw [List.getD_eq_getElem?_getD, et]; rfl
      rw [htg] at htl
      generalize (nd.kids[m]'hml) = c at *
      generalize (ts[m]'(by have := HL.out; omega)) = t at *
      have hz1 : (nmB t).size ≤ 100000000 := by rw [nmB_size]; exact htl
      have hz2 : (nmB (joinTo false ts m)).size ≤ 100000000 := by rw [nmB_size]; exact hbm
      have HJ : Hid (joinTo false ts (m + 1) = (joinTo false ts m ++ []) ++ t) := by show (joinTo false ts m ++ (if false = true ∧ 0 < m then [124] else [])) ++ ts.getD m [] = _; rw [htg]; simp
      have hz3 : (nmB (joinTo false ts m) ++ nmB []).size ≤ 100000000 := by rw [nmB_appT, List.append_nil]; exact hz2
      clear htg htl hbm
      go_wp2_with fail
      refine (hw m c t ec et b p _ (hp.keep (hWk.trans hkr) (by simp)) (hinv.keep (hWk.trans hkr) sub_nil)).mono ?_
      rintro e w2 ⟨rfl, hk2⟩
      go_wp2_with fail
      go_roundw
      case rel => exact ⟨m + 1, by omega, by go_num, by rw [HJ.out, List.append_nil, ← nmB_appT], hkr.trans hk2⟩
      case measure => simp [intOf]; omega
    · have hme : m = ts.length := by have := HL.out; omega
      subst hme
      have hmi : ¬ ((ts.length : Nat) : Int) < (nd.kids.length : Int) := by have := HL.out; omega
      have hz2 : (nmB (joinTo false ts ts.length)).size ≤ 100000000 := by rw [nmB_size]; exact hbm
      have r1 := (Keeps.cell hkr e1)
      have r2 := (Keeps.cell hkr e2)
      have r3 := (Keeps.cell hkr e3)
      have r4 := (Keeps.cell hkr e4)
      have HN : Hid (nodeT nd ts = [40] ++ joinTo false ts ts.length ++ [41]) := by show nodeT nd ts = _; unfold nodeT; rw [if_neg (by rw [HK.out]; decide), if_pos HK.out]
      have hz4 : (nmB [40] ++ nmB (joinTo false ts ts.length)).size ≤ 100000001 := by rw [nmB_appT, nmB_size, List.length_append]; simp; omega
      go_wp2_with fail
      go_ret
      exact ⟨ret_str (by rw [HN.out, ← nmB_appT, ← nmB_appT]; rfl), hWk.trans hkr⟩

end Go.Proofs.YtnfojonmohijpaaGreatDoor

/-
  DERIVED. The contract of the reference's 'write' at a node of kind 114. Conditions: the nodes lie as they should, the parts are written as claimed, no text is longer than a hundred million bytes.
-/
namespace Go.Proofs.YtnfojonmohijpaaGreatDoor
open Go.RowKit

set_option maxRecDepth 100000 in
set_option maxHeartbeats 2000000 in
theorem write_114 (nds : List Nd) (hn : nds.length ≤ 1000) (k : Nat) (nd : Nd) (hk : nds[k]? = some nd) (ts : List (List UInt8)) (hl : ts.length = nd.kids.length) (hw : ∀ (i c : Nat) (t : List UInt8), nd.kids[i]? = some c → ts[i]? = some t → Writes nds c t)
    (hB : ∀ bar m, m ≤ ts.length → (joinTo bar ts m).length ≤ 100000000) (hT : ∀ i, (ts.getD i []).length ≤ 100000000) (hkl : nd.kids.length ≤ 1000)
    (hkind : nd.kind = 114) (h5 : nd.kind = 114 → nd.mn ≤ 5 ∧ -1 ≤ nd.mx ∧ nd.mx ≤ 5) : Writes nds k (nodeT nd ts) := by
  intro b p w hp hinv
  obtain ⟨g, cap, hv, kv, hform, hkn, hH, hK, c0, c1, c2, c3, c4, c5⟩ := hinv.node hk
  have HK : Hid (nd.kind = 114) := hkind
  rw [hkind] at c0
  obtain ⟨n1, _⟩ := hp.nodes
  rw [hform] at n1
  obtain ⟨hva, hvn, hvc, rfl⟩ := hH.1
  obtain ⟨ka, kc, rfl, hkid⟩ := hK.form
  have hk0 : (0 : Int) ≤ (k : Int) := by omega
  have hk1 : (k : Int) < (nds.length : Int) := by omega
  have hk2 : (nds.length : Int) ≤ 1000 := by omega
  have hWk := (Keeps.refl [] w).alloc (.cells #[.int .u8 114, .slice hva hvn hvc, .int .i64 nd.n, .int .i64 nd.mn, .int .i64 nd.mx, .slice ka nd.kids.length kc] 157)
  have hnew := heap_alloc_new w (.cells #[.int .u8 114, .slice hva hvn hvc, .int .i64 nd.n, .int .i64 nd.mn, .int .i64 nd.mx, .slice ka nd.kids.length kc] 157)
  have hmk0 : (nd.kids.length : Int) ≤ 1000 := by omega
  have HL : Hid (ts.length = nd.kids.length) := hl
  clear hkind hform hH hK hkn hk hl
  go_enter Tryz.func71, Tryz.ntmps71
  go_wp2_with fail
  clear c0 c1 c2 c3 c4 c5 n1
  generalize (w.alloc (.cells #[.int .u8 114, .slice hva hvn hvc, .int .i64 nd.n, .int .i64 nd.mn, .int .i64 nd.mx, .slice ka nd.kids.length kc] 157)) = W at *
  obtain ⟨N, hN⟩ : ∃ N, N = w.heap.size := ⟨_, rfl⟩
  rw [← hN] at hnew ⊢
  clear hN
  have e0 : W.cell? ⟨N, 0, none⟩ = some (.int .u8 114) := by simp [World.cell?, hnew]
  have e1 : W.cell? ⟨N, 1, none⟩ = some (.slice hva hvn hvc) := by simp [World.cell?, hnew]
  have e2 : W.cell? ⟨N, 2, none⟩ = some (.int .i64 nd.n) := by simp [World.cell?, hnew]
  have e3 : W.cell? ⟨N, 3, none⟩ = some (.int .i64 nd.mn) := by simp [World.cell?, hnew]
  have e4 : W.cell? ⟨N, 4, none⟩ = some (.int .i64 nd.mx) := by simp [World.cell?, hnew]
  have e5 : W.cell? ⟨N, 5, none⟩ = some (.slice ka nd.kids.length kc) := by simp [World.cell?, hnew]
  clear hnew
  go_loopw [6, 7] (fun o q wr => ∃ m : Nat, m ≤ nd.kids.length ∧ q = .int .i64 m ∧ o = .string (nmB (joinTo false ts m)) ∧ Keeps [] W wr) (fun _ q _ => nd.kids.length - (intOf q).toNat)
  case atStart => exact ⟨0, Nat.zero_le _, rfl, rfl, Keeps.refl _ _⟩
  case round =>
    obtain ⟨m, hm, rfl, rfl, hkr⟩ := hrel
    have r0 := (Keeps.cell hkr e0)
    have r5 := (Keeps.cell hkr e5)
    have hbm := hB false m (by have := HL.out; omega)
    by_cases hml : m < nd.kids.length
    · have hmi : (m : Int) < (nd.kids.length : Int) := by omega
      have hmj : (0 : Int) ≤ (m : Int) := by omega
      have hmk : (nd.kids.length : Int) ≤ 1000 := by omega
      obtain ⟨kb, rfl, hkc⟩ := hkid m hml
      have ec : nd.kids[m]? = some (nd.kids[m]'hml) := List.getElem?_eq_getElem hml
      have et : ts[m]? = some (ts[m]'(by have := HL.out; omega)) := List.getElem?_eq_getElem (by have := HL.out; omega)
      have hrk := Keeps.cell (hWk.trans hkr) hkc
      have htl := hT m
      have htg : ts.getD m [] = ts[m]'(by have := HL.out; omega) := by rw [List.getD_eq_getElem?_getD, et]; rfl
      rw [htg] at htl
      generalize (nd.kids[m]'hml) = c at *
      generalize (ts[m]'(by have := HL.out; omega)) = t at *
      have hz1 : (nmB t).size ≤ 100000000 := by rw [nmB_size]; exact htl
      have hz2 : (nmB (joinTo false ts m)).size ≤ 100000000 := by rw [nmB_size]; exact hbm
      have HJ : Hid (joinTo false ts (m + 1) = (joinTo false ts m ++ []) ++ t) := by show (joinTo false ts m ++ (if false = true ∧ 0 < m then [124] else [])) ++ ts.getD m [] = _; rw [htg]; simp
      have hz3 : (nmB (joinTo false ts m) ++ nmB []).size ≤ 100000000 := by rw [nmB_appT, List.append_nil]; exact hz2
      clear htg htl hbm
      go_wp2_with fail
      refine (hw m c t ec et b p _ (hp.keep (hWk.trans hkr) (by simp)) (hinv.keep (hWk.trans hkr) sub_nil)).mono ?_
      rintro e w2 ⟨rfl, hk2⟩
      go_wp2_with fail
      go_roundw
      case rel => exact ⟨m + 1, by omega, by go_num, by rw [HJ.out, List.append_nil, ← nmB_appT], hkr.trans hk2⟩
      case measure => simp [intOf]; omega
    · have hme : m = ts.length := by have := HL.out; omega
      subst hme
      have hmi : ¬ ((ts.length : Nat) : Int) < (nd.kids.length : Int) := by have := HL.out; omega
      have hz2 : (nmB (joinTo false ts ts.length)).size ≤ 100000000 := by rw [nmB_size]; exact hbm
      have r1 := (Keeps.cell hkr e1)
      have r2 := (Keeps.cell hkr e2)
      have r3 := (Keeps.cell hkr e3)
      have r4 := (Keeps.cell hkr e4)
      have HN : Hid (nodeT nd ts = joinTo false ts ts.length ++ repT nd.mn nd.mx) := by show nodeT nd ts = _; unfold nodeT; rw [if_neg (by rw [HK.out]; decide), if_neg (by rw [HK.out]; decide), if_pos HK.out]
      have hz4 : (nmB (repT nd.mn nd.mx)).size ≤ 5 := by rw [nmB_size]; exact repT_len _ _
      obtain ⟨q5, q6, q7⟩ := h5 HK.out
      go_wp2_with fail
      refine (times_any 114 _ _ _ nd.mn nd.mx q5 q6 q7 rfl rfl _).mono ?_
      rintro e w2 ⟨rfl, hk2⟩
      go_wp2_with fail
      go_ret
      exact ⟨ret_str (by rw [HN.out, ← nmB_appT]), (hWk.trans hkr).trans hk2⟩

end Go.Proofs.YtnfojonmohijpaaGreatDoor

/-
  DERIVED. The contract of the reference's 'write' at a node of kind 119. Conditions: the nodes lie as they should, the parts are written as claimed, no text is longer than a hundred million bytes.
-/
namespace Go.Proofs.YtnfojonmohijpaaGreatDoor
open Go.RowKit

set_option maxRecDepth 100000 in
set_option maxHeartbeats 2000000 in
theorem write_119 (nds : List Nd) (hn : nds.length ≤ 1000) (k : Nat) (nd : Nd) (hk : nds[k]? = some nd) (ts : List (List UInt8)) (hl : ts.length = nd.kids.length) (hw : ∀ (i c : Nat) (t : List UInt8), nd.kids[i]? = some c → ts[i]? = some t → Writes nds c t)
    (hB : ∀ bar m, m ≤ ts.length → (joinTo bar ts m).length ≤ 100000000) (hT : ∀ i, (ts.getD i []).length ≤ 100000000) (hkl : nd.kids.length ≤ 1000)
    (hkind : nd.kind = 119) (h5 : nd.kind = 114 → nd.mn ≤ 5 ∧ -1 ≤ nd.mx ∧ nd.mx ≤ 5) : Writes nds k (nodeT nd ts) := by
  intro b p w hp hinv
  obtain ⟨g, cap, hv, kv, hform, hkn, hH, hK, c0, c1, c2, c3, c4, c5⟩ := hinv.node hk
  have HK : Hid (nd.kind = 119) := hkind
  rw [hkind] at c0
  obtain ⟨n1, _⟩ := hp.nodes
  rw [hform] at n1
  obtain ⟨hva, hvn, hvc, rfl⟩ := hH.1
  obtain ⟨ka, kc, rfl, hkid⟩ := hK.form
  have hk0 : (0 : Int) ≤ (k : Int) := by omega
  have hk1 : (k : Int) < (nds.length : Int) := by omega
  have hk2 : (nds.length : Int) ≤ 1000 := by omega
  have hWk := (Keeps.refl [] w).alloc (.cells #[.int .u8 119, .slice hva hvn hvc, .int .i64 nd.n, .int .i64 nd.mn, .int .i64 nd.mx, .slice ka nd.kids.length kc] 157)
  have hnew := heap_alloc_new w (.cells #[.int .u8 119, .slice hva hvn hvc, .int .i64 nd.n, .int .i64 nd.mn, .int .i64 nd.mx, .slice ka nd.kids.length kc] 157)
  have hmk0 : (nd.kids.length : Int) ≤ 1000 := by omega
  have HL : Hid (ts.length = nd.kids.length) := hl
  clear hkind hform hH hK hkn hk hl
  go_enter Tryz.func71, Tryz.ntmps71
  go_wp2_with fail
  clear c0 c1 c2 c3 c4 c5 n1
  generalize (w.alloc (.cells #[.int .u8 119, .slice hva hvn hvc, .int .i64 nd.n, .int .i64 nd.mn, .int .i64 nd.mx, .slice ka nd.kids.length kc] 157)) = W at *
  obtain ⟨N, hN⟩ : ∃ N, N = w.heap.size := ⟨_, rfl⟩
  rw [← hN] at hnew ⊢
  clear hN
  have e0 : W.cell? ⟨N, 0, none⟩ = some (.int .u8 119) := by simp [World.cell?, hnew]
  have e1 : W.cell? ⟨N, 1, none⟩ = some (.slice hva hvn hvc) := by simp [World.cell?, hnew]
  have e2 : W.cell? ⟨N, 2, none⟩ = some (.int .i64 nd.n) := by simp [World.cell?, hnew]
  have e3 : W.cell? ⟨N, 3, none⟩ = some (.int .i64 nd.mn) := by simp [World.cell?, hnew]
  have e4 : W.cell? ⟨N, 4, none⟩ = some (.int .i64 nd.mx) := by simp [World.cell?, hnew]
  have e5 : W.cell? ⟨N, 5, none⟩ = some (.slice ka nd.kids.length kc) := by simp [World.cell?, hnew]
  clear hnew
  go_loopw [6, 7] (fun o q wr => ∃ m : Nat, m ≤ nd.kids.length ∧ q = .int .i64 m ∧ o = .string (nmB (joinTo false ts m)) ∧ Keeps [] W wr) (fun _ q _ => nd.kids.length - (intOf q).toNat)
  case atStart => exact ⟨0, Nat.zero_le _, rfl, rfl, Keeps.refl _ _⟩
  case round =>
    obtain ⟨m, hm, rfl, rfl, hkr⟩ := hrel
    have r0 := (Keeps.cell hkr e0)
    have r5 := (Keeps.cell hkr e5)
    have hbm := hB false m (by have := HL.out; omega)
    by_cases hml : m < nd.kids.length
    · have hmi : (m : Int) < (nd.kids.length : Int) := by omega
      have hmj : (0 : Int) ≤ (m : Int) := by omega
      have hmk : (nd.kids.length : Int) ≤ 1000 := by omega
      obtain ⟨kb, rfl, hkc⟩ := hkid m hml
      have ec : nd.kids[m]? = some (nd.kids[m]'hml) := List.getElem?_eq_getElem hml
      have et : ts[m]? = some (ts[m]'(by have := HL.out; omega)) := List.getElem?_eq_getElem (by have := HL.out; omega)
      have hrk := Keeps.cell (hWk.trans hkr) hkc
      have htl := hT m
      have htg : ts.getD m [] = ts[m]'(by have := HL.out; omega) := by rw [List.getD_eq_getElem?_getD, et]; rfl
      rw [htg] at htl
      generalize (nd.kids[m]'hml) = c at *
      generalize (ts[m]'(by have := HL.out; omega)) = t at *
      have hz1 : (nmB t).size ≤ 100000000 := by rw [nmB_size]; exact htl
      have hz2 : (nmB (joinTo false ts m)).size ≤ 100000000 := by rw [nmB_size]; exact hbm
      have HJ : Hid (joinTo false ts (m + 1) = (joinTo false ts m ++ []) ++ t) := by show (joinTo false ts m ++ (if false = true ∧ 0 < m then [124] else [])) ++ ts.getD m [] = _; rw [htg]; simp
      have hz3 : (nmB (joinTo false ts m) ++ nmB []).size ≤ 100000000 := by rw [nmB_appT, List.append_nil]; exact hz2
      clear htg htl hbm
      go_wp2_with fail
      refine (hw m c t ec et b p _ (hp.keep (hWk.trans hkr) (by simp)) (hinv.keep (hWk.trans hkr) sub_nil)).mono ?_
      rintro e w2 ⟨rfl, hk2⟩
      go_wp2_with fail
      go_roundw
      case rel => exact ⟨m + 1, by omega, by go_num, by rw [HJ.out, List.append_nil, ← nmB_appT], hkr.trans hk2⟩
      case measure => simp [intOf]; omega
    · have hme : m = ts.length := by have := HL.out; omega
      subst hme
      have hmi : ¬ ((ts.length : Nat) : Int) < (nd.kids.length : Int) := by have := HL.out; omega
      have hz2 : (nmB (joinTo false ts ts.length)).size ≤ 100000000 := by rw [nmB_size]; exact hbm
      have r1 := (Keeps.cell hkr e1)
      have r2 := (Keeps.cell hkr e2)
      have r3 := (Keeps.cell hkr e3)
      have r4 := (Keeps.cell hkr e4)
      have HN : Hid (nodeT nd ts = joinTo false ts ts.length) := by show nodeT nd ts = _; unfold nodeT; rw [if_neg (by rw [HK.out]; decide), if_neg (by rw [HK.out]; decide), if_neg (by rw [HK.out]; decide), HK.out]; rfl
      go_wp2_with fail
      go_ret
      exact ⟨ret_str (by rw [HN.out]), hWk.trans hkr⟩

end Go.Proofs.YtnfojonmohijpaaGreatDoor

/-
  DERIVED. The contract of the reference's 'write' at a node of kind 111. Conditions: the nodes lie as they should, the parts are written as claimed, no text is longer than a hundred million bytes.
-/
namespace Go.Proofs.YtnfojonmohijpaaGreatDoor
open Go.RowKit

set_option maxRecDepth 100000 in
set_option maxHeartbeats 2000000 in
theorem write_111 (nds : List Nd) (hn : nds.length ≤ 1000) (k : Nat) (nd : Nd) (hk : nds[k]? = some nd) (ts : List (List UInt8)) (hl : ts.length = nd.kids.length) (hw : ∀ (i c : Nat) (t : List UInt8), nd.kids[i]? = some c → ts[i]? = some t → Writes nds c t)
    (hB : ∀ bar m, m ≤ ts.length → (joinTo bar ts m).length ≤ 100000000) (hT : ∀ i, (ts.getD i []).length ≤ 100000000) (hkl : nd.kids.length ≤ 1000)
    (hkind : nd.kind = 111) (h5 : nd.kind = 114 → nd.mn ≤ 5 ∧ -1 ≤ nd.mx ∧ nd.mx ≤ 5) : Writes nds k (nodeT nd ts) := by
  intro b p w hp hinv
  obtain ⟨g, cap, hv, kv, hform, hkn, hH, hK, c0, c1, c2, c3, c4, c5⟩ := hinv.node hk
  have HK : Hid (nd.kind = 111) := hkind
  rw [hkind] at c0
  obtain ⟨n1, _⟩ := hp.nodes
  rw [hform] at n1
  obtain ⟨hva, hvn, hvc, rfl⟩ := hH.1
  obtain ⟨ka, kc, rfl, hkid⟩ := hK.form
  have hk0 : (0 : Int) ≤ (k : Int) := by omega
  have hk1 : (k : Int) < (nds.length : Int) := by omega
  have hk2 : (nds.length : Int) ≤ 1000 := by omega
  have hWk := (Keeps.refl [] w).alloc (.cells #[.int .u8 111, .slice hva hvn hvc, .int .i64 nd.n, .int .i64 nd.mn, .int .i64 nd.mx, .slice ka nd.kids.length kc] 157)
  have hnew := heap_alloc_new w (.cells #[.int .u8 111, .slice hva hvn hvc, .int .i64 nd.n, .int .i64 nd.mn, .int .i64 nd.mx, .slice ka nd.kids.length kc] 157)
  have hmk0 : (nd.kids.length : Int) ≤ 1000 := by omega
  have HL : Hid (ts.length = nd.kids.length) := hl
  clear hkind hform hH hK hkn hk hl
  go_enter Tryz.func71, Tryz.ntmps71
  go_wp2_with fail
  clear c0 c1 c2 c3 c4 c5 n1
  generalize (w.alloc (.cells #[.int .u8 111, .slice hva hvn hvc, .int .i64 nd.n, .int .i64 nd.mn, .int .i64 nd.mx, .slice ka nd.kids.length kc] 157)) = W at *
  obtain ⟨N, hN⟩ : ∃ N, N = w.heap.size := ⟨_, rfl⟩
  rw [← hN] at hnew ⊢
  clear hN
  have e0 : W.cell? ⟨N, 0, none⟩ = some (.int .u8 111) := by simp [World.cell?, hnew]
  have e1 : W.cell? ⟨N, 1, none⟩ = some (.slice hva hvn hvc) := by simp [World.cell?, hnew]
  have e2 : W.cell? ⟨N, 2, none⟩ = some (.int .i64 nd.n) := by simp [World.cell?, hnew]
  have e3 : W.cell? ⟨N, 3, none⟩ = some (.int .i64 nd.mn) := by simp [World.cell?, hnew]
  have e4 : W.cell? ⟨N, 4, none⟩ = some (.int .i64 nd.mx) := by simp [World.cell?, hnew]
  have e5 : W.cell? ⟨N, 5, none⟩ = some (.slice ka nd.kids.length kc) := by simp [World.cell?, hnew]
  clear hnew
  go_loopw [6, 7] (fun o q wr => ∃ m : Nat, m ≤ nd.kids.length ∧ q = .int .i64 m ∧ o = .string (nmB (joinTo true ts m)) ∧ Keeps [] W wr) (fun _ q _ => nd.kids.length - (intOf q).toNat)
  case atStart => exact ⟨0, Nat.zero_le _, rfl, rfl, Keeps.refl _ _⟩
  case round =>
    obtain ⟨m, hm, rfl, rfl, hkr⟩ := hrel
    have r0 := (Keeps.cell hkr e0)
    have r5 := (Keeps.cell hkr e5)
    have hbm := hB true m (by have := HL.out; omega)
    by_cases hml : m < nd.kids.length
    · have hmi : (m : Int) < (nd.kids.length : Int) := by omega
      have hmj : (0 : Int) ≤ (m : Int) := by omega
      have hmk : (nd.kids.length : Int) ≤ 1000 := by omega
      obtain ⟨kb, rfl, hkc⟩ := hkid m hml
      have ec : nd.kids[m]? = some (nd.kids[m]'hml) := List.getElem?_eq_getElem hml
      have et : ts[m]? = some (ts[m]'(by have := HL.out; omega)) := List.getElem?_eq_getElem (by have := HL.out; omega)
      have hrk := Keeps.cell (hWk.trans hkr) hkc
      have htl := hT m
      have htg : ts.getD m [] = ts[m]'(by have := HL.out; omega) := by rw [List.getD_eq_getElem?_getD, et]; rfl
      rw [htg] at htl
      generalize (nd.kids[m]'hml) = c at *
      generalize (ts[m]'(by have := HL.out; omega)) = t at *
      have hz1 : (nmB t).size ≤ 100000000 := by rw [nmB_size]; exact htl
      have hz2 : (nmB (joinTo true ts m)).size ≤ 100000000 := by rw [nmB_size]; exact hbm
      by_cases hm0 : m = 0
      · have hmz : ¬ (0 : Int) < (m : Int) := by omega
        have HJ : Hid (joinTo true ts (m + 1) = (joinTo true ts m ++ []) ++ t) := by show (joinTo true ts m ++ (if true = true ∧ 0 < m then [124] else [])) ++ ts.getD m [] = _; rw [htg, if_neg (by omega)]
        clear htg htl hbm hm0
        go_wp2_with fail
        refine (hw m c t ec et b p _ (hp.keep (hWk.trans hkr) (by simp)) (hinv.keep (hWk.trans hkr) sub_nil)).mono ?_
        rintro e w2 ⟨rfl, hk2⟩
        go_wp2_with fail
        go_roundw
        case rel => exact ⟨m + 1, by omega, by go_num, by rw [HJ.out, List.append_nil, ← nmB_appT], hkr.trans hk2⟩
        case measure => simp [intOf]; omega
      · have hmz : (0 : Int) < (m : Int) := by omega
        have HJ : Hid (joinTo true ts (m + 1) = (joinTo true ts m ++ [124]) ++ t) := by show (joinTo true ts m ++ (if true = true ∧ 0 < m then [124] else [])) ++ ts.getD m [] = _; rw [htg, if_pos ⟨rfl, by omega⟩]
        have hz3 : (nmB (joinTo true ts m) ++ nmB [124]).size ≤ 100000001 := by rw [nmB_appT, nmB_size, List.length_append]; simp; omega
        clear htg htl hbm hm0
        go_wp2_with fail
        refine (hw m c t ec et b p _ (hp.keep (hWk.trans hkr) (by simp)) (hinv.keep (hWk.trans hkr) sub_nil)).mono ?_
        rintro e w2 ⟨rfl, hk2⟩
        go_wp2_with fail
        go_roundw
        case rel => exact ⟨m + 1, by omega, by go_num, by rw [HJ.out, ← nmB_appT, ← nmB_appT]; rfl, hkr.trans hk2⟩
        case measure => simp [intOf]; omega
    · have hme : m = ts.length := by have := HL.out; omega
      subst hme
      have hmi : ¬ ((ts.length : Nat) : Int) < (nd.kids.length : Int) := by have := HL.out; omega
      have hz2 : (nmB (joinTo true ts ts.length)).size ≤ 100000000 := by rw [nmB_size]; exact hbm
      have r1 := (Keeps.cell hkr e1)
      have r2 := (Keeps.cell hkr e2)
      have r3 := (Keeps.cell hkr e3)
      have r4 := (Keeps.cell hkr e4)
      have HN : Hid (nodeT nd ts = joinTo true ts ts.length) := by show nodeT nd ts = _; unfold nodeT; rw [if_neg (by rw [HK.out]; decide), if_neg (by rw [HK.out]; decide), if_neg (by rw [HK.out]; decide), HK.out]; rfl
      go_wp2_with fail
      go_ret
      exact ⟨ret_str (by rw [HN.out]), hWk.trans hkr⟩

end Go.Proofs.YtnfojonmohijpaaGreatDoor
