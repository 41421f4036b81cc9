/-
  DERIVED. The program's readRules, walked. Conditions: the rules lie in memory, the variable classNames holds the seven names.
-/
import Derived.Test.YtnfojonmohijpabGreatDoorJNQ
set_option linter.unusedSimpArgs false
set_option linter.unusedVariables false
namespace Go.Proofs.YtnfojonmohijpabGreatDoor
open Go.RowKit
def P3r (w : World) (b : Nat) (r : Rul) : Prop := w.heap[b]? = some (.cells #[.string r.nm, .string r.pt, .bool r.sk] 28 (0, 0))
theorem P3r.main {w : World} {b : Nat} {r : Rul} (h : P3r w b r) : w.cell? ⟨b, 0, none⟩ = some (.string r.nm) ∧ w.cell? ⟨b, 1, none⟩ = some (.string r.pt) ∧ w.cell? ⟨b, 2, none⟩ = some (.bool r.sk) := by
 unfold P3r at h
 simp [World.cell?, h]
theorem P3r.lt {w : World} {b : Nat} {r : Rul} (h : P3r w b r) : b < w.heap.size := (Array.getElem?_eq_some_iff.1 h).1
theorem P3r.keep {w w' : World} {b : Nat} {r : Rul} {S : List Nat} (h : P3r w b r) (hk : Keeps S w w') (hb : b ∉ S) : P3r w' b r := (hk.block b h.lt hb).trans h
theorem infoRu3 (a b c : Value) : (Tryz.prog.info? 28).map (·.size) = some (#[a, b, c] : Array Value).size := by kernel_rfl
theorem three_one (a b : ByteArray) (c : Bool) : (#[.string a, .string b, .bool c] : Array Value).all (·.oneCell') = true := by
 have h1 : ∀ b, (Value.bool b).oneCell' = true := fun _ => rfl
 have h2 : ∀ b, (Value.string b).oneCell' = true := fun _ => rfl
 simp [h1, h2]
theorem ruV_one {W : Whole} {u : Value} {b : Bool} (hu : u.oneCell' = true) : ∀ x ∈ ruV W u b, x.oneCell' = true := by
 intro x hx
 simp only [ruV, List.mem_cons, List.not_mem_nil, or_false] at hx
 rcases hx with rfl | rfl | rfl | rfl | rfl
 ·rfl
 ·rfl
 ·exact hu
 ·rfl
 ·rfl
def RrPost (rs : List Rul) (w : World) (e : Ending) (w' : World) : Prop :=
 Keeps [] w w' ∧ ∃ v n Ws, e = .returned (.tuple #[v, .int .i64 n]) ∧ RulesA rs Ws n ∧ ((n ≠ 0 ∧ v = .slice none 0 0) ∨ (n = 0 ∧ ∃ cs, RuM w' (fun z => w.heap.size ≤ z) rs v cs Ws ∧ ∀ g, v.ownBlock = some g → w.heap.size ≤ g))
set_option maxRecDepth 100000 in
set_option maxHeartbeats 8000000 in
theorem readRules_any (v : Value) (rs : List Rul) (w : World) (hr : RulIs w v rs) (hgn : GN w) : Calls Tryz.prog 17 #[v] w (RrPost rs w) := by
 have hlen := hr.len
 have hlen' : (rs.length : Int) ≤ 9223372036854775807 := by omega
 have hcase : (∃ a c n, v = .slice a n c ∧ n = rs.length ∧ (n = 0 ∨ 8 < n)) ∨ ∃ g o c, v = .slice (some ⟨g, o, none⟩) rs.length c ∧ RuC w g o rs ∧ (rs.length ≤ c ∧ c ≤ 9223372036854775807) ∧ 1 ≤ rs.length ∧ rs.length ≤ 8 := by
  rcases hr.rd with ⟨rfl, a, c, rfl⟩ | ⟨g, o, c, rfl, h, hcap⟩
  ·exact Or.inl ⟨a, c, 0, rfl, rfl, Or.inl rfl⟩
  ·by_cases h1 : rs.length = 0 ∨ 8 < rs.length
   ·exact Or.inl ⟨_, c, _, rfl, rfl, h1⟩
   ·exact Or.inr ⟨g, o, c, rfl, h, hcap, by omega, by omega⟩
 rcases hcase with ⟨a, c, n, rfl, hn, h⟩ | ⟨g, o, c, rfl, hc, hcap, h1, h8⟩
 ·have HA : Hid (RulesA rs [] 4) := Or.inl ⟨by omega, rfl, rfl⟩
  have hn' : (n : Int) ≤ 9223372036854775807 := by omega
  clear hlen hlen' hr hn
  rcases h with rfl | h
  ·go_enter Tryz.func17, Tryz.ntmps17
   go_wp2_with fail
   go_ret2
   exact ⟨Keeps.refl _ _, _, 4, [], rfl, HA.out, Or.inl ⟨by decide, rfl⟩⟩
  ·have d0 : ((n : Int) == 0) = false := by simp; omega
   have d8 : decide ((8 : Int) < (n : Int)) = true := by simp; omega
   have d8' : (8 : Int) < (n : Int) := by omega
   clear h
   go_enter Tryz.func17, Tryz.ntmps17
   go_wp2_with fail
   go_ret2
   exact ⟨Keeps.refl _ _, _, 4, [], rfl, HA.out, Or.inl ⟨by decide, rfl⟩⟩
 obtain ⟨n, hn⟩ : ∃ n, n = rs.length := ⟨_, rfl⟩
 rw [← hn] at h1 h8 hlen hlen' hcap ⊢
 have hcn : (n : Int) ≤ (c : Int) := by omega
 have hcm : (c : Int) ≤ 9223372036854775807 := by omega
 have HN : Hid (n = rs.length ∧ 1 ≤ n ∧ n ≤ 8) := ⟨hn, h1, h8⟩
 have d0 : ((n : Int) == 0) = false := by simp; omega
 have d8 : decide ((8 : Int) < (n : Int)) = false := by simp; omega
 have d8' : (n : Int) ≤ 8 := by omega
 have d8n : ¬ (8 : Int) < (n : Int) := by omega
 clear hlen hlen' hr hn h1 h8 hcap
 go_enter Tryz.func17, Tryz.ntmps17
 go_wp2_with fail
 go_loopw [4, 21] (fun q4 q wr => ∃ (i : Nat) (cs : List Value) (Ws : List Whole), q = .int .i64 i ∧ i ≤ n ∧ i = Ws.length ∧ RuM wr (fun z => w.heap.size ≤ z) rs q4 cs Ws ∧ (∀ g, q4.ownBlock = some g → w.heap.size ≤ g) ∧ Keeps [] w wr) (fun _ q _ => n - (intOf q).toNat)
 case atStart => exact ⟨0, [], [], rfl, Nat.zero_le _, rfl, RuM.zero _ _ _, (fun g h => by cases h), Keeps.refl _ _⟩
 case round =>
  obtain ⟨i, cs, Ws, rfl, hi, hiW, hM, hfr, hK⟩ := hrel
  by_cases hlt : i < n
  rotate_left
  ·have hni : ¬ (i : Int) < (n : Int) := by omega
   have HE : Hid (RulesA rs Ws 0) := Or.inr ⟨by have := HN.out; omega, by have := HN.out; omega, Or.inr ⟨rfl, by have := HN.out; omega, fun k W hW => (hM.parts k W hW).1⟩⟩
   obtain ⟨xa, xn, xc, rfl⟩ := ownsRow_sl hM.own
   clear hlt hi hiW
   go_wp2_with fail
   go_ret2
   exact ⟨hK, _, 0, Ws, rfl, HE.out, Or.inr ⟨rfl, cs, hM, hfr⟩⟩
  obtain ⟨r, hri⟩ : ∃ r, rs[i]? = some r := ⟨_, List.getElem?_eq_getElem (by have := HN.out; omega)⟩
  have hcr := hc.keep hK (by simp)
  have hrg := hcr i r hri
  have hg0 : g < wr.heap.size := World.block_lt_of_cell? _ _ (hrg 0 _ rfl)
  have hgr := hgn.keep hK (by simp)
  have hi0 : (0 : Int) ≤ (i : Int) := by omega
  have hin : (i : Int) < (n : Int) := by omega
  have HI : Hid (i < n ∧ i = Ws.length) := ⟨hlt, hiW⟩
  have HR : Hid (rs[i]? = some r) := hri
  have HB : Hid (∀ z, RlBad rs i z → z ≠ 0 → RulesA rs [] z) := fun z hz h0 => Or.inr ⟨by have := HN.out; omega, by have := HN.out; omega, Or.inl ⟨i, fun k hk => ⟨_, (hM.parts k _ (List.getElem?_eq_getElem (by omega))).1⟩, hz, rfl, h0⟩⟩
  obtain ⟨xa, xn, xc, rfl⟩ := ownsRow_sl hM.own
  have hi2 : (Tryz.prog.info? 28).map (·.size) = some 3 := by kernel_rfl
  have hz0 : (wr.alloc (.cells #[.string ⟨#[]⟩, .string ⟨#[]⟩, .bool false] 28)).heap[wr.heap.size]? = some (.cells #[.string ⟨#[]⟩, .string ⟨#[]⟩, .bool false] 28 (0, 0)) := heap_alloc_new wr _
  have hk6 : Keeps [] wr ((wr.alloc (.cells #[.string ⟨#[]⟩, .string ⟨#[]⟩, .bool false] 28)).setRow wr.heap.size #[.string r.nm, .string r.pt, .bool r.sk]) := ((Keeps.refl [] wr).alloc _).setRow (Or.inr (Nat.le_refl _)) _
  have hP6 : P3r ((wr.alloc (.cells #[.string ⟨#[]⟩, .string ⟨#[]⟩, .bool false] 28)).setRow wr.heap.size #[.string r.nm, .string r.pt, .bool r.sk]) wr.heap.size r := setRow_heap _ _ _ _ _ _ hz0
  have hin8 : i ≤ 8 := by have := HN.out; omega
  have hirs : i ≤ rs.length := by have := HN.out; omega
  clear hri hlt hi hiW
  go_upto_region 7 with (first | (refine wpList_load_mid rfl 28 _ rfl g (o + i * 3) rfl _ _ hrg Tryz.underlying28 rfl hi2 ?_) | (refine wpList_store_row rfl 28 _ _ rfl wr.heap.size #[.string r.nm, .string r.pt, .bool r.sk] rfl rfl _ _ hz0 (infoRu3 _ _ _) rfl (three_one _ _ _) ?_; generalize (wr.alloc (.cells #[.string ⟨#[]⟩, .string ⟨#[]⟩, .bool false] 28)).setRow wr.heap.size #[.string r.nm, .string r.pt, .bool r.sk] = w6 at *))
  obtain ⟨b6, hb6⟩ : ∃ b, wr.heap.size = b := ⟨_, rfl⟩
  rw [hb6] at hP6 ⊢
  have hc6 := hcr.keep hk6 (by simp)
  have hM6 := hM.keep hk6
  have hic : (i : Int) ≤ (c : Int) := by omega
  have hic' : i ≤ c := by omega
  have hCk : Hid (∀ X, RuC X g o rs → Calls Tryz.prog 29 #[.string r.nm, .slice (some ⟨g, o, none⟩) i c] X fun e w' => ∃ z : Int, e = .returned (.int .i64 z) ∧ ((¬ NameOk r.nm ∧ z = 4) ∨ (NameOk r.nm ∧ ¬ Fresh rs i r.nm ∧ z = 5) ∨ (NameOk r.nm ∧ Fresh rs i r.nm ∧ z = 0)) ∧ Keeps [] X w') := fun X hX => checkName_any rs r.nm i g o c hirs hin8 X hX
  have hkD : Keeps [] w6 w6.drew := (Keeps.refl [] w6).drewN 1
  have hS0 : P3r w6.drew b6 r ∧ RuC w6.drew g o rs ∧ Keeps [] w6 w6.drew := ⟨hP6.keep hkD (by simp), hc6.keep hkD (by simp), hkD⟩
  clear hcr hrg hz0 hin8 hirs hb6
  refine wp_region_held (S := fun X => P3r X b6 r ∧ RuC X g o rs ∧ Keeps [] w6 X) (by kernel_rfl) ?_
  change wpAnyH _ _ _ _ _ _ _ _ (World.drew _)
  generalize w6.drew = X0 at *
  refine wpAnyH_tk 0 _ (some 26) (.pointer (some ⟨b6, 0, none⟩)) rfl rfl (by kernel_rfl) (by kernel_rfl) (by kernel_rfl) (fun _ _ _ h => h) (Or.inl ⟨by rfl, fun X hX => by go_simp⟩) hS0 ?_
  simp only [Act.put, List.setIfInBounds_toArray, List.set_cons_zero, List.set_cons_succ]
  refine wpAnyH_tk 1 _ (some 27) (.string r.nm) rfl rfl (by kernel_rfl) (by kernel_rfl) (by kernel_rfl) (fun _ _ _ h => h) (Or.inl ⟨by rfl, fun X hX => by (obtain ⟨q0, q1, q2⟩ := hX.1.main; go_simp)⟩) hS0 ?_
  simp only [Act.put, List.setIfInBounds_toArray, List.set_cons_zero, List.set_cons_succ]
  refine wpAnyH_tk 2 _ (some 28) (.slice (some ⟨g, o, none⟩) n c) rfl rfl (by kernel_rfl) (by kernel_rfl) (by kernel_rfl) (fun _ _ _ h => h) (Or.inl ⟨by rfl, fun X hX => by go_simp⟩) hS0 ?_
  simp only [Act.put, List.setIfInBounds_toArray, List.set_cons_zero, List.set_cons_succ]
  refine wpAnyH_tk 3 _ (some 29) (.int .i64 i) rfl rfl (by kernel_rfl) (by kernel_rfl) (by kernel_rfl) (fun _ _ _ h => h) (Or.inl ⟨by rfl, fun X hX => by go_simp⟩) hS0 ?_
  simp only [Act.put, List.setIfInBounds_toArray, List.set_cons_zero, List.set_cons_succ]
  refine wpAnyH_tk 4 _ (some 30) (.slice (some ⟨g, o, none⟩) i c) rfl rfl (by kernel_rfl) (by kernel_rfl) (by kernel_rfl) (fun _ _ _ h => h) (Or.inl ⟨by rfl, fun X hX => by go_simp⟩) hS0 ?_
  simp only [Act.put, List.setIfInBounds_toArray, List.set_cons_zero, List.set_cons_succ]
  refine wpAnyH_ready (rs := [5]) (by kernel_rfl) (by simp) ?_
  refine AllReadyH.cons rfl (fun K hKK => ?_) AllReadyH.nil
  go_simp
  refine (hCk.out X0 hS0.2.1).mono ?_
  rintro e w7 ⟨z, rfl, hz, hk7⟩
  have hS1 : P3r w7 b6 r ∧ RuC w7 g o rs ∧ Keeps [] w6 w7 := ⟨hS0.1.keep hk7 (by simp), hS0.2.1.keep hk7 (by simp), hS0.2.2.trans hk7⟩
  refine hKK.out _ _ hS1 (fun _ => ?_)
  clear hKK K
  refine wpAnyH_tk 6 _ (some 7) (.int .i64 z) rfl rfl (by kernel_rfl) (by kernel_rfl) (by kernel_rfl) (fun _ _ _ h => h) (Or.inl ⟨by rfl, fun X hX => by go_simp⟩) hS1 ?_
  simp only [Act.put, List.setIfInBounds_toArray, List.set_cons_zero, List.set_cons_succ]
  refine wpAnyH_done (by kernel_rfl) ?_ _
  obtain ⟨hP7, hc7, hk67⟩ := hS1
  have hkw7 : Keeps [] w w7 := (hK.trans hk6).trans hk67
  have hM7 := hM6.keep hk67
  clear hS0 hkD hk7 hk67 hk6 hM6 hc6 hP6 hCk hM
  rcases hz with ⟨hz, rfl⟩ | ⟨hz1, hz2, rfl⟩ | ⟨hz1, hz2, rfl⟩
  ·have HE : Hid (RulesA rs [] 4) := HB.out 4 ⟨r, HR.out, Or.inl ⟨hz, rfl⟩⟩ (by decide)
   clear hz hP7 hc7 hM7
   go_wp2_with fail
   go_ret2
   exact ⟨hkw7, _, 4, [], rfl, HE.out, Or.inl ⟨by decide, rfl⟩⟩
  ·have HE : Hid (RulesA rs [] 5) := HB.out 5 ⟨r, HR.out, Or.inr (Or.inl ⟨hz1, hz2, rfl⟩)⟩ (by decide)
   clear hz1 hz2 hP7 hc7 hM7
   go_wp2_with fail
   go_ret2
   exact ⟨hkw7, _, 5, [], rfl, HE.out, Or.inl ⟨by decide, rfl⟩⟩
  have HZ : Hid (NameOk r.nm ∧ Fresh rs i r.nm) := ⟨hz1, hz2⟩
  have hg7 := hgn.keep hkw7 (by simp)
  obtain ⟨q0, q1, q2⟩ := hP7.main
  clear hz1 hz2 hc7
  go_wp2_with fail
  refine (readPattern_prog r.pt w7 hg7).mono ?_
  rintro e w8 ⟨hk8, hc8⟩
  have hC : (∃ x y : Int, y ≠ 0 ∧ e = .returned (.tuple #[.agg #[.bool false, .bool false, .slice none 0 0, .int .i64 0], .int .i64 x, .int .i64 y]) ∧ RlBad rs i y) ∨
      ∃ W v, e = .returned (.tuple #[.agg #[.bool W.bg, .bool W.en, v, .int .i64 W.g], .int .i64 0, .int .i64 0]) ∧ v.oneCell' = true ∧ Rep w8 (fun z => w7.heap.size ≤ z) .ways W.x [v] ∧ RlOk rs i W := by
   rcases hc8 with ⟨hl, he⟩ | ⟨hs, q, hq, h⟩
   ·exact Or.inl ⟨0, 1, by decide, he, r, HR.out, Or.inr (Or.inr ⟨HZ.out.1, HZ.out.2, Or.inl ⟨hl, rfl⟩⟩)⟩
   ·cases q with
    | bad j => exact Or.inl ⟨j, 2, by decide, h, r, HR.out, Or.inr (Or.inr ⟨HZ.out.1, HZ.out.2, Or.inr ⟨hs, ⟨j, hq⟩, rfl⟩⟩)⟩
    | ok W j =>
     obtain ⟨v, he, hv, hrep⟩ := h
     exact Or.inr ⟨W, v, he, hv, hrep, r, HR.out, HZ.out.1, HZ.out.2, hs, j, hq⟩
  have hy0 : (w8.alloc (.cells #[.bool false, .bool false, .slice none 0 0, .int .i64 0] 58)).heap[w8.heap.size]? = some (.cells #[.bool false, .bool false, .slice none 0 0, .int .i64 0] 58 (0, 0)) := heap_alloc_new w8 _
  clear hc8 hg7 q0 q1 q2
  rcases hC with ⟨x, y, hy, rfl, hbad⟩ | ⟨W, u, rfl, hu, hrep, hok⟩
  ·have HE : Hid (RulesA rs [] y) := HB.out y hbad hy
   have HY : Hid (y ≠ 0) := hy
   have o4 := four_one (x := false) (y := false) (n := 0) (v := .slice none 0 0) rfl
   have hk9 : Keeps [] w8 ((w8.alloc (.cells #[.bool false, .bool false, .slice none 0 0, .int .i64 0] 58)).setRow w8.heap.size #[.bool false, .bool false, .slice none 0 0, .int .i64 0]) := ((Keeps.refl [] w8).alloc _).setRow (Or.inr (Nat.le_refl _)) _
   have hkE := (hkw7.trans hk8).trans hk9
   have y1 : (y == 0) = false := by simpa using hy
   have y2 : ¬ y = 0 := hy
   clear hbad hy hk9 hP7 hM7 hk8 hkw7
   go_wp2_with (first | (refine wpList_store_row rfl 58 _ _ rfl w8.heap.size _ rfl rfl _ _ hy0 infoPat rfl o4 ?_; generalize (w8.alloc (.cells #[.bool false, .bool false, .slice none 0 0, .int .i64 0] 58)).setRow w8.heap.size #[.bool false, .bool false, .slice none 0 0, .int .i64 0] = w9 at *))
   go_ret2
   exact ⟨hkE, _, y, [], rfl, HE.out, Or.inl ⟨HY.out, rfl⟩⟩
  have o4 := four_one (x := W.bg) (y := W.en) (n := (W.g : Int)) hu
  have hk9 : Keeps [] w8 ((w8.alloc (.cells #[.bool false, .bool false, .slice none 0 0, .int .i64 0] 58)).setRow w8.heap.size #[.bool W.bg, .bool W.en, u, .int .i64 (W.g : Int)]) := ((Keeps.refl [] w8).alloc _).setRow (Or.inr (Nat.le_refl _)) _
  have hrow9 : ((w8.alloc (.cells #[.bool false, .bool false, .slice none 0 0, .int .i64 0] 58)).setRow w8.heap.size #[.bool W.bg, .bool W.en, u, .int .i64 (W.g : Int)]).heap[w8.heap.size]? = some (.cells #[.bool W.bg, .bool W.en, u, .int .i64 (W.g : Int)] 58 (0, 0)) := setRow_heap _ _ _ _ _ _ hy0
  have hk79 := hk8.trans hk9
  have hrep9 := hrep.keep hk9 (by simp)
  have hP9 := hP7.keep hk79 (by simp)
  have hM9 := hM7.keep hk79
  have HOK : Hid (RlOk rs i W) := hok
  clear hrep hok hk8 hk9 hP7
  go_upto_region 13 with (first | (refine wpList_store_row rfl 58 _ _ rfl w8.heap.size _ rfl rfl _ _ hy0 infoPat rfl o4 ?_; generalize (w8.alloc (.cells #[.bool false, .bool false, .slice none 0 0, .int .i64 0] 58)).setRow w8.heap.size #[.bool W.bg, .bool W.en, u, .int .i64 (W.g : Int)] = w9 at *))
  obtain ⟨b8, hb8⟩ : ∃ b, w8.heap.size = b := ⟨_, rfl⟩
  rw [hb8] at hrow9 ⊢
  obtain ⟨q0, q1, q2⟩ := hP9.main
  have hown9 := hM9.own
  rw [← HI.out.2] at hown9
  obtain ⟨i0, hi0', hz0', hz1', hz2'⟩ := info_parts infoTRu
  have hun := Tryz.underlying51
  have hlm : i + 1 ≤ maxLen := by unfold maxLen; have := HI.out; have := HN.out; omega
  have hbt : (i + 1) * 48 ≤ 140737488355328 := by have := HI.out; have := HN.out; omega
  have hH : (w9.alloc (.cells (ruV W u r.sk).toArray 92)).heap.size = w9.heap.size + 1 := by simp
  have hnews : ∀ j x, (ruV W u r.sk)[j]? = some x → (w9.alloc (.cells (ruV W u r.sk).toArray 92)).cell? ((⟨w9.heap.size, 0, none⟩ : Addr).add j) = some x := World.news_of_block (cs := (ruV W u r.sk).toArray) (heap_alloc_new w9 _)
  have hone := ruV_one (W := W) (b := r.sk) hu
  have hbu := built_ru W u r.sk
  clear hb8 hy0 o4 hM9 hP9
  go_wp2_with (first | (refine wpList_load_row rfl 58 _ rfl b8 rfl _ _ _ _ hrow9 Tryz.underlying58 rfl infoPat ?_) | (refine wpList_build2 rfl 92 0 1 (.tmp 46) (.tmp 48) rfl (some 49) rfl _ _ rfl rfl _ hbu ?_) | (refine wpList_ruslice rfl (.tmp 49) rfl (some 50) rfl W u r.sk rfl ?_) | (at_builtin; refine wpList_append_lies _ rfl _ _ _ rfl 0 92 i0 _ 5 48 hun hi0' hz0' hz1' hz2' rfl (by decide) (.slice xa xn xc) i cs rfl (hown9.alloc _) ⟨w9.heap.size, 0, none⟩ 1 1 (ruV W u r.sk) rfl rfl hnews hone (by omega) hlm hbt (Nat.zero_le _) (w9.heap.size + 1) hH ?_))
  intro g' cap w10 hown10 hgrow hat hlt10
  have hk10 : Keeps (Value.slice xa xn xc).ownBlock.toList w9 w10 := ((Keeps.refl _ w9).alloc _).trans (Keeps.ofGrown hgrow)
  have hsk : skO rs i = r.sk := by unfold skO; rw [HR.out]
  have hlo := hkw7.size
  have hM10 := hM7.add hk79 hlo HI.out.2 hsk HOK.out hu hrep9 hown10 hgrow hat
  have hkw10 : Keeps [] w w10 := (hkw7.trans hk79).fresh hk10 (by
    intro y hy
    rw [Option.mem_toList] at hy
    exact Or.inr (hfr y hy))
  have hfr10 : ∀ y, (Value.slice (some ⟨g', 0, none⟩) (i + 1) cap).ownBlock = some y → w.heap.size ≤ y := by
   intro y hy
   cases hy
   rcases hat with h | h
   ·exact hfr _ h
   ·have := hk79.size
    show w.heap.size ≤ g'
    omega
  clear hown10 hgrow hnews hH hone hbu hrow9 hk10 hown9 hM7 hrep9 q0 q1 q2 hat
  go_wp2_with fail
  go_roundw
  case rel => exact ⟨i + 1, _, Ws ++ [W], by go_num, by have := HI.out; omega, by rw [List.length_append, ← HI.out.2]; rfl, hM10, hfr10, hkw10⟩
  case measure => have := HI.out; simp [intOf]; omega
end Go.Proofs.YtnfojonmohijpabGreatDoor
