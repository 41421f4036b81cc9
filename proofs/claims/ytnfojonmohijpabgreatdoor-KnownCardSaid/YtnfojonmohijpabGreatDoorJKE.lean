/-
  DERIVED. The program's readRules, walked. Conditions: the rules lie in memory, the variable classNames holds the seven names.
-/
import Derived.Test.YtnfojonmohijpabGreatDoorJQB
import Derived.Test.YtnfojonmohijpabGreatDoorJBN
import Derived.Test.YtnfojonmohijpabGreatDoorJNS
import Derived.Test.YtnfojonmohijpabGreatDoorJPW
import Derived.Test.YtnfojonmohijpabGreatDoorJOI0
set_option linter.unusedSimpArgs false
set_option linter.unusedVariables false
namespace Go.Proofs.YtnfojonmohijpabGreatDoor
open Go.RowKit
def P3r (w : World) (b : Nat) (r : Rul) : Prop := w.heap[b]? = some (.cells #[.string r.nm, .string r.pt, .bool r.sk] 28 (0, 0))
theorem P3r.main {w : World} {b : Nat} {r : Rul} (h : P3r w b r) : w.cell? ⟨b, 0, none⟩ = some (.string r.nm) ∧ w.cell? ⟨b, 1, none⟩ = some (.string r.pt) ∧ w.cell? ⟨b, 2, none⟩ = some (.bool r.sk) := by
 unfold P3r at h
 simp [World.cell?, h]
theorem P3r.lt {w : World} {b : Nat} {r : Rul} (h : P3r w b r) : b < w.heap.size := (Array.getElem?_eq_some_iff.1 h).1
theorem P3r.keep {w w' : World} {b : Nat} {r : Rul} {S : List Nat} (h : P3r w b r) (hk : Keeps S w w') (hb : b ∉ S) : P3r w' b r := (hk.block b h.lt hb).trans h
theorem infoRu3 (a b c : Value) : (Tryz.prog.info? 28).map (·.size) = some (#[a, b, c] : Array Value).size := by kernel_rfl
theorem three_one (a b : ByteArray) (c : Bool) : (#[.string a, .string b, .bool c] : Array Value).all (·.oneCell') = true := by
 have h1 : ∀ b, (Value.bool b).oneCell' = true := fun _ => rfl
 have h2 : ∀ b, (Value.string b).oneCell' = true := fun _ => rfl
 simp [h1, h2]
theorem ruV_one {W : Whole} {u : Value} {b : Bool} (hu : u.oneCell' = true) : ∀ x ∈ ruV W u b, x.oneCell' = true := by
 intro x hx
 simp only [ruV, List.mem_cons, List.not_mem_nil, or_false] at hx
 rcases hx with rfl | rfl | rfl | rfl | rfl
 ·rfl
 ·rfl
 ·exact hu
 ·rfl
 ·rfl
def RrPost (rs : List Rul) (w : World) (e : Ending) (w' : World) : Prop :=
 Keeps [] w w' ∧ ∃ v n Ws, e = .returned (.tuple #[v, .int .i64 n]) ∧ RulesA rs Ws n ∧ ((n ≠ 0 ∧ v = .slice none 0 0) ∨ (n = 0 ∧ ∃ cs, RuM w' (fun z => w.heap.size ≤ z) rs v cs Ws ∧ ∀ g, v.ownBlock = some g → w.heap.size ≤ g))
set_option maxRecDepth 100000 in
set_option maxHeartbeats 8000000 in
theorem readRules_any (v : Value) (rs : List Rul) (w : World) (hr : RulIs w v rs) (hgn : GN w) : Calls Tryz.prog 17 #[v] w (RrPost rs w) := by
 have hlen := hr.len
 have hlen' : (rs.length : Int) ≤ 9223372036854775807 := by omega
 have hcase : (∃ a c n, v = .slice a n c ∧ n = rs.length ∧ (n = 0 ∨ 8 < n)) ∨ ∃ g o c, v = .slice (some ⟨g, o, none⟩) rs.length c ∧ RuC w g o rs ∧ (rs.length ≤ c ∧ c ≤ 9223372036854775807) ∧ 1 ≤ rs.length ∧ rs.length ≤ 8 := by
  rcases hr.rd with ⟨rfl, a, c, rfl⟩ | ⟨g, o, c, rfl, h, hcap⟩
  ·exact Or.inl ⟨a, c, 0, rfl, rfl, Or.inl rfl⟩
  ·by_cases h1 : rs.length = 0 ∨ 8 < rs.length
   ·exact Or.inl ⟨_, c, _, rfl, rfl, h1⟩
   ·exact Or.inr ⟨g, o, c, rfl, h, hcap, by omega, by omega⟩
 rcases hcase with ⟨a, c, n, rfl, hn, h⟩ | ⟨g, o, c, rfl, hc, hcap, h1, h8⟩
 ·have HA : Hid (RulesA rs [] 4) := Or.inl ⟨by omega, rfl, rfl⟩
  have hn' : (n : Int) ≤ 9223372036854775807 := by omega
  clear hlen hlen' hr hn
  rcases h with rfl | h
  ·go_enter Tryz.func17, Tryz.ntmps17
   go_wp2_with fail
   go_ret2
   exact ⟨Keeps.refl _ _, _, 4, [], rfl, HA.out, Or.inl ⟨by decide, rfl⟩⟩
  ·have d0 : ((n : Int) == 0) = false := by simp; omega
   have d8 : decide ((8 : Int) < (n : Int)) = true := by simp; omega
   have d8' : (8 : Int) < (n : Int) := by omega
   clear h
   go_enter Tryz.func17, Tryz.ntmps17
   go_wp2_with fail
   go_ret2
   exact ⟨Keeps.refl _ _, _, 4, [], rfl, HA.out, Or.inl ⟨by decide, rfl⟩⟩
 obtain ⟨n, hn⟩ : ∃ n, n = rs.length := ⟨_, rfl⟩
 rw [← hn] at h1 h8 hlen hlen' hcap ⊢
 have hcn : (n : Int) ≤ (c : Int) := by omega
 have hcm : (c : Int) ≤ 9223372036854775807 := by omega
 have HN : Hid (n = rs.length ∧ 1 ≤ n ∧ n ≤ 8) := ⟨hn, h1, h8⟩
 have d0 : ((n : Int) == 0) = false := by simp; omega
 have d8 : decide ((8 : Int) < (n : Int)) = false := by simp; omega
 have d8' : (n : Int) ≤ 8 := by omega
 have d8n : ¬ (8 : Int) < (n : Int) := by omega
 clear hlen hlen' hr hn h1 h8 hcap
 go_enter Tryz.func17, Tryz.ntmps17
 go_wp2_with fail
 go_loopw [4, 21] (fun q4 q wr => ∃ (i : Nat) (cs : List Value) (Ws : List Whole), q = .int .i64 i ∧ i ≤ n ∧ i = Ws.length ∧ RuM wr (fun z => w.heap.size ≤ z) rs q4 cs Ws ∧ (∀ g, q4.ownBlock = some g → w.heap.size ≤ g) ∧ Keeps [] w wr) (fun _ q _ => n - (intOf q).toNat)
 case atStart => exact ⟨0, [], [], rfl, Nat.zero_le _, rfl, RuM.zero _ _ _, (fun g h => by cases h), Keeps.refl _ _⟩
 case round =>
  obtain ⟨i, cs, Ws, rfl, hi, hiW, hM, hfr, hK⟩ := hrel
  by_cases hlt : i < n
  rotate_left
  ·have hni : ¬ (i : Int) < (n : Int) := by omega
   have HE : Hid (RulesA rs Ws 0) := Or.inr ⟨by have := HN.out; omega, by have := HN.out; omega, Or.inr ⟨rfl, by have := HN.out; omega, fun k W hW => (hM.parts k W hW).1⟩⟩
   obtain ⟨xa, xn, xc, rfl⟩ := ownsRow_sl hM.own
   clear hlt hi hiW
   go_wp2_with fail
   go_ret2
   exact ⟨hK, _, 0, Ws, rfl, HE.out, Or.inr ⟨rfl, cs, hM, hfr⟩⟩
  obtain ⟨r, hri⟩ : ∃ r, rs[i]? = some r := ⟨_, List.getElem?_eq_getElem (by have := HN.out; omega)⟩
  have hcr := hc.keep hK (by simp)
  have hrg := hcr i r hri
  have hg0 : g < wr.heap.size := World.block_lt_of_cell? _ _ (hrg 0 _ rfl)
  have hgr := hgn.keep hK (by simp)
  have hi0 : (0 : Int) ≤ (i : Int) := by omega
  have hin : (i : Int) < (n : Int) := by omega
  have HI : Hid (i < n ∧ i = Ws.length) := ⟨hlt, hiW⟩
  have HR : Hid (rs[i]? = some r) := hri
  have HB : Hid (∀ z, RlBad rs i z → z ≠ 0 → RulesA rs [] z) := fun z hz h0 => Or.inr ⟨by have := HN.out; omega, by have := HN.out; omega, Or.inl ⟨i, fun k hk => ⟨_, (hM.parts k _ (List.getElem?_eq_getElem (by omega))).1⟩, hz, rfl, h0⟩⟩
  obtain ⟨xa, xn, xc, rfl⟩ := ownsRow_sl hM.own
  have hi2 : (Tryz.prog.info? 28).map (·.size) = some 3 := by kernel_rfl
  have hz0 : (wr.alloc (.cells #[.string ⟨#[]⟩, .string ⟨#[]⟩, .bool false] 28)).heap[wr.heap.size]? = some (.cells #[.string ⟨#[]⟩, .string ⟨#[]⟩, .bool false] 28 (0, 0)) := heap_alloc_new wr _
  have hk6 : Keeps [] wr ((wr.alloc (.cells #[.string ⟨#[]⟩, .string ⟨#[]⟩, .bool false] 28)).setRow wr.heap.size #[.string r.nm, .string r.pt, .bool r.sk]) := ((Keeps.refl [] wr).alloc _).setRow (Or.inr (Nat.le_refl _)) _
  have hP6 : P3r ((wr.alloc (.cells #[.string ⟨#[]⟩, .string ⟨#[]⟩, .bool false] 28)).setRow wr.heap.size #[.string r.nm, .string r.pt, .bool r.sk]) wr.heap.size r := setRow_heap _ _ _ _ _ _ hz0
  have hin8 : i ≤ 8 := by have := HN.out; omega
  have hirs : i ≤ rs.length := by have := HN.out; omega
  clear hri hlt hi hiW
  go_upto_region 7 with (first | (refine wpList_load_mid rfl 28 _ rfl g (o + i * 3) rfl _ _ hrg Tryz.underlying28 rfl hi2 ?_) | (refine wpList_store_row rfl 28 _ _ rfl wr.heap.size #[.string r.nm, .string r.pt, .bool r.sk] rfl rfl _ _ hz0 (infoRu3 _ _ _) rfl (three_one _ _ _) ?_; generalize (wr.alloc (.cells #[.string ⟨#[]⟩, .string ⟨#[]⟩, .bool false] 28)).setRow wr.heap.size #[.string r.nm, .string r.pt, .bool r.sk] = w6 at *))
  obtain ⟨b6, hb6⟩ : ∃ b, wr.heap.size = b := ⟨_, rfl⟩
  rw [hb6] at hP6 ⊢
  have hc6 := hcr.keep hk6 (by simp)
  have hM6 := hM.keep hk6
  have hic : (i : Int) ≤ (c : Int) := by omega
  have hic' : i ≤ c := by omega
  have hCk : Hid (∀ X, RuC X g o rs → Calls Tryz.prog 29 #[.string r.nm, .slice (some ⟨g, o, none⟩) i c] X fun e w' => ∃ z : Int, e = .returned (.int .i64 z) ∧ ((¬ NameOk r.nm ∧ z = 4) ∨ (NameOk r.nm ∧ ¬ Fresh rs i r.nm ∧ z = 5) ∨ (NameOk r.nm ∧ Fresh rs i r.nm ∧ z = 0)) ∧ Keeps [] X w') := fun X hX => checkName_any rs r.nm i g o c hirs hin8 X hX
  have hkD : Keeps [] w6 w6.drew := (Keeps.refl [] w6).drewN 1
  have hS0 : P3r w6.drew b6 r ∧ RuC w6.drew g o rs ∧ Keeps [] w6 w6.drew := ⟨hP6.keep hkD (by simp), hc6.keep hkD (by simp), hkD⟩
  clear hcr hrg hz0 hin8 hirs hb6
  refine wp_region_held (S := fun X => P3r X b6 r ∧ RuC X g o rs ∧ Keeps [] w6 X) (by kernel_rfl) ?_
  change wpAnyH _ _ _ _ _ _ _ _ (World.drew _)
  generalize w6.drew = X0 at *
  refine wpAnyH_tk 0 _ (some 26) (.pointer (some ⟨b6, 0, none⟩)) rfl rfl (by kernel_rfl) (by kernel_rfl) (by kernel_rfl) (fun _ _ _ h => h) (Or.inl ⟨by rfl, fun X hX => by go_simp⟩) hS0 ?_
  simp only [Act.put, List.setIfInBounds_toArray, List.set_cons_zero, List.set_cons_succ]
  refine wpAnyH_tk 1 _ (some 27) (.string r.nm) rfl rfl (by kernel_rfl) (by kernel_rfl) (by kernel_rfl) (fun _ _ _ h => h) (Or.inl ⟨by rfl, fun X hX => by (obtain ⟨q0, q1, q2⟩ := hX.1.main; go_simp)⟩) hS0 ?_
  simp only [Act.put, List.setIfInBounds_toArray, List.set_cons_zero, List.set_cons_succ]
  refine wpAnyH_tk 2 _ (some 28) (.slice (some ⟨g, o, none⟩) n c) rfl rfl (by kernel_rfl) (by kernel_rfl) (by kernel_rfl) (fun _ _ _ h => h) (Or.inl ⟨by rfl, fun X hX => by go_simp⟩) hS0 ?_
  simp only [Act.put, List.setIfInBounds_toArray, List.set_cons_zero, List.set_cons_succ]
  refine wpAnyH_tk 3 _ (some 29) (.int .i64 i) rfl rfl (by kernel_rfl) (by kernel_rfl) (by kernel_rfl) (fun _ _ _ h => h) (Or.inl ⟨by rfl, fun X hX => by go_simp⟩) hS0 ?_
  simp only [Act.put, List.setIfInBounds_toArray, List.set_cons_zero, List.set_cons_succ]
  refine wpAnyH_tk 4 _ (some 30) (.slice (some ⟨g, o, none⟩) i c) rfl rfl (by kernel_rfl) (by kernel_rfl) (by kernel_rfl) (fun _ _ _ h => h) (Or.inl ⟨by rfl, fun X hX => by go_simp⟩) hS0 ?_
  simp only [Act.put, List.setIfInBounds_toArray, List.set_cons_zero, List.set_cons_succ]
  refine wpAnyH_ready (rs := [5]) (by kernel_rfl) (by simp) ?_
  refine AllReadyH.cons rfl (fun K hKK => ?_) AllReadyH.nil
  go_simp
  refine (hCk.out X0 hS0.2.1).mono ?_
  rintro e w7 ⟨z, rfl, hz, hk7⟩
  have hS1 : P3r w7 b6 r ∧ RuC w7 g o rs ∧ Keeps [] w6 w7 := ⟨hS0.1.keep hk7 (by simp), hS0.2.1.keep hk7 (by simp), hS0.2.2.trans hk7⟩
  refine hKK.out _ _ hS1 (fun _ => ?_)
  clear hKK K
  refine wpAnyH_tk 6 _ (some 7) (.int .i64 z) rfl rfl (by kernel_rfl) (by kernel_rfl) (by kernel_rfl) (fun _ _ _ h => h) (Or.inl ⟨by rfl, fun X hX => by go_simp⟩) hS1 ?_
  simp only [Act.put, List.setIfInBounds_toArray, List.set_cons_zero, List.set_cons_succ]
  refine wpAnyH_done (by kernel_rfl) ?_ _
  obtain ⟨hP7, hc7, hk67⟩ := hS1
  have hkw7 : Keeps [] w w7 := (hK.trans hk6).trans hk67
  have hM7 := hM6.keep hk67
  clear hS0 hkD hk7 hk67 hk6 hM6 hc6 hP6 hCk hM
  rcases hz with ⟨hz, rfl⟩ | ⟨hz1, hz2, rfl⟩ | ⟨hz1, hz2, rfl⟩
  ·have HE : Hid (RulesA rs [] 4) := HB.out 4 ⟨r, HR.out, Or.inl ⟨hz, rfl⟩⟩ (by decide)
   clear hz hP7 hc7 hM7
   go_wp2_with fail
   go_ret2
   exact ⟨hkw7, _, 4, [], rfl, HE.out, Or.inl ⟨by decide, rfl⟩⟩
  ·have HE : Hid (RulesA rs [] 5) := HB.out 5 ⟨r, HR.out, Or.inr (Or.inl ⟨hz1, hz2, rfl⟩)⟩ (by decide)
   clear hz1 hz2 hP7 hc7 hM7
   go_wp2_with fail
   go_ret2
   exact ⟨hkw7, _, 5, [], rfl, HE.out, Or.inl ⟨by decide, rfl⟩⟩
  have HZ : Hid (NameOk r.nm ∧ Fresh rs i r.nm) := ⟨hz1, hz2⟩
  have hg7 := hgn.keep hkw7 (by simp)
  obtain ⟨q0, q1, q2⟩ := hP7.main
  clear hz1 hz2 hc7
  go_wp2_with fail
  refine (readPattern_prog r.pt w7 hg7).mono ?_
  rintro e w8 ⟨hk8, hc8⟩
  have hC : (∃ x y : Int, y ≠ 0 ∧ e = .returned (.tuple #[.agg #[.bool false, .bool false, .slice none 0 0, .int .i64 0], .int .i64 x, .int .i64 y]) ∧ RlBad rs i y) ∨
      ∃ W v, e = .returned (.tuple #[.agg #[.bool W.bg, .bool W.en, v, .int .i64 W.g], .int .i64 0, .int .i64 0]) ∧ v.oneCell' = true ∧ Rep w8 (fun z => w7.heap.size ≤ z) .ways W.x [v] ∧ RlOk rs i W := by
   rcases hc8 with ⟨hl, he⟩ | ⟨hs, q, hq, h⟩
   ·exact Or.inl ⟨0, 1, by decide, he, r, HR.out, Or.inr (Or.inr ⟨HZ.out.1, HZ.out.2, Or.inl ⟨hl, rfl⟩⟩)⟩
   ·cases q with
    | bad j => exact Or.inl ⟨j, 2, by decide, h, r, HR.out, Or.inr (Or.inr ⟨HZ.out.1, HZ.out.2, Or.inr ⟨hs, ⟨j, hq⟩, rfl⟩⟩)⟩
    | ok W j =>
     obtain ⟨v, he, hv, hrep⟩ := h
     exact Or.inr ⟨W, v, he, hv, hrep, r, HR.out, HZ.out.1, HZ.out.2, hs, j, hq⟩
  have hy0 : (w8.alloc (.cells #[.bool false, .bool false, .slice none 0 0, .int .i64 0] 58)).heap[w8.heap.size]? = some (.cells #[.bool false, .bool false, .slice none 0 0, .int .i64 0] 58 (0, 0)) := heap_alloc_new w8 _
  clear hc8 hg7 q0 q1 q2
  rcases hC with ⟨x, y, hy, rfl, hbad⟩ | ⟨W, u, rfl, hu, hrep, hok⟩
  ·have HE : Hid (RulesA rs [] y) := HB.out y hbad hy
   have HY : Hid (y ≠ 0) := hy
   have o4 := four_one (x := false) (y := false) (n := 0) (v := .slice none 0 0) rfl
   have hk9 : Keeps [] w8 ((w8.alloc (.cells #[.bool false, .bool false, .slice none 0 0, .int .i64 0] 58)).setRow w8.heap.size #[.bool false, .bool false, .slice none 0 0, .int .i64 0]) := ((Keeps.refl [] w8).alloc _).setRow (Or.inr (Nat.le_refl _)) _
   have hkE := (hkw7.trans hk8).trans hk9
   have y1 : (y == 0) = false := by simpa using hy
   have y2 : ¬ y = 0 := hy
   clear hbad hy hk9 hP7 hM7 hk8 hkw7
   go_wp2_with (first | (refine wpList_store_row rfl 58 _ _ rfl w8.heap.size _ rfl rfl _ _ hy0 infoPat rfl o4 ?_; generalize (w8.alloc (.cells #[.bool false, .bool false, .slice none 0 0, .int .i64 0] 58)).setRow w8.heap.size #[.bool false, .bool false, .slice none 0 0, .int .i64 0] = w9 at *))
   go_ret2
   exact ⟨hkE, _, y, [], rfl, HE.out, Or.inl ⟨HY.out, rfl⟩⟩
  have o4 := four_one (x := W.bg) (y := W.en) (n := (W.g : Int)) hu
  have hk9 : Keeps [] w8 ((w8.alloc (.cells #[.bool false, .bool false, .slice none 0 0, .int .i64 0] 58)).setRow w8.heap.size #[.bool W.bg, .bool W.en, u, .int .i64 (W.g : Int)]) := ((Keeps.refl [] w8).alloc _).setRow (Or.inr (Nat.le_refl _)) _
  have hrow9 : ((w8.alloc (.cells #[.bool false, .bool false, .slice none 0 0, .int .i64 0] 58)).setRow w8.heap.size #[.bool W.bg, .bool W.en, u, .int .i64 (W.g : Int)]).heap[w8.heap.size]? = some (.cells #[.bool W.bg, .bool W.en, u, .int .i64 (W.g : Int)] 58 (0, 0)) := setRow_heap _ _ _ _ _ _ hy0
  have hk79 := hk8.trans hk9
  have hrep9 := hrep.keep hk9 (by simp)
  have hP9 := hP7.keep hk79 (by simp)
  have hM9 := hM7.keep hk79
  have HOK : Hid (RlOk rs i W) := hok
  clear hrep hok hk8 hk9 hP7
  go_upto_region 13 with (first | (refine wpList_store_row rfl 58 _ _ rfl w8.heap.size _ rfl rfl _ _ hy0 infoPat rfl o4 ?_; generalize (w8.alloc (.cells #[.bool false, .bool false, .slice none 0 0, .int .i64 0] 58)).setRow w8.heap.size #[.bool W.bg, .bool W.en, u, .int .i64 (W.g : Int)] = w9 at *))
  obtain ⟨b8, hb8⟩ : ∃ b, w8.heap.size = b := ⟨_, rfl⟩
  rw [hb8] at hrow9 ⊢
  obtain ⟨q0, q1, q2⟩ := hP9.main
  have hown9 := hM9.own
  rw [← HI.out.2] at hown9
  obtain ⟨i0, hi0', hz0', hz1', hz2'⟩ := info_parts infoTRu
  have hun := Tryz.underlying51
  have hlm : i + 1 ≤ maxLen := by unfold maxLen; have := HI.out; have := HN.out; omega
  have hbt : (i + 1) * 48 ≤ 140737488355328 := by have := HI.out; have := HN.out; omega
  have hH : (w9.alloc (.cells (ruV W u r.sk).toArray 92)).heap.size = w9.heap.size + 1 := by simp
  have hnews : ∀ j x, (ruV W u r.sk)[j]? = some x → (w9.alloc (.cells (ruV W u r.sk).toArray 92)).cell? ((⟨w9.heap.size, 0, none⟩ : Addr).add j) = some x := World.news_of_block (cs := (ruV W u r.sk).toArray) (heap_alloc_new w9 _)
  have hone := ruV_one (W := W) (b := r.sk) hu
  have hbu := built_ru W u r.sk
  clear hb8 hy0 o4 hM9 hP9
  go_wp2_with (first | (refine wpList_load_row rfl 58 _ rfl b8 rfl _ _ _ _ hrow9 Tryz.underlying58 rfl infoPat ?_) | (refine wpList_build2 rfl 92 0 1 (.tmp 46) (.tmp 48) rfl (some 49) rfl _ _ rfl rfl _ hbu ?_) | (refine wpList_ruslice rfl (.tmp 49) rfl (some 50) rfl W u r.sk rfl ?_) | (at_builtin; refine wpList_append_lies _ rfl _ _ _ rfl 0 92 i0 _ 5 48 hun hi0' hz0' hz1' hz2' rfl (by decide) (.slice xa xn xc) i cs rfl (hown9.alloc _) ⟨w9.heap.size, 0, none⟩ 1 1 (ruV W u r.sk) rfl rfl hnews hone (by omega) hlm hbt (Nat.zero_le _) (w9.heap.size + 1) hH ?_))
  intro g' cap w10 hown10 hgrow hat hlt10
  have hk10 : Keeps (Value.slice xa xn xc).ownBlock.toList w9 w10 := ((Keeps.refl _ w9).alloc _).trans (Keeps.ofGrown hgrow)
  have hsk : skO rs i = r.sk := by unfold skO; rw [HR.out]
  have hlo := hkw7.size
  have hM10 := hM7.add hk79 hlo HI.out.2 hsk HOK.out hu hrep9 hown10 hgrow hat
  have hkw10 : Keeps [] w w10 := (hkw7.trans hk79).fresh hk10 (by
    intro y hy
    rw [Option.mem_toList] at hy
    exact Or.inr (hfr y hy))
  have hfr10 : ∀ y, (Value.slice (some ⟨g', 0, none⟩) (i + 1) cap).ownBlock = some y → w.heap.size ≤ y := by
   intro y hy
   cases hy
   rcases hat with h | h
   ·exact hfr _ h
   ·have := hk79.size
    show w.heap.size ≤ g'
    omega
  clear hown10 hgrow hnews hH hone hbu hrow9 hk10 hown9 hM7 hrep9 q0 q1 q2 hat
  go_wp2_with fail
  go_roundw
  case rel => exact ⟨i + 1, _, Ws ++ [W], by go_num, by have := HI.out; omega, by rw [List.length_append, ← HI.out.2]; rfl, hM10, hfr10, hkw10⟩
  case measure => have := HI.out; simp [intOf]; omega
end Go.Proofs.YtnfojonmohijpabGreatDoor
namespace Go.Proofs.YtnfojonmohijpabGreatDoor
open Go.RowKit
structure MaM (w : World) (S : Nat → Prop) (s : ByteArray) (N : Nat) (v : Value) (cs : List Value) (Ws : List Whole) : Prop where
 own : w.ownsRow 0 67 7 v Ws.length cs
 parts : ∀ (k : Nat) (W : Whole), Ws[k]? = some W → ∃ u a c, u.oneCell' = true ∧ a.oneCell' = true ∧ c.oneCell' = true ∧ (∀ q x, (mat W u s a c).toList[q]? = some x → cs[k * 7 + q]? = some x) ∧ Mk w (fun z => S z ∧ v.ownBlock ≠ some z) s N .ways W.x [a, c]
theorem MaM.keep {w w' : World} {S : Nat → Prop} {s : ByteArray} {N : Nat} {v : Value} {cs : List Value} {Ws : List Whole} (h : MaM w S s N v cs Ws) (hk : Keeps [] w w') : MaM w' S s N v cs Ws :=
 ⟨h.own.keep hk (by simp), fun k W hW => by
   obtain ⟨u, a, c, h1, h2, h3, h4, h5⟩ := h.parts k W hW
   exact ⟨u, a, c, h1, h2, h3, h4, h5.keep hk (by simp)⟩⟩
theorem MaM.cells {w : World} {S : Nat → Prop} {s : ByteArray} {N : Nat} {g n c : Nat} {cs : List Value} {Ws : List Whole} (h : MaM w S s N (.slice (some ⟨g, 0, none⟩) n c) cs Ws) {k : Nat} {W : Whole} {u a d : Value} (hn : n = Ws.length) (hk : k < Ws.length) (hq : ∀ q x, (mat W u s a d).toList[q]? = some x → cs[k * 7 + q]? = some x) : w.rangeAt g (k * 7) (mat W u s a d).toList := fun q x hx => by
 subst hn
 have h7 : q < 7 := (List.getElem?_eq_some_iff.1 hx).1
 have hlt : k * 7 + q < Ws.length * 7 := by omega
 exact (World.ownsRow.cellAt h.own (k * 7 + q) hlt).trans (hq q x hx)
theorem cf_lng1 : ∀ args w1, (callFunc 59 args).run Tryz.prog w1 = .ok (.enter 59 args) w1 := fun args w1 => by
 kernel_rfl
set_option maxRecDepth 100000 in
set_option maxHeartbeats 2000000 in
theorem lng1_any (s : ByteArray) (N : Nat) (HN : Hid (N = s.size + 1)) (hs : s.size ≤ 100) (W : Whole) (u a c : Value) (S : Nat → Prop) (bf bt i j : Nat) (hi : i ≤ s.size) (hj : j ≤ s.size) (w : World) (hu : u.oneCell' = true) (ha : a.oneCell' = true) (hc : c.oneCell' = true) (hm : Mk w S s N .ways W.x [a, c]) (hbf : w.cell? ⟨bf, 0, none⟩ = some (.int .i64 i)) (hbt : w.cell? ⟨bt, 0, none⟩ = some (.int .i64 j)) :
    Calls Tryz.prog 59 #[.agg (mat W u s a c), .pointer (some ⟨bf, 0, none⟩), .pointer (some ⟨bt, 0, none⟩)] w fun e w' => ∃ b, e = .returned (.bool b) ∧ (b = true ↔ Mt s W.x i j) ∧ Keeps [] w w' := by
 have hq0 : (w.alloc (.cells (mat W u s a c) 67)).heap[w.heap.size]? = some (.cells (mat W u s a c) 67 (0, 0)) := heap_alloc_new w _
 have hk0 : Keeps [] w (w.alloc (.cells (mat W u s a c) 67)) := (Keeps.refl [] w).alloc _
 have hf0 := keep_cell hk0 hbf
 have ht0 := keep_cell hk0 hbt
 have hm0 := hm.keep hk0 (by simp)
 have hi7 : (Tryz.prog.info? 67).map (·.size) = some (mat W u s a c).size := by unfold mat; exact info7 _ _ _ _ _ _ _
 have hall : (mat W u s a c).all (·.oneCell') = true := by unfold mat; exact all7 rfl rfl hu rfl rfl ha hc
 generalize hM : mat W u s a c = M at *
 go_enter Tryz.func59, Tryz.ntmps59
 go_upto_region 1 with (fail)
 generalize w.alloc (.cells M 67) = X at *
 obtain ⟨gb, hgb⟩ : ∃ g, w.heap.size = g := ⟨_, rfl⟩
 rw [hgb] at hq0 ⊢
 clear hgb
 go_wp2_with (first | (refine wpList_load_row rfl 67 _ rfl gb rfl _ _ _ _ hq0 Tryz.underlying67 rfl hi7 ?_))
 rw [← hM]
 refine (canM_any s N HN hs W u a c S X hm0 i j hi hj).mono ?_
 rintro e w1 ⟨b, rfl, hb, hk1⟩
 have hkE := hk0.trans hk1
 have HB : Hid (b = true ↔ Mt s W.x i j) := hb
 clear hb hk1 hk0
 go_wp2_with fail
 go_ret
 exact ⟨b, rfl, HB.out, hkE⟩
def FirstM (s : ByteArray) (Ws : List Whole) (n : Nat) (i j : Nat) (z : Int) : Prop :=
 (∃ (p : Nat) (W : Whole), z = (p : Int) ∧ p < n ∧ Ws[p]? = some W ∧ Mt s W.x i j ∧ ∀ (k : Nat) (V : Whole), k < p → Ws[k]? = some V → ¬ Mt s V.x i j) ∨ (z = -1 ∧ ∀ (k : Nat) (V : Whole), k < n → Ws[k]? = some V → ¬ Mt s V.x i j)
set_option maxRecDepth 100000 in
set_option maxHeartbeats 2000000 in
theorem indexMat_any (s : ByteArray) (N : Nat) (HN : Hid (N = s.size + 1)) (hs : s.size ≤ 100) (Ws : List Whole) (cs : List Value) (S : Nat → Prop) (g n c bf bt i j : Nat) (hn : n = Ws.length) (h8 : n ≤ 8) (hi : i ≤ s.size) (hj : j ≤ s.size) (w : World) (hm : MaM w S s N (.slice (some ⟨g, 0, none⟩) n c) cs Ws) (hbf : w.cell? ⟨bf, 0, none⟩ = some (.int .i64 i)) (hbt : w.cell? ⟨bt, 0, none⟩ = some (.int .i64 j)) :
    Calls Tryz.prog 58 #[.slice (some ⟨g, 0, none⟩) n c, .func (.func 59) #[] #[.pointer (some ⟨bf, 0, none⟩), .pointer (some ⟨bt, 0, none⟩)]] w fun e w' => ∃ z : Int, e = .returned (.int .i64 z) ∧ FirstM s Ws n i j z ∧ Keeps [] w w' := by
 have hcf := cf_lng1
 have h8' : (n : Int) ≤ 8 := by omega
 have HL : Hid (n = Ws.length) := hn
 go_enter Tryz.func58, Tryz.ntmps58
 clear hn h8
 go_wp2_with fail
 go_loopw [5, 8] (fun _ q wr => ∃ k : Nat, k ≤ n ∧ q = .int .i64 k ∧ Hid (∀ (d : Nat) (V : Whole), d < k → Ws[d]? = some V → ¬ Mt s V.x i j) ∧ Keeps [] w wr) (fun _ q _ => n - (intOf q).toNat)
 case atStart => exact ⟨0, Nat.zero_le _, rfl, fun d z h => by omega, Keeps.refl _ _⟩
 case round =>
  obtain ⟨k, hk, rfl, HA, hK⟩ := hrel
  by_cases hlt : k < n
  ·obtain ⟨W, hW⟩ : ∃ W, Ws[k]? = some W := ⟨_, List.getElem?_eq_getElem (by have := HL.out; omega)⟩
   have hmk := hm.keep hK
   obtain ⟨u, a, d, hu, ha, hd, hq, hmm⟩ := hmk.parts k W hW
   have hrg := hmk.cells HL.out (by have := HL.out; omega) hq
   have hC := lng1_any s N HN hs W u a d _ bf bt i j hi hj wr hu ha hd hmm (keep_cell hK hbf) (keep_cell hK hbt)
   have hi2 : (Tryz.prog.info? 67).map (·.size) = some (mat W u s a d).toList.length := by unfold mat; exact info7 _ _ _ _ _ _ _
   have hk0 : (0 : Int) ≤ (k : Int) := by omega
   have hk1 : (k : Int) < (n : Int) := by omega
   have HK : Hid (k < n) := hlt
   have HY : Hid (Ws[k]? = some W) := hW
   clear hk hlt hW hmk hq hmm hu ha hd
   generalize hM : mat W u s a d = M at *
   go_wp2_with (first | (refine wpList_load_mid rfl 67 _ rfl g (k * 7) rfl _ _ hrg Tryz.underlying67 rfl hi2 ?_))
   refine hC.mono ?_
   rintro e w2 ⟨b, rfl, hb, hk2⟩
   have hK2 := hK.trans hk2
   cases b with
   | true =>
    have HM : Hid (Mt s W.x i j) := hb.1 rfl
    clear hb hC hrg
    go_wp2_with fail
    go_ret
    exact ⟨k, rfl, Or.inl ⟨k, W, rfl, HK.out, HY.out, HM.out, HA.out⟩, hK2⟩
   | false =>
    have HM : Hid (¬ Mt s W.x i j) := fun h => by have := hb.2 h; cases this
    have HA2 : Hid (∀ (d : Nat) (V : Whole), d < k + 1 → Ws[d]? = some V → ¬ Mt s V.x i j) := fun d z hd hz => by
     by_cases e : d < k
     ·exact HA.out d z e hz
     ·have : d = k := by omega
      subst this
      have h := HY.out
      rw [h] at hz
      cases hz
      exact HM.out
    clear hb hC hrg
    go_wp2_with fail
    exact ⟨⟨k + 1, HK.out, by go_num, HA2.out, hK2⟩, by have := HK.out; simp [intOf]; omega⟩
  ·have he : k = n := by omega
   subst he
   clear hk hlt
   go_wp2_with fail
   go_ret
   exact ⟨-1, rfl, Or.inr ⟨rfl, HA.out⟩, hK⟩
def muC (w : World) (b : Nat) : Nat := match w.cell? ⟨b, 0, none⟩ with
 | some v => (intOf v).toNat
 | none => 0
theorem muC_eq {w : World} {b k : Nat} (h : w.cell? ⟨b, 0, none⟩ = some (.int .i64 k)) : muC w b = k := by simp [muC, h, intOf]
theorem cellI {Y : World} {b : Nat} {z : Int} (h : Y.heap[b]? = some (.cells #[.int .i64 z] 3 (0, 0))) : Y.cell? ⟨b, 0, none⟩ = some (.int .i64 z) := by rw [Lib.cell_of_heap h]; rfl
theorem frozI {Y : World} {b : Nat} {z : Int} (h : Y.heap[b]? = some (.cells #[.int .i64 z] 3 (0, 0))) : Y.frozen? ⟨b, 0, none⟩ = false := by simp [World.frozen?, h]
theorem results_lng (tmps : Array Value) (w : World) (g : Nat) (v : Value) (y : Int) (h2 : tmps.getD 6 undef = v) (h3 : tmps.getD 7 undef = .pointer (some ⟨g, 0, none⟩)) (hy : w.cell? ⟨g, 0, none⟩ = some (.int .i64 y)) :
    (results Tryz.f30 tmps).run Tryz.prog w = .ok (.tuple #[v, .int .i64 y]) w := by
 have h : Tryz.f30.results = #[.tmp 6, .cell 7 3] := rfl
 have e2 : tmps[6]?.getD undef = v := by simpa using h2
 have e3 : tmps[7]?.getD undef = .pointer (some ⟨g, 0, none⟩) := by simpa using h3
 have l3 := loadInt 3 (Or.inl rfl) _ y w hy
 simp [results, h, e2, e3, asAddr, l3]
theorem FirstM.best {s : ByteArray} {Ws : List Whole} {n i j p : Nat} (h : FirstM s Ws n i j (p : Int)) (hij : i < j) (hj : j ≤ s.size) (hno : ∀ (m k : Nat) (W : Whole), j < m → m ≤ s.size → Ws[k]? = some W → ¬ Mt s W.x i m) : BestT s (Ws.map (·.x)) i p j := by
 rcases h with ⟨p', W, h1, h2, h3, h4, h5⟩ | ⟨h1, _⟩
 ·have : p = p' := by omega
  subst this
  refine ⟨hij, hj, ⟨W.x, by rw [List.getElem?_map, h3]; rfl, h4⟩, fun k x hk hx => ?_, fun m k x hm hms hx => ?_⟩
  ·rw [List.getElem?_map] at hx
   cases hw : Ws[k]? with
   | none => rw [hw] at hx; cases hx
   | some V => rw [hw] at hx; cases hx; exact h5 k V hk hw
  ·rw [List.getElem?_map] at hx
   cases hw : Ws[k]? with
   | none => rw [hw] at hx; cases hx
   | some V => rw [hw] at hx; cases hx; exact hno m k V hm hms hw
 ·omega
theorem noneT_of {s : ByteArray} {Ws : List Whole} {i : Nat} (hno : ∀ (m k : Nat) (W : Whole), i < m → m ≤ s.size → Ws[k]? = some W → ¬ Mt s W.x i m) : NoneT s (Ws.map (·.x)) i := fun m k x hm hms hx => by
 rw [List.getElem?_map] at hx
 cases hw : Ws[k]? with
 | none => rw [hw] at hx; cases hx
 | some V => rw [hw] at hx; cases hx; exact hno m k V hm hms hw
set_option maxRecDepth 100000 in
set_option maxHeartbeats 4000000 in
theorem lngst_any (s : ByteArray) (N : Nat) (HN : Hid (N = s.size + 1)) (hs : s.size ≤ 100) (Ws : List Whole) (cs : List Value) (S : Nat → Prop) (g n c i : Nat) (hn : n = Ws.length) (h8 : n ≤ 8) (hi : i ≤ s.size) (w : World) (hm : MaM w S s N (.slice (some ⟨g, 0, none⟩) n c) cs Ws) :
    Calls Tryz.prog 30 #[.slice (some ⟨g, 0, none⟩) n c, .int .i64 i, .int .i64 s.size] w fun e w' => ∃ r j : Nat, e = .returned (.tuple #[.int .i64 r, .int .i64 j]) ∧ ((r < n ∧ BestT s (Ws.map (·.x)) i r j) ∨ (j = i ∧ NoneT s (Ws.map (·.x)) i)) ∧ Keeps [] w w' := by
 have HNn : Hid (n = Ws.length ∧ n ≤ 8) := ⟨hn, h8⟩
 have hk0 : Keeps [] w ((w.alloc (.cells #[.int .i64 i] 3)).alloc (.cells #[.int .i64 0] 3)) := ((Keeps.refl [] w).alloc _).alloc _
 have hz0 : ((w.alloc (.cells #[.int .i64 i] 3)).alloc (.cells #[.int .i64 0] 3)).heap[w.heap.size]? = some (.cells #[.int .i64 i] 3 (0, 0)) := heap_alloc2_old w _ _
 have hz1 : ((w.alloc (.cells #[.int .i64 i] 3)).alloc (.cells #[.int .i64 0] 3)).heap[w.heap.size + 1]? = some (.cells #[.int .i64 0] 3 (0, 0)) := heap_alloc2_new w _ _
 have hs' : (s.size : Int) ≤ 100 := by omega
 have hiI : (i : Int) ≤ 100 := by omega
 have HI : Hid (i ≤ s.size ∧ s.size ≤ 100) := ⟨hi, hs⟩
 have h8' : (n : Int) ≤ 8 := by omega
 clear hn h8
 go_enter Tryz.func30, Tryz.ntmps30
 go_upto_region 1 with (fail)
 generalize (w.alloc (.cells #[.int .i64 i] 3)).alloc (.cells #[.int .i64 0] 3) = X at *
 obtain ⟨bf, hbf⟩ : ∃ b, w.heap.size = b := ⟨_, rfl⟩
 rw [hbf] at hz0 hz1 ⊢
 obtain ⟨bt, hbt⟩ : ∃ b, bf + 1 = b := ⟨_, rfl⟩
 rw [hbt] at hz1 ⊢
 have hne : bt ≠ bf := by omega
 have hlo : w.heap.size ≤ bt := by omega
 have hlof : w.heap.size ≤ bf := by omega
 clear hbf hbt hi hs
 have c1 : X.cell? ⟨bt, 0, none⟩ = some (.int .i64 0) := by rw [Lib.cell_of_heap hz1]; rfl
 have f1 : X.frozen? ⟨bt, 0, none⟩ = false := by simp [World.frozen?, hz1]
 have hX1 : Keeps [bt] X (X.setCell ⟨bt, 0, none⟩ (.int .i64 s.size)) := (Keeps.refl [bt] X).setCell (p := ⟨bt, 0, none⟩) (by simp) _
 have hb1 : (X.setCell ⟨bt, 0, none⟩ (.int .i64 s.size)).heap[bt]? = some (.cells #[.int .i64 s.size] 3 (0, 0)) := by simp [World.setCell, Array.getElem?_modify, hz1]
 have hf1 := (hX1.block bf (Array.getElem?_eq_some_iff.1 hz0).1 (by simp; exact fun e => hne e.symm)).trans hz0
 have hkS : Keeps [] w (X.setCell ⟨bt, 0, none⟩ (.int .i64 s.size)) := keepsM hk0 hX1 (by intro x hx; simp at hx; omega)
 go_wp2_with fail
 generalize X.setCell ⟨bt, 0, none⟩ (.int .i64 s.size) = W1 at *
 go_loopw [6] (fun q6 wr => ∃ k : Nat, i ≤ k ∧ k ≤ s.size ∧ wr.heap[bt]? = some (.cells #[.int .i64 k] 3 (0, 0)) ∧ wr.heap[bf]? = some (.cells #[.int .i64 i] 3 (0, 0)) ∧ Hid (∀ (m q : Nat) (W : Whole), k < m → m ≤ s.size → Ws[q]? = some W → ¬ Mt s W.x i m) ∧ Keeps [] w wr) (fun _ wr => muC wr bt)
 case atStart => exact ⟨s.size, HI.out.1, Nat.le_refl _, hb1, hf1, fun m q W h1 h2 => by omega, hkS⟩
 case round =>
  clear hb1 hf1 hkS hX1 c1 f1 hz0 hz1 hk0
  obtain ⟨k, hik, hks, hbk, hfk, HA, hK⟩ := hrel
  have cT := cellI hbk
  have cF := cellI hfk
  have fT := frozI hbk
  have hmu := muC_eq cT
  by_cases hlt : i < k
  ·have hik' : (i : Int) < (k : Int) := by omega
   have hkI : (k : Int) ≤ 100 := by have := HI.out; omega
   have hC := indexMat_any s N HN HI.out.2 Ws cs S g n c bf bt i k HNn.out.1 HNn.out.2 HI.out.1 hks wr (hm.keep hK) cF cT
   have HK : Hid (i < k ∧ k ≤ s.size) := ⟨hlt, hks⟩
   clear hik hks hlt
   go_wp2_with fail
   refine hC.mono ?_
   rintro e w2 ⟨z, rfl, hz, hk2⟩
   have hK2 := hK.trans hk2
   have hb2 := (hk2.block bt (Array.getElem?_eq_some_iff.1 hbk).1 (by simp)).trans hbk
   have hf2 := (hk2.block bf (Array.getElem?_eq_some_iff.1 hfk).1 (by simp)).trans hfk
   have cT2 := cellI hb2
   have cF2 := cellI hf2
   have fT2 := frozI hb2
   have HZ : Hid (FirstM s Ws n i k z) := hz
   have hzc : (∃ p : Nat, z = (p : Int) ∧ p < n) ∨ z = -1 := by
    rcases hz with ⟨p, _, h1, h2, _⟩ | ⟨h1, _⟩
    ·exact Or.inl ⟨p, h1, h2⟩
    ·exact Or.inr h1
   clear hC hz hk2 cT cF fT hbk hfk
   rcases hzc with ⟨p, rfl, hp⟩ | rfl
   ·have hp0 : (0 : Int) ≤ (p : Int) := by omega
    have hp8 : (p : Int) ≤ 8 := by omega
    have HB : Hid (p < n ∧ BestT s (Ws.map (·.x)) i p k) := ⟨hp, HZ.out.best HK.out.1 HK.out.2 HA.out⟩
    have hS : Keeps [bt] w2 (w2.setCell ⟨bt, 0, none⟩ (.int .i64 k)) := (Keeps.refl [bt] w2).setCell (p := ⟨bt, 0, none⟩) (by simp) _
    have hkE : Keeps [] w (w2.setCell ⟨bt, 0, none⟩ (.int .i64 k)) := keepsM hK2 hS (by intro x hx; simp at hx; omega)
    have r1 : (w2.setCell ⟨bt, 0, none⟩ (.int .i64 k)).cell? ⟨bt, 0, none⟩ = some (.int .i64 k) := World.cell?_setCell_same _ _ _ cT2
    go_upto_region 6 with (fail)
    have cT3 : w2.drew.cell? ⟨bt, 0, none⟩ = some (.int .i64 k) := cT2
    have fT3 : w2.drew.frozen? ⟨bt, 0, none⟩ = false := fT2
    have r2 : (w2.setCell ⟨bt, 0, none⟩ (.int .i64 k)).drew.cell? ⟨bt, 0, none⟩ = some (.int .i64 k) := r1
    have hkF : Keeps [] w (w2.setCell ⟨bt, 0, none⟩ (.int .i64 k)).drew := hkE.trans ((Keeps.refl [] _).drewN 1)
    go_region
    all_goals
     clear hS hkE r1 cT2 cF2 fT2 cT3 fT3 hb2 hf2 hK2
     generalize (w2.setCell ⟨bt, 0, none⟩ (.int .i64 k)).drew = Y at *
     go_wp2_with fail
     refine bodyPost_ret (results_lng _ _ bt _ k rfl rfl r2) rfl ?_
     exact ⟨p, k, rfl, Or.inl HB.out, hkF⟩
   ·have HNo : Hid (∀ (m q : Nat) (W : Whole), k - 1 < m → m ≤ s.size → Ws[q]? = some W → ¬ Mt s W.x i m) := fun m q W h1 h2 h3 => by
       by_cases e : k < m
       ·exact HA.out m q W e h2 h3
       ·have : m = k := by have := HK.out; omega
        subst this
        rcases HZ.out with ⟨p, _, h, _⟩ | ⟨_, h⟩
        ·omega
        ·exact h q W (by have := HNn.out.1; have := (List.getElem?_eq_some_iff.1 h3).1; omega) h3
    obtain ⟨k', hk'⟩ : ∃ k', k = k' + 1 := ⟨k - 1, by have := HK.out; omega⟩
    subst hk'
    have hS : Keeps [bt] w2 (w2.setCell ⟨bt, 0, none⟩ (.int .i64 (k' : Int))) := (Keeps.refl [bt] w2).setCell (p := ⟨bt, 0, none⟩) (by simp) _
    have hkE : Keeps [] w (w2.setCell ⟨bt, 0, none⟩ (.int .i64 (k' : Int))) := keepsM hK2 hS (by intro x hx; simp at hx; omega)
    have hb3 : (w2.setCell ⟨bt, 0, none⟩ (.int .i64 (k' : Int))).heap[bt]? = some (.cells #[.int .i64 k'] 3 (0, 0)) := by simp [World.setCell, Array.getElem?_modify, hb2]
    have hf3 := (hS.block bf (Array.getElem?_eq_some_iff.1 hf2).1 (by simp; exact fun e => hne e.symm)).trans hf2
    clear hb2 hf2 hK2 hS
    go_wp2_with fail
    go_roundw
    case rel => exact ⟨k', by have := HK.out; omega, by have := HK.out; omega, hb3, hf3, HNo.out, hkE⟩
    case measure => rw [hmu, muC_eq (cellI hb3)]; omega
  ·have he : k = i := by omega
   subst he
   have HB : Hid (NoneT s (Ws.map (·.x)) k) := noneT_of HA.out
   clear hik hks hlt
   go_upto_region 7 with (fail)
   have cT3 : wr.drew.cell? ⟨bt, 0, none⟩ = some (.int .i64 k) := cT
   have cF3 : wr.drew.cell? ⟨bf, 0, none⟩ = some (.int .i64 k) := cF
   have fT3 : wr.drew.frozen? ⟨bt, 0, none⟩ = false := fT
   have hS : Keeps [bt] wr (wr.setCell ⟨bt, 0, none⟩ (.int .i64 k)) := (Keeps.refl [bt] wr).setCell (p := ⟨bt, 0, none⟩) (by simp) _
   have hkF : Keeps [] w (wr.setCell ⟨bt, 0, none⟩ (.int .i64 k)).drew := (keepsM hK hS (by intro x hx; simp at hx; omega)).trans ((Keeps.refl [] _).drewN 1)
   have r2 : (wr.setCell ⟨bt, 0, none⟩ (.int .i64 k)).drew.cell? ⟨bt, 0, none⟩ = some (.int .i64 k) := World.cell?_setCell_same _ _ _ cT
   go_region
   all_goals
    clear hS cT cF fT cT3 cF3 fT3 hK hbk hfk hmu
    generalize (wr.setCell ⟨bt, 0, none⟩ (.int .i64 k)).drew = Y at *
    go_wp2_with fail
    refine bodyPost_ret (results_lng _ _ bt _ k rfl rfl r2) rfl ?_
    exact ⟨0, k, rfl, Or.inr ⟨rfl, HB.out⟩, hkF⟩
end Go.Proofs.YtnfojonmohijpabGreatDoor
namespace Go.Proofs.YtnfojonmohijpabGreatDoor
open Go.RowKit
theorem RlOk.good {rs : List Rul} {i : Nat} {W : Whole} (h : RlOk rs i W) : W.x.sz ≤ 1000 ∧ W.x.fair 9 := by
 obtain ⟨r, _, _, _, hs, j, hq⟩ := h
 exact ⟨whole_sz hs hq, (PatR.good hs hq).1⟩
theorem MaM.zero (w : World) (S : Nat → Prop) (s : ByteArray) (N : Nat) : MaM w S s N (.slice none 0 0) [] [] := ⟨⟨rfl, .inl ⟨rfl, rfl⟩⟩, fun k W h => by simp at h⟩
theorem MaM.add {w w3 w5 : World} {s : ByteArray} {N : Nat} {v u a c : Value} {cs : List Value} {Ws : List Whole} {W : Whole} {lo g' cap i : Nat} (h : MaM w (fun z => lo ≤ z) s N v cs Ws) (hk : Keeps [] w w3) (hlo : lo ≤ w.heap.size) (hi : i = Ws.length) (hu : u.oneCell' = true) (ha : a.oneCell' = true) (hc : c.oneCell' = true) (hr : Mk w3 (fun z => w.heap.size ≤ z) s N .ways W.x [a, c])
    (hown : w5.ownsRow 0 67 7 (.slice (some ⟨g', 0, none⟩) (i + 1) cap) (i + 1) (cs ++ (mat W u s a c).toList)) (hgrow : (w3.alloc (.cells (mat W u s a c) 67)).grownBy w5 v.ownBlock) (hat : v.ownBlock = some g' ∨ g' = w3.heap.size + 1) :
    MaM w5 (fun z => lo ≤ z) s N (.slice (some ⟨g', 0, none⟩) (i + 1) cap) (cs ++ (mat W u s a c).toList) (Ws ++ [W]) := by
 subst hi
 have hk5 : Keeps v.ownBlock.toList w3 w5 := ((Keeps.refl v.ownBlock.toList w3).alloc _).trans (Keeps.ofGrown hgrow)
 have hcl : cs.length = Ws.length * 7 := h.own.1
 have hvl := World.ownsRow.lt h.own
 have s3 := hk.size
 refine ⟨by rw [List.length_append, List.length_singleton]; exact hown, fun k V hV => ?_⟩
 have hno : ∀ z, v.ownBlock ≠ some z → z < w3.heap.size → (Value.slice (some ⟨g', 0, none⟩) (Ws.length + 1) cap).ownBlock ≠ some z := by
  intro z hz hzl e
  simp only [Value.ownBlock, Option.some.injEq] at e
  subst e
  rcases hat with e | e
  ·exact hz e
  ·omega
 by_cases hkl : k < Ws.length
 ·rw [List.getElem?_append_left hkl] at hV
  obtain ⟨u', a', c', h1, h2, h2', h3, h4⟩ := h.parts k V hV
  refine ⟨u', a', c', h1, h2, h2', fun q x hq => ?_, ?_⟩
  ·have := h3 q x hq
   rw [List.getElem?_append_left (List.getElem?_eq_some_iff.1 this).1]
   exact this
  ·refine (((h4.mono (S' := fun z => (lo ≤ z ∧ v.ownBlock ≠ some z) ∧ z < w.heap.size) fun z hz hl => ⟨hz, hl⟩).keep hk (by simp)).keep hk5 ?_).mono ?_
   ·intro z hz hm
    rw [Option.mem_toList] at hm
    exact hz.1.2 hm
   ·intro z hz _
    exact ⟨hz.1.1, hno z hz.1.2 (by have := hz.2; omega)⟩
 ·have hke : k = Ws.length := by
     have := (List.getElem?_eq_some_iff.1 hV).1
     simp at this
     omega
  subst hke
  have hVW : V = W := by
   rw [List.getElem?_append_right (Nat.le_refl _)] at hV
   simp at hV
   exact hV.symm
  subst hVW
  refine ⟨u, a, c, hu, ha, hc, fun q x hq => ?_, ?_⟩
  ·rw [List.getElem?_append_right (by omega), show Ws.length * 7 + q - cs.length = q by omega]
   exact hq
  ·refine ((hr.mono (S' := fun z => w.heap.size ≤ z ∧ z < w3.heap.size) fun z hz hl => ⟨hz, hl⟩).keep hk5 ?_).mono ?_
   ·intro z hz hm
    rw [Option.mem_toList] at hm
    have := (hvl z hm).2
    have := hz.1
    omega
   ·intro z hz _
    refine ⟨by have := hz.1; omega, hno z ?_ hz.2⟩
    intro e
    have := (hvl z e).2
    have := hz.1
    omega
theorem mat_one {W : Whole} {u a c : Value} {s : ByteArray} (hu : u.oneCell' = true) (ha : a.oneCell' = true) (hc : c.oneCell' = true) : ∀ x ∈ (mat W u s a c).toList, x.oneCell' = true := by
 intro x hx
 simp only [mat, List.mem_cons, List.not_mem_nil, or_false] at hx
 rcases hx with rfl | rfl | rfl | rfl | rfl | rfl | rfl
 ·rfl
 ·rfl
 ·exact hu
 ·rfl
 ·rfl
 ·exact ha
 ·exact hc
def tkV : List Tok → List Value
 | [] => []
 | t :: l => [.int .i64 t.rule, .int .i64 t.frm, .int .i64 t.upt, .int .i64 t.line, .int .i64 t.col] ++ tkV l
theorem tkV_app : ∀ a b, tkV (a ++ b) = tkV a ++ tkV b
 | [], b => rfl
 | t :: a, b => by rw [List.cons_append, tkV, tkV, tkV_app a b, List.append_assoc]
def TkR (w : World) (v : Value) (l : List Tok) : Prop := w.ownsRow 0 37 5 v l.length (tkV l)
theorem TkR.zero (w : World) : TkR w (.slice none 0 0) [] := ⟨rfl, .inl ⟨rfl, rfl⟩⟩
theorem infoMat : (Tryz.prog.info? 67).map (fun i => (i.zero, i.size, i.bytes)) = some (some (.agg #[.bool false, .bool false, .slice none 0 0, .int .i64 0, .string ⟨#[]⟩, .slice none 0 0, .slice none 0 0]), 7, 104) := by kernel_rfl
theorem infoTok : (Tryz.prog.info? 37).map (fun i => (i.zero, i.size, i.bytes)) = some (some (.agg #[.int .i64 0, .int .i64 0, .int .i64 0, .int .i64 0, .int .i64 0]), 5, 40) := by kernel_rfl
theorem mat_fill (W : Whole) (u : Value) (s : ByteArray) (a c : Value) : Instr.fill (fun i => some (i * 7, 7)) ((Array.range (1 * 7)).map ((#[.bool false, .bool false, .slice none 0 0, .int .i64 0, .string ⟨#[]⟩, .slice none 0 0, .slice none 0 0] : Array Value)[· % 7]!)) [(0, .agg (mat W u s a c))] = some (mat W u s a c) := by
 have e0 : (Array.range (1 * 7)).map ((#[.bool false, .bool false, .slice none 0 0, .int .i64 0, .string ⟨#[]⟩, .slice none 0 0, .slice none 0 0] : Array Value)[· % 7]!) = ([.bool false, .bool false, .slice none 0 0, .int .i64 0, .string ⟨#[]⟩, .slice none 0 0, .slice none 0 0] : List Value).toArray := by kernel_rfl
 rw [e0]
 have h1 := fill_one (fun i => some (i * 7, 7)) 0 (.agg (mat W u s a c)) [] [] [.bool false, .bool false, .slice none 0 0, .int .i64 0, .string ⟨#[]⟩, .slice none 0 0, .slice none 0 0] [] rfl rfl
 simp only [List.append_nil, List.nil_append, Value.cells] at h1
 exact h1.trans rfl
theorem wpList_maslice {ops : Array Oper} {rest : List Oper} {o : Oper} {a : Act} {w : World} {Q : Exit → Act → World → Prop} (hg : o.guard = none) (x : Operand) (ho : o.op = .buildSlice 93 1 #[(0, x)]) (d : Option Tmp) (hd : o.dst = d) (W : Whole) (u : Value) (s : ByteArray) (p c : Value) (hx : a.eval x = .agg (mat W u s p c))
    (h : wpList Tryz.prog ops Q rest (a.put d (.slice (some ⟨w.heap.size, 0, none⟩) 1 1)) (w.alloc (.cells (mat W u s p c) 67))) : wpList Tryz.prog ops Q (o :: rest) a w := by
 subst hd
 obtain ⟨i0, hi0, hz0, hz1, hz2⟩ := info_parts infoMat
 refine wpList_buildSlice hg 93 67 1 #[(0, x)] ho (mat W u s p c) i0 _ Tryz.underlying93 hi0 hz0 (by rw [hz1]; decide) (by rw [hz1]; decide) ?_ h
 rw [hz1]
 have := mat_fill W u s p c
 have e : (Value.agg #[.bool false, .bool false, .slice none 0 0, .int .i64 0, .string ⟨#[]⟩, .slice none 0 0, .slice none 0 0]).cells.size = 7 := rfl
 have e2 : ((#[(0, x)] : Array (Nat × Operand)).map fun (i, x) => (i, a.eval x)).toList = [(0, .agg (mat W u s p c))] := by simp [hx]
 rw [e, e2]
 exact this
theorem ruRow {w : World} {b : Nat} {W : Whole} {u : Value} {q : Bool} (h : w.heap[b]? = some (.cells (ruV W u q).toArray 92 (0, 0))) : w.rangeAt b 0 [.bool W.bg, .bool W.en, u, .int .i64 W.g] := fun j x hx => by
 have h4 : j < 4 := (List.getElem?_eq_some_iff.1 hx).1
 rw [Lib.cell_of_heap h, Nat.zero_add]
 match j, h4, hx with
 | 0, _, hx => exact hx
 | 1, _, hx => exact hx
 | 2, _, hx => exact hx
 | 3, _, hx => exact hx
theorem infoRu5 (W : Whole) (u : Value) (q : Bool) : (Tryz.prog.info? 92).map (·.size) = some (ruV W u q).toArray.size := by kernel_rfl
theorem ruV_all {W : Whole} {u : Value} {b : Bool} (hu : u.oneCell' = true) : (ruV W u b).toArray.all (·.oneCell') = true := by
 have h1 : ∀ b, (Value.bool b).oneCell' = true := fun _ => rfl
 have h2 : (Value.int .i64 W.g).oneCell' = true := rfl
 simp [ruV, h1, h2, hu]
structure SpL (w wr : World) (lo : Nat) (s : ByteArray) (xs : List Pat) (sk : Nat → Bool) (i : Nat) (v : Value) (L : List Tok) : Prop where
 row : TkR wr v L
 fresh : ∀ g, v.ownBlock = some g → lo ≤ g
 len : L.length ≤ i
 ile : i ≤ s.size
 keep : Keeps [] w wr
 says : ∀ l e, Tks s xs sk i l e → Tks s xs sk 0 (L ++ l) e
end Go.Proofs.YtnfojonmohijpabGreatDoor
