/-
  DERIVED. The reference's 'Tokens', whole. Conditions: the rules lie in memory.
-/
import Derived.Test.YtnfojonmohijpaaGreatDoorJVB
set_option linter.unusedSimpArgs false
set_option linter.unusedVariables false
namespace Go.Proofs.YtnfojonmohijpaaGreatDoor
open Go.RowKit
def BestK (s : ByteArray) (xs : List Pat) (i k r j : Nat) : Prop :=
 (j = i ∧ r = 0 ∧ ∀ (m q : Nat) (x : Pat), i < m → m ≤ s.size → q < k → xs[q]? = some x → ¬ Mt s x i m) ∨
 (i < j ∧ j ≤ s.size ∧ r < k ∧ (∃ x, xs[r]? = some x ∧ Mt s x i j) ∧ (∀ (q : Nat) (x : Pat), q < r → xs[q]? = some x → ¬ Mt s x i j) ∧ ∀ (m q : Nat) (x : Pat), j < m → m ≤ s.size → q < k → xs[q]? = some x → ¬ Mt s x i m)
theorem BestK.zero (s : ByteArray) (xs : List Pat) (i : Nat) : BestK s xs i 0 0 i := Or.inl ⟨rfl, rfl, fun m q x _ _ h => by omega⟩
theorem BestK.le {s : ByteArray} {xs : List Pat} {i k r j : Nat} (h : BestK s xs i k r j) (hi : i ≤ s.size) : i ≤ j ∧ j ≤ s.size ∧ r ≤ k := by
 rcases h with ⟨rfl, rfl, _⟩ | ⟨h1, h2, h3, _⟩ <;> omega
theorem BestK.same {s : ByteArray} {xs : List Pat} {i k r j : Nat} {x : Pat} (h : BestK s xs i k r j) (hx : xs[k]? = some x) (hn : ∀ m, j < m → m ≤ s.size → ¬ Mt s x i m) : BestK s xs i (k + 1) r j := by
 have key : ∀ (m q : Nat) (y : Pat), j < m → m ≤ s.size → q < k + 1 → xs[q]? = some y → (∀ (m q : Nat) (x : Pat), j < m → m ≤ s.size → q < k → xs[q]? = some x → ¬ Mt s x i m) → ¬ Mt s y i m := by
  intro m q y h1 h2 h3 h4 h5
  by_cases e : q = k
  ·subst e
   rw [hx] at h4
   cases h4
   exact hn m h1 h2
  ·exact h5 m q y h1 h2 (by omega) h4
 rcases h with ⟨rfl, rfl, h⟩ | ⟨h1, h2, h3, h4, h5, h6⟩
 ·exact Or.inl ⟨rfl, rfl, fun m q y a b c d => key m q y a b c d h⟩
 ·exact Or.inr ⟨h1, h2, by omega, h4, h5, fun m q y a b c d => key m q y a b c d h6⟩
theorem BestK.more {s : ByteArray} {xs : List Pat} {i k r j j' : Nat} {x : Pat} (h : BestK s xs i k r j) (hx : xs[k]? = some x) (h1 : j < j') (h2 : j' ≤ s.size) (hm : Mt s x i j') (hn : ∀ m, j' < m → m ≤ s.size → ¬ Mt s x i m) : BestK s xs i (k + 1) k j' := by
 have ho : i ≤ j ∧ ∀ (m q : Nat) (x : Pat), j < m → m ≤ s.size → q < k → xs[q]? = some x → ¬ Mt s x i m := by
  rcases h with ⟨rfl, rfl, h⟩ | ⟨a, _, _, _, _, h⟩
  ·exact ⟨Nat.le_refl _, h⟩
  ·exact ⟨by omega, h⟩
 refine Or.inr ⟨by omega, h2, by omega, ⟨x, hx, hm⟩, fun q y hq hy => ho.2 j' q y h1 h2 hq hy, fun m q y a b c d => ?_⟩
 by_cases e : q = k
 ·subst e
  rw [hx] at d
  cases d
  exact hn m a b
 ·exact ho.2 m q y (by omega) b (by omega) d
theorem BestK.fin {s : ByteArray} {xs : List Pat} {i r j : Nat} {k : Nat} (h : BestK s xs i k r j) (hk : xs.length = k) : (j = i ∧ NoneT s xs i) ∨ (r < k ∧ BestT s xs i r j) := by
 have hq : ∀ (q : Nat) (x : Pat), xs[q]? = some x → q < k := fun q x h => by rw [← hk]; exact (List.getElem?_eq_some_iff.1 h).1
 rcases h with ⟨rfl, rfl, h⟩ | ⟨h1, h2, h3, h4, h5, h6⟩
 ·exact Or.inl ⟨rfl, fun m q x a b c => h m q x a b (hq q x c) c⟩
 ·exact Or.inr ⟨h3, h1, h2, h4, h5, fun m q x a b c => h6 m q x a b (hq q x c) c⟩
def InLp (n : Nat) (fe : Nat → Bool) (e0 r0 k en rl z : Nat) : Prop :=
 (en = e0 ∧ rl = r0 ∧ e0 ≤ z ∧ z ≤ n ∧ ∀ m, z < m → m ≤ n → fe m = false) ∨ (en = z + 1 ∧ rl = k ∧ e0 < en ∧ en ≤ n ∧ fe en = true ∧ ∀ m, en < m → m ≤ n → fe m = false)
theorem InLp.fin {s : ByteArray} {xs : List Pat} {i e0 r0 k en rl z : Nat} {fe : Nat → Bool} {x : Pat} (h : InLp s.size fe e0 r0 k en rl z) (hz : z ≤ en) (hB : BestK s xs i k r0 e0) (hx : xs[k]? = some x) (hf : ∀ q, q ≤ s.size → (fe q = true ↔ Mt s x i q)) : BestK s xs i (k + 1) rl en := by
 have hno : ∀ {m}, m ≤ s.size → fe m = false → ¬ Mt s x i m := fun hm h hM => by rw [(hf _ hm).2 hM] at h; cases h
 rcases h with ⟨rfl, rfl, h1, h2, h3⟩ | ⟨_, rfl, h1, h2, h3, h4⟩
 ·exact hB.same hx fun m a b => hno b (h3 m (by omega) b)
 ·exact hB.more hx h1 h2 ((hf _ h2).1 h3) fun m a b => hno b (h4 m a b)
def NmL (s : ByteArray) (gd : Bool) (k : Nat) : Prop := (gd = true ∧ 1 ≤ s.size ∧ s.size ≤ 8 ∧ k ≤ s.size ∧ ∀ i, i < k → 97 ≤ at' s i ∧ at' s i ≤ 122) ∨ (gd = false ∧ k ≤ s.size ∧ ¬ NameOk s)
theorem SpL.keepD {w wr w' : World} {lo : Nat} {s : ByteArray} {xs : List Pat} {sk : Nat → Bool} {i : Nat} {v : Value} {L : List Tok} {S : List Nat} (h : SpL w wr lo s xs sk i v L) (hk : Keeps S wr w') (hv : ∀ g, v.ownBlock = some g → g ∉ S) (hS : ∀ x, x ∈ S → w.heap.size ≤ x) : SpL w w' lo s xs sk i v L :=
 ⟨h.row.keep hk hv, h.fresh, h.len, h.ile, keepsM h.keep hk fun x hx => Or.inr (hS x hx), h.says⟩
theorem lnC_succ (s : ByteArray) (i : Nat) : lnC s (i + 1) = if at' s i = 10 then ((lnC s i).1 + 1, 1) else ((lnC s i).1, (lnC s i).2 + 1) := rfl
theorem infoPT : (Tryz.prog.info? 96).map (fun i => (i.zero, i.size, i.bytes)) = some (some (.pointer none), 1, 8) := by kernel_rfl
def TkPost (rs : List Rul) (s : ByteArray) (w : World) (e : Ending) (w' : World) : Prop := ∃ (vl : Value) (L : List Tok) (j : Nat) (n : Int), e = .returned (.tuple #[vl, .int .i64 j, .int .i64 n]) ∧ TokA rs s L j n ∧ TkR w' vl L ∧ (∀ g, vl.ownBlock = some g → w.heap.size ≤ g) ∧ Keeps [] w w'
set_option maxRecDepth 100000 in
set_option maxHeartbeats 8000000 in
theorem tokens_ref (v : Value) (rs : List Rul) (s : ByteArray) (w : World) (hr : RulIs w v rs) : Calls Tryz.prog 55 #[v, .string s] w (TkPost rs s w) := by
 have hlen := hr.len
 have hlen' : (rs.length : Int) ≤ 9223372036854775807 := by omega
 have hcase : (∃ a c n, v = .slice a n c ∧ n = rs.length ∧ (n = 0 ∨ 8 < n)) ∨ ∃ g o c, v = .slice (some ⟨g, o, none⟩) rs.length c ∧ RuC w g o rs ∧ 1 ≤ rs.length ∧ rs.length ≤ 8 := by
  rcases hr.rd with ⟨rfl, a, c, rfl⟩ | ⟨g, o, c, rfl, h, hcap⟩
  ·exact Or.inl ⟨a, c, 0, rfl, rfl, Or.inl rfl⟩
  ·by_cases h1 : rs.length = 0 ∨ 8 < rs.length
   ·exact Or.inl ⟨_, c, _, rfl, rfl, h1⟩
   ·exact Or.inr ⟨g, o, c, rfl, h, by omega, by omega⟩
 rcases hcase with ⟨a, c, n, rfl, hn, h⟩ | ⟨g, o, c, rfl, hc, h1, h8⟩
 ·have HA : Hid (TokA rs s [] 0 4) := ⟨[], 4, Or.inl ⟨by omega, rfl, rfl⟩, Or.inl ⟨by decide, rfl, rfl, rfl⟩⟩
  have hn' : (n : Int) ≤ 9223372036854775807 := by omega
  clear hlen hlen' hr hn
  rcases h with rfl | h
  ·go_enter Tryz.func55, Tryz.ntmps55
   go_wp2_with fail
   go_ret3
   exact ⟨_, [], 0, 4, rfl, HA.out, TkR.zero _, (fun g h => by cases h), Keeps.refl _ _⟩
  ·have d1 : decide ((n : Int) < 1) = false := by simp; omega
   have d1' : ¬ (n : Int) < 1 := by omega
   have d8 : decide ((8 : Int) < (n : Int)) = true := by simp; omega
   have d8' : (8 : Int) < (n : Int) := by omega
   clear h
   go_enter Tryz.func55, Tryz.ntmps55
   go_wp2_with fail
   go_ret3
   exact ⟨_, [], 0, 4, rfl, HA.out, TkR.zero _, (fun g h => by cases h), Keeps.refl _ _⟩
 obtain ⟨n, hn⟩ : ∃ n, n = rs.length := ⟨_, rfl⟩
 rw [← hn] at h1 h8 hlen hlen' ⊢
 have HN : Hid (n = rs.length ∧ 1 ≤ n ∧ n ≤ 8) := ⟨hn, h1, h8⟩
 have d1 : decide ((n : Int) < 1) = false := by simp; omega
 have d1' : ¬ (n : Int) < 1 := by omega
 have d8 : decide ((8 : Int) < (n : Int)) = false := by simp; omega
 have d8' : (n : Int) ≤ 8 := by omega
 have d8n : ¬ (8 : Int) < (n : Int) := by omega
 have HC : Hid (∀ (X : World) (k : Nat) (r : Rul), Keeps [] w X → rs[k]? = some r → X.cell? ⟨g, o + k * 3, none⟩ = some (.string r.nm) ∧ X.cell? ⟨g, o + k * 3 + 1, none⟩ = some (.string r.pt) ∧ X.cell? ⟨g, o + k * 3 + 2, none⟩ = some (.bool r.sk)) := fun X k r hk hkr => by
  have h := hc.keep hk (by simp) k r hkr
  exact ⟨h 0 _ rfl, h 1 _ rfl, h 2 _ rfl⟩
 clear hlen hlen' hr hn h1 h8 hc
 go_enter Tryz.func55, Tryz.ntmps55
 go_wp2_with fail
 go_loopw [7, 8] (fun q7 q8 wr => ∃ i : Nat, q8 = .int .i64 i ∧ i ≤ n ∧ TkLp w wr s rs q7 i) (fun _ q _ => n - (intOf q).toNat)
 case atStart => exact ⟨0, rfl, Nat.zero_le _, TkLp.zero _ _ _⟩
 case round =>
  obtain ⟨i, rfl, hi, hL⟩ := hrel
  obtain ⟨xa, xn, xc, rfl⟩ := hL.sl
  have hK := hL.keeps
  have HL : Hid (TkLp w wr s rs (.slice xa xn xc) i) := hL
  by_cases hlt : i < n
  rotate_left
  ·have hni : ¬ (i : Int) < (n : Int) := by omega
   have hie : i = n := by omega
   subst hie
   clear hlt hi hL
   by_cases hs : s.size ≤ 100
   rotate_left
   ·have hs' : (100 : Int) < (s.size : Int) := by omega
    have HE : Hid (TokA rs s [] 0 1) := by
     obtain ⟨Ws, h1, h2, _, _⟩ := HL.out
     exact ⟨Ws, 0, Or.inr ⟨by have := HN.out; omega, by have := HN.out; omega, Or.inr ⟨rfl, by have := HN.out; omega, h2⟩⟩, Or.inr ⟨rfl, Or.inl ⟨by omega, rfl, rfl, rfl⟩⟩⟩
    clear hs
    go_wp2_with fail
    go_ret3
    exact ⟨_, [], 0, 1, rfl, HE.out, TkR.zero _, (fun g h => by cases h), hK⟩
   have hs' : (s.size : Int) ≤ 100 := by omega
   have hs1 : ¬ (100 : Int) < (s.size : Int) := by omega
   have HS : Hid (s.size ≤ 100) := hs
   obtain ⟨Ws, hWl, hWk, _, ⟨h100, _⟩ | ⟨_, recs, hmap, hrow, hfr, hTL⟩⟩ := HL.out
   ·omega
   have hrl : recs.length = i := by rw [← hWl, ← hmap, List.length_map]
   obtain ⟨gt, ct, hv7, _, hgt⟩ := World.ownsRow.form hrow (by have := HN.out; omega)
   rw [hrl] at hv7
   rw [hv7] at hrow hfr hTL ⊢
   have HW : Hid (Ws.length = i ∧ recs.length = i ∧ recs.map (·.W) = Ws ∧ RulesA rs Ws 0 ∧ w.heap.size ≤ gt) := ⟨hWl, hrl, hmap, Or.inr ⟨by have := HN.out; omega, by have := HN.out; omega, Or.inr ⟨rfl, by have := HN.out; omega, hWk⟩⟩, hfr gt rfl⟩
   obtain ⟨lo0, hlo0⟩ : ∃ z, z = wr.heap.size := ⟨_, rfl⟩
   have HLO : Hid (gt < lo0 ∧ w.heap.size ≤ lo0) := ⟨by omega, by have := hK.size; omega⟩
   have HLW : Hid (lo0 ≤ wr.heap.size) := Nat.le_of_eq hlo0
   clear hlo0
   have SP0 : SpL w wr lo0 s (Ws.map (·.x)) (skO rs) 0 (.slice none 0 0) [] := ⟨TkR.zero _, (fun g h => by cases h), Nat.le_refl _, Nat.zero_le _, hK, fun l e h => h⟩
   have HT0 : Hid (TXs w wr s rs [gt] recs) := hTL
   have HR0 : Hid (TsR wr (.slice (some ⟨gt, 0, none⟩) i ct) recs) := hrow
   clear hv7 hs hWl hWk hmap hrow hfr hTL hgt hrl HL
   obtain ⟨n, hn⟩ : ∃ n : Nat, n = i := ⟨_, rfl⟩
   subst hn
   go_wp2_with fail
   go_loopw [16, 17, 18, 19] (fun q16 q17 q18 q19 wr => ∃ (j : Nat) (L : List Tok), q17 = .int .i64 j ∧ q18 = .int .i64 ((lnC s j).1 : Nat) ∧ q19 = .int .i64 ((lnC s j).2 : Nat) ∧ SpL w wr lo0 s (Ws.map (·.x)) (skO rs) j q16 L ∧ TsR wr (.slice (some ⟨gt, 0, none⟩) n ct) recs ∧ TXs w wr s rs (gt :: q16.ownBlock.toList) recs ∧ lo0 ≤ wr.heap.size) (fun _ q _ _ _ => s.size - (intOf q).toNat)
   case atStart => exact ⟨0, [], rfl, rfl, rfl, SP0, HR0.out, HT0.out, HLW.out⟩
   case round =>
    clear SP0 HT0 HR0 HLW hK
    obtain ⟨j, L, rfl, rfl, rfl, SP, hTs, hTL, hlw⟩ := hrel
    obtain ⟨ya, yn, yc, rfl⟩ := ownsRow_sl SP.row
    have hjs := SP.ile
    have hj0 : (0 : Int) ≤ (j : Int) := by omega
    have hlp := lnC_pos s j
    by_cases hlt : j < s.size
    rotate_left
    ·have hnl : ¬ (j : Int) < (s.size : Int) := by omega
     have HE : Hid (TokA rs s L j 0) := by
      have h := SP.says [] j (.fin j (fun m k x h1 h2 => by omega))
      rw [List.append_nil] at h
      exact ⟨Ws, 0, HW.out.2.2.2.1, Or.inr ⟨rfl, Or.inr ⟨HS.out, rfl, h⟩⟩⟩
     have hrow := SP.row
     have hkE := SP.keep
     have hfrE : ∀ g, (Value.slice ya yn yc).ownBlock = some g → w.heap.size ≤ g := fun g hg => Nat.le_trans HLO.out.2 (SP.fresh g hg)
     clear hlt hjs SP hTs hTL hlp
     go_wp2_with fail
     go_ret3
     exact ⟨_, L, j, 0, rfl, HE.out, hrow, hfrE, hkE⟩
    have hlt' : (j : Int) < (s.size : Int) := by omega
    have HJ : Hid (j < s.size) := hlt
    have HSP : Hid (SpL w wr lo0 s (Ws.map (·.x)) (skO rs) j (.slice ya yn yc) L) := SP
    have HTs : Hid (TsR wr (.slice (some ⟨gt, 0, none⟩) n ct) recs) := hTs
    have HTL : Hid (TXs w wr s rs (gt :: (Value.slice ya yn yc).ownBlock.toList) recs) := hTL
    have HLW : Hid (lo0 ≤ wr.heap.size) := hlw
    clear hlt SP hTs hTL hlp hlw
    go_wp2_with fail
    go_loopw [20, 21, 22] (fun q20 q21 q22 wr => ∃ (k en rl : Nat), q22 = .int .i64 k ∧ q20 = .int .i64 en ∧ q21 = .int .i64 rl ∧ k ≤ n ∧ BestK s (Ws.map (·.x)) j k rl en ∧ SpL w wr lo0 s (Ws.map (·.x)) (skO rs) j (.slice ya yn yc) L ∧ TsR wr (.slice (some ⟨gt, 0, none⟩) n ct) recs ∧ TXs w wr s rs (gt :: (Value.slice ya yn yc).ownBlock.toList) recs ∧ lo0 ≤ wr.heap.size) (fun _ _ q _ => n - (intOf q).toNat)
    case atStart => exact ⟨0, j, 0, rfl, rfl, rfl, Nat.zero_le _, BestK.zero _ _ _, HSP.out, HTs.out, HTL.out, HLW.out⟩
    case round =>
     clear HSP HTs HTL HLW
     obtain ⟨k, en, rl, rfl, rfl, rfl, hkn, hB, SP, hTs, hTL, hlw⟩ := hrel
     have HLW : Hid (lo0 ≤ wr.heap.size) := hlw
     clear hlw
     have hle := hB.le hjs
     have hk0 : (0 : Int) ≤ (k : Int) := by omega
     by_cases hkl : k < n
     ·have hkl' : (k : Int) < (n : Int) := by omega
      obtain ⟨rc, hrc⟩ : ∃ rc, recs[k]? = some rc := ⟨_, List.getElem?_eq_getElem (by have := HW.out.2.1; omega)⟩
      have HWk : Hid ((Ws.map (·.x))[k]? = some rc.W.x) := by
       show (Ws.map (·.x))[k]? = some rc.W.x
       rw [← HW.out.2.2.1, List.map_map, List.getElem?_map, hrc]; rfl
      obtain ⟨Z, hT, hZl, hZX, hZo⟩ := hTL.each k rc hrc
      obtain ⟨hD0, hKP, hnl, hok⟩ := hTL.fact k rc hrc
      have hapart := hTL.apart hrc
      have hct : wr.cell? ⟨gt, k, none⟩ = some (.pointer (some ⟨rc.b, 0, none⟩)) := by
       have h := hTs
       unfold TsR at h
       rw [HW.out.2.1] at h
       rw [World.ownsRow.cellAt h k (by omega), List.getElem?_map, hrc]; rfl
      have hcp := hT.xb.main.1
      have hcr := hT.pb.rbe.1
      have HK : Hid (k < n) := hkl
      have HBK : Hid (BestK s (Ws.map (·.x)) j k rl en) := hB
      have HRC : Hid (recs[k]? = some rc) := hrc
      have hen : (en : Int) ≤ 100 := by have := HS.out; omega
      have hrl8 : (rl : Int) ≤ 8 := by have := HN.out; omega
      have HEN : Hid (en ≤ s.size) := hle.2.1
      have HQ : Hid (∀ X, TX X rc.b rc.bp s rc.p rc.nds rc.D rc.E Z → (∀ x, x ∈ Z → x < X.heap.size) → Calls Tryz.prog 48 #[.pointer (some ⟨rc.b, 0, none⟩), .int .i64 rc.p.root, .int .i64 j] X fun e w' => ∃ v, e = .returned v ∧ EA w' s rc.nds rc.D Z rc.p.root j v ∧ TX w' rc.b rc.bp s rc.p rc.nds rc.D rc.E Z ∧ Keeps rc.D X w') := fun X hX hXl => ends_all s rc.nds hnl 1000 (Nat.le_refl _) rc.p.root hKP.nk X rc.b rc.bp rc.p rc.D rc.E Z j hX hXl hjs
      have HF : Hid (∀ q, MN s rc.nds (.node rc.p.root) j q ↔ Mt s rc.W.x j q) := fun q => hKP.iff.symm
      clear hle hkn hkl hB hrc hok
      go_upto_region 38 with (fail)
      have hkD : Keeps [] wr wr.drew := (Keeps.refl [] wr).drewN 1
      have hS0 : wr.drew.cell? ⟨gt, k, none⟩ = some (.pointer (some ⟨rc.b, 0, none⟩)) ∧ wr.drew.cell? ⟨rc.b, 0, none⟩ = some (.pointer (some ⟨rc.bp, 0, none⟩)) ∧ wr.drew.cell? ⟨rc.bp, 2, none⟩ = some (.int .i64 rc.p.root) := ⟨hct, hcp, hcr⟩
      have HALL : Hid (SpL w wr.drew lo0 s (Ws.map (·.x)) (skO rs) j (.slice ya yn yc) L ∧ TsR wr.drew (.slice (some ⟨gt, 0, none⟩) n ct) recs ∧ TXs w wr.drew s rs (gt :: (Value.slice ya yn yc).ownBlock.toList) recs ∧ TX wr.drew rc.b rc.bp s rc.p rc.nds rc.D rc.E Z ∧ (∀ x, x ∈ Z → x < wr.drew.heap.size) ∧ lo0 ≤ wr.drew.heap.size) := ⟨SP.keepD hkD (by simp) (by simp), hTs.keep hkD (by simp), hTL.keep hkD (by simp), hT.keep hkD (by simp), hZl, Nat.le_trans HLW.out hkD.size⟩
      clear hkD hct hcp hcr SP hTs hTL hT hZl
      refine wp_region_held (S := fun X => X.cell? ⟨gt, k, none⟩ = some (.pointer (some ⟨rc.b, 0, none⟩)) ∧ X.cell? ⟨rc.b, 0, none⟩ = some (.pointer (some ⟨rc.bp, 0, none⟩)) ∧ X.cell? ⟨rc.bp, 2, none⟩ = some (.int .i64 rc.p.root)) (by kernel_rfl) ?_
      change wpAnyH _ _ _ _ _ _ _ _ (World.drew _)
      generalize wr.drew = X0 at *
      refine wpAnyH_tk 0 _ (some 122) (.slice (some ⟨gt, 0, none⟩) n ct) rfl rfl (by kernel_rfl) (by kernel_rfl) (by kernel_rfl) (fun _ _ _ h => h) (Or.inl ⟨by rfl, fun X hX => by go_simp⟩) hS0 ?_
      simp only [Act.put, List.setIfInBounds_toArray, List.set_cons_zero, List.set_cons_succ]
      refine wpAnyH_tk 1 _ (some 123) (.int .i64 k) rfl rfl (by kernel_rfl) (by kernel_rfl) (by kernel_rfl) (fun _ _ _ h => h) (Or.inl ⟨by rfl, fun X hX => by go_simp⟩) hS0 ?_
      simp only [Act.put, List.setIfInBounds_toArray, List.set_cons_zero, List.set_cons_succ]
      refine wpAnyH_tk 2 _ (some 124) (.pointer (some ⟨gt, k, none⟩)) rfl rfl (by kernel_rfl) (by kernel_rfl) (by kernel_rfl) (fun _ _ _ h => h) (Or.inl ⟨by rfl, fun X hX => by go_simp⟩) hS0 ?_
      simp only [Act.put, List.setIfInBounds_toArray, List.set_cons_zero, List.set_cons_succ]
      refine wpAnyH_tk 3 _ (some 125) (.pointer (some ⟨rc.b, 0, none⟩)) rfl rfl (by kernel_rfl) (by kernel_rfl) (by kernel_rfl) (fun _ _ _ h => h) (Or.inl ⟨by rfl, fun X hX => by (obtain ⟨q0, q1, q2⟩ := hX; go_simp)⟩) hS0 ?_
      simp only [Act.put, List.setIfInBounds_toArray, List.set_cons_zero, List.set_cons_succ]
      refine wpAnyH_tk 4 _ (some 126) (.slice (some ⟨gt, 0, none⟩) n ct) rfl rfl (by kernel_rfl) (by kernel_rfl) (by kernel_rfl) (fun _ _ _ h => h) (Or.inl ⟨by rfl, fun X hX => by go_simp⟩) hS0 ?_
      simp only [Act.put, List.setIfInBounds_toArray, List.set_cons_zero, List.set_cons_succ]
      refine wpAnyH_tk 5 _ (some 127) (.int .i64 k) rfl rfl (by kernel_rfl) (by kernel_rfl) (by kernel_rfl) (fun _ _ _ h => h) (Or.inl ⟨by rfl, fun X hX => by go_simp⟩) hS0 ?_
      simp only [Act.put, List.setIfInBounds_toArray, List.set_cons_zero, List.set_cons_succ]
      refine wpAnyH_tk 6 _ (some 128) (.pointer (some ⟨gt, k, none⟩)) rfl rfl (by kernel_rfl) (by kernel_rfl) (by kernel_rfl) (fun _ _ _ h => h) (Or.inl ⟨by rfl, fun X hX => by go_simp⟩) hS0 ?_
      simp only [Act.put, List.setIfInBounds_toArray, List.set_cons_zero, List.set_cons_succ]
      refine wpAnyH_tk 7 _ (some 129) (.pointer (some ⟨rc.b, 0, none⟩)) rfl rfl (by kernel_rfl) (by kernel_rfl) (by kernel_rfl) (fun _ _ _ h => h) (Or.inl ⟨by rfl, fun X hX => by (obtain ⟨q0, q1, q2⟩ := hX; go_simp)⟩) hS0 ?_
      simp only [Act.put, List.setIfInBounds_toArray, List.set_cons_zero, List.set_cons_succ]
      refine wpAnyH_tk 8 _ (some 130) (.pointer (some ⟨rc.b, 0, none⟩)) rfl rfl (by kernel_rfl) (by kernel_rfl) (by kernel_rfl) (fun _ _ _ h => h) (Or.inl ⟨by rfl, fun X hX => by go_simp⟩) hS0 ?_
      simp only [Act.put, List.setIfInBounds_toArray, List.set_cons_zero, List.set_cons_succ]
      refine wpAnyH_tk 9 _ (some 131) (.pointer (some ⟨rc.b, 0, none⟩)) rfl rfl (by kernel_rfl) (by kernel_rfl) (by kernel_rfl) (fun _ _ _ h => h) (Or.inl ⟨by rfl, fun X hX => by go_simp⟩) hS0 ?_
      simp only [Act.put, List.setIfInBounds_toArray, List.set_cons_zero, List.set_cons_succ]
      refine wpAnyH_tk 10 _ (some 132) (.pointer (some ⟨rc.bp, 0, none⟩)) rfl rfl (by kernel_rfl) (by kernel_rfl) (by kernel_rfl) (fun _ _ _ h => h) (Or.inl ⟨by rfl, fun X hX => by (obtain ⟨q0, q1, q2⟩ := hX; go_simp)⟩) hS0 ?_
      simp only [Act.put, List.setIfInBounds_toArray, List.set_cons_zero, List.set_cons_succ]
      refine wpAnyH_tk 11 _ (some 133) (.pointer (some ⟨rc.bp, 0, none⟩)) rfl rfl (by kernel_rfl) (by kernel_rfl) (by kernel_rfl) (fun _ _ _ h => h) (Or.inl ⟨by rfl, fun X hX => by go_simp⟩) hS0 ?_
      simp only [Act.put, List.setIfInBounds_toArray, List.set_cons_zero, List.set_cons_succ]
      refine wpAnyH_tk 12 _ (some 134) (.pointer (some ⟨rc.bp, 2, none⟩)) rfl rfl (by kernel_rfl) (by kernel_rfl) (by kernel_rfl) (fun _ _ _ h => h) (Or.inl ⟨by rfl, fun X hX => by go_simp⟩) hS0 ?_
      simp only [Act.put, List.setIfInBounds_toArray, List.set_cons_zero, List.set_cons_succ]
      refine wpAnyH_tk 13 _ (some 135) (.int .i64 rc.p.root) rfl rfl (by kernel_rfl) (by kernel_rfl) (by kernel_rfl) (fun _ _ _ h => h) (Or.inl ⟨by rfl, fun X hX => by (obtain ⟨q0, q1, q2⟩ := hX; go_simp)⟩) hS0 ?_
      simp only [Act.put, List.setIfInBounds_toArray, List.set_cons_zero, List.set_cons_succ]
      refine wpAnyH_tk 14 _ (some 136) (.int .i64 j) rfl rfl (by kernel_rfl) (by kernel_rfl) (by kernel_rfl) (fun _ _ _ h => h) (Or.inl ⟨by rfl, fun X hX => by go_simp⟩) hS0 ?_
      simp only [Act.put, List.setIfInBounds_toArray, List.set_cons_zero, List.set_cons_succ]
      refine wpAnyH_ready (rs := [15]) (by kernel_rfl) (by simp) ?_
      refine AllReadyH.cons rfl (fun K hKK => ?_) AllReadyH.nil
      go_simp
      refine (HQ.out X0 HALL.out.2.2.2.1 HALL.out.2.2.2.2.1).mono ?_
      rintro e w2 ⟨v, rfl, hEA, hT2, hk2⟩
      have hdn : ∀ x, x = gt ∨ (Value.slice ya yn yc).ownBlock = some x → x ∉ rc.D := fun x hx => hapart x (by rcases hx with rfl | hx; simp; simp [hx])
      have hT2L : TXs w w2 s rs (gt :: (Value.slice ya yn yc).ownBlock.toList) recs := HALL.out.2.2.1.ends HRC.out hT2 HALL.out.2.2.2.2.1 hZX hZo hk2
      have hTs2 : TsR w2 (.slice (some ⟨gt, 0, none⟩) n ct) recs := HALL.out.2.1.keep hk2 (fun x hx => hdn x (Or.inl (by simpa [Value.ownBlock] using hx.symm)))
      have hSP2 : SpL w w2 lo0 s (Ws.map (·.x)) (skO rs) j (.slice ya yn yc) L := HALL.out.1.keepD hk2 (fun x hx => hdn x (Or.inr hx)) hD0
      have hS1 : w2.cell? ⟨gt, k, none⟩ = some (.pointer (some ⟨rc.b, 0, none⟩)) ∧ w2.cell? ⟨rc.b, 0, none⟩ = some (.pointer (some ⟨rc.bp, 0, none⟩)) ∧ w2.cell? ⟨rc.bp, 2, none⟩ = some (.int .i64 rc.p.root) := ⟨(World.cell?_of_block (hk2.block gt (World.block_lt_of_cell? _ _ hS0.1) (hdn gt (Or.inl rfl)))).trans hS0.1, hT2.xb.main.1, hT2.pb.rbe.1⟩
      refine hKK.out _ _ hS1 (fun _ => ?_)
      clear hKK K
      obtain ⟨h, c2, fe, rfl, hRe, _, _, hsay⟩ := hEA
      refine wpAnyH_tk 16 _ (some 23) (.slice (some ⟨h, 0, none⟩) (s.size + 1) c2) rfl rfl (by kernel_rfl) (by kernel_rfl) (by kernel_rfl) (fun _ _ _ h => h) (Or.inl ⟨by rfl, fun X hX => by go_simp⟩) hS1 ?_
      simp only [Act.put, List.setIfInBounds_toArray, List.set_cons_zero, List.set_cons_succ]
      refine wpAnyH_done (by kernel_rfl) ?_ _
      have HSY : Hid (∀ q, q ≤ s.size → (fe q = true ↔ Mt s rc.W.x j q)) := fun q hq => (hsay q hq).trans (HF.out q)
      have HA2 : Hid (SpL w w2 lo0 s (Ws.map (·.x)) (skO rs) j (.slice ya yn yc) L ∧ TsR w2 (.slice (some ⟨gt, 0, none⟩) n ct) recs ∧ TXs w w2 s rs (gt :: (Value.slice ya yn yc).ownBlock.toList) recs ∧ lo0 ≤ w2.heap.size) := ⟨hSP2, hTs2, hT2L, Nat.le_trans HALL.out.2.2.2.2.2 hk2.size⟩
      obtain ⟨N, HNN⟩ : ∃ N, Hid (N = s.size + 1) := ⟨_, rfl⟩
      rw [← HNN.out] at hRe ⊢
      have HIL0 : Hid (InLp s.size fe en rl k en rl s.size) := Or.inl ⟨rfl, rfl, HEN.out, Nat.le_refl _, fun m h1 h2 => by omega⟩
      clear hsay hS0 hS1 hT2 hk2 HALL hdn hT2L hTs2 hSP2 hapart hD0 hKP hnl hZX hZo HQ HF
      go_wp2_with fail
      go_loopw [20, 21, 24] (fun q20 q21 q24 wq => ∃ (en' rl' z : Nat), q20 = .int .i64 en' ∧ q21 = .int .i64 rl' ∧ q24 = .int .i64 z ∧ InLp s.size fe en rl k en' rl' z ∧ wq = w2) (fun _ _ q _ => (intOf q).toNat)
      case atStart => exact ⟨en, rl, s.size, rfl, rfl, rfl, HIL0.out, rfl⟩
      case round =>
       clear HIL0
       obtain ⟨en', rl', z, rfl, rfl, rfl, hIL, rfl⟩ := hrel
       by_cases hze : en' < z
       ·have hze' : (en' : Int) < (z : Int) := by omega
        rcases hIL with ⟨rfl, rfl, h1, h2, h3⟩ | ⟨h1, _⟩
        rotate_left
        ·omega
        have hz0 : (0 : Int) ≤ (z : Int) := by omega
        have hzN : (z : Int) < (N : Int) := by have := HNN.out; omega
        have hcz := hRe.at (j := z) (by have := HNN.out; omega)
        obtain ⟨z', rfl⟩ : ∃ z', z = z' + 1 := ⟨z - 1, by omega⟩
        have hsub : wrap64 (z' : Int) = (z' : Int) := by unfold wrap64; omega
        have HZ1 : Hid (en' ≤ z' ∧ z' + 1 ≤ s.size) := ⟨by omega, h2⟩
        cases hf : fe (z' + 1)
        ·rw [hf] at hcz
         have HI1 : Hid (InLp s.size fe en' rl' k en' rl' z') := Or.inl ⟨rfl, rfl, by omega, by omega, fun m a b => by
           by_cases e : m = z' + 1
           · rw [e]; exact hf
           · exact h3 m (by omega) b⟩
         clear hf h3 h1 h2 hze
         go_wp2_with fail
         exact ⟨⟨en', rl', z', rfl, rfl, by go_num, HI1.out, by first | rfl | trivial⟩, by rw [hsub]; simp [intOf]⟩
        ·rw [hf] at hcz
         have HI1 : Hid (InLp s.size fe en' rl' k (z' + 1) k z') := Or.inr ⟨rfl, rfl, by omega, h2, hf, fun m a b => h3 m (by omega) b⟩
         clear hf h3 h1 h2 hze
         go_wp2_with fail
         exact ⟨⟨z' + 1, k, z', by go_num, rfl, by go_num, HI1.out, by first | rfl | trivial⟩, by rw [hsub]; simp [intOf]⟩
       ·have hze' : ¬ (en' : Int) < (z : Int) := by omega
        have HB1 : Hid (BestK s (Ws.map (·.x)) j (k + 1) rl' en') := hIL.fin (by omega) HBK.out HWk.out HSY.out
        clear hIL hze hRe
        go_wp2_with fail
        first
         | exact ⟨⟨k + 1, en', rl', by go_num, rfl, rfl, HK.out, HB1.out, HA2.out.1, HA2.out.2.1, HA2.out.2.2.1, HA2.out.2.2.2⟩, by have := HK.out; simp [intOf]; omega⟩
         | (go_roundw
            case rel => exact ⟨_, _, _, ⟨k + 1, by go_num, en', rfl, rl', rfl, HK.out, HB1.out, HA2.out.1, HA2.out.2.1, HA2.out.2.2.1, HA2.out.2.2.2⟩, rfl, rfl, rfl⟩
            case measure => have := HK.out; simp [intOf]; omega)
     have hke : k = n := by omega
     subst hke
     have hkl' : ¬ (k : Int) < (k : Int) := by omega
     rcases hB.fin (by rw [List.length_map]; exact HW.out.1) with ⟨rfl, hnone⟩ | ⟨hrk, hbest⟩
     ·have hjk : ((en : Int) == (en : Int)) = true := by simp
      have HE : Hid (TokA rs s L en 0) := by
       have h := SP.says [] en (.fin en hnone)
       rw [List.append_nil] at h
       exact ⟨Ws, 0, HW.out.2.2.2.1, Or.inr ⟨rfl, Or.inr ⟨HS.out, rfl, h⟩⟩⟩
      have hrow := SP.row
      have hkE := SP.keep
      have hfrE : ∀ g, (Value.slice ya yn yc).ownBlock = some g → w.heap.size ≤ g := fun g hg => Nat.le_trans HLO.out.2 (SP.fresh g hg)
      clear hkl hnone SP hTs hTL hB hle hkn
      go_wp2_with fail
      go_ret3
      exact ⟨_, L, en, 0, rfl, HE.out, hrow, hfrE, hkE⟩
     obtain ⟨q, hq⟩ : ∃ q, rs[rl]? = some q := ⟨_, List.getElem?_eq_getElem (by have := HN.out; omega)⟩
     obtain ⟨_, _, f2⟩ := HC.out wr rl q SP.keep hq
     have hsk : skO rs rl = q.sk := by unfold skO; rw [hq]
     have hr0 : (0 : Int) ≤ (rl : Int) := by omega
     have hrn : (rl : Int) < (k : Int) := by omega
     have hne : ((en : Int) == (j : Int)) = false := by have := hbest.1; simp; omega
     have hne' : ¬ (en : Int) = (j : Int) := by have := hbest.1; omega
     have HB : Hid (j < en ∧ en ≤ s.size) := ⟨hbest.1, hbest.2.1⟩
     cases hb : q.sk with
     | true =>
      rw [hb] at f2 hsk
      have SP5 : SpL w wr lo0 s (Ws.map (·.x)) (skO rs) en (.slice ya yn yc) L := ⟨SP.row, SP.fresh, by have := SP.len; have := hbest.1; omega, hbest.2.1, SP.keep, fun l e h => SP.says l e (.skip j rl en l e hbest hsk h)⟩
      have HT5 : Hid (TXs w wr s rs (gt :: (Value.slice ya yn yc).ownBlock.toList) recs) := hTL
      have HLW5 : Hid (lo0 ≤ wr.heap.size) := HLW.out
      have HTs5 : Hid (TsR wr (.slice (some ⟨gt, 0, none⟩) k ct) recs) := hTs
      clear hb hbest hq hsk SP hB hTs hTL hkn hkl hle
      go_upto_region 48 with (fail)
      have hen : (en : Int) ≤ 100 := by have := HB.out; have := HS.out; omega
      obtain ⟨W5, hW5⟩ : ∃ W5 : World, W5 = wr := ⟨_, rfl⟩
      rw [← hW5] at SP5 HT5 HTs5 HLW5 ⊢
      clear hW5
      go_wp2_with fail
      go_loopw [18, 19, 25] (fun q18 q19 q25 wq => ∃ m : Nat, q25 = .int .i64 m ∧ q18 = .int .i64 ((lnC s m).1 : Nat) ∧ q19 = .int .i64 ((lnC s m).2 : Nat) ∧ j ≤ m ∧ m ≤ en ∧ wq = W5) (fun _ _ q _ => en - (intOf q).toNat)
      case atStart => exact ⟨j, rfl, by first | rfl | exact HLN.out.1, by first | rfl | exact HLN.out.2, Nat.le_refl _, Nat.le_of_lt HB.out.1, rfl⟩
      case round =>
       obtain ⟨m, rfl, rfl, rfl, hjm, hme, rfl⟩ := hrel
       have hm0 : (0 : Int) ≤ (m : Int) := by omega
       have hlp := lnC_pos s m
       have hls := lnC_succ s m
       by_cases hml : m < en
       ·have hml' : (m : Int) < (en : Int) := by omega
        have hms : m < s.size := by have := HB.out.2; omega
        have hms' : (m : Int) < (s.size : Int) := by omega
        have HM : Hid (m < en) := hml
        have HJM : Hid (j ≤ m) := hjm
        have hb := at'_lt hms
        have hbl := (s[m]'hms).toNat_lt
        by_cases h10 : (s[m]'hms).toNat = 10
        ·have e10 : (((s[m]'hms).toNat : Int) == 10) = true := by simp; omega
         rw [if_pos (by omega)] at hls
         have HLS : Hid (lnC s (m + 1) = ((lnC s m).1 + 1, 1)) := hls
         obtain ⟨ln1, hln1⟩ : ∃ z, (lnC s m).1 = z := ⟨_, rfl⟩
         obtain ⟨cl1, hcl1⟩ : ∃ z, (lnC s m).2 = z := ⟨_, rfl⟩
         rw [hln1] at hlp HLS ⊢
         rw [hcl1] at hlp ⊢
         have hln2 : (ln1 : Int) ≤ 1000 := by omega
         have hcl2 : (cl1 : Int) ≤ 1000 := by omega
         clear hls hb h10 hjm hme hln1 hcl1 hlp
         go_wp2_with fail
         exact ⟨⟨m + 1, by go_num, by rw [HLS.out]; go_num, by rw [HLS.out]; first | rfl | go_num, by have := HJM.out; omega, HM.out, by first | rfl | trivial⟩, by have := HM.out; simp [intOf]; omega⟩
        ·have e10 : (((s[m]'hms).toNat : Int) == 10) = false := by simp; omega
         rw [if_neg (by omega)] at hls
         have HLS : Hid (lnC s (m + 1) = ((lnC s m).1, (lnC s m).2 + 1)) := hls
         obtain ⟨ln1, hln1⟩ : ∃ z, (lnC s m).1 = z := ⟨_, rfl⟩
         obtain ⟨cl1, hcl1⟩ : ∃ z, (lnC s m).2 = z := ⟨_, rfl⟩
         rw [hln1] at hlp HLS ⊢
         rw [hcl1] at hlp HLS ⊢
         have hln2 : (ln1 : Int) ≤ 1000 := by omega
         have hcl2 : (cl1 : Int) ≤ 1000 := by omega
         clear hls hb h10 hjm hme hln1 hcl1 hlp
         go_wp2_with fail
         exact ⟨⟨m + 1, by go_num, by rw [HLS.out], by rw [HLS.out]; go_num, by have := HJM.out; omega, HM.out, by first | rfl | trivial⟩, by have := HM.out; simp [intOf]; omega⟩
       ·have hme' : m = en := by omega
        subst hme'
        have hml' : ¬ (m : Int) < (m : Int) := by omega
        clear hlp hls hml hjm hme
        go_wp2_with fail
        first
         | exact ⟨⟨m, _, rfl, rfl, rfl, SP5, HTs5.out, HT5.out, HLW5.out⟩, by have := HB.out; have := HJ.out; simp [intOf]; omega⟩
         | (go_roundw
            case rel => exact ⟨m, _, rfl, rfl, rfl, SP5, HTs5.out, HT5.out, HLW5.out⟩
            case measure => have := HB.out; have := HJ.out; simp [intOf]; omega)
     | false =>
      rw [hb] at f2 hsk
      obtain ⟨ln, hln⟩ : ∃ z, (lnC s j).1 = z := ⟨_, rfl⟩
      obtain ⟨cl, hcl⟩ : ∃ z, (lnC s j).2 = z := ⟨_, rfl⟩
      have hto := fun l e h => SP.says _ e (.tok j rl en l e hbest hsk h)
      rw [hln, hcl] at hto ⊢
      have HLN2 : Hid ((lnC s j).1 = ln ∧ (lnC s j).2 = cl) := ⟨hln, hcl⟩
      have HT : Hid (∀ l e, Tks s (Ws.map (·.x)) (skO rs) en l e → Tks s (Ws.map (·.x)) (skO rs) 0 (L ++ (⟨rl, j, en, ln, cl⟩ :: l)) e) := hto
      have hown2 : wr.ownsRow 0 111 5 (.slice ya yn yc) L.length (tkV L) := SP.row
      have hLl := SP.len
      obtain ⟨n0, hn0⟩ : ∃ n0, L.length = n0 := ⟨_, rfl⟩
      rw [hn0] at hown2 hLl
      have HL0 : Hid (L.length = n0 ∧ n0 ≤ j) := ⟨hn0, hLl⟩
      obtain ⟨i0, hi0', hz0', hz1', hz2'⟩ := info_parts infoTok
      have hun := Tryz.underlying37
      have hlm : n0 + 1 ≤ maxLen := by unfold maxLen; have := HJ.out; have := HS.out; omega
      have hbt : (n0 + 1) * 40 ≤ 140737488355328 := by have := HJ.out; have := HS.out; omega
      have hH : (wr.alloc (.cells #[.int .i64 rl, .int .i64 j, .int .i64 en, .int .i64 ln, .int .i64 cl] 111)).heap.size = wr.heap.size + 1 := by simp
      have hnews : ∀ q x, [Value.int .i64 rl, .int .i64 j, .int .i64 en, .int .i64 ln, .int .i64 cl][q]? = some x → (wr.alloc (.cells #[.int .i64 rl, .int .i64 j, .int .i64 en, .int .i64 ln, .int .i64 cl] 111)).cell? ((⟨wr.heap.size, 0, none⟩ : Addr).add q) = some x := World.news_of_block (cs := #[.int .i64 rl, .int .i64 j, .int .i64 en, .int .i64 ln, .int .i64 cl]) (heap_alloc_new wr _)
      have h1c : ∀ x ∈ [Value.int .i64 rl, .int .i64 j, .int .i64 en, .int .i64 ln, .int .i64 cl], x.oneCell' = true := by
       intro x hx
       simp only [List.mem_cons, List.not_mem_nil, or_false] at hx
       rcases hx with rfl | rfl | rfl | rfl | rfl <;> rfl
      have HSP : Hid (SpL w wr lo0 s (Ws.map (·.x)) (skO rs) j (.slice ya yn yc) L ∧ TsR wr (.slice (some ⟨gt, 0, none⟩) k ct) recs ∧ TXs w wr s rs (gt :: (Value.slice ya yn yc).ownBlock.toList) recs) := ⟨SP, hTs, hTL⟩
      clear hb hbest hq hsk SP hto hln hcl hn0 hLl hB hTs hTL hkn hkl hle
      go_upto_region 48 with (first | (at_builtin; refine wpList_append_lies _ rfl _ _ _ rfl 0 111 i0 _ 5 40 hun hi0' hz0' hz1' hz2' rfl (by decide) (.slice ya yn yc) n0 (tkV L) rfl (hown2.alloc _) ⟨wr.heap.size, 0, none⟩ 1 1 [.int .i64 rl, .int .i64 j, .int .i64 en, .int .i64 ln, .int .i64 cl] rfl rfl hnews h1c (by omega) hlm hbt (Nat.zero_le _) (wr.heap.size + 1) hH ?_; intro g' cap w5 hown5 hgrow hat hlt5))
      have hk5 : Keeps (Value.slice ya yn yc).ownBlock.toList wr w5 := ((Keeps.refl _ wr).alloc _).trans (Keeps.ofGrown hgrow)
      have hg4 : (Value.slice ya yn yc).ownBlock = some g' ∨ wr.heap.size ≤ g' := hat.imp id fun h => by omega
      have HLN : Hid (Value.int .i64 (ln : Int) = .int .i64 ((lnC s j).1 : Nat) ∧ Value.int .i64 (cl : Int) = .int .i64 ((lnC s j).2 : Nat)) := by rw [HLN2.out.1, HLN2.out.2]; exact ⟨rfl, rfl⟩
      have hgb : (Value.slice ya yn yc).ownBlock ≠ some gt := fun h => by have := HSP.out.1.fresh gt h; have := HLO.out.1; omega
      have SP5 : SpL w w5 lo0 s (Ws.map (·.x)) (skO rs) en (.slice (some ⟨g', 0, none⟩) (n0 + 1) cap) (L ++ [⟨rl, j, en, ln, cl⟩]) := by
       refine ⟨?_, ?_, ?_, HB.out.2, ?_, ?_⟩
       ·unfold TkR
        rw [List.length_append, HL0.out.1, tkV_app]
        exact hown5
       ·intro y hy
        cases hy
        rcases hg4 with h | h
        ·exact HSP.out.1.fresh _ h
        ·exact Nat.le_trans HLW.out h
       ·rw [List.length_append, HL0.out.1]; have := HL0.out.2; have := HB.out.1; simp; omega
       ·exact HSP.out.1.keep.fresh hk5 (by
          intro y hy
          rw [Option.mem_toList] at hy
          exact Or.inr (Nat.le_trans HLO.out.2 (HSP.out.1.fresh y hy)))
       ·intro l e h
        rw [List.append_assoc]
        exact HT.out l e h
      have HT5 : Hid (TXs w w5 s rs (gt :: (Value.slice (some ⟨g', 0, none⟩) (n0 + 1) cap).ownBlock.toList) recs) := HSP.out.2.2.step hk5 (fun x hx => Or.inl (List.mem_cons_of_mem _ hx)) fun x hx => by
       rcases List.mem_cons.1 hx with rfl | hx
       ·exact ⟨Or.inl (by simp), Nat.lt_of_lt_of_le (World.ownsRow.lt HSP.out.2.1 _ rfl).2 hk5.size⟩
       ·rw [Option.mem_toList] at hx
        cases hx
        exact ⟨hg4.imp (fun h => List.mem_cons_of_mem _ (by rw [Option.mem_toList]; exact h)) id, (hown5.lt _ rfl).2⟩
      have HTs5 : Hid (TsR w5 (.slice (some ⟨gt, 0, none⟩) k ct) recs) := HSP.out.2.1.keep hk5 (fun x hx hm => by rw [Option.mem_toList] at hm; cases hx; exact hgb hm)
      have HLW5 : Hid (lo0 ≤ w5.heap.size) := Nat.le_trans HLW.out hk5.size
      clear hown5 hgrow hnews hH h1c hk5 hown2 hat hgb hlt5 hg4
      have hen : (en : Int) ≤ 100 := by have := HB.out; have := HS.out; omega
      obtain ⟨W5, hW5⟩ : ∃ W5 : World, W5 = w5 := ⟨_, rfl⟩
      rw [← hW5] at SP5 HT5 HTs5 HLW5 ⊢
      clear hW5
      go_wp2_with fail
      go_loopw [18, 19, 25] (fun q18 q19 q25 wq => ∃ m : Nat, q25 = .int .i64 m ∧ q18 = .int .i64 ((lnC s m).1 : Nat) ∧ q19 = .int .i64 ((lnC s m).2 : Nat) ∧ j ≤ m ∧ m ≤ en ∧ wq = W5) (fun _ _ q _ => en - (intOf q).toNat)
      case atStart => exact ⟨j, rfl, by first | rfl | exact HLN.out.1, by first | rfl | exact HLN.out.2, Nat.le_refl _, Nat.le_of_lt HB.out.1, rfl⟩
      case round =>
       obtain ⟨m, rfl, rfl, rfl, hjm, hme, rfl⟩ := hrel
       have hm0 : (0 : Int) ≤ (m : Int) := by omega
       have hlp := lnC_pos s m
       have hls := lnC_succ s m
       by_cases hml : m < en
       ·have hml' : (m : Int) < (en : Int) := by omega
        have hms : m < s.size := by have := HB.out.2; omega
        have hms' : (m : Int) < (s.size : Int) := by omega
        have HM : Hid (m < en) := hml
        have HJM : Hid (j ≤ m) := hjm
        have hb := at'_lt hms
        have hbl := (s[m]'hms).toNat_lt
        by_cases h10 : (s[m]'hms).toNat = 10
        ·have e10 : (((s[m]'hms).toNat : Int) == 10) = true := by simp; omega
         rw [if_pos (by omega)] at hls
         have HLS : Hid (lnC s (m + 1) = ((lnC s m).1 + 1, 1)) := hls
         obtain ⟨ln1, hln1⟩ : ∃ z, (lnC s m).1 = z := ⟨_, rfl⟩
         obtain ⟨cl1, hcl1⟩ : ∃ z, (lnC s m).2 = z := ⟨_, rfl⟩
         rw [hln1] at hlp HLS ⊢
         rw [hcl1] at hlp ⊢
         have hln2 : (ln1 : Int) ≤ 1000 := by omega
         have hcl2 : (cl1 : Int) ≤ 1000 := by omega
         clear hls hb h10 hjm hme hln1 hcl1 hlp
         go_wp2_with fail
         exact ⟨⟨m + 1, by go_num, by rw [HLS.out]; go_num, by rw [HLS.out]; first | rfl | go_num, by have := HJM.out; omega, HM.out, by first | rfl | trivial⟩, by have := HM.out; simp [intOf]; omega⟩
        ·have e10 : (((s[m]'hms).toNat : Int) == 10) = false := by simp; omega
         rw [if_neg (by omega)] at hls
         have HLS : Hid (lnC s (m + 1) = ((lnC s m).1, (lnC s m).2 + 1)) := hls
         obtain ⟨ln1, hln1⟩ : ∃ z, (lnC s m).1 = z := ⟨_, rfl⟩
         obtain ⟨cl1, hcl1⟩ : ∃ z, (lnC s m).2 = z := ⟨_, rfl⟩
         rw [hln1] at hlp HLS ⊢
         rw [hcl1] at hlp HLS ⊢
         have hln2 : (ln1 : Int) ≤ 1000 := by omega
         have hcl2 : (cl1 : Int) ≤ 1000 := by omega
         clear hls hb h10 hjm hme hln1 hcl1 hlp
         go_wp2_with fail
         exact ⟨⟨m + 1, by go_num, by rw [HLS.out], by rw [HLS.out]; go_num, by have := HJM.out; omega, HM.out, by first | rfl | trivial⟩, by have := HM.out; simp [intOf]; omega⟩
       ·have hme' : m = en := by omega
        subst hme'
        have hml' : ¬ (m : Int) < (m : Int) := by omega
        clear hlp hls hml hjm hme
        go_wp2_with fail
        first
         | exact ⟨⟨m, _, rfl, rfl, rfl, SP5, HTs5.out, HT5.out, HLW5.out⟩, by have := HB.out; have := HJ.out; simp [intOf]; omega⟩
         | (go_roundw
            case rel => exact ⟨m, _, rfl, rfl, rfl, SP5, HTs5.out, HT5.out, HLW5.out⟩
            case measure => have := HB.out; have := HJ.out; simp [intOf]; omega)
  obtain ⟨r, hri⟩ : ∃ r, rs[i]? = some r := ⟨_, List.getElem?_eq_getElem (by have := HN.out; omega)⟩
  obtain ⟨e0, e1, e2⟩ := HC.out wr i r hK hri
  have hi0 : (0 : Int) ≤ (i : Int) := by omega
  have hin : (i : Int) < (n : Int) := by omega
  have HI : Hid (i < n) := hlt
  have HR : Hid (rs[i]? = some r) := hri
  have HB : Hid (∀ z, RlBad rs i z → z ≠ 0 → TokA rs s [] 0 z) := fun z hz h0 => HL.out.bad (by have := HN.out; omega) (by have := HN.out; omega) hz h0
  clear hri hlt hi hL
  by_cases hnm : 1 ≤ r.nm.size ∧ r.nm.size ≤ 8
  rotate_left
  ·have HE : Hid (TokA rs s [] 0 4) := HB.out 4 ⟨r, HR.out, Or.inl ⟨fun h => hnm ⟨h.1, h.2.1⟩, rfl⟩⟩ (by decide)
   by_cases hn1 : 1 ≤ r.nm.size
   ·have c1 : decide ((1 : Int) ≤ (r.nm.size : Int)) = true := by simp; omega
    have c1' : (1 : Int) ≤ (r.nm.size : Int) := by omega
    have c2 : decide ((r.nm.size : Int) ≤ 8) = false := by simp; omega
    have c2' : ¬ (r.nm.size : Int) ≤ 8 := by omega
    clear hnm hn1
    go_wp2_with fail
    obtain ⟨w1, hw1⟩ : ∃ w1 : World, w1 = wr := ⟨_, rfl⟩
    subst hw1
    go_loopw [10, 11] (fun q10 q11 wq => q10 = .bool false ∧ wq = w1) (fun _ _ _ => 0)
    case atStart => exact ⟨rfl, rfl⟩
    case round =>
     obtain ⟨rfl, rfl⟩ := hrel
     go_wp2_with fail
     go_ret3
     exact ⟨_, [], 0, 4, rfl, HE.out, TkR.zero _, (fun g h => by cases h), hK⟩
   ·have c1 : decide ((1 : Int) ≤ (r.nm.size : Int)) = false := by simp; omega
    have c1' : ¬ (1 : Int) ≤ (r.nm.size : Int) := by omega
    clear hnm hn1
    go_wp2_with fail
    obtain ⟨w1, hw1⟩ : ∃ w1 : World, w1 = wr := ⟨_, rfl⟩
    subst hw1
    go_loopw [10, 11] (fun q10 q11 wq => q10 = .bool false ∧ wq = w1) (fun _ _ _ => 0)
    case atStart => exact ⟨rfl, rfl⟩
    case round =>
     obtain ⟨rfl, rfl⟩ := hrel
     go_wp2_with fail
     go_ret3
     exact ⟨_, [], 0, 4, rfl, HE.out, TkR.zero _, (fun g h => by cases h), hK⟩
  have c1 : decide ((1 : Int) ≤ (r.nm.size : Int)) = true := by simp; omega
  have c1' : (1 : Int) ≤ (r.nm.size : Int) := by omega
  have c2 : decide ((r.nm.size : Int) ≤ 8) = true := by simp; omega
  have c2' : (r.nm.size : Int) ≤ 8 := by omega
  have hN0 : NmL r.nm true 0 := Or.inl ⟨rfl, hnm.1, hnm.2, Nat.zero_le _, fun i h => by omega⟩
  clear hnm
  obtain ⟨w1, hw1⟩ : ∃ w1 : World, w1 = wr := ⟨_, rfl⟩
  subst hw1
  go_wp2_with fail
  go_loopw [10, 11] (fun q10 q11 wq => ∃ (gd : Bool) (k : Nat), q10 = .bool gd ∧ q11 = .int .i64 k ∧ NmL r.nm gd k ∧ wq = w1) (fun _ q _ => r.nm.size - (intOf q).toNat)
  case atStart => exact ⟨true, 0, rfl, rfl, hN0, rfl⟩
  case round =>
   clear hN0
   obtain ⟨gd, k, rfl, rfl, hN, rfl⟩ := hrel
   rcases hN with ⟨rfl, a1, a8, hk, hal⟩ | ⟨rfl, hk, hbad⟩
   rotate_left
   ·have HE : Hid (TokA rs s [] 0 4) := HB.out 4 ⟨r, HR.out, Or.inl ⟨hbad, rfl⟩⟩ (by decide)
    clear hbad hk
    go_wp2_with fail
    go_ret3
    exact ⟨_, [], 0, 4, rfl, HE.out, TkR.zero _, (fun g h => by cases h), hK⟩
   have hk0 : (0 : Int) ≤ (k : Int) := by omega
   by_cases hkl : k < r.nm.size
   ·have hkl' : (k : Int) < (r.nm.size : Int) := by omega
    have hb := at'_lt hkl
    have HK : Hid (k < r.nm.size) := hkl
    have hbl := (r.nm[k]'hkl).toNat_lt
    by_cases l1 : (97 : Int) ≤ ((r.nm[k]'hkl).toNat : Int)
    ·have m1 : decide ((97 : Int) ≤ ((r.nm[k]'hkl).toNat : Int)) = true := by simpa using l1
     by_cases l2 : ((r.nm[k]'hkl).toNat : Int) ≤ 122
     ·have m2 : decide (((r.nm[k]'hkl).toNat : Int) ≤ 122) = true := by simpa using l2
      have hN1 : Hid (NmL r.nm true (k + 1)) := Or.inl ⟨rfl, a1, a8, hkl, fun i hi => by
        by_cases e : i = k
        · subst e; omega
        · exact hal i (by omega)⟩
      clear hal a1 a8 hb hk
      go_wp2_with fail
      exact ⟨⟨true, k + 1, rfl, by go_num, hN1.out, by first | rfl | trivial⟩, by have := HK.out; simp [intOf]; omega⟩
     ·have m2 : decide (((r.nm[k]'hkl).toNat : Int) ≤ 122) = false := by simpa using l2
      have hN1 : Hid (NmL r.nm false (k + 1)) := Or.inr ⟨rfl, hkl, fun h => by have := (h.2.2 k hkl).2; omega⟩
      clear hal a1 a8 hb hk
      go_wp2_with fail
      exact ⟨⟨false, k + 1, rfl, by go_num, hN1.out, by first | rfl | trivial⟩, by have := HK.out; simp [intOf]; omega⟩
    ·have m1 : decide ((97 : Int) ≤ ((r.nm[k]'hkl).toNat : Int)) = false := by simpa using l1
     have hN1 : Hid (NmL r.nm false (k + 1)) := Or.inr ⟨rfl, hkl, fun h => by have := (h.2.2 k hkl).1; omega⟩
     clear hal a1 a8 hb hk
     go_wp2_with fail
     exact ⟨⟨false, k + 1, rfl, by go_num, hN1.out, by first | rfl | trivial⟩, by have := HK.out; simp [intOf]; omega⟩
   have hkl' : ¬ (k : Int) < (r.nm.size : Int) := by omega
   have HNm : Hid (NameOk r.nm) := ⟨a1, a8, fun i hi => hal i (by omega)⟩
   have HF0 : Hid (Fresh rs 0 r.nm) := fun d z h => by omega
   clear hal a1 a8 hk hkl
   obtain ⟨w2, hw2⟩ : ∃ w2 : World, w2 = wr := ⟨_, rfl⟩
   subst hw2
   go_wp2_with fail
   go_loopw [12] (fun q12 wq => ∃ k : Nat, q12 = .int .i64 k ∧ k ≤ i ∧ Hid (Fresh rs k r.nm) ∧ wq = w2) (fun q _ => i - (intOf q).toNat)
   case atStart => exact ⟨0, rfl, Nat.zero_le _, HF0, rfl⟩
   case round =>
    clear HF0
    obtain ⟨m, rfl, hmi, HF, rfl⟩ := hrel
    by_cases hml : m < i
    ·obtain ⟨q, hq⟩ : ∃ q, rs[m]? = some q := ⟨_, List.getElem?_eq_getElem (by have := HN.out; have := HI.out; omega)⟩
     obtain ⟨f0, f1, f2⟩ := HC.out wr m q hK hq
     have hm0 : (0 : Int) ≤ (m : Int) := by omega
     have hmn : (m : Int) < (n : Int) := by have := HI.out; omega
     have hmi' : (m : Int) < (i : Int) := by omega
     have HM : Hid (m < i) := hml
     have hse := strEq q.nm r.nm
     by_cases he : q.nm = r.nm
     ·have HE : Hid (TokA rs s [] 0 5) := HB.out 5 ⟨r, HR.out, Or.inr (Or.inl ⟨HNm.out, fun h => h m q hml hq he, rfl⟩)⟩ (by decide)
      rw [decide_eq_true he] at hse
      clear he hq hml hmi
      go_wp2_with fail
      go_ret3
      exact ⟨_, [], 0, 5, rfl, HE.out, TkR.zero _, (fun g h => by cases h), hK⟩
     ·have HF1 : Hid (Fresh rs (m + 1) r.nm) := fun d z hd hz => by
         by_cases e : d < m
         ·exact HF.out d z e hz
         ·have : d = m := by omega
          subst this
          rw [hq] at hz
          cases hz
          exact he
      rw [decide_eq_false he] at hse
      clear he hq hml hmi
      go_wp2_with fail
      exact ⟨⟨m + 1, by go_num, HM.out, HF1, by first | rfl | trivial⟩, by have := HM.out; simp [intOf]; omega⟩
    have hme : m = i := by omega
    subst hme
    have hmi' : ¬ (m : Int) < (m : Int) := by omega
    clear hml hmi
    by_cases hlong : 60 < r.pt.size
    ·have HE : Hid (TokA rs s [] 0 1) := HB.out 1 ⟨r, HR.out, Or.inr (Or.inr ⟨HNm.out, HF.out, Or.inl ⟨hlong, rfl⟩⟩)⟩ (by decide)
     go_wp2_with (first | (go_at_call 46; refine (read_long r.pt _ hlong).mono ?_; rintro e w' ⟨rfl, rfl⟩))
     go_ret3
     exact ⟨_, [], 0, 1, rfl, HE.out, TkR.zero _, (fun g h => by cases h), hK⟩
    have hp60 : r.pt.size ≤ 60 := by omega
    have HP60 : Hid (r.pt.size ≤ 60) := hp60
    clear hlong
    by_cases hs : s.size ≤ 100
    rotate_left
    ·have hs' : ¬ (s.size : Int) ≤ 100 := by omega
     have hs2 : decide ((s.size : Int) ≤ 100) = false := by simp; omega
     have HS : Hid (100 < s.size) := by show 100 < s.size; omega
     clear hs
     go_wp2_with fail
     refine (read_any r.pt _ hp60).mono ?_
     rintro e w3 ⟨bp, p, nds, R, en, rfl, hb, hR, hp, hinv, hk3, hnl, hps, hcase⟩
     have hK3 := hK.trans hk3
     cases R with
     | bad j =>
      obtain ⟨rfl, hbad⟩ := hcase
      have HE : Hid (TokA rs s [] 0 2) := HB.out 2 ⟨r, HR.out, Or.inr (Or.inr ⟨HNm.out, HF.out, Or.inr ⟨HP60.out, ⟨j, hR⟩, rfl⟩⟩)⟩ (by decide)
      clear hbad hp hinv hR
      go_wp2_with fail
      go_ret3
      exact ⟨_, [], 0, 2, rfl, HE.out, TkR.zero _, (fun g h => by cases h), hK3⟩
     | ok W j =>
      obtain ⟨rfl, _⟩ := hcase
      have HL3 : Hid (TkLp w w3 s rs (.slice xa xn xc) (m + 1)) := HL.out.long HS.out hk3 ⟨r, HR.out, HNm.out, HF.out, HP60.out, j, hR⟩
      clear hp hinv hR
      go_wp2_with fail
      first
       | exact ⟨⟨m + 1, by go_num, HI.out, HL3.out⟩, by have := HI.out; simp [intOf]; omega⟩
       | (go_roundw
          case rel => exact ⟨m + 1, by go_num, HI.out, HL3.out⟩
          case measure => have := HI.out; simp [intOf]; omega)
    have hs' : (s.size : Int) ≤ 100 := by omega
    have hs2 : decide ((s.size : Int) ≤ 100) = true := by simp; omega
    obtain ⟨Ws, hWl, hWk, _, ⟨h100, _⟩ | ⟨_, recs, hmap, hrow, hfr, hTL⟩⟩ := HL.out
    ·omega
    have hrl : recs.length = m := by rw [← hWl, ← hmap, List.length_map]
    have HS : Hid (s.size ≤ 100) := hs
    have HX : Hid (∀ x, x ∈ (Value.slice xa xn xc).ownBlock.toList ++ allD recs → x < wr.heap.size) := fun x hx => by
     rcases List.mem_append.1 hx with hx | hx
     ·rw [Option.mem_toList] at hx
      exact (hrow.lt x hx).2
     ·exact hTL.dlt x hx
    have HG : Hid (recs.length = m ∧ recs.map (·.W) = Ws ∧ Ws.length = m ∧ (∀ (k : Nat) (W : Whole), Ws[k]? = some W → RlOk rs k W) ∧ TsR wr (.slice xa xn xc) recs ∧ (∀ g, (Value.slice xa xn xc).ownBlock = some g → w.heap.size ≤ g) ∧ TXs w wr s rs (Value.slice xa xn xc).ownBlock.toList recs) := ⟨hrl, hmap, hWl, hWk, hrow, hfr, hTL⟩
    clear hs hrl hmap hrow hfr hTL hWl hWk
    go_wp2_with fail
    refine (read_anyA r.pt _ _ hp60 HX).mono ?_
    rintro e w3 ⟨bp, p, nds, R, en, rfl, hb, hR, hp, hinv, hk3, hnl, hps, hcase⟩
    have hK3 := hK.trans hk3
    cases R with
    | bad j =>
     obtain ⟨rfl, hbad⟩ := hcase
     have HE : Hid (TokA rs s [] 0 2) := HB.out 2 ⟨r, HR.out, Or.inr (Or.inr ⟨HNm.out, HF.out, Or.inr ⟨HP60.out, ⟨j, hR⟩, rfl⟩⟩)⟩ (by decide)
     clear hbad hp hinv hR
     go_wp2_with fail
     go_ret3
     exact ⟨_, [], 0, 2, rfl, HE.out, TkR.zero _, (fun g h => by cases h), hK3⟩
    | ok W j =>
     obtain ⟨rfl, hbg, hen, hgr, hrep⟩ := hcase
     obtain ⟨a1, a2, a3, a4, a5, a6, a7⟩ := hR.all hp60
     have HKP : Hid (KP nds p W) := ⟨a1, a2, a3, a4, a5, a6, a7, hbg, hen, hgr, hrep⟩
     have HOK : Hid (RlOk rs m W) := ⟨r, HR.out, HNm.out, HF.out, HP60.out, j, hR⟩
     have HNL : Hid (nds.length ≤ 1000) := hnl
     have HZ3 : Hid ((∀ x, x ∈ (Value.slice xa xn xc).ownBlock.toList ++ allD recs → x < w3.heap.size) ∧ bp ∉ (Value.slice xa xn xc).ownBlock.toList ++ allD recs) := ⟨fun x hx => Nat.lt_of_lt_of_le (HX.out x hx) hk3.size, fun hx => by have := HX.out bp hx; omega⟩
     clear hbg hen hgr hrep a1 a2 a3 a4 a5 a6 a7 hR
     go_wp2_with fail
     refine (textNew_fz false s (s.size + 1) rfl HS.out nds hnl bp p _ w3 hp hinv HZ3).mono ?_
     rintro e w4 ⟨b, D, E, rfl, hT4, hDn, hbn, hEn, hk4⟩
     rw [map_fo_false] at hT4
     have hTL4 : TXs w w4 s rs (Value.slice xa xn xc).ownBlock.toList (recs ++ [⟨b, bp, p, nds, D, E, W⟩]) := (HG.out.2.2.2.2.2.2.keep hk3 (by simp)).add (r := ⟨b, bp, p, nds, D, E, W⟩) hT4 (fun x hx => HZ3.out.1 x (List.mem_append_left _ hx)) hDn hk4 hK3.size HKP.out HNL.out (by rw [HG.out.1]; exact HOK.out)
     have hrow4 : w4.ownsRow 0 96 1 (.slice xa xn xc) m (recs.map fun r => .pointer (some ⟨r.b, 0, none⟩)) := by
      have h := HG.out.2.2.2.2.1.keep (hk3.trans hk4) (by simp)
      unfold TsR at h
      rw [HG.out.1] at h
      exact h
     have HT4 : Hid (TXs w w4 s rs (Value.slice xa xn xc).ownBlock.toList (recs ++ [⟨b, bp, p, nds, D, E, W⟩])) := hTL4
     have hK4 := hK3.trans hk4
     obtain ⟨i0, hi0', hz0', hz1', hz2'⟩ := info_parts infoPT
     have hun := Tryz.underlying171
     have hlm : m + 1 ≤ maxLen := by unfold maxLen; have := HI.out; have := HN.out; omega
     have hbt : (m + 1) * 8 ≤ 140737488355328 := by have := HI.out; have := HN.out; omega
     have hH : (w4.alloc (.cells #[.pointer (some ⟨b, 0, none⟩)] 96)).heap.size = w4.heap.size + 1 := by simp
     have hnews : ∀ q x, [Value.pointer (some ⟨b, 0, none⟩)][q]? = some x → (w4.alloc (.cells #[.pointer (some ⟨b, 0, none⟩)] 96)).cell? ((⟨w4.heap.size, 0, none⟩ : Addr).add q) = some x := World.news_of_block (cs := #[.pointer (some ⟨b, 0, none⟩)]) (heap_alloc_new w4 _)
     clear hp hinv hT4 hDn hbn hEn hTL4 hk4 hnl hb
     go_wp2_with (first | (at_builtin; refine wpList_append_lies _ rfl _ _ _ rfl 0 96 i0 _ 1 8 hun hi0' hz0' hz1' hz2' rfl (by decide) (.slice xa xn xc) m _ rfl (hrow4.alloc _) ⟨w4.heap.size, 0, none⟩ 1 1 [.pointer (some ⟨b, 0, none⟩)] rfl rfl hnews (by simp [Value.oneCell']) (by omega) hlm hbt (Nat.zero_le _) (w4.heap.size + 1) hH ?_))
     intro g' cap w5 hown5 hgrow hat hlt5
     have hk5 : Keeps (Value.slice xa xn xc).ownBlock.toList w4 w5 := ((Keeps.refl _ w4).alloc _).trans (Keeps.ofGrown hgrow)
     have HL5 : Hid (TkLp w w5 s rs (.slice (some ⟨g', 0, none⟩) (m + 1) cap) (m + 1)) := by
      have hg4 : (Value.slice xa xn xc).ownBlock = some g' ∨ w4.heap.size ≤ g' := hat.imp id fun h => by omega
      refine ⟨Ws ++ [W], by rw [List.length_append, HG.out.2.2.1]; rfl, fun k V hV => ?_, keepsM hK4 hk5 fun x hx => ?_, Or.inr ⟨HS.out, recs ++ [⟨b, bp, p, nds, D, E, W⟩], by rw [List.map_append, HG.out.2.1]; rfl, ?_, ?_, HT4.out.step hk5 (fun x hx => Or.inl hx) fun x hx => ?_⟩⟩
      ·by_cases hkl : k < Ws.length
       ·rw [List.getElem?_append_left hkl] at hV
        exact HG.out.2.2.2.1 k V hV
       ·have : k = Ws.length := by
           have := (List.getElem?_eq_some_iff.1 hV).1
           simp at this
           omega
        subst this
        rw [List.getElem?_append_right (Nat.le_refl _)] at hV
        simp at hV
        subst hV
        rw [HG.out.2.2.1]
        exact HOK.out
      ·rw [Option.mem_toList] at hx
       exact Or.inr (HG.out.2.2.2.2.2.1 x hx)
      ·unfold TsR
       rw [List.map_append, List.length_append, HG.out.1]
       exact hown5
      ·intro y hy
       cases hy
       rcases hg4 with h | h
       ·exact HG.out.2.2.2.2.2.1 _ h
       ·exact Nat.le_trans hK4.size h
      ·rw [Option.mem_toList] at hx
       cases hx
       exact ⟨hg4.imp (fun h => by rw [Option.mem_toList]; exact h) id, (hown5.lt _ rfl).2⟩
     clear hown5 hgrow hat hlt5 hk5 hnews hH hrow4
     go_wp2_with fail
     first
      | exact ⟨⟨m + 1, by go_num, HI.out, HL5.out⟩, by have := HI.out; simp [intOf]; omega⟩
      | (go_roundw
         case rel => exact ⟨m + 1, by go_num, HI.out, HL5.out⟩
         case measure => have := HI.out; simp [intOf]; omega)
end Go.Proofs.YtnfojonmohijpaaGreatDoor
