/-
  DERIVED. Contracts of the program's reader of bytes at the reader of templates (Peek, Ahead, Skip, Fail, Expect, End, Take). Conditions: the place is within the text, the text is at most 100 bytes long.
-/
import Derived.Test.YtnfojonmohijpabGreatDoorJRA
import Derived.Test.YtnfojonmohijpabGreatDoorJSpec
import Derived.Test.YtnfojonmohijpabGreatDoorJPW
import Derived.Deep.CutRange
import Derived.Deep.AppendLies
import Derived.Test.YtnfojonmohijpabGreatDoorJNK
import Derived.BigQuiet
set_option linter.unusedSimpArgs false
set_option linter.unusedVariables false
namespace Go.Proofs.YtnfojonmohijpabGreatDoor
open Go.RowKit
structure ES where
 s : ByteArray
 ix : Nat
def ES.cells (p : ES) : Array Value := #[.string p.s, .int .i64 p.ix]
def EB (w : World) (b : Nat) (p : ES) : Prop := w.heap[b]? = some (.cells p.cells 138 (0, 0))
theorem EB.lt {w : World} {b : Nat} {p : ES} (h : EB w b p) : b < w.heap.size := (Array.getElem?_eq_some_iff.1 h).1
theorem EB.keep {w w' : World} {b : Nat} {p : ES} {S : List Nat} (h : EB w b p) (hk : Keeps S w w') (hb : b ∉ S) : EB w' b p := (hk.block b h.lt hb).trans h
theorem EB.drewN {w : World} {b : Nat} {p : ES} (h : EB w b p) (n : Nat) : EB (w.drewN n) b p := h
theorem EB.main {w : World} {b : Nat} {p : ES} (h : EB w b p) :
    w.cell? ⟨b, 0, none⟩ = some (.string p.s) ∧ w.cell? ⟨b, 1, none⟩ = some (.int .i64 p.ix) ∧ True ∧
    w.frozen? ⟨b, 1, none⟩ = false ∧ True := by
 unfold EB at h
 simp [World.cell?, World.frozen?, h, ES.cells]
theorem EB.setIx {w : World} {b : Nat} {p : ES} (h : EB w b p) (x : Nat) : EB (w.setCell ⟨b, 1, none⟩ (.int .i64 x)) b { p with ix := x } := by
 unfold EB at *
 simp [World.setCell, Array.getElem?_modify, h, ES.cells]
def ES.cur (p : ES) : Int := at' p.s p.ix
set_option maxHeartbeats 400000 in
theorem epeek_some (b : Nat) (p : ES) (w : World) (hp : EB w b p) (hlt : p.ix < p.s.size) (hs : p.s.size ≤ 100) :
    Calls Tryz.prog 100 #[.pointer (some ⟨b, 0, none⟩)] w fun e w' => e = .returned (.tuple #[.int .u8 p.cur, .bool true]) ∧ EB w' b p ∧ Keeps [] w w' := by
 obtain ⟨c0, c1, _, f1, _⟩ := hp.main
 have hki : (p.ix : Int) < (p.s.size : Int) := by omega
 have hk0 : (0 : Int) ≤ (p.ix : Int) := by omega
 have hne : ((p.ix : Int) == (p.s.size : Int)) = false := by simpa using (by omega : ¬ (p.ix : Int) = (p.s.size : Int))
 have HC : Hid (p.cur = (p.s[p.ix].toNat : Int)) := at'_lt hlt
 go_enter Tryz.func100, Tryz.ntmps100
 go_wp2_with fail
 go_quiet (fail)
 go_wp2_with fail
 go_quiet (fail)
 go_wp2_with fail
 go_ret2
 exact ⟨by rw [HC.out]; rfl, (hp.drewN _).drewN _, ((Keeps.refl _ _).drewN _).drewN _⟩
set_option maxHeartbeats 400000 in
theorem epeek_none (b : Nat) (p : ES) (w : World) (hp : EB w b p) (hge : p.ix = p.s.size) :
    Calls Tryz.prog 100 #[.pointer (some ⟨b, 0, none⟩)] w fun e w' => e = .returned (.tuple #[.int .u8 0, .bool false]) ∧ EB w' b p ∧ Keeps [] w w' := by
 obtain ⟨c0, c1, _, f1, _⟩ := hp.main
 have hne : ((p.ix : Int) == (p.s.size : Int)) = true := by simpa using (by omega : (p.ix : Int) = (p.s.size : Int))
 clear hge
 go_enter Tryz.func100, Tryz.ntmps100
 go_wp2_with fail
 go_quiet (fail)
 go_wp2_with fail
 go_ret2
 exact ⟨rfl, (hp.drewN _), (Keeps.refl _ _).drewN _⟩
set_option maxHeartbeats 400000 in
theorem eahead_any (b : Nat) (p : ES) (c : Int) (hc : 0 ≤ c) (w : World) (hp : EB w b p) (hle : p.ix ≤ p.s.size) (hs : p.s.size ≤ 100) :
    Calls Tryz.prog 98 #[.pointer (some ⟨b, 0, none⟩), .int .u8 c] w fun e w' => e = .returned (.bool (decide (p.cur = c))) ∧ EB w' b p ∧ Keeps [] w w' := by
 by_cases hlt : p.ix < p.s.size
 ·go_enter Tryz.func98, Tryz.ntmps98
  go_wp2_with (first | (go_at_call 100; refine (epeek_some b p _ hp hlt hs).mono ?_; rintro e w1 ⟨rfl, hp1, hk1⟩))
  go_ret
  exact ⟨by simp [BEq.beq], hp1, hk1⟩
 ·have hge : p.ix = p.s.size := by omega
  have HC : Hid (p.cur = -1) := at'_ge (by omega)
  go_enter Tryz.func98, Tryz.ntmps98
  go_wp2_with (first | (go_at_call 100; refine (epeek_none b p _ hp hge).mono ?_; rintro e w1 ⟨rfl, hp1, hk1⟩))
  go_ret
  exact ⟨by rw [HC.out]; simp; omega, hp1, hk1⟩
def ES.took (p : ES) (c : Int) : ES := if p.cur = c then { p with ix := p.ix + 1 } else p
set_option maxHeartbeats 400000 in
theorem eskip_any (b : Nat) (p : ES) (c : Int) (hc : 0 ≤ c) (w : World) (hp : EB w b p) (hle : p.ix ≤ p.s.size) (hs : p.s.size ≤ 100) :
    Calls Tryz.prog 64 #[.pointer (some ⟨b, 0, none⟩), .int .u8 c] w fun e w' => e = .returned (.bool (decide (p.cur = c))) ∧ EB w' b (p.took c) ∧ Keeps [b] w w' := by
 by_cases h : p.cur = c
 ·have hd : decide (p.cur = c) = true := by simpa using h
  have H : Hid (p.cur = c) := h
  have hlt : p.ix < p.s.size := at'_nn (by show 0 ≤ p.cur; omega)
  have hb1 : (0 : Int) ≤ (p.ix : Int) := by omega
  have hb2 : (p.ix : Int) ≤ 100 := by omega
  clear h
  go_enter Tryz.func64, Tryz.ntmps64
  go_wp2_with (first | (go_at_call 98; refine (eahead_any b p c hc _ hp hle hs).mono ?_; rintro e w1 ⟨rfl, hp1, hk1⟩; obtain ⟨c0, c1, _, f1, _⟩ := hp1.main))
  go_ret
  exact ⟨by simp [hd], by simp only [ES.took, H.out, if_true]; exact hp1.setIx (p.ix + 1), (hk1.mono (by simp)).setCell (by simp) _⟩
 ·have hd : decide (p.cur = c) = false := by simpa using h
  have H : Hid (¬ p.cur = c) := h
  clear h
  go_enter Tryz.func64, Tryz.ntmps64
  go_wp2_with (first | (go_at_call 98; refine (eahead_any b p c hc _ hp hle hs).mono ?_; rintro e w1 ⟨rfl, hp1, hk1⟩))
  go_ret
  exact ⟨by simp [hd], by simp only [ES.took, H.out, if_false]; exact hp1, hk1.mono (by simp)⟩
set_option maxHeartbeats 400000 in
theorem epfail_any (b : Nat) (p : ES) (w : World) (hp : EB w b p) :
    Calls Tryz.prog 101 #[.pointer (some ⟨b, 0, none⟩)] w fun e w' => e = fault p.ix ∧ w' = w := by
 obtain ⟨c0, c1, _, f1, _⟩ := hp.main
 go_enter Tryz.func101, Tryz.ntmps101
 go_wp2_with fail
 exact ⟨rfl, rfl, rfl⟩
set_option maxRecDepth 100000 in
set_option maxHeartbeats 400000 in
theorem etake_ok (b : Nat) (p : ES) (F : Nat) (caps : Array Value) (w : World) (hp : EB w b p) (hs : p.s.size ≤ 100) (hlt : p.ix < p.s.size) (hm : May F caps p.cur true w) :
    Calls Tryz.prog 136 #[.pointer (some ⟨b, 0, none⟩), .func (.func F) #[] caps] w fun e w' => e = .returned (.int .u8 p.cur) ∧ EB w' b { p with ix := p.ix + 1 } ∧ Keeps [b] w w' := by
 have hb1 : (0 : Int) ≤ (p.ix : Int) := by omega
 have hb2 : (p.ix : Int) ≤ 100 := by omega
 obtain ⟨hcf, hcall⟩ := hm
 go_enter Tryz.func136, Tryz.ntmps136
 go_wp2_with (first | (go_at_call 100; refine (epeek_some b p _ hp hlt hs).mono ?_; rintro e w1 ⟨rfl, hp1, hk1⟩))
 refine (hcall _ hk1).mono ?_
 rintro e w2 ⟨rfl, hk2⟩
 have hp2 := hp1.keep hk2 (by simp)
 obtain ⟨c0, c1, _, f1, _⟩ := hp2.main
 go_wp2_with fail
 go_ret
 exact ⟨rfl, hp2.setIx (p.ix + 1), ((hk1.trans hk2).mono (by simp)).setCell (by simp) _⟩
set_option maxRecDepth 100000 in
set_option maxHeartbeats 400000 in
theorem etake_bad (b : Nat) (p : ES) (F : Nat) (caps : Array Value) (w : World) (hp : EB w b p) (hs : p.s.size ≤ 100) (hlt : p.ix < p.s.size) (hm : May F caps p.cur false w) :
    Calls Tryz.prog 136 #[.pointer (some ⟨b, 0, none⟩), .func (.func F) #[] caps] w fun e w' => e = fault p.ix ∧ Keeps [b] w w' := by
 obtain ⟨hcf, hcall⟩ := hm
 go_enter Tryz.func136, Tryz.ntmps136
 go_wp2_with (first | (go_at_call 100; refine (epeek_some b p _ hp hlt hs).mono ?_; rintro e w1 ⟨rfl, hp1, hk1⟩))
 refine (hcall _ hk1).mono ?_
 rintro e w2 ⟨rfl, hk2⟩
 have hp2 := hp1.keep hk2 (by simp)
 go_wp2_with (first | (go_at_call 101; refine (epfail_any b p _ hp2).mono ?_; rintro e w3 ⟨rfl, rfl⟩; simp only [fault]))
 exact ⟨rfl, rfl, (hk1.trans hk2).mono (by simp)⟩
set_option maxRecDepth 100000 in
set_option maxHeartbeats 400000 in
theorem etake_end (b : Nat) (p : ES) (fv : Value) (w : World) (hp : EB w b p) (hge : p.ix = p.s.size) :
    Calls Tryz.prog 136 #[.pointer (some ⟨b, 0, none⟩), fv] w fun e w' => e = fault p.ix ∧ Keeps [b] w w' := by
 go_enter Tryz.func136, Tryz.ntmps136
 go_wp2_with (first | (go_at_call 100; refine (epeek_none b p _ hp hge).mono ?_; rintro e w1 ⟨rfl, hp1, hk1⟩) | (go_at_call 101; refine (epfail_any b p _ hp1).mono ?_; rintro e w3 ⟨rfl, rfl⟩; simp only [fault]))
 exact ⟨rfl, rfl, hk1.mono (by simp)⟩
end Go.Proofs.YtnfojonmohijpabGreatDoor
namespace Go.Proofs.YtnfojonmohijpabGreatDoor
open Go.RowKit
def ptc : Part → List Value
 | .byte u => [.int .i64 (-1), .int .u8 (u.toNat : Int)]
 | .grp g => [.int .i64 (g : Int), .int .u8 0]
theorem ptc_one (p : Part) : (ptc p).toArray.all (·.oneCell') = true := by
 have h : ∀ k z, (Value.int k z).oneCell' = true := fun _ _ => rfl
 cases p <;> simp [ptc, h]
theorem ptc_len (p : Part) : (ptc p).length = 2 := by cases p <;> rfl
theorem infoPart2 (a b : Value) : (Tryz.prog.info? 209).map (·.size) = some (#[a, b] : Array Value).size := by kernel_rfl
theorem cf_pp1 : ∀ args w1, (callFunc 137 args).run Tryz.prog w1 = .ok (.enter 137 args) w1 := fun args w1 => by kernel_rfl
theorem cf_pp2 : ∀ args w1, (callFunc 138 args).run Tryz.prog w1 = .ok (.enter 138 args) w1 := fun args w1 => by kernel_rfl
theorem may_pp1 {c : Int} {w : World} : May 137 #[] c true w := by
 refine ⟨cf_pp1, fun w1 _ => ?_⟩
 go_enter Tryz.func137, Tryz.ntmps137
 go_wp2_with fail
 go_ret
 exact ⟨rfl, Keeps.refl _ _⟩
set_option maxRecDepth 100000 in
set_option maxHeartbeats 1000000 in
theorem may_pp2 {c : Int} {gs gb : Nat} {w : World} (h0 : 0 ≤ c) (h1 : c ≤ 255) (hg : w.cell? ⟨gb, 0, none⟩ = some (.int .i64 gs)) : May 138 #[.pointer (some ⟨gb, 0, none⟩)] c (decide (48 ≤ c ∧ c ≤ 57 ∧ c - 48 ≤ (gs : Int))) w := by
 refine ⟨cf_pp2, fun w1 hk => ?_⟩
 have hg1 := keep_cell hk hg
 by_cases hd : 48 ≤ c ∧ c ≤ 57
 ·have e1 : digB c = true := by simp [digB]; omega
  have hw : IntKind.u8.wrap (c - 48) = c - 48 := by
   have : IntKind.u8.wrap (c - 48) = (c - 48) % 256 := by simp [IntKind.wrap, IntKind.bits, IntKind.signed]
   omega
  obtain ⟨d, hde⟩ : ∃ d, c - 48 = d := ⟨_, rfl⟩
  have HD : Hid (decide (48 ≤ c ∧ c ≤ 57 ∧ c - 48 ≤ (gs : Int)) = decide (d ≤ (gs : Int))) := by
   show decide _ = decide _
   rw [hde]
   congr 1
   exact propext ⟨fun h => h.2.2, fun h => ⟨hd.1, hd.2, h⟩⟩
  have hd0 : 0 ≤ d := by omega
  have hd1 : d ≤ 9 := by omega
  rw [hde] at hw
  clear hd
  go_enter Tryz.func138, Tryz.ntmps138
  go_wp2_with (first | (go_at_call 139; refine (isDigit_any c _).mono ?_; rintro e w' ⟨rfl, rfl⟩; rw [e1]))
  go_ret
  exact ⟨by rw [HD.out]; rfl, Keeps.refl _ _⟩
 ·have e1 : digB c = false := by simp [digB]; omega
  have HD : Hid (decide (48 ≤ c ∧ c ≤ 57 ∧ c - 48 ≤ (gs : Int)) = false) := by
   show decide _ = false
   simp
   omega
  clear hd
  go_enter Tryz.func138, Tryz.ntmps138
  go_wp2_with (first | (go_at_call 139; refine (isDigit_any c _).mono ?_; rintro e w' ⟨rfl, rfl⟩; rw [e1]))
  go_ret
  exact ⟨by rw [HD.out]; rfl, Keeps.refl _ _⟩
theorem results_pp (tmps : Array Value) (w : World) (g : Nat) (a b : Value) (h4 : tmps.getD 4 undef = .pointer (some ⟨g, 0, none⟩)) (hp : w.heap[g]? = some (.cells #[a, b] 209 (0, 0))) :
    (results Tryz.f115 tmps).run Tryz.prog w = .ok (.agg #[a, b]) w := by
 have h : Tryz.f115.results = #[.cell 4 209] := rfl
 have e4 : tmps[4]?.getD undef = .pointer (some ⟨g, 0, none⟩) := by simpa using h4
 have l1 := run_loadVar_row (P := Tryz.prog) w g 209 209 #[a, b] (0, 0) _ hp Tryz.underlying209 rfl (infoPart2 a b)
 simp [results, h, e4, asAddr, l1]
def PtPost (b : Nat) (s : ByteArray) (gs i : Nat) (w : World) (e : Ending) (w' : World) : Prop :=
 Keeps [b] w w' ∧ match partF s gs i with
  | some (p, k) => e = .returned (.agg (ptc p).toArray) ∧ EB w' b ⟨s, k⟩
  | none => ∃ j : Nat, e = fault j
set_option maxRecDepth 100000 in
set_option maxHeartbeats 2000000 in
theorem parsePart_any (b : Nat) (s : ByteArray) (gs i : Nat) (hs : s.size ≤ 100) (hi : i < s.size) (w : World) (hp : EB w b ⟨s, i⟩) :
    Calls Tryz.prog 115 #[.pointer (some ⟨b, 0, none⟩), .int .i64 gs] w (PtPost b s gs i w) := by
 have hk0 : Keeps [] w ((w.alloc (.cells #[.int .i64 gs] 3)).alloc (.cells #[.int .i64 0, .int .u8 0] 209)) := ((Keeps.refl [] w).alloc _).alloc _
 have hg0 : ((w.alloc (.cells #[.int .i64 gs] 3)).alloc (.cells #[.int .i64 0, .int .u8 0] 209)).cell? ⟨w.heap.size, 0, none⟩ = some (.int .i64 gs) := by simp
 have hr0 : ((w.alloc (.cells #[.int .i64 gs] 3)).alloc (.cells #[.int .i64 0, .int .u8 0] 209)).heap[w.heap.size + 1]? = some (.cells #[.int .i64 0, .int .u8 0] 209 (0, 0)) := by
  have h := heap_alloc_new (w.alloc (.cells #[.int .i64 gs] 3)) (.cells #[.int .i64 0, .int .u8 0] 209)
  rw [show (w.alloc (.cells #[.int .i64 gs] 3)).heap.size = w.heap.size + 1 by simp] at h
  exact h
 have hb0 := hp.lt
 have hp0 := hp.keep hk0 (by simp)
 have hmf : ∀ (fn : Fn) (first cap : Array Value) (w : World), (Instr.makeFunc fn first cap).run Tryz.prog w = .ok (.func fn first cap) w := fun _ _ _ _ => rfl
 have HI : Hid (i < s.size) := hi
 have hbt := (s[i]'hi).toNat_lt
 have hat := at'_lt hi
 go_enter Tryz.func115, Tryz.ntmps115
 go_upto_region 1 with (fail)
 generalize (w.alloc (.cells #[.int .i64 gs] 3)).alloc (.cells #[.int .i64 0, .int .u8 0] 209) = W at *
 obtain ⟨gb, hgb⟩ : ∃ g, w.heap.size = g := ⟨_, rfl⟩
 rw [hgb] at hg0 hr0 ⊢
 have HGB : Hid (w.heap.size = gb ∧ b < gb) := ⟨hgb, by omega⟩
 clear hp hgb
 by_cases h92 : at' s i = 92
 ·have hsk := eskip_any b ⟨s, i⟩ 92 (by decide) W hp0 (Nat.le_of_lt hi) hs
  have hd : decide (ES.cur ⟨s, i⟩ = 92) = true := by show decide (at' s i = 92) = true; simpa using h92
  have htk : ES.took ⟨s, i⟩ 92 = ⟨s, i + 1⟩ := by unfold ES.took; show (if at' s i = 92 then _ else _) = _; rw [if_pos h92]
  rw [hd, htk] at hsk
  have H92 : Hid (at' s i = 92) := h92
  clear hd htk h92
  go_wp2_with fail
  refine hsk.mono ?_
  rintro e w1 ⟨rfl, hp1, hk1⟩
  have hr1 := (hk1.block (gb + 1) (Array.getElem?_eq_some_iff.1 hr0).1 (by simp; have := HGB.out; omega)).trans hr0
  have hkA : Keeps [b] w w1 := (hk0.mono (by simp)).trans hk1
  have hg1 : w1.cell? ⟨gb, 0, none⟩ = some (.int .i64 gs) := keep_cell_b hk1 (by show gb ≠ b; have := HGB.out; omega) hg0
  clear hsk hr0 hp0 hk1 hk0 hg0
  have hsn := eskip_any b ⟨s, i + 1⟩ 110 (by decide) w1 hp1 hi hs
  by_cases hn : at' s (i + 1) = 110
  ·have hd : decide (ES.cur ⟨s, i + 1⟩ = 110) = true := by show decide (at' s (i + 1) = 110) = true; simpa using hn
   have htk : ES.took ⟨s, i + 1⟩ 110 = ⟨s, i + 2⟩ := by unfold ES.took; show (if at' s (i + 1) = 110 then _ else _) = _; rw [if_pos hn]
   rw [hd, htk] at hsn
   have HP : Hid (partF s gs i = some (.byte 10, i + 2)) := by show partF s gs i = _; unfold partF; rw [if_pos H92.out, if_pos hn]
   clear hd htk hn
   go_wp2_with fail
   refine hsn.mono ?_
   rintro e w2 ⟨rfl, hp2, hk2⟩
   have hr2 := (hk2.block (gb + 1) (Array.getElem?_eq_some_iff.1 hr1).1 (by simp; have := HGB.out; omega)).trans hr1
   have hkB := hkA.trans hk2
   have hone := ptc_one (.byte 10)
   clear hsn hr1
   go_wp2_with (first | (refine wpList_store_row rfl 209 _ _ rfl (gb + 1) #[.int .i64 (-1), .int .u8 10] rfl rfl _ _ hr2 (infoPart2 _ _) rfl hone ?_))
   refine bodyPost_ret (results_pp _ _ (gb + 1) _ _ rfl (setRow_heap _ _ _ _ _ _ hr2)) rfl ?_
   have hkR := (Keeps.refl [gb + 1] w2).setRow (g := gb + 1) (by simp) #[.int .i64 (-1), .int .u8 10]
   refine ⟨hkB.fresh hkR (by intro x hx; simp at hx; have := HGB.out; exact Or.inr (by omega)), ?_⟩
   rw [HP.out]
   exact ⟨rfl, hp2.keep hkR (by simp; have := HGB.out; omega)⟩
  have hd : decide (ES.cur ⟨s, i + 1⟩ = 110) = false := by show decide (at' s (i + 1) = 110) = false; simpa using hn
  have htk : ES.took ⟨s, i + 1⟩ 110 = ⟨s, i + 1⟩ := by unfold ES.took; show (if at' s (i + 1) = 110 then _ else _) = _; rw [if_neg hn]
  rw [hd, htk] at hsn
  have HN : Hid (¬ at' s (i + 1) = 110) := hn
  clear hd htk hn
  go_wp2_with fail
  refine hsn.mono ?_
  rintro e w2 ⟨rfl, hp2, hk2⟩
  have hr2 := (hk2.block (gb + 1) (Array.getElem?_eq_some_iff.1 hr1).1 (by simp; have := HGB.out; omega)).trans hr1
  have hkB := hkA.trans hk2
  have hg2 : w2.cell? ⟨gb, 0, none⟩ = some (.int .i64 gs) := keep_cell_b hk2 (by show gb ≠ b; have := HGB.out; omega) hg1
  have hsb := eskip_any b ⟨s, i + 1⟩ 92 (by decide) w2 hp2 hi hs
  clear hsn hr1 hp1 hg1 hk2 hkA
  by_cases hn : at' s (i + 1) = 92
  ·have hd : decide (ES.cur ⟨s, i + 1⟩ = 92) = true := by show decide (at' s (i + 1) = 92) = true; simpa using hn
   have htk : ES.took ⟨s, i + 1⟩ 92 = ⟨s, i + 2⟩ := by unfold ES.took; show (if at' s (i + 1) = 92 then _ else _) = _; rw [if_pos hn]
   rw [hd, htk] at hsb
   have HP : Hid (partF s gs i = some (.byte 92, i + 2)) := by show partF s gs i = _; unfold partF; rw [if_pos H92.out, if_neg HN.out, if_pos hn]
   clear hd htk hn
   go_wp2_with fail
   refine hsb.mono ?_
   rintro e w3 ⟨rfl, hp3, hk3⟩
   have hr3 := (hk3.block (gb + 1) (Array.getElem?_eq_some_iff.1 hr2).1 (by simp; have := HGB.out; omega)).trans hr2
   have hkC := hkB.trans hk3
   have hone := ptc_one (.byte 92)
   clear hsb hr2
   go_wp2_with (first | (refine wpList_store_row rfl 209 _ _ rfl (gb + 1) #[.int .i64 (-1), .int .u8 92] rfl rfl _ _ hr3 (infoPart2 _ _) rfl hone ?_))
   refine bodyPost_ret (results_pp _ _ (gb + 1) _ _ rfl (setRow_heap _ _ _ _ _ _ hr3)) rfl ?_
   have hkR := (Keeps.refl [gb + 1] w3).setRow (g := gb + 1) (by simp) #[.int .i64 (-1), .int .u8 92]
   refine ⟨hkC.fresh hkR (by intro x hx; simp at hx; have := HGB.out; exact Or.inr (by omega)), ?_⟩
   rw [HP.out]
   exact ⟨rfl, hp3.keep hkR (by simp; have := HGB.out; omega)⟩
  have hd : decide (ES.cur ⟨s, i + 1⟩ = 92) = false := by show decide (at' s (i + 1) = 92) = false; simpa using hn
  have htk : ES.took ⟨s, i + 1⟩ 92 = ⟨s, i + 1⟩ := by unfold ES.took; show (if at' s (i + 1) = 92 then _ else _) = _; rw [if_neg hn]
  rw [hd, htk] at hsb
  have HN2 : Hid (¬ at' s (i + 1) = 92) := hn
  clear hd htk hn
  go_wp2_with fail
  refine hsb.mono ?_
  rintro e w3 ⟨rfl, hp3, hk3⟩
  have hr3 := (hk3.block (gb + 1) (Array.getElem?_eq_some_iff.1 hr2).1 (by simp; have := HGB.out; omega)).trans hr2
  have hkC := hkB.trans hk3
  have hg3 : w3.cell? ⟨gb, 0, none⟩ = some (.int .i64 gs) := keep_cell_b hk3 (by show gb ≠ b; have := HGB.out; omega) hg2
  clear hsb hr2 hp2 hg2 hk3 hkB
  by_cases hil : i + 1 < s.size
  rotate_left
  ·have hie : i + 1 = s.size := by omega
   have hneg : at' s (i + 1) = -1 := by unfold at'; rw [dif_neg (by omega)]
   have HP : Hid (partF s gs i = none) := by show partF s gs i = _; unfold partF; rw [if_pos H92.out, if_neg HN.out, if_neg HN2.out, if_neg (by omega)]
   have htake := etake_end b ⟨s, i + 1⟩ (.func (.func 138) #[] #[.pointer (some ⟨gb, 0, none⟩)]) w3 hp3 hie
   clear hil hie hneg
   go_wp2_with fail
   refine htake.mono ?_
   rintro e w4 ⟨rfl, hk4⟩
   have hkD := hkC.trans hk4
   simp only [fault]
   refine ⟨rfl, hkD, ?_⟩
   rw [HP.out]
   exact ⟨i + 1, rfl⟩
  have hbt1 := (s[i + 1]'hil).toNat_lt
  have hat1 := at'_lt hil
  by_cases hdg : 48 ≤ at' s (i + 1) ∧ at' s (i + 1) ≤ 57 ∧ at' s (i + 1) - 48 ≤ (gs : Int)
  ·have hm : May 138 #[.pointer (some ⟨gb, 0, none⟩)] (ES.cur ⟨s, i + 1⟩) true w3 := by
      have h := may_pp2 (c := at' s (i + 1)) (gs := gs) (by omega) (by omega) hg3
      rw [decide_eq_true hdg] at h
      exact h
   have HP : Hid (partF s gs i = some (.grp (at' s (i + 1) - 48).toNat, i + 2)) := by show partF s gs i = _; unfold partF; rw [if_pos H92.out, if_neg HN.out, if_neg HN2.out, if_pos hdg]
   have htake := etake_ok b ⟨s, i + 1⟩ 138 #[.pointer (some ⟨gb, 0, none⟩)] w3 hp3 hs hil hm
   obtain ⟨c, hc⟩ : ∃ c, ES.cur ⟨s, i + 1⟩ = c := ⟨_, rfl⟩
   rw [hc] at htake
   have hc' : at' s (i + 1) = c := hc
   rw [hc'] at hdg HP
   have hw : IntKind.u8.wrap (c - 48) = c - 48 := by
    have : IntKind.u8.wrap (c - 48) = (c - 48) % 256 := by simp [IntKind.wrap, IntKind.bits, IntKind.signed]
    omega
   obtain ⟨d, hde⟩ : ∃ d : Nat, c - 48 = (d : Int) := ⟨(c - 48).toNat, by omega⟩
   have hdn : (c - 48).toNat = d := by omega
   rw [hdn] at HP
   rw [hde] at hw
   have hd9 : (d : Int) ≤ 9 := by omega
   have hc48 : c = (d : Int) + 48 := by omega
   have HC : Hid (c - 48 = (d : Int)) := hde
   clear hdg hc hc' hdn hm hat1 hbt1 hc48
   go_wp2_with fail
   refine htake.mono ?_
   rintro e w4 ⟨rfl, hp4, hk4⟩
   have hr4 := (hk4.block (gb + 1) (Array.getElem?_eq_some_iff.1 hr3).1 (by simp; have := HGB.out; omega)).trans hr3
   have hkD := hkC.trans hk4
   have hone := ptc_one (.grp d)
   clear htake hr3
   go_wp2_with (first | (refine wpList_store_row rfl 209 _ _ rfl (gb + 1) #[.int .i64 (d : Int), .int .u8 0] rfl rfl _ _ hr4 (infoPart2 _ _) rfl hone ?_))
   refine bodyPost_ret (results_pp _ _ (gb + 1) _ _ rfl (setRow_heap _ _ _ _ _ _ hr4)) rfl ?_
   have hkR := (Keeps.refl [gb + 1] w4).setRow (g := gb + 1) (by simp) #[.int .i64 (d : Int), .int .u8 0]
   refine ⟨hkD.fresh hkR (by intro x hx; simp at hx; have := HGB.out; exact Or.inr (by omega)), ?_⟩
   rw [HP.out]
   exact ⟨rfl, hp4.keep hkR (by simp; have := HGB.out; omega)⟩
  ·have hm : May 138 #[.pointer (some ⟨gb, 0, none⟩)] (ES.cur ⟨s, i + 1⟩) false w3 := by
      have h := may_pp2 (c := at' s (i + 1)) (gs := gs) (by omega) (by omega) hg3
      rw [decide_eq_false hdg] at h
      exact h
   have HP : Hid (partF s gs i = none) := by show partF s gs i = _; unfold partF; rw [if_pos H92.out, if_neg HN.out, if_neg HN2.out, if_neg hdg]
   have htake := etake_bad b ⟨s, i + 1⟩ 138 #[.pointer (some ⟨gb, 0, none⟩)] w3 hp3 hs hil hm
   clear hdg hm hat1 hbt1
   go_wp2_with fail
   refine htake.mono ?_
   rintro e w4 ⟨rfl, hk4⟩
   have hkD := hkC.trans hk4
   simp only [fault]
   refine ⟨rfl, hkD, ?_⟩
   rw [HP.out]
   exact ⟨i + 1, rfl⟩
 ·have HP : Hid (partF s gs i = some (.byte (UInt8.ofNat (at' s i).toNat), i + 1)) := by show partF s gs i = _; unfold partF; rw [if_neg h92]
  have hsk := eskip_any b ⟨s, i⟩ 92 (by decide) W hp0 (Nat.le_of_lt hi) hs
  have hd : decide (ES.cur ⟨s, i⟩ = 92) = false := by show decide (at' s i = 92) = false; simpa using h92
  have htk : ES.took ⟨s, i⟩ 92 = ⟨s, i⟩ := by unfold ES.took; show (if at' s i = 92 then _ else _) = _; rw [if_neg h92]
  rw [hd, htk] at hsk
  clear hd htk h92
  go_wp2_with fail
  refine hsk.mono ?_
  rintro e w1 ⟨rfl, hp1, hk1⟩
  have hr1 := (hk1.block (gb + 1) (Array.getElem?_eq_some_iff.1 hr0).1 (by simp; have := HGB.out; omega)).trans hr0
  have htake := etake_ok b ⟨s, i⟩ 137 #[] w1 hp1 hs hi may_pp1
  obtain ⟨c, hc⟩ : ∃ c, ES.cur ⟨s, i⟩ = c := ⟨_, rfl⟩
  rw [hc] at htake
  have hc' : at' s i = c := hc
  rw [hc'] at HP hat
  have HCC : Hid (((UInt8.ofNat c.toNat).toNat : Int) = c) := by
   show ((UInt8.ofNat c.toNat).toNat : Int) = c
   rw [UInt8.toNat_ofNat']
   omega
  clear hsk hr0 hp1 hc hc' hat hbt
  go_wp2_with fail
  refine htake.mono ?_
  rintro e w2 ⟨rfl, hp2, hk2⟩
  have hr2 := (hk2.block (gb + 1) (Array.getElem?_eq_some_iff.1 hr1).1 (by simp; have := HGB.out; omega)).trans hr1
  have hkB : Keeps [b] w w2 := ((hk0.mono (by simp)).trans hk1).trans hk2
  have hone := ptc_one (.byte 0)
  have hone' : (#[.int .i64 (-1), .int .u8 c] : Array Value).all (·.oneCell') = true := by
   have h : ∀ k z, (Value.int k z).oneCell' = true := fun _ _ => rfl
   simp [h]
  clear htake hr1 hone
  go_wp2_with (first | (refine wpList_store_row rfl 209 _ _ rfl (gb + 1) #[.int .i64 (-1), .int .u8 c] rfl rfl _ _ hr2 (infoPart2 _ _) rfl hone' ?_))
  refine bodyPost_ret (results_pp _ _ (gb + 1) _ _ rfl (setRow_heap _ _ _ _ _ _ hr2)) rfl ?_
  have hkR := (Keeps.refl [gb + 1] w2).setRow (g := gb + 1) (by simp) #[.int .i64 (-1), .int .u8 c]
  refine ⟨hkB.fresh hkR (by intro x hx; simp at hx; have := HGB.out; exact Or.inr (by omega)), ?_⟩
  rw [HP.out]
  exact ⟨by simp only [ptc, HCC.out], hp2.keep hkR (by simp; have := HGB.out; omega)⟩
end Go.Proofs.YtnfojonmohijpabGreatDoor
namespace Go.Proofs.YtnfojonmohijpabGreatDoor
open Go.RowKit
def TpR (w : World) (v : Value) (ps : List Part) : Prop := w.ownsRow 0 209 2 v ps.length (ps.flatMap ptc)
theorem TpR.keep {w w' : World} {v : Value} {ps : List Part} {S : List Nat} (h : TpR w v ps) (hk : Keeps S w w') (hS : ∀ g, v.ownBlock = some g → g ∉ S) : TpR w' v ps := World.ownsRow.keep h hk hS
theorem infoPart : (Tryz.prog.info? 209).map (fun i => (i.zero, i.size, i.bytes)) = some (some (.agg #[.int .i64 0, .int .u8 0]), 2, 16) := by kernel_rfl
theorem ptc_ones (p : Part) : ∀ x ∈ ptc p, x.oneCell' = true := by
 intro x hx
 cases p <;> (simp only [ptc, List.mem_cons, List.not_mem_nil, or_false] at hx; rcases hx with rfl | rfl <;> rfl)
structure TpL (w wr : World) (b : Nat) (s : ByteArray) (gs i : Nat) (v : Value) (ps : List Part) : Prop where
 rd : EB wr b ⟨s, i⟩
 row : TpR wr v ps
 fresh : ∀ g, v.ownBlock = some g → w.heap.size ≤ g ∧ g ≠ b
 len : ps.length ≤ i
 ile : i ≤ s.size
 keep : Keeps [] w wr
 says : ∀ q, TplA s gs i q → TplA s gs 0 (q.map (ps ++ ·))
def TpPost (s : ByteArray) (gs : Nat) (w : World) (e : Ending) (w' : World) : Prop :=
 Keeps [] w w' ∧ ((∃ v ps, e = .returned v ∧ TplA s gs 0 (some ps) ∧ TpR w' v ps ∧ (∀ g, v.ownBlock = some g → w.heap.size ≤ g)) ∨ (∃ j : Nat, e = fault j ∧ TplA s gs 0 none))
set_option maxRecDepth 100000 in
set_option maxHeartbeats 4000000 in
theorem parseTemplate_any (s : ByteArray) (gs : Nat) (hs : s.size ≤ 100) (w : World) :
    Calls Tryz.prog 80 #[.string s, .int .i64 gs] w (TpPost s gs w) := by
 obtain ⟨i0, hi0, hz0, hz1, hz2⟩ := info_parts infoPart
 have hun := Tryz.underlying81
 have HS : Hid (s.size ≤ 100) := hs
 go_enter Tryz.func80, Tryz.ntmps80
 go_wp2_with fail
 refine (new_any s _).mono ?_
 rintro e w1 ⟨rfl, hk1⟩
 have hz : (w1.alloc (.cells #[.string s, .int .i64 0] 138)).heap[w1.heap.size]? = some (.cells #[.string s, .int .i64 0] 138 (0, 0)) := heap_alloc_new w1 _
 have hL0 : TpL w (w1.alloc (.cells #[.string s, .int .i64 0] 138)) w1.heap.size s gs 0 (.slice none 0 0) [] :=
  ⟨hz, ⟨rfl, .inl ⟨rfl, rfl⟩⟩, (fun g h => by cases h), Nat.le_refl _, Nat.zero_le _, hk1.trans ((Keeps.refl [] w1).alloc _), fun q h => by simpa using h⟩
 have HB : Hid (w.heap.size ≤ w1.heap.size) := hk1.size
 clear hk1 hz
 go_upto_region 3 with (fail)
 obtain ⟨b, hbe⟩ : ∃ b, w1.heap.size = b := ⟨_, rfl⟩
 rw [hbe] at hL0 HB ⊢
 generalize w1.alloc (.cells #[.string s, .int .i64 0] 138) = W at *
 clear hbe
 go_loopw [6] (fun q6 wr => ∃ (i : Nat) (ps : List Part), TpL w wr b s gs i q6 ps) (fun _ wr => match wr.cell? ⟨b, 1, none⟩ with | some v => s.size - (intOf v).toNat | none => 0)
 case atStart => exact ⟨0, [], hL0⟩
 case round =>
  clear hL0
  obtain ⟨i, ps, L⟩ := hrel
  obtain ⟨xa, xn, xc, rfl⟩ := ownsRow_sl L.row
  obtain ⟨_, cix, _, _, _⟩ := L.rd.main
  have HM : Hid (wr.cell? ⟨b, 1, none⟩ = some (.int .i64 i)) := cix
  by_cases hlt : i < s.size
  rotate_left
  ·have hie : i = s.size := by have := L.ile; omega
   have hpk := epeek_none b ⟨s, i⟩ wr L.rd hie
   have HE : Hid (TplA s gs 0 (some ps)) := by
    have h := L.says (some []) (.fin i (by omega))
    simp only [Option.map_some, List.append_nil] at h
    exact h
   have HL : Hid (TpL w wr b s gs i (.slice xa xn xc) ps) := L
   clear L hie hlt cix
   go_wp2_with fail
   refine hpk.mono ?_
   rintro e w2 ⟨rfl, hp2, hk2⟩
   have hrow := HL.out.row.keep hk2 (by simp)
   have hkE := HL.out.keep.trans hk2
   clear hpk hp2 hk2
   go_wp2_with fail
   go_ret
   exact ⟨hkE, Or.inl ⟨_, ps, rfl, HE.out, hrow, fun g hg => (HL.out.fresh g hg).1⟩⟩
  ·have HI : Hid (i < s.size) := hlt
   have hpk := epeek_some b ⟨s, i⟩ wr L.rd hlt hs
   have HL : Hid (TpL w wr b s gs i (.slice xa xn xc) ps) := L
   obtain ⟨c, hc⟩ : ∃ c, ES.cur ⟨s, i⟩ = c := ⟨_, rfl⟩
   rw [hc] at hpk
   clear L hlt hc cix
   go_wp2_with fail
   refine hpk.mono ?_
   rintro e w2 ⟨rfl, hp2, hk2⟩
   have hpp := parsePart_any b s gs i hs HI.out w2 hp2
   have hrow2 := HL.out.row.keep hk2 (by simp)
   have hk02 := HL.out.keep.trans hk2
   clear hpk
   go_wp2_with fail
   refine hpp.mono ?_
   rintro e w3 ⟨hk3, hc3⟩
   have hk03 : Keeps [] w w3 := hk02.fresh hk3 (by intro x hx; simp at hx; have := HB.out; exact Or.inr (by omega))
   cases hpf : partF s gs i with
   | none =>
    rw [hpf] at hc3
    obtain ⟨j, rfl⟩ := hc3
    have HE : Hid (TplA s gs 0 none) := HL.out.says none (.bad i HI.out hpf)
    simp only [fault]
    exact ⟨rfl, hk03, Or.inr ⟨j, rfl, HE.out⟩⟩
   | some pk =>
    obtain ⟨p, k⟩ := pk
    rw [hpf] at hc3
    obtain ⟨rfl, hp3⟩ := hc3
    obtain ⟨hik, hks, _⟩ := partF_le hpf HI.out
    have hrow3 : TpR w3 (.slice xa xn xc) ps := hrow2.keep hk3 (fun g hg => by simp; exact (HL.out.fresh g hg).2)
    have HPF : Hid (partF s gs i = some (p, k)) := hpf
    have HKS : Hid (i < k ∧ k ≤ s.size) := ⟨hik, hks⟩
    have hown3 : w3.ownsRow 0 209 2 (.slice xa xn xc) ps.length (ps.flatMap ptc) := hrow3
    have hpl := HL.out.len
    obtain ⟨n, hn⟩ : ∃ n, ps.length = n := ⟨_, rfl⟩
    rw [hn] at hown3 hpl
    have HNL : Hid (ps.length = n ∧ n ≤ i) := ⟨hn, hpl⟩
    have hlm : n + 1 ≤ maxLen := by unfold maxLen; have := HI.out; have := HS.out; omega
    have hbt : (n + 1) * 16 ≤ 140737488355328 := by have := HI.out; have := HS.out; omega
    have hH : (w3.alloc (.cells (ptc p).toArray 209)).heap.size = w3.heap.size + 1 := by simp
    have hnews : ∀ q x, (ptc p)[q]? = some x → (w3.alloc (.cells (ptc p).toArray 209)).cell? ((⟨w3.heap.size, 0, none⟩ : Addr).add q) = some x := World.news_of_block (cs := (ptc p).toArray) (heap_alloc_new w3 _)
    have h1c := ptc_ones p
    have hpl2 := ptc_len p
    obtain ⟨pa, pb, hpab⟩ : ∃ pa pb, ptc p = [pa, pb] := by cases p <;> exact ⟨_, _, rfl⟩
    have HPC : Hid (ptc p = [pa, pb]) := hpab
    rw [hpab] at hnews h1c hH ⊢
    clear hpf hik hks hrow2 hrow3 hn hpl hpl2 hpab hpp hp2 hk2
    go_wp2_with (first | (at_builtin; refine wpList_append_lies _ rfl _ _ _ rfl 0 209 i0 _ 2 16 hun hi0 hz0 hz1 hz2 rfl (by decide) (.slice xa xn xc) n _ rfl (hown3.alloc _) ⟨w3.heap.size, 0, none⟩ 1 1 [pa, pb] rfl rfl hnews h1c (by omega) hlm hbt (Nat.zero_le _) (w3.heap.size + 1) hH ?_))
    intro g' cap w5 hown5 hgrow hat hlt5
    have hk5 : Keeps (Value.slice xa xn xc).ownBlock.toList w3 w5 := ((Keeps.refl _ w3).alloc _).trans (Keeps.ofGrown hgrow)
    have hfr := HL.out.fresh
    have hg4 : (Value.slice xa xn xc).ownBlock = some g' ∨ w3.heap.size ≤ g' := hat.imp id fun h => by omega
    have hb3 := hp3.lt
    have L5 : TpL w w5 b s gs k (.slice (some ⟨g', 0, none⟩) (n + 1) cap) (ps ++ [p]) := by
     refine ⟨hp3.keep hk5 (by rw [Option.mem_toList]; exact fun h => (hfr b h).2 rfl), ?_, ?_, ?_, HKS.out.2, ?_, ?_⟩
     ·unfold TpR
      rw [List.length_append, HNL.out.1, List.flatMap_append, List.flatMap_singleton, HPC.out]
      exact hown5
     ·intro y hy
      cases hy
      rcases hg4 with h | h
      ·exact hfr _ h
      ·have := hk03.size
       exact ⟨by show w.heap.size ≤ g'; omega, by show g' ≠ b; omega⟩
     ·rw [List.length_append, HNL.out.1]
      have := HNL.out.2
      have := HKS.out.1
      simp
      omega
     ·exact hk03.fresh hk5 (by
        intro y hy
        rw [Option.mem_toList] at hy
        exact Or.inr (hfr y hy).1)
     ·intro q hq
      have h := HL.out.says _ (.go i k p q HI.out HPF.out hq)
      cases q with
      | none => exact h
      | some l =>
       simp only [Option.map_some] at h ⊢
       rw [List.append_assoc]
       exact h
    have HL5 : Hid (TpL w w5 b s gs k (.slice (some ⟨g', 0, none⟩) (n + 1) cap) (ps ++ [p])) := L5
    clear hown5 hgrow hnews hH h1c hk5 hown3 hat hg4 L5 hlt5 hfr hp3
    go_wp2_with fail
    go_roundw
    case rel => exact ⟨k, _, HL5.out⟩
    case measure =>
     have h1 := HM.out
     obtain ⟨_, h2, _, _, _⟩ := HL5.out.rd.main
     have := HKS.out
     have := HI.out
     simp only [h1, h2, intOf]
     simp
     omega
end Go.Proofs.YtnfojonmohijpabGreatDoor
namespace Go.Proofs.YtnfojonmohijpabGreatDoor
open Go.RowKit
theorem Keeps.ofBel {w w' : World} (h : Below w.heap.size w w') : Keeps [] w w' := ⟨h.os, h.tape, h.output, h.size, fun j hj _ => h.block j hj⟩
theorem nmB_data (b : ByteArray) : nmB b.data.toList = b := by
 obtain ⟨⟨l⟩⟩ := b
 rfl
structure Fnd (w : World) (v : Value) (sp : List Int) : Prop where
 sl : ∃ g c, v = .slice (some ⟨g, 0, none⟩) sp.length c ∧ g < w.heap.size ∧ ∀ (k : Nat) (z : Int), sp[k]? = some z → w.cell? ⟨g, k, none⟩ = some (.int .i64 z)
theorem Fnd.keep {w w' : World} {v : Value} {sp : List Int} (h : Fnd w v sp) (hk : Keeps [] w w') : Fnd w' v sp := by
 obtain ⟨g, c, h1, h2, h3⟩ := h.sl
 exact ⟨g, c, h1, Nat.lt_of_lt_of_le h2 hk.size, fun k z hz => (World.cell?_of_block (hk.block g h2 (by simp))).trans (h3 k z hz)⟩
def SpOk (line : ByteArray) (sp : List Int) (gs : Nat) : Prop := sp.length = 2 + 2 * gs ∧ ∀ g, g ≤ gs → 0 ≤ sp.getD (2 * g) (-1) → sp.getD (2 * g) (-1) ≤ sp.getD (2 * g + 1) (-1) ∧ sp.getD (2 * g + 1) (-1) ≤ (line.size : Int)
def GrOk (gs : Nat) (ps : List Part) : Prop := ∀ p ∈ ps, ∀ g, p = .grp g → g ≤ gs ∧ g ≤ 9
theorem cutL_len {line : ByteArray} {b e : Int} (h : line.size ≤ 100) : (cutL line b e).length ≤ 100 := by
 unfold cutL
 have h1 : (line.extract b.toNat e.toNat).data.toList.length = (line.extract b.toNat e.toNat).size := Array.length_toList
 rw [h1, ByteArray.size_extract]
 omega
theorem fill_len {line : ByteArray} {sp : List Int} (h : line.size ≤ 100) (p : Part) : (p.fill line sp).length ≤ 100 := by
 cases p with
 | byte u => simp [Part.fill]
 | grp g =>
  simp only [Part.fill]
  split
  ·exact cutL_len h
  ·simp
theorem fillP_len {line : ByteArray} {sp : List Int} (h : line.size ≤ 100) : ∀ ps : List Part, (fillP ps line sp).length ≤ ps.length * 100
 | [] => by simp [fillP]
 | p :: ps => by
  have h1 := fill_len (sp := sp) h p
  have h2 := fillP_len (sp := sp) h ps
  simp only [fillP, List.flatMap_cons, List.length_append, List.length_cons] at h2 ⊢
  omega
theorem fillP_snoc (line : ByteArray) (sp : List Int) (ps : List Part) (i : Nat) (p : Part) (h : ps[i]? = some p) : fillP (ps.take (i + 1)) line sp = fillP (ps.take i) line sp ++ p.fill line sp := by
 unfold fillP
 rw [List.take_add_one, h, List.flatMap_append]
 simp
theorem tp_get {ps : List Part} {i : Nat} {p : Part} (h : ps[i]? = some p) : ∀ q, q < 2 → (ps.flatMap ptc)[i * 2 + q]? = (ptc p)[q]? := by
 induction ps generalizing i with
 | nil => simp at h
 | cons a ps ih =>
  intro q hq
  cases i with
  | zero =>
   have e : a = p := by simpa using h
   subst e
   rw [List.flatMap_cons, Nat.zero_mul, Nat.zero_add, List.getElem?_append_left (by rw [ptc_len]; exact hq)]
  | succ i =>
   have h' : ps[i]? = some p := by simpa using h
   rw [List.flatMap_cons, List.getElem?_append_right (by rw [ptc_len]; omega), ptc_len, show (i + 1) * 2 + q - 2 = i * 2 + q by omega]
   exact ih h' q hq
theorem TpR.range {w : World} {g c n : Nat} {ps : List Part} (hn : ps.length = n) (h : TpR w (.slice (some ⟨g, 0, none⟩) n c) ps) {i : Nat} {p : Part} (hp : ps[i]? = some p) : w.rangeAt g (i * 2) (ptc p) := fun q u hu => by
 have hq : q < 2 := by rw [← ptc_len p]; exact (List.getElem?_eq_some_iff.1 hu).1
 have hl : i < ps.length := (List.getElem?_eq_some_iff.1 hp).1
 unfold TpR at h
 rw [hn] at h
 rw [World.ownsRow.cellAt h (i * 2 + q) (by omega), tp_get hp q hq]
 exact hu
set_option maxRecDepth 100000 in
set_option maxHeartbeats 4000000 in
theorem fill_any (v : Value) (ps : List Part) (line : ByteArray) (vf : Value) (sp : List Int) (gs : Nat) (w : World) (hT : TpR w v ps) (hF : Fnd w vf sp) (hl : line.size ≤ 100) (hp : ps.length ≤ 100) (hsp : SpOk line sp gs) (hgr : GrOk gs ps) (hg9 : gs ≤ 9) :
    Calls Tryz.prog 86 #[v, .string line, vf] w fun e w' => e = .returned (.string (nmB (fillP ps line sp))) ∧ Keeps [] w w' := by
 obtain ⟨gf, cf, rfl, hgf, hcf⟩ := hF.sl
 have hB0 : BD (w.alloc (.cells #[.pointer none, .slice none 0 0] 119)) w.heap.size w.heap.size [] := ⟨Nat.le_refl _, _, _, Or.inl rfl, heap_alloc_new w _, World.ownsRow_nil _ _ _ _, by simp [Value.ownBlock], fun _ => rfl⟩
 have hb0 : Below w.heap.size w (w.alloc (.cells #[.pointer none, .slice none 0 0] 119)) := Below.ofKeeps ((Keeps.refl [] w).alloc _) (Nat.le_refl _) (by simp)
 obtain ⟨va, vn, vc, rfl⟩ := ownsRow_sl hT
 have hvn : vn = ps.length := by
  rcases hT.2 with ⟨e, e2⟩ | ⟨_, _, _, e, _⟩
  ·cases e; exact e2.symm
  ·cases e; rfl
 have HT : Hid (TpR w (.slice va vn vc) ps ∧ vn = ps.length ∧ ps.length ≤ 100) := ⟨hT, hvn, hp⟩
 have hn1 : (vn : Int) ≤ 100 := by omega
 have HSP : Hid (SpOk line sp gs ∧ GrOk gs ps ∧ gs ≤ 9) := ⟨hsp, hgr, hg9⟩
 have HL : Hid (line.size ≤ 100) := hl
 have HCF : Hid (gf < w.heap.size ∧ ∀ (k : Nat) (z : Int), sp[k]? = some z → w.cell? ⟨gf, k, none⟩ = some (.int .i64 z)) := ⟨hgf, hcf⟩
 clear hvn hT hp hsp hgr hg9 hcf hF hgf
 go_enter Tryz.func86, Tryz.ntmps86
 go_upto_region 2 with (fail)
 generalize w.alloc (.cells #[.pointer none, .slice none 0 0] 119) = W at *
 obtain ⟨B, hBe⟩ : ∃ B, w.heap.size = B := ⟨_, rfl⟩
 have HB : Hid (w.heap.size = B) := hBe
 rw [hBe] at hB0 hb0 ⊢
 clear hBe
 go_wp2_with fail
 go_loopw [14] (fun q wr => ∃ i : Nat, q = .int .i64 i ∧ i ≤ vn ∧ BD wr B B (fillP (ps.take i) line sp) ∧ Below B w wr) (fun q _ => vn - (intOf q).toNat)
 case atStart => exact ⟨0, rfl, Nat.zero_le _, hB0, hb0⟩
 case round =>
  clear hB0 hb0
  obtain ⟨i, rfl, hi, hBD, hbel⟩ := hrel
  have hi0 : (0 : Int) ≤ (i : Int) := by omega
  have hBw : B ≤ wr.heap.size := by have := hbel.size; have := HB.out; omega
  by_cases hlt : i < vn
  rotate_left
  ·have hie : i = vn := by omega
   have hlt' : ¬ (i : Int) < (vn : Int) := by omega
   have hst := string_any B B _ wr hBD
   have HE : Hid (ps.take i = ps) := List.take_of_length_le (by have := HT.out; omega)
   rw [HE.out] at hst
   clear hlt hi hie
   go_wp2_with fail
   refine hst.mono ?_
   rintro e w2 ⟨rfl, hb2⟩
   have hkE : Keeps [] w w2 := Keeps.ofBel (by rw [HB.out]; exact Below.join hbel hb2)
   clear hst hBD
   go_wp2_with fail
   go_ret
   exact ⟨rfl, hkE⟩
  have hlt' : (i : Int) < (vn : Int) := by omega
  have HI : Hid (i < vn) := hlt
  obtain ⟨p, hpi⟩ : ∃ p, ps[i]? = some p := ⟨_, List.getElem?_eq_getElem (by have := HT.out; omega)⟩
  obtain ⟨gt, ct, hva, _, hgt⟩ := World.ownsRow.form HT.out.1 (by have := HT.out; omega)
  have hva' : va = some ⟨gt, 0, none⟩ ∧ vc = ct := by cases hva; exact ⟨rfl, rfl⟩
  obtain ⟨rfl, rfl⟩ := hva'
  have hrg0 := TpR.range (n := vn) (by have := HT.out; omega) HT.out.1 hpi
  have hrg : wr.rangeAt gt (i * 2) (ptc p) := fun q u hu => (World.cell?_of_block (hbel.block gt (by have := HB.out; omega))).trans (hrg0 q u hu)
  have hi2 : (Tryz.prog.info? 209).map (·.size) = some (ptc p).length := by rw [ptc_len]; kernel_rfl
  have hsn := fillP_snoc line sp ps i p hpi
  have hfl := fillP_len (sp := sp) HL.out (ps.take i)
  have hfl2 : (fillP (ps.take i) line sp).length ≤ 10000 := by
   rw [List.length_take] at hfl
   have := HT.out
   omega
  obtain ⟨l, hle⟩ : ∃ l, fillP (ps.take i) line sp = l := ⟨_, rfl⟩
  rw [hle] at hBD hsn hfl2
  have HSN : Hid (fillP (ps.take (i + 1)) line sp = l ++ p.fill line sp) := hsn
  have HPI : Hid (ps[i]? = some p) := hpi
  clear hle hfl hsn hpi hlt hi hva
  have hz0 : (wr.alloc (.cells #[.int .i64 0, .int .u8 0] 209)).heap[wr.heap.size]? = some (.cells #[.int .i64 0, .int .u8 0] 209 (0, 0)) := heap_alloc_new wr _
  have hkA : Keeps [] wr ((wr.alloc (.cells #[.int .i64 0, .int .u8 0] 209)).setRow wr.heap.size (ptc p).toArray) := ((Keeps.refl [] wr).alloc _).setRow (Or.inr (Nat.le_refl _)) _
  have hP6 : ((wr.alloc (.cells #[.int .i64 0, .int .u8 0] 209)).setRow wr.heap.size (ptc p).toArray).heap[wr.heap.size]? = some (.cells (ptc p).toArray 209 (0, 0)) := setRow_heap _ _ _ _ _ _ hz0
  have hone := ptc_one p
  have hi22 : (Tryz.prog.info? 209).map (·.size) = some (ptc p).toArray.size := by rw [List.size_toArray, ptc_len]; kernel_rfl
  have hsz2 : (#[.int .i64 0, .int .u8 0] : Array Value).size = (ptc p).toArray.size := by
   show 2 = _
   rw [List.size_toArray, ptc_len]
  have hBD1 := hBD.keep hkA
  have hb1 := Below.join hbel (Below.ofKeeps hkA hBw (by simp))
  have hBw1 : B ≤ ((wr.alloc (.cells #[.int .i64 0, .int .u8 0] 209)).setRow wr.heap.size (ptc p).toArray).heap.size := Nat.le_trans hBw hkA.size
  go_upto_region 5 with (first | (refine wpList_load_mid rfl 209 _ rfl gt (i * 2) rfl _ _ hrg Tryz.underlying209 rfl hi2 ?_) | (refine wpList_store_row rfl 209 _ _ rfl wr.heap.size (ptc p).toArray rfl rfl _ _ hz0 hi22 hsz2 hone ?_; generalize (wr.alloc (.cells #[.int .i64 0, .int .u8 0] 209)).setRow wr.heap.size (ptc p).toArray = W6 at *))
  obtain ⟨b6, hb6⟩ : ∃ b, wr.heap.size = b := ⟨_, rfl⟩
  rw [hb6] at hP6 ⊢
  clear hz0 hkA hBD hbel hrg hrg0 hi2 hi22 hsz2 hone hb6
  cases p with
  | byte u =>
   have c0 : W6.cell? ⟨b6, 0, none⟩ = some (.int .i64 (-1)) := by rw [Lib.cell_of_heap hP6]; rfl
   have c1 : W6.cell? ⟨b6, 1, none⟩ = some (.int .u8 (u.toNat : Int)) := by rw [Lib.cell_of_heap hP6]; rfl
   have hwb := writeByte_any B B l u (u.toNat : Int) rfl W6 hBD1 (by omega) hBw1
   clear hP6
   go_wp2_with fail
   refine hwb.mono ?_
   rintro e w2 ⟨rfl, hBD2, hb2, _⟩
   have hbE := Below.join hb1 hb2
   clear hwb hBD1 hb1 hb2 c0 c1
   go_wp2_with fail
   go_roundw
   case rel => exact ⟨i + 1, by go_num, HI.out, by rw [HSN.out]; exact hBD2, hbE⟩
   case measure => have := HI.out; simp [intOf]; omega
  | grp g =>
   have c0 : W6.cell? ⟨b6, 0, none⟩ = some (.int .i64 (g : Int)) := by rw [Lib.cell_of_heap hP6]; rfl
   have hgg := HSP.out.2.1 _ (List.mem_of_getElem? HPI.out) g rfl
   have hspl := HSP.out.1.1
   obtain ⟨x, hx⟩ : ∃ x, sp[2 * g]? = some x := ⟨_, List.getElem?_eq_getElem (by omega)⟩
   obtain ⟨y, hy⟩ : ∃ y, sp[2 * g + 1]? = some y := ⟨_, List.getElem?_eq_getElem (by omega)⟩
   have hgD : sp.getD (2 * g) (-1) = x := by rw [List.getD_eq_getElem?_getD, hx]; rfl
   have hgE : sp.getD (2 * g + 1) (-1) = y := by rw [List.getD_eq_getElem?_getD, hy]; rfl
   have hox := HSP.out.1.2 g hgg.1
   rw [hgD, hgE] at hox
   have hf6 : ∀ (k : Nat) (z : Int), sp[k]? = some z → W6.cell? ⟨gf, k, none⟩ = some (.int .i64 z) := fun k z hz => (World.cell?_of_block (hb1.block gf (by have := HCF.out.1; have := HB.out; omega))).trans (HCF.out.2 k z hz)
   have cx := hf6 _ _ hx
   have cy := hf6 _ _ hy
   have hg9' : (g : Int) ≤ 9 := by omega
   have hg0 : (0 : Int) ≤ (g : Int) := by omega
   have hsl : (sp.length : Int) = 2 + 2 * (gs : Int) := by omega
   have hgg' : (g : Int) ≤ (gs : Int) := by omega
   have HPL : Hid (Part.fill line sp (.grp g) = if 0 ≤ x then cutL line x y else []) := by show Part.fill line sp (.grp g) = _; simp only [Part.fill, hgD, hgE]
   have hin1 : (2 : Int) * (g : Int) < (sp.length : Int) := by omega
   have hin2 : (2 : Int) * (g : Int) + 1 < (sp.length : Int) := by omega
   have htn1 : ((2 : Int) * (g : Int)).toNat = 2 * g := by omega
   have htn2 : ((2 : Int) * (g : Int) + 1).toNat = 2 * g + 1 := by omega
   clear hP6 hf6 hx hy hgD hgE hgg hspl hsl
   have hgm : ((g : Int) == -1) = false := by simp
   go_upto_region 7 with (fail)
   go_quiet (fail)
   have hkD : Keeps [] W6 (W6.drewN nq) := (Keeps.refl [] W6).drewN nq
   have hBD2 := hBD1.keep hkD
   have hb2 := Below.join hb1 (Below.ofKeeps hkD hBw1 (by simp))
   have hBw2 : B ≤ (W6.drewN nq).heap.size := Nat.le_trans hBw1 hkD.size
   generalize W6.drewN nq = X at *
   clear hkD hBD1 hb1 hBw1 c0 cx cy
   by_cases hx0 : 0 ≤ x
   ·obtain ⟨h1, h2⟩ := hox hx0
    obtain ⟨a, rfl⟩ : ∃ a : Nat, x = (a : Int) := ⟨x.toNat, by omega⟩
    obtain ⟨b, rfl⟩ : ∃ b : Nat, y = (b : Int) := ⟨y.toNat, by omega⟩
    have hm : line.extract a b = nmB (cutL line (a : Int) (b : Int)) := by unfold cutL; rw [nmB_data]; rfl
    have hml : (cutL line (a : Int) (b : Int)).length ≤ 100 := cutL_len HL.out
    have hws := writeString_any B B l (cutL line (a : Int) (b : Int)) X hBD2 (by omega) (by omega) hBw2
    rw [← hm] at hws
    have hxd : decide ((0 : Int) ≤ (a : Int)) = true := by simp
    have HPF : Hid (Part.fill line sp (.grp g) = cutL line (a : Int) (b : Int)) := by show Part.fill line sp (.grp g) = _; rw [HPL.out, if_pos hx0]
    clear hm hox
    go_wp2_with fail
    refine hws.mono ?_
    rintro e w2 ⟨⟨ev, rfl⟩, hBD3, hb3, _⟩
    have hbE := Below.join hb2 hb3
    clear hws hBD2 hb2 hb3
    go_wp2_with fail
    go_roundw
    case rel => exact ⟨i + 1, by go_num, HI.out, by rw [HSN.out, HPF.out]; exact hBD3, hbE⟩
    case measure => have := HI.out; simp [intOf]; omega
   ·have hxd : decide ((0 : Int) ≤ x) = false := by simpa using hx0
    have HPF : Hid (Part.fill line sp (.grp g) = []) := by show Part.fill line sp (.grp g) = _; rw [HPL.out, if_neg hx0]
    clear hox
    go_wp2_with fail
    go_roundw
    case rel => exact ⟨i + 1, by go_num, HI.out, by rw [HSN.out, HPF.out, List.append_nil]; exact hBD2, hb2⟩
    case measure => have := HI.out; simp [intOf]; omega
end Go.Proofs.YtnfojonmohijpabGreatDoor
