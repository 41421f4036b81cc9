/-
  DERIVED. Plain mathematics: the tokens of 'if iffy' by the rules if|else, letters, blanks, and the lines' stretches: the last two examples of Known. Nothing of the program stands here.
-/
import Derived.Test.YtnfojonmohijpabGreatDoorJOM
import Derived.Test.YtnfojonmohijpabGreatDoorJBE
import Derived.Test.YtnfojonmohijpabGreatDoorJBN
import Derived.Test.YtnfojonmohijpabGreatDoorJNH
import Derived.ProofKit
import Derived.Deep.Slices
import Derived.Deep.Strs
import Derived.Test.YtnfojonmohijpabGreatDoorJOF
import Derived.BigQuiet
import Derived.Lib.SliceRun
import Derived.Deep.QuietTactic
import Derived.Test.YtnfojonmohijpabGreatDoorJOH
import Derived.Test.YtnfojonmohijpabGreatDoorJSG
import Derived.DeepKeys
import Derived.Deep.CutRange
import Derived.WalkLawsBesides
set_option linter.unusedSimpArgs false
set_option linter.unusedVariables false
namespace Go.Proofs.YtnfojonmohijpabGreatDoor
def dkS1 : ByteArray := ⟨#[105, 102, 124, 101, 108, 115, 101]⟩
def dkS2 : ByteArray := ⟨#[91, 91, 58, 108, 111, 119, 101, 114, 58, 93, 93, 43]⟩
def dkS3 : ByteArray := ⟨#[32, 43]⟩
def dkT : ByteArray := ⟨#[105, 102, 32, 105, 102, 102, 121]⟩
def dkX1 : Pat := .wcons (.pcons (st 105) (.pcons (st 102) .pnil)) (.wone (.pcons (st 101) (.pcons (st 108) (.pcons (st 115) (.pcons (st 101) .pnil)))))
def dkX2 : Pat := .wone (.pcons (.rep 1 (-1) (.set fun n => clsB 1 n)) .pnil)
def dkX3 : Pat := .wone (.pcons (.rep 1 (-1) (st 32)) .pnil)
theorem sgL (c : UInt8) (h1 : (c.toNat : Int) ≠ 40 ∧ (c.toNat : Int) ≠ 91 ∧ (c.toNat : Int) ≠ 46 ∧ (c.toNat : Int) ≠ 92) (h2 : ¬ notC (c.toNat : Int)) : Wy [c] (fun _ => [st (c.toNat : Int)]) 0 0 := by
 have h := Wy.single (Sg.lit h1 h2) Rx.none
 rw [List.append_nil] at h
 exact h
theorem dk_r1 : PatR dkS1 (.ok ⟨false, false, dkX1, 0⟩ 7) :=
 (Ws.cons ((sgL 105 (by decide) (by unfold notC; decide)).app (sgL 102 (by decide) (by unfold notC; decide)))
   (Ws.one ((sgL 101 (by decide) (by unfold notC; decide)).app ((sgL 108 (by decide) (by unfold notC; decide)).app ((sgL 115 (by decide) (by unfold notC; decide)).app (sgL 101 (by decide) (by unfold notC; decide))))))).whole (by decide) (by decide) (by decide) dkS1 rfl
theorem dk_r2 : PatR dkS2 (.ok ⟨false, false, dkX2, 0⟩ 12) := (Ws.one (Wy.single sgCls Rx.plus)).whole (by decide) (by decide) (by decide) dkS2 rfl
theorem dk_r3 : PatR dkS3 (.ok ⟨false, false, dkX3, 0⟩ 2) := (Ws.one (Wy.single (Sg.lit (c := 32) (by decide) (by unfold notC; decide)) Rx.plus)).whole (by decide) (by decide) (by decide) dkS3 rfl
theorem dk_at : at' dkT 0 = 105 ∧ at' dkT 1 = 102 ∧ at' dkT 2 = 32 ∧ at' dkT 3 = 105 ∧ at' dkT 4 = 102 ∧ at' dkT 5 = 102 ∧ at' dkT 6 = 121 ∧ dkT.size = 7 := by decide
theorem st_eq {s : ByteArray} {c : Int} {i j : Nat} (h : Mt s (st c) i j) : stretch c c (at' s i).toNat = true ∧ i < s.size ∧ j = i + 1 := ⟨h.2.1, h.1, h.2.2⟩
theorem dk_x1 {i j : Nat} (h : Mt dkT dkX1 i j) : j = i + 2 ∧ (i = 0 ∨ i = 3) := by
 obtain ⟨a0, a1, a2, a3, a4, a5, a6, hs⟩ := dk_at
 have hi : ∀ c : Int, (c = 105 ∨ c = 101) → ∀ m, Mt dkT (st c) i m → i = 0 ∨ i = 3 := by
  intro c hc m hm
  obtain ⟨h1, h2, _⟩ := st_eq hm
  rw [hs] at h2
  have h7 : i = 0 ∨ i = 1 ∨ i = 2 ∨ i = 3 ∨ i = 4 ∨ i = 5 ∨ i = 6 := by omega
  rcases h7 with rfl | rfl | rfl | rfl | rfl | rfl | rfl
  ·exact Or.inl rfl
  ·rw [a1] at h1; rcases hc with rfl | rfl <;> exact absurd h1 (by decide)
  ·rw [a2] at h1; rcases hc with rfl | rfl <;> exact absurd h1 (by decide)
  ·exact Or.inr rfl
  ·rw [a4] at h1; rcases hc with rfl | rfl <;> exact absurd h1 (by decide)
  ·rw [a5] at h1; rcases hc with rfl | rfl <;> exact absurd h1 (by decide)
  ·rw [a6] at h1; rcases hc with rfl | rfl <;> exact absurd h1 (by decide)
 rcases h with ⟨m, h1, m2, h2, h3⟩ | ⟨m, h1, m2, h2, _⟩
 ·have e := hi 105 (Or.inl rfl) m h1
  have e1 := h1.2.2
  have e2 := h2.2.2
  have e3 : m2 = j := h3
  exact ⟨by omega, e⟩
 ·exfalso
  have e := hi 101 (Or.inr rfl) m h1
  obtain ⟨h4, _, _⟩ := st_eq h1
  rcases e with rfl | rfl
  ·rw [a0] at h4; exact absurd h4 (by decide)
  ·rw [a3] at h4; exact absurd h4 (by decide)
def dkR : List Rul := [⟨⟨#[107, 119]⟩, dkS1, false⟩, ⟨⟨#[105, 100]⟩, dkS2, false⟩, ⟨⟨#[119, 115]⟩, dkS3, true⟩]
def dkX : List Pat := [dkX1, dkX2, dkX3]
theorem dk_each {P : Nat → Pat → Prop} (h1 : P 0 dkX1) (h2 : P 1 dkX2) (h3 : P 2 dkX3) : ∀ (k : Nat) (x : Pat), dkX[k]? = some x → P k x := by
 intro k x h
 match k, h with
 | 0, h => cases h; exact h1
 | 1, h => cases h; exact h2
 | 2, h => cases h; exact h3
theorem dk_b0 : BestT dkT dkX 0 0 2 := by
 obtain ⟨a0, a1, a2, a3, a4, a5, a6, hs⟩ := dk_at
 refine ⟨by decide, by rw [hs]; decide, ⟨dkX1, rfl, Or.inl ⟨1, ⟨by rw [hs]; decide, by rw [a0]; decide, rfl⟩, 2, ⟨by rw [hs]; decide, by rw [a1]; decide, rfl⟩, rfl⟩⟩, fun k x h => by omega, fun m k x h1 h2 => dk_each (P := fun k x => ¬ Mt dkT x 0 m) ?_ ?_ ?_ k x⟩
 ·intro h
  have := (dk_x1 h).1
  omega
 ·intro h
  have := ((manyD.1 h).2 2 (by omega) h1).2
  rw [a2] at this
  exact absurd this (by decide)
 ·intro h
  have := ((manyD.1 h).2 0 (by omega) (by omega)).2
  rw [a0] at this
  exact absurd this (by decide)
theorem dk_b2 : BestT dkT dkX 2 2 3 := by
 obtain ⟨a0, a1, a2, a3, a4, a5, a6, hs⟩ := dk_at
 have n1 : ∀ m, ¬ Mt dkT dkX1 2 m := fun m h => by
  have := (dk_x1 h).2
  omega
 have n2 : ∀ m, ¬ Mt dkT dkX2 2 m := fun m h => by
  have h1 := manyD.1 h
  have := (h1.2 2 (by omega) (by omega)).2
  rw [a2] at this
  exact absurd this (by decide)
 refine ⟨by decide, by rw [hs]; decide, ⟨dkX3, rfl, manyD.2 ⟨by decide, fun k h1 h2 => ?_⟩⟩, fun k x h hx => ?_, fun m k x h1 h2 => dk_each (P := fun k x => ¬ Mt dkT x 2 m) (n1 m) (n2 m) ?_ k x⟩
 ·obtain rfl : k = 2 := by omega
  exact ⟨by rw [hs]; decide, by rw [a2]; decide⟩
 ·exact dk_each (P := fun k x => k < 2 → ¬ Mt dkT x 2 3) (fun _ => n1 3) (fun _ => n2 3) (fun h => by omega) k x hx h
 ·intro h
  have := ((manyD.1 h).2 3 (by omega) h1).2
  rw [a3] at this
  exact absurd this (by decide)
theorem dk_b3 : BestT dkT dkX 3 1 7 := by
 obtain ⟨a0, a1, a2, a3, a4, a5, a6, hs⟩ := dk_at
 refine ⟨by decide, by rw [hs]; decide, ⟨dkX2, rfl, manyD.2 ⟨by decide, fun k h1 h2 => ?_⟩⟩, fun k x h hx => ?_, fun m k x h1 h2 => by rw [hs] at h2; omega⟩
 ·refine ⟨by rw [hs]; exact h2, ?_⟩
  have hk : k = 3 ∨ k = 4 ∨ k = 5 ∨ k = 6 := by omega
  rcases hk with rfl | rfl | rfl | rfl
  ·rw [a3]; decide
  ·rw [a4]; decide
  ·rw [a5]; decide
  ·rw [a6]; decide
 ·refine dk_each (P := fun k x => k < 1 → ¬ Mt dkT x 3 7) (fun _ hm => ?_) (fun h => by omega) (fun h => by omega) k x hx h
  have := (dk_x1 hm).1
  omega
theorem dk_rules : RulesA dkR [⟨false, false, dkX1, 0⟩, ⟨false, false, dkX2, 0⟩, ⟨false, false, dkX3, 0⟩] 0 := by
 refine Or.inr ⟨by decide, by decide, Or.inr ⟨rfl, rfl, fun k W h => ?_⟩⟩
 have nm : ∀ (a b : UInt8), 97 ≤ (a.toNat : Int) ∧ (a.toNat : Int) ≤ 122 → 97 ≤ (b.toNat : Int) ∧ (b.toNat : Int) ≤ 122 → NameOk ⟨#[a, b]⟩ := fun a b h1 h2 => ⟨by show 1 ≤ 2; decide, by show 2 ≤ 8; decide, fun i hi => by
   have h2' : i < 2 := hi
   match i, h2' with
   | 0, _ => exact h1
   | 1, _ => exact h2⟩
 match k, h with
 | 0, h => cases h; exact ⟨_, rfl, nm 107 119 (by decide) (by decide), fun d q hd => by omega, by decide, 7, dk_r1⟩
 | 1, h =>
  cases h
  refine ⟨_, rfl, nm 105 100 (by decide) (by decide), fun d q hd hq => ?_, by decide, 12, dk_r2⟩
  obtain rfl : d = 0 := by omega
  cases hq
  decide
 | 2, h =>
  cases h
  refine ⟨_, rfl, nm 119 115 (by decide) (by decide), fun d q hd hq => ?_, by decide, 2, dk_r3⟩
  have hd2 : d = 0 ∨ d = 1 := by omega
  rcases hd2 with rfl | rfl
  ·cases hq
   decide
  ·cases hq
   decide
theorem dk_ex {L : List Tok} {j : Nat} {n : Int} (h : TokA dkR dkT L j n) : L = [⟨0, 0, 2, 1, 1⟩, ⟨1, 3, 7, 1, 4⟩] ∧ j = 7 ∧ n = 0 := by
 have hT : Tks dkT dkX (skO dkR) 0 [⟨0, 0, 2, (lnC dkT 0).1, (lnC dkT 0).2⟩, ⟨1, 3, 7, (lnC dkT 3).1, (lnC dkT 3).2⟩] 7 :=
  .tok 0 0 2 _ 7 dk_b0 rfl (.skip 2 2 3 _ 7 dk_b2 rfl (.tok 3 1 7 _ 7 dk_b3 rfl (.fin 7 fun m k x h1 h2 => by have := dk_at.2.2.2.2.2.2.2; omega)))
 have hA : TokA dkR dkT _ 7 0 := ⟨_, 0, dk_rules, Or.inr ⟨rfl, Or.inr ⟨by rw [dk_at.2.2.2.2.2.2.2]; decide, rfl, hT⟩⟩⟩
 obtain ⟨h1, h2, h3⟩ := h.det hA
 have e0 : lnC dkT 0 = (1, 1) := by decide
 have e3 : lnC dkT 3 = (1, 4) := by decide
 rw [e0, e3] at h1
 exact ⟨h1, h2, h3⟩
theorem sgDig : Sg [91, 48, 45, 57, 93] (.set (stretch 48 57)) := by
 refine ⟨⟨91, [48, 45, 57, 93], rfl, by unfold noRep; decide, by unfold stopC; decide⟩, fun s i d g hl => ?_⟩
 obtain ⟨h0, hl⟩ := Lies.cons.1 hl
 obtain ⟨h1, hl⟩ := Lies.cons.1 hl
 obtain ⟨h2, hl⟩ := Lies.cons.1 hl
 obtain ⟨h3, hl⟩ := Lies.cons.1 hl
 obtain ⟨h4, _⟩ := Lies.cons.1 hl
 have h1' : at' s (i + 1) = 48 := h1
 have h2' : at' s (i + 1 + 1) = 45 := h2
 have h3' : at' s (i + 1 + 1 + 1) = 57 := h3
 have h4' : at' s (i + 1 + 1 + 1 + 1) = 93 := h4
 have r1 : rangeS s (i + 1) = .ok (stretch 48 57) (i + 1 + 1 + 1 + 1) := by simp [rangeS, innS, R.bind, h1', h2', h3']
 exact G.set d g i (.ok _ (i + 5)) h0 (Or.inr ⟨by rw [h1']; decide, SetU.go _ (i + 1) _ _ r1 (SetL.done _ _ h4')⟩)
def exP : ByteArray := ⟨#[91, 48, 45, 57, 93, 43]⟩
def exI : ByteArray := ⟨#[97, 49, 98, 50, 50, 10, 120, 10]⟩
def onS : ByteArray := ⟨#[45, 111, 110]⟩
def exD : Whole := ⟨false, false, .wone (.pcons (.rep 1 (-1) (.set (stretch 48 57))) .pnil), 0⟩
def kON : Cmd := { kI with o := true, n := true }
theorem ex_pat : PatR exP (.ok exD 6) := (Ws.one (Wy.single sgDig Rx.plus)).whole (by decide) (by decide) (by decide) exP rfl
theorem ex_opt : OptA [onS, exP] kI (some (kON, exP)) := .let' onS [exP] kI kON _ (by decide) (by decide) (by decide) rfl (opt_one exP (by decide) _)
theorem ex_cmd : CmdA [onS, exP] (some (kON, exD, [.grp 0])) := .ok kON exP exD 6 [.grp 0] ex_opt (by decide) ex_pat (by decide) (tpl0 _)
def exL1 : ByteArray := ⟨#[97, 49, 98, 50, 50]⟩
def exL2 : ByteArray := ⟨#[120]⟩
theorem ex_lines : lnF exI = [exL1, exL2] := by decide
theorem ex_at1 : (stretch 48 57 (at' exL1 0).toNat = false ∧ stretch 48 57 (at' exL1 1).toNat = true ∧ stretch 48 57 (at' exL1 2).toNat = false ∧ stretch 48 57 (at' exL1 3).toNat = true ∧ stretch 48 57 (at' exL1 4).toNat = true) ∧ exL1.size = 5 := by decide
theorem ex_at2 : stretch 48 57 (at' exL2 0).toNat = false ∧ exL2.size = 1 := by decide
theorem ex_no {s : ByteArray} {i j : Nat} (h : stretch 48 57 (at' s i).toNat = false) : ¬ OkAt s exD i j := fun hok => by
 have h1 := manyD.1 hok.1
 have := (h1.2 i (Nat.le_refl _) (by omega)).2
 rw [h] at this
 cases this
theorem ex_f0 : FirstAt exL1 exD 0 1 2 := by
 obtain ⟨⟨a0, a1, a2, a3, a4⟩, hs⟩ := ex_at1
 refine ⟨by decide, by decide, by rw [hs]; decide, ⟨manyD.2 ⟨by decide, fun k h1 h2 => ?_⟩, fun h => (Bool.noConfusion h), fun h => (Bool.noConfusion h)⟩, fun i' j' _ h2 _ _ => ?_, fun j' h1 h2 hok => ?_⟩
 ·obtain rfl : k = 1 := by omega
  exact ⟨by rw [hs]; decide, a1⟩
 ·obtain rfl : i' = 0 := by omega
  exact ex_no a0
 ·have := ((manyD.1 hok.1).2 2 (by decide) h1).2
  rw [a2] at this
  cases this
theorem ex_f2 : FirstAt exL1 exD 2 3 5 := by
 obtain ⟨⟨a0, a1, a2, a3, a4⟩, hs⟩ := ex_at1
 refine ⟨by decide, by decide, by rw [hs]; decide, ⟨manyD.2 ⟨by decide, fun k h1 h2 => ?_⟩, fun h => (Bool.noConfusion h), fun h => (Bool.noConfusion h)⟩, fun i' j' h1 h2 _ _ => ?_, fun j' h1 h2 hok => by rw [hs] at h2; omega⟩
 ·rcases (by omega : k = 3 ∨ k = 4) with rfl | rfl
  ·exact ⟨by rw [hs]; decide, a3⟩
  ·exact ⟨by rw [hs]; decide, a4⟩
 ·obtain rfl : i' = 2 := by omega
  exact ex_no a2
theorem ex_sin {fs : List (List Int)} (h : SinA exL1 exD 0 fs) : fs = [[1, 2], [3, 5]] := by
 have hs := ex_at1.2
 have s5 : ∀ {fs : List (List Int)}, SinA exL1 exD 5 fs → fs = [] := fun h => by
  cases h with
  | fin => rfl
  | none => rfl
  | hit _ _ _ _ _ h => omega
  | empty _ _ _ _ _ h => omega
 have s2 : ∀ {fs : List (List Int)}, SinA exL1 exD 2 fs → fs = [[3, 5]] := fun h => by
  cases h with
  | fin _ h => omega
  | none _ _ h => cases h.hits ex_f2 rfl
  | hit _ i j r fs _ h hij hr =>
   have e := h.hits ex_f2 rfl
   simp only [Option.some.injEq, List.cons.injEq] at e
   obtain ⟨e1, e2, rfl⟩ := e
   obtain rfl : j = 5 := by omega
   obtain rfl : i = 3 := by omega
   rw [s5 hr]
   rfl
  | empty _ i j r fs _ h hij hr =>
   have e := h.hits ex_f2 rfl
   simp only [Option.some.injEq, List.cons.injEq] at e
   obtain ⟨e1, e2, _⟩ := e
   omega
 cases h with
 | fin _ h => omega
 | none _ _ h => cases h.hits ex_f0 rfl
 | hit _ i j r fs _ h hij hr =>
  have e := h.hits ex_f0 rfl
  simp only [Option.some.injEq, List.cons.injEq] at e
  obtain ⟨e1, e2, rfl⟩ := e
  obtain rfl : j = 2 := by omega
  obtain rfl : i = 1 := by omega
  rw [s2 hr]
  rfl
 | empty _ i j r fs _ h hij hr =>
  have e := h.hits ex_f0 rfl
  simp only [Option.some.injEq, List.cons.injEq] at e
  obtain ⟨e1, e2, _⟩ := e
  omega
def exO : List UInt8 := [49, 58, 49, 10, 49, 58, 50, 50, 10]
theorem ex_run {o : List UInt8} {m : Nat} (h : RunA kON exD [.grp 0] 0 [exL1, exL2] o m) : o = exO ∧ m = 1 := by
 have sel : ∀ {s : ByteArray} {ans : Option (List Int)}, SelA s exD kON.x ans → FindA s exD 0 ans := fun h => by
  unfold SelA at h
  rw [if_neg (by decide)] at h
  exact h
 have r2 : ∀ {o : List UInt8} {m : Nat}, RunA kON exD [.grp 0] 1 [exL2] o m → o = [] ∧ m = 0 := fun h => by
  have hno : ∀ {ans : Option (List Int)}, SelA exL2 exD kON.x ans → ans = none := fun h => (sel h).misses fun i j _ hij hj hok => by
   have h1 := manyD.1 hok.1
   have hs := ex_at2.2
   have : i = 0 := by omega
   subst this
   exact ex_no ex_at2.1 hok
  cases h with
  | skip _ _ _ o m ans _ _ hr => cases hr; exact ⟨rfl, rfl⟩
  | take _ _ _ _ _ _ ans ha hv => rw [hno ha] at hv; exact absurd rfl hv
 cases h with
 | skip _ _ _ _ _ ans ha hv => rw [(sel ha).hits ex_f0 rfl] at hv; cases hv
 | take _ _ _ o p m ans ha hv _ hc hr =>
  obtain ⟨rfl, rfl⟩ := r2 hr
  obtain ⟨ts, ht, rfl⟩ := hc rfl
  unfold TextsA at ht
  rw [if_neg (by decide), if_neg (by decide), if_neg (by decide)] at ht
  obtain ⟨fs, hf, rfl⟩ := ht
  rw [ex_sin hf]
  exact ⟨by decide +kernel, rfl⟩
theorem ex_ext {e : Ending} (h : ExtA [onS, exP] exI e) : e = .returned (.tuple #[.string ⟨#[49, 58, 49, 10, 49, 58, 50, 50, 10]⟩, .int .i64 0]) := by
 cases h with
 | args h => cases h.det ex_cmd
 | long k W ps _ h =>
  rcases h with h | ⟨a, ha, h⟩
  ·exact absurd h (by decide)
  ·rw [ex_lines] at ha
   simp only [List.mem_cons, List.not_mem_nil, or_false] at ha
   rcases ha with rfl | rfl
   ·exact absurd h (by decide)
   ·exact absurd h (by decide)
 | run k W ps o m h _ _ hr =>
  cases h.det ex_cmd
  rw [ex_lines] at hr
  obtain ⟨rfl, rfl⟩ := ex_run hr
  rfl
end Go.Proofs.YtnfojonmohijpabGreatDoor
namespace Go.Proofs.YtnfojonmohijpabGreatDoor
open Go.RowKit
theorem args_one {X : World} {g : Nat} {l : List ByteArray} {n : Nat} (hn : l.length = n) (h : X.heap[g]? = some (.cells (l.map Value.string).toArray 9 (0, 0))) (hs : ∀ a ∈ l, a.size ≤ 9223372036854775807) (hl : n ≤ 9) : ArgIs X (.slice (some ⟨g, 0, none⟩) n n) l := by
 subst hn
 refine ⟨by omega, Or.inr ⟨g, 0, l.length, rfl, fun k a ha => ?_, Nat.le_refl _, by omega⟩, hs⟩
 rw [Lib.cell_of_heap h]
 simp [ha]
end Go.Proofs.YtnfojonmohijpabGreatDoor
namespace Go.Proofs.YtnfojonmohijpabGreatDoor
open Go.RowKit
theorem ofNat_toNat' (c : Nat) (hc : c < 256) : ((UInt8.ofNat c).toNat : Int) = (c : Int) := by
 simp; omega
set_option maxRecDepth 100000 in
set_option maxHeartbeats 1000000 in
theorem plainByte_text (c : Nat) (hc : c < 256) (w : World) :
    Calls Tryz.prog 148 #[.int .u8 (c : Int)] w fun e w' => e = .returned (.string (nmB (oneT c))) ∧ Keeps [] w w' := by
 cases ha : alnB (c : Int) with
 | true =>
  have HO : Hid (oneT c = [UInt8.ofNat c]) := by show oneT c = _; unfold oneT; rw [ha]; rfl
  have IA := isAlnum_any (c : Int)
  rw [ha] at IA
  have cv := conv_one w (UInt8.ofNat c)
  rw [ofNat_toNat' c hc] at cv
  clear ha
  go_enter Tryz.func148, Tryz.ntmps148
  go_wp2_with (first | (go_at_call 171; refine (IA _).mono ?_; rintro e w1 ⟨rfl, rfl⟩))
  go_ret
  refine ⟨?_, (Keeps.refl [] _).alloc _⟩
  rw [HO.out]; rfl
 | false =>
  have HO : Hid (oneT c = [92, 120] ++ [hexs.getD (c / 16) 0, hexs.getD (c % 16) 0]) := by show oneT c = _; unfold oneT; rw [ha]; rfl
  have IA := isAlnum_any (c : Int)
  rw [ha] at IA
  have hsz : (nmB [hexs.getD (c / 16) 0, hexs.getD (c % 16) 0]).size = 2 := rfl
  have hsz2 : ¬ 9223372036854775807 < (ByteArray.mk #[92, 120]).size + (nmB [hexs.getD (c / 16) 0, hexs.getD (c % 16) 0]).size := by rw [hsz]; decide
  have hap : (ByteArray.mk #[92, 120]) ++ nmB [hexs.getD (c / 16) 0, hexs.getD (c % 16) 0] = nmB ([92, 120] ++ [hexs.getD (c / 16) 0, hexs.getD (c % 16) 0]) := nmB_append [92, 120] _
  clear ha
  go_enter Tryz.func148, Tryz.ntmps148
  go_wp2_with (first | (go_at_call 171; refine (IA _).mono ?_; rintro e w1 ⟨rfl, rfl⟩) | (go_at_call 108; refine (hexPair_text c hc _).mono ?_; rintro e w1 ⟨rfl, hk1⟩))
  go_ret
  refine ⟨?_, hk1⟩
  rw [HO.out]
  first | rfl | (show Ending.returned (.string _) = _; rw [← hap]; rfl)
set_option maxRecDepth 100000 in
set_option maxHeartbeats 1000000 in
theorem plainStretch_text (a b : Nat) (ha : a < 256) (hb : b < 256) (w : World) :
    Calls Tryz.prog 149 #[.agg #[.int .u8 (a : Int), .int .u8 (b : Int)]] w fun e w' => e = .returned (.string (nmB (strT a b))) ∧ Keeps [] w w' := by
 by_cases hab : a = b
 ·have HO : Hid (strT a b = oneT a) := by show strT a b = _; unfold strT; rw [if_pos hab]
  have he : ((a : Int) == (b : Int)) = true := by simpa using (by omega : (a : Int) = (b : Int))
  have k0 : Keeps [] w (w.alloc (.cells #[.int .u8 (a : Int), .int .u8 (b : Int)] 244)) := (Keeps.refl [] w).alloc _
  clear hab
  go_enter Tryz.func149, Tryz.ntmps149
  go_wp2_with (first | (go_at_call 148; refine (plainByte_text a ha _).mono ?_; rintro e w1 ⟨rfl, hk1⟩))
  go_ret
  exact ⟨by rw [HO.out]; rfl, k0.trans hk1⟩
 ·have HO : Hid (strT a b = oneT a ++ [45] ++ oneT b) := by show strT a b = _; unfold strT; rw [if_neg hab]
  have he : ((a : Int) == (b : Int)) = false := by simpa using (by omega : ¬ (a : Int) = (b : Int))
  have k0 : Keeps [] w (w.alloc (.cells #[.int .u8 (a : Int), .int .u8 (b : Int)] 244)) := (Keeps.refl [] w).alloc _
  have la := oneT_len a
  have lb := oneT_len b
  have z1 : ¬ 9223372036854775807 < (nmB (oneT a)).size + (ByteArray.mk #[45]).size := by rw [nmB_size]; show ¬ 9223372036854775807 < _ + 1; omega
  have z2 : ¬ 9223372036854775807 < (nmB (oneT a ++ [45])).size + (nmB (oneT b)).size := by rw [nmB_size, nmB_size]; simp; omega
  have p1 : nmB (oneT a) ++ (ByteArray.mk #[45]) = nmB (oneT a ++ [45]) := nmB_append _ [45]
  have p2 : nmB (oneT a ++ [45]) ++ nmB (oneT b) = nmB (oneT a ++ [45] ++ oneT b) := nmB_append _ _
  have ca : (w.alloc (.cells #[.int .u8 (a : Int), .int .u8 (b : Int)] 244)).cell? ⟨w.heap.size, 0, none⟩ = some (.int .u8 (a : Int)) := by simp
  have cb : (w.alloc (.cells #[.int .u8 (a : Int), .int .u8 (b : Int)] 244)).cell? ⟨w.heap.size, 1, none⟩ = some (.int .u8 (b : Int)) := by simp
  clear hab la lb
  go_enter Tryz.func149, Tryz.ntmps149
  go_wp2_with fail
  generalize w.alloc (.cells #[.int .u8 (a : Int), .int .u8 (b : Int)] 244) = W at *
  have kD : Keeps [] W W.drew := (Keeps.refl [] W).drewN 1
  have caD := keep_cell kD ca
  have cbD := keep_cell kD cb
  have kE := k0.trans kD
  clear ca cb k0
  go_region_with (first
    | (go_at_call_of 148 (Value.int IntKind.u8 (a : Int)); refine (plainByte_text a ha _).mono ?_; rintro e w1 ⟨rfl, hk1⟩; have cb1 := keep_cell hk1 cbD)
    | (go_at_call_of 148 (Value.int IntKind.u8 (b : Int)); refine (plainByte_text b hb _).mono ?_; rintro e w2 ⟨rfl, hk2⟩))
  all_goals
   go_wp2_with fail
   go_ret
   refine ⟨?_, (kE.trans hk1).trans hk2⟩
   rw [HO.out]
   first
    | (show Ending.returned (.string (nmB (oneT a ++ [45]) ++ nmB (oneT b))) = _; rw [nmB_append])
    | (show Ending.returned (.string (nmB (oneT a ++ 45 :: oneT b))) = _; simp)
end Go.Proofs.YtnfojonmohijpabGreatDoor
namespace Go.Proofs.YtnfojonmohijpabGreatDoor
open Go.RowKit
theorem part_set (f : Nat → Bool) (m : Nat) (h : m < 256) (w : World) : (part 4 (hcells f) m).run Tryz.prog w = .ok (.bool (f m)) w := by
 have hc := hcells_get f h
 have hz : (Go.sizeOf 4).run Tryz.prog w = .ok 1 w := by kernel_rfl
 have ha : (isAgg 4).run Tryz.prog w = .ok false w := by kernel_rfl
 unfold part
 simp [ha, hz, hc]
theorem eq_items (f : Nat → Bool) (d : Nat) (w : World) : ∀ is : List Nat, (∀ i ∈ is, i < 256) → (Op.eqItems (d + 1) 4 1 (hcells f) (hcells fun _ => true) is).run Tryz.prog w = .ok (is.all f) w
 | [], _ => by simp [Op.eqItems]
 | i :: is, h => by
  have hi := h i (by simp)
  have h1 := part_set f i hi w
  have h2 := part_set (fun _ => true) i hi w
  have h3 := run_equalIn_bool (P := Tryz.prog) w d 4 (f i) true Tryz.underlying4
  have ih := eq_items f d w is (fun j hj => h j (by simp [hj]))
  unfold Op.eqItems
  simp only [Nat.mul_one, Sem.run_bind, h1, h2, h3, Result.andThen_ok]
  cases hf : f i
  ·simp [hf]
  ·simpa [hf] using ih
theorem eq_set (f : Nat → Bool) (w : World) : (binOp BinOp.eql 174 (.agg (hcells f)) (.agg (hcells fun _ => true))).run Tryz.prog w = .ok (.bool ((List.range 256).all f)) w := by
 obtain ⟨i, hi⟩ : ∃ i, Tryz.prog.info? 4 = some i := by
  have : (Tryz.prog.info? 4).isSome = true := by kernel_rfl
  exact Option.isSome_iff_exists.1 this
 have hc : Tryz.prog.cellsOf 4 = 1 := by kernel_rfl
 have h1 := run_equalIn_array (P := Tryz.prog) w 9999 (hcells f) (hcells fun _ => true) Tryz.underlying174 hi
 rw [hc, eq_items f 9998 w (List.range 256) (fun i hi => List.mem_range.1 hi)] at h1
 rw [run_eql_struct, h1]
 rfl
theorem all_iff (f : Nat → Bool) : (List.range 256).all f = true ↔ ∀ n, n < 256 → f n = true :=
 ⟨fun h n hn => List.all_eq_true.1 h n (List.mem_range.2 hn), fun h => List.all_eq_true.2 fun n hn => h n (List.mem_range.1 hn)⟩
theorem setT_nil (f : Nat → Bool) (h : (strs f 256).length = 0) : setT f = [91, 94, 92, 120, 48, 48, 45, 92, 120, 102, 102, 93] := by rw [setT_strs, if_pos h]
theorem setT_all (f : Nat → Bool) (h : ¬ (strs f 256).length = 0) (ha : ∀ n, n < 256 → f n = true) : setT f = [46] := by rw [setT_strs, if_neg h, if_pos ha]
theorem setT_one (f : Nat → Bool) (h : ¬ (strs f 256).length = 0) (ha : ¬ ∀ n, n < 256 → f n = true) (h1 : ∃ a, strs f 256 = [(a, a)]) : setT f = outS (strs f 256) := by rw [setT_strs, if_neg h, if_neg ha, if_pos h1]
theorem setT_more (f : Nat → Bool) (h : ¬ (strs f 256).length = 0) (ha : ¬ ∀ n, n < 256 → f n = true) (h1 : ¬ ∃ a, strs f 256 = [(a, a)]) : setT f = [91] ++ outS (strs f 256) ++ [93] := by rw [setT_strs, if_neg h, if_neg ha, if_neg h1]
theorem guard_set (x y : Operand) (u v : Array Value) (w : World) : (eqGuard BinOp.eql 174 x y (.agg u) (.agg v)).run Tryz.prog w = .ok () w := by kernel_rfl
theorem wp_eqSet {o : Oper} {a : Act} {w : World} {K : Act → World → Prop} {Q : Exit → Act → World → Prop} (x y : Operand) (ho : o.op = .binOp BinOp.eql 174 x y 174) (f : Nat → Bool) (B : Bool) (hB : Hid ((List.range 256).all f = B)) (h0 : a.eval x = .agg (hcells f)) (h1 : a.eval y = .agg (hcells fun _ => true))
    (h : K (a.put o.dst (.bool B)) w) : o.wp Tryz.prog a w K Q := by
 have hB' := hB.out
 unfold Oper.wp execOp
 simp only [ho, h0, h1]
 simp only [Sem.run_bind, guard_set, Result.andThen_ok, eq_set]
 rw [hB']
 exact h
theorem outS_len (l : List (Nat × Nat)) : (outS l).length ≤ 9 * l.length := by
 induction l with
 | nil => simp [outS]
 | cons p l ih =>
  have h1 := oneT_len p.1
  have h2 := oneT_len p.2
  have h3 : (strT p.1 p.2).length ≤ 9 := by
   unfold strT
   split
   ·omega
   ·simp; omega
  simp only [outS, List.flatMap_cons, List.length_append, List.length_cons] at ih ⊢
  omega
theorem outS_take (l : List (Nat × Nat)) (i : Nat) (p : Nat × Nat) (h : l[i]? = some p) : outS (l.take (i + 1)) = outS (l.take i) ++ strT p.1 p.2 := by
 rw [List.take_add_one, h]
 simp [outS]
theorem strC_at (l : List (Nat × Nat)) (i : Nat) (p : Nat × Nat) (h : l[i]? = some p) : (strC l)[i * 2]? = some (.int .u8 (p.1 : Int)) ∧ (strC l)[i * 2 + 1]? = some (.int .u8 (p.2 : Int)) := by
 induction l generalizing i with
 | nil => simp at h
 | cons q l ih =>
  have e : strC (q :: l) = .int .u8 (q.1 : Int) :: .int .u8 (q.2 : Int) :: strC l := rfl
  rw [e]
  cases i with
  | zero => simp at h; subst h; simp
  | succ i =>
   have := ih i (by simpa using h)
   have e1 : (i + 1) * 2 = i * 2 + 1 + 1 := by omega
   rw [e1]
   simpa using this
theorem addz (g j : Nat) : (⟨g, 0, none⟩ : Addr).add j = ⟨g, j, none⟩ := by unfold Addr.add; split <;> simp_all
set_option maxRecDepth 100000 in
set_option maxHeartbeats 2000000 in
theorem plainSet_text (f : Nat → Bool) (w : World) :
    Calls Tryz.prog 121 #[.agg (hcells f)] w fun e w' => e = .returned (.string (nmB (setT f))) ∧ Keeps [] w w' := by
 have hz0 : HQ (w.alloc (.cells (hcells f) 174)) w.heap.size f := heap_alloc_new w _
 have hk0 : Keeps [] w (w.alloc (.cells (hcells f) 174)) := (Keeps.refl [] w).alloc _
 have SP := stretches_prog f
 generalize hC : hcells f = C at *
 go_enter Tryz.func121, Tryz.ntmps121
 go_wp2_with (first | (refine wpList_load_row rfl 174 _ rfl w.heap.size rfl _ _ _ _ hz0 Tryz.underlying174 rfl (infoSetC _) ?_))
 generalize w.alloc (.cells C 174) = W at *
 obtain ⟨g0, hg0⟩ : ∃ g0, w.heap.size = g0 := ⟨_, rfl⟩
 rw [hg0] at hz0 ⊢
 refine (SP _).mono ?_
 rintro e w1 ⟨v, rfl, hown, hfr, hk1⟩
 have hz1 := hz0.keep hk1 (by simp)
 have hkA := hk0.trans hk1
 have hgl := hz0.lt
 have hle := strs_len f 256 (Nat.le_refl _)
 have H0 : Hid ((strs f 256).length = 0 → setT f = [91, 94, 92, 120, 48, 48, 45, 92, 120, 102, 102, 93]) := setT_nil f
 have H1 : Hid (¬ (strs f 256).length = 0 → (∀ n, n < 256 → f n = true) → setT f = [46]) := setT_all f
 have H2 : Hid (¬ (strs f 256).length = 0 → (¬ ∀ n, n < 256 → f n = true) → (∃ a, strs f 256 = [(a, a)]) → setT f = outS (strs f 256)) := setT_one f
 have H3 : Hid (¬ (strs f 256).length = 0 → (¬ ∀ n, n < 256 → f n = true) → (¬ ∃ a, strs f 256 = [(a, a)]) → setT f = [91] ++ outS (strs f 256) ++ [93]) := setT_more f
 have HIN : Hid (∀ p ∈ strs f 256, p.1 ≤ p.2 ∧ p.2 < 256) := (cnt_lens f 256 (Nat.le_refl _)).2
 generalize strs f 256 = L at *
 clear hz0 hk0 hk1
 by_cases h0 : L.length = 0
 ·have HX : Hid (setT f = [91, 94, 92, 120, 48, 48, 45, 92, 120, 102, 102, 93]) := H0.out h0
  have hL0 : L = [] := List.length_eq_zero_iff.1 h0
  subst hL0
  clear H0 H1 H2 H3 HIN
  rcases hown.2 with ⟨rfl, _⟩ | ⟨g, cap, cur, rfl, _⟩
  ·clear hown hfr
   go_wp2_with fail
   go_ret
   exact ⟨by rw [HX.out]; rfl, hkA⟩
  ·clear hown hfr
   go_wp2_with fail
   go_ret
   exact ⟨by rw [HX.out]; rfl, hkA⟩
 ·obtain ⟨g, cap, hv, _, _⟩ := hown.form (by omega)
  subst hv
  have hl0 : ((L.length : Int) == 0) = false := by simpa using (by omega : ¬ (L.length : Int) = 0)
  have hgg : W.heap.size ≤ g := hfr g rfl
  clear hfr H0
  go_wp2_with fail
  have hwD : Keeps [] w1 w1.drew := (Keeps.refl [] w1).drewN 1
  have hzD := hz1.keep hwD (by simp)
  have hownD := hown.keep hwD (by simp)
  have hkD := hkA.trans hwD
  clear hz1 hown hkA hwD
  obtain ⟨B, HB⟩ : ∃ B, Hid ((List.range 256).all f = B) := ⟨_, rfl⟩
  go_cut [13] from 14 to 16 (fun u wx => u = .bool B ∧ Keeps [] w1.drew wx)
  case first =>
   subst hC
   refine wp_region_any (by kernel_rfl) ?_
   change wpAny _ _ _ _ _ _ _ (World.drew _)
   generalize w1.drew = Y at *
   refine wpAny_ready (rs := [0, 1]) (by kernel_rfl) (by simp) ?_
   refine AllReady.cons rfl (fun K hK => ?_) (AllReady.cons rfl (fun K hK => ?_) AllReady.nil)
   ·rw [if_pos (by rfl)]
    refine wp_load_row 174 _ rfl g0 rfl _ _ _ _ hzD Tryz.underlying174 rfl (infoSetC _) (hK _ _ ?_)
    clear hK K
    refine wpAny_ready (rs := [1]) (by kernel_rfl) (by simp) ?_
    refine AllReady.cons rfl (fun K hK => ?_) AllReady.nil
    go_simp
    refine (all_set _).mono ?_
    rintro e w2 ⟨rfl, hk2⟩
    refine hK _ _ ?_
    clear hK K
    refine wpAny_ready (rs := [2]) (by kernel_rfl) (by simp) ?_
    refine AllReady.cons rfl (fun K hK => ?_) AllReady.nil
    rw [if_pos (by rfl)]
    refine wp_eqSet _ _ rfl f B HB rfl rfl (hK _ _ ?_)
    clear hK K
    refine wpAny_ready (rs := [3]) (by kernel_rfl) (by simp) ?_
    refine AllReady.cons rfl (fun K hK => ?_) AllReady.nil
    go_simp
    refine hK _ _ ?_
    clear hK K
    refine wpAny_done (by kernel_rfl) ?_ _
    go_wp2_with fail
    go_meet
    case rel => exact ⟨rfl, hk2⟩
   ·go_simp
    refine (all_set _).mono ?_
    rintro e w2 ⟨rfl, hk2⟩
    have hz2 := hzD.keep hk2 (by simp)
    refine hK _ _ ?_
    clear hK K
    refine wpAny_ready (rs := [0]) (by kernel_rfl) (by simp) ?_
    refine AllReady.cons rfl (fun K hK => ?_) AllReady.nil
    rw [if_pos (by rfl)]
    refine wp_load_row 174 _ rfl g0 rfl _ _ _ _ hz2 Tryz.underlying174 rfl (infoSetC _) (hK _ _ ?_)
    clear hK K
    refine wpAny_ready (rs := [2]) (by kernel_rfl) (by simp) ?_
    refine AllReady.cons rfl (fun K hK => ?_) AllReady.nil
    rw [if_pos (by rfl)]
    refine wp_eqSet _ _ rfl f B HB rfl rfl (hK _ _ ?_)
    clear hK K
    refine wpAny_ready (rs := [3]) (by kernel_rfl) (by simp) ?_
    refine AllReady.cons rfl (fun K hK => ?_) AllReady.nil
    go_simp
    refine hK _ _ ?_
    clear hK K
    refine wpAny_done (by kernel_rfl) ?_ _
    go_wp2_with fail
    go_meet
    case rel => exact ⟨rfl, hk2⟩
  case rest =>
   clear hC
   obtain ⟨rfl, hkx⟩ := hcut
   have hownX := hownD.keep hkx (by simp)
   have hkX := hkD.trans hkx
   clear hownD hkD hkx hzD SP
   cases B with
   | true =>
    have HX : Hid (setT f = [46]) := H1.out h0 ((all_iff f).1 HB.out)
    clear H1 H2 H3 HIN HB
    go_wp2_with fail
    go_ret
    exact ⟨by rw [HX.out]; rfl, hkX⟩
   | false =>
    have hna : ¬ ∀ n, n < 256 → f n = true := fun h => by have h1 := HB.out; rw [(all_iff f).2 h] at h1; cases h1
    have H2' : Hid ((∃ a, L = [(a, a)]) → setT f = outS L) := H2.out h0 hna
    have H3' : Hid ((¬ ∃ a, L = [(a, a)]) → setT f = [91] ++ outS L ++ [93]) := H3.out h0 hna
    clear H1 H2 H3 hna HB
    go_wp2_with fail
    have hcell : ∀ i p, L[i]? = some p → wc.cell? ⟨g, i * 2, none⟩ = some (.int .u8 (p.1 : Int)) ∧ wc.cell? ⟨g, i * 2 + 1, none⟩ = some (.int .u8 (p.2 : Int)) := by
     intro i p hp
     have h1 := World.ownsRow.cells hownX rfl (i * 2) _ (strC_at L i p hp).1
     have h2 := World.ownsRow.cells hownX rfl (i * 2 + 1) _ (strC_at L i p hp).2
     rw [addz] at h1 h2
     exact ⟨h1, h2⟩
    have HCL : Hid (∀ i p, L[i]? = some p → wc.cell? ⟨g, i * 2, none⟩ = some (.int .u8 (p.1 : Int)) ∧ wc.cell? ⟨g, i * 2 + 1, none⟩ = some (.int .u8 (p.2 : Int))) := hcell
    have hglt := (hownX.lt g rfl).2
    clear hcell hownX
    obtain ⟨wo, hwo⟩ : ∃ wo : World, wo = wc := ⟨_, rfl⟩
    subst hwo
    by_cases hone : ∃ a, L = [(a, a)]
    ·have HX : Hid (setT f = outS L) := H2'.out hone
     obtain ⟨a, rfl⟩ := hone
     have ha : a < 256 := (HIN.out (a, a) (by simp)).2
     obtain ⟨d0, d1⟩ := HCL.out 0 (a, a) rfl
     simp only [Nat.zero_mul, Nat.zero_add] at d0 d1
     have HX2 : Hid (setT f = oneT a) := by
      show setT f = oneT a
      rw [HX.out]; simp [outS, strT]
     clear H2' H3' HIN HX HCL
     go_quiet (fail)
     go_wp2_with (first | (go_at_call 148; refine (plainByte_text a ha _).mono ?_; rintro e w3 ⟨rfl, hk3⟩))
     go_ret
     exact ⟨by rw [HX2.out]; rfl, (hkX.drewN _).trans hk3⟩
    ·have HX : Hid (setT f = [91] ++ outS L ++ [93]) := H3'.out hone
     have hHO : Hid (¬ ∃ a, L = [(a, a)]) := hone
     clear H2' H3' hone
     go_cut [17] from 18 to 31 (fun u wx => u = .bool false ∧ ∃ n, wx = wo.drewN n)
     case first =>
      by_cases hl1 : L.length = 1
      ·obtain ⟨p, hp⟩ := List.length_eq_one_iff.1 hl1
       subst hp
       obtain ⟨a, b⟩ := p
       have hab : ((a : Int) == (b : Int)) = false := by
        have : ¬ a = b := fun h => hHO.out ⟨a, by rw [h]⟩
        simpa using (by omega : ¬ (a : Int) = (b : Int))
       obtain ⟨d0, d1⟩ := HCL.out 0 (a, b) rfl
       simp only [Nat.zero_mul, Nat.zero_add] at d0 d1
       clear HIN HX HCL hHO
       go_quiet (fail)
       go_wp2_with fail
       go_meet
       case rel => exact ⟨rfl, _, rfl⟩
      ·have hl1' : ((L.length : Int) == 1) = false := by simpa using (by omega : ¬ (L.length : Int) = 1)
       clear HIN HX HCL hHO
       go_quiet (fail)
       go_wp2_with fail
       go_meet
       case rel => exact ⟨rfl, _, rfl⟩
     case rest =>
      obtain ⟨rfl, nd, rfl⟩ := hcut
      have hkN : Keeps [] wo (wo.drewN nd) := (Keeps.refl [] wo).drewN nd
      have hcl2 : ∀ i p wr, L[i]? = some p → Keeps [] wo wr → wr.cell? ⟨g, i * 2, none⟩ = some (.int .u8 (p.1 : Int)) ∧ wr.cell? ⟨g, i * 2 + 1, none⟩ = some (.int .u8 (p.2 : Int)) := fun i p wr hp hk => ⟨keep_cell hk (HCL.out i p hp).1, keep_cell hk (HCL.out i p hp).2⟩
      have HC2 : Hid (∀ i p wr, L[i]? = some p → Keeps [] wo wr → wr.cell? ⟨g, i * 2, none⟩ = some (.int .u8 (p.1 : Int)) ∧ wr.cell? ⟨g, i * 2 + 1, none⟩ = some (.int .u8 (p.2 : Int))) := hcl2
      clear hcl2 HCL hHO
      generalize wo.drewN nd = wN at *
      go_wp2_with fail
      go_loopw [4, 39] (fun u q wr => ∃ i : Nat, i ≤ L.length ∧ u = .string (nmB ([91] ++ outS (L.take i))) ∧ q = .int .i64 i ∧ Keeps [] wo wr) (fun _ q _ => L.length - (intOf q).toNat)
      case atStart => exact ⟨0, by omega, rfl, rfl, hkN⟩
      case round =>
       clear hkN
       obtain ⟨i, hi, rfl, rfl, hkr⟩ := hrel
       by_cases hil : i < L.length
       ·obtain ⟨p, hpi⟩ : ∃ p, L[i]? = some p := ⟨_, List.getElem?_eq_getElem hil⟩
        obtain ⟨a, b⟩ := p
        obtain ⟨d0, d1⟩ := HC2.out i (a, b) wr hpi hkr
        have hab := HIN.out (a, b) (List.mem_of_getElem? hpi)
        have ha : a < 256 := by have := hab.1; have := hab.2; simp at *; omega
        have hb : b < 256 := by have := hab.2; simp at *; omega
        have HO : Hid (outS (L.take (i + 1)) = outS (L.take i) ++ strT a b) := outS_take L i (a, b) hpi
        have hol := outS_len (L.take i)
        have htl : (L.take i).length ≤ i := by simp; omega
        have hsl : (strT a b).length ≤ 9 := by
         have h1 := oneT_len a
         have h2 := oneT_len b
         unfold strT
         split
         ·omega
         ·simp; omega
        have hz : ¬ 9223372036854775807 < (nmB ([91] ++ outS (L.take i))).size + (nmB (strT a b)).size := by
         rw [nmB_size, nmB_size, List.length_append, List.length_singleton]
         omega
        have HAP : Hid (nmB ([91] ++ outS (L.take i)) ++ nmB (strT a b) = nmB ([91] ++ outS (L.take (i + 1)))) := by
         show nmB ([91] ++ outS (L.take i)) ++ nmB (strT a b) = _
         rw [nmB_append, HO.out, List.append_assoc]
        have PS := plainStretch_text a b ha hb
        have hi0 : (0 : Int) ≤ (i : Int) := by omega
        have hi1 : (i : Int) < (L.length : Int) := by omega
        have hi2 : (i : Int) ≤ 256 := by omega
        have HI : Hid (i < L.length) := hil
        simp only at d0 d1
        clear hab hol htl hsl hpi HX HIN HC2 hi HO
        generalize nmB (strT a b) = S at *
        generalize nmB ([91] ++ outS (L.take i)) = T at *
        go_wp2_with fail
        have hkq : Keeps [] wr (wr.alloc (.cells #[.int .u8 (a : Int), .int .u8 (b : Int)] 244)) := (Keeps.refl [] wr).alloc _
        refine (PS _).mono ?_
        rintro e w3 ⟨rfl, hk3⟩
        have hk4 := (hkr.trans hkq).trans hk3
        clear hkq hk3 hkr PS d0 d1
        go_wp2_with fail
        go_roundw
        case rel => exact ⟨i + 1, HI.out, by rw [← HAP.out], by go_num, hk4⟩
        case measure => have := HI.out; simp [intOf]; omega
       ·have hie : i = L.length := by omega
        have hni : ¬ (i : Int) < (L.length : Int) := by omega
        have hol := outS_len L
        have hz : ¬ 9223372036854775807 < (nmB ([91] ++ outS (L.take i))).size + (ByteArray.mk #[93]).size := by
         rw [hie, List.take_length, nmB_size, List.length_append, List.length_singleton]
         show ¬ 9223372036854775807 < _ + 1
         omega
        have hap := nmB_append ([91] ++ outS (L.take i)) [93]
        have HF : Hid (setT f = ([91] ++ outS (L.take i)) ++ [93]) := by show setT f = _; rw [HX.out, hie, List.take_length]
        clear hol HX hie hil hi HIN HC2
        go_wp2_with fail
        go_ret
        exact ⟨by rw [HF.out, ← nmB_append]; rfl, hkX.trans hkr⟩
end Go.Proofs.YtnfojonmohijpabGreatDoor
namespace Go.Proofs.YtnfojonmohijpabGreatDoor
open Go.RowKit
def GP (w : World) : Prop := w.cell? ⟨1, 0, none⟩ = some (.int .u64 1)
set_option maxRecDepth 100000 in
set_option maxHeartbeats 1000000 in
theorem len64_one (w : World) : Calls Tryz.prog 166 #[.int .u64 1] w fun e w' => e = .returned (.int .i64 1) ∧ w' = w := by
 go_enter Tryz.func166, Tryz.ntmps166
 go_wp2_with fail
 go_ret
 exact ⟨ret_int (by kernel_rfl), rfl⟩
set_option maxRecDepth 100000 in
set_option maxHeartbeats 1000000 in
theorem log_one (w : World) : Calls Tryz.prog 165 #[.int .i64 1] w fun e w' => e = .returned (.int .i64 0) ∧ w' = w := by
 go_enter Tryz.func165, Tryz.ntmps165
 go_wp2_with fail
 go_ret
 exact ⟨ret_int (by decide), rfl⟩
set_option maxRecDepth 100000 in
set_option maxHeartbeats 1000000 in
theorem bool2_true (w : World) : Calls Tryz.prog 167 #[.bool true] w fun e w' => e = .returned (.int .i64 1) ∧ w' = w := by
 go_enter Tryz.func167, Tryz.ntmps167
 go_wp2_with fail
 go_ret
 exact ⟨rfl, rfl⟩
set_option maxRecDepth 100000 in
set_option maxHeartbeats 1000000 in
theorem numDigits_one (w : World) (hg : GP w) : Calls Tryz.prog 143 #[.int .u64 1] w fun e w' => e = .returned (.int .i64 1) ∧ Keeps [] w w' := by
 have hg' : w.cell? ⟨1, 0, none⟩ = some (.int .u64 1) := hg
 go_enter Tryz.func143, Tryz.ntmps143
 go_wp2_with (first | (go_at_call 166; refine (len64_one _).mono ?_; rintro e w1 ⟨rfl, rfl⟩) | (go_at_call 165; refine (log_one _).mono ?_; rintro e w1 ⟨rfl, rfl⟩) | (go_at_call 167; refine (bool2_true _).mono ?_; rintro e w1 ⟨rfl, rfl⟩))
 go_ret
 exact ⟨rfl, Keeps.refl _ _⟩
set_option maxRecDepth 100000 in
set_option maxHeartbeats 1000000 in
theorem small_any (n : Nat) (hn : n ≤ 5) (w : World) : Calls Tryz.prog 142 #[.int .i64 (n : Int)] w fun e w' => e = .returned (.string (nmB (digT n))) ∧ Keeps [] w w' := by
 have h0 : n = 0 ∨ n = 1 ∨ n = 2 ∨ n = 3 ∨ n = 4 ∨ n = 5 := by omega
 rcases h0 with rfl | rfl | rfl | rfl | rfl | rfl
 all_goals
  go_enter Tryz.func142, Tryz.ntmps142
  go_wp2_with fail
  go_ret
  exact ⟨by kernel_rfl, Keeps.refl [] w⟩
set_option maxRecDepth 100000 in
set_option maxHeartbeats 1000000 in
theorem fmt_small (n : Nat) (hn : n ≤ 5) (w : World) : Calls Tryz.prog 120 #[.int .i64 (n : Int), .int .i64 10] w fun e w' => e = .returned (.string (nmB (digT n))) ∧ Keeps [] w w' := by
 have h0 : (0 : Int) ≤ (n : Int) := by omega
 have h1 : (n : Int) < 100 := by omega
 go_enter Tryz.func120, Tryz.ntmps120
 go_wp2_with (first | (go_at_call 142; refine (small_any n hn _).mono ?_; rintro e w1 ⟨rfl, hk1⟩))
 go_ret
 exact ⟨rfl, hk1⟩
theorem conv_at (w : World) (g cap : Nat) (x y : UInt8) (h0 : w.cell? ⟨g, 0, none⟩ = some (.int .u8 (x.toNat : Int))) (h1 : w.cell? ⟨g, 1, none⟩ = some (.int .u8 (y.toNat : Int))) : (convert 44 9 (.slice (some ⟨g, 0, none⟩) 2 cap)).run Tryz.prog w = .ok (.string (nmB [x, y])) w := by
 rw [run_convert_bytes_string w _ _ 5 _ _ _ Tryz.underlying44 Tryz.underlying5 Tryz.underlying9]
 have hld : (loadCells ⟨g, 0, none⟩ 2).run Tryz.prog w = .ok (([x, y].map fun u => (u.toNat : Int)).map (Value.int .u8)).toArray w := by
  refine run_loadCells_list (P := Tryz.prog) w ⟨g, 0, none⟩ [.int .u8 (x.toNat : Int), .int .u8 (y.toNat : Int)] ?_
  intro j u hu
  match j, hu with
  | 0, hu => simp at hu; subst hu; simpa [Addr.add] using h0
  | 1, hu => simp at hu; subst hu; simpa [Addr.add] using h1
 rw [run_bytesToString w _ _ _ _ hld, push_bytes]
 congr 2
set_option maxRecDepth 100000 in
set_option maxHeartbeats 1000000 in
theorem fmt10_one (b off cap : Nat) (v : Value) (w : World) (hc : w.cell? ⟨b, off, none⟩ = some v) (hf : w.frozen? ⟨b, off, none⟩ = false) :
    Calls Tryz.prog 144 #[.slice (some ⟨b, off, none⟩) 1 cap, .int .u64 1] w fun e w' => e = .returned (.tuple #[]) ∧ w' = w.setCell ⟨b, off, none⟩ (.int .u8 49) := by
 go_enter Tryz.func144, Tryz.ntmps144
 go_wp2_with fail
 go_loopw [1, 4] (fun u v wr => u = .int .u64 1 ∧ v = .int .i64 1 ∧ wr = w) (fun _ _ _ => 0)
 case atStart => exact ⟨rfl, rfl, rfl⟩
 case round =>
  obtain ⟨rfl, rfl, rfl⟩ := hrel
  go_wp2_with fail
  go_end0
  exact ⟨rfl, rfl⟩
set_option maxRecDepth 100000 in
set_option maxHeartbeats 1000000 in
theorem fmt_neg (w : World) (hg : GP w) : Calls Tryz.prog 120 #[.int .i64 (-1), .int .i64 10] w fun e w' => (∃ t, e = .returned (.string t)) ∧ Keeps [] w w' := by
 go_enter Tryz.func120, Tryz.ntmps120
 go_wp2_with fail
 have e1 : IntKind.u64.wrap (-IntKind.u64.wrap (-1)) = 1 := by decide
 rw [e1]
 have hk0 := (Keeps.refl [] w).alloc (.cells (Array.replicate 24 (.int .u8 0)) 235)
 have hg0 : GP _ := keep_cell hk0 hg
 have c0 : (w.alloc (.cells (Array.replicate 24 (.int .u8 0)) 235)).cell? ⟨w.heap.size, 0, none⟩ = some (.int .u8 0) := by simp
 have c1 : (w.alloc (.cells (Array.replicate 24 (.int .u8 0)) 235)).cell? ⟨w.heap.size, 1, none⟩ = some (.int .u8 0) := by simp
 have f0 : (w.alloc (.cells (Array.replicate 24 (.int .u8 0)) 235)).frozen? ⟨w.heap.size, 0, none⟩ = false := by simp
 have f1 : (w.alloc (.cells (Array.replicate 24 (.int .u8 0)) 235)).frozen? ⟨w.heap.size, 1, none⟩ = false := by simp
 refine (numDigits_one _ hg0).mono ?_
 rintro e w1 ⟨rfl, hk1⟩
 have d0 := keep_cell hk1 c0
 have d1 := keep_cell hk1 c1
 have k0 : w1.frozen? ⟨w.heap.size, 0, none⟩ = false := (World.frozen?_of_block (hk1.block _ (World.block_lt_of_cell? _ _ c0) (by simp))).trans f0
 have k1 : w1.frozen? ⟨w.heap.size, 1, none⟩ = false := (World.frozen?_of_block (hk1.block _ (World.block_lt_of_cell? _ _ c1) (by simp))).trans f1
 have hkA := hk0.trans hk1
 have hlt := World.block_lt_of_cell? _ _ d0
 clear c0 c1 f0 f1 hg0 hk0 hk1 e1 hg
 have d0' : (w1.setCell ⟨w.heap.size, 1, none⟩ (.int .u8 49)).cell? ⟨w.heap.size, 0, none⟩ = some (.int .u8 0) := (World.cell?_setCell_other _ _ _ _ (by simp)).trans d0
 have k0' : (w1.setCell ⟨w.heap.size, 1, none⟩ (.int .u8 49)).frozen? ⟨w.heap.size, 0, none⟩ = false := by rw [World.frozen?_setCell]; exact k0
 have cv := conv_at ((w1.setCell ⟨w.heap.size, 1, none⟩ (.int .u8 49)).setCell ⟨w.heap.size, 0, none⟩ (.int .u8 45)) w.heap.size 24 45 49 (World.cell?_setCell_same _ _ _ d0') ((World.cell?_setCell_other _ _ _ _ (by simp)).trans (World.cell?_setCell_same _ _ _ d1))
 go_wp2_with (first | (go_at_call 144; refine (fmt10_one w.heap.size 1 _ _ _ d1 k1).mono ?_; rintro e w2 ⟨rfl, rfl⟩))
 go_ret
 exact ⟨⟨_, rfl⟩, (hkA.setCell (Or.inr (Nat.le_refl _)) _).setCell (Or.inr (Nat.le_refl _)) _⟩
set_option maxRecDepth 100000 in
set_option maxHeartbeats 1000000 in
theorem iitoa_small (n : Nat) (hn : n ≤ 5) (w : World) : Calls Tryz.prog 89 #[.int .i64 (n : Int)] w fun e w' => e = .returned (.string (nmB (digT n))) ∧ Keeps [] w w' := by
 go_enter Tryz.func89, Tryz.ntmps89
 go_wp2_with (first | (go_at_call 120; refine (fmt_small n hn _).mono ?_; rintro e w1 ⟨rfl, hk1⟩))
 go_ret
 exact ⟨rfl, hk1⟩
set_option maxRecDepth 100000 in
set_option maxHeartbeats 1000000 in
theorem itoa_small (n : Nat) (hn : n ≤ 5) (w : World) : Calls Tryz.prog 51 #[.int .i64 (n : Int)] w fun e w' => e = .returned (.string (nmB (digT n))) ∧ Keeps [] w w' := by
 go_enter Tryz.func51, Tryz.ntmps51
 go_wp2_with (first | (go_at_call 89; refine (iitoa_small n hn _).mono ?_; rintro e w1 ⟨rfl, hk1⟩))
 go_ret
 exact ⟨rfl, hk1⟩
set_option maxRecDepth 100000 in
set_option maxHeartbeats 1000000 in
theorem iitoa_neg (w : World) (hg : GP w) : Calls Tryz.prog 89 #[.int .i64 (-1)] w fun e w' => (∃ t, e = .returned (.string t)) ∧ Keeps [] w w' := by
 go_enter Tryz.func89, Tryz.ntmps89
 go_wp2_with (first | (go_at_call 120; refine (fmt_neg _ hg).mono ?_; rintro e w1 ⟨⟨t, rfl⟩, hk1⟩))
 go_ret
 exact ⟨⟨t, rfl⟩, hk1⟩
set_option maxRecDepth 100000 in
set_option maxHeartbeats 1000000 in
theorem itoa_neg (w : World) (hg : GP w) : Calls Tryz.prog 51 #[.int .i64 (-1)] w fun e w' => (∃ t, e = .returned (.string t)) ∧ Keeps [] w w' := by
 go_enter Tryz.func51, Tryz.ntmps51
 go_wp2_with (first | (go_at_call 89; refine (iitoa_neg _ hg).mono ?_; rintro e w1 ⟨⟨t, rfl⟩, hk1⟩))
 go_ret
 exact ⟨⟨t, rfl⟩, hk1⟩
end Go.Proofs.YtnfojonmohijpabGreatDoor
