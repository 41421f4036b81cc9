/-
  DERIVED. Plain mathematics: the arguments of the command: options by letters, templates, the pattern. Nothing of the program stands here.
-/
import Derived.Test.YtnfojonmohijpabGreatDoorJOM
import Derived.Test.YtnfojonmohijpabGreatDoorJMA
import Derived.Test.YtnfojonmohijpabGreatDoorJNH
import Derived.Lib.Bytealg
import Derived.Lib.LastIndexByte
import Derived.Test.YtnfojonmohijpabGreatDoorJNO
set_option linter.unusedSimpArgs false
set_option linter.unusedVariables false
namespace Go.Proofs.YtnfojonmohijpabGreatDoor
structure Cmd where
 c : Bool
 i : Bool
 n : Bool
 o : Bool
 v : Bool
 x : Bool
 tp : ByteArray
def Cmd.add (k : Cmd) (u : Int) : Option Cmd :=
 if u = 99 then some { k with c := true } else if u = 105 then some { k with i := true } else if u = 110 then some { k with n := true }
 else if u = 111 then some { k with o := true } else if u = 118 then some { k with v := true } else if u = 120 then some { k with x := true } else none
def letF (a : ByteArray) (k : Cmd) : Nat → Nat → Option Cmd
 | 0, _ => some k
 | f + 1, j => match k.add (at' a j) with
  | none => none
  | some k' => letF a k' f (j + 1)
def ddS : ByteArray := ⟨#[45, 45]⟩
def dtS : ByteArray := ⟨#[45, 116]⟩
def isOpt (a : ByteArray) : Prop := 1 < a.size ∧ at' a 0 = 45
instance (a : ByteArray) : Decidable (isOpt a) := by unfold isOpt; infer_instance
def oneF (k : Cmd) : List ByteArray → Option (Cmd × ByteArray)
 | [p] => some (k, p)
 | _ => none
inductive OptA : List ByteArray → Cmd → Option (Cmd × ByteArray) → Prop
 | left (l : List ByteArray) (k : Cmd) : (∀ a r, l = a :: r → ¬ isOpt a) → OptA l k (oneF k l)
 | dd (r : List ByteArray) (k : Cmd) : OptA (ddS :: r) k (oneF k r)
 | dt0 (k : Cmd) : OptA [dtS] k none
 | dt (t : ByteArray) (r : List ByteArray) (k : Cmd) (q : Option (Cmd × ByteArray)) : OptA r { k with o := true, tp := t } q → OptA (dtS :: t :: r) k q
 | bad (a : ByteArray) (r : List ByteArray) (k : Cmd) : isOpt a → a ≠ ddS → a ≠ dtS → letF a k (a.size - 1) 1 = none → OptA (a :: r) k none
 | let' (a : ByteArray) (r : List ByteArray) (k k' : Cmd) (q : Option (Cmd × ByteArray)) : isOpt a → a ≠ ddS → a ≠ dtS → letF a k (a.size - 1) 1 = some k' → OptA r k' q → OptA (a :: r) k q
theorem dd_opt : isOpt ddS := by decide
theorem dt_opt : isOpt dtS := by decide
theorem OptA.det {l : List ByteArray} {k : Cmd} {q : Option (Cmd × ByteArray)} (h : OptA l k q) : ∀ {q' : Option (Cmd × ByteArray)}, OptA l k q' → q = q' := by
 induction h with
 | left l k h =>
  intro q' e
  cases e with
  | left => rfl
  | dd => exact absurd dd_opt (h _ _ rfl)
  | dt0 => exact absurd dt_opt (h _ _ rfl)
  | dt => exact absurd dt_opt (h _ _ rfl)
  | bad a r _ ho => exact absurd ho (h _ _ rfl)
  | let' a r _ _ _ ho => exact absurd ho (h _ _ rfl)
 | dd r k =>
  intro q' e
  cases e with
  | left _ _ h => exact absurd dd_opt (h _ _ rfl)
  | dd => rfl
  | bad _ _ _ _ h => exact absurd rfl h
  | let' _ _ _ _ _ _ h => exact absurd rfl h
 | dt0 k =>
  intro q' e
  cases e with
  | left _ _ h => exact absurd dt_opt (h _ _ rfl)
  | dt0 => rfl
  | bad _ _ _ _ _ h => exact absurd rfl h
  | let' _ _ _ _ _ _ _ h => exact absurd rfl h
 | dt t r k q _ ih =>
  intro q' e
  cases e with
  | left _ _ h => exact absurd dt_opt (h _ _ rfl)
  | dt _ _ _ _ h => exact ih h
  | bad _ _ _ _ _ h => exact absurd rfl h
  | let' _ _ _ _ _ _ _ h => exact absurd rfl h
 | bad a r k ho h1 h2 h3 =>
  intro q' e
  cases e with
  | left _ _ h => exact absurd ho (h _ _ rfl)
  | dd => exact absurd rfl h1
  | dt0 => exact absurd rfl h2
  | dt => exact absurd rfl h2
  | bad => rfl
  | let' _ _ _ _ _ _ _ _ h => rw [h3] at h; cases h
 | let' a r k k' q ho h1 h2 h3 _ ih =>
  intro q' e
  cases e with
  | left _ _ h => exact absurd ho (h _ _ rfl)
  | dd => exact absurd rfl h1
  | dt0 => exact absurd rfl h2
  | dt => exact absurd rfl h2
  | bad _ _ _ _ _ _ h => rw [h3] at h; cases h
  | let' _ _ _ _ _ _ _ _ h h' =>
   rw [h3] at h
   cases h
   exact ih h'
end Go.Proofs.YtnfojonmohijpabGreatDoor
namespace Go.Proofs.YtnfojonmohijpabGreatDoor
structure Rul where
 nm : ByteArray
 pt : ByteArray
 sk : Bool
def NameOk (s : ByteArray) : Prop := 1 ≤ s.size ∧ s.size ≤ 8 ∧ ∀ i, i < s.size → 97 ≤ at' s i ∧ at' s i ≤ 122
def Fresh (rs : List Rul) (i : Nat) (s : ByteArray) : Prop := ∀ (k : Nat) (q : Rul), k < i → rs[k]? = some q → q.nm ≠ s
def RlOk (rs : List Rul) (i : Nat) (W : Whole) : Prop := ∃ r, rs[i]? = some r ∧ NameOk r.nm ∧ Fresh rs i r.nm ∧ r.pt.size ≤ 60 ∧ ∃ j, PatR r.pt (.ok W j)
def RlBad (rs : List Rul) (i : Nat) (n : Int) : Prop := ∃ r, rs[i]? = some r ∧
 ((¬ NameOk r.nm ∧ n = 4) ∨ (NameOk r.nm ∧ ¬ Fresh rs i r.nm ∧ n = 5) ∨
  (NameOk r.nm ∧ Fresh rs i r.nm ∧ ((60 < r.pt.size ∧ n = 1) ∨ (r.pt.size ≤ 60 ∧ (∃ j, PatR r.pt (.bad j)) ∧ n = 2))))
theorem RlOk.det {rs : List Rul} {i : Nat} {W V : Whole} (h : RlOk rs i W) (k : RlOk rs i V) : W = V := by
 obtain ⟨r, h1, _, _, _, j, hW⟩ := h
 obtain ⟨q, k1, _, _, _, j', hV⟩ := k
 rw [h1] at k1
 cases k1
 have := hW.det hV
 cases this
 rfl
theorem RlOk.not {rs : List Rul} {i : Nat} {W : Whole} {n : Int} (h : RlOk rs i W) (k : RlBad rs i n) : False := by
 obtain ⟨r, h1, h2, h3, h4, j, hW⟩ := h
 obtain ⟨q, k1, k⟩ := k
 rw [h1] at k1
 cases k1
 rcases k with ⟨k, _⟩ | ⟨_, k, _⟩ | ⟨_, _, ⟨k, _⟩ | ⟨_, ⟨j', k⟩, _⟩⟩
 ·exact k h2
 ·exact k h3
 ·omega
 ·have := hW.det k
  cases this
theorem RlBad.det {rs : List Rul} {i : Nat} {n m : Int} (h : RlBad rs i n) (k : RlBad rs i m) : n = m := by
 obtain ⟨r, h1, h⟩ := h
 obtain ⟨q, k1, k⟩ := k
 rw [h1] at k1
 cases k1
 rcases h with ⟨h, rfl⟩ | ⟨h, h', rfl⟩ | ⟨h, h', h''⟩ <;> rcases k with ⟨k, rfl⟩ | ⟨k, k', rfl⟩ | ⟨k, k', k''⟩
 ·rfl
 ·exact absurd k h
 ·exact absurd k h
 ·exact absurd h k
 ·rfl
 ·exact absurd k' h'
 ·exact absurd h k
 ·exact absurd h' k'
 ·rcases h'' with ⟨h'', rfl⟩ | ⟨h'', _, rfl⟩ <;> rcases k'' with ⟨k'', rfl⟩ | ⟨k'', _, rfl⟩
  ·rfl
  ·omega
  ·omega
  ·rfl
def RulesA (rs : List Rul) (Ws : List Whole) (n : Int) : Prop :=
 ((rs.length = 0 ∨ 8 < rs.length) ∧ Ws = [] ∧ n = 4) ∨ (1 ≤ rs.length ∧ rs.length ≤ 8 ∧
   ((∃ i, (∀ k, k < i → ∃ W, RlOk rs k W) ∧ RlBad rs i n ∧ Ws = [] ∧ n ≠ 0) ∨ (n = 0 ∧ Ws.length = rs.length ∧ ∀ (k : Nat) (W : Whole), Ws[k]? = some W → RlOk rs k W)))
theorem RulesA.det {rs : List Rul} {Ws Vs : List Whole} {n m : Int} (h : RulesA rs Ws n) (k : RulesA rs Vs m) : Ws = Vs ∧ n = m := by
 have key : ∀ {Ws : List Whole} {i : Nat} {n : Int}, RlBad rs i n → Ws.length = rs.length → (∀ (k : Nat) (W : Whole), Ws[k]? = some W → RlOk rs k W) → False := by
  intro Ws i n hb hl hk
  have hi : i < Ws.length := by
   obtain ⟨r, h1, _⟩ := hb
   rw [hl]
   exact (List.getElem?_eq_some_iff.1 h1).1
  exact (hk i _ (List.getElem?_eq_getElem hi)).not hb
 rcases h with ⟨h0, rfl, rfl⟩ | ⟨h0, h8, h⟩ <;> rcases k with ⟨k0, rfl, rfl⟩ | ⟨k0, k8, k⟩
 ·exact ⟨rfl, rfl⟩
 ·omega
 ·omega
 ·rcases h with ⟨i, a, b, rfl, _⟩ | ⟨rfl, a, b⟩ <;> rcases k with ⟨j, a', b', rfl, _⟩ | ⟨rfl, a', b'⟩
  ·have : i = j := by
      rcases Nat.lt_trichotomy i j with e | e | e
      ·obtain ⟨W, hW⟩ := a' i e; exact (hW.not b).elim
      ·exact e
      ·obtain ⟨W, hW⟩ := a j e; exact (hW.not b').elim
   subst this
   exact ⟨rfl, b.det b'⟩
  ·exact (key b a' b').elim
  ·exact (key b' a b).elim
  ·refine ⟨List.ext_getElem (by omega) fun n h1 h2 => ?_, rfl⟩
   exact (b n _ (List.getElem?_eq_getElem h1)).det (b' n _ (List.getElem?_eq_getElem h2))
structure Tok where
 rule : Nat
 frm : Nat
 upt : Nat
 line : Nat
 col : Nat
def lnC (s : ByteArray) : Nat → Nat × Nat
 | 0 => (1, 1)
 | i + 1 => if at' s i = 10 then ((lnC s i).1 + 1, 1) else ((lnC s i).1, (lnC s i).2 + 1)
def BestT (s : ByteArray) (xs : List Pat) (i r j : Nat) : Prop :=
 i < j ∧ j ≤ s.size ∧ (∃ x, xs[r]? = some x ∧ Mt s x i j) ∧ (∀ (k : Nat) (x : Pat), k < r → xs[k]? = some x → ¬ Mt s x i j) ∧ ∀ (m k : Nat) (x : Pat), j < m → m ≤ s.size → xs[k]? = some x → ¬ Mt s x i m
def NoneT (s : ByteArray) (xs : List Pat) (i : Nat) : Prop := ∀ (m k : Nat) (x : Pat), i < m → m ≤ s.size → xs[k]? = some x → ¬ Mt s x i m
theorem BestT.det {s : ByteArray} {xs : List Pat} {i r j r' j' : Nat} (h : BestT s xs i r j) (k : BestT s xs i r' j') : r = r' ∧ j = j' := by
 obtain ⟨a1, a2, ⟨x, a3, a4⟩, a5, a6⟩ := h
 obtain ⟨b1, b2, ⟨y, b3, b4⟩, b5, b6⟩ := k
 have hj : j = j' := by
  rcases Nat.lt_trichotomy j j' with e | e | e
  ·exact absurd b4 (a6 j' r' y e b2 b3)
  ·exact e
  ·exact absurd a4 (b6 j r x e a2 a3)
 subst hj
 refine ⟨?_, rfl⟩
 rcases Nat.lt_trichotomy r r' with e | e | e
 ·exact absurd a4 (b5 r x e a3)
 ·exact e
 ·exact absurd b4 (a5 r' y e b3)
theorem BestT.not {s : ByteArray} {xs : List Pat} {i r j : Nat} (h : BestT s xs i r j) (k : NoneT s xs i) : False := by
 obtain ⟨a1, a2, ⟨x, a3, a4⟩, _, _⟩ := h
 exact k j r x a1 a2 a3 a4
inductive Tks (s : ByteArray) (xs : List Pat) (sk : Nat → Bool) : Nat → List Tok → Nat → Prop
 | fin (i : Nat) : NoneT s xs i → Tks s xs sk i [] i
 | skip (i r j : Nat) (l : List Tok) (e : Nat) : BestT s xs i r j → sk r = true → Tks s xs sk j l e → Tks s xs sk i l e
 | tok (i r j : Nat) (l : List Tok) (e : Nat) : BestT s xs i r j → sk r = false → Tks s xs sk j l e → Tks s xs sk i (⟨r, i, j, (lnC s i).1, (lnC s i).2⟩ :: l) e
theorem Tks.det {s : ByteArray} {xs : List Pat} {sk : Nat → Bool} {i e : Nat} {l : List Tok} (h : Tks s xs sk i l e) : ∀ {l' : List Tok} {e' : Nat}, Tks s xs sk i l' e' → l = l' ∧ e = e' := by
 induction h with
 | fin i hn =>
  intro l' e' k
  cases k with
  | fin => exact ⟨rfl, rfl⟩
  | skip _ r j _ _ hb => exact (hb.not hn).elim
  | tok _ r j l _ hb => exact (hb.not hn).elim
 | skip i r j l e hb hs _ ih =>
  intro l' e' k
  cases k with
  | fin _ hn => exact (hb.not hn).elim
  | skip _ r' j' _ _ hb' _ k' =>
   obtain ⟨rfl, rfl⟩ := hb.det hb'
   exact ih k'
  | tok _ r' j' l' _ hb' hs' _ =>
   obtain ⟨rfl, rfl⟩ := hb.det hb'
   rw [hs] at hs'
   cases hs'
 | tok i r j l e hb hs _ ih =>
  intro l' e' k
  cases k with
  | fin _ hn => exact (hb.not hn).elim
  | skip _ r' j' _ _ hb' hs' _ =>
   obtain ⟨rfl, rfl⟩ := hb.det hb'
   rw [hs] at hs'
   cases hs'
  | tok _ r' j' l' _ hb' _ k' =>
   obtain ⟨rfl, rfl⟩ := hb.det hb'
   obtain ⟨rfl, rfl⟩ := ih k'
   exact ⟨rfl, rfl⟩
def skO (rs : List Rul) (r : Nat) : Bool := match rs[r]? with
 | some q => q.sk
 | none => false
def TokA (rs : List Rul) (s : ByteArray) (l : List Tok) (e : Nat) (n : Int) : Prop :=
 ∃ Ws m, RulesA rs Ws m ∧ ((m ≠ 0 ∧ l = [] ∧ e = 0 ∧ n = m) ∨ (m = 0 ∧ ((100 < s.size ∧ l = [] ∧ e = 0 ∧ n = 1) ∨ (s.size ≤ 100 ∧ n = 0 ∧ Tks s (Ws.map (·.x)) (skO rs) 0 l e))))
theorem TokA.det {rs : List Rul} {s : ByteArray} {l l' : List Tok} {e e' : Nat} {n n' : Int} (h : TokA rs s l e n) (k : TokA rs s l' e' n') : l = l' ∧ e = e' ∧ n = n' := by
 obtain ⟨Ws, m, hr, h⟩ := h
 obtain ⟨Vs, m', kr, k⟩ := k
 obtain ⟨rfl, rfl⟩ := hr.det kr
 rcases h with ⟨h0, rfl, rfl, rfl⟩ | ⟨h0, h⟩ <;> rcases k with ⟨k0, rfl, rfl, rfl⟩ | ⟨k0, k⟩
 ·exact ⟨rfl, rfl, rfl⟩
 ·exact absurd k0 h0
 ·exact absurd h0 k0
 ·rcases h with ⟨h1, rfl, rfl, rfl⟩ | ⟨h1, rfl, h⟩ <;> rcases k with ⟨k1, rfl, rfl, rfl⟩ | ⟨k1, rfl, k⟩
  ·exact ⟨rfl, rfl, rfl⟩
  ·omega
  ·omega
  ·obtain ⟨rfl, rfl⟩ := h.det k
   exact ⟨rfl, rfl, rfl⟩
theorem lnC_pos (s : ByteArray) : ∀ i, 1 ≤ (lnC s i).1 ∧ (lnC s i).1 ≤ i + 1 ∧ 1 ≤ (lnC s i).2 ∧ (lnC s i).2 ≤ i + 1
 | 0 => by simp [lnC]
 | i + 1 => by
  have := lnC_pos s i
  simp only [lnC]
  split <;> simp only <;> omega
end Go.Proofs.YtnfojonmohijpabGreatDoor
namespace Go.Proofs.YtnfojonmohijpabGreatDoor
open Go.RowKit
theorem toList_isEmpty (s : ByteArray) : s.toList.isEmpty = decide (s.size = 0) := by
 have h : s.toList.length = s.size := by rw [ByteArray.toList_eq s]; exact Array.length_toList
 cases hl : s.toList with
 | nil =>
  have h2 : s.size = 0 := by rw [hl] at h; exact h.symm
  simp [h2]
 | cons a l =>
  have h2 : ¬ s.size = 0 := by rw [hl] at h; rw [List.length_cons] at h; omega
  simp [h2]
set_option maxRecDepth 100000 in
set_option maxHeartbeats 2000000 in
theorem isName_any (s : ByteArray) (w : World) : Calls Tryz.prog 55 #[.string s] w fun e w' => ∃ b, e = .returned (.bool b) ∧ (b = true ↔ NameOk s) ∧ Keeps [] w w' := by
 by_cases h0 : s.size = 0
 ·have hE : s.toList.isEmpty = true := by rw [toList_isEmpty]; simp [h0]
  have HN : Hid (¬ NameOk s) := fun h => by have := h.1; omega
  clear h0
  go_enter Tryz.func55, Tryz.ntmps55
  go_wp2_with fail
  go_ret
  exact ⟨false, rfl, ⟨(nomatch ·), fun h => absurd h HN.out⟩, Keeps.refl _ _⟩
 have hE : s.toList.isEmpty = false := by rw [toList_isEmpty]; simp [h0]
 by_cases h8 : 8 < s.size
 ·have hd : decide ((8 : Int) < (s.size : Int)) = true := by simp; omega
  have hd' : (8 : Int) < (s.size : Int) := by omega
  have HN : Hid (¬ NameOk s) := fun h => by have := h.2.1; omega
  clear h0 h8
  go_enter Tryz.func55, Tryz.ntmps55
  go_wp2_with fail
  go_ret
  exact ⟨false, rfl, ⟨(nomatch ·), fun h => absurd h HN.out⟩, Keeps.refl _ _⟩
 have hd : decide ((8 : Int) < (s.size : Int)) = false := by simp; omega
 have hd' : ¬ (8 : Int) < (s.size : Int) := by omega
 have hd'' : (s.size : Int) ≤ 8 := by omega
 have H18 : Hid (1 ≤ s.size ∧ s.size ≤ 8) := ⟨by omega, by omega⟩
 clear h0 h8
 go_enter Tryz.func55, Tryz.ntmps55
 go_wp2_with fail
 go_loopw [3, 13] (fun _ q wr => ∃ k : Nat, k ≤ s.size ∧ q = .int .i64 k ∧ Hid (∀ i, i < k → 97 ≤ at' s i ∧ at' s i ≤ 122) ∧ Keeps [] w wr) (fun _ q _ => s.size - (intOf q).toNat)
 case atStart => exact ⟨0, Nat.zero_le _, rfl, fun i h => by omega, Keeps.refl _ _⟩
 case round =>
  obtain ⟨k, hk, rfl, HA, hK⟩ := hrel
  by_cases hlt : k < s.size
  ·have hk0 : (0 : Int) ≤ (k : Int) := by omega
   have hk1 : (k : Int) < (s.size : Int) := by omega
   have hat := at'_lt hlt
   have HK : Hid (k < s.size) := hlt
   cases hb : lwB ((s[k]'hlt).toNat : Int)
   ·have HN : Hid (¬ NameOk s) := fun h => by
       have := h.2.2 k hlt
       rw [hat] at this
       simp [lwB] at hb
       omega
    clear hk hat
    go_wp2_with ((go_at_call 92; refine (isLower_any _ _).mono ?_; rintro e w' ⟨rfl, rfl⟩; rw [hb]))
    go_ret
    exact ⟨false, rfl, ⟨(nomatch ·), fun h => absurd h HN.out⟩, hK⟩
   ·have HA2 : Hid (∀ i, i < k + 1 → 97 ≤ at' s i ∧ at' s i ≤ 122) := fun i hi => by
       by_cases e : i < k
       ·exact HA.out i e
       ·have : i = k := by omega
        subst this
        rw [hat]
        simp [lwB] at hb
        omega
    clear hk hat
    go_wp2_with ((go_at_call 92; refine (isLower_any _ _).mono ?_; rintro e w' ⟨rfl, rfl⟩; rw [hb]))
    exact ⟨⟨k + 1, HK.out, by go_num, HA2.out, hK⟩, by have := HK.out; simp [intOf]; omega⟩
  ·have he : k = s.size := by omega
   subst he
   have HY : Hid (NameOk s) := ⟨H18.out.1, H18.out.2, HA.out⟩
   clear hk hlt
   go_wp2_with fail
   go_ret
   exact ⟨true, rfl, ⟨fun _ => HY.out, fun _ => rfl⟩, hK⟩
set_option maxHeartbeats 1000000 in
set_option maxRecDepth 100000 in
theorem count_any (s : ByteArray) (c : UInt8) (w : World) :
    Calls Tryz.prog 60 #[.string s, .string ⟨#[c]⟩] w fun e w' => e = .returned (.int .i64 (Lib.countByte s.data.toList c)) ∧ w' = w := by
 go_enter Tryz.func60, Tryz.ntmps60
 go_wp2
 rw [run_callFunc_extern Tryz.func95 (by kernel_rfl) (by kernel_rfl) (by kernel_rfl) (e := Extern.BytealgCount.count) (by kernel_rfl), Lib.run_countString]
 simp only [Result.andThen]
 rw [Oper.upon_value]
 go_wp2
 go_ret
 exact ⟨rfl, rfl⟩
set_option maxHeartbeats 1000000 in
set_option maxRecDepth 100000 in
theorem lastS_any (s : ByteArray) (c : Int) (hs : s.size ≤ 100) (w : World) :
    Calls Tryz.prog 97 #[.string s, .int .u8 c] w fun e w' => e = .returned (.int .i64 (Lib.lastIdx s c s.size)) ∧ w' = w := by
 have hs' : (s.size : Int) ≤ 100 := by omega
 go_enter Tryz.func97, Tryz.ntmps97
 go_wp2_with fail
 go_loopw [5] (fun q wr => ∃ k : Nat, q = .int .i64 ((k : Int) - 1) ∧ k ≤ s.size ∧ Hid (Lib.lastIdx s c s.size = Lib.lastIdx s c k) ∧ wr = w) (fun q _ => (intOf q + 1).toNat)
 case atStart => exact ⟨s.size, rfl, Nat.le_refl _, rfl, rfl⟩
 case round =>
  obtain ⟨k, rfl, hk, HL, rfl⟩ := hrel
  cases k with
  | zero =>
   have HE : Hid (Lib.lastIdx s c s.size = -1) := HL.out
   have e00 : ((0 : Nat) : Int) - 1 = -1 := rfl
   rw [e00]
   clear HL e00
   go_wp2_with fail
   go_ret
   exact ⟨by rw [HE.out]; rfl, rfl⟩
  | succ k =>
   have hlt : k < s.size := by omega
   have e0 : ((k + 1 : Nat) : Int) - 1 = (k : Int) := by omega
   rw [e0]
   have hk0 : (0 : Int) ≤ (k : Int) := by omega
   have hk1 : (k : Int) < (s.size : Int) := by omega
   have hge : (s.data[k]!) = s[k]'hlt := getElem!_pos s.data k hlt
   have HK : Hid (k < s.size) := hlt
   by_cases hb : ((s[k]'hlt).toNat : Int) = c
   ·have HE : Hid (Lib.lastIdx s c s.size = (k : Int)) := HL.out.trans (Lib.lastIdx_hit s c k (by rw [hge]; exact hb))
    have hb' : (((s[k]'hlt).toNat : Int) == c) = true := by simpa using hb
    clear HL hge hk
    go_wp2_with fail
    go_ret
    exact ⟨by rw [HE.out]; rfl, rfl⟩
   ·have HE : Hid (Lib.lastIdx s c s.size = Lib.lastIdx s c k) := HL.out.trans (Lib.lastIdx_miss s c k (by rw [hge]; exact hb))
    have hb' : (((s[k]'hlt).toNat : Int) == c) = false := by simpa using hb
    clear HL hge hk
    go_wp2_with fail
    exact ⟨⟨k, by go_num, by have := HK.out; omega, HE.out, trivial⟩, by simp [intOf]⟩
set_option maxHeartbeats 1000000 in
set_option maxRecDepth 100000 in
theorem last_any (s : ByteArray) (c : Int) (hs : s.size ≤ 100) (w : World) :
    Calls Tryz.prog 61 #[.string s, .int .u8 c] w fun e w' => e = .returned (.int .i64 (Lib.lastIdx s c s.size)) ∧ w' = w := by
 go_enter Tryz.func61, Tryz.ntmps61
 go_wp2_with fail
 refine (lastS_any s c hs w).mono ?_
 rintro e w1 ⟨rfl, rfl⟩
 go_wp2_with fail
 go_ret
 exact ⟨rfl, rfl⟩
theorem ext_data (s : ByteArray) (i : Nat) : (s.extract 0 i).data.toList = s.data.toList.take i := by
 rw [ByteArray.data_extract]
 simp
theorem lastIdx_pre (s : ByteArray) (c : Int) {i : Nat} (hi : i ≤ s.size) : ∀ k, k ≤ i → Lib.lastIdx (s.extract 0 i) c k = Lib.lastIdx s c k
 | 0, _ => rfl
 | k + 1, hk => by
  have ih := lastIdx_pre s c hi k (by omega)
  have hz : (s.extract 0 i).size = i := by simp; omega
  have e : ((s.extract 0 i).data[k]!) = (s.data[k]!) := by
   have h1 : (s.extract 0 i).data.toList[k]? = s.data.toList[k]? := by rw [ext_data, List.getElem?_take_of_lt (by omega)]
   rw [Array.getElem?_toList, Array.getElem?_toList] at h1
   rw [getElem!_def, getElem!_def, h1]
  unfold Lib.lastIdx
  rw [e, ih]
theorem lnC_col (s : ByteArray) : ∀ i, i ≤ s.size → ((lnC s i).2 : Int) = (i : Int) - Lib.lastIdx s 10 i
 | 0, _ => rfl
 | i + 1, hi => by
  have ih := lnC_col s i (by omega)
  have hat := at'_lt (show i < s.size by omega)
  have hge : (s.data[i]!) = s[i]'(by omega) := getElem!_pos s.data i (by show i < s.size; omega)
  unfold lnC
  by_cases h : at' s i = 10
  ·rw [if_pos h, Lib.lastIdx_hit s 10 i (by rw [hge, ← hat]; exact h)]
   simp only
   omega
  ·rw [if_neg h, Lib.lastIdx_miss s 10 i (by rw [hge, ← hat]; exact h)]
   simp only
   omega
theorem lnC_line (s : ByteArray) : ∀ i, i ≤ s.size → (lnC s i).1 = Lib.countByte (s.data.toList.take i) 10 + 1
 | 0, _ => by simp [lnC, Lib.countByte]
 | i + 1, hi => by
  have ih := lnC_line s i (by omega)
  have hat := at'_lt (show i < s.size by omega)
  have h4 : s.data.toList[i]? = some (s[i]'(by omega)) := by rw [Array.getElem?_toList]; exact Array.getElem?_eq_getElem (by show i < s.size; omega)
  unfold lnC
  rw [List.take_add_one, h4]
  unfold Lib.countByte at ih ⊢
  rw [List.count_append]
  by_cases h : at' s i = 10
  ·rw [if_pos h]
   have : s[i]'(by omega) = 10 := by apply UInt8.toNat_inj.1; rw [hat] at h; have : (10 : UInt8).toNat = 10 := rfl; omega
   simp only [ih, this, Option.toList]
   simp
  ·rw [if_neg h]
   have : s[i]'(by omega) ≠ 10 := fun e => by rw [hat, e] at h; exact h rfl
   simp only [ih, Option.toList]
   rw [List.count_singleton]
   simp [this]
set_option maxHeartbeats 1000000 in
set_option maxRecDepth 100000 in
theorem position_any (s : ByteArray) (i : Nat) (hi : i ≤ s.size) (hs : s.size ≤ 100) (w : World) :
    Calls Tryz.prog 31 #[.string (s.extract 0 i)] w fun e w' => e = .returned (.tuple #[.int .i64 (lnC s i).1, .int .i64 (lnC s i).2]) ∧ w' = w := by
 have hz : (s.extract 0 i).size = i := by simp; omega
 have HC := lnC_col s i hi
 have HL := lnC_line s i hi
 have hp := lnC_pos s i
 have h1 := count_any (s.extract 0 i) 10
 have h2 := last_any (s.extract 0 i) 10 (by omega)
 rw [ext_data] at h1
 rw [hz, lastIdx_pre s 10 hi i (Nat.le_refl _)] at h2
 generalize Lib.countByte (s.data.toList.take i) 10 = m at h1 HL
 generalize Lib.lastIdx s 10 i = z at h2 HC
 generalize s.extract 0 i = S at *
 have b1 : (m : Int) ≤ 100 := by omega
 have b2 : z ≤ 100 := by omega
 have b3 : -1 ≤ z := by omega
 have b4 : (i : Int) ≤ 100 := by omega
 have HC2 : Hid (((lnC s i).2 : Int) = (i : Int) - z) := HC
 have HL2 : Hid (((lnC s i).1 : Int) = (m : Int) + 1) := (by rw [HL]; omega : ((lnC s i).1 : Int) = (m : Int) + 1)
 have hzi : (S.size : Int) = (i : Int) := by omega
 clear HC HL hp hz hi hs
 go_enter Tryz.func31, Tryz.ntmps31
 go_wp2_with (first | (go_at_call 61; refine (h2 _).mono ?_; rintro e w' ⟨rfl, rfl⟩) | (go_at_call 60; refine (h1 _).mono ?_; rintro e w' ⟨rfl, rfl⟩))
 go_ret2
 exact ⟨by rw [HC2.out, HL2.out]; rfl, rfl⟩
end Go.Proofs.YtnfojonmohijpabGreatDoor
namespace Go.Proofs.YtnfojonmohijpabGreatDoor
open Go.RowKit
def RuC (w : World) (g o : Nat) (rs : List Rul) : Prop := ∀ (k : Nat) (r : Rul), rs[k]? = some r → w.rangeAt g (o + k * 3) [.string r.nm, .string r.pt, .bool r.sk]
theorem RuC.keep {w w' : World} {g o : Nat} {rs : List Rul} {S : List Nat} (h : RuC w g o rs) (hk : Keeps S w w') (hS : g ∉ S) : RuC w' g o rs := fun k r hr q u hu => by
 have h1 := h k r hr q u hu
 exact (World.cell?_of_block (hk.block g (World.block_lt_of_cell? _ _ h1) hS)).trans h1
theorem strEq (a b : ByteArray) : (a.toList == b.toList) = decide (a = b) := by
 rw [ByteArray.toList_eq, ByteArray.toList_eq]
 by_cases h : a = b
 ·subst h; simp
 ·have h2 : ¬ a.data = b.data := fun e => h (ByteArray.ext e)
  simp [h, h2]
theorem cf_chk1 : ∀ args w1, (callFunc 57 args).run Tryz.prog w1 = .ok (.enter 57 args) w1 := fun args w1 => by
 kernel_rfl
set_option maxRecDepth 100000 in
set_option maxHeartbeats 2000000 in
theorem chk1_any (r : Rul) (name : ByteArray) (bn : Nat) (w : World) (hbn : w.cell? ⟨bn, 0, none⟩ = some (.string name)) :
    Calls Tryz.prog 57 #[.agg #[.string r.nm, .string r.pt, .bool r.sk], .pointer (some ⟨bn, 0, none⟩)] w fun e w' => e = .returned (.bool (decide (r.nm = name))) ∧ Keeps [] w w' := by
 have hq0 : (w.alloc (.cells #[.string r.nm, .string r.pt, .bool r.sk] 28)).heap[w.heap.size]? = some (.cells #[.string r.nm, .string r.pt, .bool r.sk] 28 (0, 0)) := heap_alloc_new w _
 have hk0 : Keeps [] w (w.alloc (.cells #[.string r.nm, .string r.pt, .bool r.sk] 28)) := (Keeps.refl [] w).alloc _
 have hb0 := keep_cell hk0 hbn
 have hn0 : (w.alloc (.cells #[.string r.nm, .string r.pt, .bool r.sk] 28)).cell? ⟨w.heap.size, 0, none⟩ = some (.string r.nm) := by rw [Lib.cell_of_heap hq0]; rfl
 have he := strEq r.nm name
 go_enter Tryz.func57, Tryz.ntmps57
 go_upto_region 1 with (fail)
 generalize w.alloc (.cells #[.string r.nm, .string r.pt, .bool r.sk] 28) = X at *
 obtain ⟨b, hb⟩ : ∃ b, decide (r.nm = name) = b := ⟨_, rfl⟩
 rw [hb] at he
 have HB : Hid (decide (r.nm = name) = b) := hb
 clear hq0 hb
 go_wp2_with fail
 go_ret
 exact ⟨by rw [HB.out]; rfl, hk0⟩
set_option maxRecDepth 100000 in
set_option maxHeartbeats 2000000 in
theorem indexRul_any (rs : List Rul) (name : ByteArray) (n g o c bn : Nat) (hn : n ≤ rs.length) (h8 : n ≤ 8) (w : World) (hc : RuC w g o rs) (hbn : w.cell? ⟨bn, 0, none⟩ = some (.string name)) :
    Calls Tryz.prog 93 #[.slice (some ⟨g, o, none⟩) n c, .func (.func 57) #[] #[.pointer (some ⟨bn, 0, none⟩)]] w fun e w' => ∃ z : Int, e = .returned (.int .i64 z) ∧ ((0 ≤ z ∧ ¬ Fresh rs n name) ∨ (z < 0 ∧ Fresh rs n name)) ∧ Keeps [] w w' := by
 have hcf := cf_chk1
 have h8' : (n : Int) ≤ 8 := by omega
 have HL : Hid (n ≤ rs.length) := hn
 go_enter Tryz.func93, Tryz.ntmps93
 clear hn h8
 go_wp2_with fail
 go_loopw [5, 8] (fun _ q wr => ∃ k : Nat, k ≤ n ∧ q = .int .i64 k ∧ Hid (Fresh rs k name) ∧ Keeps [] w wr) (fun _ q _ => n - (intOf q).toNat)
 case atStart => exact ⟨0, Nat.zero_le _, rfl, fun d z h => by omega, Keeps.refl _ _⟩
 case round =>
  obtain ⟨k, hk, rfl, HA, hK⟩ := hrel
  by_cases hlt : k < n
  ·obtain ⟨r, hr⟩ : ∃ r, rs[k]? = some r := ⟨_, List.getElem?_eq_getElem (by have := HL.out; omega)⟩
   have hrg := (hc.keep hK (by simp)) k r hr
   have hC := chk1_any r name bn wr (keep_cell hK hbn)
   have hk0 : (0 : Int) ≤ (k : Int) := by omega
   have hk1 : (k : Int) < (n : Int) := by omega
   have HK : Hid (k < n) := hlt
   have HY : Hid (rs[k]? = some r) := hr
   have hi2 : (Tryz.prog.info? 28).map (·.size) = some 3 := by kernel_rfl
   clear hk hlt hr
   go_wp2_with (first | (refine wpList_load_mid rfl 28 _ rfl g (o + k * 3) rfl _ _ hrg Tryz.underlying28 rfl hi2 ?_))
   refine hC.mono ?_
   rintro e w2 ⟨rfl, hk2⟩
   have hK2 := hK.trans hk2
   by_cases hb : r.nm = name
   ·have HM : Hid (¬ Fresh rs n name) := fun h => h k r HK.out HY.out hb
    have e1 : decide (r.nm = name) = true := by simp [hb]
    rw [e1]
    clear hC hb e1
    go_wp2_with fail
    go_ret
    exact ⟨k, rfl, Or.inl ⟨by omega, HM.out⟩, hK2⟩
   ·have HA2 : Hid (Fresh rs (k + 1) name) := fun d q hd hq => by
       by_cases e : d < k
       ·exact HA.out d q e hq
       ·have : d = k := by omega
        subst this
        have h := HY.out
        rw [h] at hq
        cases hq
        exact hb
    have e1 : decide (r.nm = name) = false := by simp [hb]
    rw [e1]
    clear hC hb e1
    go_wp2_with fail
    exact ⟨⟨k + 1, HK.out, by go_num, HA2.out, hK2⟩, by have := HK.out; simp [intOf]; omega⟩
  ·have he : k = n := by omega
   subst he
   clear hk hlt
   go_wp2_with fail
   go_ret
   exact ⟨-1, rfl, Or.inr ⟨by decide, HA.out⟩, hK⟩
set_option maxRecDepth 100000 in
set_option maxHeartbeats 2000000 in
theorem containsRul_any (rs : List Rul) (name : ByteArray) (n g o c bn : Nat) (hn : n ≤ rs.length) (h8 : n ≤ 8) (w : World) (hc : RuC w g o rs) (hbn : w.cell? ⟨bn, 0, none⟩ = some (.string name)) :
    Calls Tryz.prog 56 #[.slice (some ⟨g, o, none⟩) n c, .func (.func 57) #[] #[.pointer (some ⟨bn, 0, none⟩)]] w fun e w' => ∃ b, e = .returned (.bool b) ∧ (b = false ↔ Fresh rs n name) ∧ Keeps [] w w' := by
 have HC : Hid (∀ w, RuC w g o rs → w.cell? ⟨bn, 0, none⟩ = some (.string name) → Calls Tryz.prog 93 #[.slice (some ⟨g, o, none⟩) n c, .func (.func 57) #[] #[.pointer (some ⟨bn, 0, none⟩)]] w fun e w' => ∃ z : Int, e = .returned (.int .i64 z) ∧ ((0 ≤ z ∧ ¬ Fresh rs n name) ∨ (z < 0 ∧ Fresh rs n name)) ∧ Keeps [] w w') := fun w => indexRul_any rs name n g o c bn hn h8 w
 go_enter Tryz.func56, Tryz.ntmps56
 clear hn h8
 go_wp2_with fail
 refine (HC.out w hc hbn).mono ?_
 rintro e w1 ⟨z, rfl, hz, hk1⟩
 rcases hz with ⟨hz, hF⟩ | ⟨hz, hF⟩
 ·have HF : Hid (¬ Fresh rs n name) := hF
  have e1 : decide ((0 : Int) ≤ z) = true := by simpa using hz
  clear hF HC
  go_wp2_with fail
  go_ret
  exact ⟨true, rfl, ⟨(nomatch ·), fun h => absurd h HF.out⟩, hk1⟩
 ·have HF : Hid (Fresh rs n name) := hF
  have e1 : decide ((0 : Int) ≤ z) = false := by simpa using hz
  have e2 : ¬ (0 : Int) ≤ z := by omega
  clear hF HC
  go_wp2_with fail
  go_ret
  exact ⟨false, rfl, ⟨fun _ => HF.out, fun _ => rfl⟩, hk1⟩
set_option maxRecDepth 100000 in
set_option maxHeartbeats 2000000 in
theorem checkName_any (rs : List Rul) (name : ByteArray) (n g o c : Nat) (hn : n ≤ rs.length) (h8 : n ≤ 8) (w : World) (hc : RuC w g o rs) :
    Calls Tryz.prog 29 #[.string name, .slice (some ⟨g, o, none⟩) n c] w fun e w' => ∃ z : Int, e = .returned (.int .i64 z) ∧ ((¬ NameOk name ∧ z = 4) ∨ (NameOk name ∧ ¬ Fresh rs n name ∧ z = 5) ∨ (NameOk name ∧ Fresh rs n name ∧ z = 0)) ∧ Keeps [] w w' := by
 have hq0 : (w.alloc (.cells #[.string name] 9)).heap[w.heap.size]? = some (.cells #[.string name] 9 (0, 0)) := heap_alloc_new w _
 have hk0 : Keeps [] w (w.alloc (.cells #[.string name] 9)) := (Keeps.refl [] w).alloc _
 have hn0 : (w.alloc (.cells #[.string name] 9)).cell? ⟨w.heap.size, 0, none⟩ = some (.string name) := by rw [Lib.cell_of_heap hq0]; rfl
 have HC : Hid (∀ bn w, RuC w g o rs → w.cell? ⟨bn, 0, none⟩ = some (.string name) → Calls Tryz.prog 56 #[.slice (some ⟨g, o, none⟩) n c, .func (.func 57) #[] #[.pointer (some ⟨bn, 0, none⟩)]] w fun e w' => ∃ b, e = .returned (.bool b) ∧ (b = false ↔ Fresh rs n name) ∧ Keeps [] w w') := fun bn w => containsRul_any rs name n g o c bn hn h8 w
 have hc0 := hc.keep hk0 (by simp)
 go_enter Tryz.func29, Tryz.ntmps29
 clear hn h8 hc
 go_upto_region 1 with (fail)
 generalize w.alloc (.cells #[.string name] 9) = X at *
 obtain ⟨bn, hbn⟩ : ∃ b, w.heap.size = b := ⟨_, rfl⟩
 rw [hbn] at hn0 ⊢
 clear hq0 hbn
 go_wp2_with fail
 refine (isName_any name X).mono ?_
 rintro e w1 ⟨b, rfl, hb, hk1⟩
 have hkA := hk0.trans hk1
 have hc1 := hc0.keep hk1 (by simp)
 have hn1 := keep_cell hk1 hn0
 cases b with
 | false =>
  have HN : Hid (¬ NameOk name) := fun h => by have := hb.2 h; cases this
  clear hb hk1 hk0 hc0 hn0 HC
  go_wp2_with fail
  go_ret
  exact ⟨4, rfl, Or.inl ⟨HN.out, rfl⟩, hkA⟩
 | true =>
  have HN : Hid (NameOk name) := hb.1 rfl
  clear hb hk1 hk0 hc0 hn0
  go_wp2_with fail
  refine (HC.out bn w1 hc1 hn1).mono ?_
  rintro e w2 ⟨b2, rfl, hb2, hk2⟩
  have hkB := hkA.trans hk2
  cases b2 with
  | false =>
   have HF : Hid (Fresh rs n name) := hb2.1 rfl
   clear hb2 hkA hk2 hc1 hn1 HC
   go_wp2_with fail
   go_ret
   exact ⟨0, rfl, Or.inr (Or.inr ⟨HN.out, HF.out, rfl⟩), hkB⟩
  | true =>
   have HF : Hid (¬ Fresh rs n name) := fun h => by have := hb2.2 h; cases this
   clear hb2 hkA hk2 hc1 hn1 HC
   go_wp2_with fail
   go_ret
   exact ⟨5, rfl, Or.inr (Or.inl ⟨HN.out, HF.out, rfl⟩), hkB⟩
end Go.Proofs.YtnfojonmohijpabGreatDoor
