/-
  DERIVED. The contract of the program's reader of a way's place in a tree. Conditions: the place is within the text, the text is at most 20000 bytes long.
-/
import Derived.Test.YtnfojonmohijpaaGreatDoorJMC
import Derived.Deep.AppendLies
set_option linter.unusedSimpArgs false
set_option linter.unusedVariables false
namespace Go.Proofs.YtnfojonmohijpaaGreatDoor
open Go.RowKit
def wpR (p : US) : R Nat := if digB p.cur = true then .ok (plN p.s p.ix) (plE p.s p.ix) else .bad p.ix
theorem utake_dig (b : Nat) (p : US) (w : World) (hp : UB w b p) (hs : p.s.size ≤ 20000) (hle : p.ix ≤ p.s.size) :
    Calls Tryz.prog 218 #[.pointer (some ⟨b, 0, none⟩), .func (.func 236) #[] #[]] w (UPB b p w (if digB p.cur = true then .ok p.cur (p.ix + 1) else .bad p.ix)) := by
 refine utake_may b p 236 #[] (digB p.cur) w hp hs hle (fun h => may_isDigit w) _ ?_
 by_cases h : digB p.cur = true
 ·rw [if_pos h, if_pos ⟨by simp [digB] at h; omega, h⟩]
 ·rw [if_neg h, if_neg (fun e => h e.2)]
def WPI (p : US) (m j : Nat) : Prop := (m = (p.cur - 48).toNat ∧ j = p.ix + 1) ∨ (plD p.s p.ix ∧ m = plN p.s p.ix ∧ j = p.ix + 2)
theorem grN_ge (p : US) {n : Nat} (h : 6 ≤ n) : 60 ≤ grN p n := by unfold grN; split <;> omega
set_option maxRecDepth 100000 in
set_option maxHeartbeats 2000000 in
theorem wayPlace_any (b : Nat) (p : US) (w : World) (hp : UB w b p) (hs : p.s.size ≤ 20000) (hle : p.ix ≤ p.s.size) :
    Calls Tryz.prog 259 #[.pointer (some ⟨b, 0, none⟩)] w (UPN b p w (wpR p)) := by
 have hT := utake_dig b p w hp hs hle
 unfold wpR
 by_cases hd : digB p.cur = true
 ·rw [if_pos hd] at hT ⊢
  have hc : 48 ≤ p.cur ∧ p.cur ≤ 57 := by simpa [digB] using hd
  have hlt : p.ix < p.s.size := at'_nn (by show 0 ≤ p.cur; omega)
  obtain ⟨a, haa⟩ : ∃ a : Nat, p.cur = ((48 + a : Nat) : Int) := ⟨(p.cur - 48).toNat, by omega⟩
  have HA : Hid (p.cur = ((48 + a : Nat) : Int)) := haa
  rw [haa] at hT
  have ha9 : (a : Int) ≤ 9 := by omega
  have ha0 : (0 : Int) ≤ (a : Int) := by omega
  have HL : Hid (p.ix < p.s.size) := hlt
  have HD : Hid (digB p.cur = true) := hd
  clear hd hc haa hlt
  go_enter Tryz.func259, Tryz.ntmps259
  go_upto_region 2 with (first | (go_at_call 218; refine hT.mono ?_; rintro e w1 ⟨hk1, rfl, hq1⟩))
  go_loopw [3] (fun q wr => ∃ m j : Nat, q = .int .i64 m ∧ WPI p m j ∧ m ≤ 59 ∧ j ≤ p.s.size ∧ UB wr b { p with ix := j } ∧ Keeps [b] w wr) (fun q _ => 10 - (intOf q).toNat)
  case atStart => exact ⟨a, p.ix + 1, by first | rfl | go_num, Or.inl ⟨by have := HA.out; omega, rfl⟩, by omega, HL.out, hq1, hk1⟩
  case round =>
   obtain ⟨m, j, rfl, hI, hm, hj, hq, hk⟩ := hrel
   have hmi : (m : Int) ≤ 59 := by omega
   have hm0 : (0 : Int) ≤ (m : Int) := by omega
   have hG := growsTo_any b { p with ix := j } m hm wr hq hs hj
   have HI : Hid (WPI p m j) := hI
   by_cases hz : m = 0
   ·subst hz
    have hR : plN p.s p.ix = 0 ∧ plE p.s p.ix = j := by
     have hh := HA.out
     have hcur : at' p.s p.ix = ((48 + a : Nat) : Int) := hh
     rcases hI with ⟨h1, h2⟩ | ⟨h1, h2, _⟩
     ·have hn : ¬ plD p.s p.ix := by intro h; have := h.1; omega
      unfold plN plE
      rw [if_neg hn, if_neg hn]
      omega
     ·exfalso
      have := h1.1
      unfold plN at h2
      rw [if_pos h1] at h2
      omega
    have HR : Hid (plN p.s p.ix = 0 ∧ plE p.s p.ix = j) := hR
    clear hR hI hG
    go_wp2_with fail
    go_ret
    exact ⟨hk, ret_int (by have := HR.out.1; omega), by rw [HR.out.2]; exact hq⟩
   ·have hmp : (0 : Int) < (m : Int) := by omega
    by_cases hg : grN { p with ix := j } m ≤ 59
    ·have h6 : m < 6 := by
        rcases Nat.lt_or_ge m 6 with h | h
        ·exact h
        ·have := grN_ge { p with ix := j } h; omega
     have hX : plD p.s p.ix ∧ grN { p with ix := j } m = plN p.s p.ix ∧ j = p.ix + 1 ∧ 10 ≤ plN p.s p.ix := by
      have hh := HA.out
      have hcur : at' p.s p.ix = ((48 + a : Nat) : Int) := hh
      rcases hI with ⟨h1, h2⟩ | ⟨h1, h2, _⟩
      ·have hcu : p.cur = at' p.s p.ix := rfl
       rw [hcu] at h1
       subst h2
       have hdj : digB (at' p.s (p.ix + 1)) = true := by
        unfold grN at hg
        split at hg
        ·assumption
        ·omega
       have hD : plD p.s p.ix := ⟨by omega, by omega, hdj⟩
       refine ⟨hD, ?_, rfl, ?_⟩
       ·unfold grN plN
        rw [if_pos hD]
        have : digB (US.cur { p with ix := p.ix + 1 }) = true := hdj
        rw [if_pos this, h1]
        show _ * 10 + (at' p.s (p.ix + 1) - 48).toNat = _
        omega
       ·unfold plN
        rw [if_pos hD]
        omega
      ·exfalso
       have := h1.1
       unfold plN at h2
       rw [if_pos h1] at h2
       omega
     obtain ⟨hD, hv, rfl, h10⟩ := hX
     rw [hv] at hG hg
     have hdj := hD.2.2
     have hT2 := fun w1 (h : UB w1 b { p with ix := p.ix + 1 }) => utake_dig b { p with ix := p.ix + 1 } w1 h hs hj
     have hcj : US.cur { p with ix := p.ix + 1 } = at' p.s (p.ix + 1) := rfl
     simp only [hcj, if_pos hdj] at hT2
     have hgi : (plN p.s p.ix : Int) ≤ 59 := by omega
     have hG2 := fun w1 (h : UB w1 b { p with ix := p.ix + 1 }) => growsTo_any b { p with ix := p.ix + 1 } m hm w1 h hs hj
     simp only [hv] at hG2
     have HX : Hid (plD p.s p.ix ∧ plN p.s p.ix ≤ 59 ∧ 10 ≤ plN p.s p.ix ∧ p.ix + 2 ≤ p.s.size ∧ m < 10) := ⟨hD, hg, h10, by
       have : p.ix + 1 < p.s.size := at'_nn (by simp [digB] at hdj; omega)
       omega, by omega⟩
     have HT2 : Hid (∀ w1, UB w1 b { p with ix := p.ix + 1 } → Calls Tryz.prog 218 #[.pointer (some ⟨b, 0, none⟩), .func (.func 236) #[] #[]] w1 (UPB b { p with ix := p.ix + 1 } w1 (.ok (at' p.s (p.ix + 1)) (p.ix + 1 + 1)))) := hT2
     have HG2 : Hid (∀ w1, UB w1 b { p with ix := p.ix + 1 } → Calls Tryz.prog 280 #[.pointer (some ⟨b, 0, none⟩), .int .i64 m] w1 fun e w' => e = .returned (.int .i64 (plN p.s p.ix : Nat)) ∧ UB w' b { p with ix := p.ix + 1 } ∧ Keeps [] w1 w') := hG2
     clear hI hT2 hG2 hD hv hdj hG h10 hcj hz hg h6
     generalize hpl : plN p.s p.ix = N at *
     go_wp2_with (first
       | (go_at_call 280; refine (HG2.out _ hq2).mono ?_; rintro e w3 ⟨rfl, hq3, hk3⟩)
       | (go_at_call 280; refine (HG2.out _ hq).mono ?_; rintro e w2 ⟨rfl, hq2, hk2⟩)
       | (go_at_call 218; refine (HT2.out _ hq3).mono ?_; rintro e w4 ⟨hk4, rfl, hq4⟩))
     exact ⟨⟨N, p.ix + 1 + 1, rfl, Or.inr ⟨HX.out.1, hpl.symm, rfl⟩, HX.out.2.1, HX.out.2.2.2.1, hq4, ((hk.trans (hk2.mono (by simp))).trans (hk3.mono (by simp))).trans hk4⟩, by have := HX.out; simp [intOf]; omega⟩
    ·have hR : plN p.s p.ix = m ∧ plE p.s p.ix = j := by
        have hh := HA.out
        have hcur : at' p.s p.ix = ((48 + a : Nat) : Int) := hh
        rcases hI with ⟨h1, h2⟩ | ⟨h1, h2, h3⟩
        ·have hcu : p.cur = at' p.s p.ix := rfl
         rw [hcu] at h1
         subst h2
         have hn : ¬ plD p.s p.ix := by
          intro h
          apply hg
          unfold grN
          have : digB (US.cur { p with ix := p.ix + 1 }) = true := h.2.2
          have h5 := h.2.1
          have h7 := h.2.2
          simp [digB] at h7
          rw [if_pos this]
          show _ * 10 + (at' p.s (p.ix + 1) - 48).toNat ≤ 59
          omega
         unfold plN plE
         rw [if_neg hn, if_neg hn]
         exact ⟨h1.symm, rfl⟩
        ·refine ⟨h2.symm, ?_⟩
         unfold plE
         rw [if_pos h1, h3]
     have HR : Hid (plN p.s p.ix = m ∧ plE p.s p.ix = j) := hR
     generalize grN { p with ix := j } m = v at hG hg
     have hvg : ¬ (v : Int) ≤ 59 := by omega
     clear hR hI hg hz
     go_wp2_with (first | (go_at_call 280; refine hG.mono ?_; rintro e w2 ⟨rfl, hq2, hk2⟩))
     go_ret
     exact ⟨hk.trans (hk2.mono (by simp)), ret_int (by have := HR.out.1; omega), by rw [HR.out.2]; exact hq2⟩
 ·rw [if_neg hd] at hT ⊢
  clear hd
  go_enter Tryz.func259, Tryz.ntmps259
  go_wp2_with (first | (go_at_call 218; refine hT.mono ?_; rintro e w1 ⟨hk, rfl⟩; simp only [fault]))
  exact ⟨rfl, hk, rfl⟩
end Go.Proofs.YtnfojonmohijpaaGreatDoor
namespace Go.Proofs.YtnfojonmohijpaaGreatDoor
open Go.RowKit
inductive TV (w : World) (S : Nat → Prop) : Bool → Tr → List Value → Prop
 | tnil : TV w S true .tnil [.int .u8 101, .int .i64 0, .slice none 0 0]
 | tbyte (b : Nat) : b < 256 → TV w S true (.tbyte b) [.int .u8 98, .int .i64 b, .slice none 0 0]
 | tgrp (k : Nat) (x : Tr) (v : Value) (cs : List Value) : k ≤ 9 → TV w S true x cs → w.ownsRow 0 88 3 v 1 cs → (∀ g, v.ownBlock = some g → S g) → TV w S true (.tgrp k x) [.int .u8 103, .int .i64 k, v]
 | talt (p : Nat) (x : Tr) (v : Value) (cs : List Value) : TV w S true x cs → w.ownsRow 0 88 3 v 1 cs → (∀ g, v.ownBlock = some g → S g) → TV w S true (.talt p x) [.int .u8 97, .int .i64 p, v]
 | tser (l : Tr) (v : Value) (n : Nat) (cs : List Value) : TV w S false l cs → w.ownsRow 0 88 3 v n cs → (∀ g, v.ownBlock = some g → S g) → TV w S true (.tser l) [.int .u8 115, .int .i64 0, v]
 | trep (l : Tr) (v : Value) (n : Nat) (cs : List Value) : TV w S false l cs → w.ownsRow 0 88 3 v n cs → (∀ g, v.ownBlock = some g → S g) → TV w S true (.trep l) [.int .u8 114, .int .i64 0, v]
 | lnil : TV w S false .lnil []
 | lcons (x r : Tr) (cs ds : List Value) : TV w S true x cs → TV w S false r ds → TV w S false (.lcons x r) (cs ++ ds)
theorem TV.keep {w w' : World} {S : Nat → Prop} {L : List Nat} {b : Bool} {t : Tr} {cs : List Value} (h : TV w S b t cs) (hk : Keeps L w w') (hs : ∀ g, S g → g ∉ L) : TV w' S b t cs := by
 induction h with
 | tnil => exact .tnil
 | tbyte b hb => exact .tbyte b hb
 | tgrp k x v cs h9 _ ho hp ih => exact .tgrp k x v cs h9 ih (ho.keep hk fun g hg => hs g (hp g hg)) hp
 | talt p x v cs _ ho hp ih => exact .talt p x v cs ih (ho.keep hk fun g hg => hs g (hp g hg)) hp
 | tser l v n cs _ ho hp ih => exact .tser l v n cs ih (ho.keep hk fun g hg => hs g (hp g hg)) hp
 | trep l v n cs _ ho hp ih => exact .trep l v n cs ih (ho.keep hk fun g hg => hs g (hp g hg)) hp
 | lnil => exact .lnil
 | lcons x r cs ds _ _ i1 i2 => exact .lcons x r cs ds i1 i2
theorem TV.mono {w : World} {S S' : Nat → Prop} {b : Bool} {t : Tr} {cs : List Value} (h : TV w S b t cs) (hs : ∀ g, S g → g < w.heap.size → S' g) : TV w S' b t cs := by
 have hb : ∀ {e : TypeId} {size : Nat} {v : Value} {n : Nat} {xs : List Value}, w.ownsRow 0 e size v n xs → (∀ g, v.ownBlock = some g → S g) → ∀ g, v.ownBlock = some g → S' g := fun ho hp g hg => hs g (hp g hg) (ho.lt g hg).2
 induction h with
 | tnil => exact .tnil
 | tbyte b hb => exact .tbyte b hb
 | tgrp k x v cs h9 _ ho hp ih => exact .tgrp k x v cs h9 ih ho (hb ho hp)
 | talt p x v cs _ ho hp ih => exact .talt p x v cs ih ho (hb ho hp)
 | tser l v n cs _ ho hp ih => exact .tser l v n cs ih ho (hb ho hp)
 | trep l v n cs _ ho hp ih => exact .trep l v n cs ih ho (hb ho hp)
 | lnil => exact .lnil
 | lcons x r cs ds _ _ i1 i2 => exact .lcons x r cs ds i1 i2
theorem TV.form {w : World} {S : Nat → Prop} {t : Tr} {cs : List Value} (h : TV w S true t cs) : ∃ (k n : Nat) (va : Option Addr) (vn vc : Nat), cs = [.int .u8 k, .int .i64 n, .slice va vn vc] := by
 cases h with
 | tnil => exact ⟨101, 0, none, 0, 0, rfl⟩
 | tbyte b hb => exact ⟨98, b, none, 0, 0, rfl⟩
 | tgrp k x v cs _ _ ho => obtain ⟨a, b, c, rfl⟩ := ownsRow_sl ho; exact ⟨103, k, a, b, c, rfl⟩
 | talt p x v cs _ ho => obtain ⟨a, b, c, rfl⟩ := ownsRow_sl ho; exact ⟨97, p, a, b, c, rfl⟩
 | tser l v n cs _ ho => obtain ⟨a, b, c, rfl⟩ := ownsRow_sl ho; exact ⟨115, 0, a, b, c, rfl⟩
 | trep l v n cs _ ho => obtain ⟨a, b, c, rfl⟩ := ownsRow_sl ho; exact ⟨114, 0, a, b, c, rfl⟩
def lapp : List Tr → Tr → Tr
 | [], u => u
 | t :: l, u => .lcons t (lapp l u)
theorem lapp_snoc (l : List Tr) (t u : Tr) : lapp (l ++ [t]) u = lapp l (.lcons t u) := by
 induction l with
 | nil => rfl
 | cons a l ih => simp only [List.cons_append, lapp, ih]
theorem lapp_app (l m : List Tr) (u : Tr) : lapp (l ++ m) u = lapp l (lapp m u) := by
 induction l with
 | nil => rfl
 | cons a l ih => simp only [List.cons_append, lapp, ih]
theorem TV.snoc {w : World} {S : Nat → Prop} {t : Tr} {ds : List Value} (ht : TV w S true t ds) : ∀ {l : List Tr} {cs : List Value}, TV w S false (lapp l .lnil) cs → TV w S false (lapp (l ++ [t]) .lnil) (cs ++ ds)
 | [], cs, h => by
  cases h with
  | lnil =>
   have := TV.lcons t .lnil ds [] ht .lnil
   simpa [lapp] using this
 | x :: l, cs, h => by
  cases h with
  | lcons _ _ a b h1 h2 =>
   rw [List.append_assoc]
   exact .lcons x _ a _ h1 (TV.snoc ht h2)
theorem TV.app {w : World} {S : Nat → Prop} {m : List Tr} {ds : List Value} (hm : TV w S false (lapp m .lnil) ds) : ∀ {l : List Tr} {cs : List Value}, TV w S false (lapp l .lnil) cs → TV w S false (lapp (l ++ m) .lnil) (cs ++ ds)
 | [], cs, h => by
  cases h with
  | lnil => simpa using hm
 | x :: l, cs, h => by
  cases h with
  | lcons _ _ a b h1 h2 =>
   rw [List.append_assoc]
   exact .lcons x _ a _ h1 (TV.app hm h2)
def isW : Pat → Prop
 | .wone _ => True
 | .wcons _ r => isW r
 | _ => False
def isP : Pat → Prop
 | .pnil => True
 | .pcons _ r => isP r
 | _ => False
end Go.Proofs.YtnfojonmohijpaaGreatDoor
namespace Go.Proofs.YtnfojonmohijpaaGreatDoor
open Go.RowKit
theorem info3 (a b c : Value) : (Tryz.prog.info? 88).map (·.size) = some (#[a, b, c] : Array Value).size := by kernel_rfl
theorem all3 {a b c : Value} (ha : a.oneCell' = true) (hb : b.oneCell' = true) (hc : c.oneCell' = true) : (#[a, b, c] : Array Value).all (·.oneCell') = true := by simp [ha, hb, hc]
end Go.Proofs.YtnfojonmohijpaaGreatDoor
namespace Go.Proofs.YtnfojonmohijpaaGreatDoor
open Go.RowKit
theorem infoTree : (Tryz.prog.info? 88).map (fun i => (i.zero, i.size, i.bytes)) = some (some (.agg #[.int .u8 0, .int .i64 0, .slice none 0 0]), 3, 40) := by kernel_rfl
theorem rangeAll {w : World} {g : Nat} {cs : List Value} {T : TypeId} {fr : Nat × Nat} (h : w.heap[g]? = some (.cells cs.toArray T fr)) : w.rangeAt g 0 cs := by
 intro j v hv
 rw [Lib.cell_of_heap h, List.getElem?_toArray, Nat.zero_add]
 exact hv
theorem ownsRow_lenT {w : World} {e : TypeId} {size n : Nat} {va : Option Addr} {vn vc : Nat} {cs : List Value} (h : w.ownsRow 0 e size (.slice va vn vc) n cs) : vn = n := by
 rcases h.2 with ⟨e, e2⟩ | ⟨g, cap, cur, e, _⟩
 ·cases e; exact e2.symm
 ·cases e; rfl
theorem TV.lone {w : World} {S : Nat → Prop} {t : Tr} {cs : List Value} (h : TV w S true t cs) : TV w S false (lapp [t] .lnil) cs := by
 have := TV.lcons t .lnil cs [] h .lnil
 simpa [lapp] using this
end Go.Proofs.YtnfojonmohijpaaGreatDoor
namespace Go.Proofs.YtnfojonmohijpaaGreatDoor
open Go.RowKit
def UTh (b : Nat) (p : US) (w : World) (q : R Tr) (e : Ending) (w' : World) : Prop :=
 match q with
 | .bad j => e = fault j ∧ Keeps [b] w w'
 | .ok t j => ∃ cs, e = .returned (.agg cs.toArray) ∧ TV w' (fun g => w.heap.size ≤ g) true t cs ∧ UB w' b { p with ix := j } ∧ Keeps [b] w w'
def ThingOk (s : ByteArray) (n : Nat) : Prop := ∀ (b : Nat) (p : US) (w : World), p.s = s → UB w b p → p.ix ≤ s.size → s.size - p.ix < n → p.op ≤ 60 → Calls Tryz.prog 132 #[.pointer (some ⟨b, 0, none⟩)] w fun e w' => ∃ q, TG s .thing p.op p.ix q ∧ UTh b p w q e w'
def muU (w : World) (b : Nat) : Nat := 20002 - (cellInt w b 1).toNat
theorem muU_eq {w : World} {b : Nat} {p : US} (hp : UB w b p) : muU w b = 20002 - p.ix := by
 have h := hp.main.2.1
 simp [muU, cellInt, h, intOf]
structure GU (b : Nat) (X wr : World) (v : Value) (ts : List Tr) (cs : List Value) : Prop where
 own : wr.ownsRow 0 88 3 v ts.length cs
 fresh : ∀ g, v.ownBlock = some g → X.heap.size ≤ g
 tv : TV wr (fun g => X.heap.size ≤ g ∧ v.ownBlock ≠ some g) false (lapp ts .lnil) cs
 keep : Keeps [b] X wr
 old : b < X.heap.size
theorem GU.start (b : Nat) (X : World) (hb : b < X.heap.size) : GU b X X (.slice none 0 0) [] [] := ⟨World.ownsRow_nil _ _ _ _, by simp [Value.ownBlock], .lnil, Keeps.refl _ _, hb⟩
theorem GU.keeps {b : Nat} {X wr w' : World} {v : Value} {ts : List Tr} {cs : List Value} (h : GU b X wr v ts cs) (hk : Keeps [b] wr w') : GU b X w' v ts cs :=
 ⟨h.own.keep hk (fun g hg => by have := h.fresh g hg; have := h.old; simp; omega), h.fresh, h.tv.keep hk (fun g hg => by have := hg.1; have := h.old; simp; omega), h.keep.trans hk, h.old⟩
theorem GU.add {b : Nat} {X w0 w3 w4 : World} {v : Value} {ts ms : List Tr} {cs ds : List Value} {g' cap : Nat} (h : GU b X w3 v ts cs) (hm : TV w3 (fun z => w0.heap.size ≤ z) false (lapp ms .lnil) ds) (hX : X.heap.size ≤ w0.heap.size) (hv : ∀ g, v.ownBlock = some g → g < w0.heap.size)
    (hown : w4.ownsRow 0 88 3 (.slice (some ⟨g', 0, none⟩) (ts.length + ms.length) cap) (ts.length + ms.length) (cs ++ ds)) (hgrow : w3.grownBy w4 v.ownBlock) (hat : v.ownBlock = some g' ∨ g' = w3.heap.size) :
    GU b X w4 (.slice (some ⟨g', 0, none⟩) (ts.length + ms.length) cap) (ts ++ ms) (cs ++ ds) := by
 have hk4 : Keeps v.ownBlock.toList w3 w4 := Keeps.ofGrown hgrow
 have hnew : ∀ z, v.ownBlock ≠ some z → z < w3.heap.size → (Value.slice (some ⟨g', 0, none⟩) (ts.length + ms.length) cap).ownBlock ≠ some z := by
  intro z hz hz2 e
  simp only [Value.ownBlock, Option.some.injEq] at e
  subst e
  rcases hat with e | e
  ·exact hz e
  ·omega
 have hmem : ∀ z, v.ownBlock ≠ some z → z ∉ v.ownBlock.toList := by
  intro z hz hm
  rw [Option.mem_toList] at hm
  exact hz hm
 have hno : ∀ q, w0.heap.size ≤ q → v.ownBlock ≠ some q := by
  intro q hq e
  have := hv q e
  omega
 have hs := h.keep.size
 refine ⟨by rw [List.length_append]; exact hown, ?_, ?_, ?_, h.old⟩
 ·intro z hz
  simp only [Value.ownBlock, Option.some.injEq] at hz
  subst hz
  rcases hat with e | e
  ·exact h.fresh _ e
  ·omega
 ·refine TV.app ?_ ?_
  ·exact ((hm.mono (S' := fun q => w0.heap.size ≤ q ∧ q < w3.heap.size) fun q hq hq2 => ⟨hq, hq2⟩).keep hk4 fun q hq => hmem q (hno q hq.1)).mono fun q hq _ => ⟨by omega, hnew q (hno q hq.1) hq.2⟩
  ·exact ((h.tv.mono (S' := fun q => (X.heap.size ≤ q ∧ v.ownBlock ≠ some q) ∧ q < w3.heap.size) fun q hq hq2 => ⟨hq, hq2⟩).keep hk4 fun q hq => hmem q hq.1.2).mono fun q hq _ => ⟨hq.1.1, hnew q hq.1.2 hq.2⟩
 ·exact keepsM h.keep hk4 (by intro z hz; rw [Option.mem_toList] at hz; exact Or.inr (h.fresh z hz))
theorem GU.row {b : Nat} {X wr : World} {v : Value} {ts : List Tr} {cs : List Value} (h : GU b X wr v ts cs) : TV wr (fun g => X.heap.size ≤ g) false (lapp ts .lnil) cs := h.tv.mono fun z hz _ => hz.1
def URow (b : Nat) (p : US) (X : World) (ts : List Tr) (q : R Tr) (e : Ending) (w' : World) : Prop :=
 match q with
 | .bad j => e = fault j ∧ Keeps [b] X w'
 | .ok l j => ∃ v ms cs, e = .returned v ∧ l = lapp ms .lnil ∧ GU b X w' v (ts ++ ms) cs ∧ UB w' b { p with ix := j }
theorem map_lapp_snoc (q : R Tr) (ts : List Tr) (t : Tr) : (q.map (.lcons t)).map (lapp ts) = q.map (lapp (ts ++ [t])) := by
 cases q with
 | bad j => rfl
 | ok l j => simp only [R.map, lapp_snoc]
theorem map_lapp_nil (q : R Tr) : q.map (lapp []) = q := by cases q <;> rfl
set_option maxRecDepth 100000 in
set_option maxHeartbeats 4000000 in
theorem things_any (s : ByteArray) (hs : s.size ≤ 20000) (n : Nat) (IH : ThingOk s n) (b : Nat) (p : US) (k : Nat) (hk2 : k ≤ 2) (hps : p.s = s) (X w : World) (v : Value) (ts : List Tr) (cs : List Value) (hp : UB w b p) (hG : GU b X w v ts cs) (hts : ts.length ≤ 30000) (hle : p.ix ≤ s.size) (hn : s.size - p.ix ≤ n) (hop : p.op ≤ 60) :
    Calls Tryz.prog 258 #[.pointer (some ⟨b, 0, none⟩), .int .i64 k, v] w fun e w' => ∃ q, TG s (.row k false) p.op p.ix q ∧ URow b p X ts q e w' := by
 subst hps
 have hki : (k : Int) ≤ 2 := by omega
 have hk0 : (0 : Int) ≤ (k : Int) := by omega
 go_enter Tryz.func258, Tryz.ntmps258
 go_upto_region 2 with (fail)
 go_loopw [2, 8] (fun q2 q8 wr => ∃ (d j : Nat) (ms : List Tr) (ds : List Value), q8 = .int .i64 d ∧ d ≤ k ∧ ms.length = d ∧ GU b X wr q2 (ts ++ ms) ds ∧ UB wr b { p with ix := j } ∧ j ≤ p.s.size ∧ p.ix ≤ j ∧ ∀ q, TG p.s (.row (k - d) false) p.op j q → TG p.s (.row k false) p.op p.ix (q.map (lapp ms))) (fun _ q8 _ => k - (intOf q8).toNat)
 case atStart => exact ⟨0, p.ix, [], cs, rfl, Nat.zero_le _, rfl, by rw [List.append_nil]; exact hG, hp, hle, Nat.le_refl _, fun q h => by rw [map_lapp_nil]; exact h⟩
 case round =>
  obtain ⟨d, j, ms, ds, rfl, hd, hml, hGr, hpr, hj, hij, hsp⟩ := hrel
  have HSP : Hid (∀ q, TG p.s (.row (k - d) false) p.op j q → TG p.s (.row k false) p.op p.ix (q.map (lapp ms))) := hsp
  have hd0 : (0 : Int) ≤ (d : Int) := by omega
  clear hsp hp hG
  obtain ⟨us, hus⟩ : ∃ us, us = ts ++ ms := ⟨_, rfl⟩
  rw [← hus] at hGr
  have HU : Hid (us = ts ++ ms) := hus
  clear hus
  by_cases hlt : d < k
  ·have hdi : (d : Int) < (k : Int) := by omega
   have HD : Hid (d < k ∧ ms.length = d ∧ p.ix ≤ j ∧ j ≤ p.s.size) := ⟨hlt, hml, hij, hj⟩
   by_cases h32 : at' p.s j = 32
   ·have hE := uexpect_ok b { p with ix := j } 32 (by decide) wr hpr hs h32
    have hjl := at'_lt_of h32 (by decide)
    have HT : Hid (∀ w1, UB w1 b { p with ix := j + 1 } → Calls Tryz.prog 132 #[.pointer (some ⟨b, 0, none⟩)] w1 fun e w' => ∃ q, TG p.s .thing p.op (j + 1) q ∧ UTh b { p with ix := j + 1 } w1 q e w') := fun w1 h => IH b { p with ix := j + 1 } w1 rfl h (by simp only; omega) (by simp only; omega) hop
    have H32 : Hid (at' p.s j = 32) := h32
    clear h32 hlt hml hij hj hd hjl
    go_wp2_with (first | (go_at_call 221; refine hE.mono ?_; rintro e w1 ⟨rfl, hq1, hk1⟩))
    refine (HT.out w1 hq1).mono ?_
    rintro e w2 ⟨q, hTG, hU⟩
    cases q with
    | bad j' =>
     obtain ⟨rfl, hk2'⟩ := hU
     simp only [fault]
     exact ⟨rfl, _, HSP.out _ (.bad _ _ _ _ _ (Or.inl (by have := HD.out; omega)) H32.out hTG), rfl, (hGr.keep.trans hk1).trans hk2'⟩
    | ok t j' =>
     obtain ⟨tcs, rfl, htv, hq2, hk2'⟩ := hU
     obtain ⟨k1, n1, ta, tn, tc, rfl⟩ := htv.form
     have G2 := hGr.keeps hk1
     have G3 := G2.keeps hk2'
     obtain ⟨xa1, xn1, xc1, rfl⟩ := ownsRow_sl hGr.own
     have HTG : Hid (TG p.s .thing p.op (j + 1) (.ok t j')) := hTG
     have hbd := hTG.bd (by have := at'_lt_of H32.out (by decide); omega)
     have HBD : Hid (j + 1 < j' ∧ j' ≤ p.s.size) := ⟨hbd.2.2 rfl, hbd.2.1⟩
     obtain ⟨i0, hi0, hz0, hz1, hz2⟩ := info_parts infoTree
     have hun := Tryz.underlying86
     have hL : us.length ≤ 30002 := by have := HD.out; have := HU.out; rw [this]; simp; omega
     have hlm : us.length + 1 ≤ maxLen := by unfold maxLen; omega
     have hbts : (us.length + 1) * 40 ≤ 140737488355328 := by omega
     have hH : (w2.alloc (.cells #[.int .u8 k1, .int .i64 n1, .slice ta tn tc] 88)).heap.size = w2.heap.size + 1 := by simp
     have hnews : ∀ j u, [Value.int .u8 k1, .int .i64 n1, .slice ta tn tc][j]? = some u → (w2.alloc (.cells #[.int .u8 k1, .int .i64 n1, .slice ta tn tc] 88)).cell? ((⟨w2.heap.size, 0, none⟩ : Addr).add j) = some u := World.news_of_block (cs := #[.int .u8 k1, .int .i64 n1, .slice ta tn tc]) (heap_alloc_new w2 _)
     have hk5 : Keeps [] w2 (w2.alloc (.cells #[.int .u8 k1, .int .i64 n1, .slice ta tn tc] 88)) := (Keeps.refl [] w2).alloc _
     have htv5 := (htv.keep hk5 (by simp)).lone
     have G4 := G3.keeps (hk5.mono (by simp))
     have hq4 := hq2.keep hk5 (by simp)
     have hvl3 : ∀ z, (Value.slice xa1 xn1 xc1).ownBlock = some z → z < w1.heap.size := fun z hz => (World.ownsRow.lt G2.own z hz).2
     have hX3 : X.heap.size ≤ w1.heap.size := G2.keep.size
     clear hbd hTG htv HT hE
     go_wp2_with (first | (at_builtin; refine wpList_append_lies _ rfl _ _ _ rfl 0 88 i0 _ 3 40 hun hi0 hz0 hz1 hz2 rfl (by decide) (.slice xa1 xn1 xc1) us.length ds rfl (G3.own.alloc _) ⟨w2.heap.size, 0, none⟩ 1 1 [.int .u8 k1, .int .i64 n1, .slice ta tn tc] rfl rfl hnews (by intro u hu; simp at hu; rcases hu with rfl | rfl | rfl <;> rfl) (by omega) hlm hbts (Nat.zero_le _) (w2.heap.size + 1) hH ?_))
     intro g' cap w6 hown6 hgrow hat hlt6
     have G6 := GU.add (w0 := w1) (ms := [t]) G4 htv5 hX3 hvl3 hown6 hgrow (by rw [hH]; exact hat)
     have hbx : b < X.heap.size := hGr.old
     have hq6 : UB w6 b { p with ix := j' } := hq4.keep (Keeps.ofGrown hgrow) (fun hm => by
       rw [Option.mem_toList] at hm
       have := hGr.fresh _ hm
       omega)
     clear hown6 hgrow hat hnews hH htv5 G4 G3 G2
     go_wp2_with fail
     go_roundw
     case rel => exact ⟨d + 1, j', ms ++ [t], _, by go_num, by have := HD.out; omega, by have := HD.out; simp; omega, by rw [← List.append_assoc, ← HU.out]; exact G6, hq6, HBD.out.2, by have := HD.out; have := HBD.out; omega, fun q hq => by rw [← map_lapp_snoc]; exact HSP.out _ (.go _ _ _ _ _ _ _ (Or.inl (by have := HD.out; omega)) H32.out HTG.out (by rw [show k - d - 1 = k - (d + 1) by omega]; exact hq))⟩
     case measure => have := HD.out; simp [intOf]; omega
   ·have hE := uexpect_bad b { p with ix := j } 32 (by decide) wr hpr hj hs h32
    have H32 : Hid (at' p.s j ≠ 32) := h32
    clear h32 hlt hml hij hj hd
    go_wp2_with (first | (go_at_call 221; refine hE.mono ?_; rintro e w1 ⟨rfl, hk1⟩; simp only [fault]))
    exact ⟨rfl, _, HSP.out _ (.need _ _ _ _ (by have := HD.out; omega) H32.out), rfl, hGr.keep.trans hk1⟩
  ·have hdi : ¬ (d : Int) < (k : Int) := by omega
   obtain rfl : d = k := by omega
   clear hlt hd
   go_wp2_with fail
   go_ret
   refine ⟨_, HSP.out _ (by rw [Nat.sub_self]; exact .fin _ _), ?_⟩
   exact ⟨_, ms, ds, rfl, rfl, by rw [← HU.out]; exact hGr, hpr⟩
end Go.Proofs.YtnfojonmohijpaaGreatDoor
namespace Go.Proofs.YtnfojonmohijpaaGreatDoor
open Go.RowKit
theorem TG.one {s : ByteArray} {d i : Nat} {l : Tr} {j : Nat} (h : TG s (.row 1 false) d i (.ok l j)) : ∃ t, l = .lcons t .lnil ∧ at' s i = 32 ∧ TG s .thing d (i + 1) (.ok t j) := by
 generalize hq : R.ok l j = q at h
 cases h with
 | need => cases hq
 | bad => cases hq
 | go _ _ _ _ j' t q' h0 h1 h2 h3 =>
  cases h3 with
  | fin => cases hq; exact ⟨t, rfl, h1, h2⟩
  | need _ _ _ _ h => omega
  | bad _ _ _ _ _ h => rcases h with h | h; omega; cases h
  | go _ _ _ _ _ _ _ h => rcases h with h | h; omega; cases h
theorem TG.oneBad {s : ByteArray} {d i j : Nat} (h32 : at' s i = 32) (h : TG s (.row 1 false) d i (.bad j)) : TG s .thing d (i + 1) (.bad j) := by
 generalize hq : R.bad j = q at h
 cases h with
 | need _ _ _ _ _ h => exact absurd h32 h
 | bad _ _ _ _ j' h0 h1 h2 => cases hq; exact h2
 | go _ _ _ _ j' t q' h0 h1 h2 h3 =>
  cases h3 with
  | fin => cases hq
  | need _ _ _ _ h => omega
  | bad _ _ _ _ _ h => rcases h with h | h; omega; cases h
  | go _ _ _ _ _ _ _ h => rcases h with h | h; omega; cases h
theorem lapp_one {ms : List Tr} {t : Tr} (h : lapp ms .lnil = .lcons t .lnil) : ms = [t] := by
 cases ms with
 | nil => cases h
 | cons a l =>
  simp only [lapp, Tr.lcons.injEq] at h
  obtain ⟨rfl, h⟩ := h
  cases l with
  | nil => rfl
  | cons => cases h
set_option maxRecDepth 100000 in
set_option maxHeartbeats 4000000 in
theorem moreThings_any (s : ByteArray) (hs : s.size ≤ 20000) (n : Nat) (IH : ThingOk s n) (b : Nat) (p : US) (hps : p.s = s) (X w : World) (v : Value) (ts : List Tr) (cs : List Value) (hp : UB w b p) (hG : GU b X w v ts cs) (hts : ts.length ≤ 2) (hle : p.ix ≤ s.size) (hn : s.size - p.ix ≤ n) (hop : p.op ≤ 60) :
    Calls Tryz.prog 260 #[.pointer (some ⟨b, 0, none⟩), v] w fun e w' => ∃ q, TG s (.row 0 true) p.op p.ix q ∧ URow b p X ts q e w' := by
 subst hps
 go_enter Tryz.func260, Tryz.ntmps260
 go_upto_region 1 with (fail)
 go_loopw [1] (fun q1 wr => ∃ (j : Nat) (ms : List Tr) (ds : List Value), GU b X wr q1 (ts ++ ms) ds ∧ UB wr b { p with ix := j } ∧ j ≤ p.s.size ∧ ms.length + p.ix ≤ j ∧ ∀ q, TG p.s (.row 0 true) p.op j q → TG p.s (.row 0 true) p.op p.ix (q.map (lapp ms))) (fun _ wr => muU wr b)
 case atStart => exact ⟨p.ix, [], cs, by rw [List.append_nil]; exact hG, hp, hle, by simp, fun q h => by rw [map_lapp_nil]; exact h⟩
 case round =>
  obtain ⟨j, ms, ds, hGr, hpr, hj, hij, hsp⟩ := hrel
  have HSP : Hid (∀ q, TG p.s (.row 0 true) p.op j q → TG p.s (.row 0 true) p.op p.ix (q.map (lapp ms))) := hsp
  have hmu := muU_eq hpr
  have hA := uahead_any b { p with ix := j } 32 (by decide) wr hpr hj hs
  have HJ : Hid (ms.length + p.ix ≤ j ∧ j ≤ p.s.size) := ⟨hij, hj⟩
  clear hsp hp hG
  by_cases h32 : at' p.s j = 32
  ·rw [show decide (US.cur { p with ix := j } = 32) = true from decide_eq_true h32] at hA
   have H32 : Hid (at' p.s j = 32) := h32
   have HT : Hid (∀ w1, UB w1 b { p with ix := j } → GU b X w1 u1 (ts ++ ms) ds → Calls Tryz.prog 258 #[.pointer (some ⟨b, 0, none⟩), .int .i64 1, u1] w1 fun e w' => ∃ q, TG p.s (.row 1 false) p.op j q ∧ URow b { p with ix := j } X (ts ++ ms) q e w') :=
    fun w1 h1 h2 => things_any p.s hs n IH b { p with ix := j } 1 (by decide) rfl X w1 u1 (ts ++ ms) ds h1 h2 (by simp; omega) hj (by simp only; omega) hop
   clear h32 hij hj
   go_wp2_with (first | (go_at_call 165; refine hA.mono ?_; rintro e w1 ⟨rfl, hq1, hk1⟩))
   refine (HT.out w1 hq1 (hGr.keeps (hk1.mono (by simp)))).mono ?_
   rintro e w2 ⟨q, hTG, hU⟩
   cases q with
   | bad j' =>
    obtain ⟨rfl, hk2⟩ := hU
    simp only [fault]
    exact ⟨rfl, _, HSP.out _ (.bad _ _ _ _ _ (Or.inr rfl) H32.out (TG.oneBad H32.out hTG)), rfl, hk2⟩
   | ok l j' =>
    obtain ⟨v2, ms2, ds2, rfl, hl, hG2, hq2⟩ := hU
    obtain ⟨t, rfl, _, ht⟩ := TG.one hTG
    obtain rfl := lapp_one hl.symm
    have hbd := ht.bd (by have := at'_lt_of H32.out (by decide); omega)
    have HBD : Hid (j + 1 < j' ∧ j' ≤ p.s.size) := ⟨hbd.2.2 rfl, hbd.2.1⟩
    have HTG : Hid (TG p.s .thing p.op (j + 1) (.ok t j')) := ht
    have hmu2 := muU_eq hq2
    clear hbd hTG ht hl hA HT hGr
    go_wp2_with fail
    go_roundw
    case rel => exact ⟨j', ms ++ [t], ds2, by rw [← List.append_assoc]; exact hG2, hq2, HBD.out.2, by have := HJ.out; have := HBD.out; simp; omega, fun q hq => by rw [← map_lapp_snoc]; exact HSP.out _ (.go _ _ _ _ _ _ _ (Or.inr rfl) H32.out HTG.out hq)⟩
    case measure => have := HBD.out; rw [hmu, hmu2]; show 20002 - j' < 20002 - j; omega
  ·rw [show decide (US.cur { p with ix := j } = 32) = false from decide_eq_false h32] at hA
   have H32 : Hid (at' p.s j ≠ 32) := h32
   clear h32 hij hj
   go_wp2_with (first | (go_at_call 165; refine hA.mono ?_; rintro e w1 ⟨rfl, hq1, hk1⟩))
   go_ret
   exact ⟨_, HSP.out _ (.stop _ _ H32.out), _, ms, ds, rfl, rfl, hGr.keeps (hk1.mono (by simp)), hq1⟩
end Go.Proofs.YtnfojonmohijpaaGreatDoor
