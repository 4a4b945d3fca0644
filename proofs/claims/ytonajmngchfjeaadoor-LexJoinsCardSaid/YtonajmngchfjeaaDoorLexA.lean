/-
  The lexer's small functions: peek, isBlank, isDigit, isLetter.
-/
import Derived.Test.YtonajmngchfjeaaDoorLexS
namespace Go.Proofs.YtonajmngchfjeaaDoor
open Go.RowKit Word
open Lx (Tok)
attribute [local go_sem] setCell_drewN cell?_ext frozen?_ext shape?_ext setCell_ext lt_1' ne_1' en_1' le_1' lt_2' ne_2' en_2' le_2' lt_3' ne_3' en_3' le_3' lt_4' ne_4' en_4' le_4' lt_5' ne_5' en_5' le_5' lt_6' ne_6' en_6' le_6' lt_7' ne_7' en_7' le_7' lt_8' ne_8' en_8' le_8' lt_9' ne_9' en_9' le_9' lt_10' ne_10' en_10' le_10' lt_11' ne_11' en_11' le_11' lt_12' ne_12' en_12' le_12'

theorem drew2 (w : World) (a b : Nat) : (w.drewN a).drewN b = w.drewN (a + b) := by simp only [World.drewN, Nat.add_assoc]
theorem at0_in {s : ByteArray} {k : Nat} (h : k < s.size) : ((Lx.at0 s.data.toList k).toNat : Int) = (s[k].toNat : Int) := by
  unfold Lx.at0
  have hz : s.data.toList.length = s.size := rfl
  rw [List.getElem?_eq_getElem (by omega)]; rfl
theorem at0_out {s : ByteArray} {k : Nat} (h : ¬ k < s.size) : ((Lx.at0 s.data.toList k).toNat : Int) = 0 := by
  unfold Lx.at0
  have hz : s.data.toList.length = s.size := rfl
  rw [List.getElem?_eq_none (by omega)]; rfl
set_option maxHeartbeats 4000000 in
theorem peek_any {W0 : World} {p : Nat} {s : ByteArray} {a b : Nat} {lv : Value} {ts : List Tok} {ov fr : Bool} (n : Nat) (hn : n ≤ 1) (ha : a ≤ 2000) (w : World) (hR : Rdr W0 w p s a b lv ts ov fr) :
    Calls Tryd.prog 11 #[.pointer (some ⟨p, 0, none⟩), .int .i64 (n : Int)] w fun e w' => e = .returned (.int .u8 ((Lx.at0 s.data.toList (a + n)).toNat : Int)) ∧ ∃ d, w' = w.drewN d := by
  have c0 := hR.c0; have c1 := hR.c1
  have W1 : IntKind.i64.wrap ((a : Int) + (n : Int)) = (a : Int) + (n : Int) := IntWalk.i64_in _ (by omega)
  by_cases h : a + n < s.size
  · have hi : (a : Int) + (n : Int) < s.size := by omega
    have HX := Lib.hid (at0_in h)
    have e1 : ((a : Int) + (n : Int)).toNat = a + n := by omega
    have h0 : (0 : Int) ≤ (a : Int) + (n : Int) := by omega
    clear hR
    go_enter Tryd.func11, Tryd.ntmps11
    go_wp2
    go_quiet (fail)
    go_wp2
    go_quiet (fail)
    go_wp2
    go_ret
    exact ⟨by rw [HX.out]; rfl, _, drew2 _ _ _⟩
  · have hi : ¬ (a : Int) + (n : Int) < s.size := by omega
    have HX := Lib.hid (at0_out h)
    clear hR
    go_enter Tryd.func11, Tryd.ntmps11
    go_wp2
    go_quiet (fail)
    go_wp2
    go_ret
    exact ⟨by rw [HX.out]; rfl, _, rfl⟩
theorem lxDigit_any (c : UInt8) (w : World) : Calls Tryd.prog 13 #[.int .u8 (c.toNat : Int)] w fun e w' => e = .returned (.bool (Lx.dg c)) ∧ w = w' := by
  obtain ⟨x, hx⟩ : ∃ x, x = c.toNat := ⟨_, rfl⟩
  have e : Lx.dg c = decide (48 ≤ x ∧ x ≤ 57) := by rw [hx]; rfl
  rw [e, ← hx]
  clear e hx
  rcases (show (48 ≤ x ∧ x ≤ 57) ∨ x < 48 ∨ (48 ≤ x ∧ 57 < x) by omega) with ⟨h1, h2⟩ | h1 | ⟨h1, h2⟩
  · rw [decide_eq_true (show 48 ≤ x ∧ x ≤ 57 by omega)]
    have g : decide ((x : Int) ≤ 57) = true := by simp; omega
    go_enter Tryd.func13, Tryd.ntmps13
    go_wp2
    go_ret
    exact ⟨rfl, rfl⟩
  · rw [decide_eq_false (show ¬ (48 ≤ x ∧ x ≤ 57) by omega)]
    go_enter Tryd.func13, Tryd.ntmps13
    go_wp2
    go_ret
    exact ⟨rfl, rfl⟩
  · rw [decide_eq_false (show ¬ (48 ≤ x ∧ x ≤ 57) by omega)]
    have g : decide ((x : Int) ≤ 57) = false := by simp; omega
    go_enter Tryd.func13, Tryd.ntmps13
    go_wp2
    go_ret
    exact ⟨rfl, rfl⟩
theorem lxBlank_any (c : UInt8) (w : World) : Calls Tryd.prog 12 #[.int .u8 (c.toNat : Int)] w fun e w' => e = .returned (.bool (Lx.bl c)) ∧ w = w' := by
  obtain ⟨x, hx⟩ : ∃ x, x = c.toNat := ⟨_, rfl⟩
  have e : Lx.bl c = decide (x = 32 ∨ x = 9 ∨ x = 10 ∨ x = 13) := by rw [hx]; rfl
  rw [e, ← hx]
  clear e hx
  by_cases h : x = 32 ∨ x = 9 ∨ x = 10 ∨ x = 13
  · rw [decide_eq_true h]
    rcases h with rfl | rfl | rfl | rfl
    all_goals
      go_enter Tryd.func12, Tryd.ntmps12
      go_wp2
      go_ret
      exact ⟨rfl, rfl⟩
  · rw [decide_eq_false h]
    have g1 : ((x : Int) == 32) = false := beq_eq_false_iff_ne.2 (by omega)
    have g2 : ((x : Int) == 9) = false := beq_eq_false_iff_ne.2 (by omega)
    have g3 : ((x : Int) == 10) = false := beq_eq_false_iff_ne.2 (by omega)
    have g4 : ((x : Int) == 13) = false := beq_eq_false_iff_ne.2 (by omega)
    clear h
    go_enter Tryd.func12, Tryd.ntmps12
    go_wp2
    go_ret
    exact ⟨rfl, rfl⟩
theorem lxLetter_any (c : UInt8) (w : World) : Calls Tryd.prog 14 #[.int .u8 (c.toNat : Int)] w fun e w' => e = .returned (.bool (Lx.lt c)) ∧ w = w' := by
  obtain ⟨x, hx⟩ : ∃ x, x = c.toNat := ⟨_, rfl⟩
  have e : Lx.lt c = decide ((97 ≤ x ∧ x ≤ 122) ∨ (65 ≤ x ∧ x ≤ 90) ∨ x = 95) := by rw [hx]; rfl
  rw [e, ← hx]
  clear e hx
  rcases (show ((97 ≤ x ∧ x ≤ 122) ∨ ((65 ≤ x ∧ x ≤ 90) ∧ x < 97) ∨ x = 95) ∨ (x < 65 ∨ (91 ≤ x ∧ x < 95) ∨ x = 96 ∨ 122 < x) by omega) with (⟨h1, h2⟩ | ⟨⟨h1, h2⟩, h3⟩ | rfl) | (h1 | ⟨h1, h2⟩ | rfl | h1)
  all_goals
    first
      | rw [decide_eq_true (show (97 ≤ x ∧ x ≤ 122) ∨ (65 ≤ x ∧ x ≤ 90) ∨ x = 95 by omega)]
      | rw [decide_eq_false (show ¬ ((97 ≤ x ∧ x ≤ 122) ∨ (65 ≤ x ∧ x ≤ 90) ∨ x = 95) by omega)]
      | skip
    first
      | (have g1 : decide ((x : Int) ≤ 122) = true := by simp; omega)
      | (have g1 : decide ((x : Int) ≤ 122) = false := by simp; omega)
      | skip
    first
      | (have g2 : decide ((x : Int) ≤ 90) = true := by simp; omega)
      | (have g2 : decide ((x : Int) ≤ 90) = false := by simp; omega)
      | skip
    first
      | (have g3 : decide (97 ≤ (x : Int)) = true := by simp; omega)
      | (have g3 : decide (97 ≤ (x : Int)) = false := by simp; omega)
      | skip
    first
      | (have g4 : decide (65 ≤ (x : Int)) = true := by simp; omega)
      | (have g4 : decide (65 ≤ (x : Int)) = false := by simp; omega)
      | skip
    first
      | (have g5 : ((x : Int) == 95) = false := by simp; omega)
      | skip
    go_enter Tryd.func14, Tryd.ntmps14
    go_wp2
    go_ret
    exact ⟨rfl, rfl⟩
end Go.Proofs.YtonajmngchfjeaaDoor
