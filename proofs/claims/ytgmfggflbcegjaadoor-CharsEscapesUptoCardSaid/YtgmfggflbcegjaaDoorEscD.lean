/-
  Digits of base 16 on both sides; blanks.
-/
import Derived.Test.YtgmfggflbcegjaaDoorEscC
namespace Go.Proofs.YtgmfggflbcegjaaDoor
open Go.RowKit Txt
attribute [local go_sem] setCell_drewN cell?_ext frozen?_ext shape?_ext setCell_ext lt_1' ne_1' en_1' le_1' lt_2' ne_2' en_2' le_2' lt_3' ne_3' en_3' le_3' lt_4' ne_4' en_4' le_4' lt_5' ne_5' en_5' le_5' lt_6' ne_6' en_6' le_6' lt_7' ne_7' en_7' le_7' lt_8' ne_8' en_8' le_8' lt_9' ne_9' en_9' le_9' lt_10' ne_10' en_10' le_10' lt_11' ne_11' en_11' le_11' lt_12' ne_12' en_12' le_12'

/-- a digit of base 16; 16: none -/
def dgt (x : Nat) : Int := if 48 ≤ x ∧ x ≤ 57 then (x : Int) - 48 else if 97 ≤ x ∧ x ≤ 102 then (x : Int) - 97 + 10 else if 65 ≤ x ∧ x ≤ 70 then (x : Int) - 65 + 10 else 16
/-- the same; -1: none -/
def dgtN (x : Nat) : Int := if dgt x = 16 then -1 else dgt x
set_option maxHeartbeats 4000000 in
theorem digitOf_any (x : Nat) (hx : x < 256) (w : World) : Calls Tryd.prog 68 #[.int .u8 (x : Int)] w fun e w' => e = .returned (.int .i64 (dgt x)) ∧ w = w' := by
  have h : x ≤ 47 ∨ (48 ≤ x ∧ x ≤ 57) ∨ (58 ≤ x ∧ x ≤ 64) ∨ (65 ≤ x ∧ x ≤ 70) ∨ (71 ≤ x ∧ x ≤ 96) ∨ (97 ≤ x ∧ x ≤ 102) ∨ 103 ≤ x := by omega
  rcases h with h | h | h | h | h | h | h
  · have b1 : (0 : Int) ≤ (x : Int) := by omega
    have b2 : (x : Int) ≤ 47 := by omega
    have l48 : (x : Int) < 48 := by omega
    have l97 : (x : Int) < 97 := by omega
    have l65 : (x : Int) < 65 := by omega
    have r57 : (x : Int) ≤ 57 := by omega
    have r102 : (x : Int) ≤ 102 := by omega
    have r70 : (x : Int) ≤ 70 := by omega
    rw [show dgt x = 16 by unfold dgt; (repeat' split) <;> omega]
    clear h hx
    go_enter Tryd.func68, Tryd.ntmps68
    go_wp2
    go_ret
    exact ⟨rfl, rfl⟩
  · have b1 : (48 : Int) ≤ (x : Int) := by omega
    have b2 : (x : Int) ≤ 57 := by omega
    have l48 : (48 : Int) ≤ (x : Int) := by omega
    have l97 : (x : Int) < 97 := by omega
    have l65 : (x : Int) < 65 := by omega
    have r57 : (x : Int) ≤ 57 := by omega
    have r102 : (x : Int) ≤ 102 := by omega
    have r70 : (x : Int) ≤ 70 := by omega
    have W1 : IntKind.u8.wrap ((x : Int) - 48) = (x : Int) - 48 := by rw [IntKind.wrap_u8]; omega
    rw [show dgt x = (x : Int) - 48 by unfold dgt; (repeat' split) <;> omega]
    clear h hx
    go_enter Tryd.func68, Tryd.ntmps68
    go_wp2
    go_ret
    exact ⟨rfl, rfl⟩
  · have b1 : (58 : Int) ≤ (x : Int) := by omega
    have b2 : (x : Int) ≤ 64 := by omega
    have l48 : (48 : Int) ≤ (x : Int) := by omega
    have l97 : (x : Int) < 97 := by omega
    have l65 : (x : Int) < 65 := by omega
    have r57 : (57 : Int) < (x : Int) := by omega
    have r102 : (x : Int) ≤ 102 := by omega
    have r70 : (x : Int) ≤ 70 := by omega
    rw [show dgt x = 16 by unfold dgt; (repeat' split) <;> omega]
    clear h hx
    go_enter Tryd.func68, Tryd.ntmps68
    go_wp2
    go_ret
    exact ⟨rfl, rfl⟩
  · have b1 : (65 : Int) ≤ (x : Int) := by omega
    have b2 : (x : Int) ≤ 70 := by omega
    have l48 : (48 : Int) ≤ (x : Int) := by omega
    have l97 : (x : Int) < 97 := by omega
    have l65 : (65 : Int) ≤ (x : Int) := by omega
    have r57 : (57 : Int) < (x : Int) := by omega
    have r102 : (x : Int) ≤ 102 := by omega
    have r70 : (x : Int) ≤ 70 := by omega
    have W1 : IntKind.u8.wrap ((x : Int) - 65) = (x : Int) - 65 := by rw [IntKind.wrap_u8]; omega
    rw [show dgt x = (x : Int) - 65 + 10 by unfold dgt; (repeat' split) <;> omega]
    clear h hx
    go_enter Tryd.func68, Tryd.ntmps68
    go_wp2
    go_ret
    exact ⟨rfl, rfl⟩
  · have b1 : (71 : Int) ≤ (x : Int) := by omega
    have b2 : (x : Int) ≤ 96 := by omega
    have l48 : (48 : Int) ≤ (x : Int) := by omega
    have l97 : (x : Int) < 97 := by omega
    have l65 : (65 : Int) ≤ (x : Int) := by omega
    have r57 : (57 : Int) < (x : Int) := by omega
    have r102 : (x : Int) ≤ 102 := by omega
    have r70 : (70 : Int) < (x : Int) := by omega
    rw [show dgt x = 16 by unfold dgt; (repeat' split) <;> omega]
    clear h hx
    go_enter Tryd.func68, Tryd.ntmps68
    go_wp2
    go_ret
    exact ⟨rfl, rfl⟩
  · have b1 : (97 : Int) ≤ (x : Int) := by omega
    have b2 : (x : Int) ≤ 102 := by omega
    have l48 : (48 : Int) ≤ (x : Int) := by omega
    have l97 : (97 : Int) ≤ (x : Int) := by omega
    have l65 : (65 : Int) ≤ (x : Int) := by omega
    have r57 : (57 : Int) < (x : Int) := by omega
    have r102 : (x : Int) ≤ 102 := by omega
    have r70 : (70 : Int) < (x : Int) := by omega
    have W1 : IntKind.u8.wrap ((x : Int) - 97) = (x : Int) - 97 := by rw [IntKind.wrap_u8]; omega
    rw [show dgt x = (x : Int) - 97 + 10 by unfold dgt; (repeat' split) <;> omega]
    clear h hx
    go_enter Tryd.func68, Tryd.ntmps68
    go_wp2
    go_ret
    exact ⟨rfl, rfl⟩
  · have b1 : (103 : Int) ≤ (x : Int) := by omega
    have b2 : (x : Int) ≤ 255 := by omega
    have l48 : (48 : Int) ≤ (x : Int) := by omega
    have l97 : (97 : Int) ≤ (x : Int) := by omega
    have l65 : (65 : Int) ≤ (x : Int) := by omega
    have r57 : (57 : Int) < (x : Int) := by omega
    have r102 : (102 : Int) < (x : Int) := by omega
    have r70 : (70 : Int) < (x : Int) := by omega
    rw [show dgt x = 16 by unfold dgt; (repeat' split) <;> omega]
    clear h hx
    go_enter Tryd.func68, Tryd.ntmps68
    go_wp2
    go_ret
    exact ⟨rfl, rfl⟩
set_option maxHeartbeats 4000000 in
theorem digit16_any (x : Nat) (hx : x < 256) (w : World) : Calls Tryd.prog 99 #[.int .u8 (x : Int)] w fun e w' => e = .returned (.int .i64 (dgtN x)) ∧ w = w' := by
  have h : x ≤ 47 ∨ (48 ≤ x ∧ x ≤ 57) ∨ (58 ≤ x ∧ x ≤ 64) ∨ (65 ≤ x ∧ x ≤ 70) ∨ (71 ≤ x ∧ x ≤ 96) ∨ (97 ≤ x ∧ x ≤ 102) ∨ 103 ≤ x := by omega
  rcases h with h | h | h | h | h | h | h
  · have b1 : (0 : Int) ≤ (x : Int) := by omega
    have b2 : (x : Int) ≤ 47 := by omega
    have l48 : (x : Int) < 48 := by omega
    have l97 : (x : Int) < 97 := by omega
    have l65 : (x : Int) < 65 := by omega
    have r57 : (x : Int) ≤ 57 := by omega
    have r102 : (x : Int) ≤ 102 := by omega
    have r70 : (x : Int) ≤ 70 := by omega
    rw [show dgtN x = -1 by unfold dgtN dgt; (repeat' split) <;> omega]
    clear h hx
    go_enter Tryd.func99, Tryd.ntmps99
    go_wp2
    go_ret
    exact ⟨rfl, rfl⟩
  · have b1 : (48 : Int) ≤ (x : Int) := by omega
    have b2 : (x : Int) ≤ 57 := by omega
    have l48 : (48 : Int) ≤ (x : Int) := by omega
    have l97 : (x : Int) < 97 := by omega
    have l65 : (x : Int) < 65 := by omega
    have r57 : (x : Int) ≤ 57 := by omega
    have r102 : (x : Int) ≤ 102 := by omega
    have r70 : (x : Int) ≤ 70 := by omega
    have W1 : IntKind.u8.wrap ((x : Int) - 48) = (x : Int) - 48 := by rw [IntKind.wrap_u8]; omega
    rw [show dgtN x = (x : Int) - 48 by unfold dgtN dgt; (repeat' split) <;> omega]
    clear h hx
    go_enter Tryd.func99, Tryd.ntmps99
    go_wp2
    go_ret
    exact ⟨rfl, rfl⟩
  · have b1 : (58 : Int) ≤ (x : Int) := by omega
    have b2 : (x : Int) ≤ 64 := by omega
    have l48 : (48 : Int) ≤ (x : Int) := by omega
    have l97 : (x : Int) < 97 := by omega
    have l65 : (x : Int) < 65 := by omega
    have r57 : (57 : Int) < (x : Int) := by omega
    have r102 : (x : Int) ≤ 102 := by omega
    have r70 : (x : Int) ≤ 70 := by omega
    rw [show dgtN x = -1 by unfold dgtN dgt; (repeat' split) <;> omega]
    clear h hx
    go_enter Tryd.func99, Tryd.ntmps99
    go_wp2
    go_ret
    exact ⟨rfl, rfl⟩
  · have b1 : (65 : Int) ≤ (x : Int) := by omega
    have b2 : (x : Int) ≤ 70 := by omega
    have l48 : (48 : Int) ≤ (x : Int) := by omega
    have l97 : (x : Int) < 97 := by omega
    have l65 : (65 : Int) ≤ (x : Int) := by omega
    have r57 : (57 : Int) < (x : Int) := by omega
    have r102 : (x : Int) ≤ 102 := by omega
    have r70 : (x : Int) ≤ 70 := by omega
    have W1 : IntKind.u8.wrap ((x : Int) - 65) = (x : Int) - 65 := by rw [IntKind.wrap_u8]; omega
    rw [show dgtN x = (x : Int) - 65 + 10 by unfold dgtN dgt; (repeat' split) <;> omega]
    clear h hx
    go_enter Tryd.func99, Tryd.ntmps99
    go_wp2
    go_ret
    exact ⟨rfl, rfl⟩
  · have b1 : (71 : Int) ≤ (x : Int) := by omega
    have b2 : (x : Int) ≤ 96 := by omega
    have l48 : (48 : Int) ≤ (x : Int) := by omega
    have l97 : (x : Int) < 97 := by omega
    have l65 : (65 : Int) ≤ (x : Int) := by omega
    have r57 : (57 : Int) < (x : Int) := by omega
    have r102 : (x : Int) ≤ 102 := by omega
    have r70 : (70 : Int) < (x : Int) := by omega
    rw [show dgtN x = -1 by unfold dgtN dgt; (repeat' split) <;> omega]
    clear h hx
    go_enter Tryd.func99, Tryd.ntmps99
    go_wp2
    go_ret
    exact ⟨rfl, rfl⟩
  · have b1 : (97 : Int) ≤ (x : Int) := by omega
    have b2 : (x : Int) ≤ 102 := by omega
    have l48 : (48 : Int) ≤ (x : Int) := by omega
    have l97 : (97 : Int) ≤ (x : Int) := by omega
    have l65 : (65 : Int) ≤ (x : Int) := by omega
    have r57 : (57 : Int) < (x : Int) := by omega
    have r102 : (x : Int) ≤ 102 := by omega
    have r70 : (70 : Int) < (x : Int) := by omega
    have W1 : IntKind.u8.wrap ((x : Int) - 97) = (x : Int) - 97 := by rw [IntKind.wrap_u8]; omega
    rw [show dgtN x = (x : Int) - 97 + 10 by unfold dgtN dgt; (repeat' split) <;> omega]
    clear h hx
    go_enter Tryd.func99, Tryd.ntmps99
    go_wp2
    go_ret
    exact ⟨rfl, rfl⟩
  · have b1 : (103 : Int) ≤ (x : Int) := by omega
    have b2 : (x : Int) ≤ 255 := by omega
    have l48 : (48 : Int) ≤ (x : Int) := by omega
    have l97 : (97 : Int) ≤ (x : Int) := by omega
    have l65 : (65 : Int) ≤ (x : Int) := by omega
    have r57 : (57 : Int) < (x : Int) := by omega
    have r102 : (102 : Int) < (x : Int) := by omega
    have r70 : (70 : Int) < (x : Int) := by omega
    rw [show dgtN x = -1 by unfold dgtN dgt; (repeat' split) <;> omega]
    clear h hx
    go_enter Tryd.func99, Tryd.ntmps99
    go_wp2
    go_ret
    exact ⟨rfl, rfl⟩
end Go.Proofs.YtgmfggflbcegjaaDoor
