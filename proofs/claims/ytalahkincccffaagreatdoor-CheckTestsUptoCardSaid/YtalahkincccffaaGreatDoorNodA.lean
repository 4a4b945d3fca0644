/-
  Nodes: how many parts, which role, what is wanted; fields that are empty.
-/
import Derived.Test.YtalahkincccffaaGreatDoorExt
import Derived.Laws.StructEq
namespace Go.Proofs.YtalahkincccffaaGreatDoor
open Go.RowKit
attribute [local go_sem] setCell_drewN cell?_ext frozen?_ext shape?_ext setCell_ext lt_1' ne_1' en_1' le_1' lt_2' ne_2' en_2' le_2' lt_3' ne_3' en_3' le_3' lt_4' ne_4' en_4' le_4' lt_5' ne_5' en_5' le_5' lt_6' ne_6' en_6' le_6' lt_7' ne_7' en_7' le_7' lt_8' ne_8' en_8' le_8' lt_9' ne_9' en_9' le_9' lt_10' ne_10' en_10' le_10' lt_11' ne_11' en_11' le_11' lt_12' ne_12' en_12' le_12'

abbrev NodV (op k : Int) (t : ByteArray) (neg : Bool) (h l s day : Int) : Value := .agg #[.int .i64 op, .int .i64 k, .string t, .bool neg, .int .u64 h, .int .u64 l, .int .i64 s, .int .i64 day]
def takesN (op k : Int) : Bool :=
  if (1 ≤ op ∧ op ≤ 7) ∨ op = 29 then decide (k = 0)
  else if op = 8 ∨ op = 24 ∨ op = 28 ∨ (30 ≤ op ∧ op ≤ 34) ∨ op = 37 then decide (k = 1)
  else if (9 ≤ op ∧ op ≤ 20) ∨ op = 23 ∨ op = 35 then decide (k = 2)
  else if op = 21 ∨ op = 22 then decide (k = 3)
  else if op = 25 then decide (0 ≤ k) && decide (k ≤ 8)
  else if op = 26 ∨ op = 27 then decide (0 ≤ k)
  else if op = 36 then decide (1 ≤ k)
  else false
def roleN (op : Int) : Int := if op = 28 then 1 else if 30 ≤ op ∧ op ≤ 35 then 2 else if op = 36 then 3 else if op = 29 ∨ op = 37 then 4 else 0
def wantN (op place : Int) : Int := if op = 27 then 1 else if op = 36 then 2 else if op = 37 ∨ (op = 23 ∧ place = 1) then 3 else 0
theorem beq_dec (a b : Int) : (a == b) = decide (a = b) := by
  by_cases h : a = b
  · rw [decide_eq_true h]; simp [h]
  · rw [decide_eq_false h]; simp [h]
set_option maxRecDepth 100000 in
set_option maxHeartbeats 4000000 in
theorem etakes_any (op k : Int) (w : World) : Calls Tryz.prog 46 #[.int .i64 op, .int .i64 k] w fun e w' => e = .returned (.bool (takesN op k)) ∧ w' = w := by
  obtain ⟨r, hr⟩ : ∃ r, r = takesN op k := ⟨_, rfl⟩
  have HR := Lib.hid hr
  rw [← hr]
  clear hr
  by_cases h0 : 0 ≤ k
  all_goals
    go_enter Tryz.func46, Tryz.ntmps46
    go_wp2
    all_goals
      go_ret
      refine ⟨?_, rfl⟩
      rw [HR.out]
      clear HR
      first
        | (simp_all [takesN, beq_dec]; done)
        | (simp_all [takesN, beq_dec]; omega)
        | (simp only [beq_eq_false_iff_ne, ne_eq] at *; rw [show takesN op k = false by unfold takesN; rw [if_neg (by omega), if_neg (by omega), if_neg (by omega), if_neg (by omega), if_neg (by omega), if_neg (by omega), if_neg (by omega)]]; rfl)
theorem role_any (op : Int) (w : World) : Calls Tryz.prog 49 #[.int .i64 op] w fun e w' => e = .returned (.int .i64 (roleN op)) ∧ w' = w := by
  obtain ⟨r, hr⟩ : ∃ r, r = roleN op := ⟨_, rfl⟩
  have HR := Lib.hid hr
  rw [← hr]
  clear hr
  go_enter Tryz.func49, Tryz.ntmps49
  go_wp2
  all_goals
    go_ret
    refine ⟨?_, rfl⟩
    rw [HR.out]
    clear HR
    first
      | (simp_all [roleN]; done)
      | (simp only [beq_eq_false_iff_ne, ne_eq] at *; rw [show roleN op = 0 by unfold roleN; rw [if_neg (by omega), if_neg (by omega), if_neg (by omega), if_neg (by omega)]]; rfl)
theorem wanted_any (op place : Int) (w : World) : Calls Tryz.prog 75 #[.int .i64 op, .int .i64 place] w fun e w' => e = .returned (.int .i64 (wantN op place)) ∧ w' = w := by
  obtain ⟨r, hr⟩ : ∃ r, r = wantN op place := ⟨_, rfl⟩
  have HR := Lib.hid hr
  rw [← hr]
  clear hr
  by_cases h : op = 23 <;> by_cases h1 : place = 1
  all_goals
    have q1 : (op == 23) = decide (op = 23) := beq_dec _ _
    have q2 : (place == 1) = decide (place = 1) := beq_dec _ _
    first | rw [decide_eq_true h] at q1 | rw [decide_eq_false h] at q1
    first | rw [decide_eq_true h1] at q2 | rw [decide_eq_false h1] at q2
    go_enter Tryz.func75, Tryz.ntmps75
    go_wp2
    all_goals
      go_ret
      refine ⟨?_, rfl⟩
      rw [HR.out]
      clear HR
      simp_all [wantN]
theorem wide_eq (a b c d : Int) (w : World) : (Op.equalIn 9999 35 (.agg #[.int .u64 a, .int .u64 b]) (.agg #[.int .u64 c, .int .u64 d])).run Tryz.prog w = .ok (a == c && b == d) w := by
  have u3 := Tryz.underlying33
  have a3 := Tryz.isAgg33
  have z3 := Tryz.sizeOf33
  have hS : Tryz.prog.underlying 35 = some (.struct (Tryz.prog.fieldsOf 35)) := by kernel_rfl
  have hp : Tryz.prog.stoodInHeld 35 = false := by kernel_rfl
  rw [show (9999 : Nat) = 9998 + 1 from rfl, run_equalIn_agg w 9998 35 _ _ hS hp]
  simp only [Program.fieldsOf, Tryz.underlying35]
  cases h1 : a == c <;> cases h2 : b == d <;> go_simp
end Go.Proofs.YtalahkincccffaaGreatDoor
