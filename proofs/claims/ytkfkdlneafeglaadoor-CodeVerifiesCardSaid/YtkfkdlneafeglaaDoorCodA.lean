/-
  What an instruction takes off, whether it asks for tests, whether its A may be so, where it leads: the program's way.
-/
import Derived.Test.YtkfkdlneafeglaaDoorCodM
import Derived.Test.YtkfkdlneafeglaaDoorExt
namespace Go.Proofs.YtkfkdlneafeglaaDoor
open Go.RowKit Vm
attribute [local go_sem] setCell_drewN cell?_ext frozen?_ext shape?_ext setCell_ext lt_1' ne_1' en_1' le_1' lt_2' ne_2' en_2' le_2' lt_3' ne_3' en_3' le_3' lt_4' ne_4' en_4' le_4' lt_5' ne_5' en_5' le_5' lt_6' ne_6' en_6' le_6' lt_7' ne_7' en_7' le_7' lt_8' ne_8' en_8' le_8' lt_9' ne_9' en_9' le_9' lt_10' ne_10' en_10' le_10' lt_11' ne_11' en_11' le_11' lt_12' ne_12' en_12' le_12'

/-- an instruction as a value -/
abbrev InsV (op a : Int) (t : ByteArray) (neg : Bool) (h l s day : Int) : Value := .agg #[.int .i64 op, .int .i64 a, .string t, .bool neg, .int .u64 h, .int .u64 l, .int .i64 s, .int .i64 day]
/-- what it takes off -/
def offN (op a : Int) : Option Int :=
  if cnt op then some a
  else if (1 ≤ op ∧ op ≤ 7) ∨ op = 29 ∨ op = 101 ∨ op = 104 then some 0
  else if op = 8 ∨ op = 24 ∨ op = 28 ∨ op = 37 ∨ (30 ≤ op ∧ op ≤ 34) ∨ op = 102 ∨ op = 103 then some 1
  else if (9 ≤ op ∧ op ≤ 20) ∨ op = 35 then some 2
  else if op = 22 then some 3
  else none
abbrev asks (op : Int) : Prop := (30 ≤ op ∧ op ≤ 35) ∨ op = 104
/-- may its A be so? -/
abbrev okA (op a at_ len : Int) : Prop := if op = 25 then 0 ≤ a ∧ a ≤ 8 else if op = 26 ∨ op = 27 then 0 ≤ a else if op = 36 then 1 ≤ a else if jmp op then at_ < a ∧ a ≤ len else a = 0
set_option maxRecDepth 100000 in
set_option maxHeartbeats 4000000 in
theorem pops_any (op a : Int) (t : ByteArray) (neg : Bool) (h l s day : Int) (w : World) :
    Calls Tryd.prog 64 #[InsV op a t neg h l s day] w fun e w' => e = .returned (.tuple #[.int .i64 ((offN op a).getD 0), .bool (offN op a).isSome]) ∧ Below w.heap.size w w' := by
  obtain ⟨r, hr⟩ : ∃ r, r = offN op a := ⟨_, rfl⟩
  have HR := Lib.hid hr
  rw [← hr]
  clear hr
  go_enter Tryd.func64, Tryd.ntmps64
  go_wp2
  all_goals
    go_ret2
    refine ⟨?_, by (repeat' (first | (with_reducible exact Below.refl _ _) | (with_reducible assumption) | (with_reducible refine Below.alloc ?_ ?_ _) | (with_reducible refine below_drewN ?_ _) | (with_reducible refine below_drew ?_) | (with_reducible refine below_ext ?_ ?_ _ _) | (with_reducible refine Below.setCell ?_ ?_ _) | (simp; done) | (simp; omega) | omega))⟩
    rw [HR.out]
    first
      | (simp_all [offN, cnt]; done)
      | (simp only [beq_eq_false_iff_ne, ne_eq] at *; rw [show offN op a = none by unfold offN cnt; rw [if_neg (by omega), if_neg (by omega), if_neg (by omega), if_neg (by omega), if_neg (by omega)]]; rfl)
theorem inTests_any (op : Int) (w : World) : Calls Tryd.prog 65 #[.int .i64 op] w fun e w' => e = .returned (.bool (decide (asks op))) ∧ w' = w := by
  obtain ⟨r, hr⟩ : ∃ r, r = decide (asks op) := ⟨_, rfl⟩
  have HR := Lib.hid hr
  rw [← hr]
  clear hr
  go_enter Tryd.func65, Tryd.ntmps65
  go_wp2
  all_goals
    go_ret
    refine ⟨?_, rfl⟩
    rw [HR.out]
    first
      | (simp_all [asks]; done)
      | (simp only [beq_eq_false_iff_ne, ne_eq] at *; rw [decide_eq_false (show ¬ asks op by unfold asks; omega)]; rfl)
theorem allowed_any (op a at_ len : Int) (t : ByteArray) (neg : Bool) (h l s day : Int) (w : World) :
    Calls Tryd.prog 44 #[InsV op a t neg h l s day, .int .i64 at_, .int .i64 len] w fun e w' => e = .returned (.bool (decide (okA op a at_ len))) ∧ Below w.heap.size w w' := by
  obtain ⟨r, hr⟩ : ∃ r, r = decide (okA op a at_ len) := ⟨_, rfl⟩
  have HR := Lib.hid hr
  rw [← hr]
  clear hr
  by_cases h1 : 0 ≤ a <;> by_cases h2 : at_ < a
  all_goals
    go_enter Tryd.func44, Tryd.ntmps44
    go_wp2
    all_goals
      go_ret
      refine ⟨?_, by (repeat' (first | (with_reducible exact Below.refl _ _) | (with_reducible assumption) | (with_reducible refine Below.alloc ?_ ?_ _) | (with_reducible refine below_drewN ?_ _) | (with_reducible refine below_drew ?_) | (with_reducible refine below_ext ?_ ?_ _ _) | (with_reducible refine Below.setCell ?_ ?_ _) | (simp; done) | (simp; omega) | omega))⟩
      rw [HR.out]
      clear HR
      simp_all [okA, jmp] <;> first | omega | (by_cases hz : a = 0 <;> simp [hz])
end Go.Proofs.YtkfkdlneafeglaaDoor
