/-
  One instruction; the code of a choice.
-/
import Derived.Test.YtkfkdlneafeglaaDoorNodE
import Derived.Laws.StructEq
namespace Go.Proofs.YtkfkdlneafeglaaDoor
open Go.RowKit Go.Maps Go.WideMaps Vm
attribute [local go_sem] setCell_drewN cell?_ext frozen?_ext shape?_ext setCell_ext lt_1' ne_1' en_1' le_1' lt_2' ne_2' en_2' le_2' lt_3' ne_3' en_3' le_3' lt_4' ne_4' en_4' le_4' lt_5' ne_5' en_5' le_5' lt_6' ne_6' en_6' le_6' lt_7' ne_7' en_7' le_7' lt_8' ne_8' en_8' le_8' lt_9' ne_9' en_9' le_9' lt_10' ne_10' en_10' le_10' lt_11' ne_11' en_11' le_11' lt_12' ne_12' en_12' le_12'

theorem clone_empty (w : World) : Calls Tryd.prog 63 #[.string ⟨#[]⟩] w fun e w' => e = .returned (.string ⟨#[]⟩) ∧ w' = w := by
  go_enter Tryd.func63, Tryd.ntmps63
  go_wp2
  go_ret
  exact ⟨rfl, rfl⟩
theorem instr_bare (op : Int) (h : op = 1 ∨ op = 2 ∨ op = 3) (w : World) :
    Calls Tryd.prog 41 #[NodV op 0 ⟨#[]⟩ false 0 0 0 0] w fun e w' => e = .returned (InsV op 0 ⟨#[]⟩ false 0 0 0 0) ∧ Below w.heap.size w w' := by
  have HCL := Lib.hid clone_empty
  have q25 : (op == 25) = false := beq_eq_false_iff_ne.2 (by omega)
  have q26 : (op == 26) = false := beq_eq_false_iff_ne.2 (by omega)
  have q27 : (op == 27) = false := beq_eq_false_iff_ne.2 (by omega)
  have q36 : (op == 36) = false := beq_eq_false_iff_ne.2 (by omega)
  clear h
  go_enter Tryd.func41, Tryd.ntmps41
  go_wp2_with fail
  go_region_held3 (fun w' => w'.cell? ⟨w.heap.size, 0, none⟩ = some (.int .i64 op) ∧ w'.cell? ⟨w.heap.size, 2, none⟩ = some (.string ⟨#[]⟩) ∧ w'.cell? ⟨w.heap.size, 3, none⟩ = some (.bool false) ∧ w'.cell? ⟨w.heap.size, 4, none⟩ = some (.int .u64 0) ∧ w'.cell? ⟨w.heap.size, 5, none⟩ = some (.int .u64 0) ∧ w'.cell? ⟨w.heap.size, 6, none⟩ = some (.int .i64 0) ∧ w'.cell? ⟨w.heap.size, 7, none⟩ = some (.int .i64 0)) (simp [go_sem]) (first
    | (go_at_call 63; ((with_reducible refine (HCL.out _).mono ?_); rintro e w' ⟨rfl, rfl⟩)))
  all_goals
    go_wp2
    go_returns
    exact ⟨rfl, by (repeat' (first | (with_reducible exact Below.refl _ _) | (with_reducible assumption) | (with_reducible refine Below.alloc ?_ ?_ _) | (with_reducible refine below_drewN ?_ _) | (with_reducible refine below_drew ?_) | (with_reducible refine below_ext ?_ ?_ _ _) | (with_reducible refine Below.setCell ?_ ?_ _) | (simp; done) | (simp; omega) | omega))⟩
theorem dec_eq0 (w : World) : (Op.equalIn 9999 44 (.agg #[.bool false, .int .u64 0, .int .u64 0, .int .i64 0]) (.agg #[.bool false, .int .u64 0, .int .u64 0, .int .i64 0])).run Tryd.prog w = .ok true w := by
  have u1 := Tryd.underlying4
  have a1 := Tryd.isAgg4
  have z1 := Tryd.sizeOf4
  have u2 := Tryd.underlying3
  have a2 := Tryd.isAgg3
  have z2 := Tryd.sizeOf3
  have a3 := Tryd.isAgg42
  have z3 := Tryd.sizeOf42
  have u4 := Tryd.underlying40
  have a4 := Tryd.isAgg40
  have z4 := Tryd.sizeOf40
  have e : ∀ w, (Op.equalIn 9998 42 (.agg #[.int .u64 0, .int .u64 0]) (.agg #[.int .u64 0, .int .u64 0])).run Tryd.prog w = .ok true w := fun w => by
    have hS : Tryd.prog.underlying 42 = some (.struct (Tryd.prog.fieldsOf 42)) := by kernel_rfl
    have hp : Tryd.prog.stoodInHeld 42 = false := by kernel_rfl
    rw [show (9998 : Nat) = 9997 + 1 from rfl, run_equalIn_agg w 9997 42 _ _ hS hp]
    simp only [Program.fieldsOf, Tryd.underlying42]
    go_simp
  have hS : Tryd.prog.underlying 44 = some (.struct (Tryd.prog.fieldsOf 44)) := by kernel_rfl
  have hp : Tryd.prog.stoodInHeld 44 = false := by kernel_rfl
  rw [show (9999 : Nat) = 9998 + 1 from rfl, run_equalIn_agg w 9998 44 _ _ hS hp]
  simp only [Program.fieldsOf, Tryd.underlying44]
  go_simp
theorem ins_eq (op a : Int) (w : World) : (Op.equalIn 10000 53 (InsV op a ⟨#[]⟩ false 0 0 0 0) (InsV op a ⟨#[]⟩ false 0 0 0 0)).run Tryd.prog w = .ok true w := by
  have u1 := Tryd.underlying9
  have a1 := Tryd.isAgg9
  have z1 := Tryd.sizeOf9
  have u2 := Tryd.underlying3
  have a2 := Tryd.isAgg3
  have z2 := Tryd.sizeOf3
  have a3 := Tryd.isAgg44
  have z3 := Tryd.sizeOf44
  have e := dec_eq0
  have hS : Tryd.prog.underlying 53 = some (.struct (Tryd.prog.fieldsOf 53)) := by kernel_rfl
  have hp : Tryd.prog.stoodInHeld 53 = false := by kernel_rfl
  rw [show (10000 : Nat) = 9999 + 1 from rfl, run_equalIn_agg w 9999 53 _ _ hS hp]
  simp only [Program.fieldsOf, Tryd.underlying53]
  go_simp
/-- a list of instructions of the call's own -/
def isK : El := { T := 53, S := 32, size := 8, bytes := 72, zero := InsV 0 0 ⟨#[]⟩ false 0 0 0 0 }
theorem isK_ok : isK.Ok Tryd.prog := ⟨Tryd.underlying32, by kernel_rfl, by rfl, by decide, by decide, by decide⟩
theorem isE_cells : Cells isK insE := fun s => ⟨rfl, fun u hu => by
  unfold insE at hu
  simp at hu
  rcases hu with rfl | rfl | rfl | rfl | rfl | rfl | rfl | rfl <;> rfl⟩
end Go.Proofs.YtkfkdlneafeglaaDoor
