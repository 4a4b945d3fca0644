/-
  A number as a value; 12 printed: what the statements on values ask first.
-/
import Derived.Test.YtjkallelniggpaaGreatDoorValE
import Derived.Lib.BufSteps
import Derived.Laws.BytesArg
import Derived.Laws.IdiomStrings
import Derived.OwnWalk
namespace Go.Proofs.YtjkallelniggpaaGreatDoor
open Go.RowKit Word Txt
attribute [local go_sem] setCell_drewN cell?_ext frozen?_ext shape?_ext setCell_ext lt_1' ne_1' en_1' le_1' lt_2' ne_2' en_2' le_2' lt_3' ne_3' en_3' le_3' lt_4' ne_4' en_4' le_4' lt_5' ne_5' en_5' le_5' lt_6' ne_6' en_6' le_6' lt_7' ne_7' en_7' le_7' lt_8' ne_8' en_8' le_8' lt_9' ne_9' en_9' le_9' lt_10' ne_10' en_10' le_10' lt_11' ne_11' en_11' le_11' lt_12' ne_12' en_12' le_12'

/-- a small whole number as a value -/
abbrev NumC (n : Int) : Value := .agg #[.int .i64 2, .bool false, .bool false, .int .u64 0, .int .u64 n, .int .i64 0, .string ⟨#[]⟩, .int .i64 0, .slice none 0 0, .slice none 0 0]
def NumV (n : Nat) : V := .mk 2 false false n 0 ⟨#[]⟩ 0 [] []
theorem numV_at (n : Nat) (hn : n < 18446744073709551616) (b : Nat) (w : World) : (NumV n).At b w (NumC (n : Int)) := by
  unfold NumV V.At
  refine ⟨.slice none 0 0, .slice none 0 0, ?_, ⟨by unfold top2; omega, by decide, by simp, by simp⟩, .inl ⟨rfl, none, 0, rfl⟩, .inl ⟨rfl, none, 0, rfl⟩, by simp⟩
  have h1 : hi n = 0 := by unfold hi; omega
  have h2 : lo n = n := by unfold lo; omega
  unfold NumC VC
  rw [h1, h2]
  rfl
theorem numV_form (n : Nat) (hn : n < 18446744073709551616) : (NumV n).form = true := by
  unfold NumV V.form
  rw [soundB_is, if_pos rfl]
  have h1 : formB false n 0 = true := form_mk (S := 0) (by omega) (by omega) (by simp) (by simp)
  rw [h1]
  unfold bareB formL
  simp
  rfl
theorem numV_code (n : Nat) (hn : n < 18446744073709551616) : (NumV n).code = 0 := by
  refine code_form ?_ ?_ (numV_form n hn)
  · unfold NumV V.count countL; omega
  · unfold NumV V.depth depthL; omega
theorem infoB7 : (Tryz.prog.info? 5).map (fun i => (i.zero, i.size, i.bytes)) = some (some (.int .u8 0), 1, 1) := by kernel_rfl
/-- the slice v holds the bytes l in a row of the call's own -/
abbrev Buf7 (B : Nat) (v : Value) (l : List UInt8) (W0 w : World) : Prop := Lib.OwnBuf B 5 v l.length (Lib.byteCells l) W0 w
theorem Buf7.nil (W0 : World) {w : World} (hb : Below W0.heap.size W0 w) : Buf7 W0.heap.size (.slice none 0 0) [] W0 w :=
  ⟨World.ownsRowF_of (World.ownsRow_nil _ _ _ _), hb, hb.size⟩
theorem Buf7.conv {B : Nat} {v : Value} {l : List UInt8} {W0 w : World} (h : Buf7 B v l W0 w) : (convert 107 9 v).run Tryz.prog w = .ok (.string ⟨l.toArray⟩) w := by
  have hh := h
  obtain ⟨⟨hlen, hv⟩, _, _⟩ := hh
  rcases hv with ⟨rfl, h0⟩ | ⟨g, cap, cur, fz, rfl, _⟩
  · have : l = [] := List.eq_nil_of_length_eq_zero h0
    subst this
    exact run_convert_bytes_nil w 107 5 Tryz.underlying107 Tryz.underlying5 0 0 9 Tryz.underlying9
  · exact run_convert_bytes_back w 107 9 5 ⟨g, 0, none⟩ cap l Tryz.underlying107 Tryz.underlying5 Tryz.underlying9 (fun j hj => h.1.cells (g := g) (by simp [Value.ownBlock]) j _ (by simp [Lib.byteCells, hj]))
end Go.Proofs.YtjkallelniggpaaGreatDoor
