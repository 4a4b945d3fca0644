/-
  Function and the document's, whatever the name; lists of types compared; nodes of a literal.
  The law's own question on types; CheckFunctions, the law; the listed tables; the row's last step.
-/
import Derived.Test.YtalahkincccffaaGreatDoorBv
import Derived.Test.YtalahkincccffaaGreatDoorChkG
import Derived.Test.YtalahkincccffaaGreatDoorChkH
import Derived.Deep.RegionHeld
import Derived.ProofKit
import Derived.LaidMore
import Derived.LaidLaws
import Derived.MakeChecks
import Derived.OpenShut
import Derived.ShutString
import Derived.Stop.Joined
import Derived.Stop.LaidErr
import Derived.Lib.LaidTab
import Derived.Lib.SmallJoins
import Derived.Lib.LaidU8T
import Derived.PinnedBridge
import Derived.Lay
import Derived.LaidOnce
import Derived.SizedLaws
namespace Go.Proofs.YtalahkincccffaaGreatDoor
open Go.RowKit Go.Maps Go.WideMaps Word Txt
attribute [local go_sem] setCell_drewN cell?_ext frozen?_ext shape?_ext setCell_ext lt_1' ne_1' en_1' le_1' lt_2' ne_2' en_2' le_2' lt_3' ne_3' en_3' le_3' lt_4' ne_4' en_4' le_4' lt_5' ne_5' en_5' le_5' lt_6' ne_6' en_6' le_6' lt_7' ne_7' en_7' le_7' lt_8' ne_8' en_8' le_8' lt_9' ne_9' en_9' le_9' lt_10' ne_10' en_10' le_10' lt_11' ne_11' en_11' le_11' lt_12' ne_12' en_12' le_12'

theorem fn_split (s : ByteArray) : (fnOf s = none ∧ ∀ r ∈ fnTab, (s.data.toList == r.1) = false) ∨ ∃ r ∈ fnTab, s = mkb r.1 ∧ fnOf s = some r.2 := by
  unfold fnOf
  cases h : fnTab.find? fun r => r.1 == s.data.toList with
  | none =>
    refine .inl ⟨rfl, fun r hr => ?_⟩
    have := List.find?_eq_none.1 h r hr
    by_cases e : s.data.toList = r.1
    · rw [e] at this; simp at this
    · simpa using e
  | some r =>
    have h1 := List.find?_some h
    have h2 := List.mem_of_find?_eq_some h
    refine .inr ⟨r, h2, ?_, rfl⟩
    have h3 : r.1 = s.data.toList := by simpa using h1
    cases s with
    | mk d => rw [h3]
set_option maxRecDepth 100000 in
set_option maxHeartbeats 4000000 in
theorem function_any (s : ByteArray) (w : World) (hG : TyG w) : Calls Tryz.prog 76 #[.string s] w fun e w' => FnQ (fnOf s) w e w' := by
  rcases fn_split s with ⟨hq, h⟩ | ⟨r, hr, rfl, hq⟩
  · rw [hq]
    have e0 : (s.toList == [97, 98, 115]) = false := by rw [ByteArray.toList_eq]; exact h ([97, 98, 115], [(2, 0)], (2, 0)) (by simp [fnTab])
    have e1 : (s.toList == [102, 108, 111, 111, 114]) = false := by rw [ByteArray.toList_eq]; exact h ([102, 108, 111, 111, 114], [(2, 0)], (2, 0)) (by simp [fnTab])
    have e2 : (s.toList == [99, 101, 105, 108, 105, 110, 103]) = false := by rw [ByteArray.toList_eq]; exact h ([99, 101, 105, 108, 105, 110, 103], [(2, 0)], (2, 0)) (by simp [fnTab])
    have e3 : (s.toList == [114, 111, 117, 110, 100]) = false := by rw [ByteArray.toList_eq]; exact h ([114, 111, 117, 110, 100], [(2, 0), (2, 0)], (2, 0)) (by simp [fnTab])
    have e4 : (s.toList == [109, 111, 100, 117, 108, 111]) = false := by rw [ByteArray.toList_eq]; exact h ([109, 111, 100, 117, 108, 111], [(2, 0), (2, 0)], (2, 0)) (by simp [fnTab])
    have e5 : (s.toList == [109, 105, 110]) = false := by rw [ByteArray.toList_eq]; exact h ([109, 105, 110], [(5, 2)], (2, 0)) (by simp [fnTab])
    have e6 : (s.toList == [109, 97, 120]) = false := by rw [ByteArray.toList_eq]; exact h ([109, 97, 120], [(5, 2)], (2, 0)) (by simp [fnTab])
    have e7 : (s.toList == [115, 117, 109]) = false := by rw [ByteArray.toList_eq]; exact h ([115, 117, 109], [(5, 2)], (2, 0)) (by simp [fnTab])
    have e8 : (s.toList == [99, 111, 117, 110, 116]) = false := by rw [ByteArray.toList_eq]; exact h ([99, 111, 117, 110, 116], [(5, 0)], (2, 0)) (by simp [fnTab])
    have e9 : (s.toList == [99, 111, 110, 116, 97, 105, 110, 115]) = false := by rw [ByteArray.toList_eq]; exact h ([99, 111, 110, 116, 97, 105, 110, 115], [(3, 0), (3, 0)], (1, 0)) (by simp [fnTab])
    have e10 : (s.toList == [115, 116, 97, 114, 116, 115]) = false := by rw [ByteArray.toList_eq]; exact h ([115, 116, 97, 114, 116, 115], [(3, 0), (3, 0)], (1, 0)) (by simp [fnTab])
    have e11 : (s.toList == [108, 101, 110, 103, 116, 104]) = false := by rw [ByteArray.toList_eq]; exact h ([108, 101, 110, 103, 116, 104], [(3, 0)], (2, 0)) (by simp [fnTab])
    have e12 : (s.toList == [115, 117, 98, 115, 116, 114, 105, 110, 103]) = false := by rw [ByteArray.toList_eq]; exact h ([115, 117, 98, 115, 116, 114, 105, 110, 103], [(3, 0), (2, 0), (2, 0)], (3, 0)) (by simp [fnTab])
    have e13 : (s.toList == [117, 112, 112, 101, 114]) = false := by rw [ByteArray.toList_eq]; exact h ([117, 112, 112, 101, 114], [(3, 0)], (3, 0)) (by simp [fnTab])
    have e14 : (s.toList == [108, 111, 119, 101, 114]) = false := by rw [ByteArray.toList_eq]; exact h ([108, 111, 119, 101, 114], [(3, 0)], (3, 0)) (by simp [fnTab])
    have e15 : (s.toList == [100, 97, 116, 101]) = false := by rw [ByteArray.toList_eq]; exact h ([100, 97, 116, 101], [(3, 0)], (4, 0)) (by simp [fnTab])
    have e16 : (s.toList == [121, 101, 97, 114]) = false := by rw [ByteArray.toList_eq]; exact h ([121, 101, 97, 114], [(4, 0)], (2, 0)) (by simp [fnTab])
    have e17 : (s.toList == [109, 111, 110, 116, 104]) = false := by rw [ByteArray.toList_eq]; exact h ([109, 111, 110, 116, 104], [(4, 0)], (2, 0)) (by simp [fnTab])
    have e18 : (s.toList == [100, 97, 121]) = false := by rw [ByteArray.toList_eq]; exact h ([100, 97, 121], [(4, 0)], (2, 0)) (by simp [fnTab])
    have e19 : (s.toList == [119, 101, 101, 107, 100, 97, 121]) = false := by rw [ByteArray.toList_eq]; exact h ([119, 101, 101, 107, 100, 97, 121], [(4, 0)], (2, 0)) (by simp [fnTab])
    have e20 : (s.toList == [100, 97, 121, 115]) = false := by rw [ByteArray.toList_eq]; exact h ([100, 97, 121, 115], [(4, 0), (2, 0)], (4, 0)) (by simp [fnTab])
    have e21 : (s.toList == [109, 111, 110, 116, 104, 115]) = false := by rw [ByteArray.toList_eq]; exact h ([109, 111, 110, 116, 104, 115], [(4, 0), (2, 0)], (4, 0)) (by simp [fnTab])
    have e22 : (s.toList == [110, 101, 103, 97, 116, 101]) = false := by rw [ByteArray.toList_eq]; exact h ([110, 101, 103, 97, 116, 101], [(1, 0)], (1, 0)) (by simp [fnTab])
    have e23 : (s.toList == [97, 112, 112, 101, 110, 100]) = false := by rw [ByteArray.toList_eq]; exact h ([97, 112, 112, 101, 110, 100], [(5, 0), (0, 0)], (5, 0)) (by simp [fnTab])
    have e24 : (s.toList == [115, 116, 114, 105, 110, 103]) = false := by rw [ByteArray.toList_eq]; exact h ([115, 116, 114, 105, 110, 103], [(0, 0)], (3, 0)) (by simp [fnTab])
    clear h hq
    clear hG
    go_enter Tryz.func76, Tryz.ntmps76
    go_wp2
    go_returns
    exact (show _ ∧ _ from ⟨rfl, by (repeat' (first | (with_reducible first | exact Below.refl _ _ | assumption | refine Below.alloc ?_ ?_ _ | refine below_drewN ?_ _ | refine below_drew ?_ | refine below_ext ?_ ?_ _ _ | refine Below.setCell ?_ ?_ _) | (simp; done) | (simp; omega) | omega))⟩)
  · rw [hq]
    simp only [fnTab, List.mem_cons, List.mem_nil_iff, or_false] at hr
    rcases hr with rfl | rfl | rfl | rfl | rfl | rfl | rfl | rfl | rfl | rfl | rfl | rfl | rfl | rfl | rfl | rfl | rfl | rfl | rfl | rfl | rfl | rfl | rfl | rfl | rfl
    · exact fn_abs w hG
    · exact fn_floor w hG
    · exact fn_ceiling w hG
    · exact fn_round w hG
    · exact fn_modulo w hG
    · exact fn_min w hG
    · exact fn_max w hG
    · exact fn_sum w hG
    · exact fn_count w hG
    · exact fn_contains w hG
    · exact fn_starts w hG
    · exact fn_length w hG
    · exact fn_substring w hG
    · exact fn_upper w hG
    · exact fn_lower w hG
    · exact fn_date w hG
    · exact fn_year w hG
    · exact fn_month w hG
    · exact fn_day w hG
    · exact fn_weekday w hG
    · exact fn_days w hG
    · exact fn_months w hG
    · exact fn_negate w hG
    · exact fn_append w hG
    · exact fn_string w hG
set_option maxRecDepth 100000 in
set_option maxHeartbeats 4000000 in
theorem rfunction_any (s : ByteArray) (w : World) : Calls Tryz.prog 87 #[.string s] w fun e w' => FnQ (fnOf s) w e w' := by
  rcases fn_split s with ⟨hq, h⟩ | ⟨r, hr, rfl, hq⟩
  · rw [hq]
    have e0 : (s.toList == [97, 98, 115]) = false := by rw [ByteArray.toList_eq]; exact h ([97, 98, 115], [(2, 0)], (2, 0)) (by simp [fnTab])
    have e1 : (s.toList == [102, 108, 111, 111, 114]) = false := by rw [ByteArray.toList_eq]; exact h ([102, 108, 111, 111, 114], [(2, 0)], (2, 0)) (by simp [fnTab])
    have e2 : (s.toList == [99, 101, 105, 108, 105, 110, 103]) = false := by rw [ByteArray.toList_eq]; exact h ([99, 101, 105, 108, 105, 110, 103], [(2, 0)], (2, 0)) (by simp [fnTab])
    have e3 : (s.toList == [114, 111, 117, 110, 100]) = false := by rw [ByteArray.toList_eq]; exact h ([114, 111, 117, 110, 100], [(2, 0), (2, 0)], (2, 0)) (by simp [fnTab])
    have e4 : (s.toList == [109, 111, 100, 117, 108, 111]) = false := by rw [ByteArray.toList_eq]; exact h ([109, 111, 100, 117, 108, 111], [(2, 0), (2, 0)], (2, 0)) (by simp [fnTab])
    have e5 : (s.toList == [109, 105, 110]) = false := by rw [ByteArray.toList_eq]; exact h ([109, 105, 110], [(5, 2)], (2, 0)) (by simp [fnTab])
    have e6 : (s.toList == [109, 97, 120]) = false := by rw [ByteArray.toList_eq]; exact h ([109, 97, 120], [(5, 2)], (2, 0)) (by simp [fnTab])
    have e7 : (s.toList == [115, 117, 109]) = false := by rw [ByteArray.toList_eq]; exact h ([115, 117, 109], [(5, 2)], (2, 0)) (by simp [fnTab])
    have e8 : (s.toList == [99, 111, 117, 110, 116]) = false := by rw [ByteArray.toList_eq]; exact h ([99, 111, 117, 110, 116], [(5, 0)], (2, 0)) (by simp [fnTab])
    have e9 : (s.toList == [99, 111, 110, 116, 97, 105, 110, 115]) = false := by rw [ByteArray.toList_eq]; exact h ([99, 111, 110, 116, 97, 105, 110, 115], [(3, 0), (3, 0)], (1, 0)) (by simp [fnTab])
    have e10 : (s.toList == [115, 116, 97, 114, 116, 115]) = false := by rw [ByteArray.toList_eq]; exact h ([115, 116, 97, 114, 116, 115], [(3, 0), (3, 0)], (1, 0)) (by simp [fnTab])
    have e11 : (s.toList == [108, 101, 110, 103, 116, 104]) = false := by rw [ByteArray.toList_eq]; exact h ([108, 101, 110, 103, 116, 104], [(3, 0)], (2, 0)) (by simp [fnTab])
    have e12 : (s.toList == [115, 117, 98, 115, 116, 114, 105, 110, 103]) = false := by rw [ByteArray.toList_eq]; exact h ([115, 117, 98, 115, 116, 114, 105, 110, 103], [(3, 0), (2, 0), (2, 0)], (3, 0)) (by simp [fnTab])
    have e13 : (s.toList == [117, 112, 112, 101, 114]) = false := by rw [ByteArray.toList_eq]; exact h ([117, 112, 112, 101, 114], [(3, 0)], (3, 0)) (by simp [fnTab])
    have e14 : (s.toList == [108, 111, 119, 101, 114]) = false := by rw [ByteArray.toList_eq]; exact h ([108, 111, 119, 101, 114], [(3, 0)], (3, 0)) (by simp [fnTab])
    have e15 : (s.toList == [100, 97, 116, 101]) = false := by rw [ByteArray.toList_eq]; exact h ([100, 97, 116, 101], [(3, 0)], (4, 0)) (by simp [fnTab])
    have e16 : (s.toList == [121, 101, 97, 114]) = false := by rw [ByteArray.toList_eq]; exact h ([121, 101, 97, 114], [(4, 0)], (2, 0)) (by simp [fnTab])
    have e17 : (s.toList == [109, 111, 110, 116, 104]) = false := by rw [ByteArray.toList_eq]; exact h ([109, 111, 110, 116, 104], [(4, 0)], (2, 0)) (by simp [fnTab])
    have e18 : (s.toList == [100, 97, 121]) = false := by rw [ByteArray.toList_eq]; exact h ([100, 97, 121], [(4, 0)], (2, 0)) (by simp [fnTab])
    have e19 : (s.toList == [119, 101, 101, 107, 100, 97, 121]) = false := by rw [ByteArray.toList_eq]; exact h ([119, 101, 101, 107, 100, 97, 121], [(4, 0)], (2, 0)) (by simp [fnTab])
    have e20 : (s.toList == [100, 97, 121, 115]) = false := by rw [ByteArray.toList_eq]; exact h ([100, 97, 121, 115], [(4, 0), (2, 0)], (4, 0)) (by simp [fnTab])
    have e21 : (s.toList == [109, 111, 110, 116, 104, 115]) = false := by rw [ByteArray.toList_eq]; exact h ([109, 111, 110, 116, 104, 115], [(4, 0), (2, 0)], (4, 0)) (by simp [fnTab])
    have e22 : (s.toList == [110, 101, 103, 97, 116, 101]) = false := by rw [ByteArray.toList_eq]; exact h ([110, 101, 103, 97, 116, 101], [(1, 0)], (1, 0)) (by simp [fnTab])
    have e23 : (s.toList == [97, 112, 112, 101, 110, 100]) = false := by rw [ByteArray.toList_eq]; exact h ([97, 112, 112, 101, 110, 100], [(5, 0), (0, 0)], (5, 0)) (by simp [fnTab])
    have e24 : (s.toList == [115, 116, 114, 105, 110, 103]) = false := by rw [ByteArray.toList_eq]; exact h ([115, 116, 114, 105, 110, 103], [(0, 0)], (3, 0)) (by simp [fnTab])
    clear h hq
    have HO := Lib.hid cof_any
    go_enter Tryz.func87, Tryz.ntmps87
    go_wp2_with (first | (go_at_call 66; ((with_reducible refine (HO.out _ _).mono ?_); rintro e w1 ⟨rfl, hb1⟩; obtain ⟨os1, d1, rfl⟩ := ext_of_below hb1; clear hb1)))
    go_returns
    exact (show _ ∧ _ from ⟨rfl, by (repeat' (first | (with_reducible first | exact Below.refl _ _ | assumption | refine Below.alloc ?_ ?_ _ | refine below_drewN ?_ _ | refine below_drew ?_ | refine below_ext ?_ ?_ _ _ | refine Below.setCell ?_ ?_ _) | (simp; done) | (simp; omega) | omega))⟩)
  · rw [hq]
    simp only [fnTab, List.mem_cons, List.mem_nil_iff, or_false] at hr
    rcases hr with rfl | rfl | rfl | rfl | rfl | rfl | rfl | rfl | rfl | rfl | rfl | rfl | rfl | rfl | rfl | rfl | rfl | rfl | rfl | rfl | rfl | rfl | rfl | rfl | rfl
    · exact rfn_abs w
    · exact rfn_floor w
    · exact rfn_ceiling w
    · exact rfn_round w
    · exact rfn_modulo w
    · exact rfn_min w
    · exact rfn_max w
    · exact rfn_sum w
    · exact rfn_count w
    · exact rfn_contains w
    · exact rfn_starts w
    · exact rfn_length w
    · exact rfn_substring w
    · exact rfn_upper w
    · exact rfn_lower w
    · exact rfn_date w
    · exact rfn_year w
    · exact rfn_month w
    · exact rfn_day w
    · exact rfn_weekday w
    · exact rfn_days w
    · exact rfn_months w
    · exact rfn_negate w
    · exact rfn_append w
    · exact rfn_string w
def ndK8 : El := { T := 0, S := 0, size := 8, bytes := 8, zero := .agg #[] }
theorem ndE_cells8 : Cells ndK8 ndE := fun s => ⟨rfl, fun u hu => by
  unfold ndE at hu
  simp at hu
  rcases hu with rfl | rfl | rfl | rfl | rfl | rfl | rfl | rfl <;> rfl⟩
theorem rl_lit {w : World} {g c : Nat} {T : TypeId} {row : Array Value} (l : List NdD) (h : w.heap[g]? = some (.cells row T)) (hr : row = (l.flatMap ndE).toArray) : RL 8 ndE w.heap.size w (.slice (some ⟨g, 0, none⟩) l.length c) l := by
  subst hr
  refine ⟨_, c, rfl, fun _ => ⟨g, 0, rfl, (Array.getElem?_eq_some_iff.1 h).1, fun j hj i u hu => ?_⟩⟩
  rw [cell_of_row _ _ _ _ _ _ h, List.getElem?_toArray, show 0 + j * 8 + i = j * ndK8.size + i by show 0 + j * 8 + i = j * 8 + i; omega, flat_at ndE_cells8 l j i hj (by
    have := (List.getElem?_eq_some_iff.1 hu).1
    exact this)]
  exact hu
end Go.Proofs.YtalahkincccffaaGreatDoor
namespace Go.Proofs.YtalahkincccffaaGreatDoor
open Go.ChangeShapes Go.WideShapes Go.ChangeAt Go.RowKit Go.Joins Word Txt
attribute [local go_sem] setCell_drewN cell?_ext frozen?_ext shape?_ext setCell_ext lt_1' ne_1' en_1' le_1' lt_2' ne_2' en_2' le_2' lt_3' ne_3' en_3' le_3' lt_4' ne_4' en_4' le_4' lt_5' ne_5' en_5' le_5' lt_6' ne_6' en_6' le_6' lt_7' ne_7' en_7' le_7' lt_8' ne_8' en_8' le_8' lt_9' ne_9' en_9' le_9' lt_10' ne_10' en_10' le_10' lt_11' ne_11' en_11' le_11' lt_12' ne_12' en_12' le_12'

theorem heap_alloc_at {w : World} (o : Obj) {n : Nat} (h : n = w.heap.size) : (w.alloc o).heap[n]? = some o := by subst h; exact heap_alloc_new w o
set_option maxRecDepth 100000 in
theorem arr_lst : (#[.int .i64 4, .int .i64 0, .string ⟨#[]⟩, .bool false, .int .u64 0, .int .u64 1, .int .i64 0, .int .i64 0, .int .i64 4, .int .i64 0, .string ⟨#[]⟩, .bool false, .int .u64 0, .int .u64 1, .int .i64 0, .int .i64 0, .int .i64 26, .int .i64 2, .string ⟨#[]⟩, .bool false, .int .u64 0, .int .u64 0, .int .i64 0, .int .i64 0] : Array Value) = (lstN.flatMap ndE).toArray := by rfl
set_option maxRecDepth 100000 in
theorem arr_sum : (#[.int .i64 4, .int .i64 0, .string ⟨#[]⟩, .bool false, .int .u64 0, .int .u64 1, .int .i64 0, .int .i64 0, .int .i64 5, .int .i64 0, .string ⟨#[]⟩, .bool false, .int .u64 0, .int .u64 0, .int .i64 0, .int .i64 0, .int .i64 9, .int .i64 2, .string ⟨#[]⟩, .bool false, .int .u64 0, .int .u64 0, .int .i64 0, .int .i64 0] : Array Value) = (sumN2.flatMap ndE).toArray := by rfl
set_option maxRecDepth 100000 in
set_option maxHeartbeats 4000000 in
theorem chkknown_any (w : World) (hG : TyG w) (hT : Tens w) (hU : Tabs w) : Calls Tryz.prog 5 #[] w fun e w' => e = .returned (.bool true) ∧ Below w.heap.size w w' := by
  have HX1 := Lib.hid (show ∀ w' g c, Below w.heap.size w w' → w'.heap[g]? = some (.cells #[.int .i64 4, .int .i64 0, .string ⟨#[]⟩, .bool false, .int .u64 0, .int .u64 1, .int .i64 0, .int .i64 0, .int .i64 4, .int .i64 0, .string ⟨#[]⟩, .bool false, .int .u64 0, .int .u64 1, .int .i64 0, .int .i64 0, .int .i64 26, .int .i64 2, .string ⟨#[]⟩, .bool false, .int .u64 0, .int .u64 0, .int .i64 0, .int .i64 0] 39) → Calls Tryz.prog 7 #[.slice (some ⟨g, 0, none⟩) 3 c, .slice none 0 0] w' fun e w'' => e = .returned (.tuple #[.agg #[.int .i64 5, .int .i64 2], .int .i64 0]) ∧ Below w'.heap.size w' w'' from fun w' g c hb h =>
    expr_plain lstN (5, 2) 0 w'.heap.size w' _ (rl_lit (c := c) lstN h arr_lst) (Nat.le_refl _) (by decide) (fun x hx => by
      simp only [List.mem_cons, List.mem_nil_iff, or_false] at hx
      rcases hx with rfl | rfl | rfl <;> exact wf_ndC _ _ _ (by decide) (by decide)) (hT.below hb) (hU.below hb) chk_lst (fun m w2 hb2 => run_lst m w2 ((hG.below hb).below hb2)))
  have HX2 := Lib.hid (show ∀ w' g c, Below w.heap.size w w' → w'.heap[g]? = some (.cells #[.int .i64 4, .int .i64 0, .string ⟨#[]⟩, .bool false, .int .u64 0, .int .u64 1, .int .i64 0, .int .i64 0, .int .i64 5, .int .i64 0, .string ⟨#[]⟩, .bool false, .int .u64 0, .int .u64 0, .int .i64 0, .int .i64 0, .int .i64 9, .int .i64 2, .string ⟨#[]⟩, .bool false, .int .u64 0, .int .u64 0, .int .i64 0, .int .i64 0] 39) → Calls Tryz.prog 7 #[.slice (some ⟨g, 0, none⟩) 3 c, .slice none 0 0] w' fun e w'' => e = .returned (.tuple #[.agg #[.int .i64 0, .int .i64 0], .int .i64 9]) ∧ Below w'.heap.size w' w'' from fun w' g c hb h =>
    expr_plain sumN2 (0, 0) 9 w'.heap.size w' _ (rl_lit (c := c) sumN2 h arr_sum) (Nat.le_refl _) (by decide) (fun x hx => by
      simp only [List.mem_cons, List.mem_nil_iff, or_false] at hx
      rcases hx with rfl | rfl | rfl <;> exact wf_ndC _ _ _ (by decide) (by decide)) (hT.below hb) (hU.below hb) chk_sum (fun m w2 hb2 => run_sum m w2 ((hG.below hb).below hb2)))
  have hmg : Tryz.prog.eqGuardType Tryz.prog.depth 26 = false := by kernel_rfl
  have e1 : ∀ w, (Op.equalIn 10000 26 (.agg #[.int .i64 5, .int .i64 2]) (.agg #[.int .i64 5, .int .i64 2])).run Tryz.prog w = .ok true w := fun w => ty_eq (5, 2) (5, 2) w
  clear hG hT hU
  go_enter Tryz.func5, Tryz.ntmps5
  go_wp2_with (first
    | (go_at_call 7; (with_reducible refine (HX1.out _ _ _ (by (repeat' (first | (with_reducible first | exact Below.refl _ _ | assumption | refine Below.alloc ?_ ?_ _ | refine below_drewN ?_ _ | refine below_drew ?_ | refine below_ext ?_ ?_ _ _ | refine Below.setCell ?_ ?_ _) | (simp; done) | (simp; omega) | omega))) (heap_alloc_at _ (by simp))).mono ?_); rintro e w1 ⟨rfl, hb1⟩; obtain ⟨osA, dA, rfl⟩ := ext_of_below hb1; clear hb1)
    | (go_at_call 7; (with_reducible refine (HX2.out _ _ _ (by (repeat' (first | (with_reducible first | exact Below.refl _ _ | assumption | refine Below.alloc ?_ ?_ _ | refine below_drewN ?_ _ | refine below_drew ?_ | refine below_ext ?_ ?_ _ _ | refine Below.setCell ?_ ?_ _) | (simp; done) | (simp; omega) | omega))) (heap_alloc_at _ (by simp))).mono ?_); rintro e w1 ⟨rfl, hb1⟩; obtain ⟨osB, dB, rfl⟩ := ext_of_below hb1; clear hb1))
  go_ret
  exact ⟨rfl, by (repeat' (first | (with_reducible first | exact Below.refl _ _ | assumption | refine Below.alloc ?_ ?_ _ | refine below_drewN ?_ _ | refine below_drew ?_ | refine below_ext ?_ ?_ _ _ | refine Below.setCell ?_ ?_ _) | (simp; done) | (simp; omega) | omega))⟩
def checkLaid : List (String × DataW Unit) := [("unicode/utf8.acceptRanges", Rows.laid_unicode_utf8_acceptRanges), ("tariff/wide.tens", Rows.laid_tariff_wide_tens), ("tariff/check.anything", Rows.laid_tariff_check_anything), ("tariff/check.boolean", Rows.laid_tariff_check_boolean), ("tariff/check.number", Rows.laid_tariff_check_number), ("tariff/check.text", Rows.laid_tariff_check_text), ("tariff/check.day", Rows.laid_tariff_check_day), ("tariff/check.list", Rows.laid_tariff_check_list), ("tariff/check.numbers", Rows.laid_tariff_check_numbers), ("unicode/utf8.first", Rows.laid_unicode_utf8_first)]
theorem hgTensC : Tryz.prog.globalNamed "tariff/wide.tens" = some 9 := by kernel_rfl
theorem htTensC : (Tryz.prog.globals[9]?).map (·.type) = some 144 := by kernel_rfl
theorem hcWordC : Tryz.prog.cellsOf 33 = 1 := by kernel_rfl
theorem hcTensC : Tryz.prog.cellsOf 144 = 20 := by kernel_rfl
def htensC_List : List Int := [1, 10, 100, 1000, 10000, 100000, 1000000, 10000000, 100000000, 1000000000, 10000000000, 100000000000, 1000000000000, 10000000000000, 100000000000000, 1000000000000000, 10000000000000000, 100000000000000000, 1000000000000000000, 10000000000000000000]
theorem htensC__data : (Rows.laid_tariff_wide_tens : DataW Unit) = Lib.tabData .u64 htensC_List := rfl
theorem htensC__at : ∀ j : Fin 20, htensC_List.getD j.val 0 = ((10 ^ j.val : Nat) : Int) := by decide
theorem haccept_dataC : (Rows.laid_unicode_utf8_acceptRanges : DataW Unit) = Lib.acceptData := by kernel_rfl
theorem hfirst_dataC : Rows.laid_unicode_utf8_first = Lib.firstData := Pinned.utf8First_eq
theorem hxU8C : U8Extra Tryz.prog Tryz.lays196_ren := ⟨by kernel_rfl, by kernel_rfl, by kernel_rfl, by kernel_rfl, by kernel_rfl, by kernel_rfl, by kernel_rfl⟩
theorem ty_var {W : World} {nm : String} {g : Nat} (a b : Int) (hg : Tryz.prog.globalNamed nm = some g) (ht : (Tryz.prog.globals[g]?).map (·.type) = some 26) (h : Lib.VarReads Tryz.prog W nm (.agg [.lit (.int .i64 a), .lit (.int .i64 b)])) : g < W.heap.size ∧ W.cell? ⟨g, 0, none⟩ = some (.int .i64 a) ∧ W.cell? ⟨g, 1, none⟩ = some (.int .i64 b) := by
  obtain ⟨g', t', cs, fuel, p, hg', ht', hvar, hd⟩ := h
  obtain rfl := Option.some.inj (hg.symm.trans hg')
  obtain rfl := Option.some.inj (ht.symm.trans ht')
  have hcs := Lib.ints_of_struct (zs := [a, b]) (k := .i64) Tryz.underlying26 (fun i f hf => by
    match i, hf with
    | 0, hf => cases hf; exact ⟨Tryz.underlying3, rfl, by kernel_rfl⟩
    | 1, hf => cases hf; exact ⟨Tryz.underlying3, rfl, by kernel_rfl⟩) (by kernel_rfl) hd
  have hc : ∀ j, W.cell? ⟨g, j, none⟩ = ([Value.int .i64 a, Value.int .i64 b] : List Value)[j]? := fun j => by
    have h9 := World.var?_cell hg hvar j
    rw [h9, ← Array.getElem?_toList, hcs]; rfl
  exact ⟨World.block_lt_of_cell? W _ (hc 0), hc 0, hc 1⟩
theorem cfacts_of_laid {W : World} (h : laidMetH Tryz.prog checkLaid W) : TyG W ∧ Tens W ∧ Tabs W := by
  rw [MakeChecks.laidMetH_plain _ _ _ (by kernel_rfl)] at h
  obtain ⟨s0, x0, y0⟩ := ty_var 0 0 (g := 3) (by kernel_rfl) (by kernel_rfl) (Lib.laidMet.reads h (n := "tariff/check.anything") (d := Rows.laid_tariff_check_anything) (.tail _ (.tail _ (.head _))))
  obtain ⟨s1, x1, y1⟩ := ty_var 1 0 (g := 0) (by kernel_rfl) (by kernel_rfl) (Lib.laidMet.reads h (n := "tariff/check.boolean") (d := Rows.laid_tariff_check_boolean) (.tail _ (.tail _ (.tail _ (.head _)))))
  obtain ⟨s2, x2, y2⟩ := ty_var 2 0 (g := 1) (by kernel_rfl) (by kernel_rfl) (Lib.laidMet.reads h (n := "tariff/check.number") (d := Rows.laid_tariff_check_number) (.tail _ (.tail _ (.tail _ (.tail _ (.head _))))))
  obtain ⟨s3, x3, y3⟩ := ty_var 3 0 (g := 2) (by kernel_rfl) (by kernel_rfl) (Lib.laidMet.reads h (n := "tariff/check.text") (d := Rows.laid_tariff_check_text) (.tail _ (.tail _ (.tail _ (.tail _ (.tail _ (.head _)))))))
  obtain ⟨s4, x4, y4⟩ := ty_var 4 0 (g := 5) (by kernel_rfl) (by kernel_rfl) (Lib.laidMet.reads h (n := "tariff/check.day") (d := Rows.laid_tariff_check_day) (.tail _ (.tail _ (.tail _ (.tail _ (.tail _ (.tail _ (.head _))))))))
  obtain ⟨s5, x5, y5⟩ := ty_var 5 0 (g := 4) (by kernel_rfl) (by kernel_rfl) (Lib.laidMet.reads h (n := "tariff/check.list") (d := Rows.laid_tariff_check_list) (.tail _ (.tail _ (.tail _ (.tail _ (.tail _ (.tail _ (.tail _ (.head _)))))))))
  obtain ⟨s6, x6, y6⟩ := ty_var 5 2 (g := 6) (by kernel_rfl) (by kernel_rfl) (Lib.laidMet.reads h (n := "tariff/check.numbers") (d := Rows.laid_tariff_check_numbers) (.tail _ (.tail _ (.tail _ (.tail _ (.tail _ (.tail _ (.tail _ (.tail _ (.head _))))))))))
  have h2 := Lib.laidMet.reads h (n := "tariff/wide.tens") (d := Rows.laid_tariff_wide_tens) (.tail _ (.head _))
  have h3 := Lib.laidMet.reads h (n := "unicode/utf8.first") (d := Rows.laid_unicode_utf8_first) (.tail _ (.tail _ (.tail _ (.tail _ (.tail _ (.tail _ (.tail _ (.tail _ (.tail _ (.head _))))))))))
  have h4 := Lib.laidMet.reads h (n := "unicode/utf8.acceptRanges") (d := Rows.laid_unicode_utf8_acceptRanges) (.head _)
  refine ⟨⟨⟨s2, s6, s5, s3, s1, s4, s0⟩, x2, y2, x6, y6, x5, y5, x3, y3, x1, y1, x4, y4, x0, y0⟩, ?_, ?_⟩
  · rw [htensC__data] at h2
    obtain ⟨g', t', cs, fuel, p, hg', ht', hvar, hd⟩ := h2
    obtain rfl := Option.some.inj (hgTensC.symm.trans hg')
    obtain rfl := Option.some.inj (htTensC.symm.trans ht')
    have hti : Lib.TabIs Tryz.prog W "tariff/wide.tens" .u64 htensC_List := by
      unfold Lib.TabIs
      rw [hvar, ← Lib.cells_of_tab Tryz.underlying144 Tryz.underlying33 hcWordC hcTensC hd]
    have hc : ∀ j, j < 20 → W.cell? ⟨9, j, none⟩ = some (.int .u64 (p10 j : Int)) := fun j hj => by
      have := Lib.TabIs.cell hti hgTensC j hj
      rw [htensC__at ⟨j, hj⟩] at this
      exact this
    exact ⟨World.block_lt_of_cell? W _ (hc 0 (by decide)), hc⟩
  · rw [hfirst_dataC] at h3
    rw [haccept_dataC] at h4
    have hT : Lib.Utf8Tabs 7 8 W := utf8Tabs_of_readsT (U8Types.of196 Tryz.lays196) hxU8C h3 h4
    exact ⟨hT, World.block_lt_of_cell? W _ (hT.1 0 (by decide)), World.block_lt_of_cell? W _ (hT.2 0 (by decide)).1⟩
end Go.Proofs.YtalahkincccffaaGreatDoor
