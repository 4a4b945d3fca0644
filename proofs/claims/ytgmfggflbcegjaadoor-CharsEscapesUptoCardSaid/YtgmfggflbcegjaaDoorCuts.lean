/-
  Contracts of chars.Count and Part, and the law CharsCuts.
-/
import Derived.Test.YtgmfggflbcegjaaDoorCharsLaid
import Derived.Test.YtgmfggflbcegjaaDoorPath
namespace Go.Proofs.YtgmfggflbcegjaaDoor
open Go.RowKit Txt
attribute [local go_sem] setCell_drewN cell?_ext frozen?_ext shape?_ext setCell_ext lt_1' ne_1' en_1' le_1' lt_2' ne_2' en_2' le_2' lt_3' ne_3' en_3' le_3' lt_4' ne_4' en_4' le_4' lt_5' ne_5' en_5' le_5' lt_6' ne_6' en_6' le_6' lt_7' ne_7' en_7' le_7' lt_8' ne_8' en_8' le_8' lt_9' ne_9' en_9' le_9' lt_10' ne_10' en_10' le_10' lt_11' ne_11' en_11' le_11' lt_12' ne_12' en_12' le_12'

theorem clone_any (s : ByteArray) (w : World) (hs : s.size ≤ 140737488351232) :
    Calls Tryd.prog 103 #[.string s] w fun e w' => e = .returned (.string s) ∧ Below w.heap.size w w' := by
  have hC := Tryd.stringslite_Clone s w (by omega)
  have HC := Lib.hid hC
  clear hC
  go_enter Tryd.func103, Tryd.ntmps103
  go_wp2_with (go_at_call 112; ((with_reducible refine (HC.out).mono ?_); rintro e w1 ⟨rfl, hb1⟩; obtain ⟨osA, dA, rfl⟩ := ext_of_below hb1; clear hb1))
  go_ret
  exact ⟨rfl, by (repeat' (first | (with_reducible exact Below.refl _ _) | (with_reducible assumption) | (with_reducible refine Below.alloc ?_ ?_ _) | (with_reducible refine below_drewN ?_ _) | (with_reducible refine below_drew ?_) | (with_reducible refine below_ext ?_ ?_ _ _) | (with_reducible refine Below.setCell ?_ ?_ _) | (simp; done) | (simp; omega) | omega))⟩
theorem maxLen_of {n : Nat} (h : n ≤ 140737488351232) : n ≤ maxLen := by unfold maxLen; omega
theorem escape_bad (s : ByteArray) (attr : Bool) (hs : s.size ≤ 140737488351232) (ht : isText s = false) (w : World) (hT : Tabs w) :
    Calls Tryd.prog 11 #[.string s, .bool attr] w fun e w' => e = .returned (.tuple #[.string { data := #[] }, .int .i64 2]) ∧ Below w.heap.size w w' := by
  have hV := valid_any s (maxLen_of hs) w hT
  rw [ht] at hV
  have HV := Lib.hid hV
  clear hV ht hT
  go_enter Tryd.func11, Tryd.ntmps11
  go_wp2_with (go_at_call 33; ((with_reducible refine (HV.out).mono ?_); rintro e w1 ⟨rfl, hb1⟩; obtain ⟨osA, dA, rfl⟩ := ext_of_below hb1; clear hb1))
  go_ret2
  exact ⟨rfl, by (repeat' (first | (with_reducible exact Below.refl _ _) | (with_reducible assumption) | (with_reducible refine Below.alloc ?_ ?_ _) | (with_reducible refine below_drewN ?_ _) | (with_reducible refine below_drew ?_) | (with_reducible refine below_ext ?_ ?_ _ _) | (with_reducible refine Below.setCell ?_ ?_ _) | (simp; done) | (simp; omega) | omega))⟩
/-- so many characters behind so many others -/
def partB (s : ByteArray) (skip n : Nat) : ByteArray := (s.extract (place s skip) s.size).extract 0 (place (s.extract (place s skip) s.size) n)
theorem slice_from (s : ByteArray) (p : Nat) (h : p ≤ s.size) : ∀ w, (Instr.slice 9 (.string s) (some (.int .i64 (p : Int))) none none).run Tryd.prog w = .ok (.string (s.extract p s.size)) w :=
  fun w => by
    have := run_slice_string_l (w := w) (P := Tryd.prog) (t := 9) (s := s) Tryd.underlying9 (kl := .i64) (l := (p : Int)) (h0 := by omega) (h1 := by omega)
    rw [Int.toNat_natCast] at this
    exact this
theorem slice_to (s : ByteArray) (p : Nat) (h : p ≤ s.size) : ∀ w, (Instr.slice 9 (.string s) none (some (.int .i64 (p : Int))) none).run Tryd.prog w = .ok (.string (s.extract 0 p)) w :=
  fun w => by
    have := run_slice_string_h (w := w) (P := Tryd.prog) (t := 9) (s := s) Tryd.underlying9 (kh := .i64) (h := (p : Int)) (h0 := by omega) (h2 := by omega)
    rw [Int.toNat_natCast] at this
    exact this
/-- how many characters are passed over -/
def Skip (s : ByteArray) (from' : Int) (skip : Nat) : Prop := (0 < from' ∧ (skip : Int) = from' - 1) ∨ (from' < 0 ∧ (skip : Int) = max ((Lib.runeCount s : Int) + from') 0)
/-- a text is put together again; what is counted -/
theorem part_first (s : ByteArray) (n : Nat) : partB s 0 n = s.extract 0 (place s n) := by
  unfold partB
  rw [place_zero]
  have e : s.extract 0 s.size = s := by
    apply ByteArray.ext
    apply Array.ext'
    rw [ext_data, List.drop_zero, List.take_of_length_le (by simp)]
  rw [e]
theorem part_rest (s : ByteArray) (n N : Nat) (hN : Lib.runeCount (s.extract (place s n) s.size) ≤ N) : partB s n N = s.extract (place s n) s.size := by
  unfold partB
  rw [place_all _ N hN]
  apply ByteArray.ext
  apply Array.ext'
  rw [ext_data, List.drop_zero, List.take_of_length_le (by simp)]
end Go.Proofs.YtgmfggflbcegjaaDoor
