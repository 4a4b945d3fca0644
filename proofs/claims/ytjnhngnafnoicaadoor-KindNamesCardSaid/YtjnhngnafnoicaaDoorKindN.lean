/-
  The names of the ten types: the program's and the document's, and the type of a name.
-/
import Derived.Test.YtjnhngnafnoicaaDoorKindI
namespace Go.Proofs.YtjnhngnafnoicaaDoor
open Go.RowKit
attribute [local go_sem] setCell_drewN cell?_ext frozen?_ext shape?_ext setCell_ext lt_1' ne_1' en_1' le_1' lt_2' ne_2' en_2' le_2' lt_3' ne_3' en_3' le_3' lt_4' ne_4' en_4' le_4' lt_5' ne_5' en_5' le_5' lt_6' ne_6' en_6' le_6' lt_7' ne_7' en_7' le_7' lt_8' ne_8' en_8' le_8' lt_9' ne_9' en_9' le_9' lt_10' ne_10' en_10' le_10' lt_11' ne_11' en_11' le_11' lt_12' ne_12' en_12' le_12'

/-- the ten names -/
def nm : Nat → ByteArray
  | 0 => ⟨#[97, 110, 121]⟩
  | 1 => ⟨#[98, 111, 111, 108, 101, 97, 110]⟩
  | 2 => ⟨#[110, 117, 109, 98, 101, 114]⟩
  | 3 => ⟨#[115, 116, 114, 105, 110, 103]⟩
  | 4 => ⟨#[100, 97, 116, 101]⟩
  | 5 => ⟨#[108, 105, 115, 116, 60, 97, 110, 121, 62]⟩
  | 6 => ⟨#[108, 105, 115, 116, 60, 98, 111, 111, 108, 101, 97, 110, 62]⟩
  | 7 => ⟨#[108, 105, 115, 116, 60, 110, 117, 109, 98, 101, 114, 62]⟩
  | 8 => ⟨#[108, 105, 115, 116, 60, 115, 116, 114, 105, 110, 103, 62]⟩
  | _ => ⟨#[108, 105, 115, 116, 60, 100, 97, 116, 101, 62]⟩
theorem nm_inj {a b : Nat} (ha : a < 10) (hb : b < 10) (h : nm a = nm b) : a = b := by
  have H : ∀ x : Fin 10, ∀ y : Fin 10, nm x.1 = nm y.1 → x = y := by decide +kernel
  exact congrArg Fin.val (H ⟨a, ha⟩ ⟨b, hb⟩ h)
/-- the name of a plain type -/
theorem name_lo (n : Nat) (hn : n < 5) (w : World) (hw : Words w) :
    Calls Tryd.prog 8 #[T (n : Int) 0] w fun e w' => e = .returned (.tuple #[.string (nm n), .int .i64 0]) ∧ Below w.heap.size w w' := by
  match n, hn with
  | 0, _ => exact name_any 0 0 _ (.inl ⟨rfl, rfl, rfl⟩) w hw
  | 1, _ => exact name_any 1 0 _ (.inr (.inl ⟨rfl, rfl, rfl⟩)) w hw
  | 2, _ => exact name_any 2 0 _ (.inr (.inr (.inl ⟨rfl, rfl, rfl⟩))) w hw
  | 3, _ => exact name_any 3 0 _ (.inr (.inr (.inr (.inl ⟨rfl, rfl, rfl⟩)))) w hw
  | 4, _ => exact name_any 4 0 _ (.inr (.inr (.inr (.inr (.inl ⟨rfl, rfl, rfl⟩))))) w hw
/-- the name of a list's type -/
theorem name_hi (n : Nat) (hn : n < 5) (w : World) (hw : Words w) :
    Calls Tryd.prog 8 #[T 5 (n : Int)] w fun e w' => e = .returned (.tuple #[.string (nm (5 + n)), .int .i64 0]) ∧ Below w.heap.size w w' := by
  match n, hn with
  | 0, _ => exact name_any 5 0 _ (.inr (.inr (.inr (.inr (.inr (.inl ⟨rfl, rfl, rfl⟩)))))) w hw
  | 1, _ => exact name_any 5 1 _ (.inr (.inr (.inr (.inr (.inr (.inr (.inl ⟨rfl, rfl, rfl⟩))))))) w hw
  | 2, _ => exact name_any 5 2 _ (.inr (.inr (.inr (.inr (.inr (.inr (.inr (.inl ⟨rfl, rfl, rfl⟩)))))))) w hw
  | 3, _ => exact name_any 5 3 _ (.inr (.inr (.inr (.inr (.inr (.inr (.inr (.inr (.inl ⟨rfl, rfl, rfl⟩))))))))) w hw
  | 4, _ => exact name_any 5 4 _ (.inr (.inr (.inr (.inr (.inr (.inr (.inr (.inr (.inr ⟨rfl, rfl, rfl⟩))))))))) w hw
/-- what is no type has no name -/
theorem name_bad (k o : Int) (h : tform k o = false) (w : World) :
    Calls Tryd.prog 8 #[T k o] w fun e w' => e = .returned (.tuple #[.string ⟨#[]⟩, .int .i64 2]) ∧ Below w.heap.size w w' := by
  have F1 := Lib.hid (fun w => kform_no (k := k) (o := o) h w)
  clear h
  go_enter Tryd.func8, Tryd.ntmps8
  go_wp2_with (first
    | (go_at_call 5; ((with_reducible refine (F1.out _).mono ?_); rintro e w1 ⟨rfl, hb1⟩; obtain ⟨osA, dA, rfl⟩ := ext_of_below hb1; clear hb1)))
  go_returns
  exact ⟨rfl, by (repeat' (first | (with_reducible exact Below.refl _ _) | (with_reducible assumption) | (with_reducible refine Below.alloc ?_ ?_ _) | (with_reducible refine below_drewN ?_ _) | (with_reducible refine below_drew ?_) | (with_reducible refine below_ext ?_ ?_ _ _) | (with_reducible refine Below.setCell ?_ ?_ _) | (simp; done) | (simp; omega) | omega))⟩
/-- the document's names of the plain types -/
theorem names_lo (n : Nat) (hn : n < 5) (w : World) :
    Calls Tryd.prog 13 #[.int .i64 (n : Int)] w fun e w' => e = .returned (.string (nm n)) ∧ Below w.heap.size w w' := by
  have h5 : n = 0 ∨ n = 1 ∨ n = 2 ∨ n = 3 ∨ n = 4 := by omega
  clear hn
  rcases h5 with rfl | rfl | rfl | rfl | rfl
  all_goals
    go_enter Tryd.func13, Tryd.ntmps13
    go_wp2
    go_ret
    exact ⟨rfl, by (repeat' (first | (with_reducible exact Below.refl _ _) | (with_reducible assumption) | (with_reducible refine Below.alloc ?_ ?_ _) | (with_reducible refine below_drewN ?_ _) | (with_reducible refine below_drew ?_) | (with_reducible refine below_ext ?_ ?_ _ _) | (with_reducible refine Below.setCell ?_ ?_ _) | (simp; done) | (simp; omega) | omega))⟩
theorem names_hi (n : Nat) (hn : n < 5) (w : World) :
    Calls Tryd.prog 13 #[.int .i64 ((5 + n : Nat) : Int)] w fun e w' => e = .returned (.string (nm (5 + n))) ∧ Below w.heap.size w w' := by
  have h5 : n = 0 ∨ n = 1 ∨ n = 2 ∨ n = 3 ∨ n = 4 := by omega
  rcases h5 with rfl | rfl | rfl | rfl | rfl
  · have N := Lib.hid (show ∀ w, Calls Tryd.prog 13 #[.int .i64 0] w fun e w' => e = .returned (.string (nm 0)) ∧ Below w.heap.size w w' from fun w => names_lo 0 (by omega) w)
    clear hn
    go_enter Tryd.func13, Tryd.ntmps13
    go_wp2_with (first
      | (go_at_call 13; ((with_reducible refine (N.out _).mono ?_); rintro e w1 ⟨rfl, hb1⟩; obtain ⟨osA, dA, rfl⟩ := ext_of_below hb1; clear hb1)))
    go_ret
    exact ⟨rfl, by (repeat' (first | (with_reducible exact Below.refl _ _) | (with_reducible assumption) | (with_reducible refine Below.alloc ?_ ?_ _) | (with_reducible refine below_drewN ?_ _) | (with_reducible refine below_drew ?_) | (with_reducible refine below_ext ?_ ?_ _ _) | (with_reducible refine Below.setCell ?_ ?_ _) | (simp; done) | (simp; omega) | omega))⟩
  · have N := Lib.hid (show ∀ w, Calls Tryd.prog 13 #[.int .i64 1] w fun e w' => e = .returned (.string (nm 1)) ∧ Below w.heap.size w w' from fun w => names_lo 1 (by omega) w)
    clear hn
    go_enter Tryd.func13, Tryd.ntmps13
    go_wp2_with (first
      | (go_at_call 13; ((with_reducible refine (N.out _).mono ?_); rintro e w1 ⟨rfl, hb1⟩; obtain ⟨osA, dA, rfl⟩ := ext_of_below hb1; clear hb1)))
    go_ret
    exact ⟨rfl, by (repeat' (first | (with_reducible exact Below.refl _ _) | (with_reducible assumption) | (with_reducible refine Below.alloc ?_ ?_ _) | (with_reducible refine below_drewN ?_ _) | (with_reducible refine below_drew ?_) | (with_reducible refine below_ext ?_ ?_ _ _) | (with_reducible refine Below.setCell ?_ ?_ _) | (simp; done) | (simp; omega) | omega))⟩
  · have N := Lib.hid (show ∀ w, Calls Tryd.prog 13 #[.int .i64 2] w fun e w' => e = .returned (.string (nm 2)) ∧ Below w.heap.size w w' from fun w => names_lo 2 (by omega) w)
    clear hn
    go_enter Tryd.func13, Tryd.ntmps13
    go_wp2_with (first
      | (go_at_call 13; ((with_reducible refine (N.out _).mono ?_); rintro e w1 ⟨rfl, hb1⟩; obtain ⟨osA, dA, rfl⟩ := ext_of_below hb1; clear hb1)))
    go_ret
    exact ⟨rfl, by (repeat' (first | (with_reducible exact Below.refl _ _) | (with_reducible assumption) | (with_reducible refine Below.alloc ?_ ?_ _) | (with_reducible refine below_drewN ?_ _) | (with_reducible refine below_drew ?_) | (with_reducible refine below_ext ?_ ?_ _ _) | (with_reducible refine Below.setCell ?_ ?_ _) | (simp; done) | (simp; omega) | omega))⟩
  · have N := Lib.hid (show ∀ w, Calls Tryd.prog 13 #[.int .i64 3] w fun e w' => e = .returned (.string (nm 3)) ∧ Below w.heap.size w w' from fun w => names_lo 3 (by omega) w)
    clear hn
    go_enter Tryd.func13, Tryd.ntmps13
    go_wp2_with (first
      | (go_at_call 13; ((with_reducible refine (N.out _).mono ?_); rintro e w1 ⟨rfl, hb1⟩; obtain ⟨osA, dA, rfl⟩ := ext_of_below hb1; clear hb1)))
    go_ret
    exact ⟨rfl, by (repeat' (first | (with_reducible exact Below.refl _ _) | (with_reducible assumption) | (with_reducible refine Below.alloc ?_ ?_ _) | (with_reducible refine below_drewN ?_ _) | (with_reducible refine below_drew ?_) | (with_reducible refine below_ext ?_ ?_ _ _) | (with_reducible refine Below.setCell ?_ ?_ _) | (simp; done) | (simp; omega) | omega))⟩
  · have N := Lib.hid (show ∀ w, Calls Tryd.prog 13 #[.int .i64 4] w fun e w' => e = .returned (.string (nm 4)) ∧ Below w.heap.size w w' from fun w => names_lo 4 (by omega) w)
    clear hn
    go_enter Tryd.func13, Tryd.ntmps13
    go_wp2_with (first
      | (go_at_call 13; ((with_reducible refine (N.out _).mono ?_); rintro e w1 ⟨rfl, hb1⟩; obtain ⟨osA, dA, rfl⟩ := ext_of_below hb1; clear hb1)))
    go_ret
    exact ⟨rfl, by (repeat' (first | (with_reducible exact Below.refl _ _) | (with_reducible assumption) | (with_reducible refine Below.alloc ?_ ?_ _) | (with_reducible refine below_drewN ?_ _) | (with_reducible refine below_drew ?_) | (with_reducible refine below_ext ?_ ?_ _ _) | (with_reducible refine Below.setCell ?_ ?_ _) | (simp; done) | (simp; omega) | omega))⟩
theorem names_any (n : Nat) (hn : n < 10) (w : World) :
    Calls Tryd.prog 13 #[.int .i64 (n : Int)] w fun e w' => e = .returned (.string (nm n)) ∧ Below w.heap.size w w' := by
  by_cases h : n < 5
  · exact names_lo n h w
  · obtain ⟨m, rfl⟩ : ∃ m, n = 5 + m := ⟨n - 5, by omega⟩
    exact names_hi m (by omega) w
end Go.Proofs.YtjnhngnafnoicaaDoor
