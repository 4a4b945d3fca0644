/-
  The statements' own first question: one name.
-/
import Derived.Test.YtdmmpknpoephnaaDoorBe
namespace Go.Proofs.YtdmmpknpoephnaaDoor
open Go.RowKit
attribute [local go_sem] setCell_drewN cell?_ext frozen?_ext shape?_ext setCell_ext lt_1' ne_1' en_1' le_1' lt_2' ne_2' en_2' le_2' lt_3' ne_3' en_3' le_3' lt_4' ne_4' en_4' le_4' lt_5' ne_5' en_5' le_5' lt_6' ne_6' en_6' le_6' lt_7' ne_7' en_7' le_7' lt_8' ne_8' en_8' le_8' lt_9' ne_9' en_9' le_9' lt_10' ne_10' en_10' le_10' lt_11' ne_11' en_11' le_11' lt_12' ne_12' en_12' le_12'

/-- the program's list of names lies as its text lays it -/
def Words (w : World) : Prop := 0 < w.heap.size ∧ w.cell? ⟨0, 0, none⟩ = some (.string ⟨#[97, 110, 121]⟩) ∧ w.cell? ⟨0, 1, none⟩ = some (.string ⟨#[98, 111, 111, 108, 101, 97, 110]⟩) ∧ w.cell? ⟨0, 2, none⟩ = some (.string ⟨#[110, 117, 109, 98, 101, 114]⟩) ∧ w.cell? ⟨0, 3, none⟩ = some (.string ⟨#[115, 116, 114, 105, 110, 103]⟩) ∧ w.cell? ⟨0, 4, none⟩ = some (.string ⟨#[100, 97, 116, 101]⟩)
theorem Words.below {w w' : World} (h : Words w) (hb : Below w.heap.size w w') : Words w' := by
  obtain ⟨h0, h1, h2, h3, h4, h5⟩ := h
  have hc := fun j => (bcell hb).1 0 j h0
  exact ⟨Nat.lt_of_lt_of_le h0 hb.size, by rw [hc]; exact h1, by rw [hc]; exact h2, by rw [hc]; exact h3, by rw [hc]; exact h4, by rw [hc]; exact h5⟩
theorem name_any (k o : Int) (s : ByteArray) (h : (k = 0 ∧ o = 0 ∧ s = ⟨#[97, 110, 121]⟩) ∨ (k = 1 ∧ o = 0 ∧ s = ⟨#[98, 111, 111, 108, 101, 97, 110]⟩) ∨ (k = 2 ∧ o = 0 ∧ s = ⟨#[110, 117, 109, 98, 101, 114]⟩) ∨ (k = 3 ∧ o = 0 ∧ s = ⟨#[115, 116, 114, 105, 110, 103]⟩) ∨ (k = 4 ∧ o = 0 ∧ s = ⟨#[100, 97, 116, 101]⟩) ∨ (k = 5 ∧ o = 0 ∧ s = ⟨#[108, 105, 115, 116, 60, 97, 110, 121, 62]⟩) ∨ (k = 5 ∧ o = 1 ∧ s = ⟨#[108, 105, 115, 116, 60, 98, 111, 111, 108, 101, 97, 110, 62]⟩) ∨ (k = 5 ∧ o = 2 ∧ s = ⟨#[108, 105, 115, 116, 60, 110, 117, 109, 98, 101, 114, 62]⟩) ∨ (k = 5 ∧ o = 3 ∧ s = ⟨#[108, 105, 115, 116, 60, 115, 116, 114, 105, 110, 103, 62]⟩) ∨ (k = 5 ∧ o = 4 ∧ s = ⟨#[108, 105, 115, 116, 60, 100, 97, 116, 101, 62]⟩)) (w : World) (hw : Words w) :
    Calls Tryd.prog 14 #[T k o] w fun e w' => e = .returned (.tuple #[.string s, .int .i64 0]) ∧ Below w.heap.size w w' := by
  obtain ⟨h0, h1, h2, h3, h4, h5⟩ := hw
  have hn0 : (0 = w.heap.size) = False := by first | (simp; done) | (simp; omega)
  have hn1 : (0 = w.heap.size + 1) = False := by first | (simp; done) | (simp; omega)
  have F1 := Lib.hid (fun k o h w => kform_yes (k := k) (o := o) h w)
  rcases h with ⟨rfl, rfl, rfl⟩ | ⟨rfl, rfl, rfl⟩ | ⟨rfl, rfl, rfl⟩ | ⟨rfl, rfl, rfl⟩ | ⟨rfl, rfl, rfl⟩ | ⟨rfl, rfl, rfl⟩ | ⟨rfl, rfl, rfl⟩ | ⟨rfl, rfl, rfl⟩ | ⟨rfl, rfl, rfl⟩ | ⟨rfl, rfl, rfl⟩
  all_goals
    go_enter Tryd.func14, Tryd.ntmps14
    go_wp2_with (first
      | (go_at_call 20; ((with_reducible refine (F1.out _ _ rfl _).mono ?_); rintro e w1 ⟨rfl, hb1⟩; obtain ⟨osA, dA, rfl⟩ := ext_of_below hb1; clear hb1)))
    go_returns
    exact ⟨rfl, by (repeat' (first | (with_reducible exact Below.refl _ _) | (with_reducible assumption) | (with_reducible refine Below.alloc ?_ ?_ _) | (with_reducible refine below_drewN ?_ _) | (with_reducible refine below_drew ?_) | (with_reducible refine below_ext ?_ ?_ _ _) | (with_reducible refine Below.setCell ?_ ?_ _) | (simp; done) | (simp; omega) | omega))⟩
theorem ix_0 (a b c d : Int) (w : World) : (Instr.index 57 (.agg #[.int .i64 a, .int .i64 b, .int .i64 c, .int .i64 d]) (.int .i64 0)).run Tryd.prog w = .ok (.agg #[.int .i64 a, .int .i64 b]) w := by
  simp [Instr.index, run_underlying Tryd.underlying57, asIntOf, go_sem, part]
theorem ix_1 (a b c d : Int) (w : World) : (Instr.index 57 (.agg #[.int .i64 a, .int .i64 b, .int .i64 c, .int .i64 d]) (.int .i64 1)).run Tryd.prog w = .ok (.agg #[.int .i64 c, .int .i64 d]) w := by
  simp [Instr.index, run_underlying Tryd.underlying57, asIntOf, go_sem, part]
attribute [local go_sem] ix_0 ix_1
set_option maxHeartbeats 8000000 in
theorem parse_known (w : World) (hw : Words w) : Calls Tryd.prog 15 #[.string ⟨#[108, 105, 115, 116, 60, 110, 117, 109, 98, 101, 114, 62]⟩] w fun e w' => e = .returned (.tuple #[T 5 2, .int .i64 0]) ∧ Below w.heap.size w w' := by
  have HW := Lib.hid (fun w' (hb : Below w.heap.size w w') => hw.below hb)
  clear hw
  have P0 := Lib.hid (fun w hw => name_any 0 0 ⟨#[97, 110, 121]⟩ (.inl ⟨rfl, rfl, rfl⟩) w hw)
  have L0 := Lib.hid (fun w hw => name_any 5 0 ⟨#[108, 105, 115, 116, 60, 97, 110, 121, 62]⟩ (.inr (.inr (.inr (.inr (.inr (.inl ⟨rfl, rfl, rfl⟩)))))) w hw)
  have P1 := Lib.hid (fun w hw => name_any 1 0 ⟨#[98, 111, 111, 108, 101, 97, 110]⟩ (.inr (.inl ⟨rfl, rfl, rfl⟩)) w hw)
  have L1 := Lib.hid (fun w hw => name_any 5 1 ⟨#[108, 105, 115, 116, 60, 98, 111, 111, 108, 101, 97, 110, 62]⟩ (.inr (.inr (.inr (.inr (.inr (.inr (.inl ⟨rfl, rfl, rfl⟩))))))) w hw)
  have P2 := Lib.hid (fun w hw => name_any 2 0 ⟨#[110, 117, 109, 98, 101, 114]⟩ (.inr (.inr (.inl ⟨rfl, rfl, rfl⟩))) w hw)
  have L2 := Lib.hid (fun w hw => name_any 5 2 ⟨#[108, 105, 115, 116, 60, 110, 117, 109, 98, 101, 114, 62]⟩ (.inr (.inr (.inr (.inr (.inr (.inr (.inr (.inl ⟨rfl, rfl, rfl⟩)))))))) w hw)
  go_enter Tryd.func15, Tryd.ntmps15
  go_wp2_with fail
  go_loopw [9] (fun i wr => ∃ n : Nat, n ≤ 2 ∧ i = .int .i64 n ∧ Below (w.alloc (.cells #[.int .i64 0, .int .i64 0] 32)).heap.size (w.alloc (.cells #[.int .i64 0, .int .i64 0] 32)) wr) (fun i _ => (5 - intOf i).toNat)
  case atStart => exact ⟨0, by omega, rfl, Below.refl _ _⟩
  case round =>
    obtain ⟨n, hn, rfl, hbw⟩ := hrel
    obtain ⟨osX, dX, rfl⟩ := ext_of_below hbw
    clear hbw
    have h3 : n = 0 ∨ n = 1 ∨ n = 2 := by omega
    clear hn
    rcases h3 with rfl | rfl | rfl
    · go_wp2_with fail
      go_loopw [17] (fun j wr => ∃ m : Nat, m ≤ 2 ∧ j = .int .i64 m ∧ Below (w.alloc (.cells #[.int .i64 0, .int .i64 0] 32)).heap.size (w.alloc (.cells #[.int .i64 0, .int .i64 0] 32)) wr) (fun j _ => (2 - intOf j).toNat)
      case atStart => exact ⟨0, by omega, rfl, by (repeat' (first | (with_reducible exact Below.refl _ _) | (with_reducible assumption) | (with_reducible refine Below.alloc ?_ ?_ _) | (with_reducible refine below_drewN ?_ _) | (with_reducible refine below_drew ?_) | (with_reducible refine below_ext ?_ ?_ _ _) | (with_reducible refine Below.setCell ?_ ?_ _) | (simp; done) | (simp; omega) | omega))⟩
      case round =>
        obtain ⟨m, hm, rfl, hbw⟩ := hrel
        obtain ⟨osY, dY, rfl⟩ := ext_of_below hbw
        clear hbw
        have h3 : m = 0 ∨ m = 1 ∨ m = 2 := by omega
        clear hm
        rcases h3 with rfl | rfl | rfl
        · go_wp2_with (go_at_call 14; ((with_reducible refine (P0.out _ (HW.out _ (by (repeat' (first | (with_reducible exact Below.refl _ _) | (with_reducible assumption) | (with_reducible refine Below.alloc ?_ ?_ _) | (with_reducible refine below_drewN ?_ _) | (with_reducible refine below_drew ?_) | (with_reducible refine below_ext ?_ ?_ _ _) | (with_reducible refine Below.setCell ?_ ?_ _) | (simp; done) | (simp; omega) | omega))))).mono ?_); rintro e w1 ⟨rfl, hb1⟩; obtain ⟨osA, dA, rfl⟩ := ext_of_below hb1; clear hb1))
          go_roundw
          case rel => (repeat apply Exists.intro); exact ⟨⟨1, by omega, rfl, by (repeat' (first | (with_reducible exact Below.refl _ _) | (with_reducible assumption) | (with_reducible refine Below.alloc ?_ ?_ _) | (with_reducible refine below_drewN ?_ _) | (with_reducible refine below_drew ?_) | (with_reducible refine below_ext ?_ ?_ _ _) | (with_reducible refine Below.setCell ?_ ?_ _) | (simp; done) | (simp; omega) | omega))⟩, rfl⟩
          case measure => simp [intOf]
        · go_wp2_with (go_at_call 14; ((with_reducible refine (L0.out _ (HW.out _ (by (repeat' (first | (with_reducible exact Below.refl _ _) | (with_reducible assumption) | (with_reducible refine Below.alloc ?_ ?_ _) | (with_reducible refine below_drewN ?_ _) | (with_reducible refine below_drew ?_) | (with_reducible refine below_ext ?_ ?_ _ _) | (with_reducible refine Below.setCell ?_ ?_ _) | (simp; done) | (simp; omega) | omega))))).mono ?_); rintro e w1 ⟨rfl, hb1⟩; obtain ⟨osA, dA, rfl⟩ := ext_of_below hb1; clear hb1))
          go_roundw
          case rel => (repeat apply Exists.intro); exact ⟨⟨2, by omega, rfl, by (repeat' (first | (with_reducible exact Below.refl _ _) | (with_reducible assumption) | (with_reducible refine Below.alloc ?_ ?_ _) | (with_reducible refine below_drewN ?_ _) | (with_reducible refine below_drew ?_) | (with_reducible refine below_ext ?_ ?_ _ _) | (with_reducible refine Below.setCell ?_ ?_ _) | (simp; done) | (simp; omega) | omega))⟩, rfl⟩
          case measure => simp [intOf]
        · go_wp2_with fail
          go_roundw
          case rel => exact ⟨1, by omega, rfl, by (repeat' (first | (with_reducible exact Below.refl _ _) | (with_reducible assumption) | (with_reducible refine Below.alloc ?_ ?_ _) | (with_reducible refine below_drewN ?_ _) | (with_reducible refine below_drew ?_) | (with_reducible refine below_ext ?_ ?_ _ _) | (with_reducible refine Below.setCell ?_ ?_ _) | (simp; done) | (simp; omega) | omega))⟩
          case measure => simp [intOf]
    · go_wp2_with fail
      go_loopw [17] (fun j wr => ∃ m : Nat, m ≤ 2 ∧ j = .int .i64 m ∧ Below (w.alloc (.cells #[.int .i64 0, .int .i64 0] 32)).heap.size (w.alloc (.cells #[.int .i64 0, .int .i64 0] 32)) wr) (fun j _ => (2 - intOf j).toNat)
      case atStart => exact ⟨0, by omega, rfl, by (repeat' (first | (with_reducible exact Below.refl _ _) | (with_reducible assumption) | (with_reducible refine Below.alloc ?_ ?_ _) | (with_reducible refine below_drewN ?_ _) | (with_reducible refine below_drew ?_) | (with_reducible refine below_ext ?_ ?_ _ _) | (with_reducible refine Below.setCell ?_ ?_ _) | (simp; done) | (simp; omega) | omega))⟩
      case round =>
        obtain ⟨m, hm, rfl, hbw⟩ := hrel
        obtain ⟨osY, dY, rfl⟩ := ext_of_below hbw
        clear hbw
        have h3 : m = 0 ∨ m = 1 ∨ m = 2 := by omega
        clear hm
        rcases h3 with rfl | rfl | rfl
        · go_wp2_with (go_at_call 14; ((with_reducible refine (P1.out _ (HW.out _ (by (repeat' (first | (with_reducible exact Below.refl _ _) | (with_reducible assumption) | (with_reducible refine Below.alloc ?_ ?_ _) | (with_reducible refine below_drewN ?_ _) | (with_reducible refine below_drew ?_) | (with_reducible refine below_ext ?_ ?_ _ _) | (with_reducible refine Below.setCell ?_ ?_ _) | (simp; done) | (simp; omega) | omega))))).mono ?_); rintro e w1 ⟨rfl, hb1⟩; obtain ⟨osA, dA, rfl⟩ := ext_of_below hb1; clear hb1))
          go_roundw
          case rel => (repeat apply Exists.intro); exact ⟨⟨1, by omega, rfl, by (repeat' (first | (with_reducible exact Below.refl _ _) | (with_reducible assumption) | (with_reducible refine Below.alloc ?_ ?_ _) | (with_reducible refine below_drewN ?_ _) | (with_reducible refine below_drew ?_) | (with_reducible refine below_ext ?_ ?_ _ _) | (with_reducible refine Below.setCell ?_ ?_ _) | (simp; done) | (simp; omega) | omega))⟩, rfl⟩
          case measure => simp [intOf]
        · go_wp2_with (go_at_call 14; ((with_reducible refine (L1.out _ (HW.out _ (by (repeat' (first | (with_reducible exact Below.refl _ _) | (with_reducible assumption) | (with_reducible refine Below.alloc ?_ ?_ _) | (with_reducible refine below_drewN ?_ _) | (with_reducible refine below_drew ?_) | (with_reducible refine below_ext ?_ ?_ _ _) | (with_reducible refine Below.setCell ?_ ?_ _) | (simp; done) | (simp; omega) | omega))))).mono ?_); rintro e w1 ⟨rfl, hb1⟩; obtain ⟨osA, dA, rfl⟩ := ext_of_below hb1; clear hb1))
          go_roundw
          case rel => (repeat apply Exists.intro); exact ⟨⟨2, by omega, rfl, by (repeat' (first | (with_reducible exact Below.refl _ _) | (with_reducible assumption) | (with_reducible refine Below.alloc ?_ ?_ _) | (with_reducible refine below_drewN ?_ _) | (with_reducible refine below_drew ?_) | (with_reducible refine below_ext ?_ ?_ _ _) | (with_reducible refine Below.setCell ?_ ?_ _) | (simp; done) | (simp; omega) | omega))⟩, rfl⟩
          case measure => simp [intOf]
        · go_wp2_with fail
          go_roundw
          case rel => exact ⟨2, by omega, rfl, by (repeat' (first | (with_reducible exact Below.refl _ _) | (with_reducible assumption) | (with_reducible refine Below.alloc ?_ ?_ _) | (with_reducible refine below_drewN ?_ _) | (with_reducible refine below_drew ?_) | (with_reducible refine below_ext ?_ ?_ _ _) | (with_reducible refine Below.setCell ?_ ?_ _) | (simp; done) | (simp; omega) | omega))⟩
          case measure => simp [intOf]
    · go_wp2_with fail
      go_loopw [17] (fun j wr => ∃ m : Nat, m ≤ 1 ∧ j = .int .i64 m ∧ Below (w.alloc (.cells #[.int .i64 0, .int .i64 0] 32)).heap.size (w.alloc (.cells #[.int .i64 0, .int .i64 0] 32)) wr) (fun j _ => (2 - intOf j).toNat)
      case atStart => exact ⟨0, by omega, rfl, by (repeat' (first | (with_reducible exact Below.refl _ _) | (with_reducible assumption) | (with_reducible refine Below.alloc ?_ ?_ _) | (with_reducible refine below_drewN ?_ _) | (with_reducible refine below_drew ?_) | (with_reducible refine below_ext ?_ ?_ _ _) | (with_reducible refine Below.setCell ?_ ?_ _) | (simp; done) | (simp; omega) | omega))⟩
      case round =>
        obtain ⟨m, hm, rfl, hbw⟩ := hrel
        obtain ⟨osY, dY, rfl⟩ := ext_of_below hbw
        clear hbw
        have h3 : m = 0 ∨ m = 1 := by omega
        clear hm
        rcases h3 with rfl | rfl
        · go_wp2_with (go_at_call 14; ((with_reducible refine (P2.out _ (HW.out _ (by (repeat' (first | (with_reducible exact Below.refl _ _) | (with_reducible assumption) | (with_reducible refine Below.alloc ?_ ?_ _) | (with_reducible refine below_drewN ?_ _) | (with_reducible refine below_drew ?_) | (with_reducible refine below_ext ?_ ?_ _ _) | (with_reducible refine Below.setCell ?_ ?_ _) | (simp; done) | (simp; omega) | omega))))).mono ?_); rintro e w1 ⟨rfl, hb1⟩; obtain ⟨osA, dA, rfl⟩ := ext_of_below hb1; clear hb1))
          go_roundw
          case rel => (repeat apply Exists.intro); exact ⟨⟨1, by omega, rfl, by (repeat' (first | (with_reducible exact Below.refl _ _) | (with_reducible assumption) | (with_reducible refine Below.alloc ?_ ?_ _) | (with_reducible refine below_drewN ?_ _) | (with_reducible refine below_drew ?_) | (with_reducible refine below_ext ?_ ?_ _ _) | (with_reducible refine Below.setCell ?_ ?_ _) | (simp; done) | (simp; omega) | omega))⟩, rfl⟩
          case measure => simp [intOf]
        · go_wp2_with (go_at_call 14; ((with_reducible refine (L2.out _ (HW.out _ (by (repeat' (first | (with_reducible exact Below.refl _ _) | (with_reducible assumption) | (with_reducible refine Below.alloc ?_ ?_ _) | (with_reducible refine below_drewN ?_ _) | (with_reducible refine below_drew ?_) | (with_reducible refine below_ext ?_ ?_ _ _) | (with_reducible refine Below.setCell ?_ ?_ _) | (simp; done) | (simp; omega) | omega))))).mono ?_); rintro e w1 ⟨rfl, hb1⟩; obtain ⟨osA, dA, rfl⟩ := ext_of_below hb1; clear hb1))
          go_returns
          exact ⟨rfl, by (repeat' (first | (with_reducible exact Below.refl _ _) | (with_reducible assumption) | (with_reducible refine Below.alloc ?_ ?_ _) | (with_reducible refine below_drewN ?_ _) | (with_reducible refine below_drew ?_) | (with_reducible refine below_ext ?_ ?_ _ _) | (with_reducible refine Below.setCell ?_ ?_ _) | (simp; done) | (simp; omega) | omega))⟩
theorem kknown_any (w : World) (hw : Words w) : Calls Tryd.prog 5 #[] w fun e w' => e = .returned (.bool true) ∧ Below w.heap.size w w' := by
  have HW := Lib.hid (fun w' (hb : Below w.heap.size w w') => hw.below hb)
  have N := Lib.hid (fun w hw => name_any 5 2 ⟨#[108, 105, 115, 116, 60, 110, 117, 109, 98, 101, 114, 62]⟩ (.inr (.inr (.inr (.inr (.inr (.inr (.inr (.inl ⟨rfl, rfl, rfl⟩)))))))) w hw)
  clear hw
  go_enter Tryd.func5, Tryd.ntmps5
  go_wp2_with (first
    | (go_at_call 14; ((with_reducible refine (N.out _ (HW.out _ (by (repeat' (first | (with_reducible exact Below.refl _ _) | (with_reducible assumption) | (with_reducible refine Below.alloc ?_ ?_ _) | (with_reducible refine below_drewN ?_ _) | (with_reducible refine below_drew ?_) | (with_reducible refine below_ext ?_ ?_ _ _) | (with_reducible refine Below.setCell ?_ ?_ _) | (simp; done) | (simp; omega) | omega))))).mono ?_); rintro e w1 ⟨rfl, hb1⟩; obtain ⟨osA, dA, rfl⟩ := ext_of_below hb1; clear hb1))
    | (go_at_call 15; ((with_reducible refine (parse_known _ (HW.out _ (by (repeat' (first | (with_reducible exact Below.refl _ _) | (with_reducible assumption) | (with_reducible refine Below.alloc ?_ ?_ _) | (with_reducible refine below_drewN ?_ _) | (with_reducible refine below_drew ?_) | (with_reducible refine below_ext ?_ ?_ _ _) | (with_reducible refine Below.setCell ?_ ?_ _) | (simp; done) | (simp; omega) | omega))))).mono ?_); rintro e w1 ⟨rfl, hb1⟩; obtain ⟨osB, dB, rfl⟩ := ext_of_below hb1; clear hb1)))
  go_ret
  exact ⟨rfl, by (repeat' (first | (with_reducible exact Below.refl _ _) | (with_reducible assumption) | (with_reducible refine Below.alloc ?_ ?_ _) | (with_reducible refine below_drewN ?_ _) | (with_reducible refine below_drew ?_) | (with_reducible refine below_ext ?_ ?_ _ _) | (with_reducible refine Below.setCell ?_ ?_ _) | (simp; done) | (simp; omega) | omega))⟩
end Go.Proofs.YtdmmpknpoephnaaDoor
