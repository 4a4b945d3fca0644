/-
  The type of a name: the program's and the document's; the law.
-/
import Derived.Test.YtjnhngnafnoicaaDoorKindN
import Derived.Test.YtjnhngnafnoicaaDoorKindH
import Derived.Lib.SlicesS
namespace Go.Proofs.YtjnhngnafnoicaaDoor
open Go.RowKit
attribute [local go_sem] setCell_drewN cell?_ext frozen?_ext shape?_ext setCell_ext lt_1' ne_1' en_1' le_1' lt_2' ne_2' en_2' le_2' lt_3' ne_3' en_3' le_3' lt_4' ne_4' en_4' le_4' lt_5' ne_5' en_5' le_5' lt_6' ne_6' en_6' le_6' lt_7' ne_7' en_7' le_7' lt_8' ne_8' en_8' le_8' lt_9' ne_9' en_9' le_9' lt_10' ne_10' en_10' le_10' lt_11' ne_11' en_11' le_11' lt_12' ne_12' en_12' le_12'
attribute [local go_sem] ix_0 ix_1
/-- no name of the first n is s -/
def noLow (s : ByteArray) (n : Nat) : Prop := ∀ j, j < n → s ≠ nm j
/-- no name of the first n plain ones, and of the first n lists', is s -/
def noTwo (s : ByteArray) (n : Nat) : Prop := ∀ j, j < n → s ≠ nm j ∧ s ≠ nm (5 + j)
def RH (p : Prop) : Prop := p
theorem tK_lo {n : Nat} (h : n < 5) : tK n = (n : Int) := if_pos h
theorem tO_lo {n : Nat} (h : n < 5) : tO n = 0 := if_pos h
theorem tK_hi {n : Nat} : tK (5 + n) = 5 := if_neg (by omega)
theorem tO_hi {n : Nat} : tO (5 + n) = (n : Int) := (if_neg (by omega)).trans (by omega)
/-- the document's name of a type -/
theorem named_ok (n : Nat) (hn : n < 10) (w : World) : Calls Tryd.prog 12 #[T (tK n) (tO n)] w fun e w' => e = .returned (.string (nm n)) ∧ Below w.heap.size w w' := by
  have hnum : numT (tK n) (tO n) = (n : Int) := by
    unfold numT
    rw [if_pos (of_form n hn)]
    unfold tK tO
    split <;> split <;> omega
  have F1 := fun w => number_any (tK n) (tO n) w
  rw [hnum] at F1
  have F := Lib.hid F1
  have N := Lib.hid (fun w => names_any n hn w)
  clear hn hnum F1
  generalize tK n = k at *
  generalize tO n = o at *
  go_enter Tryd.func12, Tryd.ntmps12
  go_wp2_with (first
    | (go_at_call 11; ((with_reducible refine (F.out _).mono ?_); rintro e w1 ⟨rfl, hb1⟩; obtain ⟨osA, dA, rfl⟩ := ext_of_below hb1; clear hb1))
    | (go_at_call 13; ((with_reducible refine (N.out _).mono ?_); rintro e w1 ⟨rfl, hb1⟩; obtain ⟨osB, dB, rfl⟩ := ext_of_below hb1; clear hb1)))
  go_ret
  exact ⟨rfl, by (repeat' (first | (with_reducible exact Below.refl _ _) | (with_reducible assumption) | (with_reducible refine Below.alloc ?_ ?_ _) | (with_reducible refine below_drewN ?_ _) | (with_reducible refine below_drew ?_) | (with_reducible refine below_ext ?_ ?_ _ _) | (with_reducible refine Below.setCell ?_ ?_ _) | (simp; done) | (simp; omega) | omega))⟩
/-- the document's type of a name -/
theorem docParse_any (s : ByteArray) (w : World) : Calls Tryd.prog 9 #[.string s] w fun e w' => ((∃ n, n < 10 ∧ s = nm n ∧ e = .returned (.tuple #[T (tK n) (tO n), .int .i64 0])) ∨ ((∀ n, n < 10 → s ≠ nm n) ∧ e = .returned (.tuple #[T 0 0, .int .i64 8]))) ∧ Below w.heap.size w w' := by
  go_enter Tryd.func9, Tryd.ntmps9
  go_wp2_with fail
  go_loopw [4] (fun i wr => ∃ n : Nat, n ≤ 10 ∧ i = .int .i64 n ∧ noLow s n ∧ Below (w.alloc (.cells #[.int .i64 0, .int .i64 0] 23)).heap.size (w.alloc (.cells #[.int .i64 0, .int .i64 0] 23)) wr) (fun i _ => (10 - intOf i).toNat)
  case atStart => exact ⟨0, by omega, rfl, fun j hj => by omega, Below.refl _ _⟩
  case round =>
    obtain ⟨n, hn, rfl, hno0, hbw⟩ := hrel
    have hno := Lib.hid hno0
    clear hno0
    obtain ⟨os, d', rfl⟩ := ext_of_below hbw
    clear hbw
    by_cases h10 : n < 10
    · have hi : (n : Int) < 10 := by omega
      have H1 := Lib.hid (fun w => names_any n h10 w)
      have H2 := Lib.hid (fun w => of_any n h10 w)
      have hwr : IntKind.i64.wrap ((n : Int) + 1) = (n : Int) + 1 := IntWalk.i64_in _ (by omega)
      cases hS : ((nm n).toList == s.toList)
      · have hne : s ≠ nm n := fun h => (Lib.bytes_beq_false_iff _ _).1 hS h.symm
        have HN := Lib.hid hne
        clear hne
        go_wp2_with (first
          | (go_at_call 13; ((with_reducible refine (H1.out _).mono ?_); rintro e w1 ⟨rfl, hb1⟩; obtain ⟨osA, dA, rfl⟩ := ext_of_below hb1; clear hb1)))
        go_roundw
        case rel => exact ⟨n + 1, by omega, by go_num, fun j hj => by
          by_cases hjn : j = n
          · subst hjn; exact HN.out
          · exact hno.out j (by omega), by (repeat' (first | (with_reducible exact Below.refl _ _) | (with_reducible assumption) | (with_reducible refine Below.alloc ?_ ?_ _) | (with_reducible refine below_drewN ?_ _) | (with_reducible refine below_drew ?_) | (with_reducible refine below_ext ?_ ?_ _ _) | (with_reducible refine Below.setCell ?_ ?_ _) | (simp; done) | (simp; omega) | omega))⟩
        case measure => simp [intOf]; omega
      · have he : s = nm n := ((Lib.bytes_beq_iff _ _).1 hS).symm
        have HE := Lib.hid he
        clear he
        go_wp2_with (first
          | (go_at_call 13; ((with_reducible refine (H1.out _).mono ?_); rintro e w1 ⟨rfl, hb1⟩; obtain ⟨osA, dA, rfl⟩ := ext_of_below hb1; clear hb1))
          | (go_at_call 14; ((with_reducible refine (H2.out _).mono ?_); rintro e w1 ⟨rfl, hb1⟩; obtain ⟨osB, dB, rfl⟩ := ext_of_below hb1; clear hb1)))
        go_returns
        exact ⟨.inl ⟨n, h10, HE.out, rfl⟩, by (repeat' (first | (with_reducible exact Below.refl _ _) | (with_reducible assumption) | (with_reducible refine Below.alloc ?_ ?_ _) | (with_reducible refine below_drewN ?_ _) | (with_reducible refine below_drew ?_) | (with_reducible refine below_ext ?_ ?_ _ _) | (with_reducible refine Below.setCell ?_ ?_ _) | (simp; done) | (simp; omega) | omega))⟩
    · have hi : ¬ (n : Int) < 10 := by omega
      obtain rfl : n = 10 := by omega
      clear hn h10 hi
      go_wp2_with fail
      go_returns
      exact ⟨.inr ⟨fun n hn => hno.out n hn, rfl⟩, by (repeat' (first | (with_reducible exact Below.refl _ _) | (with_reducible assumption) | (with_reducible refine Below.alloc ?_ ?_ _) | (with_reducible refine below_drewN ?_ _) | (with_reducible refine below_drew ?_) | (with_reducible refine below_ext ?_ ?_ _ _) | (with_reducible refine Below.setCell ?_ ?_ _) | (simp; done) | (simp; omega) | omega))⟩
set_option maxHeartbeats 8000000 in
theorem parse_any (s : ByteArray) (w : World) (hw : Words w) : Calls Tryd.prog 10 #[.string s] w fun e w' => ((∃ n, n < 10 ∧ s = nm n ∧ e = .returned (.tuple #[T (tK n) (tO n), .int .i64 0])) ∨ ((∀ n, n < 10 → s ≠ nm n) ∧ e = .returned (.tuple #[T 0 0, .int .i64 8]))) ∧ Below w.heap.size w w' := by
  have HW := Lib.hid (fun w' (hb : Below w.heap.size w w') => hw.below hb)
  clear hw
  have PL := Lib.hid (fun n hn w hw => name_lo n hn w hw)
  have PH := Lib.hid (fun n hn w hw => name_hi n hn w hw)
  go_enter Tryd.func10, Tryd.ntmps10
  go_wp2_with fail
  go_loopw [9] (fun i wr => ∃ n : Nat, n ≤ 5 ∧ i = .int .i64 n ∧ noTwo s n ∧ Below (w.alloc (.cells #[.int .i64 0, .int .i64 0] 23)).heap.size (w.alloc (.cells #[.int .i64 0, .int .i64 0] 23)) wr) (fun i _ => (5 - intOf i).toNat)
  case atStart => exact ⟨0, by omega, rfl, fun j hj => by omega, Below.refl _ _⟩
  case round =>
    obtain ⟨n, hn, rfl, hno0, hbw⟩ := hrel
    have hno := Lib.hid hno0
    clear hno0
    obtain ⟨osX, dX, rfl⟩ := ext_of_below hbw
    clear hbw
    by_cases h5 : n < 5
    · have hi : (n : Int) < 5 := by omega
      have L := Lib.hid (fun w hw => PL.out n h5 w hw)
      have H := Lib.hid (fun w hw => PH.out n h5 w hw)
      have hwr : IntKind.i64.wrap ((n : Int) + 1) = (n : Int) + 1 := IntWalk.i64_in _ (by omega)
      clear PL PH
      obtain ⟨u, hu⟩ : ∃ u, ((nm n).toList == s.toList) = u := ⟨_, rfl⟩
      obtain ⟨v, hv⟩ : ∃ u, ((nm (5 + n)).toList == s.toList) = u := ⟨_, rfl⟩
      have HU1 := Lib.hid (show u = true → s = nm n from fun h => ((Lib.bytes_beq_iff _ _).1 (hu.trans h)).symm)
      have HV1 := Lib.hid (show v = true → s = nm (5 + n) from fun h => ((Lib.bytes_beq_iff _ _).1 (hv.trans h)).symm)
      have HU2 := Lib.hid (show u = false → s ≠ nm n from fun h e => (Lib.bytes_beq_false_iff _ _).1 (hu.trans h) e.symm)
      have HV2 := Lib.hid (show v = false → s ≠ nm (5 + n) from fun h e => (Lib.bytes_beq_false_iff _ _).1 (hv.trans h) e.symm)
      go_wp2_with fail
      go_loopw [17] (fun j wr => ∃ m : Nat, m ≤ 2 ∧ j = .int .i64 m ∧ RH (0 < m → u = false) ∧ RH (1 < m → v = false) ∧ Below (w.alloc (.cells #[.int .i64 0, .int .i64 0] 23)).heap.size (w.alloc (.cells #[.int .i64 0, .int .i64 0] 23)) wr) (fun j _ => (2 - intOf j).toNat)
      case atStart => exact ⟨0, by omega, rfl, fun h => by omega, fun h => by omega, by (repeat' (first | (with_reducible exact Below.refl _ _) | (with_reducible assumption) | (with_reducible refine Below.alloc ?_ ?_ _) | (with_reducible refine below_drewN ?_ _) | (with_reducible refine below_drew ?_) | (with_reducible refine below_ext ?_ ?_ _ _) | (with_reducible refine Below.setCell ?_ ?_ _) | (simp; done) | (simp; omega) | omega))⟩
      case round =>
        obtain ⟨m, hm, rfl, hr1, hr2, hbw⟩ := hrel
        obtain ⟨osY, dY, rfl⟩ := ext_of_below hbw
        clear hbw
        have h3 : m = 0 ∨ m = 1 ∨ m = 2 := by omega
        clear hm
        rcases h3 with rfl | rfl | rfl
        · clear hr1 hr2
          cases u
          · go_wp2_with (go_at_call 8; ((with_reducible refine (L.out _ (HW.out _ (by (repeat' (first | (with_reducible exact Below.refl _ _) | (with_reducible assumption) | (with_reducible refine Below.alloc ?_ ?_ _) | (with_reducible refine below_drewN ?_ _) | (with_reducible refine below_drew ?_) | (with_reducible refine below_ext ?_ ?_ _ _) | (with_reducible refine Below.setCell ?_ ?_ _) | (simp; done) | (simp; omega) | omega))))).mono ?_); rintro e w1 ⟨rfl, hb1⟩; obtain ⟨osA, dA, rfl⟩ := ext_of_below hb1; clear hb1))
            go_roundw
            case rel => exact ⟨1, by omega, rfl, fun _ => (by first | exact trivial | rfl), fun h => by omega, by (repeat' (first | (with_reducible exact Below.refl _ _) | (with_reducible assumption) | (with_reducible refine Below.alloc ?_ ?_ _) | (with_reducible refine below_drewN ?_ _) | (with_reducible refine below_drew ?_) | (with_reducible refine below_ext ?_ ?_ _ _) | (with_reducible refine Below.setCell ?_ ?_ _) | (simp; done) | (simp; omega) | omega))⟩
            case measure => simp [intOf]
          · go_wp2_with (go_at_call 8; ((with_reducible refine (L.out _ (HW.out _ (by (repeat' (first | (with_reducible exact Below.refl _ _) | (with_reducible assumption) | (with_reducible refine Below.alloc ?_ ?_ _) | (with_reducible refine below_drewN ?_ _) | (with_reducible refine below_drew ?_) | (with_reducible refine below_ext ?_ ?_ _ _) | (with_reducible refine Below.setCell ?_ ?_ _) | (simp; done) | (simp; omega) | omega))))).mono ?_); rintro e w1 ⟨rfl, hb1⟩; obtain ⟨osA, dA, rfl⟩ := ext_of_below hb1; clear hb1))
            go_returns
            exact ⟨.inl ⟨n, by omega, HU1.out (by first | exact trivial | rfl), by rw [tK_lo h5, tO_lo h5]⟩, by (repeat' (first | (with_reducible exact Below.refl _ _) | (with_reducible assumption) | (with_reducible refine Below.alloc ?_ ?_ _) | (with_reducible refine below_drewN ?_ _) | (with_reducible refine below_drew ?_) | (with_reducible refine below_ext ?_ ?_ _ _) | (with_reducible refine Below.setCell ?_ ?_ _) | (simp; done) | (simp; omega) | omega))⟩
        · have hu0 := hr1 (by omega)
          subst hu0
          clear hr1 hr2
          cases v
          · go_wp2_with (go_at_call 8; ((with_reducible refine (H.out _ (HW.out _ (by (repeat' (first | (with_reducible exact Below.refl _ _) | (with_reducible assumption) | (with_reducible refine Below.alloc ?_ ?_ _) | (with_reducible refine below_drewN ?_ _) | (with_reducible refine below_drew ?_) | (with_reducible refine below_ext ?_ ?_ _ _) | (with_reducible refine Below.setCell ?_ ?_ _) | (simp; done) | (simp; omega) | omega))))).mono ?_); rintro e w1 ⟨rfl, hb1⟩; obtain ⟨osA, dA, rfl⟩ := ext_of_below hb1; clear hb1))
            go_roundw
            case rel => exact ⟨2, by omega, rfl, fun _ => (by first | exact trivial | rfl), fun _ => (by first | exact trivial | rfl), by (repeat' (first | (with_reducible exact Below.refl _ _) | (with_reducible assumption) | (with_reducible refine Below.alloc ?_ ?_ _) | (with_reducible refine below_drewN ?_ _) | (with_reducible refine below_drew ?_) | (with_reducible refine below_ext ?_ ?_ _ _) | (with_reducible refine Below.setCell ?_ ?_ _) | (simp; done) | (simp; omega) | omega))⟩
            case measure => simp [intOf]
          · go_wp2_with (go_at_call 8; ((with_reducible refine (H.out _ (HW.out _ (by (repeat' (first | (with_reducible exact Below.refl _ _) | (with_reducible assumption) | (with_reducible refine Below.alloc ?_ ?_ _) | (with_reducible refine below_drewN ?_ _) | (with_reducible refine below_drew ?_) | (with_reducible refine below_ext ?_ ?_ _ _) | (with_reducible refine Below.setCell ?_ ?_ _) | (simp; done) | (simp; omega) | omega))))).mono ?_); rintro e w1 ⟨rfl, hb1⟩; obtain ⟨osA, dA, rfl⟩ := ext_of_below hb1; clear hb1))
            go_returns
            exact ⟨.inl ⟨5 + n, by omega, HV1.out (by first | exact trivial | rfl), by rw [tK_hi, tO_hi]⟩, by (repeat' (first | (with_reducible exact Below.refl _ _) | (with_reducible assumption) | (with_reducible refine Below.alloc ?_ ?_ _) | (with_reducible refine below_drewN ?_ _) | (with_reducible refine below_drew ?_) | (with_reducible refine below_ext ?_ ?_ _ _) | (with_reducible refine Below.setCell ?_ ?_ _) | (simp; done) | (simp; omega) | omega))⟩
        · have hu0 := hr1 (by omega)
          have hv0 := hr2 (by omega)
          subst hu0 hv0
          clear hr1 hr2
          go_wp2_with fail
          go_roundw
          case rel => exact ⟨n + 1, by omega, by go_num, fun j hj => by
            by_cases hjn : j = n
            · subst hjn; exact ⟨HU2.out rfl, HV2.out rfl⟩
            · exact hno.out j (by omega), by (repeat' (first | (with_reducible exact Below.refl _ _) | (with_reducible assumption) | (with_reducible refine Below.alloc ?_ ?_ _) | (with_reducible refine below_drewN ?_ _) | (with_reducible refine below_drew ?_) | (with_reducible refine below_ext ?_ ?_ _ _) | (with_reducible refine Below.setCell ?_ ?_ _) | (simp; done) | (simp; omega) | omega))⟩
          case measure => simp [intOf]; omega
    · have hi : ¬ (n : Int) < 5 := by omega
      obtain rfl : n = 5 := by omega
      clear hn h5 hi
      go_wp2_with fail
      go_returns
      exact ⟨.inr ⟨fun j hj => by
        by_cases hjn : j < 5
        · exact (hno.out j hjn).1
        · obtain ⟨m, rfl⟩ : ∃ m, j = 5 + m := ⟨j - 5, by omega⟩
          exact (hno.out m (by omega)).2, rfl⟩, by (repeat' (first | (with_reducible exact Below.refl _ _) | (with_reducible assumption) | (with_reducible refine Below.alloc ?_ ?_ _) | (with_reducible refine below_drewN ?_ _) | (with_reducible refine below_drew ?_) | (with_reducible refine below_ext ?_ ?_ _ _) | (with_reducible refine Below.setCell ?_ ?_ _) | (simp; done) | (simp; omega) | omega))⟩
/-- the type of a text: both answer the same -/
theorem parsePair (s : ByteArray) : ∃ k o e0 : Int,
    (∀ w, Words w → Calls Tryd.prog 10 #[.string s] w fun e w' => e = .returned (.tuple #[T k o, .int .i64 e0]) ∧ Below w.heap.size w w') ∧
    (∀ w, Calls Tryd.prog 9 #[.string s] w fun e w' => e = .returned (.tuple #[T k o, .int .i64 e0]) ∧ Below w.heap.size w w') := by
  by_cases h : ∃ n, n < 10 ∧ s = nm n
  · obtain ⟨n, hn, hs⟩ := h
    refine ⟨tK n, tO n, 0, fun w hw => (parse_any s w hw).mono fun e w' ⟨he, hb⟩ => ?_, fun w => (docParse_any s w).mono fun e w' ⟨he, hb⟩ => ?_⟩
    all_goals
      rcases he with ⟨m, hm, hsm, rfl⟩ | ⟨hno, _⟩
      · obtain rfl := nm_inj hm hn (hsm.symm.trans hs)
        exact ⟨rfl, hb⟩
      · exact (hno n hn hs).elim
  · refine ⟨0, 0, 8, fun w hw => (parse_any s w hw).mono fun e w' ⟨he, hb⟩ => ?_, fun w => (docParse_any s w).mono fun e w' ⟨he, hb⟩ => ?_⟩
    all_goals
      rcases he with ⟨m, hm, hsm, _⟩ | ⟨_, rfl⟩
      · exact (h ⟨m, hm, hsm⟩).elim
      · exact ⟨rfl, hb⟩
/-- the document's name -/
theorem docName_ok (n : Nat) (hn : n < 10) (w : World) : Calls Tryd.prog 7 #[T (tK n) (tO n)] w fun e w' => e = .returned (.tuple #[.string (nm n), .int .i64 0]) ∧ Below w.heap.size w w' := by
  have F1 := Lib.hid (fun w => rform_yes (of_form n hn) w)
  have N1 := Lib.hid (fun w => named_ok n hn w)
  clear hn
  generalize tK n = k at *
  generalize tO n = o at *
  go_enter Tryd.func7, Tryd.ntmps7
  go_wp2_with (first
    | (go_at_call 6; ((with_reducible refine (F1.out _).mono ?_); rintro e w1 ⟨rfl, hb1⟩; obtain ⟨osA, dA, rfl⟩ := ext_of_below hb1; clear hb1))
    | (go_at_call 12; ((with_reducible refine (N1.out _).mono ?_); rintro e w1 ⟨rfl, hb1⟩; obtain ⟨osB, dB, rfl⟩ := ext_of_below hb1; clear hb1)))
  go_returns
  exact ⟨rfl, by (repeat' (first | (with_reducible exact Below.refl _ _) | (with_reducible assumption) | (with_reducible refine Below.alloc ?_ ?_ _) | (with_reducible refine below_drewN ?_ _) | (with_reducible refine below_drew ?_) | (with_reducible refine below_ext ?_ ?_ _ _) | (with_reducible refine Below.setCell ?_ ?_ _) | (simp; done) | (simp; omega) | omega))⟩
theorem docName_bad (k o : Int) (h : tform k o = false) (w : World) : Calls Tryd.prog 7 #[T k o] w fun e w' => e = .returned (.tuple #[.string ⟨#[]⟩, .int .i64 2]) ∧ Below w.heap.size w w' := by
  have F1 := Lib.hid (fun w => rform_no h w)
  clear h
  go_enter Tryd.func7, Tryd.ntmps7
  go_wp2_with (first
    | (go_at_call 6; ((with_reducible refine (F1.out _).mono ?_); rintro e w1 ⟨rfl, hb1⟩; obtain ⟨osA, dA, rfl⟩ := ext_of_below hb1; clear hb1)))
  go_returns
  exact ⟨rfl, by (repeat' (first | (with_reducible exact Below.refl _ _) | (with_reducible assumption) | (with_reducible refine Below.alloc ?_ ?_ _) | (with_reducible refine below_drewN ?_ _) | (with_reducible refine below_drew ?_) | (with_reducible refine below_ext ?_ ?_ _ _) | (with_reducible refine Below.setCell ?_ ?_ _) | (simp; done) | (simp; omega) | omega))⟩
theorem ten_of (k o : Int) (h : tform k o = true) : ∃ n, n < 10 ∧ k = tK n ∧ o = tO n := by
  rcases tform_ten h with ⟨rfl, rfl⟩ | ⟨rfl, rfl⟩ | ⟨rfl, rfl⟩ | ⟨rfl, rfl⟩ | ⟨rfl, rfl⟩ | ⟨rfl, rfl⟩ | ⟨rfl, rfl⟩ | ⟨rfl, rfl⟩ | ⟨rfl, rfl⟩ | ⟨rfl, rfl⟩
  · exact ⟨0, by decide, rfl, rfl⟩
  · exact ⟨1, by decide, rfl, rfl⟩
  · exact ⟨2, by decide, rfl, rfl⟩
  · exact ⟨3, by decide, rfl, rfl⟩
  · exact ⟨4, by decide, rfl, rfl⟩
  · exact ⟨5, by decide, rfl, rfl⟩
  · exact ⟨6, by decide, rfl, rfl⟩
  · exact ⟨7, by decide, rfl, rfl⟩
  · exact ⟨8, by decide, rfl, rfl⟩
  · exact ⟨9, by decide, rfl, rfl⟩
theorem namePair (k o : Int) : ∃ (t : ByteArray) (e0 : Int),
    (∀ w, Words w → Calls Tryd.prog 8 #[T k o] w fun e w' => e = .returned (.tuple #[.string t, .int .i64 e0]) ∧ Below w.heap.size w w') ∧
    (∀ w, Calls Tryd.prog 7 #[T k o] w fun e w' => e = .returned (.tuple #[.string t, .int .i64 e0]) ∧ Below w.heap.size w w') := by
  cases h : tform k o
  · exact ⟨_, 2, fun w _ => name_bad k o h w, fun w => docName_bad k o h w⟩
  · obtain ⟨n, hn, rfl, rfl⟩ := ten_of k o h
    refine ⟨_, 0, fun w hw => ?_, fun w => docName_ok n hn w⟩
    by_cases h5 : n < 5
    · rw [tK_lo h5, tO_lo h5]; exact name_lo n h5 w hw
    · obtain ⟨m, rfl⟩ : ∃ m, n = 5 + m := ⟨n - 5, by omega⟩
      rw [tK_hi, tO_hi]; exact name_hi m (by omega) w hw
theorem kindNames_law (k1 o1 : Int) (s : ByteArray) (w : World) (hw : Words w) :
    Calls Tryd.prog 3 #[T k1 o1, .string s] w fun e w' => e = .returned (.bool true) ∧ Below w.heap.size w w' := by
  have HW := Lib.hid (fun w' (hb : Below w.heap.size w w') => hw.below hb)
  obtain ⟨t, e1, a1, a2⟩ := namePair k1 o1
  obtain ⟨k, o, e2, b1, b2⟩ := parsePair s
  obtain ⟨u, hu⟩ : ∃ u, u = tform k1 o1 := ⟨_, rfl⟩
  have F1 := Lib.hid (fun w => kform_any k1 o1 w)
  have F2 := Lib.hid (fun w => rform_any k1 o1 w)
  rw [← hu] at F1 F2
  have A1 := Lib.hid a1; have A2 := Lib.hid a2; have B1 := Lib.hid b1; have B2 := Lib.hid b2
  clear hw a1 a2 b1 b2 hu
  go_enter Tryd.func3, Tryd.ntmps3
  go_wp2_with fail
  go_region_held3 (fun w' => w'.cell? ⟨w.heap.size, 0, none⟩ = some (.int .i64 k1) ∧ w'.cell? ⟨w.heap.size, 1, none⟩ = some (.int .i64 o1)) (first | (simp [go_sem]; done) | go_keep) (first
    | (go_at_call 4; ((with_reducible refine (known_any _ (HW.out _ (by (repeat' (first | (with_reducible exact Below.refl _ _) | (with_reducible assumption) | (with_reducible refine Below.alloc ?_ ?_ _) | (with_reducible refine below_drewN ?_ _) | (with_reducible refine below_drew ?_) | (with_reducible refine below_ext ?_ ?_ _ _) | (with_reducible refine Below.setCell ?_ ?_ _) | (simp; done) | (simp; omega) | omega))))).mono ?_); rintro e w1 ⟨rfl, hb1⟩; obtain ⟨osA, dA, rfl⟩ := ext_of_below hb1; clear hb1))
    | (go_at_call 5; ((with_reducible refine (F1.out _).mono ?_); rintro e w1 ⟨rfl, hb1⟩; obtain ⟨osB, dB, rfl⟩ := ext_of_below hb1; clear hb1))
    | (go_at_call 6; ((with_reducible refine (F2.out _).mono ?_); rintro e w1 ⟨rfl, hb1⟩; obtain ⟨osC, dC, rfl⟩ := ext_of_below hb1; clear hb1)))
  all_goals
    go_wp2_with (first
      | (go_at_call 7; ((with_reducible refine (A2.out _).mono ?_); rintro e w1 ⟨rfl, hb1⟩; obtain ⟨osD, dD, rfl⟩ := ext_of_below hb1; clear hb1))
      | (go_at_call 8; ((with_reducible refine (A1.out _ (HW.out _ (by (repeat' (first | (with_reducible exact Below.refl _ _) | (with_reducible assumption) | (with_reducible refine Below.alloc ?_ ?_ _) | (with_reducible refine below_drewN ?_ _) | (with_reducible refine below_drew ?_) | (with_reducible refine below_ext ?_ ?_ _ _) | (with_reducible refine Below.setCell ?_ ?_ _) | (simp; done) | (simp; omega) | omega))))).mono ?_); rintro e w1 ⟨rfl, hb1⟩; obtain ⟨osE, dE, rfl⟩ := ext_of_below hb1; clear hb1))
      | (go_at_call 9; ((with_reducible refine (B2.out _).mono ?_); rintro e w1 ⟨rfl, hb1⟩; obtain ⟨osF, dF, rfl⟩ := ext_of_below hb1; clear hb1))
      | (go_at_call 10; ((with_reducible refine (B1.out _ (HW.out _ (by (repeat' (first | (with_reducible exact Below.refl _ _) | (with_reducible assumption) | (with_reducible refine Below.alloc ?_ ?_ _) | (with_reducible refine below_drewN ?_ _) | (with_reducible refine below_drew ?_) | (with_reducible refine below_ext ?_ ?_ _ _) | (with_reducible refine Below.setCell ?_ ?_ _) | (simp; done) | (simp; omega) | omega))))).mono ?_); rintro e w1 ⟨rfl, hb1⟩; obtain ⟨osG, dG, rfl⟩ := ext_of_below hb1; clear hb1)))
    all_goals (first | (go_ret; exact ⟨rfl, by (repeat' (first | (with_reducible exact Below.refl _ _) | (with_reducible assumption) | (with_reducible refine Below.alloc ?_ ?_ _) | (with_reducible refine below_drewN ?_ _) | (with_reducible refine below_drew ?_) | (with_reducible refine below_ext ?_ ?_ _ _) | (with_reducible refine Below.setCell ?_ ?_ _) | (simp; done) | (simp; omega) | omega))⟩))
end Go.Proofs.YtjnhngnafnoicaaDoor
