/-
  The named references that a text begins with.
-/
import Derived.Test.YtgmfggflbcegjaaDoorEscE
import Derived.Test.YtgmfggflbcegjaaDoorUtfShelf
namespace Go.Proofs.YtgmfggflbcegjaaDoor
open Go.RowKit Txt
attribute [local go_sem] setCell_drewN cell?_ext frozen?_ext shape?_ext setCell_ext lt_1' ne_1' en_1' le_1' lt_2' ne_2' en_2' le_2' lt_3' ne_3' en_3' le_3' lt_4' ne_4' en_4' le_4' lt_5' ne_5' en_5' le_5' lt_6' ne_6' en_6' le_6' lt_7' ne_7' en_7' le_7' lt_8' ne_8' en_8' le_8' lt_9' ne_9' en_9' le_9' lt_10' ne_10' en_10' le_10' lt_11' ne_11' en_11' le_11' lt_12' ne_12' en_12' le_12'

/-- the character of the named reference that the bytes begin with, and its bytes; 0 bytes: none -/
def nm (l : List UInt8) : UInt8 × Nat := if Lib.hasPrefix l [108, 116, 59] then (60, 3) else if Lib.hasPrefix l [103, 116, 59] then (62, 3) else if Lib.hasPrefix l [97, 109, 112, 59] then (38, 4) else if Lib.hasPrefix l [113, 117, 111, 116, 59] then (34, 5) else if Lib.hasPrefix l [97, 112, 111, 115, 59] then (39, 5) else (0, 0)
set_option maxHeartbeats 4000000 in
theorem named_any (s : ByteArray) (w : World) :
    Calls Tryd.prog 67 #[.string s] w fun e w' => e = .returned (.tuple #[.int .u8 ((nm s.data.toList).1.toNat : Int), .int .i64 ((nm s.data.toList).2 : Int)]) ∧ w = w' := by
  unfold nm
  have k0 : ∀ w, Calls Tryd.prog 66 #[.string s, .string { data := #[108, 116, 59] }] w fun e w' => e = .returned (.bool (Lib.hasPrefix s.data.toList [108, 116, 59])) ∧ w = w' := fun w => (Tryd.strings_HasPrefix s { data := #[108, 116, 59] } w).mono fun _ _ h => ⟨h.1, h.2.symm⟩
  obtain ⟨b0, e0⟩ : ∃ b, Lib.hasPrefix s.data.toList [108, 116, 59] = b := ⟨_, rfl⟩
  rw [e0] at k0 ⊢
  have K0 := Lib.hid k0
  clear k0 e0
  have k1 : ∀ w, Calls Tryd.prog 66 #[.string s, .string { data := #[103, 116, 59] }] w fun e w' => e = .returned (.bool (Lib.hasPrefix s.data.toList [103, 116, 59])) ∧ w = w' := fun w => (Tryd.strings_HasPrefix s { data := #[103, 116, 59] } w).mono fun _ _ h => ⟨h.1, h.2.symm⟩
  obtain ⟨b1, e1⟩ : ∃ b, Lib.hasPrefix s.data.toList [103, 116, 59] = b := ⟨_, rfl⟩
  rw [e1] at k1 ⊢
  have K1 := Lib.hid k1
  clear k1 e1
  have k2 : ∀ w, Calls Tryd.prog 66 #[.string s, .string { data := #[97, 109, 112, 59] }] w fun e w' => e = .returned (.bool (Lib.hasPrefix s.data.toList [97, 109, 112, 59])) ∧ w = w' := fun w => (Tryd.strings_HasPrefix s { data := #[97, 109, 112, 59] } w).mono fun _ _ h => ⟨h.1, h.2.symm⟩
  obtain ⟨b2, e2⟩ : ∃ b, Lib.hasPrefix s.data.toList [97, 109, 112, 59] = b := ⟨_, rfl⟩
  rw [e2] at k2 ⊢
  have K2 := Lib.hid k2
  clear k2 e2
  have k3 : ∀ w, Calls Tryd.prog 66 #[.string s, .string { data := #[113, 117, 111, 116, 59] }] w fun e w' => e = .returned (.bool (Lib.hasPrefix s.data.toList [113, 117, 111, 116, 59])) ∧ w = w' := fun w => (Tryd.strings_HasPrefix s { data := #[113, 117, 111, 116, 59] } w).mono fun _ _ h => ⟨h.1, h.2.symm⟩
  obtain ⟨b3, e3⟩ : ∃ b, Lib.hasPrefix s.data.toList [113, 117, 111, 116, 59] = b := ⟨_, rfl⟩
  rw [e3] at k3 ⊢
  have K3 := Lib.hid k3
  clear k3 e3
  have k4 : ∀ w, Calls Tryd.prog 66 #[.string s, .string { data := #[97, 112, 111, 115, 59] }] w fun e w' => e = .returned (.bool (Lib.hasPrefix s.data.toList [97, 112, 111, 115, 59])) ∧ w = w' := fun w => (Tryd.strings_HasPrefix s { data := #[97, 112, 111, 115, 59] } w).mono fun _ _ h => ⟨h.1, h.2.symm⟩
  obtain ⟨b4, e4⟩ : ∃ b, Lib.hasPrefix s.data.toList [97, 112, 111, 115, 59] = b := ⟨_, rfl⟩
  rw [e4] at k4 ⊢
  have K4 := Lib.hid k4
  clear k4 e4
  cases b0 with
  | true =>
    go_enter Tryd.func67, Tryd.ntmps67
    go_wp2_with (first
      | (go_at_call 66; ((with_reducible refine (K0.out _).mono ?_); rintro e w' ⟨rfl, rfl⟩))
      | (go_at_call 66; ((with_reducible refine (K1.out _).mono ?_); rintro e w' ⟨rfl, rfl⟩))
      | (go_at_call 66; ((with_reducible refine (K2.out _).mono ?_); rintro e w' ⟨rfl, rfl⟩))
      | (go_at_call 66; ((with_reducible refine (K3.out _).mono ?_); rintro e w' ⟨rfl, rfl⟩))
      | (go_at_call 66; ((with_reducible refine (K4.out _).mono ?_); rintro e w' ⟨rfl, rfl⟩)))
    go_ret2
    exact ⟨rfl, rfl⟩
  | false =>
    cases b1 with
    | true =>
      go_enter Tryd.func67, Tryd.ntmps67
      go_wp2_with (first
      | (go_at_call 66; ((with_reducible refine (K0.out _).mono ?_); rintro e w' ⟨rfl, rfl⟩))
      | (go_at_call 66; ((with_reducible refine (K1.out _).mono ?_); rintro e w' ⟨rfl, rfl⟩))
      | (go_at_call 66; ((with_reducible refine (K2.out _).mono ?_); rintro e w' ⟨rfl, rfl⟩))
      | (go_at_call 66; ((with_reducible refine (K3.out _).mono ?_); rintro e w' ⟨rfl, rfl⟩))
      | (go_at_call 66; ((with_reducible refine (K4.out _).mono ?_); rintro e w' ⟨rfl, rfl⟩)))
      go_ret2
      exact ⟨rfl, rfl⟩
    | false =>
      cases b2 with
      | true =>
        go_enter Tryd.func67, Tryd.ntmps67
        go_wp2_with (first
      | (go_at_call 66; ((with_reducible refine (K0.out _).mono ?_); rintro e w' ⟨rfl, rfl⟩))
      | (go_at_call 66; ((with_reducible refine (K1.out _).mono ?_); rintro e w' ⟨rfl, rfl⟩))
      | (go_at_call 66; ((with_reducible refine (K2.out _).mono ?_); rintro e w' ⟨rfl, rfl⟩))
      | (go_at_call 66; ((with_reducible refine (K3.out _).mono ?_); rintro e w' ⟨rfl, rfl⟩))
      | (go_at_call 66; ((with_reducible refine (K4.out _).mono ?_); rintro e w' ⟨rfl, rfl⟩)))
        go_ret2
        exact ⟨rfl, rfl⟩
      | false =>
        cases b3 with
        | true =>
          go_enter Tryd.func67, Tryd.ntmps67
          go_wp2_with (first
      | (go_at_call 66; ((with_reducible refine (K0.out _).mono ?_); rintro e w' ⟨rfl, rfl⟩))
      | (go_at_call 66; ((with_reducible refine (K1.out _).mono ?_); rintro e w' ⟨rfl, rfl⟩))
      | (go_at_call 66; ((with_reducible refine (K2.out _).mono ?_); rintro e w' ⟨rfl, rfl⟩))
      | (go_at_call 66; ((with_reducible refine (K3.out _).mono ?_); rintro e w' ⟨rfl, rfl⟩))
      | (go_at_call 66; ((with_reducible refine (K4.out _).mono ?_); rintro e w' ⟨rfl, rfl⟩)))
          go_ret2
          exact ⟨rfl, rfl⟩
        | false =>
          cases b4 with
          | true =>
            go_enter Tryd.func67, Tryd.ntmps67
            go_wp2_with (first
      | (go_at_call 66; ((with_reducible refine (K0.out _).mono ?_); rintro e w' ⟨rfl, rfl⟩))
      | (go_at_call 66; ((with_reducible refine (K1.out _).mono ?_); rintro e w' ⟨rfl, rfl⟩))
      | (go_at_call 66; ((with_reducible refine (K2.out _).mono ?_); rintro e w' ⟨rfl, rfl⟩))
      | (go_at_call 66; ((with_reducible refine (K3.out _).mono ?_); rintro e w' ⟨rfl, rfl⟩))
      | (go_at_call 66; ((with_reducible refine (K4.out _).mono ?_); rintro e w' ⟨rfl, rfl⟩)))
            go_ret2
            exact ⟨rfl, rfl⟩
          | false =>
            go_enter Tryd.func67, Tryd.ntmps67
            go_wp2_with (first
      | (go_at_call 66; ((with_reducible refine (K0.out _).mono ?_); rintro e w' ⟨rfl, rfl⟩))
      | (go_at_call 66; ((with_reducible refine (K1.out _).mono ?_); rintro e w' ⟨rfl, rfl⟩))
      | (go_at_call 66; ((with_reducible refine (K2.out _).mono ?_); rintro e w' ⟨rfl, rfl⟩))
      | (go_at_call 66; ((with_reducible refine (K3.out _).mono ?_); rintro e w' ⟨rfl, rfl⟩))
      | (go_at_call 66; ((with_reducible refine (K4.out _).mono ?_); rintro e w' ⟨rfl, rfl⟩)))
            go_ret2
            exact ⟨rfl, rfl⟩
end Go.Proofs.YtgmfggflbcegjaaDoor
