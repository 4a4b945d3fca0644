/-
  The document's decoder of one character, and its agreement with the language's own.
  From the rows' conditions to the walks' words: the library's tables of the encoding; the statements' own first question; the row's last step.
  The document's decoder agrees with the language's; the contract of Chars, and of the document's Valid.
  The contract of the document's Chars: the placesT at which characters begin, and the end.
-/
import Derived.Test.YtalahkincccffaaGreatDoorValid
import Derived.Test.YtalahkincccffaaGreatDoorNames
import Derived.ProofKit
import Derived.LaidMore
import Derived.LaidLaws
import Derived.MakeChecks
import Derived.OpenShut
import Derived.ShutString
import Derived.Stop.Joined
import Derived.Stop.LaidErr
import Derived.Lib.LaidTab
import Derived.Lib.SmallJoins
import Derived.Lib.LaidU8T
import Derived.PinnedBridge
import Derived.Lay
import Derived.LaidOnce
import Derived.SizedLaws
import Derived.Test.YtalahkincccffaaGreatDoorBa
namespace Go.Proofs.YtalahkincccffaaGreatDoor
open Go.RowKit Txt
attribute [local go_sem] setCell_drewN cell?_ext frozen?_ext shape?_ext setCell_ext lt_1' ne_1' en_1' le_1' lt_2' ne_2' en_2' le_2' lt_3' ne_3' en_3' le_3' lt_4' ne_4' en_4' le_4' lt_5' ne_5' en_5' le_5' lt_6' ne_6' en_6' le_6' lt_7' ne_7' en_7' le_7' lt_8' ne_8' en_8' le_8' lt_9' ne_9' en_9' le_9' lt_10' ne_10' en_10' le_10' lt_11' ne_11' en_11' le_11' lt_12' ne_12' en_12' le_12'

def Tl (s : ByteArray) (i : Nat) : Prop := i < s.size ∧ (s.get! i).toNat / 64 = 2
def acc (s : ByteArray) (i c0 : Nat) : Nat → Nat
  | 0 => c0
  | j + 1 => acc s i c0 j * 64 + (s.get! (i + (j + 1))).toNat % 64
theorem acc_bd (s : ByteArray) (i c0 : Nat) (h : c0 ≤ 31) : ∀ j, j ≤ 3 → acc s i c0 j ≤ 8388607 := by
  intro j hj
  have h3 : j = 0 ∨ j = 1 ∨ j = 2 ∨ j = 3 := by omega
  rcases h3 with rfl | rfl | rfl | rfl <;> simp only [acc] <;> omega
theorem tl_yes (s : ByteArray) (i : Nat) (h : Tl s i) (w : World) :
    Calls Tryz.prog 95 #[.string s, .int .i64 i] w fun e w' => e = .returned (.tuple #[.int .i64 (((s.get! i).toNat % 64 : Nat) : Int), .bool true]) ∧ w = w' := by
  obtain ⟨h1, h2⟩ := h
  rw [get_of s i h1] at h2 ⊢
  exact tail_yes s i h1 h2 w
theorem tl_no (s : ByteArray) (i : Nat) (h : ¬ Tl s i) (w : World) :
    Calls Tryz.prog 95 #[.string s, .int .i64 i] w fun e w' => e = .returned (.tuple #[.int .i64 0, .bool false]) ∧ w = w' :=
  tail_no s i (fun hi hb => h ⟨hi, by rw [get_of s i hi]; exact hb⟩) w
set_option maxRecDepth 100000 in
theorem one_ascii (s : ByteArray) (i : Nat) (hi : i < s.size) (hb : (s[i]'hi).toNat < 128) (w : World) :
    Calls Tryz.prog 84 #[.string s, .int .i64 i] w fun e w' => e = .returned (.tuple #[.int .i64 ((s[i]'hi).toNat : Int), .int .i64 1, .bool true]) ∧ w = w' := by
  go_enter Tryz.func84, Tryz.ntmps84
  go_wp2
  go_ret3
  exact ⟨rfl, rfl⟩
set_option maxRecDepth 100000 in
theorem one_bad (s : ByteArray) (i : Nat) (hi : i < s.size) (hb : (128 ≤ (s[i]'hi).toNat ∧ (s[i]'hi).toNat < 192) ∨ 248 ≤ (s[i]'hi).toNat) (w : World) :
    Calls Tryz.prog 84 #[.string s, .int .i64 i] w fun e w' => e = .returned (.tuple #[.int .i64 0, .int .i64 0, .bool false]) ∧ w = w' := by
  have hlt : (s[i]'hi).toNat < 256 := UInt8.toNat_lt _
  rcases hb with ⟨h1, h2⟩ | h1
  · have g1 : ((s[i]'hi).toNat : Int) < 192 := by omega
    go_enter Tryz.func84, Tryz.ntmps84
    go_wp2
    go_ret3
    exact ⟨rfl, rfl⟩
  · have g1 : 240 ≤ (s[i]'hi).toNat := by omega
    have g2 : ¬ (s[i]'hi).toNat < 224 := by omega
    have g3 : ¬ (s[i]'hi).toNat < 240 := by omega
    have g4 : ¬ (s[i]'hi).toNat < 248 := by omega
    go_enter Tryz.func84, Tryz.ntmps84
    go_wp2
    go_ret3
    exact ⟨rfl, rfl⟩
def Lead (x n c0 l : Nat) : Prop := (192 ≤ x ∧ x < 224 ∧ n = 2 ∧ c0 = x % 32 ∧ l = 128) ∨ (224 ≤ x ∧ x < 240 ∧ n = 3 ∧ c0 = x % 16 ∧ l = 2048) ∨ (240 ≤ x ∧ x < 248 ∧ n = 4 ∧ c0 = x % 8 ∧ l = 65536)
set_option maxRecDepth 100000 in
set_option maxHeartbeats 8000000 in
theorem one_yes (s : ByteArray) (i : Nat) (hi : i < s.size) (hs : s.size ≤ 140737488351232) (n c0 l : Nat) (hL : Lead (s[i]'hi).toNat n c0 l) (ht : ∀ j, 1 ≤ j → j < n → Tl s (i + j)) (w : World) :
    Calls Tryz.prog 84 #[.string s, .int .i64 i] w fun e w' => e = .returned (.tuple #[.int .i64 (acc s i c0 (n - 1) : Int), .int .i64 (n : Int), .bool (decide ((l : Int) ≤ (acc s i c0 (n - 1) : Int)))]) ∧ w = w' := by
  have hlt : (s[i]'hi).toNat < 256 := UInt8.toNat_lt _
  have e31 := bits_31 ⟨(s[i]'hi).toNat, hlt⟩
  have e15 := bits_15 ⟨(s[i]'hi).toNat, hlt⟩
  have e7 := bits_7 ⟨(s[i]'hi).toNat, hlt⟩
  simp only at e31 e15 e7
  have HT := Lib.hid ht
  clear ht
  rcases hL with ⟨h1, h2, rfl, hc0, rfl⟩ | ⟨h1, h2, rfl, hc0, rfl⟩ | ⟨h1, h2, rfl, hc0, rfl⟩
  case inl =>
    rw [← hc0] at e31
    have hc : c0 ≤ 31 := by omega
    have HA := Lib.hid (acc_bd s i c0 hc)
    have i0 : (128 : Int) ≤ ((s[i]'hi).toNat : Int) := by omega
    have i1 : (192 : Int) ≤ ((s[i]'hi).toNat : Int) := by omega
    have i2 : ((s[i]'hi).toNat : Int) < 224 := by omega
    clear e15 e7 hc0 h1 h2
    go_enter Tryz.func84, Tryz.ntmps84
    go_wp2
    go_loop [7, 10] (fun c k => ∃ j : Nat, j ≤ 1 ∧ k = .int .i64 ((j : Int) + 1) ∧ c = .int .i64 (acc s i c0 j : Int)) (fun _ k => 5 - (intOf k).toNat)
    case atStart => exact ⟨0, by omega, rfl, rfl⟩
    case round =>
      obtain ⟨j, hj, rfl, rfl⟩ := hrel
      have hab := HA.out j (by omega)
      have hjs : j = 0 ∨ j = 1 := by omega
      clear hj
      rcases hjs with rfl | rfl
      · have hTl := HT.out 1 (by omega) (by omega)
        have hT2 := tl_yes s (i + 1) hTl
        have hin := hTl.1
        obtain ⟨t, htt⟩ : ∃ t, t = (s.get! (i + 1)).toNat % 64 := ⟨_, rfl⟩
        rw [← htt] at hT2
        have ht64 : t < 64 := by omega
        have hacc : acc s i c0 1 = acc s i c0 0 * 64 + t := by rw [htt]; rfl
        have hT3 : ∀ w, Calls Tryz.prog 95 #[.string s, .int .i64 ((i : Int) + 1)] w fun e w' => e = .returned (.tuple #[.int .i64 (t : Int), .bool true]) ∧ w = w' := hT2
        have HT3 := Lib.hid hT3; have HACC := Lib.hid hacc
        obtain ⟨x, hx⟩ : ∃ x, x = acc s i c0 0 := ⟨_, rfl⟩
        rw [← hx] at hab HACC ⊢
        clear hT2 hT3 hacc htt hTl hx
        go_wp2_with (go_at_call 95; ((with_reducible refine (HT3.out _).mono ?_); rintro e w' ⟨rfl, rfl⟩))
        go_round
        case rel => exact ⟨1, by omega, rfl, by rw [HACC.out]; go_num⟩
        case measure => simp [intOf]
      · go_wp2
        go_ret3
        exact ⟨rfl, rfl⟩
  case inr.inl =>
    rw [← hc0] at e15
    have hc : c0 ≤ 31 := by omega
    have HA := Lib.hid (acc_bd s i c0 hc)
    have i0 : (128 : Int) ≤ ((s[i]'hi).toNat : Int) := by omega
    have i1 : (192 : Int) ≤ ((s[i]'hi).toNat : Int) := by omega
    have i2 : (224 : Int) ≤ ((s[i]'hi).toNat : Int) := by omega
    have i3 : ((s[i]'hi).toNat : Int) < 240 := by omega
    clear e31 e7 hc0 h1 h2
    go_enter Tryz.func84, Tryz.ntmps84
    go_wp2
    go_loop [7, 10] (fun c k => ∃ j : Nat, j ≤ 2 ∧ k = .int .i64 ((j : Int) + 1) ∧ c = .int .i64 (acc s i c0 j : Int)) (fun _ k => 5 - (intOf k).toNat)
    case atStart => exact ⟨0, by omega, rfl, rfl⟩
    case round =>
      obtain ⟨j, hj, rfl, rfl⟩ := hrel
      have hab := HA.out j (by omega)
      have hjs : j = 0 ∨ j = 1 ∨ j = 2 := by omega
      clear hj
      rcases hjs with rfl | rfl | rfl
      · have hTl := HT.out 1 (by omega) (by omega)
        have hT2 := tl_yes s (i + 1) hTl
        have hin := hTl.1
        obtain ⟨t, htt⟩ : ∃ t, t = (s.get! (i + 1)).toNat % 64 := ⟨_, rfl⟩
        rw [← htt] at hT2
        have ht64 : t < 64 := by omega
        have hacc : acc s i c0 1 = acc s i c0 0 * 64 + t := by rw [htt]; rfl
        have hT3 : ∀ w, Calls Tryz.prog 95 #[.string s, .int .i64 ((i : Int) + 1)] w fun e w' => e = .returned (.tuple #[.int .i64 (t : Int), .bool true]) ∧ w = w' := hT2
        have HT3 := Lib.hid hT3; have HACC := Lib.hid hacc
        obtain ⟨x, hx⟩ : ∃ x, x = acc s i c0 0 := ⟨_, rfl⟩
        rw [← hx] at hab HACC ⊢
        clear hT2 hT3 hacc htt hTl hx
        go_wp2_with (go_at_call 95; ((with_reducible refine (HT3.out _).mono ?_); rintro e w' ⟨rfl, rfl⟩))
        go_round
        case rel => exact ⟨1, by omega, rfl, by rw [HACC.out]; go_num⟩
        case measure => simp [intOf]
      · have hTl := HT.out 2 (by omega) (by omega)
        have hT2 := tl_yes s (i + 2) hTl
        have hin := hTl.1
        obtain ⟨t, htt⟩ : ∃ t, t = (s.get! (i + 2)).toNat % 64 := ⟨_, rfl⟩
        rw [← htt] at hT2
        have ht64 : t < 64 := by omega
        have hacc : acc s i c0 2 = acc s i c0 1 * 64 + t := by rw [htt]; rfl
        have hT3 : ∀ w, Calls Tryz.prog 95 #[.string s, .int .i64 ((i : Int) + 2)] w fun e w' => e = .returned (.tuple #[.int .i64 (t : Int), .bool true]) ∧ w = w' := hT2
        have HT3 := Lib.hid hT3; have HACC := Lib.hid hacc
        obtain ⟨x, hx⟩ : ∃ x, x = acc s i c0 1 := ⟨_, rfl⟩
        rw [← hx] at hab HACC ⊢
        clear hT2 hT3 hacc htt hTl hx
        go_wp2_with (go_at_call 95; ((with_reducible refine (HT3.out _).mono ?_); rintro e w' ⟨rfl, rfl⟩))
        go_round
        case rel => exact ⟨2, by omega, rfl, by rw [HACC.out]; go_num⟩
        case measure => simp [intOf]
      · go_wp2
        go_ret3
        exact ⟨rfl, rfl⟩
  case inr.inr =>
    rw [← hc0] at e7
    have hc : c0 ≤ 31 := by omega
    have HA := Lib.hid (acc_bd s i c0 hc)
    have i0 : (128 : Int) ≤ ((s[i]'hi).toNat : Int) := by omega
    have i1 : (192 : Int) ≤ ((s[i]'hi).toNat : Int) := by omega
    have i2 : (224 : Int) ≤ ((s[i]'hi).toNat : Int) := by omega
    have i3 : (240 : Int) ≤ ((s[i]'hi).toNat : Int) := by omega
    have i4 : ((s[i]'hi).toNat : Int) < 248 := by omega
    clear e31 e15 hc0 h1 h2
    go_enter Tryz.func84, Tryz.ntmps84
    go_wp2
    go_loop [7, 10] (fun c k => ∃ j : Nat, j ≤ 3 ∧ k = .int .i64 ((j : Int) + 1) ∧ c = .int .i64 (acc s i c0 j : Int)) (fun _ k => 5 - (intOf k).toNat)
    case atStart => exact ⟨0, by omega, rfl, rfl⟩
    case round =>
      obtain ⟨j, hj, rfl, rfl⟩ := hrel
      have hab := HA.out j (by omega)
      have hjs : j = 0 ∨ j = 1 ∨ j = 2 ∨ j = 3 := by omega
      clear hj
      rcases hjs with rfl | rfl | rfl | rfl
      · have hTl := HT.out 1 (by omega) (by omega)
        have hT2 := tl_yes s (i + 1) hTl
        have hin := hTl.1
        obtain ⟨t, htt⟩ : ∃ t, t = (s.get! (i + 1)).toNat % 64 := ⟨_, rfl⟩
        rw [← htt] at hT2
        have ht64 : t < 64 := by omega
        have hacc : acc s i c0 1 = acc s i c0 0 * 64 + t := by rw [htt]; rfl
        have hT3 : ∀ w, Calls Tryz.prog 95 #[.string s, .int .i64 ((i : Int) + 1)] w fun e w' => e = .returned (.tuple #[.int .i64 (t : Int), .bool true]) ∧ w = w' := hT2
        have HT3 := Lib.hid hT3; have HACC := Lib.hid hacc
        obtain ⟨x, hx⟩ : ∃ x, x = acc s i c0 0 := ⟨_, rfl⟩
        rw [← hx] at hab HACC ⊢
        clear hT2 hT3 hacc htt hTl hx
        go_wp2_with (go_at_call 95; ((with_reducible refine (HT3.out _).mono ?_); rintro e w' ⟨rfl, rfl⟩))
        go_round
        case rel => exact ⟨1, by omega, rfl, by rw [HACC.out]; go_num⟩
        case measure => simp [intOf]
      · have hTl := HT.out 2 (by omega) (by omega)
        have hT2 := tl_yes s (i + 2) hTl
        have hin := hTl.1
        obtain ⟨t, htt⟩ : ∃ t, t = (s.get! (i + 2)).toNat % 64 := ⟨_, rfl⟩
        rw [← htt] at hT2
        have ht64 : t < 64 := by omega
        have hacc : acc s i c0 2 = acc s i c0 1 * 64 + t := by rw [htt]; rfl
        have hT3 : ∀ w, Calls Tryz.prog 95 #[.string s, .int .i64 ((i : Int) + 2)] w fun e w' => e = .returned (.tuple #[.int .i64 (t : Int), .bool true]) ∧ w = w' := hT2
        have HT3 := Lib.hid hT3; have HACC := Lib.hid hacc
        obtain ⟨x, hx⟩ : ∃ x, x = acc s i c0 1 := ⟨_, rfl⟩
        rw [← hx] at hab HACC ⊢
        clear hT2 hT3 hacc htt hTl hx
        go_wp2_with (go_at_call 95; ((with_reducible refine (HT3.out _).mono ?_); rintro e w' ⟨rfl, rfl⟩))
        go_round
        case rel => exact ⟨2, by omega, rfl, by rw [HACC.out]; go_num⟩
        case measure => simp [intOf]
      · have hTl := HT.out 3 (by omega) (by omega)
        have hT2 := tl_yes s (i + 3) hTl
        have hin := hTl.1
        obtain ⟨t, htt⟩ : ∃ t, t = (s.get! (i + 3)).toNat % 64 := ⟨_, rfl⟩
        rw [← htt] at hT2
        have ht64 : t < 64 := by omega
        have hacc : acc s i c0 3 = acc s i c0 2 * 64 + t := by rw [htt]; rfl
        have hT3 : ∀ w, Calls Tryz.prog 95 #[.string s, .int .i64 ((i : Int) + 3)] w fun e w' => e = .returned (.tuple #[.int .i64 (t : Int), .bool true]) ∧ w = w' := hT2
        have HT3 := Lib.hid hT3; have HACC := Lib.hid hacc
        obtain ⟨x, hx⟩ : ∃ x, x = acc s i c0 2 := ⟨_, rfl⟩
        rw [← hx] at hab HACC ⊢
        clear hT2 hT3 hacc htt hTl hx
        go_wp2_with (go_at_call 95; ((with_reducible refine (HT3.out _).mono ?_); rintro e w' ⟨rfl, rfl⟩))
        go_round
        case rel => exact ⟨3, by omega, rfl, by rw [HACC.out]; go_num⟩
        case measure => simp [intOf]
      · go_wp2
        go_ret3
        exact ⟨rfl, rfl⟩
set_option maxRecDepth 100000 in
set_option maxHeartbeats 8000000 in
theorem one_no (s : ByteArray) (i : Nat) (hi : i < s.size) (hs : s.size ≤ 140737488351232) (n c0 l : Nat) (hL : Lead (s[i]'hi).toNat n c0 l) (ht : ¬ ∀ j, 1 ≤ j → j < n → Tl s (i + j)) (w : World) :
    Calls Tryz.prog 84 #[.string s, .int .i64 i] w fun e w' => e = .returned (.tuple #[.int .i64 0, .int .i64 0, .bool false]) ∧ w = w' := by
  have hlt : (s[i]'hi).toNat < 256 := UInt8.toNat_lt _
  have e31 := bits_31 ⟨(s[i]'hi).toNat, hlt⟩
  have e15 := bits_15 ⟨(s[i]'hi).toNat, hlt⟩
  have e7 := bits_7 ⟨(s[i]'hi).toNat, hlt⟩
  simp only at e31 e15 e7
  have HT := Lib.hid ht
  clear ht
  rcases hL with ⟨h1, h2, rfl, hc0, rfl⟩ | ⟨h1, h2, rfl, hc0, rfl⟩ | ⟨h1, h2, rfl, hc0, rfl⟩
  case inl =>
    rw [← hc0] at e31
    have hc : c0 ≤ 31 := by omega
    have HA := Lib.hid (acc_bd s i c0 hc)
    have i0 : (128 : Int) ≤ ((s[i]'hi).toNat : Int) := by omega
    have i1 : (192 : Int) ≤ ((s[i]'hi).toNat : Int) := by omega
    have i2 : ((s[i]'hi).toNat : Int) < 224 := by omega
    clear e15 e7 hc0 h1 h2
    go_enter Tryz.func84, Tryz.ntmps84
    go_wp2
    go_loop [7, 10] (fun c k => ∃ j : Nat, j ≤ 1 ∧ k = .int .i64 ((j : Int) + 1) ∧ c = .int .i64 (acc s i c0 j : Int) ∧ Hid (∀ m, 1 ≤ m → m ≤ j → Tl s (i + m))) (fun _ k => 5 - (intOf k).toNat)
    case atStart => exact ⟨0, by omega, rfl, rfl, Lib.hid (fun m h1 h2 => absurd h1 (by omega))⟩
    case round =>
      obtain ⟨j, hj, rfl, rfl, hbe⟩ := hrel
      have hab := HA.out j (by omega)
      have hjs : j = 0 ∨ j = 1 := by omega
      clear hj
      rcases hjs with rfl | rfl
      · by_cases hTl : Tl s (i + 1)
        · have hT2 := tl_yes s (i + 1) hTl
          have hin := hTl.1
          obtain ⟨t, htt⟩ : ∃ t, t = (s.get! (i + 1)).toNat % 64 := ⟨_, rfl⟩
          rw [← htt] at hT2
          have ht64 : t < 64 := by omega
          have hacc : acc s i c0 1 = acc s i c0 0 * 64 + t := by rw [htt]; rfl
          have hT3 : ∀ w, Calls Tryz.prog 95 #[.string s, .int .i64 ((i : Int) + 1)] w fun e w' => e = .returned (.tuple #[.int .i64 (t : Int), .bool true]) ∧ w = w' := hT2
          have HT3 := Lib.hid hT3; have HACC := Lib.hid hacc; have HTL := Lib.hid hTl
          obtain ⟨x, hx⟩ : ∃ x, x = acc s i c0 0 := ⟨_, rfl⟩
          rw [← hx] at hab HACC ⊢
          clear hT2 hT3 hacc htt hTl hx
          go_wp2_with (go_at_call 95; ((with_reducible refine (HT3.out _).mono ?_); rintro e w' ⟨rfl, rfl⟩))
          go_round
          case rel => exact ⟨1, by omega, rfl, by rw [HACC.out]; go_num, Lib.hid (fun m h1 h2 => by
            rcases Nat.lt_or_eq_of_le h2 with h3 | rfl
            · exact hbe.out m h1 (by omega)
            · exact HTL.out)⟩
          case measure => simp [intOf]
        · have hT3 : ∀ w, Calls Tryz.prog 95 #[.string s, .int .i64 ((i : Int) + 1)] w fun e w' => e = .returned (.tuple #[.int .i64 0, .bool false]) ∧ w = w' := tl_no s (i + 1) hTl
          have HT3 := Lib.hid hT3
          clear hT3 hTl
          go_wp2_with (go_at_call 95; ((with_reducible refine (HT3.out _).mono ?_); rintro e w' ⟨rfl, rfl⟩))
          go_ret3
          exact ⟨rfl, rfl⟩
      · exact absurd (fun m h1 h2 => hbe.out m h1 (by omega)) HT.out
  case inr.inl =>
    rw [← hc0] at e15
    have hc : c0 ≤ 31 := by omega
    have HA := Lib.hid (acc_bd s i c0 hc)
    have i0 : (128 : Int) ≤ ((s[i]'hi).toNat : Int) := by omega
    have i1 : (192 : Int) ≤ ((s[i]'hi).toNat : Int) := by omega
    have i2 : (224 : Int) ≤ ((s[i]'hi).toNat : Int) := by omega
    have i3 : ((s[i]'hi).toNat : Int) < 240 := by omega
    clear e31 e7 hc0 h1 h2
    go_enter Tryz.func84, Tryz.ntmps84
    go_wp2
    go_loop [7, 10] (fun c k => ∃ j : Nat, j ≤ 2 ∧ k = .int .i64 ((j : Int) + 1) ∧ c = .int .i64 (acc s i c0 j : Int) ∧ Hid (∀ m, 1 ≤ m → m ≤ j → Tl s (i + m))) (fun _ k => 5 - (intOf k).toNat)
    case atStart => exact ⟨0, by omega, rfl, rfl, Lib.hid (fun m h1 h2 => absurd h1 (by omega))⟩
    case round =>
      obtain ⟨j, hj, rfl, rfl, hbe⟩ := hrel
      have hab := HA.out j (by omega)
      have hjs : j = 0 ∨ j = 1 ∨ j = 2 := by omega
      clear hj
      rcases hjs with rfl | rfl | rfl
      · by_cases hTl : Tl s (i + 1)
        · have hT2 := tl_yes s (i + 1) hTl
          have hin := hTl.1
          obtain ⟨t, htt⟩ : ∃ t, t = (s.get! (i + 1)).toNat % 64 := ⟨_, rfl⟩
          rw [← htt] at hT2
          have ht64 : t < 64 := by omega
          have hacc : acc s i c0 1 = acc s i c0 0 * 64 + t := by rw [htt]; rfl
          have hT3 : ∀ w, Calls Tryz.prog 95 #[.string s, .int .i64 ((i : Int) + 1)] w fun e w' => e = .returned (.tuple #[.int .i64 (t : Int), .bool true]) ∧ w = w' := hT2
          have HT3 := Lib.hid hT3; have HACC := Lib.hid hacc; have HTL := Lib.hid hTl
          obtain ⟨x, hx⟩ : ∃ x, x = acc s i c0 0 := ⟨_, rfl⟩
          rw [← hx] at hab HACC ⊢
          clear hT2 hT3 hacc htt hTl hx
          go_wp2_with (go_at_call 95; ((with_reducible refine (HT3.out _).mono ?_); rintro e w' ⟨rfl, rfl⟩))
          go_round
          case rel => exact ⟨1, by omega, rfl, by rw [HACC.out]; go_num, Lib.hid (fun m h1 h2 => by
            rcases Nat.lt_or_eq_of_le h2 with h3 | rfl
            · exact hbe.out m h1 (by omega)
            · exact HTL.out)⟩
          case measure => simp [intOf]
        · have hT3 : ∀ w, Calls Tryz.prog 95 #[.string s, .int .i64 ((i : Int) + 1)] w fun e w' => e = .returned (.tuple #[.int .i64 0, .bool false]) ∧ w = w' := tl_no s (i + 1) hTl
          have HT3 := Lib.hid hT3
          clear hT3 hTl
          go_wp2_with (go_at_call 95; ((with_reducible refine (HT3.out _).mono ?_); rintro e w' ⟨rfl, rfl⟩))
          go_ret3
          exact ⟨rfl, rfl⟩
      · by_cases hTl : Tl s (i + 2)
        · have hT2 := tl_yes s (i + 2) hTl
          have hin := hTl.1
          obtain ⟨t, htt⟩ : ∃ t, t = (s.get! (i + 2)).toNat % 64 := ⟨_, rfl⟩
          rw [← htt] at hT2
          have ht64 : t < 64 := by omega
          have hacc : acc s i c0 2 = acc s i c0 1 * 64 + t := by rw [htt]; rfl
          have hT3 : ∀ w, Calls Tryz.prog 95 #[.string s, .int .i64 ((i : Int) + 2)] w fun e w' => e = .returned (.tuple #[.int .i64 (t : Int), .bool true]) ∧ w = w' := hT2
          have HT3 := Lib.hid hT3; have HACC := Lib.hid hacc; have HTL := Lib.hid hTl
          obtain ⟨x, hx⟩ : ∃ x, x = acc s i c0 1 := ⟨_, rfl⟩
          rw [← hx] at hab HACC ⊢
          clear hT2 hT3 hacc htt hTl hx
          go_wp2_with (go_at_call 95; ((with_reducible refine (HT3.out _).mono ?_); rintro e w' ⟨rfl, rfl⟩))
          go_round
          case rel => exact ⟨2, by omega, rfl, by rw [HACC.out]; go_num, Lib.hid (fun m h1 h2 => by
            rcases Nat.lt_or_eq_of_le h2 with h3 | rfl
            · exact hbe.out m h1 (by omega)
            · exact HTL.out)⟩
          case measure => simp [intOf]
        · have hT3 : ∀ w, Calls Tryz.prog 95 #[.string s, .int .i64 ((i : Int) + 2)] w fun e w' => e = .returned (.tuple #[.int .i64 0, .bool false]) ∧ w = w' := tl_no s (i + 2) hTl
          have HT3 := Lib.hid hT3
          clear hT3 hTl
          go_wp2_with (go_at_call 95; ((with_reducible refine (HT3.out _).mono ?_); rintro e w' ⟨rfl, rfl⟩))
          go_ret3
          exact ⟨rfl, rfl⟩
      · exact absurd (fun m h1 h2 => hbe.out m h1 (by omega)) HT.out
  case inr.inr =>
    rw [← hc0] at e7
    have hc : c0 ≤ 31 := by omega
    have HA := Lib.hid (acc_bd s i c0 hc)
    have i0 : (128 : Int) ≤ ((s[i]'hi).toNat : Int) := by omega
    have i1 : (192 : Int) ≤ ((s[i]'hi).toNat : Int) := by omega
    have i2 : (224 : Int) ≤ ((s[i]'hi).toNat : Int) := by omega
    have i3 : (240 : Int) ≤ ((s[i]'hi).toNat : Int) := by omega
    have i4 : ((s[i]'hi).toNat : Int) < 248 := by omega
    clear e31 e15 hc0 h1 h2
    go_enter Tryz.func84, Tryz.ntmps84
    go_wp2
    go_loop [7, 10] (fun c k => ∃ j : Nat, j ≤ 3 ∧ k = .int .i64 ((j : Int) + 1) ∧ c = .int .i64 (acc s i c0 j : Int) ∧ Hid (∀ m, 1 ≤ m → m ≤ j → Tl s (i + m))) (fun _ k => 5 - (intOf k).toNat)
    case atStart => exact ⟨0, by omega, rfl, rfl, Lib.hid (fun m h1 h2 => absurd h1 (by omega))⟩
    case round =>
      obtain ⟨j, hj, rfl, rfl, hbe⟩ := hrel
      have hab := HA.out j (by omega)
      have hjs : j = 0 ∨ j = 1 ∨ j = 2 ∨ j = 3 := by omega
      clear hj
      rcases hjs with rfl | rfl | rfl | rfl
      · by_cases hTl : Tl s (i + 1)
        · have hT2 := tl_yes s (i + 1) hTl
          have hin := hTl.1
          obtain ⟨t, htt⟩ : ∃ t, t = (s.get! (i + 1)).toNat % 64 := ⟨_, rfl⟩
          rw [← htt] at hT2
          have ht64 : t < 64 := by omega
          have hacc : acc s i c0 1 = acc s i c0 0 * 64 + t := by rw [htt]; rfl
          have hT3 : ∀ w, Calls Tryz.prog 95 #[.string s, .int .i64 ((i : Int) + 1)] w fun e w' => e = .returned (.tuple #[.int .i64 (t : Int), .bool true]) ∧ w = w' := hT2
          have HT3 := Lib.hid hT3; have HACC := Lib.hid hacc; have HTL := Lib.hid hTl
          obtain ⟨x, hx⟩ : ∃ x, x = acc s i c0 0 := ⟨_, rfl⟩
          rw [← hx] at hab HACC ⊢
          clear hT2 hT3 hacc htt hTl hx
          go_wp2_with (go_at_call 95; ((with_reducible refine (HT3.out _).mono ?_); rintro e w' ⟨rfl, rfl⟩))
          go_round
          case rel => exact ⟨1, by omega, rfl, by rw [HACC.out]; go_num, Lib.hid (fun m h1 h2 => by
            rcases Nat.lt_or_eq_of_le h2 with h3 | rfl
            · exact hbe.out m h1 (by omega)
            · exact HTL.out)⟩
          case measure => simp [intOf]
        · have hT3 : ∀ w, Calls Tryz.prog 95 #[.string s, .int .i64 ((i : Int) + 1)] w fun e w' => e = .returned (.tuple #[.int .i64 0, .bool false]) ∧ w = w' := tl_no s (i + 1) hTl
          have HT3 := Lib.hid hT3
          clear hT3 hTl
          go_wp2_with (go_at_call 95; ((with_reducible refine (HT3.out _).mono ?_); rintro e w' ⟨rfl, rfl⟩))
          go_ret3
          exact ⟨rfl, rfl⟩
      · by_cases hTl : Tl s (i + 2)
        · have hT2 := tl_yes s (i + 2) hTl
          have hin := hTl.1
          obtain ⟨t, htt⟩ : ∃ t, t = (s.get! (i + 2)).toNat % 64 := ⟨_, rfl⟩
          rw [← htt] at hT2
          have ht64 : t < 64 := by omega
          have hacc : acc s i c0 2 = acc s i c0 1 * 64 + t := by rw [htt]; rfl
          have hT3 : ∀ w, Calls Tryz.prog 95 #[.string s, .int .i64 ((i : Int) + 2)] w fun e w' => e = .returned (.tuple #[.int .i64 (t : Int), .bool true]) ∧ w = w' := hT2
          have HT3 := Lib.hid hT3; have HACC := Lib.hid hacc; have HTL := Lib.hid hTl
          obtain ⟨x, hx⟩ : ∃ x, x = acc s i c0 1 := ⟨_, rfl⟩
          rw [← hx] at hab HACC ⊢
          clear hT2 hT3 hacc htt hTl hx
          go_wp2_with (go_at_call 95; ((with_reducible refine (HT3.out _).mono ?_); rintro e w' ⟨rfl, rfl⟩))
          go_round
          case rel => exact ⟨2, by omega, rfl, by rw [HACC.out]; go_num, Lib.hid (fun m h1 h2 => by
            rcases Nat.lt_or_eq_of_le h2 with h3 | rfl
            · exact hbe.out m h1 (by omega)
            · exact HTL.out)⟩
          case measure => simp [intOf]
        · have hT3 : ∀ w, Calls Tryz.prog 95 #[.string s, .int .i64 ((i : Int) + 2)] w fun e w' => e = .returned (.tuple #[.int .i64 0, .bool false]) ∧ w = w' := tl_no s (i + 2) hTl
          have HT3 := Lib.hid hT3
          clear hT3 hTl
          go_wp2_with (go_at_call 95; ((with_reducible refine (HT3.out _).mono ?_); rintro e w' ⟨rfl, rfl⟩))
          go_ret3
          exact ⟨rfl, rfl⟩
      · by_cases hTl : Tl s (i + 3)
        · have hT2 := tl_yes s (i + 3) hTl
          have hin := hTl.1
          obtain ⟨t, htt⟩ : ∃ t, t = (s.get! (i + 3)).toNat % 64 := ⟨_, rfl⟩
          rw [← htt] at hT2
          have ht64 : t < 64 := by omega
          have hacc : acc s i c0 3 = acc s i c0 2 * 64 + t := by rw [htt]; rfl
          have hT3 : ∀ w, Calls Tryz.prog 95 #[.string s, .int .i64 ((i : Int) + 3)] w fun e w' => e = .returned (.tuple #[.int .i64 (t : Int), .bool true]) ∧ w = w' := hT2
          have HT3 := Lib.hid hT3; have HACC := Lib.hid hacc; have HTL := Lib.hid hTl
          obtain ⟨x, hx⟩ : ∃ x, x = acc s i c0 2 := ⟨_, rfl⟩
          rw [← hx] at hab HACC ⊢
          clear hT2 hT3 hacc htt hTl hx
          go_wp2_with (go_at_call 95; ((with_reducible refine (HT3.out _).mono ?_); rintro e w' ⟨rfl, rfl⟩))
          go_round
          case rel => exact ⟨3, by omega, rfl, by rw [HACC.out]; go_num, Lib.hid (fun m h1 h2 => by
            rcases Nat.lt_or_eq_of_le h2 with h3 | rfl
            · exact hbe.out m h1 (by omega)
            · exact HTL.out)⟩
          case measure => simp [intOf]
        · have hT3 : ∀ w, Calls Tryz.prog 95 #[.string s, .int .i64 ((i : Int) + 3)] w fun e w' => e = .returned (.tuple #[.int .i64 0, .bool false]) ∧ w = w' := tl_no s (i + 3) hTl
          have HT3 := Lib.hid hT3
          clear hT3 hTl
          go_wp2_with (go_at_call 95; ((with_reducible refine (HT3.out _).mono ?_); rintro e w' ⟨rfl, rfl⟩))
          go_ret3
          exact ⟨rfl, rfl⟩
      · exact absurd (fun m h1 h2 => hbe.out m h1 (by omega)) HT.out

theorem dec_two {n b0 b1 b2 b3 : Nat} (h1 : 192 ≤ b0) (h2 : b0 < 224) (g : 1 < n) (g1 : b1 / 64 = 2) : Lib.decodeN n b0 b1 b2 b3 = if b0 % 32 * 64 + b1 % 64 ≥ 128 then (b0 % 32 * 64 + b1 % 64, 2) else (65533, 1) := by
  unfold Lib.decodeN
  rw [if_neg (by omega), if_pos ⟨by omega, g, g1⟩]
theorem dec_three {n b0 b1 b2 b3 : Nat} (h1 : 224 ≤ b0) (h2 : b0 < 240) (g : 2 < n) (g1 : b1 / 64 = 2) (g2 : b2 / 64 = 2) : Lib.decodeN n b0 b1 b2 b3 = if b0 % 16 * 4096 + b1 % 64 * 64 + b2 % 64 ≥ 2048 ∧ (b0 % 16 * 4096 + b1 % 64 * 64 + b2 % 64 < 55296 ∨ (57344 ≤ b0 % 16 * 4096 + b1 % 64 * 64 + b2 % 64 ∧ b0 % 16 * 4096 + b1 % 64 * 64 + b2 % 64 ≤ 1114111)) then (b0 % 16 * 4096 + b1 % 64 * 64 + b2 % 64, 3) else (65533, 1) := by
  unfold Lib.decodeN
  rw [if_neg (by omega), if_neg (by omega), if_pos ⟨by omega, ⟨by omega, g1⟩, g, g2⟩]
theorem dec_four {n b0 b1 b2 b3 : Nat} (h1 : 240 ≤ b0) (h2 : b0 < 248) (g : 3 < n) (g1 : b1 / 64 = 2) (g2 : b2 / 64 = 2) (g3 : b3 / 64 = 2) : Lib.decodeN n b0 b1 b2 b3 = if b0 % 8 * 262144 + b1 % 64 * 4096 + b2 % 64 * 64 + b3 % 64 ≥ 65536 ∧ (b0 % 8 * 262144 + b1 % 64 * 4096 + b2 % 64 * 64 + b3 % 64 < 55296 ∨ (57344 ≤ b0 % 8 * 262144 + b1 % 64 * 4096 + b2 % 64 * 64 + b3 % 64 ∧ b0 % 8 * 262144 + b1 % 64 * 4096 + b2 % 64 * 64 + b3 % 64 ≤ 1114111)) then (b0 % 8 * 262144 + b1 % 64 * 4096 + b2 % 64 * 64 + b3 % 64, 4) else (65533, 1) := by
  unfold Lib.decodeN
  rw [if_neg (by omega), if_neg (by omega), if_neg (by omega), if_pos ⟨by omega, ⟨by omega, g1⟩, ⟨by omega, g2⟩, g, g3⟩]
theorem dec_bad {n b0 b1 b2 b3 : Nat} (h0 : 128 ≤ b0) (h : ¬ ((192 ≤ b0 ∧ b0 < 224) ∧ 1 < n ∧ b1 / 64 = 2) ∧ ¬ ((224 ≤ b0 ∧ b0 < 240) ∧ (1 < n ∧ b1 / 64 = 2) ∧ 2 < n ∧ b2 / 64 = 2) ∧ ¬ ((240 ≤ b0 ∧ b0 < 248) ∧ (1 < n ∧ b1 / 64 = 2) ∧ (2 < n ∧ b2 / 64 = 2) ∧ 3 < n ∧ b3 / 64 = 2)) : Lib.decodeN n b0 b1 b2 b3 = (65533, 1) := by
  unfold Lib.decodeN
  rw [if_neg (by omega), if_neg (fun g => h.1 ⟨by omega, g.2⟩), if_neg (fun g => h.2.1 ⟨by omega, g.2⟩), if_neg (fun g => h.2.2 ⟨by omega, g.2⟩)]
end Go.Proofs.YtalahkincccffaaGreatDoor
namespace Go.Proofs.YtalahkincccffaaGreatDoor
open Go.ChangeShapes Go.WideShapes Go.ChangeAt Go.RowKit Go.Joins Txt
attribute [local go_sem] setCell_drewN cell?_ext frozen?_ext shape?_ext setCell_ext lt_1' ne_1' en_1' le_1' lt_2' ne_2' en_2' le_2' lt_3' ne_3' en_3' le_3' lt_4' ne_4' en_4' le_4' lt_5' ne_5' en_5' le_5' lt_6' ne_6' en_6' le_6' lt_7' ne_7' en_7' le_7' lt_8' ne_8' en_8' le_8' lt_9' ne_9' en_9' le_9' lt_10' ne_10' en_10' le_10' lt_11' ne_11' en_11' le_11' lt_12' ne_12' en_12' le_12'

theorem own : ownKnob Tryz.prog.godebug = none := by kernel_rfl
end Go.Proofs.YtalahkincccffaaGreatDoor
namespace Go.Proofs.YtalahkincccffaaGreatDoor
open Go.RowKit Txt
attribute [local go_sem] setCell_drewN cell?_ext frozen?_ext shape?_ext setCell_ext lt_1' ne_1' en_1' le_1' lt_2' ne_2' en_2' le_2' lt_3' ne_3' en_3' le_3' lt_4' ne_4' en_4' le_4' lt_5' ne_5' en_5' le_5' lt_6' ne_6' en_6' le_6' lt_7' ne_7' en_7' le_7' lt_8' ne_8' en_8' le_8' lt_9' ne_9' en_9' le_9' lt_10' ne_10' en_10' le_10' lt_11' ne_11' en_11' le_11' lt_12' ne_12' en_12' le_12'

theorem lead_of {x : Nat} (h : 192 ≤ x) (h' : x < 248) : ∃ n c0 l, Lead x n c0 l ∧ ((n = 2 ∧ x < 224 ∧ c0 = x % 32 ∧ l = 128) ∨ (n = 3 ∧ 224 ≤ x ∧ x < 240 ∧ c0 = x % 16 ∧ l = 2048) ∨ (n = 4 ∧ 240 ≤ x ∧ c0 = x % 8 ∧ l = 65536)) := by
  by_cases h1 : x < 224
  · exact ⟨2, _, _, .inl ⟨h, h1, rfl, rfl, rfl⟩, .inl ⟨rfl, h1, rfl, rfl⟩⟩
  · by_cases h2 : x < 240
    · exact ⟨3, _, _, .inr (.inl ⟨by omega, h2, rfl, rfl, rfl⟩), .inr (.inl ⟨rfl, by omega, h2, rfl, rfl⟩)⟩
    · exact ⟨4, _, _, .inr (.inr ⟨by omega, h', rfl, rfl, rfl⟩), .inr (.inr ⟨rfl, by omega, rfl, rfl⟩)⟩
theorem one_ex (s : ByteArray) (i : Nat) (hi : i < s.size) (hs : s.size ≤ 140737488351232) : ∃ (c n : Int) (ok : Bool), Rel s i c n ok ∧
    ∀ w, Calls Tryz.prog 84 #[.string s, .int .i64 i] w fun e w' => e = .returned (.tuple #[.int .i64 c, .int .i64 n, .bool ok]) ∧ w = w' := by
  have hD := Lib.decode_at s i
  have hlt : (s[i]'hi).toNat < 256 := UInt8.toNat_lt _
  have hg := get_of s i hi
  rw [hg] at hD
  obtain ⟨x, hx⟩ : ∃ x, x = (s[i]'hi).toNat := ⟨_, rfl⟩
  by_cases h128 : (s[i]'hi).toNat < 128
  · refine ⟨_, 1, true, rel_of s i _ 1 true _ hD (.inl ?_), fun w => one_ascii s i hi h128 w⟩
    unfold Lib.decodeN
    rw [if_pos h128]
    exact ⟨rfl, rfl, rfl, fun h => by omega⟩
  by_cases hlead : 192 ≤ (s[i]'hi).toNat ∧ (s[i]'hi).toNat < 248
  · obtain ⟨n, c0, l, hL, hn⟩ := lead_of hlead.1 hlead.2
    by_cases ht : ∀ j, 1 ≤ j → j < n → Tl s (i + j)
    · refine ⟨_, _, _, ?_, fun w => one_yes s i hi hs n c0 l hL ht w⟩
      rcases hn with ⟨rfl, h1, rfl, rfl⟩ | ⟨rfl, h0, h1, rfl, rfl⟩ | ⟨rfl, h0, rfl, rfl⟩
      · have t1 := ht 1 (by omega) (by omega)
        have e := dec_two (n := s.size - i) (b2 := (s.get! (i + 2)).toNat) (b3 := (s.get! (i + 3)).toNat) hlead.1 h1 (by have := t1.1; omega) t1.2
        rw [e] at hD
        have ha : acc s i ((s[i]'hi).toNat % 32) (2 - 1) = (s[i]'hi).toNat % 32 * 64 + (s.get! (i + 1)).toNat % 64 := rfl
        rw [ha]
        refine rel_of s i _ _ _ _ hD ?_
        by_cases g : (s[i]'hi).toNat % 32 * 64 + (s.get! (i + 1)).toNat % 64 ≥ 128
        · rw [if_pos g]
          exact .inl ⟨decide_eq_true (by omega), rfl, rfl, fun h => by simp at h⟩
        · rw [if_neg g]
          exact .inr ⟨rfl, .inl (decide_eq_false (by omega))⟩
      · have t1 := ht 1 (by omega) (by omega)
        have t2 := ht 2 (by omega) (by omega)
        have e := dec_three (n := s.size - i) (b3 := (s.get! (i + 3)).toNat) h0 h1 (by have := t2.1; omega) t1.2 t2.2
        rw [e] at hD
        have ha : acc s i ((s[i]'hi).toNat % 16) (3 - 1) = (s[i]'hi).toNat % 16 * 4096 + (s.get! (i + 1)).toNat % 64 * 64 + (s.get! (i + 2)).toNat % 64 := by
          show ((s[i]'hi).toNat % 16 * 64 + (s.get! (i + 1)).toNat % 64) * 64 + (s.get! (i + 2)).toNat % 64 = _
          omega
        rw [ha]
        refine rel_of s i _ _ _ _ hD ?_
        obtain ⟨v, hv⟩ : ∃ v, v = (s[i]'hi).toNat % 16 * 4096 + (s.get! (i + 1)).toNat % 64 * 64 + (s.get! (i + 2)).toNat % 64 := ⟨_, rfl⟩
        rw [← hv]
        have hv2 : v < 65536 := by omega
        by_cases g : v ≥ 2048 ∧ (v < 55296 ∨ (57344 ≤ v ∧ v ≤ 1114111))
        · rw [if_pos g]
          exact .inl ⟨decide_eq_true (by omega), rfl, rfl, fun h => by simp at h⟩
        · rw [if_neg g]
          by_cases g2 : v < 2048
          · exact .inr ⟨rfl, .inl (decide_eq_false (by omega))⟩
          · exact .inr ⟨rfl, .inr (.inr (by omega))⟩
      · have t1 := ht 1 (by omega) (by omega)
        have t2 := ht 2 (by omega) (by omega)
        have t3 := ht 3 (by omega) (by omega)
        have e := dec_four (n := s.size - i) h0 hlead.2 (by have := t3.1; omega) t1.2 t2.2 t3.2
        rw [e] at hD
        have ha : acc s i ((s[i]'hi).toNat % 8) (4 - 1) = (s[i]'hi).toNat % 8 * 262144 + (s.get! (i + 1)).toNat % 64 * 4096 + (s.get! (i + 2)).toNat % 64 * 64 + (s.get! (i + 3)).toNat % 64 := by
          show (((s[i]'hi).toNat % 8 * 64 + (s.get! (i + 1)).toNat % 64) * 64 + (s.get! (i + 2)).toNat % 64) * 64 + (s.get! (i + 3)).toNat % 64 = _
          omega
        rw [ha]
        refine rel_of s i _ _ _ _ hD ?_
        obtain ⟨v, hv⟩ : ∃ v, v = (s[i]'hi).toNat % 8 * 262144 + (s.get! (i + 1)).toNat % 64 * 4096 + (s.get! (i + 2)).toNat % 64 * 64 + (s.get! (i + 3)).toNat % 64 := ⟨_, rfl⟩
        rw [← hv]
        by_cases g : v ≥ 65536 ∧ (v < 55296 ∨ (57344 ≤ v ∧ v ≤ 1114111))
        · rw [if_pos g]
          exact .inl ⟨decide_eq_true (by omega), rfl, rfl, fun h => by simp at h⟩
        · rw [if_neg g]
          by_cases g2 : v < 65536
          · exact .inr ⟨rfl, .inl (decide_eq_false (by omega))⟩
          · exact .inr ⟨rfl, .inr (.inl (by omega))⟩
    · refine ⟨0, 0, false, rel_of s i 0 0 false _ hD (.inr ⟨?_, .inl rfl⟩), fun w => one_no s i hi hs n c0 l hL ht w⟩
      refine dec_bad (by omega) ⟨fun g => ht ?_, fun g => ht ?_, fun g => ht ?_⟩
      · rcases hn with ⟨rfl, _⟩ | ⟨rfl, h0, _⟩ | ⟨rfl, h0, _⟩
        · intro j h1 h2; obtain rfl : j = 1 := by omega
          exact ⟨by omega, g.2.2⟩
        · omega
        · omega
      · rcases hn with ⟨rfl, h0, _⟩ | ⟨rfl, h0, _⟩ | ⟨rfl, h0, _⟩
        · omega
        · intro j h1 h2
          have h3 : j = 1 ∨ j = 2 := by omega
          rcases h3 with rfl | rfl
          · exact ⟨by omega, g.2.1.2⟩
          · exact ⟨by omega, g.2.2.2⟩
        · omega
      · rcases hn with ⟨rfl, h0, _⟩ | ⟨rfl, h0, h1, _⟩ | ⟨rfl, h0, _⟩
        · omega
        · omega
        · intro j h1 h2
          have h3 : j = 1 ∨ j = 2 ∨ j = 3 := by omega
          rcases h3 with rfl | rfl | rfl
          · exact ⟨by omega, g.2.1.2⟩
          · exact ⟨by omega, g.2.2.1.2⟩
          · exact ⟨by omega, g.2.2.2.2⟩
  · refine ⟨0, 0, false, rel_of s i 0 0 false _ hD (.inr ⟨?_, .inl rfl⟩), fun w => one_bad s i hi (by omega) w⟩
    exact dec_bad (by omega) ⟨fun g => by omega, fun g => by omega, fun g => by omega⟩
end Go.Proofs.YtalahkincccffaaGreatDoor
namespace Go.Proofs.YtalahkincccffaaGreatDoor
open Go.RowKit Txt
attribute [local go_sem] setCell_drewN cell?_ext frozen?_ext shape?_ext setCell_ext lt_1' ne_1' en_1' le_1' lt_2' ne_2' en_2' le_2' lt_3' ne_3' en_3' le_3' lt_4' ne_4' en_4' le_4' lt_5' ne_5' en_5' le_5' lt_6' ne_6' en_6' le_6' lt_7' ne_7' en_7' le_7' lt_8' ne_8' en_8' le_8' lt_9' ne_9' en_9' le_9' lt_10' ne_10' en_10' le_10' lt_11' ne_11' en_11' le_11' lt_12' ne_12' en_12' le_12'

def placesFrom (s : ByteArray) : Nat → Nat → List Nat
  | 0, _ => []
  | f + 1, pos => if pos < s.size then pos :: placesFrom s f (pos + (Utf8.decode s pos).2) else []
theorem placesFrom_end (s : ByteArray) (f pos : Nat) (h : ¬ pos < s.size) : placesFrom s f pos = [] := by
  cases f with
  | zero => rfl
  | succ f => simp [placesFrom, h]
theorem placesFrom_len (s : ByteArray) : ∀ f pos, (placesFrom s f pos).length = Lib.runeCountFrom s f pos
  | 0, _ => rfl
  | f + 1, pos => by
    simp only [placesFrom, Lib.runeCountFrom]
    split
    · rw [List.length_cons, placesFrom_len s f]; omega
    · rfl
def placesT (s : ByteArray) : List Nat := placesFrom s s.size 0 ++ [s.size]
def pCellsN (l : List Nat) : List Value := l.map fun (n : Nat) => Value.int .i64 (n : Int)
theorem pCellsN_snoc (l : List Nat) (n : Nat) : pCellsN l ++ [.int .i64 (n : Int)] = pCellsN (l ++ [n]) := by simp [pCellsN]
theorem pInfoInt : (Tryz.prog.info? 3).map (fun i => (i.zero, i.size, i.bytes)) = some (some (.int .i64 0), 1, 8) := by kernel_rfl
abbrev PBuf (B : Nat) (v : Value) (l : List Nat) (W0 w : World) : Prop := Lib.OwnBuf B 3 v l.length (pCellsN l) W0 w
theorem PBuf.nil (W0 : World) {w : World} (hb : Below W0.heap.size W0 w) : PBuf W0.heap.size (.slice none 0 0) [] W0 w :=
  ⟨World.ownsRowF_of (World.ownsRow_nil _ _ _ _), hb, hb.size⟩
theorem PBuf.congr {B : Nat} {v : Value} {m : List Nat} {W0 w : World} {n : Nat} {xs : List Value} (h : Lib.OwnBuf B 3 v n xs W0 w) (hn : n = m.length) (hx : xs = pCellsN m) : PBuf B v m W0 w := by
  subst hn hx; exact h
theorem pAppend_int {ops : Array Oper} {rest : List Oper} {o : Oper} {a : Act} {Q : Exit → Act → World → Prop} (hgd : o.guard = none) (s x : Operand) (t : TypeId)
    (ho : o.op = .call { callee := .builtin .append, args := #[s, x], argTypes := #[t, t] })
    (B : Nat) (e : TypeId) (i : TypeInfo) (ht : Tryz.prog.underlying t = some (.slice e)) (hi : Tryz.prog.info? e = some i) (hz : i.zero = some (.int .i64 0)) (hsize : i.size = 1) (hby : i.bytes = 8)
    (v : Value) (n : Nat) (xs : List Value) (hs : a.eval s = v) (W0 w0 : World) (c : Int) (hb : Lib.OwnBuf B e v n xs W0 w0)
    (hx : a.eval x = .slice (some ⟨w0.heap.size, 0, none⟩) 1 1) (hlen : (n + 1) * 8 ≤ 140737488355328)
    (h : ∀ v' w', Lib.OwnBuf B e v' (n + 1) (xs ++ [.int .i64 c]) W0 w' → wpList Tryz.prog ops Q rest (a.put o.dst v') w') : wpList Tryz.prog ops Q (o :: rest) a (w0.alloc (.cells #[.int .i64 c] e)) := by
  have hb' := hb.alloc (.cells #[.int .i64 c] e)
  refine wpList_append_ownF _ hgd s x t ho B e i (.int .i64 0) 1 8 ht hi hz hsize hby rfl (by decide) v n xs hs hb'.1 ⟨w0.heap.size, 0, none⟩ 1 1 [.int .i64 c] hx rfl ?_ ?_ (by unfold maxLen; omega) hlen hb'.2.2 ?_
  · intro j u hj
    match j, hj with
    | 0, hj => simp at hj; subst hj; simp [Addr.add]
    | (j + 1), hj => simp at hj
  · intro u hu; simp at hu; subst hu; rfl
  · intro v' w' ho' hg _
    exact h v' w' (hb'.grown ho' hg)
set_option maxHeartbeats 4000000 in
theorem chars_text (s : ByteArray) (hs : s.size ≤ 1048576) (ht : isText s = true) (w : World) :
    Calls Tryz.prog 65 #[.string s] w fun e w' => ∃ v, e = .returned (.tuple #[v, .bool true]) ∧ PBuf w.heap.size v (placesT s) w w' := by
  obtain ⟨i0, hi, hz0, hz1, hz2⟩ := info_parts pInfoInt
  obtain ⟨B, hB⟩ : ∃ B, B = w.heap.size := ⟨_, rfl⟩
  obtain ⟨ALL, hALL⟩ : ∃ ALL, ALL = placesFrom s s.size 0 := ⟨_, rfl⟩
  have hal : ALL.length ≤ s.size := by rw [hALL, placesFrom_len]; exact Lib.runeCount_le s
  have HB := Lib.hid hB; have HA := Lib.hid hALL; have HT := Lib.hid ht
  clear hB hALL ht
  go_enter Tryz.func65, Tryz.ntmps65
  go_wp2
  go_loopw [4, 5] (fun v i wr => ∃ (pos b : Nat) (gs : List Nat), i = .int .i64 pos ∧ pos ≤ s.size ∧ s.size ≤ pos + b ∧ Hid (textFrom s b pos = true) ∧ Hid (gs ++ placesFrom s b pos = ALL) ∧ gs.length ≤ s.size ∧ Hid (PBuf B v gs w wr)) (fun _ i _ => s.size - (intOf i).toNat)
  case atStart => exact ⟨0, s.size, [], rfl, by omega, by omega, HT, Lib.hid (by rw [HA.out]; rfl), by simp, Lib.hid (by rw [HB.out]; exact PBuf.nil w (Below.refl _ _))⟩
  case round =>
    obtain ⟨pos, b, gs, rfl, hp, hb, htx, hgs, hgl, hbuf⟩ := hrel
    by_cases hlt : pos < s.size
    · obtain ⟨c, n, ok, hrel2, hone⟩ := one_ex s pos hlt (by omega)
      have hw := width_pos s pos
      have hwi := width_in s pos hlt
      obtain ⟨b', hb'⟩ : ∃ b', b = b' + 1 := ⟨b - 1, by omega⟩
      have hbb : s.size ≤ pos + (b' + 1) := by omega
      have htx2 := htx.out
      rw [hb', textFrom_step s b' pos hlt, Bool.and_eq_true] at htx2
      obtain ⟨hg, htx3⟩ := htx2
      have hgs2 := hgs.out
      rw [hb'] at hgs2
      simp only [placesFrom, if_pos hlt] at hgs2
      unfold Rel at hrel2
      rcases hrel2 with ⟨rfl, hok, -, hcn, hnn⟩ | ⟨hno, -⟩
      · obtain ⟨d, hd⟩ : ∃ d, d = (Utf8.decode s pos).2 := ⟨_, rfl⟩
        rw [← hd] at hw hwi htx3 hgs2 hnn
        have hC := char_any c
        rw [hok] at hC
        subst hnn
        have HONE := Lib.hid hone; have HCH := Lib.hid hC; have HTX := Lib.hid htx3; have HGS := Lib.hid hgs2
        have hgl2 : gs.length + 1 ≤ ALL.length := by rw [← hgs2]; simp
        clear hone hC hok hcn hd hg htx3 hgs2 htx hgs hb'
        have hbuf2 := hbuf.out
        go_wp2_with (first
          | (go_at_call 84; ((with_reducible refine (HONE.out _).mono ?_); rintro e w' ⟨rfl, rfl⟩))
          | (go_at_call 85; ((with_reducible refine (HCH.out _).mono ?_); rintro e w' ⟨rfl, rfl⟩))
          | (at_builtin; refine pAppend_int rfl _ _ 53 rfl B 3 i0 Tryz.underlying53 hi hz0 hz1 hz2 _ _ _ rfl w _ _ (by assumption) rfl (by omega) ?_; intro _ _ hb3))
        go_roundw
        case rel => exact ⟨pos + d, b', gs ++ [pos], by go_num, by omega, by omega, HTX, Lib.hid (by rw [← HGS.out, List.append_assoc]; rfl), by simp; omega, Lib.hid (PBuf.congr hb3 (by simp) (by rw [pCellsN_snoc]))⟩
        case measure => simp [intOf]; omega
      · rw [hno] at hg; cases hg
    · obtain rfl : pos = s.size := by omega
      have hgs3 : Hid (gs ++ [s.size] = placesT s) := Lib.hid (by
        have := hgs.out
        rw [placesFrom_end s b _ hlt, List.append_nil] at this
        rw [this, HA.out]; rfl)
      have hbuf2 := hbuf.out
      clear hbuf hgs htx
      go_wp2_with (at_builtin; refine pAppend_int rfl _ _ 53 rfl B 3 i0 Tryz.underlying53 hi hz0 hz1 hz2 _ _ _ rfl w _ _ (by assumption) rfl (by omega) ?_; intro _ _ hb3)
      go_ret2
      exact ⟨_, rfl, by rw [← HB.out]; exact PBuf.congr hb3 (by rw [← hgs3.out]; simp) (by rw [← hgs3.out, pCellsN_snoc])⟩
set_option maxHeartbeats 4000000 in
theorem chars_bad (s : ByteArray) (hs : s.size ≤ 1048576) (ht : isText s = false) (w : World) :
    Calls Tryz.prog 65 #[.string s] w fun e w' => e = .returned (.tuple #[.slice none 0 0, .bool false]) ∧ Below w.heap.size w w' := by
  obtain ⟨i0, hi, hz0, hz1, hz2⟩ := info_parts pInfoInt
  obtain ⟨B, hB⟩ : ∃ B, B = w.heap.size := ⟨_, rfl⟩
  have HB := Lib.hid hB; have HT := Lib.hid ht
  clear hB ht
  go_enter Tryz.func65, Tryz.ntmps65
  go_wp2
  go_loopw [4, 5] (fun v i wr => ∃ (pos b : Nat) (gs : List Nat), i = .int .i64 pos ∧ pos ≤ s.size ∧ s.size ≤ pos + b ∧ Hid (textFrom s b pos = false) ∧ gs.length ≤ pos ∧ Hid (PBuf B v gs w wr)) (fun _ i _ => s.size - (intOf i).toNat)
  case atStart => exact ⟨0, s.size, [], rfl, by omega, by omega, HT, by simp, Lib.hid (by rw [HB.out]; exact PBuf.nil w (Below.refl _ _))⟩
  case round =>
    obtain ⟨pos, b, gs, rfl, hp, hb, htx, hgl, hbuf⟩ := hrel
    by_cases hlt : pos < s.size
    · obtain ⟨c, n, ok, hrel2, hone⟩ := one_ex s pos hlt (by omega)
      have hw := width_pos s pos
      have hwi := width_in s pos hlt
      obtain ⟨b', hb'⟩ : ∃ b', b = b' + 1 := ⟨b - 1, by omega⟩
      have hbb : s.size ≤ pos + (b' + 1) := by omega
      have htx2 := htx.out
      rw [hb', textFrom_step s b' pos hlt] at htx2
      unfold Rel at hrel2
      have hbuf2 := hbuf.out
      rcases hrel2 with ⟨rfl, hok, hg, hcn, hnn⟩ | ⟨hno, hor⟩
      · obtain ⟨d, hd⟩ : ∃ d, d = (Utf8.decode s pos).2 := ⟨_, rfl⟩
        rw [hg, Bool.true_and] at htx2
        rw [← hd] at hw hwi htx2 hnn
        have hC := char_any c
        rw [hok] at hC
        subst hnn
        have HONE := Lib.hid hone; have HCH := Lib.hid hC; have HTX := Lib.hid htx2
        clear hone hC hok hcn hd hg htx2 htx hb'
        go_wp2_with (first
          | (go_at_call 84; ((with_reducible refine (HONE.out _).mono ?_); rintro e w' ⟨rfl, rfl⟩))
          | (go_at_call 85; ((with_reducible refine (HCH.out _).mono ?_); rintro e w' ⟨rfl, rfl⟩))
          | (at_builtin; refine pAppend_int rfl _ _ 53 rfl B 3 i0 Tryz.underlying53 hi hz0 hz1 hz2 _ _ _ rfl w _ _ (by assumption) rfl (by omega) ?_; intro _ _ hb3))
        go_roundw
        case rel => exact ⟨pos + d, b', gs ++ [pos], by go_num, by omega, by omega, HTX, by simp; omega, Lib.hid (PBuf.congr hb3 (by simp) (by rw [pCellsN_snoc]))⟩
        case measure => simp [intOf]; omega
      · have hC := char_any c
        have HONE := Lib.hid hone
        have HBEL : Hid (Below w.heap.size w wr) := Lib.hid (by have := hbuf2.2.1; rw [HB.out] at this; exact this)
        clear hone hno htx2 hb' hbuf2
        cases ok with
        | false =>
          clear hor hC
          go_wp2_with (go_at_call 84; ((with_reducible refine (HONE.out _).mono ?_); rintro e w' ⟨rfl, rfl⟩))
          go_ret2
          exact ⟨rfl, HBEL.out⟩
        | true =>
          have hok : okI c = false := by rcases hor with h | h
                                         · cases h
                                         · exact h
          rw [hok] at hC
          have HCH := Lib.hid hC
          clear hok hC hor
          go_wp2_with (first
            | (go_at_call 84; ((with_reducible refine (HONE.out _).mono ?_); rintro e w' ⟨rfl, rfl⟩))
            | (go_at_call 85; ((with_reducible refine (HCH.out _).mono ?_); rintro e w' ⟨rfl, rfl⟩)))
          go_ret2
          exact ⟨rfl, HBEL.out⟩
    · have := htx.out
      rw [textFrom_end s b pos hlt] at this
      cases this
theorem rvalid_any (s : ByteArray) (hs : s.size ≤ 1048576) (w : World) :
    Calls Tryz.prog 39 #[.string s] w fun e w' => e = .returned (.bool (isText s)) ∧ Below w.heap.size w w' := by
  cases ht : isText s with
  | true =>
    have HC := Lib.hid (chars_text s hs ht)
    clear ht
    go_enter Tryz.func39, Tryz.ntmps39
    go_wp2_with (go_at_call 65; ((with_reducible refine (HC.out _).mono ?_); rintro e w1 ⟨v, rfl, hb1⟩; replace hb1 := hb1.2.1; obtain ⟨osA, dA, rfl⟩ := ext_of_below hb1; clear hb1))
    go_ret
    exact ⟨rfl, by (repeat' (first | (with_reducible first | exact Below.refl _ _ | assumption | refine Below.alloc ?_ ?_ _ | refine below_drewN ?_ _ | refine below_drew ?_ | refine below_ext ?_ ?_ _ _ | refine Below.setCell ?_ ?_ _) | (simp; done) | (simp; omega) | omega))⟩
  | false =>
    have HC := Lib.hid (chars_bad s hs ht)
    clear ht
    go_enter Tryz.func39, Tryz.ntmps39
    go_wp2_with (go_at_call 65; ((with_reducible refine (HC.out _).mono ?_); rintro e w1 ⟨rfl, hb1⟩; obtain ⟨osA, dA, rfl⟩ := ext_of_below hb1; clear hb1))
    go_ret
    exact ⟨rfl, by (repeat' (first | (with_reducible first | exact Below.refl _ _ | assumption | refine Below.alloc ?_ ?_ _ | refine below_drewN ?_ _ | refine below_drew ?_ | refine below_ext ?_ ?_ _ _ | refine Below.setCell ?_ ?_ _) | (simp; done) | (simp; omega) | omega))⟩
theorem PBuf.form {B : Nat} {v : Value} {l : List Nat} {W0 w : World} (h : PBuf B v l W0 w) (hl : 0 < l.length) : ∃ g cap, v = .slice (some ⟨g, 0, none⟩) l.length cap ∧ ∀ (i n : Nat), l[i]? = some n → w.cell? ⟨g, i, none⟩ = some (.int .i64 (n : Int)) := by
  rcases h.1.2 with ⟨_, h0⟩ | ⟨g, cap, cur, fz, rfl, _⟩
  · omega
  · refine ⟨g, cap, rfl, fun i n hi => ?_⟩
    have := h.1.cells (g := g) (by simp [Value.ownBlock]) i (.int .i64 (n : Int)) (by simp [pCellsN, hi])
    by_cases hi0 : i = 0
    · subst hi0; simpa [Addr.add] using this
    · simpa [Addr.add, hi0] using this
end Go.Proofs.YtalahkincccffaaGreatDoor
