/-
  The document's decoder of one character, and its agreement with the language's own.
  From the rows' conditions to the walks' words: the library's tables of the encoding; the statements' own first question; the row's last step.
  The document's decoder agrees with the language's; the contract of Chars, and of the document's Valid.
  The contract of the document's Chars: the placesT at which characters begin, and the end.
-/
import Derived.Test.YtpgfgaloagdogaaDoorValid
import Derived.Test.YtpgfgaloagdogaaDoorNames
import Derived.ProofKit
import Derived.LaidMore
import Derived.LaidLaws
import Derived.MakeChecks
import Derived.OpenShut
import Derived.ShutString
import Derived.Stop.Joined
import Derived.Stop.LaidErr
import Derived.Lib.LaidTab
import Derived.Lib.SmallJoins
import Derived.Lib.LaidU8T
import Derived.PinnedBridge
import Derived.Lay
import Derived.LaidOnce
import Derived.SizedLaws
import Derived.Test.YtpgfgaloagdogaaDoorBa
namespace Go.Proofs.YtpgfgaloagdogaaDoor
open Go.RowKit Txt
attribute [local go_sem] setCell_drewN cell?_ext frozen?_ext shape?_ext setCell_ext lt_1' ne_1' en_1' le_1' lt_2' ne_2' en_2' le_2' lt_3' ne_3' en_3' le_3' lt_4' ne_4' en_4' le_4' lt_5' ne_5' en_5' le_5' lt_6' ne_6' en_6' le_6' lt_7' ne_7' en_7' le_7' lt_8' ne_8' en_8' le_8' lt_9' ne_9' en_9' le_9' lt_10' ne_10' en_10' le_10' lt_11' ne_11' en_11' le_11' lt_12' ne_12' en_12' le_12'

/-- a byte that follows stands at a place -/
def Tl (s : ByteArray) (i : Nat) : Prop := i < s.size ∧ (s.get! i).toNat / 64 = 2
/-- the number that a lead byte's bits and the bytes that follow make -/
def acc (s : ByteArray) (i c0 : Nat) : Nat → Nat
  | 0 => c0
  | j + 1 => acc s i c0 j * 64 + (s.get! (i + (j + 1))).toNat % 64
theorem acc_bd (s : ByteArray) (i c0 : Nat) (h : c0 ≤ 31) : ∀ j, j ≤ 3 → acc s i c0 j ≤ 8388607 := by
  intro j hj
  have h3 : j = 0 ∨ j = 1 ∨ j = 2 ∨ j = 3 := by omega
  rcases h3 with rfl | rfl | rfl | rfl <;> simp only [acc] <;> omega
theorem tl_yes (s : ByteArray) (i : Nat) (h : Tl s i) (w : World) :
    Calls Tryd.prog 75 #[.string s, .int .i64 i] w fun e w' => e = .returned (.tuple #[.int .i64 (((s.get! i).toNat % 64 : Nat) : Int), .bool true]) ∧ w = w' := by
  obtain ⟨h1, h2⟩ := h
  rw [get_of s i h1] at h2 ⊢
  exact tail_yes s i h1 h2 w
theorem tl_no (s : ByteArray) (i : Nat) (h : ¬ Tl s i) (w : World) :
    Calls Tryd.prog 75 #[.string s, .int .i64 i] w fun e w' => e = .returned (.tuple #[.int .i64 0, .bool false]) ∧ w = w' :=
  tail_no s i (fun hi hb => h ⟨hi, by rw [get_of s i hi]; exact hb⟩) w
set_option maxRecDepth 100000 in
theorem one_ascii (s : ByteArray) (i : Nat) (hi : i < s.size) (hb : (s[i]'hi).toNat < 128) (w : World) :
    Calls Tryd.prog 69 #[.string s, .int .i64 i] w fun e w' => e = .returned (.tuple #[.int .i64 ((s[i]'hi).toNat : Int), .int .i64 1, .bool true]) ∧ w = w' := by
  go_enter Tryd.func69, Tryd.ntmps69
  go_wp2
  go_ret3
  exact ⟨rfl, rfl⟩
set_option maxRecDepth 100000 in
theorem one_bad (s : ByteArray) (i : Nat) (hi : i < s.size) (hb : (128 ≤ (s[i]'hi).toNat ∧ (s[i]'hi).toNat < 192) ∨ 248 ≤ (s[i]'hi).toNat) (w : World) :
    Calls Tryd.prog 69 #[.string s, .int .i64 i] w fun e w' => e = .returned (.tuple #[.int .i64 0, .int .i64 0, .bool false]) ∧ w = w' := by
  have hlt : (s[i]'hi).toNat < 256 := UInt8.toNat_lt _
  rcases hb with ⟨h1, h2⟩ | h1
  · have g1 : ((s[i]'hi).toNat : Int) < 192 := by omega
    go_enter Tryd.func69, Tryd.ntmps69
    go_wp2
    go_ret3
    exact ⟨rfl, rfl⟩
  · have g1 : 240 ≤ (s[i]'hi).toNat := by omega
    have g2 : ¬ (s[i]'hi).toNat < 224 := by omega
    have g3 : ¬ (s[i]'hi).toNat < 240 := by omega
    have g4 : ¬ (s[i]'hi).toNat < 248 := by omega
    go_enter Tryd.func69, Tryd.ntmps69
    go_wp2
    go_ret3
    exact ⟨rfl, rfl⟩
/-- which kind of lead byte: how many bytes, its bits, the least number -/
def Lead (x n c0 l : Nat) : Prop := (192 ≤ x ∧ x < 224 ∧ n = 2 ∧ c0 = x % 32 ∧ l = 128) ∨ (224 ≤ x ∧ x < 240 ∧ n = 3 ∧ c0 = x % 16 ∧ l = 2048) ∨ (240 ≤ x ∧ x < 248 ∧ n = 4 ∧ c0 = x % 8 ∧ l = 65536)
theorem three_ints {k : IntKind} {a b c d : Int} {x y : Bool} (h : a = c) (h' : b = d) (h3 : x = y) : Ending.returned (.tuple #[.int k a, .int k b, .bool x]) = .returned (.tuple #[.int k c, .int k d, .bool y]) := by rw [h, h', h3]
set_option maxRecDepth 100000 in
set_option maxHeartbeats 8000000 in
theorem one_yes (s : ByteArray) (i : Nat) (hi : i < s.size) (hs : s.size ≤ 140737488351232) (n c0 l : Nat) (hL : Lead (s[i]'hi).toNat n c0 l) (ht : ∀ j, 1 ≤ j → j < n → Tl s (i + j)) (w : World) :
    Calls Tryd.prog 69 #[.string s, .int .i64 i] w fun e w' => e = .returned (.tuple #[.int .i64 (acc s i c0 (n - 1) : Int), .int .i64 (n : Int), .bool (decide ((l : Int) ≤ (acc s i c0 (n - 1) : Int)))]) ∧ w = w' := by
  have hlt : (s[i]'hi).toNat < 256 := UInt8.toNat_lt _
  have e31 := bits_31 ⟨(s[i]'hi).toNat, hlt⟩
  have e15 := bits_15 ⟨(s[i]'hi).toNat, hlt⟩
  have e7 := bits_7 ⟨(s[i]'hi).toNat, hlt⟩
  simp only at e31 e15 e7
  have HT := Lib.hid ht
  clear ht
  rcases hL with ⟨h1, h2, rfl, hc0, rfl⟩ | ⟨h1, h2, rfl, hc0, rfl⟩ | ⟨h1, h2, rfl, hc0, rfl⟩
  case inl =>
    rw [← hc0] at e31
    have hc : c0 ≤ 31 := by omega
    have HA := Lib.hid (acc_bd s i c0 hc)
    have i0 : (128 : Int) ≤ ((s[i]'hi).toNat : Int) := by omega
    have i1 : (192 : Int) ≤ ((s[i]'hi).toNat : Int) := by omega
    have i2 : ((s[i]'hi).toNat : Int) < 224 := by omega
    clear e15 e7 hc0 h1 h2
    go_enter Tryd.func69, Tryd.ntmps69
    go_wp2
    go_loop [7, 10] (fun c k => ∃ j : Nat, j ≤ 1 ∧ k = .int .i64 ((j : Int) + 1) ∧ c = .int .i64 (acc s i c0 j : Int)) (fun _ k => 5 - (intOf k).toNat)
    case atStart => exact ⟨0, by omega, rfl, rfl⟩
    case round =>
      obtain ⟨j, hj, rfl, rfl⟩ := hrel
      have hab := HA.out j (by omega)
      have hjs : j = 0 ∨ j = 1 := by omega
      clear hj
      rcases hjs with rfl | rfl
      · have hTl := HT.out 1 (by omega) (by omega)
        have hT2 := tl_yes s (i + 1) hTl
        have hin := hTl.1
        obtain ⟨t, htt⟩ : ∃ t, t = (s.get! (i + 1)).toNat % 64 := ⟨_, rfl⟩
        rw [← htt] at hT2
        have ht64 : t < 64 := by omega
        have hacc : acc s i c0 1 = acc s i c0 0 * 64 + t := by rw [htt]; rfl
        have hT3 : ∀ w, Calls Tryd.prog 75 #[.string s, .int .i64 ((i : Int) + 1)] w fun e w' => e = .returned (.tuple #[.int .i64 (t : Int), .bool true]) ∧ w = w' := hT2
        have HT3 := Lib.hid hT3; have HACC := Lib.hid hacc
        obtain ⟨x, hx⟩ : ∃ x, x = acc s i c0 0 := ⟨_, rfl⟩
        rw [← hx] at hab HACC ⊢
        clear hT2 hT3 hacc htt hTl hx
        go_wp2_with (go_at_call 75; ((with_reducible refine (HT3.out _).mono ?_); rintro e w' ⟨rfl, rfl⟩))
        go_round
        case rel => exact ⟨1, by omega, rfl, by rw [HACC.out]; go_num⟩
        case measure => simp [intOf]
      · go_wp2
        go_ret3
        exact ⟨rfl, rfl⟩
  case inr.inl =>
    rw [← hc0] at e15
    have hc : c0 ≤ 31 := by omega
    have HA := Lib.hid (acc_bd s i c0 hc)
    have i0 : (128 : Int) ≤ ((s[i]'hi).toNat : Int) := by omega
    have i1 : (192 : Int) ≤ ((s[i]'hi).toNat : Int) := by omega
    have i2 : (224 : Int) ≤ ((s[i]'hi).toNat : Int) := by omega
    have i3 : ((s[i]'hi).toNat : Int) < 240 := by omega
    clear e31 e7 hc0 h1 h2
    go_enter Tryd.func69, Tryd.ntmps69
    go_wp2
    go_loop [7, 10] (fun c k => ∃ j : Nat, j ≤ 2 ∧ k = .int .i64 ((j : Int) + 1) ∧ c = .int .i64 (acc s i c0 j : Int)) (fun _ k => 5 - (intOf k).toNat)
    case atStart => exact ⟨0, by omega, rfl, rfl⟩
    case round =>
      obtain ⟨j, hj, rfl, rfl⟩ := hrel
      have hab := HA.out j (by omega)
      have hjs : j = 0 ∨ j = 1 ∨ j = 2 := by omega
      clear hj
      rcases hjs with rfl | rfl | rfl
      · have hTl := HT.out 1 (by omega) (by omega)
        have hT2 := tl_yes s (i + 1) hTl
        have hin := hTl.1
        obtain ⟨t, htt⟩ : ∃ t, t = (s.get! (i + 1)).toNat % 64 := ⟨_, rfl⟩
        rw [← htt] at hT2
        have ht64 : t < 64 := by omega
        have hacc : acc s i c0 1 = acc s i c0 0 * 64 + t := by rw [htt]; rfl
        have hT3 : ∀ w, Calls Tryd.prog 75 #[.string s, .int .i64 ((i : Int) + 1)] w fun e w' => e = .returned (.tuple #[.int .i64 (t : Int), .bool true]) ∧ w = w' := hT2
        have HT3 := Lib.hid hT3; have HACC := Lib.hid hacc
        obtain ⟨x, hx⟩ : ∃ x, x = acc s i c0 0 := ⟨_, rfl⟩
        rw [← hx] at hab HACC ⊢
        clear hT2 hT3 hacc htt hTl hx
        go_wp2_with (go_at_call 75; ((with_reducible refine (HT3.out _).mono ?_); rintro e w' ⟨rfl, rfl⟩))
        go_round
        case rel => exact ⟨1, by omega, rfl, by rw [HACC.out]; go_num⟩
        case measure => simp [intOf]
      · have hTl := HT.out 2 (by omega) (by omega)
        have hT2 := tl_yes s (i + 2) hTl
        have hin := hTl.1
        obtain ⟨t, htt⟩ : ∃ t, t = (s.get! (i + 2)).toNat % 64 := ⟨_, rfl⟩
        rw [← htt] at hT2
        have ht64 : t < 64 := by omega
        have hacc : acc s i c0 2 = acc s i c0 1 * 64 + t := by rw [htt]; rfl
        have hT3 : ∀ w, Calls Tryd.prog 75 #[.string s, .int .i64 ((i : Int) + 2)] w fun e w' => e = .returned (.tuple #[.int .i64 (t : Int), .bool true]) ∧ w = w' := hT2
        have HT3 := Lib.hid hT3; have HACC := Lib.hid hacc
        obtain ⟨x, hx⟩ : ∃ x, x = acc s i c0 1 := ⟨_, rfl⟩
        rw [← hx] at hab HACC ⊢
        clear hT2 hT3 hacc htt hTl hx
        go_wp2_with (go_at_call 75; ((with_reducible refine (HT3.out _).mono ?_); rintro e w' ⟨rfl, rfl⟩))
        go_round
        case rel => exact ⟨2, by omega, rfl, by rw [HACC.out]; go_num⟩
        case measure => simp [intOf]
      · go_wp2
        go_ret3
        exact ⟨rfl, rfl⟩
  case inr.inr =>
    rw [← hc0] at e7
    have hc : c0 ≤ 31 := by omega
    have HA := Lib.hid (acc_bd s i c0 hc)
    have i0 : (128 : Int) ≤ ((s[i]'hi).toNat : Int) := by omega
    have i1 : (192 : Int) ≤ ((s[i]'hi).toNat : Int) := by omega
    have i2 : (224 : Int) ≤ ((s[i]'hi).toNat : Int) := by omega
    have i3 : (240 : Int) ≤ ((s[i]'hi).toNat : Int) := by omega
    have i4 : ((s[i]'hi).toNat : Int) < 248 := by omega
    clear e31 e15 hc0 h1 h2
    go_enter Tryd.func69, Tryd.ntmps69
    go_wp2
    go_loop [7, 10] (fun c k => ∃ j : Nat, j ≤ 3 ∧ k = .int .i64 ((j : Int) + 1) ∧ c = .int .i64 (acc s i c0 j : Int)) (fun _ k => 5 - (intOf k).toNat)
    case atStart => exact ⟨0, by omega, rfl, rfl⟩
    case round =>
      obtain ⟨j, hj, rfl, rfl⟩ := hrel
      have hab := HA.out j (by omega)
      have hjs : j = 0 ∨ j = 1 ∨ j = 2 ∨ j = 3 := by omega
      clear hj
      rcases hjs with rfl | rfl | rfl | rfl
      · have hTl := HT.out 1 (by omega) (by omega)
        have hT2 := tl_yes s (i + 1) hTl
        have hin := hTl.1
        obtain ⟨t, htt⟩ : ∃ t, t = (s.get! (i + 1)).toNat % 64 := ⟨_, rfl⟩
        rw [← htt] at hT2
        have ht64 : t < 64 := by omega
        have hacc : acc s i c0 1 = acc s i c0 0 * 64 + t := by rw [htt]; rfl
        have hT3 : ∀ w, Calls Tryd.prog 75 #[.string s, .int .i64 ((i : Int) + 1)] w fun e w' => e = .returned (.tuple #[.int .i64 (t : Int), .bool true]) ∧ w = w' := hT2
        have HT3 := Lib.hid hT3; have HACC := Lib.hid hacc
        obtain ⟨x, hx⟩ : ∃ x, x = acc s i c0 0 := ⟨_, rfl⟩
        rw [← hx] at hab HACC ⊢
        clear hT2 hT3 hacc htt hTl hx
        go_wp2_with (go_at_call 75; ((with_reducible refine (HT3.out _).mono ?_); rintro e w' ⟨rfl, rfl⟩))
        go_round
        case rel => exact ⟨1, by omega, rfl, by rw [HACC.out]; go_num⟩
        case measure => simp [intOf]
      · have hTl := HT.out 2 (by omega) (by omega)
        have hT2 := tl_yes s (i + 2) hTl
        have hin := hTl.1
        obtain ⟨t, htt⟩ : ∃ t, t = (s.get! (i + 2)).toNat % 64 := ⟨_, rfl⟩
        rw [← htt] at hT2
        have ht64 : t < 64 := by omega
        have hacc : acc s i c0 2 = acc s i c0 1 * 64 + t := by rw [htt]; rfl
        have hT3 : ∀ w, Calls Tryd.prog 75 #[.string s, .int .i64 ((i : Int) + 2)] w fun e w' => e = .returned (.tuple #[.int .i64 (t : Int), .bool true]) ∧ w = w' := hT2
        have HT3 := Lib.hid hT3; have HACC := Lib.hid hacc
        obtain ⟨x, hx⟩ : ∃ x, x = acc s i c0 1 := ⟨_, rfl⟩
        rw [← hx] at hab HACC ⊢
        clear hT2 hT3 hacc htt hTl hx
        go_wp2_with (go_at_call 75; ((with_reducible refine (HT3.out _).mono ?_); rintro e w' ⟨rfl, rfl⟩))
        go_round
        case rel => exact ⟨2, by omega, rfl, by rw [HACC.out]; go_num⟩
        case measure => simp [intOf]
      · have hTl := HT.out 3 (by omega) (by omega)
        have hT2 := tl_yes s (i + 3) hTl
        have hin := hTl.1
        obtain ⟨t, htt⟩ : ∃ t, t = (s.get! (i + 3)).toNat % 64 := ⟨_, rfl⟩
        rw [← htt] at hT2
        have ht64 : t < 64 := by omega
        have hacc : acc s i c0 3 = acc s i c0 2 * 64 + t := by rw [htt]; rfl
        have hT3 : ∀ w, Calls Tryd.prog 75 #[.string s, .int .i64 ((i : Int) + 3)] w fun e w' => e = .returned (.tuple #[.int .i64 (t : Int), .bool true]) ∧ w = w' := hT2
        have HT3 := Lib.hid hT3; have HACC := Lib.hid hacc
        obtain ⟨x, hx⟩ : ∃ x, x = acc s i c0 2 := ⟨_, rfl⟩
        rw [← hx] at hab HACC ⊢
        clear hT2 hT3 hacc htt hTl hx
        go_wp2_with (go_at_call 75; ((with_reducible refine (HT3.out _).mono ?_); rintro e w' ⟨rfl, rfl⟩))
        go_round
        case rel => exact ⟨3, by omega, rfl, by rw [HACC.out]; go_num⟩
        case measure => simp [intOf]
      · go_wp2
        go_ret3
        exact ⟨rfl, rfl⟩
set_option maxRecDepth 100000 in
set_option maxHeartbeats 8000000 in
theorem one_no (s : ByteArray) (i : Nat) (hi : i < s.size) (hs : s.size ≤ 140737488351232) (n c0 l : Nat) (hL : Lead (s[i]'hi).toNat n c0 l) (ht : ¬ ∀ j, 1 ≤ j → j < n → Tl s (i + j)) (w : World) :
    Calls Tryd.prog 69 #[.string s, .int .i64 i] w fun e w' => e = .returned (.tuple #[.int .i64 0, .int .i64 0, .bool false]) ∧ w = w' := by
  have hlt : (s[i]'hi).toNat < 256 := UInt8.toNat_lt _
  have e31 := bits_31 ⟨(s[i]'hi).toNat, hlt⟩
  have e15 := bits_15 ⟨(s[i]'hi).toNat, hlt⟩
  have e7 := bits_7 ⟨(s[i]'hi).toNat, hlt⟩
  simp only at e31 e15 e7
  have HT := Lib.hid ht
  clear ht
  rcases hL with ⟨h1, h2, rfl, hc0, rfl⟩ | ⟨h1, h2, rfl, hc0, rfl⟩ | ⟨h1, h2, rfl, hc0, rfl⟩
  case inl =>
    rw [← hc0] at e31
    have hc : c0 ≤ 31 := by omega
    have HA := Lib.hid (acc_bd s i c0 hc)
    have i0 : (128 : Int) ≤ ((s[i]'hi).toNat : Int) := by omega
    have i1 : (192 : Int) ≤ ((s[i]'hi).toNat : Int) := by omega
    have i2 : ((s[i]'hi).toNat : Int) < 224 := by omega
    clear e15 e7 hc0 h1 h2
    go_enter Tryd.func69, Tryd.ntmps69
    go_wp2
    go_loop [7, 10] (fun c k => ∃ j : Nat, j ≤ 1 ∧ k = .int .i64 ((j : Int) + 1) ∧ c = .int .i64 (acc s i c0 j : Int) ∧ Hid (∀ m, 1 ≤ m → m ≤ j → Tl s (i + m))) (fun _ k => 5 - (intOf k).toNat)
    case atStart => exact ⟨0, by omega, rfl, rfl, Lib.hid (fun m h1 h2 => absurd h1 (by omega))⟩
    case round =>
      obtain ⟨j, hj, rfl, rfl, hbe⟩ := hrel
      have hab := HA.out j (by omega)
      have hjs : j = 0 ∨ j = 1 := by omega
      clear hj
      rcases hjs with rfl | rfl
      · by_cases hTl : Tl s (i + 1)
        · have hT2 := tl_yes s (i + 1) hTl
          have hin := hTl.1
          obtain ⟨t, htt⟩ : ∃ t, t = (s.get! (i + 1)).toNat % 64 := ⟨_, rfl⟩
          rw [← htt] at hT2
          have ht64 : t < 64 := by omega
          have hacc : acc s i c0 1 = acc s i c0 0 * 64 + t := by rw [htt]; rfl
          have hT3 : ∀ w, Calls Tryd.prog 75 #[.string s, .int .i64 ((i : Int) + 1)] w fun e w' => e = .returned (.tuple #[.int .i64 (t : Int), .bool true]) ∧ w = w' := hT2
          have HT3 := Lib.hid hT3; have HACC := Lib.hid hacc; have HTL := Lib.hid hTl
          obtain ⟨x, hx⟩ : ∃ x, x = acc s i c0 0 := ⟨_, rfl⟩
          rw [← hx] at hab HACC ⊢
          clear hT2 hT3 hacc htt hTl hx
          go_wp2_with (go_at_call 75; ((with_reducible refine (HT3.out _).mono ?_); rintro e w' ⟨rfl, rfl⟩))
          go_round
          case rel => exact ⟨1, by omega, rfl, by rw [HACC.out]; go_num, Lib.hid (fun m h1 h2 => by
            rcases Nat.lt_or_eq_of_le h2 with h3 | rfl
            · exact hbe.out m h1 (by omega)
            · exact HTL.out)⟩
          case measure => simp [intOf]
        · have hT3 : ∀ w, Calls Tryd.prog 75 #[.string s, .int .i64 ((i : Int) + 1)] w fun e w' => e = .returned (.tuple #[.int .i64 0, .bool false]) ∧ w = w' := tl_no s (i + 1) hTl
          have HT3 := Lib.hid hT3
          clear hT3 hTl
          go_wp2_with (go_at_call 75; ((with_reducible refine (HT3.out _).mono ?_); rintro e w' ⟨rfl, rfl⟩))
          go_ret3
          exact ⟨rfl, rfl⟩
      · exact absurd (fun m h1 h2 => hbe.out m h1 (by omega)) HT.out
  case inr.inl =>
    rw [← hc0] at e15
    have hc : c0 ≤ 31 := by omega
    have HA := Lib.hid (acc_bd s i c0 hc)
    have i0 : (128 : Int) ≤ ((s[i]'hi).toNat : Int) := by omega
    have i1 : (192 : Int) ≤ ((s[i]'hi).toNat : Int) := by omega
    have i2 : (224 : Int) ≤ ((s[i]'hi).toNat : Int) := by omega
    have i3 : ((s[i]'hi).toNat : Int) < 240 := by omega
    clear e31 e7 hc0 h1 h2
    go_enter Tryd.func69, Tryd.ntmps69
    go_wp2
    go_loop [7, 10] (fun c k => ∃ j : Nat, j ≤ 2 ∧ k = .int .i64 ((j : Int) + 1) ∧ c = .int .i64 (acc s i c0 j : Int) ∧ Hid (∀ m, 1 ≤ m → m ≤ j → Tl s (i + m))) (fun _ k => 5 - (intOf k).toNat)
    case atStart => exact ⟨0, by omega, rfl, rfl, Lib.hid (fun m h1 h2 => absurd h1 (by omega))⟩
    case round =>
      obtain ⟨j, hj, rfl, rfl, hbe⟩ := hrel
      have hab := HA.out j (by omega)
      have hjs : j = 0 ∨ j = 1 ∨ j = 2 := by omega
      clear hj
      rcases hjs with rfl | rfl | rfl
      · by_cases hTl : Tl s (i + 1)
        · have hT2 := tl_yes s (i + 1) hTl
          have hin := hTl.1
          obtain ⟨t, htt⟩ : ∃ t, t = (s.get! (i + 1)).toNat % 64 := ⟨_, rfl⟩
          rw [← htt] at hT2
          have ht64 : t < 64 := by omega
          have hacc : acc s i c0 1 = acc s i c0 0 * 64 + t := by rw [htt]; rfl
          have hT3 : ∀ w, Calls Tryd.prog 75 #[.string s, .int .i64 ((i : Int) + 1)] w fun e w' => e = .returned (.tuple #[.int .i64 (t : Int), .bool true]) ∧ w = w' := hT2
          have HT3 := Lib.hid hT3; have HACC := Lib.hid hacc; have HTL := Lib.hid hTl
          obtain ⟨x, hx⟩ : ∃ x, x = acc s i c0 0 := ⟨_, rfl⟩
          rw [← hx] at hab HACC ⊢
          clear hT2 hT3 hacc htt hTl hx
          go_wp2_with (go_at_call 75; ((with_reducible refine (HT3.out _).mono ?_); rintro e w' ⟨rfl, rfl⟩))
          go_round
          case rel => exact ⟨1, by omega, rfl, by rw [HACC.out]; go_num, Lib.hid (fun m h1 h2 => by
            rcases Nat.lt_or_eq_of_le h2 with h3 | rfl
            · exact hbe.out m h1 (by omega)
            · exact HTL.out)⟩
          case measure => simp [intOf]
        · have hT3 : ∀ w, Calls Tryd.prog 75 #[.string s, .int .i64 ((i : Int) + 1)] w fun e w' => e = .returned (.tuple #[.int .i64 0, .bool false]) ∧ w = w' := tl_no s (i + 1) hTl
          have HT3 := Lib.hid hT3
          clear hT3 hTl
          go_wp2_with (go_at_call 75; ((with_reducible refine (HT3.out _).mono ?_); rintro e w' ⟨rfl, rfl⟩))
          go_ret3
          exact ⟨rfl, rfl⟩
      · by_cases hTl : Tl s (i + 2)
        · have hT2 := tl_yes s (i + 2) hTl
          have hin := hTl.1
          obtain ⟨t, htt⟩ : ∃ t, t = (s.get! (i + 2)).toNat % 64 := ⟨_, rfl⟩
          rw [← htt] at hT2
          have ht64 : t < 64 := by omega
          have hacc : acc s i c0 2 = acc s i c0 1 * 64 + t := by rw [htt]; rfl
          have hT3 : ∀ w, Calls Tryd.prog 75 #[.string s, .int .i64 ((i : Int) + 2)] w fun e w' => e = .returned (.tuple #[.int .i64 (t : Int), .bool true]) ∧ w = w' := hT2
          have HT3 := Lib.hid hT3; have HACC := Lib.hid hacc; have HTL := Lib.hid hTl
          obtain ⟨x, hx⟩ : ∃ x, x = acc s i c0 1 := ⟨_, rfl⟩
          rw [← hx] at hab HACC ⊢
          clear hT2 hT3 hacc htt hTl hx
          go_wp2_with (go_at_call 75; ((with_reducible refine (HT3.out _).mono ?_); rintro e w' ⟨rfl, rfl⟩))
          go_round
          case rel => exact ⟨2, by omega, rfl, by rw [HACC.out]; go_num, Lib.hid (fun m h1 h2 => by
            rcases Nat.lt_or_eq_of_le h2 with h3 | rfl
            · exact hbe.out m h1 (by omega)
            · exact HTL.out)⟩
          case measure => simp [intOf]
        · have hT3 : ∀ w, Calls Tryd.prog 75 #[.string s, .int .i64 ((i : Int) + 2)] w fun e w' => e = .returned (.tuple #[.int .i64 0, .bool false]) ∧ w = w' := tl_no s (i + 2) hTl
          have HT3 := Lib.hid hT3
          clear hT3 hTl
          go_wp2_with (go_at_call 75; ((with_reducible refine (HT3.out _).mono ?_); rintro e w' ⟨rfl, rfl⟩))
          go_ret3
          exact ⟨rfl, rfl⟩
      · exact absurd (fun m h1 h2 => hbe.out m h1 (by omega)) HT.out
  case inr.inr =>
    rw [← hc0] at e7
    have hc : c0 ≤ 31 := by omega
    have HA := Lib.hid (acc_bd s i c0 hc)
    have i0 : (128 : Int) ≤ ((s[i]'hi).toNat : Int) := by omega
    have i1 : (192 : Int) ≤ ((s[i]'hi).toNat : Int) := by omega
    have i2 : (224 : Int) ≤ ((s[i]'hi).toNat : Int) := by omega
    have i3 : (240 : Int) ≤ ((s[i]'hi).toNat : Int) := by omega
    have i4 : ((s[i]'hi).toNat : Int) < 248 := by omega
    clear e31 e15 hc0 h1 h2
    go_enter Tryd.func69, Tryd.ntmps69
    go_wp2
    go_loop [7, 10] (fun c k => ∃ j : Nat, j ≤ 3 ∧ k = .int .i64 ((j : Int) + 1) ∧ c = .int .i64 (acc s i c0 j : Int) ∧ Hid (∀ m, 1 ≤ m → m ≤ j → Tl s (i + m))) (fun _ k => 5 - (intOf k).toNat)
    case atStart => exact ⟨0, by omega, rfl, rfl, Lib.hid (fun m h1 h2 => absurd h1 (by omega))⟩
    case round =>
      obtain ⟨j, hj, rfl, rfl, hbe⟩ := hrel
      have hab := HA.out j (by omega)
      have hjs : j = 0 ∨ j = 1 ∨ j = 2 ∨ j = 3 := by omega
      clear hj
      rcases hjs with rfl | rfl | rfl | rfl
      · by_cases hTl : Tl s (i + 1)
        · have hT2 := tl_yes s (i + 1) hTl
          have hin := hTl.1
          obtain ⟨t, htt⟩ : ∃ t, t = (s.get! (i + 1)).toNat % 64 := ⟨_, rfl⟩
          rw [← htt] at hT2
          have ht64 : t < 64 := by omega
          have hacc : acc s i c0 1 = acc s i c0 0 * 64 + t := by rw [htt]; rfl
          have hT3 : ∀ w, Calls Tryd.prog 75 #[.string s, .int .i64 ((i : Int) + 1)] w fun e w' => e = .returned (.tuple #[.int .i64 (t : Int), .bool true]) ∧ w = w' := hT2
          have HT3 := Lib.hid hT3; have HACC := Lib.hid hacc; have HTL := Lib.hid hTl
          obtain ⟨x, hx⟩ : ∃ x, x = acc s i c0 0 := ⟨_, rfl⟩
          rw [← hx] at hab HACC ⊢
          clear hT2 hT3 hacc htt hTl hx
          go_wp2_with (go_at_call 75; ((with_reducible refine (HT3.out _).mono ?_); rintro e w' ⟨rfl, rfl⟩))
          go_round
          case rel => exact ⟨1, by omega, rfl, by rw [HACC.out]; go_num, Lib.hid (fun m h1 h2 => by
            rcases Nat.lt_or_eq_of_le h2 with h3 | rfl
            · exact hbe.out m h1 (by omega)
            · exact HTL.out)⟩
          case measure => simp [intOf]
        · have hT3 : ∀ w, Calls Tryd.prog 75 #[.string s, .int .i64 ((i : Int) + 1)] w fun e w' => e = .returned (.tuple #[.int .i64 0, .bool false]) ∧ w = w' := tl_no s (i + 1) hTl
          have HT3 := Lib.hid hT3
          clear hT3 hTl
          go_wp2_with (go_at_call 75; ((with_reducible refine (HT3.out _).mono ?_); rintro e w' ⟨rfl, rfl⟩))
          go_ret3
          exact ⟨rfl, rfl⟩
      · by_cases hTl : Tl s (i + 2)
        · have hT2 := tl_yes s (i + 2) hTl
          have hin := hTl.1
          obtain ⟨t, htt⟩ : ∃ t, t = (s.get! (i + 2)).toNat % 64 := ⟨_, rfl⟩
          rw [← htt] at hT2
          have ht64 : t < 64 := by omega
          have hacc : acc s i c0 2 = acc s i c0 1 * 64 + t := by rw [htt]; rfl
          have hT3 : ∀ w, Calls Tryd.prog 75 #[.string s, .int .i64 ((i : Int) + 2)] w fun e w' => e = .returned (.tuple #[.int .i64 (t : Int), .bool true]) ∧ w = w' := hT2
          have HT3 := Lib.hid hT3; have HACC := Lib.hid hacc; have HTL := Lib.hid hTl
          obtain ⟨x, hx⟩ : ∃ x, x = acc s i c0 1 := ⟨_, rfl⟩
          rw [← hx] at hab HACC ⊢
          clear hT2 hT3 hacc htt hTl hx
          go_wp2_with (go_at_call 75; ((with_reducible refine (HT3.out _).mono ?_); rintro e w' ⟨rfl, rfl⟩))
          go_round
          case rel => exact ⟨2, by omega, rfl, by rw [HACC.out]; go_num, Lib.hid (fun m h1 h2 => by
            rcases Nat.lt_or_eq_of_le h2 with h3 | rfl
            · exact hbe.out m h1 (by omega)
            · exact HTL.out)⟩
          case measure => simp [intOf]
        · have hT3 : ∀ w, Calls Tryd.prog 75 #[.string s, .int .i64 ((i : Int) + 2)] w fun e w' => e = .returned (.tuple #[.int .i64 0, .bool false]) ∧ w = w' := tl_no s (i + 2) hTl
          have HT3 := Lib.hid hT3
          clear hT3 hTl
          go_wp2_with (go_at_call 75; ((with_reducible refine (HT3.out _).mono ?_); rintro e w' ⟨rfl, rfl⟩))
          go_ret3
          exact ⟨rfl, rfl⟩
      · by_cases hTl : Tl s (i + 3)
        · have hT2 := tl_yes s (i + 3) hTl
          have hin := hTl.1
          obtain ⟨t, htt⟩ : ∃ t, t = (s.get! (i + 3)).toNat % 64 := ⟨_, rfl⟩
          rw [← htt] at hT2
          have ht64 : t < 64 := by omega
          have hacc : acc s i c0 3 = acc s i c0 2 * 64 + t := by rw [htt]; rfl
          have hT3 : ∀ w, Calls Tryd.prog 75 #[.string s, .int .i64 ((i : Int) + 3)] w fun e w' => e = .returned (.tuple #[.int .i64 (t : Int), .bool true]) ∧ w = w' := hT2
          have HT3 := Lib.hid hT3; have HACC := Lib.hid hacc; have HTL := Lib.hid hTl
          obtain ⟨x, hx⟩ : ∃ x, x = acc s i c0 2 := ⟨_, rfl⟩
          rw [← hx] at hab HACC ⊢
          clear hT2 hT3 hacc htt hTl hx
          go_wp2_with (go_at_call 75; ((with_reducible refine (HT3.out _).mono ?_); rintro e w' ⟨rfl, rfl⟩))
          go_round
          case rel => exact ⟨3, by omega, rfl, by rw [HACC.out]; go_num, Lib.hid (fun m h1 h2 => by
            rcases Nat.lt_or_eq_of_le h2 with h3 | rfl
            · exact hbe.out m h1 (by omega)
            · exact HTL.out)⟩
          case measure => simp [intOf]
        · have hT3 : ∀ w, Calls Tryd.prog 75 #[.string s, .int .i64 ((i : Int) + 3)] w fun e w' => e = .returned (.tuple #[.int .i64 0, .bool false]) ∧ w = w' := tl_no s (i + 3) hTl
          have HT3 := Lib.hid hT3
          clear hT3 hTl
          go_wp2_with (go_at_call 75; ((with_reducible refine (HT3.out _).mono ?_); rintro e w' ⟨rfl, rfl⟩))
          go_ret3
          exact ⟨rfl, rfl⟩
      · exact absurd (fun m h1 h2 => hbe.out m h1 (by omega)) HT.out

theorem dec_two {n b0 b1 b2 b3 : Nat} (h1 : 192 ≤ b0) (h2 : b0 < 224) (g : 1 < n) (g1 : b1 / 64 = 2) : Lib.decodeN n b0 b1 b2 b3 = if b0 % 32 * 64 + b1 % 64 ≥ 128 then (b0 % 32 * 64 + b1 % 64, 2) else (65533, 1) := by
  unfold Lib.decodeN
  rw [if_neg (by omega), if_pos ⟨by omega, g, g1⟩]
theorem dec_three {n b0 b1 b2 b3 : Nat} (h1 : 224 ≤ b0) (h2 : b0 < 240) (g : 2 < n) (g1 : b1 / 64 = 2) (g2 : b2 / 64 = 2) : Lib.decodeN n b0 b1 b2 b3 = if b0 % 16 * 4096 + b1 % 64 * 64 + b2 % 64 ≥ 2048 ∧ (b0 % 16 * 4096 + b1 % 64 * 64 + b2 % 64 < 55296 ∨ (57344 ≤ b0 % 16 * 4096 + b1 % 64 * 64 + b2 % 64 ∧ b0 % 16 * 4096 + b1 % 64 * 64 + b2 % 64 ≤ 1114111)) then (b0 % 16 * 4096 + b1 % 64 * 64 + b2 % 64, 3) else (65533, 1) := by
  unfold Lib.decodeN
  rw [if_neg (by omega), if_neg (by omega), if_pos ⟨by omega, ⟨by omega, g1⟩, g, g2⟩]
theorem dec_four {n b0 b1 b2 b3 : Nat} (h1 : 240 ≤ b0) (h2 : b0 < 248) (g : 3 < n) (g1 : b1 / 64 = 2) (g2 : b2 / 64 = 2) (g3 : b3 / 64 = 2) : Lib.decodeN n b0 b1 b2 b3 = if b0 % 8 * 262144 + b1 % 64 * 4096 + b2 % 64 * 64 + b3 % 64 ≥ 65536 ∧ (b0 % 8 * 262144 + b1 % 64 * 4096 + b2 % 64 * 64 + b3 % 64 < 55296 ∨ (57344 ≤ b0 % 8 * 262144 + b1 % 64 * 4096 + b2 % 64 * 64 + b3 % 64 ∧ b0 % 8 * 262144 + b1 % 64 * 4096 + b2 % 64 * 64 + b3 % 64 ≤ 1114111)) then (b0 % 8 * 262144 + b1 % 64 * 4096 + b2 % 64 * 64 + b3 % 64, 4) else (65533, 1) := by
  unfold Lib.decodeN
  rw [if_neg (by omega), if_neg (by omega), if_neg (by omega), if_pos ⟨by omega, ⟨by omega, g1⟩, ⟨by omega, g2⟩, g, g3⟩]
theorem dec_bad {n b0 b1 b2 b3 : Nat} (h0 : 128 ≤ b0) (h : ¬ ((192 ≤ b0 ∧ b0 < 224) ∧ 1 < n ∧ b1 / 64 = 2) ∧ ¬ ((224 ≤ b0 ∧ b0 < 240) ∧ (1 < n ∧ b1 / 64 = 2) ∧ 2 < n ∧ b2 / 64 = 2) ∧ ¬ ((240 ≤ b0 ∧ b0 < 248) ∧ (1 < n ∧ b1 / 64 = 2) ∧ (2 < n ∧ b2 / 64 = 2) ∧ 3 < n ∧ b3 / 64 = 2)) : Lib.decodeN n b0 b1 b2 b3 = (65533, 1) := by
  unfold Lib.decodeN
  rw [if_neg (by omega), if_neg (fun g => h.1 ⟨by omega, g.2⟩), if_neg (fun g => h.2.1 ⟨by omega, g.2⟩), if_neg (fun g => h.2.2 ⟨by omega, g.2⟩)]
end Go.Proofs.YtpgfgaloagdogaaDoor
namespace Go.Proofs.YtpgfgaloagdogaaDoor
open Go.ChangeShapes Go.WideShapes Go.ChangeAt Go.RowKit Go.Joins Txt
attribute [local go_sem] setCell_drewN cell?_ext frozen?_ext shape?_ext setCell_ext lt_1' ne_1' en_1' le_1' lt_2' ne_2' en_2' le_2' lt_3' ne_3' en_3' le_3' lt_4' ne_4' en_4' le_4' lt_5' ne_5' en_5' le_5' lt_6' ne_6' en_6' le_6' lt_7' ne_7' en_7' le_7' lt_8' ne_8' en_8' le_8' lt_9' ne_9' en_9' le_9' lt_10' ne_10' en_10' le_10' lt_11' ne_11' en_11' le_11' lt_12' ne_12' en_12' le_12'

theorem own : ownKnob Tryd.prog.godebug = none := by kernel_rfl
def charsLaid : List (String × DataW Unit) := [("unicode/utf8.acceptRanges", Rows.laid_unicode_utf8_acceptRanges), ("unicode/utf8.first", Rows.laid_unicode_utf8_first)]
theorem accept_data : (Rows.laid_unicode_utf8_acceptRanges : DataW Unit) = Lib.acceptData := by kernel_rfl
theorem first_data : Rows.laid_unicode_utf8_first = Lib.firstData := Pinned.utf8First_eq
theorem xU8 : U8Extra Tryd.prog Tryd.lays196_ren := ⟨by kernel_rfl, by kernel_rfl, by kernel_rfl, by kernel_rfl, by kernel_rfl, by kernel_rfl, by kernel_rfl⟩
theorem tabs_of_row {W : World} (h : laidMetH Tryd.prog charsLaid W) : Tabs W := by
  rw [MakeChecks.laidMetH_plain _ _ _ (by kernel_rfl)] at h
  have h3 := Lib.laidMet.reads h (n := "unicode/utf8.first") (d := Rows.laid_unicode_utf8_first) (.tail _ (.head _))
  have h4 := Lib.laidMet.reads h (n := "unicode/utf8.acceptRanges") (d := Rows.laid_unicode_utf8_acceptRanges) (.head _)
  rw [first_data] at h3
  rw [accept_data] at h4
  have hT : Lib.Utf8Tabs 0 1 W := utf8Tabs_of_readsT (U8Types.of196 Tryd.lays196) xU8 h3 h4
  exact ⟨hT, World.block_lt_of_cell? W _ (hT.1 0 (by decide)), World.block_lt_of_cell? W _ (hT.2 0 (by decide)).1⟩
theorem reach_of {s : ByteArray} (h : s.data.toList.length ≤ reachBytes) : s.size ≤ 140737488351232 := by
  rw [← Lib.size_eq] at h
  exact h
section
variable {H : Type} {enc : TypeId × Value → H} {P : Program}
/-- the row's last step where nothing below the first new block has turned -/
theorem post_below {f : Func} {s : ChangeSpec} {apart fresh handsOn again : Bool} {A B : World} {args : Array Value} {v : Value} {ds gs : List (DataW H)} {ps pa pv : List MemPlace}
    (hA : DataW.Whole enc P f.params.toList s.vars apart A args.toList ds gs ps)
    (hr : ∀ (b : Nat) (sp : Nat → Bool) (hd : Bool), DataW.TrodAll enc P B b sp hd f.resultTypes.toList (v.resultList f.resultTypes.size) (s.fn H (ds ++ gs)).results [])
    (ha : ∀ sp : Nat → Bool, (∀ p ∈ ps, sp p.block = true) → DataW.TrodAll enc P B 0 sp true f.params.toList args.toList (s.fn H (ds ++ gs)).args pa)
    (hv : ∀ sp : Nat → Bool, (∀ p ∈ ps, sp p.block = true) → DataW.TrodVars enc P B sp s.vars (s.fn H (ds ++ gs)).vars pv)
    (hp : ps = pa ++ pv) (hb : Below A.heap.size A B)
    (ho : ∀ (j : Nat) (t : TypeId) (r : Value), f.resultTypes[j]? = some t → (v.resultList f.resultTypes.size)[j]? = some r → Value.okWide P B .any 0 t r) :
    s.post enc P f apart fresh handsOn again A args v B := by
  have h1 : ∀ p ∈ ps, p.block < A.heap.size := fun p h => hA.lt p h
  have h2 : ∀ p ∈ ps, (fun b => decide (b < A.heap.size)) p.block = true := fun p h => by simpa using h1 p h
  refine ⟨ds, gs, ps, [], pa, pv, hA, hr _ _ _, ha _ h2, hv _ h2, World.keptBut_mono (fun p h => ⟨h, ?_⟩) (hb.frame (· ∈ ps)), fun _ => ?_⟩
  · rw [hp, List.mem_append] at h
    exact .inr h
  · obtain ⟨_, _, _, _, _, hz, hn⟩ := hA
    refine ⟨ho, _, _, ([] ++ pa) ++ pv, ⟨[] ++ pa, pv, trodAll_append (ha _ (fun _ _ => rfl)) (hr _ _ _), hv _ (fun _ _ => rfl), rfl, ?_, ?_⟩, ?_⟩
    · intro b off h
      have hin : MemPlace.cell b off ∈ ps := by rw [hp]; simpa using h
      rw [hb.frozen (h1 _ hin)]
      exact hz b off hin
    · intro h
      have := hn h
      rw [hp] at this
      simpa using this
    · intro p h _
      rw [hp]
      simpa using h
end
end Go.Proofs.YtpgfgaloagdogaaDoor
namespace Go.Proofs.YtpgfgaloagdogaaDoor
open Go.RowKit Txt
attribute [local go_sem] setCell_drewN cell?_ext frozen?_ext shape?_ext setCell_ext lt_1' ne_1' en_1' le_1' lt_2' ne_2' en_2' le_2' lt_3' ne_3' en_3' le_3' lt_4' ne_4' en_4' le_4' lt_5' ne_5' en_5' le_5' lt_6' ne_6' en_6' le_6' lt_7' ne_7' en_7' le_7' lt_8' ne_8' en_8' le_8' lt_9' ne_9' en_9' le_9' lt_10' ne_10' en_10' le_10' lt_11' ne_11' en_11' le_11' lt_12' ne_12' en_12' le_12'

theorem lead_of {x : Nat} (h : 192 ≤ x) (h' : x < 248) : ∃ n c0 l, Lead x n c0 l ∧ ((n = 2 ∧ x < 224 ∧ c0 = x % 32 ∧ l = 128) ∨ (n = 3 ∧ 224 ≤ x ∧ x < 240 ∧ c0 = x % 16 ∧ l = 2048) ∨ (n = 4 ∧ 240 ≤ x ∧ c0 = x % 8 ∧ l = 65536)) := by
  by_cases h1 : x < 224
  · exact ⟨2, _, _, .inl ⟨h, h1, rfl, rfl, rfl⟩, .inl ⟨rfl, h1, rfl, rfl⟩⟩
  · by_cases h2 : x < 240
    · exact ⟨3, _, _, .inr (.inl ⟨by omega, h2, rfl, rfl, rfl⟩), .inr (.inl ⟨rfl, by omega, h2, rfl, rfl⟩)⟩
    · exact ⟨4, _, _, .inr (.inr ⟨by omega, h', rfl, rfl, rfl⟩), .inr (.inr ⟨rfl, by omega, rfl, rfl⟩)⟩
theorem one_ex (s : ByteArray) (i : Nat) (hi : i < s.size) (hs : s.size ≤ 140737488351232) : ∃ (c n : Int) (ok : Bool), Rel s i c n ok ∧
    ∀ w, Calls Tryd.prog 69 #[.string s, .int .i64 i] w fun e w' => e = .returned (.tuple #[.int .i64 c, .int .i64 n, .bool ok]) ∧ w = w' := by
  have hD := Lib.decode_at s i
  have hlt : (s[i]'hi).toNat < 256 := UInt8.toNat_lt _
  have hg := get_of s i hi
  rw [hg] at hD
  obtain ⟨x, hx⟩ : ∃ x, x = (s[i]'hi).toNat := ⟨_, rfl⟩
  by_cases h128 : (s[i]'hi).toNat < 128
  · refine ⟨_, 1, true, rel_of s i _ 1 true _ hD (.inl ?_), fun w => one_ascii s i hi h128 w⟩
    unfold Lib.decodeN
    rw [if_pos h128]
    exact ⟨rfl, rfl, rfl, fun h => by omega⟩
  by_cases hlead : 192 ≤ (s[i]'hi).toNat ∧ (s[i]'hi).toNat < 248
  · obtain ⟨n, c0, l, hL, hn⟩ := lead_of hlead.1 hlead.2
    by_cases ht : ∀ j, 1 ≤ j → j < n → Tl s (i + j)
    · refine ⟨_, _, _, ?_, fun w => one_yes s i hi hs n c0 l hL ht w⟩
      rcases hn with ⟨rfl, h1, rfl, rfl⟩ | ⟨rfl, h0, h1, rfl, rfl⟩ | ⟨rfl, h0, rfl, rfl⟩
      · have t1 := ht 1 (by omega) (by omega)
        have e := dec_two (n := s.size - i) (b2 := (s.get! (i + 2)).toNat) (b3 := (s.get! (i + 3)).toNat) hlead.1 h1 (by have := t1.1; omega) t1.2
        rw [e] at hD
        have ha : acc s i ((s[i]'hi).toNat % 32) (2 - 1) = (s[i]'hi).toNat % 32 * 64 + (s.get! (i + 1)).toNat % 64 := rfl
        rw [ha]
        refine rel_of s i _ _ _ _ hD ?_
        by_cases g : (s[i]'hi).toNat % 32 * 64 + (s.get! (i + 1)).toNat % 64 ≥ 128
        · rw [if_pos g]
          exact .inl ⟨decide_eq_true (by omega), rfl, rfl, fun h => by simp at h⟩
        · rw [if_neg g]
          exact .inr ⟨rfl, .inl (decide_eq_false (by omega))⟩
      · have t1 := ht 1 (by omega) (by omega)
        have t2 := ht 2 (by omega) (by omega)
        have e := dec_three (n := s.size - i) (b3 := (s.get! (i + 3)).toNat) h0 h1 (by have := t2.1; omega) t1.2 t2.2
        rw [e] at hD
        have ha : acc s i ((s[i]'hi).toNat % 16) (3 - 1) = (s[i]'hi).toNat % 16 * 4096 + (s.get! (i + 1)).toNat % 64 * 64 + (s.get! (i + 2)).toNat % 64 := by
          show ((s[i]'hi).toNat % 16 * 64 + (s.get! (i + 1)).toNat % 64) * 64 + (s.get! (i + 2)).toNat % 64 = _
          omega
        rw [ha]
        refine rel_of s i _ _ _ _ hD ?_
        obtain ⟨v, hv⟩ : ∃ v, v = (s[i]'hi).toNat % 16 * 4096 + (s.get! (i + 1)).toNat % 64 * 64 + (s.get! (i + 2)).toNat % 64 := ⟨_, rfl⟩
        rw [← hv]
        have hv2 : v < 65536 := by omega
        by_cases g : v ≥ 2048 ∧ (v < 55296 ∨ (57344 ≤ v ∧ v ≤ 1114111))
        · rw [if_pos g]
          exact .inl ⟨decide_eq_true (by omega), rfl, rfl, fun h => by simp at h⟩
        · rw [if_neg g]
          by_cases g2 : v < 2048
          · exact .inr ⟨rfl, .inl (decide_eq_false (by omega))⟩
          · exact .inr ⟨rfl, .inr (.inr (by omega))⟩
      · have t1 := ht 1 (by omega) (by omega)
        have t2 := ht 2 (by omega) (by omega)
        have t3 := ht 3 (by omega) (by omega)
        have e := dec_four (n := s.size - i) h0 hlead.2 (by have := t3.1; omega) t1.2 t2.2 t3.2
        rw [e] at hD
        have ha : acc s i ((s[i]'hi).toNat % 8) (4 - 1) = (s[i]'hi).toNat % 8 * 262144 + (s.get! (i + 1)).toNat % 64 * 4096 + (s.get! (i + 2)).toNat % 64 * 64 + (s.get! (i + 3)).toNat % 64 := by
          show (((s[i]'hi).toNat % 8 * 64 + (s.get! (i + 1)).toNat % 64) * 64 + (s.get! (i + 2)).toNat % 64) * 64 + (s.get! (i + 3)).toNat % 64 = _
          omega
        rw [ha]
        refine rel_of s i _ _ _ _ hD ?_
        obtain ⟨v, hv⟩ : ∃ v, v = (s[i]'hi).toNat % 8 * 262144 + (s.get! (i + 1)).toNat % 64 * 4096 + (s.get! (i + 2)).toNat % 64 * 64 + (s.get! (i + 3)).toNat % 64 := ⟨_, rfl⟩
        rw [← hv]
        by_cases g : v ≥ 65536 ∧ (v < 55296 ∨ (57344 ≤ v ∧ v ≤ 1114111))
        · rw [if_pos g]
          exact .inl ⟨decide_eq_true (by omega), rfl, rfl, fun h => by simp at h⟩
        · rw [if_neg g]
          by_cases g2 : v < 65536
          · exact .inr ⟨rfl, .inl (decide_eq_false (by omega))⟩
          · exact .inr ⟨rfl, .inr (.inl (by omega))⟩
    · refine ⟨0, 0, false, rel_of s i 0 0 false _ hD (.inr ⟨?_, .inl rfl⟩), fun w => one_no s i hi hs n c0 l hL ht w⟩
      refine dec_bad (by omega) ⟨fun g => ht ?_, fun g => ht ?_, fun g => ht ?_⟩
      · rcases hn with ⟨rfl, _⟩ | ⟨rfl, h0, _⟩ | ⟨rfl, h0, _⟩
        · intro j h1 h2; obtain rfl : j = 1 := by omega
          exact ⟨by omega, g.2.2⟩
        · omega
        · omega
      · rcases hn with ⟨rfl, h0, _⟩ | ⟨rfl, h0, _⟩ | ⟨rfl, h0, _⟩
        · omega
        · intro j h1 h2
          have h3 : j = 1 ∨ j = 2 := by omega
          rcases h3 with rfl | rfl
          · exact ⟨by omega, g.2.1.2⟩
          · exact ⟨by omega, g.2.2.2⟩
        · omega
      · rcases hn with ⟨rfl, h0, _⟩ | ⟨rfl, h0, h1, _⟩ | ⟨rfl, h0, _⟩
        · omega
        · omega
        · intro j h1 h2
          have h3 : j = 1 ∨ j = 2 ∨ j = 3 := by omega
          rcases h3 with rfl | rfl | rfl
          · exact ⟨by omega, g.2.1.2⟩
          · exact ⟨by omega, g.2.2.1.2⟩
          · exact ⟨by omega, g.2.2.2.2⟩
  · refine ⟨0, 0, false, rel_of s i 0 0 false _ hD (.inr ⟨?_, .inl rfl⟩), fun w => one_bad s i hi (by omega) w⟩
    exact dec_bad (by omega) ⟨fun g => by omega, fun g => by omega, fun g => by omega⟩
end Go.Proofs.YtpgfgaloagdogaaDoor
namespace Go.Proofs.YtpgfgaloagdogaaDoor
open Go.RowKit Txt
attribute [local go_sem] setCell_drewN cell?_ext frozen?_ext shape?_ext setCell_ext lt_1' ne_1' en_1' le_1' lt_2' ne_2' en_2' le_2' lt_3' ne_3' en_3' le_3' lt_4' ne_4' en_4' le_4' lt_5' ne_5' en_5' le_5' lt_6' ne_6' en_6' le_6' lt_7' ne_7' en_7' le_7' lt_8' ne_8' en_8' le_8' lt_9' ne_9' en_9' le_9' lt_10' ne_10' en_10' le_10' lt_11' ne_11' en_11' le_11' lt_12' ne_12' en_12' le_12'

/-- the placesT from one on at which characters begin -/
def placesFrom (s : ByteArray) : Nat → Nat → List Nat
  | 0, _ => []
  | f + 1, pos => if pos < s.size then pos :: placesFrom s f (pos + (Utf8.decode s pos).2) else []
theorem placesFrom_end (s : ByteArray) (f pos : Nat) (h : ¬ pos < s.size) : placesFrom s f pos = [] := by
  cases f with
  | zero => rfl
  | succ f => simp [placesFrom, h]
theorem placesFrom_len (s : ByteArray) : ∀ f pos, (placesFrom s f pos).length = Lib.runeCountFrom s f pos
  | 0, _ => rfl
  | f + 1, pos => by
    simp only [placesFrom, Lib.runeCountFrom]
    split
    · rw [List.length_cons, placesFrom_len s f]; omega
    · rfl
def placesT (s : ByteArray) : List Nat := placesFrom s s.size 0 ++ [s.size]
theorem places_len (s : ByteArray) : (placesT s).length = Lib.runeCount s + 1 := by
  unfold placesT; rw [List.length_append, placesFrom_len]; rfl
theorem placesFrom_at (s : ByteArray) : ∀ (f pos k : Nat), s.size ≤ pos + f → pos ≤ s.size → (placesFrom s f pos ++ [s.size])[k]? = if k ≤ Lib.runeCountFrom s f pos then some (placeFrom s f pos k) else none
  | 0, pos, k, hf, hp => by
    obtain rfl : pos = s.size := by omega
    have e : Lib.runeCountFrom s 0 s.size = 0 := rfl
    rw [e]
    cases k with
    | zero => rfl
    | succ k => rw [if_neg (by omega)]; rfl
  | f + 1, pos, k, hf, hp => by
    by_cases hlt : pos < s.size
    · have hw := width_pos s pos
      have hi := width_in s pos hlt
      simp only [placesFrom, Lib.runeCountFrom, placeFrom, if_pos hlt, List.cons_append]
      cases k with
      | zero => simp
      | succ k =>
        rw [List.getElem?_cons_succ, placesFrom_at s f _ k (by omega) hi]
        by_cases hk : k ≤ Lib.runeCountFrom s f (pos + (Utf8.decode s pos).2)
        · rw [if_pos hk, if_pos (by omega), if_neg (by omega), Nat.add_sub_cancel]
        · rw [if_neg hk, if_neg (by omega)]
    · obtain rfl : pos = s.size := by omega
      rw [placesFrom_end s _ _ hlt, Lib.runeCountFrom_end s _ _ hlt, placeFrom_end s _ _ _ hlt]
      cases k with
      | zero => rfl
      | succ k => rw [if_neg (by omega)]; rfl
theorem places_at (s : ByteArray) (k : Nat) (h : k ≤ Lib.runeCount s) : (placesT s)[k]? = some (place s k) := by
  have := placesFrom_at s s.size 0 k (by omega) (by omega)
  rw [if_pos (show k ≤ Lib.runeCountFrom s s.size 0 from h)] at this
  exact this
theorem places_le (s : ByteArray) (k : Nat) : place s k ≤ s.size := place_le s k
/-- the slice v holds these numbers in a row of the call's own -/
def pCellsN (l : List Nat) : List Value := l.map fun (n : Nat) => Value.int .i64 (n : Int)
theorem pCellsN_snoc (l : List Nat) (n : Nat) : pCellsN l ++ [.int .i64 (n : Int)] = pCellsN (l ++ [n]) := by simp [pCellsN]
theorem pInfoInt : (Tryd.prog.info? 3).map (fun i => (i.zero, i.size, i.bytes)) = some (some (.int .i64 0), 1, 8) := by kernel_rfl
abbrev PBuf (B : Nat) (v : Value) (l : List Nat) (W0 w : World) : Prop := Lib.OwnBuf B 3 v l.length (pCellsN l) W0 w
theorem PBuf.nil (W0 : World) {w : World} (hb : Below W0.heap.size W0 w) : PBuf W0.heap.size (.slice none 0 0) [] W0 w :=
  ⟨World.ownsRowF_of (World.ownsRow_nil _ _ _ _), hb, hb.size⟩
theorem PBuf.congr {B : Nat} {v : Value} {m : List Nat} {W0 w : World} {n : Nat} {xs : List Value} (h : Lib.OwnBuf B 3 v n xs W0 w) (hn : n = m.length) (hx : xs = pCellsN m) : PBuf B v m W0 w := by
  subst hn hx; exact h
theorem pAppend_int {ops : Array Oper} {rest : List Oper} {o : Oper} {a : Act} {Q : Exit → Act → World → Prop} (hgd : o.guard = none) (s x : Operand) (t : TypeId)
    (ho : o.op = .call { callee := .builtin .append, args := #[s, x], argTypes := #[t, t] })
    (B : Nat) (e : TypeId) (i : TypeInfo) (ht : Tryd.prog.underlying t = some (.slice e)) (hi : Tryd.prog.info? e = some i) (hz : i.zero = some (.int .i64 0)) (hsize : i.size = 1) (hby : i.bytes = 8)
    (v : Value) (n : Nat) (xs : List Value) (hs : a.eval s = v) (W0 w0 : World) (c : Int) (hb : Lib.OwnBuf B e v n xs W0 w0)
    (hx : a.eval x = .slice (some ⟨w0.heap.size, 0, none⟩) 1 1) (hlen : (n + 1) * 8 ≤ 140737488355328)
    (h : ∀ v' w', Lib.OwnBuf B e v' (n + 1) (xs ++ [.int .i64 c]) W0 w' → wpList Tryd.prog ops Q rest (a.put o.dst v') w') : wpList Tryd.prog ops Q (o :: rest) a (w0.alloc (.cells #[.int .i64 c] e)) := by
  have hb' := hb.alloc (.cells #[.int .i64 c] e)
  refine wpList_append_ownF _ hgd s x t ho B e i (.int .i64 0) 1 8 ht hi hz hsize hby rfl (by decide) v n xs hs hb'.1 ⟨w0.heap.size, 0, none⟩ 1 1 [.int .i64 c] hx rfl ?_ ?_ (by unfold maxLen; omega) hlen hb'.2.2 ?_
  · intro j u hj
    match j, hj with
    | 0, hj => simp at hj; subst hj; simp [Addr.add]
    | (j + 1), hj => simp at hj
  · intro u hu; simp at hu; subst hu; rfl
  · intro v' w' ho' hg _
    exact h v' w' (hb'.grown ho' hg)
set_option maxHeartbeats 4000000 in
theorem chars_text (s : ByteArray) (hs : s.size ≤ 1048576) (ht : isText s = true) (w : World) :
    Calls Tryd.prog 56 #[.string s] w fun e w' => ∃ v, e = .returned (.tuple #[v, .bool true]) ∧ PBuf w.heap.size v (placesT s) w w' := by
  obtain ⟨i0, hi, hz0, hz1, hz2⟩ := info_parts pInfoInt
  obtain ⟨B, hB⟩ : ∃ B, B = w.heap.size := ⟨_, rfl⟩
  obtain ⟨ALL, hALL⟩ : ∃ ALL, ALL = placesFrom s s.size 0 := ⟨_, rfl⟩
  have hal : ALL.length ≤ s.size := by rw [hALL, placesFrom_len]; exact Lib.runeCount_le s
  have HB := Lib.hid hB; have HA := Lib.hid hALL; have HT := Lib.hid ht
  clear hB hALL ht
  go_enter Tryd.func56, Tryd.ntmps56
  go_wp2
  go_loopw [4, 5] (fun v i wr => ∃ (pos b : Nat) (gs : List Nat), i = .int .i64 pos ∧ pos ≤ s.size ∧ s.size ≤ pos + b ∧ Hid (textFrom s b pos = true) ∧ Hid (gs ++ placesFrom s b pos = ALL) ∧ gs.length ≤ s.size ∧ Hid (PBuf B v gs w wr)) (fun _ i _ => s.size - (intOf i).toNat)
  case atStart => exact ⟨0, s.size, [], rfl, by omega, by omega, HT, Lib.hid (by rw [HA.out]; rfl), by simp, Lib.hid (by rw [HB.out]; exact PBuf.nil w (Below.refl _ _))⟩
  case round =>
    obtain ⟨pos, b, gs, rfl, hp, hb, htx, hgs, hgl, hbuf⟩ := hrel
    by_cases hlt : pos < s.size
    · obtain ⟨c, n, ok, hrel2, hone⟩ := one_ex s pos hlt (by omega)
      have hw := width_pos s pos
      have hwi := width_in s pos hlt
      obtain ⟨b', hb'⟩ : ∃ b', b = b' + 1 := ⟨b - 1, by omega⟩
      have hbb : s.size ≤ pos + (b' + 1) := by omega
      have htx2 := htx.out
      rw [hb', textFrom_step s b' pos hlt, Bool.and_eq_true] at htx2
      obtain ⟨hg, htx3⟩ := htx2
      have hgs2 := hgs.out
      rw [hb'] at hgs2
      simp only [placesFrom, if_pos hlt] at hgs2
      unfold Rel at hrel2
      rcases hrel2 with ⟨rfl, hok, -, hcn, hnn⟩ | ⟨hno, -⟩
      · obtain ⟨d, hd⟩ : ∃ d, d = (Utf8.decode s pos).2 := ⟨_, rfl⟩
        rw [← hd] at hw hwi htx3 hgs2 hnn
        have hC := char_any c
        rw [hok] at hC
        subst hnn
        have HONE := Lib.hid hone; have HCH := Lib.hid hC; have HTX := Lib.hid htx3; have HGS := Lib.hid hgs2
        have hgl2 : gs.length + 1 ≤ ALL.length := by rw [← hgs2]; simp
        clear hone hC hok hcn hd hg htx3 hgs2 htx hgs hb'
        have hbuf2 := hbuf.out
        go_wp2_with (first
          | (go_at_call 69; ((with_reducible refine (HONE.out _).mono ?_); rintro e w' ⟨rfl, rfl⟩))
          | (go_at_call 70; ((with_reducible refine (HCH.out _).mono ?_); rintro e w' ⟨rfl, rfl⟩))
          | (at_builtin; refine pAppend_int rfl _ _ 52 rfl B 3 i0 Tryd.underlying52 hi hz0 hz1 hz2 _ _ _ rfl w _ _ (by assumption) rfl (by omega) ?_; intro _ _ hb3))
        go_roundw
        case rel => exact ⟨pos + d, b', gs ++ [pos], by go_num, by omega, by omega, HTX, Lib.hid (by rw [← HGS.out, List.append_assoc]; rfl), by simp; omega, Lib.hid (PBuf.congr hb3 (by simp) (by rw [pCellsN_snoc]))⟩
        case measure => simp [intOf]; omega
      · rw [hno] at hg; cases hg
    · obtain rfl : pos = s.size := by omega
      have hgs3 : Hid (gs ++ [s.size] = placesT s) := Lib.hid (by
        have := hgs.out
        rw [placesFrom_end s b _ hlt, List.append_nil] at this
        rw [this, HA.out]; rfl)
      have hbuf2 := hbuf.out
      clear hbuf hgs htx
      go_wp2_with (at_builtin; refine pAppend_int rfl _ _ 52 rfl B 3 i0 Tryd.underlying52 hi hz0 hz1 hz2 _ _ _ rfl w _ _ (by assumption) rfl (by omega) ?_; intro _ _ hb3)
      go_ret2
      exact ⟨_, rfl, by rw [← HB.out]; exact PBuf.congr hb3 (by rw [← hgs3.out]; simp) (by rw [← hgs3.out, pCellsN_snoc])⟩
set_option maxHeartbeats 4000000 in
theorem chars_bad (s : ByteArray) (hs : s.size ≤ 1048576) (ht : isText s = false) (w : World) :
    Calls Tryd.prog 56 #[.string s] w fun e w' => e = .returned (.tuple #[.slice none 0 0, .bool false]) ∧ Below w.heap.size w w' := by
  obtain ⟨i0, hi, hz0, hz1, hz2⟩ := info_parts pInfoInt
  obtain ⟨B, hB⟩ : ∃ B, B = w.heap.size := ⟨_, rfl⟩
  have HB := Lib.hid hB; have HT := Lib.hid ht
  clear hB ht
  go_enter Tryd.func56, Tryd.ntmps56
  go_wp2
  go_loopw [4, 5] (fun v i wr => ∃ (pos b : Nat) (gs : List Nat), i = .int .i64 pos ∧ pos ≤ s.size ∧ s.size ≤ pos + b ∧ Hid (textFrom s b pos = false) ∧ gs.length ≤ pos ∧ Hid (PBuf B v gs w wr)) (fun _ i _ => s.size - (intOf i).toNat)
  case atStart => exact ⟨0, s.size, [], rfl, by omega, by omega, HT, by simp, Lib.hid (by rw [HB.out]; exact PBuf.nil w (Below.refl _ _))⟩
  case round =>
    obtain ⟨pos, b, gs, rfl, hp, hb, htx, hgl, hbuf⟩ := hrel
    by_cases hlt : pos < s.size
    · obtain ⟨c, n, ok, hrel2, hone⟩ := one_ex s pos hlt (by omega)
      have hw := width_pos s pos
      have hwi := width_in s pos hlt
      obtain ⟨b', hb'⟩ : ∃ b', b = b' + 1 := ⟨b - 1, by omega⟩
      have hbb : s.size ≤ pos + (b' + 1) := by omega
      have htx2 := htx.out
      rw [hb', textFrom_step s b' pos hlt] at htx2
      unfold Rel at hrel2
      have hbuf2 := hbuf.out
      rcases hrel2 with ⟨rfl, hok, hg, hcn, hnn⟩ | ⟨hno, hor⟩
      · obtain ⟨d, hd⟩ : ∃ d, d = (Utf8.decode s pos).2 := ⟨_, rfl⟩
        rw [hg, Bool.true_and] at htx2
        rw [← hd] at hw hwi htx2 hnn
        have hC := char_any c
        rw [hok] at hC
        subst hnn
        have HONE := Lib.hid hone; have HCH := Lib.hid hC; have HTX := Lib.hid htx2
        clear hone hC hok hcn hd hg htx2 htx hb'
        go_wp2_with (first
          | (go_at_call 69; ((with_reducible refine (HONE.out _).mono ?_); rintro e w' ⟨rfl, rfl⟩))
          | (go_at_call 70; ((with_reducible refine (HCH.out _).mono ?_); rintro e w' ⟨rfl, rfl⟩))
          | (at_builtin; refine pAppend_int rfl _ _ 52 rfl B 3 i0 Tryd.underlying52 hi hz0 hz1 hz2 _ _ _ rfl w _ _ (by assumption) rfl (by omega) ?_; intro _ _ hb3))
        go_roundw
        case rel => exact ⟨pos + d, b', gs ++ [pos], by go_num, by omega, by omega, HTX, by simp; omega, Lib.hid (PBuf.congr hb3 (by simp) (by rw [pCellsN_snoc]))⟩
        case measure => simp [intOf]; omega
      · have hC := char_any c
        have HONE := Lib.hid hone
        have HBEL : Hid (Below w.heap.size w wr) := Lib.hid (by have := hbuf2.2.1; rw [HB.out] at this; exact this)
        clear hone hno htx2 hb' hbuf2
        cases ok with
        | false =>
          clear hor hC
          go_wp2_with (go_at_call 69; ((with_reducible refine (HONE.out _).mono ?_); rintro e w' ⟨rfl, rfl⟩))
          go_ret2
          exact ⟨rfl, HBEL.out⟩
        | true =>
          have hok : okI c = false := by rcases hor with h | h
                                         · cases h
                                         · exact h
          rw [hok] at hC
          have HCH := Lib.hid hC
          clear hok hC hor
          go_wp2_with (first
            | (go_at_call 69; ((with_reducible refine (HONE.out _).mono ?_); rintro e w' ⟨rfl, rfl⟩))
            | (go_at_call 70; ((with_reducible refine (HCH.out _).mono ?_); rintro e w' ⟨rfl, rfl⟩)))
          go_ret2
          exact ⟨rfl, HBEL.out⟩
    · have := htx.out
      rw [textFrom_end s b pos hlt] at this
      cases this
theorem rvalid_any (s : ByteArray) (hs : s.size ≤ 1048576) (w : World) :
    Calls Tryd.prog 40 #[.string s] w fun e w' => e = .returned (.bool (isText s)) ∧ Below w.heap.size w w' := by
  cases ht : isText s with
  | true =>
    have HC := Lib.hid (chars_text s hs ht)
    clear ht
    go_enter Tryd.func40, Tryd.ntmps40
    go_wp2_with (go_at_call 56; ((with_reducible refine (HC.out _).mono ?_); rintro e w1 ⟨v, rfl, hb1⟩; replace hb1 := hb1.2.1; obtain ⟨osA, dA, rfl⟩ := ext_of_below hb1; clear hb1))
    go_ret
    exact ⟨rfl, by (repeat' (first | (with_reducible exact Below.refl _ _) | (with_reducible assumption) | (with_reducible refine Below.alloc ?_ ?_ _) | (with_reducible refine below_drewN ?_ _) | (with_reducible refine below_drew ?_) | (with_reducible refine below_ext ?_ ?_ _ _) | (with_reducible refine Below.setCell ?_ ?_ _) | (simp; done) | (simp; omega) | omega))⟩
  | false =>
    have HC := Lib.hid (chars_bad s hs ht)
    clear ht
    go_enter Tryd.func40, Tryd.ntmps40
    go_wp2_with (go_at_call 56; ((with_reducible refine (HC.out _).mono ?_); rintro e w1 ⟨rfl, hb1⟩; obtain ⟨osA, dA, rfl⟩ := ext_of_below hb1; clear hb1))
    go_ret
    exact ⟨rfl, by (repeat' (first | (with_reducible exact Below.refl _ _) | (with_reducible assumption) | (with_reducible refine Below.alloc ?_ ?_ _) | (with_reducible refine below_drewN ?_ _) | (with_reducible refine below_drew ?_) | (with_reducible refine below_ext ?_ ?_ _ _) | (with_reducible refine Below.setCell ?_ ?_ _) | (simp; done) | (simp; omega) | omega))⟩
theorem PBuf.form {B : Nat} {v : Value} {l : List Nat} {W0 w : World} (h : PBuf B v l W0 w) (hl : 0 < l.length) : ∃ g cap, v = .slice (some ⟨g, 0, none⟩) l.length cap ∧ ∀ (i n : Nat), l[i]? = some n → w.cell? ⟨g, i, none⟩ = some (.int .i64 (n : Int)) := by
  rcases h.1.2 with ⟨_, h0⟩ | ⟨g, cap, cur, fz, rfl, _⟩
  · omega
  · refine ⟨g, cap, rfl, fun i n hi => ?_⟩
    have := h.1.cells (g := g) (by simp [Value.ownBlock]) i (.int .i64 (n : Int)) (by simp [pCellsN, hi])
    by_cases hi0 : i = 0
    · subst hi0; simpa [Addr.add] using this
    · simpa [Addr.add, hi0] using this
/-- Chars of a text, as its callers read it: a row of the call's own with a place for each character, and the end -/
theorem chars_form (s : ByteArray) (hs : s.size ≤ 1048576) (ht : isText s = true) (A : Nat) (hA : A = Lib.runeCount s) (w : World) :
    Calls Tryd.prog 56 #[.string s] w fun e w' => ∃ (g cap : Nat) (os : Array Obj) (d : Nat), e = .returned (.tuple #[.slice (some ⟨g, 0, none⟩) (A + 1) cap, .bool true]) ∧ w' = ext w os d ∧ ∀ k, k ≤ A → (ext w os d).cell? ⟨g, k, none⟩ = some (.int .i64 (place s k : Int)) := by
  refine (chars_text s hs ht w).mono ?_
  rintro e w' ⟨v, rfl, hb⟩
  have hpl := places_len s
  obtain ⟨g, cap, rfl, hc⟩ := hb.form (by omega)
  obtain ⟨os, d, rfl⟩ := ext_of_below hb.2.1
  exact ⟨g, cap, os, d, by rw [hpl, hA], rfl, fun k hk => hc k _ (places_at s k (by omega))⟩
theorem place_mono (s : ByteArray) (ht : isText s = true) (a b : Nat) (hab : a ≤ b) (hb : b ≤ Lib.runeCount s) : ∃ n, Path s (place s a) n (place s b) ∧ n = b - a := by
  obtain ⟨N, hN, hc⟩ := path_of_text s s.size 0 (by omega) (by omega) ht
  have hN' : Lib.runeCount s = N := hc
  rw [hN'] at hb
  obtain ⟨r, h1, h2⟩ := hN.split b hb
  obtain ⟨q, h3, h4⟩ := h1.split a hab
  have e1 : place s b = r := h1.place s.size (by omega) h2.le
  have e2 : place s a = q := h3.place s.size (by omega) (by have := h4.le; have := h2.le; omega)
  rw [e1, e2]
  exact ⟨b - a, h4, rfl⟩
theorem slice_mid (s : ByteArray) (p q : Nat) (h : p ≤ q) (h2 : q ≤ s.size) : ∀ w, (Instr.slice 9 (.string s) (some (.int .i64 (p : Int))) (some (.int .i64 (q : Int))) none).run Tryd.prog w = .ok (.string (s.extract p q)) w :=
  fun w => by
    have := run_slice_string (P := Tryd.prog) (w := w) (t := 9) (s := s) (k := .i64) (k' := .i64) (i := (p : Int)) (j := (q : Int)) (h := Tryd.underlying9) (h0 := by omega) (h1 := by omega) (h2 := by omega)
    rw [Int.toNat_natCast, Int.toNat_natCast] at this
    exact this
end Go.Proofs.YtpgfgaloagdogaaDoor
