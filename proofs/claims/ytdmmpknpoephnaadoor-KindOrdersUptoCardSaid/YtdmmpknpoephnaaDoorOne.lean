/-
  The document's decoder of one character, and its agreement with the language's own.
-/
import Derived.Test.YtdmmpknpoephnaaDoorValid
namespace Go.Proofs.YtdmmpknpoephnaaDoor
open Go.RowKit Txt
attribute [local go_sem] setCell_drewN cell?_ext frozen?_ext shape?_ext setCell_ext lt_1' ne_1' en_1' le_1' lt_2' ne_2' en_2' le_2' lt_3' ne_3' en_3' le_3' lt_4' ne_4' en_4' le_4' lt_5' ne_5' en_5' le_5' lt_6' ne_6' en_6' le_6' lt_7' ne_7' en_7' le_7' lt_8' ne_8' en_8' le_8' lt_9' ne_9' en_9' le_9' lt_10' ne_10' en_10' le_10' lt_11' ne_11' en_11' le_11' lt_12' ne_12' en_12' le_12'

/-- a byte that follows stands at a place -/
def Tl (s : ByteArray) (i : Nat) : Prop := i < s.size ∧ (s.get! i).toNat / 64 = 2
/-- the number that a lead byte's bits and the bytes that follow make -/
def acc (s : ByteArray) (i c0 : Nat) : Nat → Nat
  | 0 => c0
  | j + 1 => acc s i c0 j * 64 + (s.get! (i + (j + 1))).toNat % 64
theorem acc_bd (s : ByteArray) (i c0 : Nat) (h : c0 ≤ 31) : ∀ j, j ≤ 3 → acc s i c0 j ≤ 8388607 := by
  intro j hj
  have h3 : j = 0 ∨ j = 1 ∨ j = 2 ∨ j = 3 := by omega
  rcases h3 with rfl | rfl | rfl | rfl <;> simp only [acc] <;> omega
theorem tl_yes (s : ByteArray) (i : Nat) (h : Tl s i) (w : World) :
    Calls Tryd.prog 57 #[.string s, .int .i64 i] w fun e w' => e = .returned (.tuple #[.int .i64 (((s.get! i).toNat % 64 : Nat) : Int), .bool true]) ∧ w = w' := by
  obtain ⟨h1, h2⟩ := h
  rw [get_of s i h1] at h2 ⊢
  exact tail_yes s i h1 h2 w
theorem tl_no (s : ByteArray) (i : Nat) (h : ¬ Tl s i) (w : World) :
    Calls Tryd.prog 57 #[.string s, .int .i64 i] w fun e w' => e = .returned (.tuple #[.int .i64 0, .bool false]) ∧ w = w' :=
  tail_no s i (fun hi hb => h ⟨hi, by rw [get_of s i hi]; exact hb⟩) w
set_option maxRecDepth 100000 in
theorem one_ascii (s : ByteArray) (i : Nat) (hi : i < s.size) (hb : (s[i]'hi).toNat < 128) (w : World) :
    Calls Tryd.prog 46 #[.string s, .int .i64 i] w fun e w' => e = .returned (.tuple #[.int .i64 ((s[i]'hi).toNat : Int), .int .i64 1, .bool true]) ∧ w = w' := by
  go_enter Tryd.func46, Tryd.ntmps46
  go_wp2
  go_ret3
  exact ⟨rfl, rfl⟩
set_option maxRecDepth 100000 in
theorem one_bad (s : ByteArray) (i : Nat) (hi : i < s.size) (hb : (128 ≤ (s[i]'hi).toNat ∧ (s[i]'hi).toNat < 192) ∨ 248 ≤ (s[i]'hi).toNat) (w : World) :
    Calls Tryd.prog 46 #[.string s, .int .i64 i] w fun e w' => e = .returned (.tuple #[.int .i64 0, .int .i64 0, .bool false]) ∧ w = w' := by
  have hlt : (s[i]'hi).toNat < 256 := UInt8.toNat_lt _
  rcases hb with ⟨h1, h2⟩ | h1
  · have g1 : ((s[i]'hi).toNat : Int) < 192 := by omega
    go_enter Tryd.func46, Tryd.ntmps46
    go_wp2
    go_ret3
    exact ⟨rfl, rfl⟩
  · have g1 : 240 ≤ (s[i]'hi).toNat := by omega
    have g2 : ¬ (s[i]'hi).toNat < 224 := by omega
    have g3 : ¬ (s[i]'hi).toNat < 240 := by omega
    have g4 : ¬ (s[i]'hi).toNat < 248 := by omega
    go_enter Tryd.func46, Tryd.ntmps46
    go_wp2
    go_ret3
    exact ⟨rfl, rfl⟩
/-- which kind of lead byte: how many bytes, its bits, the least number -/
def Lead (x n c0 l : Nat) : Prop := (192 ≤ x ∧ x < 224 ∧ n = 2 ∧ c0 = x % 32 ∧ l = 128) ∨ (224 ≤ x ∧ x < 240 ∧ n = 3 ∧ c0 = x % 16 ∧ l = 2048) ∨ (240 ≤ x ∧ x < 248 ∧ n = 4 ∧ c0 = x % 8 ∧ l = 65536)
theorem three_ints {k : IntKind} {a b c d : Int} {x y : Bool} (h : a = c) (h' : b = d) (h3 : x = y) : Ending.returned (.tuple #[.int k a, .int k b, .bool x]) = .returned (.tuple #[.int k c, .int k d, .bool y]) := by rw [h, h', h3]
set_option maxRecDepth 100000 in
set_option maxHeartbeats 8000000 in
theorem one_yes (s : ByteArray) (i : Nat) (hi : i < s.size) (hs : s.size ≤ 140737488351232) (n c0 l : Nat) (hL : Lead (s[i]'hi).toNat n c0 l) (ht : ∀ j, 1 ≤ j → j < n → Tl s (i + j)) (w : World) :
    Calls Tryd.prog 46 #[.string s, .int .i64 i] w fun e w' => e = .returned (.tuple #[.int .i64 (acc s i c0 (n - 1) : Int), .int .i64 (n : Int), .bool (decide ((l : Int) ≤ (acc s i c0 (n - 1) : Int)))]) ∧ w = w' := by
  have hlt : (s[i]'hi).toNat < 256 := UInt8.toNat_lt _
  have e31 := bits_31 ⟨(s[i]'hi).toNat, hlt⟩
  have e15 := bits_15 ⟨(s[i]'hi).toNat, hlt⟩
  have e7 := bits_7 ⟨(s[i]'hi).toNat, hlt⟩
  simp only at e31 e15 e7
  have HT := Lib.hid ht
  clear ht
  rcases hL with ⟨h1, h2, rfl, hc0, rfl⟩ | ⟨h1, h2, rfl, hc0, rfl⟩ | ⟨h1, h2, rfl, hc0, rfl⟩
  case inl =>
    rw [← hc0] at e31
    have hc : c0 ≤ 31 := by omega
    have HA := Lib.hid (acc_bd s i c0 hc)
    have i0 : (128 : Int) ≤ ((s[i]'hi).toNat : Int) := by omega
    have i1 : (192 : Int) ≤ ((s[i]'hi).toNat : Int) := by omega
    have i2 : ((s[i]'hi).toNat : Int) < 224 := by omega
    clear e15 e7 hc0 h1 h2
    go_enter Tryd.func46, Tryd.ntmps46
    go_wp2
    go_loop [7, 10] (fun c k => ∃ j : Nat, j ≤ 1 ∧ k = .int .i64 ((j : Int) + 1) ∧ c = .int .i64 (acc s i c0 j : Int)) (fun _ k => 5 - (intOf k).toNat)
    case atStart => exact ⟨0, by omega, rfl, rfl⟩
    case round =>
      obtain ⟨j, hj, rfl, rfl⟩ := hrel
      have hab := HA.out j (by omega)
      have hjs : j = 0 ∨ j = 1 := by omega
      clear hj
      rcases hjs with rfl | rfl
      · have hTl := HT.out 1 (by omega) (by omega)
        have hT2 := tl_yes s (i + 1) hTl
        have hin := hTl.1
        obtain ⟨t, htt⟩ : ∃ t, t = (s.get! (i + 1)).toNat % 64 := ⟨_, rfl⟩
        rw [← htt] at hT2
        have ht64 : t < 64 := by omega
        have hacc : acc s i c0 1 = acc s i c0 0 * 64 + t := by rw [htt]; rfl
        have hT3 : ∀ w, Calls Tryd.prog 57 #[.string s, .int .i64 ((i : Int) + 1)] w fun e w' => e = .returned (.tuple #[.int .i64 (t : Int), .bool true]) ∧ w = w' := hT2
        have HT3 := Lib.hid hT3; have HACC := Lib.hid hacc
        obtain ⟨x, hx⟩ : ∃ x, x = acc s i c0 0 := ⟨_, rfl⟩
        rw [← hx] at hab HACC ⊢
        clear hT2 hT3 hacc htt hTl hx
        go_wp2_with (go_at_call 57; ((with_reducible refine (HT3.out _).mono ?_); rintro e w' ⟨rfl, rfl⟩))
        go_round
        case rel => exact ⟨1, by omega, rfl, by rw [HACC.out]; go_num⟩
        case measure => simp [intOf]
      · go_wp2
        go_ret3
        exact ⟨rfl, rfl⟩
  case inr.inl =>
    rw [← hc0] at e15
    have hc : c0 ≤ 31 := by omega
    have HA := Lib.hid (acc_bd s i c0 hc)
    have i0 : (128 : Int) ≤ ((s[i]'hi).toNat : Int) := by omega
    have i1 : (192 : Int) ≤ ((s[i]'hi).toNat : Int) := by omega
    have i2 : (224 : Int) ≤ ((s[i]'hi).toNat : Int) := by omega
    have i3 : ((s[i]'hi).toNat : Int) < 240 := by omega
    clear e31 e7 hc0 h1 h2
    go_enter Tryd.func46, Tryd.ntmps46
    go_wp2
    go_loop [7, 10] (fun c k => ∃ j : Nat, j ≤ 2 ∧ k = .int .i64 ((j : Int) + 1) ∧ c = .int .i64 (acc s i c0 j : Int)) (fun _ k => 5 - (intOf k).toNat)
    case atStart => exact ⟨0, by omega, rfl, rfl⟩
    case round =>
      obtain ⟨j, hj, rfl, rfl⟩ := hrel
      have hab := HA.out j (by omega)
      have hjs : j = 0 ∨ j = 1 ∨ j = 2 := by omega
      clear hj
      rcases hjs with rfl | rfl | rfl
      · have hTl := HT.out 1 (by omega) (by omega)
        have hT2 := tl_yes s (i + 1) hTl
        have hin := hTl.1
        obtain ⟨t, htt⟩ : ∃ t, t = (s.get! (i + 1)).toNat % 64 := ⟨_, rfl⟩
        rw [← htt] at hT2
        have ht64 : t < 64 := by omega
        have hacc : acc s i c0 1 = acc s i c0 0 * 64 + t := by rw [htt]; rfl
        have hT3 : ∀ w, Calls Tryd.prog 57 #[.string s, .int .i64 ((i : Int) + 1)] w fun e w' => e = .returned (.tuple #[.int .i64 (t : Int), .bool true]) ∧ w = w' := hT2
        have HT3 := Lib.hid hT3; have HACC := Lib.hid hacc
        obtain ⟨x, hx⟩ : ∃ x, x = acc s i c0 0 := ⟨_, rfl⟩
        rw [← hx] at hab HACC ⊢
        clear hT2 hT3 hacc htt hTl hx
        go_wp2_with (go_at_call 57; ((with_reducible refine (HT3.out _).mono ?_); rintro e w' ⟨rfl, rfl⟩))
        go_round
        case rel => exact ⟨1, by omega, rfl, by rw [HACC.out]; go_num⟩
        case measure => simp [intOf]
      · have hTl := HT.out 2 (by omega) (by omega)
        have hT2 := tl_yes s (i + 2) hTl
        have hin := hTl.1
        obtain ⟨t, htt⟩ : ∃ t, t = (s.get! (i + 2)).toNat % 64 := ⟨_, rfl⟩
        rw [← htt] at hT2
        have ht64 : t < 64 := by omega
        have hacc : acc s i c0 2 = acc s i c0 1 * 64 + t := by rw [htt]; rfl
        have hT3 : ∀ w, Calls Tryd.prog 57 #[.string s, .int .i64 ((i : Int) + 2)] w fun e w' => e = .returned (.tuple #[.int .i64 (t : Int), .bool true]) ∧ w = w' := hT2
        have HT3 := Lib.hid hT3; have HACC := Lib.hid hacc
        obtain ⟨x, hx⟩ : ∃ x, x = acc s i c0 1 := ⟨_, rfl⟩
        rw [← hx] at hab HACC ⊢
        clear hT2 hT3 hacc htt hTl hx
        go_wp2_with (go_at_call 57; ((with_reducible refine (HT3.out _).mono ?_); rintro e w' ⟨rfl, rfl⟩))
        go_round
        case rel => exact ⟨2, by omega, rfl, by rw [HACC.out]; go_num⟩
        case measure => simp [intOf]
      · go_wp2
        go_ret3
        exact ⟨rfl, rfl⟩
  case inr.inr =>
    rw [← hc0] at e7
    have hc : c0 ≤ 31 := by omega
    have HA := Lib.hid (acc_bd s i c0 hc)
    have i0 : (128 : Int) ≤ ((s[i]'hi).toNat : Int) := by omega
    have i1 : (192 : Int) ≤ ((s[i]'hi).toNat : Int) := by omega
    have i2 : (224 : Int) ≤ ((s[i]'hi).toNat : Int) := by omega
    have i3 : (240 : Int) ≤ ((s[i]'hi).toNat : Int) := by omega
    have i4 : ((s[i]'hi).toNat : Int) < 248 := by omega
    clear e31 e15 hc0 h1 h2
    go_enter Tryd.func46, Tryd.ntmps46
    go_wp2
    go_loop [7, 10] (fun c k => ∃ j : Nat, j ≤ 3 ∧ k = .int .i64 ((j : Int) + 1) ∧ c = .int .i64 (acc s i c0 j : Int)) (fun _ k => 5 - (intOf k).toNat)
    case atStart => exact ⟨0, by omega, rfl, rfl⟩
    case round =>
      obtain ⟨j, hj, rfl, rfl⟩ := hrel
      have hab := HA.out j (by omega)
      have hjs : j = 0 ∨ j = 1 ∨ j = 2 ∨ j = 3 := by omega
      clear hj
      rcases hjs with rfl | rfl | rfl | rfl
      · have hTl := HT.out 1 (by omega) (by omega)
        have hT2 := tl_yes s (i + 1) hTl
        have hin := hTl.1
        obtain ⟨t, htt⟩ : ∃ t, t = (s.get! (i + 1)).toNat % 64 := ⟨_, rfl⟩
        rw [← htt] at hT2
        have ht64 : t < 64 := by omega
        have hacc : acc s i c0 1 = acc s i c0 0 * 64 + t := by rw [htt]; rfl
        have hT3 : ∀ w, Calls Tryd.prog 57 #[.string s, .int .i64 ((i : Int) + 1)] w fun e w' => e = .returned (.tuple #[.int .i64 (t : Int), .bool true]) ∧ w = w' := hT2
        have HT3 := Lib.hid hT3; have HACC := Lib.hid hacc
        obtain ⟨x, hx⟩ : ∃ x, x = acc s i c0 0 := ⟨_, rfl⟩
        rw [← hx] at hab HACC ⊢
        clear hT2 hT3 hacc htt hTl hx
        go_wp2_with (go_at_call 57; ((with_reducible refine (HT3.out _).mono ?_); rintro e w' ⟨rfl, rfl⟩))
        go_round
        case rel => exact ⟨1, by omega, rfl, by rw [HACC.out]; go_num⟩
        case measure => simp [intOf]
      · have hTl := HT.out 2 (by omega) (by omega)
        have hT2 := tl_yes s (i + 2) hTl
        have hin := hTl.1
        obtain ⟨t, htt⟩ : ∃ t, t = (s.get! (i + 2)).toNat % 64 := ⟨_, rfl⟩
        rw [← htt] at hT2
        have ht64 : t < 64 := by omega
        have hacc : acc s i c0 2 = acc s i c0 1 * 64 + t := by rw [htt]; rfl
        have hT3 : ∀ w, Calls Tryd.prog 57 #[.string s, .int .i64 ((i : Int) + 2)] w fun e w' => e = .returned (.tuple #[.int .i64 (t : Int), .bool true]) ∧ w = w' := hT2
        have HT3 := Lib.hid hT3; have HACC := Lib.hid hacc
        obtain ⟨x, hx⟩ : ∃ x, x = acc s i c0 1 := ⟨_, rfl⟩
        rw [← hx] at hab HACC ⊢
        clear hT2 hT3 hacc htt hTl hx
        go_wp2_with (go_at_call 57; ((with_reducible refine (HT3.out _).mono ?_); rintro e w' ⟨rfl, rfl⟩))
        go_round
        case rel => exact ⟨2, by omega, rfl, by rw [HACC.out]; go_num⟩
        case measure => simp [intOf]
      · have hTl := HT.out 3 (by omega) (by omega)
        have hT2 := tl_yes s (i + 3) hTl
        have hin := hTl.1
        obtain ⟨t, htt⟩ : ∃ t, t = (s.get! (i + 3)).toNat % 64 := ⟨_, rfl⟩
        rw [← htt] at hT2
        have ht64 : t < 64 := by omega
        have hacc : acc s i c0 3 = acc s i c0 2 * 64 + t := by rw [htt]; rfl
        have hT3 : ∀ w, Calls Tryd.prog 57 #[.string s, .int .i64 ((i : Int) + 3)] w fun e w' => e = .returned (.tuple #[.int .i64 (t : Int), .bool true]) ∧ w = w' := hT2
        have HT3 := Lib.hid hT3; have HACC := Lib.hid hacc
        obtain ⟨x, hx⟩ : ∃ x, x = acc s i c0 2 := ⟨_, rfl⟩
        rw [← hx] at hab HACC ⊢
        clear hT2 hT3 hacc htt hTl hx
        go_wp2_with (go_at_call 57; ((with_reducible refine (HT3.out _).mono ?_); rintro e w' ⟨rfl, rfl⟩))
        go_round
        case rel => exact ⟨3, by omega, rfl, by rw [HACC.out]; go_num⟩
        case measure => simp [intOf]
      · go_wp2
        go_ret3
        exact ⟨rfl, rfl⟩
set_option maxRecDepth 100000 in
set_option maxHeartbeats 8000000 in
theorem one_no (s : ByteArray) (i : Nat) (hi : i < s.size) (hs : s.size ≤ 140737488351232) (n c0 l : Nat) (hL : Lead (s[i]'hi).toNat n c0 l) (ht : ¬ ∀ j, 1 ≤ j → j < n → Tl s (i + j)) (w : World) :
    Calls Tryd.prog 46 #[.string s, .int .i64 i] w fun e w' => e = .returned (.tuple #[.int .i64 0, .int .i64 0, .bool false]) ∧ w = w' := by
  have hlt : (s[i]'hi).toNat < 256 := UInt8.toNat_lt _
  have e31 := bits_31 ⟨(s[i]'hi).toNat, hlt⟩
  have e15 := bits_15 ⟨(s[i]'hi).toNat, hlt⟩
  have e7 := bits_7 ⟨(s[i]'hi).toNat, hlt⟩
  simp only at e31 e15 e7
  have HT := Lib.hid ht
  clear ht
  rcases hL with ⟨h1, h2, rfl, hc0, rfl⟩ | ⟨h1, h2, rfl, hc0, rfl⟩ | ⟨h1, h2, rfl, hc0, rfl⟩
  case inl =>
    rw [← hc0] at e31
    have hc : c0 ≤ 31 := by omega
    have HA := Lib.hid (acc_bd s i c0 hc)
    have i0 : (128 : Int) ≤ ((s[i]'hi).toNat : Int) := by omega
    have i1 : (192 : Int) ≤ ((s[i]'hi).toNat : Int) := by omega
    have i2 : ((s[i]'hi).toNat : Int) < 224 := by omega
    clear e15 e7 hc0 h1 h2
    go_enter Tryd.func46, Tryd.ntmps46
    go_wp2
    go_loop [7, 10] (fun c k => ∃ j : Nat, j ≤ 1 ∧ k = .int .i64 ((j : Int) + 1) ∧ c = .int .i64 (acc s i c0 j : Int) ∧ Hid (∀ m, 1 ≤ m → m ≤ j → Tl s (i + m))) (fun _ k => 5 - (intOf k).toNat)
    case atStart => exact ⟨0, by omega, rfl, rfl, Lib.hid (fun m h1 h2 => absurd h1 (by omega))⟩
    case round =>
      obtain ⟨j, hj, rfl, rfl, hbe⟩ := hrel
      have hab := HA.out j (by omega)
      have hjs : j = 0 ∨ j = 1 := by omega
      clear hj
      rcases hjs with rfl | rfl
      · by_cases hTl : Tl s (i + 1)
        · have hT2 := tl_yes s (i + 1) hTl
          have hin := hTl.1
          obtain ⟨t, htt⟩ : ∃ t, t = (s.get! (i + 1)).toNat % 64 := ⟨_, rfl⟩
          rw [← htt] at hT2
          have ht64 : t < 64 := by omega
          have hacc : acc s i c0 1 = acc s i c0 0 * 64 + t := by rw [htt]; rfl
          have hT3 : ∀ w, Calls Tryd.prog 57 #[.string s, .int .i64 ((i : Int) + 1)] w fun e w' => e = .returned (.tuple #[.int .i64 (t : Int), .bool true]) ∧ w = w' := hT2
          have HT3 := Lib.hid hT3; have HACC := Lib.hid hacc; have HTL := Lib.hid hTl
          obtain ⟨x, hx⟩ : ∃ x, x = acc s i c0 0 := ⟨_, rfl⟩
          rw [← hx] at hab HACC ⊢
          clear hT2 hT3 hacc htt hTl hx
          go_wp2_with (go_at_call 57; ((with_reducible refine (HT3.out _).mono ?_); rintro e w' ⟨rfl, rfl⟩))
          go_round
          case rel => exact ⟨1, by omega, rfl, by rw [HACC.out]; go_num, Lib.hid (fun m h1 h2 => by
            rcases Nat.lt_or_eq_of_le h2 with h3 | rfl
            · exact hbe.out m h1 (by omega)
            · exact HTL.out)⟩
          case measure => simp [intOf]
        · have hT3 : ∀ w, Calls Tryd.prog 57 #[.string s, .int .i64 ((i : Int) + 1)] w fun e w' => e = .returned (.tuple #[.int .i64 0, .bool false]) ∧ w = w' := tl_no s (i + 1) hTl
          have HT3 := Lib.hid hT3
          clear hT3 hTl
          go_wp2_with (go_at_call 57; ((with_reducible refine (HT3.out _).mono ?_); rintro e w' ⟨rfl, rfl⟩))
          go_ret3
          exact ⟨rfl, rfl⟩
      · exact absurd (fun m h1 h2 => hbe.out m h1 (by omega)) HT.out
  case inr.inl =>
    rw [← hc0] at e15
    have hc : c0 ≤ 31 := by omega
    have HA := Lib.hid (acc_bd s i c0 hc)
    have i0 : (128 : Int) ≤ ((s[i]'hi).toNat : Int) := by omega
    have i1 : (192 : Int) ≤ ((s[i]'hi).toNat : Int) := by omega
    have i2 : (224 : Int) ≤ ((s[i]'hi).toNat : Int) := by omega
    have i3 : ((s[i]'hi).toNat : Int) < 240 := by omega
    clear e31 e7 hc0 h1 h2
    go_enter Tryd.func46, Tryd.ntmps46
    go_wp2
    go_loop [7, 10] (fun c k => ∃ j : Nat, j ≤ 2 ∧ k = .int .i64 ((j : Int) + 1) ∧ c = .int .i64 (acc s i c0 j : Int) ∧ Hid (∀ m, 1 ≤ m → m ≤ j → Tl s (i + m))) (fun _ k => 5 - (intOf k).toNat)
    case atStart => exact ⟨0, by omega, rfl, rfl, Lib.hid (fun m h1 h2 => absurd h1 (by omega))⟩
    case round =>
      obtain ⟨j, hj, rfl, rfl, hbe⟩ := hrel
      have hab := HA.out j (by omega)
      have hjs : j = 0 ∨ j = 1 ∨ j = 2 := by omega
      clear hj
      rcases hjs with rfl | rfl | rfl
      · by_cases hTl : Tl s (i + 1)
        · have hT2 := tl_yes s (i + 1) hTl
          have hin := hTl.1
          obtain ⟨t, htt⟩ : ∃ t, t = (s.get! (i + 1)).toNat % 64 := ⟨_, rfl⟩
          rw [← htt] at hT2
          have ht64 : t < 64 := by omega
          have hacc : acc s i c0 1 = acc s i c0 0 * 64 + t := by rw [htt]; rfl
          have hT3 : ∀ w, Calls Tryd.prog 57 #[.string s, .int .i64 ((i : Int) + 1)] w fun e w' => e = .returned (.tuple #[.int .i64 (t : Int), .bool true]) ∧ w = w' := hT2
          have HT3 := Lib.hid hT3; have HACC := Lib.hid hacc; have HTL := Lib.hid hTl
          obtain ⟨x, hx⟩ : ∃ x, x = acc s i c0 0 := ⟨_, rfl⟩
          rw [← hx] at hab HACC ⊢
          clear hT2 hT3 hacc htt hTl hx
          go_wp2_with (go_at_call 57; ((with_reducible refine (HT3.out _).mono ?_); rintro e w' ⟨rfl, rfl⟩))
          go_round
          case rel => exact ⟨1, by omega, rfl, by rw [HACC.out]; go_num, Lib.hid (fun m h1 h2 => by
            rcases Nat.lt_or_eq_of_le h2 with h3 | rfl
            · exact hbe.out m h1 (by omega)
            · exact HTL.out)⟩
          case measure => simp [intOf]
        · have hT3 : ∀ w, Calls Tryd.prog 57 #[.string s, .int .i64 ((i : Int) + 1)] w fun e w' => e = .returned (.tuple #[.int .i64 0, .bool false]) ∧ w = w' := tl_no s (i + 1) hTl
          have HT3 := Lib.hid hT3
          clear hT3 hTl
          go_wp2_with (go_at_call 57; ((with_reducible refine (HT3.out _).mono ?_); rintro e w' ⟨rfl, rfl⟩))
          go_ret3
          exact ⟨rfl, rfl⟩
      · by_cases hTl : Tl s (i + 2)
        · have hT2 := tl_yes s (i + 2) hTl
          have hin := hTl.1
          obtain ⟨t, htt⟩ : ∃ t, t = (s.get! (i + 2)).toNat % 64 := ⟨_, rfl⟩
          rw [← htt] at hT2
          have ht64 : t < 64 := by omega
          have hacc : acc s i c0 2 = acc s i c0 1 * 64 + t := by rw [htt]; rfl
          have hT3 : ∀ w, Calls Tryd.prog 57 #[.string s, .int .i64 ((i : Int) + 2)] w fun e w' => e = .returned (.tuple #[.int .i64 (t : Int), .bool true]) ∧ w = w' := hT2
          have HT3 := Lib.hid hT3; have HACC := Lib.hid hacc; have HTL := Lib.hid hTl
          obtain ⟨x, hx⟩ : ∃ x, x = acc s i c0 1 := ⟨_, rfl⟩
          rw [← hx] at hab HACC ⊢
          clear hT2 hT3 hacc htt hTl hx
          go_wp2_with (go_at_call 57; ((with_reducible refine (HT3.out _).mono ?_); rintro e w' ⟨rfl, rfl⟩))
          go_round
          case rel => exact ⟨2, by omega, rfl, by rw [HACC.out]; go_num, Lib.hid (fun m h1 h2 => by
            rcases Nat.lt_or_eq_of_le h2 with h3 | rfl
            · exact hbe.out m h1 (by omega)
            · exact HTL.out)⟩
          case measure => simp [intOf]
        · have hT3 : ∀ w, Calls Tryd.prog 57 #[.string s, .int .i64 ((i : Int) + 2)] w fun e w' => e = .returned (.tuple #[.int .i64 0, .bool false]) ∧ w = w' := tl_no s (i + 2) hTl
          have HT3 := Lib.hid hT3
          clear hT3 hTl
          go_wp2_with (go_at_call 57; ((with_reducible refine (HT3.out _).mono ?_); rintro e w' ⟨rfl, rfl⟩))
          go_ret3
          exact ⟨rfl, rfl⟩
      · exact absurd (fun m h1 h2 => hbe.out m h1 (by omega)) HT.out
  case inr.inr =>
    rw [← hc0] at e7
    have hc : c0 ≤ 31 := by omega
    have HA := Lib.hid (acc_bd s i c0 hc)
    have i0 : (128 : Int) ≤ ((s[i]'hi).toNat : Int) := by omega
    have i1 : (192 : Int) ≤ ((s[i]'hi).toNat : Int) := by omega
    have i2 : (224 : Int) ≤ ((s[i]'hi).toNat : Int) := by omega
    have i3 : (240 : Int) ≤ ((s[i]'hi).toNat : Int) := by omega
    have i4 : ((s[i]'hi).toNat : Int) < 248 := by omega
    clear e31 e15 hc0 h1 h2
    go_enter Tryd.func46, Tryd.ntmps46
    go_wp2
    go_loop [7, 10] (fun c k => ∃ j : Nat, j ≤ 3 ∧ k = .int .i64 ((j : Int) + 1) ∧ c = .int .i64 (acc s i c0 j : Int) ∧ Hid (∀ m, 1 ≤ m → m ≤ j → Tl s (i + m))) (fun _ k => 5 - (intOf k).toNat)
    case atStart => exact ⟨0, by omega, rfl, rfl, Lib.hid (fun m h1 h2 => absurd h1 (by omega))⟩
    case round =>
      obtain ⟨j, hj, rfl, rfl, hbe⟩ := hrel
      have hab := HA.out j (by omega)
      have hjs : j = 0 ∨ j = 1 ∨ j = 2 ∨ j = 3 := by omega
      clear hj
      rcases hjs with rfl | rfl | rfl | rfl
      · by_cases hTl : Tl s (i + 1)
        · have hT2 := tl_yes s (i + 1) hTl
          have hin := hTl.1
          obtain ⟨t, htt⟩ : ∃ t, t = (s.get! (i + 1)).toNat % 64 := ⟨_, rfl⟩
          rw [← htt] at hT2
          have ht64 : t < 64 := by omega
          have hacc : acc s i c0 1 = acc s i c0 0 * 64 + t := by rw [htt]; rfl
          have hT3 : ∀ w, Calls Tryd.prog 57 #[.string s, .int .i64 ((i : Int) + 1)] w fun e w' => e = .returned (.tuple #[.int .i64 (t : Int), .bool true]) ∧ w = w' := hT2
          have HT3 := Lib.hid hT3; have HACC := Lib.hid hacc; have HTL := Lib.hid hTl
          obtain ⟨x, hx⟩ : ∃ x, x = acc s i c0 0 := ⟨_, rfl⟩
          rw [← hx] at hab HACC ⊢
          clear hT2 hT3 hacc htt hTl hx
          go_wp2_with (go_at_call 57; ((with_reducible refine (HT3.out _).mono ?_); rintro e w' ⟨rfl, rfl⟩))
          go_round
          case rel => exact ⟨1, by omega, rfl, by rw [HACC.out]; go_num, Lib.hid (fun m h1 h2 => by
            rcases Nat.lt_or_eq_of_le h2 with h3 | rfl
            · exact hbe.out m h1 (by omega)
            · exact HTL.out)⟩
          case measure => simp [intOf]
        · have hT3 : ∀ w, Calls Tryd.prog 57 #[.string s, .int .i64 ((i : Int) + 1)] w fun e w' => e = .returned (.tuple #[.int .i64 0, .bool false]) ∧ w = w' := tl_no s (i + 1) hTl
          have HT3 := Lib.hid hT3
          clear hT3 hTl
          go_wp2_with (go_at_call 57; ((with_reducible refine (HT3.out _).mono ?_); rintro e w' ⟨rfl, rfl⟩))
          go_ret3
          exact ⟨rfl, rfl⟩
      · by_cases hTl : Tl s (i + 2)
        · have hT2 := tl_yes s (i + 2) hTl
          have hin := hTl.1
          obtain ⟨t, htt⟩ : ∃ t, t = (s.get! (i + 2)).toNat % 64 := ⟨_, rfl⟩
          rw [← htt] at hT2
          have ht64 : t < 64 := by omega
          have hacc : acc s i c0 2 = acc s i c0 1 * 64 + t := by rw [htt]; rfl
          have hT3 : ∀ w, Calls Tryd.prog 57 #[.string s, .int .i64 ((i : Int) + 2)] w fun e w' => e = .returned (.tuple #[.int .i64 (t : Int), .bool true]) ∧ w = w' := hT2
          have HT3 := Lib.hid hT3; have HACC := Lib.hid hacc; have HTL := Lib.hid hTl
          obtain ⟨x, hx⟩ : ∃ x, x = acc s i c0 1 := ⟨_, rfl⟩
          rw [← hx] at hab HACC ⊢
          clear hT2 hT3 hacc htt hTl hx
          go_wp2_with (go_at_call 57; ((with_reducible refine (HT3.out _).mono ?_); rintro e w' ⟨rfl, rfl⟩))
          go_round
          case rel => exact ⟨2, by omega, rfl, by rw [HACC.out]; go_num, Lib.hid (fun m h1 h2 => by
            rcases Nat.lt_or_eq_of_le h2 with h3 | rfl
            · exact hbe.out m h1 (by omega)
            · exact HTL.out)⟩
          case measure => simp [intOf]
        · have hT3 : ∀ w, Calls Tryd.prog 57 #[.string s, .int .i64 ((i : Int) + 2)] w fun e w' => e = .returned (.tuple #[.int .i64 0, .bool false]) ∧ w = w' := tl_no s (i + 2) hTl
          have HT3 := Lib.hid hT3
          clear hT3 hTl
          go_wp2_with (go_at_call 57; ((with_reducible refine (HT3.out _).mono ?_); rintro e w' ⟨rfl, rfl⟩))
          go_ret3
          exact ⟨rfl, rfl⟩
      · by_cases hTl : Tl s (i + 3)
        · have hT2 := tl_yes s (i + 3) hTl
          have hin := hTl.1
          obtain ⟨t, htt⟩ : ∃ t, t = (s.get! (i + 3)).toNat % 64 := ⟨_, rfl⟩
          rw [← htt] at hT2
          have ht64 : t < 64 := by omega
          have hacc : acc s i c0 3 = acc s i c0 2 * 64 + t := by rw [htt]; rfl
          have hT3 : ∀ w, Calls Tryd.prog 57 #[.string s, .int .i64 ((i : Int) + 3)] w fun e w' => e = .returned (.tuple #[.int .i64 (t : Int), .bool true]) ∧ w = w' := hT2
          have HT3 := Lib.hid hT3; have HACC := Lib.hid hacc; have HTL := Lib.hid hTl
          obtain ⟨x, hx⟩ : ∃ x, x = acc s i c0 2 := ⟨_, rfl⟩
          rw [← hx] at hab HACC ⊢
          clear hT2 hT3 hacc htt hTl hx
          go_wp2_with (go_at_call 57; ((with_reducible refine (HT3.out _).mono ?_); rintro e w' ⟨rfl, rfl⟩))
          go_round
          case rel => exact ⟨3, by omega, rfl, by rw [HACC.out]; go_num, Lib.hid (fun m h1 h2 => by
            rcases Nat.lt_or_eq_of_le h2 with h3 | rfl
            · exact hbe.out m h1 (by omega)
            · exact HTL.out)⟩
          case measure => simp [intOf]
        · have hT3 : ∀ w, Calls Tryd.prog 57 #[.string s, .int .i64 ((i : Int) + 3)] w fun e w' => e = .returned (.tuple #[.int .i64 0, .bool false]) ∧ w = w' := tl_no s (i + 3) hTl
          have HT3 := Lib.hid hT3
          clear hT3 hTl
          go_wp2_with (go_at_call 57; ((with_reducible refine (HT3.out _).mono ?_); rintro e w' ⟨rfl, rfl⟩))
          go_ret3
          exact ⟨rfl, rfl⟩
      · exact absurd (fun m h1 h2 => hbe.out m h1 (by omega)) HT.out

theorem dec_two {n b0 b1 b2 b3 : Nat} (h1 : 192 ≤ b0) (h2 : b0 < 224) (g : 1 < n) (g1 : b1 / 64 = 2) : Lib.decodeN n b0 b1 b2 b3 = if b0 % 32 * 64 + b1 % 64 ≥ 128 then (b0 % 32 * 64 + b1 % 64, 2) else (65533, 1) := by
  unfold Lib.decodeN
  rw [if_neg (by omega), if_pos ⟨by omega, g, g1⟩]
theorem dec_three {n b0 b1 b2 b3 : Nat} (h1 : 224 ≤ b0) (h2 : b0 < 240) (g : 2 < n) (g1 : b1 / 64 = 2) (g2 : b2 / 64 = 2) : Lib.decodeN n b0 b1 b2 b3 = if b0 % 16 * 4096 + b1 % 64 * 64 + b2 % 64 ≥ 2048 ∧ (b0 % 16 * 4096 + b1 % 64 * 64 + b2 % 64 < 55296 ∨ (57344 ≤ b0 % 16 * 4096 + b1 % 64 * 64 + b2 % 64 ∧ b0 % 16 * 4096 + b1 % 64 * 64 + b2 % 64 ≤ 1114111)) then (b0 % 16 * 4096 + b1 % 64 * 64 + b2 % 64, 3) else (65533, 1) := by
  unfold Lib.decodeN
  rw [if_neg (by omega), if_neg (by omega), if_pos ⟨by omega, ⟨by omega, g1⟩, g, g2⟩]
theorem dec_four {n b0 b1 b2 b3 : Nat} (h1 : 240 ≤ b0) (h2 : b0 < 248) (g : 3 < n) (g1 : b1 / 64 = 2) (g2 : b2 / 64 = 2) (g3 : b3 / 64 = 2) : Lib.decodeN n b0 b1 b2 b3 = if b0 % 8 * 262144 + b1 % 64 * 4096 + b2 % 64 * 64 + b3 % 64 ≥ 65536 ∧ (b0 % 8 * 262144 + b1 % 64 * 4096 + b2 % 64 * 64 + b3 % 64 < 55296 ∨ (57344 ≤ b0 % 8 * 262144 + b1 % 64 * 4096 + b2 % 64 * 64 + b3 % 64 ∧ b0 % 8 * 262144 + b1 % 64 * 4096 + b2 % 64 * 64 + b3 % 64 ≤ 1114111)) then (b0 % 8 * 262144 + b1 % 64 * 4096 + b2 % 64 * 64 + b3 % 64, 4) else (65533, 1) := by
  unfold Lib.decodeN
  rw [if_neg (by omega), if_neg (by omega), if_neg (by omega), if_pos ⟨by omega, ⟨by omega, g1⟩, ⟨by omega, g2⟩, g, g3⟩]
theorem dec_bad {n b0 b1 b2 b3 : Nat} (h0 : 128 ≤ b0) (h : ¬ ((192 ≤ b0 ∧ b0 < 224) ∧ 1 < n ∧ b1 / 64 = 2) ∧ ¬ ((224 ≤ b0 ∧ b0 < 240) ∧ (1 < n ∧ b1 / 64 = 2) ∧ 2 < n ∧ b2 / 64 = 2) ∧ ¬ ((240 ≤ b0 ∧ b0 < 248) ∧ (1 < n ∧ b1 / 64 = 2) ∧ (2 < n ∧ b2 / 64 = 2) ∧ 3 < n ∧ b3 / 64 = 2)) : Lib.decodeN n b0 b1 b2 b3 = (65533, 1) := by
  unfold Lib.decodeN
  rw [if_neg (by omega), if_neg (fun g => h.1 ⟨by omega, g.2⟩), if_neg (fun g => h.2.1 ⟨by omega, g.2⟩), if_neg (fun g => h.2.2 ⟨by omega, g.2⟩)]
end Go.Proofs.YtdmmpknpoephnaaDoor
