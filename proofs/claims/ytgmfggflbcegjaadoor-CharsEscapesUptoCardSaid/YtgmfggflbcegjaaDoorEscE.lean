/-
  The document's line ends and blanks.
-/
import Derived.Test.YtgmfggflbcegjaaDoorEscD
namespace Go.Proofs.YtgmfggflbcegjaaDoor
open Go.RowKit Txt
attribute [local go_sem] setCell_drewN cell?_ext frozen?_ext shape?_ext setCell_ext lt_1' ne_1' en_1' le_1' lt_2' ne_2' en_2' le_2' lt_3' ne_3' en_3' le_3' lt_4' ne_4' en_4' le_4' lt_5' ne_5' en_5' le_5' lt_6' ne_6' en_6' le_6' lt_7' ne_7' en_7' le_7' lt_8' ne_8' en_8' le_8' lt_9' ne_9' en_9' le_9' lt_10' ne_10' en_10' le_10' lt_11' ne_11' en_11' le_11' lt_12' ne_12' en_12' le_12'

/-- a byte as it is read -/
def bl (attr : Bool) (c : UInt8) : UInt8 := if attr = true ∧ (c = 9 ∨ c = 10) then 32 else c
theorem bl_other {c : UInt8} (h9 : ¬ c = 9) (h10 : ¬ c = 10) : bl true c = c := if_neg (by rintro ⟨_, h | h⟩ <;> contradiction)
/-- line ends, and blanks of attributes -/
def pl (attr : Bool) : List UInt8 → List UInt8
  | [] => []
  | c :: r => if c = 13 then (if r.head? = some 10 then pl attr r else bl attr 10 :: pl attr r) else bl attr c :: pl attr r
set_option maxRecDepth 100000 in
set_option maxHeartbeats 8000000 in
theorem plain_false (s : ByteArray) (hs : s.size ≤ 1048576) (P : List UInt8) (hP : P = pl false s.data.toList) (w : World) :
    Calls Tryd.prog 38 #[.string s, .bool false] w fun e w' => e = .returned (.string (mkb P)) ∧ Below w.heap.size w w' := by
  obtain ⟨i0, hi, hz0, hz1, hz2⟩ := info_parts infoByte
  obtain ⟨B, hB⟩ : ∃ B, B = w.heap.size := ⟨_, rfl⟩
  have HB := Lib.hid hB
  have HP := Lib.hid hP
  have W1 : wrap64 ((s.size : Int) - 1) = (s.size : Int) - 1 := by unfold wrap64; omega
  clear hB hP
  go_enter Tryd.func38, Tryd.ntmps38
  go_wp2
  go_loopw [5, 6] (fun v i wr => ∃ (k : Nat) (acc : List UInt8), k ≤ s.size ∧ acc.length ≤ k ∧ i = .int .i64 k ∧ Hid (Buf B v acc w wr) ∧ Hid (P = acc ++ pl false (s.data.toList.drop k))) (fun _ i _ => s.size - (intOf i).toNat)
  case atStart => exact ⟨0, [], Nat.zero_le _, Nat.zero_le _, rfl, Lib.hid (by rw [HB.out]; exact Buf.nil w (by (repeat' (first | (with_reducible exact Below.refl _ _) | (with_reducible assumption) | (with_reducible refine Below.alloc ?_ ?_ _) | (with_reducible refine below_drewN ?_ _) | (with_reducible refine below_drew ?_) | (with_reducible refine below_ext ?_ ?_ _ _) | (with_reducible refine Below.setCell ?_ ?_ _) | (simp; done) | (simp; omega) | omega)))), Lib.hid (by rw [List.drop_zero]; exact HP.out)⟩
  case round =>
    obtain ⟨k, acc, hk, hl, rfl, hb0, HX⟩ := hrel
    have hb := hb0.out
    by_cases hlt : k < s.size
    · have hlti : (k : Int) < s.size := by omega
      by_cases h13 : s[k] = 13
      · have e13 : ((s[k].toNat : Nat) : Int) = 13 := by rw [h13]; rfl
        by_cases hn : k + 1 < s.size
        · have hni : (k : Int) < (s.size : Int) - 1 := by omega
          have hni2 : (k : Int) + 1 < (s.size : Int) := by omega
          by_cases h10 : s[k + 1] = 10
          · have e10 : ((s[k + 1].toNat : Nat) : Int) = 10 := by rw [h10]; rfl
            have HN := Lib.hid (HX.out.trans (by rw [drop_at s k hlt, drop_at s (k + 1) hn, pl, if_pos h13, if_pos (by rw [h10]; rfl)]))
            clear h13 h10
            go_wp2
            go_roundw
            case rel => exact ⟨k + 1, acc, by omega, by omega, by go_num, hb0, Lib.hid (by rw [drop_at s (k + 1) hn]; exact HN.out)⟩
            case measure => simp [intOf]; omega
          · have g10 : ((s[k + 1].toNat : Int) == 10) = false := u8_ne h10
            have HN := Lib.hid (HX.out.trans (show acc ++ pl false (s.data.toList.drop k) = (acc ++ [10]) ++ pl false (s.data.toList.drop (k + 1)) by rw [drop_at s k hlt, pl, if_pos h13, if_neg (by rw [drop_at s (k + 1) hn]; simpa using h10), List.append_assoc]; rfl))
            clear h13 h10
            go_wp2_with (at_builtin; refine Lib.wpList_append_byte rfl _ _ 57 rfl B 5 i0 Tryd.underlying57 hi hz0 hz1 hz2 _ _ _ rfl w _ _ (by assumption) rfl (by omega) ?_; intro _ _ hb)
            go_roundw
            case rel => exact ⟨k + 1, acc ++ [10], by omega, by rw [List.length_append]; simp only [List.length_cons, List.length_nil]; omega, by go_num, Lib.hid (Buf.congr hb (by rw [List.length_append]; rfl) (bytes_snoc acc 10)), HN⟩
            case measure => simp [intOf]; omega
        · have hni : (s.size : Int) - 1 ≤ (k : Int) := by omega
          have HN := Lib.hid (HX.out.trans (show acc ++ pl false (s.data.toList.drop k) = (acc ++ [10]) ++ pl false (s.data.toList.drop (k + 1)) by rw [drop_at s k hlt, pl, if_pos h13, if_neg (by rw [(drop_nil s (k + 1)).2 (by omega)]; simp), List.append_assoc]; rfl))
          clear h13
          go_wp2_with (at_builtin; refine Lib.wpList_append_byte rfl _ _ 57 rfl B 5 i0 Tryd.underlying57 hi hz0 hz1 hz2 _ _ _ rfl w _ _ (by assumption) rfl (by omega) ?_; intro _ _ hb)
          go_roundw
          case rel => exact ⟨k + 1, acc ++ [10], by omega, by rw [List.length_append]; simp only [List.length_cons, List.length_nil]; omega, by go_num, Lib.hid (Buf.congr hb (by rw [List.length_append]; rfl) (bytes_snoc acc 10)), HN⟩
          case measure => simp [intOf]; omega
      have g13 : ((s[k].toNat : Int) == 13) = false := u8_ne h13
      have HN := Lib.hid (HX.out.trans (show acc ++ pl false (s.data.toList.drop k) = (acc ++ [s[k]]) ++ pl false (s.data.toList.drop (k + 1)) by rw [drop_at s k hlt, pl, if_neg h13, List.append_assoc]; rfl))
      clear h13
      go_wp2_with (at_builtin; refine Lib.wpList_append_byte rfl _ _ 57 rfl B 5 i0 Tryd.underlying57 hi hz0 hz1 hz2 _ _ _ rfl w _ _ (by assumption) rfl (by omega) ?_; intro _ _ hb)
      go_roundw
      case rel => exact ⟨k + 1, acc ++ [s[k]], by omega, by rw [List.length_append]; simp only [List.length_cons, List.length_nil]; omega, by go_num, Lib.hid (Buf.congr hb (by rw [List.length_append]; rfl) (bytes_snoc acc s[k])), HN⟩
      case measure => simp [intOf]; omega
    · obtain rfl : k = s.size := by omega
      have HN := Lib.hid (HX.out.trans (show acc ++ pl false (s.data.toList.drop s.size) = acc by rw [drop_end]; simp [pl]))
      have hcv := hb.conv
      go_wp2
      go_ret
      exact ⟨by rw [HN.out]; rfl, by have := hb.2.1; rw [HB.out] at this; exact this⟩
set_option maxRecDepth 100000 in
set_option maxHeartbeats 8000000 in
theorem plain_true (s : ByteArray) (hs : s.size ≤ 1048576) (P : List UInt8) (hP : P = pl true s.data.toList) (w : World) :
    Calls Tryd.prog 38 #[.string s, .bool true] w fun e w' => e = .returned (.string (mkb P)) ∧ Below w.heap.size w w' := by
  obtain ⟨i0, hi, hz0, hz1, hz2⟩ := info_parts infoByte
  obtain ⟨B, hB⟩ : ∃ B, B = w.heap.size := ⟨_, rfl⟩
  have HB := Lib.hid hB
  have HP := Lib.hid hP
  have W1 : wrap64 ((s.size : Int) - 1) = (s.size : Int) - 1 := by unfold wrap64; omega
  clear hB hP
  go_enter Tryd.func38, Tryd.ntmps38
  go_wp2
  go_loopw [5, 6] (fun v i wr => ∃ (k : Nat) (acc : List UInt8), k ≤ s.size ∧ acc.length ≤ k ∧ i = .int .i64 k ∧ Hid (Buf B v acc w wr) ∧ Hid (P = acc ++ pl true (s.data.toList.drop k))) (fun _ i _ => s.size - (intOf i).toNat)
  case atStart => exact ⟨0, [], Nat.zero_le _, Nat.zero_le _, rfl, Lib.hid (by rw [HB.out]; exact Buf.nil w (by (repeat' (first | (with_reducible exact Below.refl _ _) | (with_reducible assumption) | (with_reducible refine Below.alloc ?_ ?_ _) | (with_reducible refine below_drewN ?_ _) | (with_reducible refine below_drew ?_) | (with_reducible refine below_ext ?_ ?_ _ _) | (with_reducible refine Below.setCell ?_ ?_ _) | (simp; done) | (simp; omega) | omega)))), Lib.hid (by rw [List.drop_zero]; exact HP.out)⟩
  case round =>
    obtain ⟨k, acc, hk, hl, rfl, hb0, HX⟩ := hrel
    have hb := hb0.out
    by_cases hlt : k < s.size
    · have hlti : (k : Int) < s.size := by omega
      by_cases h13 : s[k] = 13
      · have e13 : ((s[k].toNat : Nat) : Int) = 13 := by rw [h13]; rfl
        by_cases hn : k + 1 < s.size
        · have hni : (k : Int) < (s.size : Int) - 1 := by omega
          have hni2 : (k : Int) + 1 < (s.size : Int) := by omega
          by_cases h10 : s[k + 1] = 10
          · have e10 : ((s[k + 1].toNat : Nat) : Int) = 10 := by rw [h10]; rfl
            have HN := Lib.hid (HX.out.trans (by rw [drop_at s k hlt, drop_at s (k + 1) hn, pl, if_pos h13, if_pos (by rw [h10]; rfl)]))
            clear h13 h10
            go_wp2
            go_roundw
            case rel => exact ⟨k + 1, acc, by omega, by omega, by go_num, hb0, Lib.hid (by rw [drop_at s (k + 1) hn]; exact HN.out)⟩
            case measure => simp [intOf]; omega
          · have g10 : ((s[k + 1].toNat : Int) == 10) = false := u8_ne h10
            have HN := Lib.hid (HX.out.trans (show acc ++ pl true (s.data.toList.drop k) = (acc ++ [32]) ++ pl true (s.data.toList.drop (k + 1)) by rw [drop_at s k hlt, pl, if_pos h13, if_neg (by rw [drop_at s (k + 1) hn]; simpa using h10), List.append_assoc]; rfl))
            clear h13 h10
            go_wp2_with (at_builtin; refine Lib.wpList_append_byte rfl _ _ 57 rfl B 5 i0 Tryd.underlying57 hi hz0 hz1 hz2 _ _ _ rfl w _ _ (by assumption) rfl (by omega) ?_; intro _ _ hb)
            go_roundw
            case rel => exact ⟨k + 1, acc ++ [32], by omega, by rw [List.length_append]; simp only [List.length_cons, List.length_nil]; omega, by go_num, Lib.hid (Buf.congr hb (by rw [List.length_append]; rfl) (bytes_snoc acc 32)), HN⟩
            case measure => simp [intOf]; omega
        · have hni : (s.size : Int) - 1 ≤ (k : Int) := by omega
          have HN := Lib.hid (HX.out.trans (show acc ++ pl true (s.data.toList.drop k) = (acc ++ [32]) ++ pl true (s.data.toList.drop (k + 1)) by rw [drop_at s k hlt, pl, if_pos h13, if_neg (by rw [(drop_nil s (k + 1)).2 (by omega)]; simp), List.append_assoc]; rfl))
          clear h13
          go_wp2_with (at_builtin; refine Lib.wpList_append_byte rfl _ _ 57 rfl B 5 i0 Tryd.underlying57 hi hz0 hz1 hz2 _ _ _ rfl w _ _ (by assumption) rfl (by omega) ?_; intro _ _ hb)
          go_roundw
          case rel => exact ⟨k + 1, acc ++ [32], by omega, by rw [List.length_append]; simp only [List.length_cons, List.length_nil]; omega, by go_num, Lib.hid (Buf.congr hb (by rw [List.length_append]; rfl) (bytes_snoc acc 32)), HN⟩
          case measure => simp [intOf]; omega
      have g13 : ((s[k].toNat : Int) == 13) = false := u8_ne h13
      by_cases h9 : s[k] = 9
      · have e9 : ((s[k].toNat : Nat) : Int) = 9 := by rw [h9]; rfl
        have HN := Lib.hid (HX.out.trans (show acc ++ pl true (s.data.toList.drop k) = (acc ++ [32]) ++ pl true (s.data.toList.drop (k + 1)) by rw [drop_at s k hlt, pl, if_neg h13, h9, List.append_assoc]; rfl))
        clear h13 h9 g13
        go_wp2_with (at_builtin; refine Lib.wpList_append_byte rfl _ _ 57 rfl B 5 i0 Tryd.underlying57 hi hz0 hz1 hz2 _ _ _ rfl w _ _ (by assumption) rfl (by omega) ?_; intro _ _ hb)
        go_roundw
        case rel => exact ⟨k + 1, acc ++ [32], by omega, by rw [List.length_append]; simp only [List.length_cons, List.length_nil]; omega, by go_num, Lib.hid (Buf.congr hb (by rw [List.length_append]; rfl) (bytes_snoc acc 32)), HN⟩
        case measure => simp [intOf]; omega
      have g9 : ((s[k].toNat : Int) == 9) = false := u8_ne h9
      by_cases h10 : s[k] = 10
      · have e10 : ((s[k].toNat : Nat) : Int) = 10 := by rw [h10]; rfl
        have HN := Lib.hid (HX.out.trans (show acc ++ pl true (s.data.toList.drop k) = (acc ++ [32]) ++ pl true (s.data.toList.drop (k + 1)) by rw [drop_at s k hlt, pl, if_neg h13, h10, List.append_assoc]; rfl))
        clear h13 h10 g13
        go_wp2_with (at_builtin; refine Lib.wpList_append_byte rfl _ _ 57 rfl B 5 i0 Tryd.underlying57 hi hz0 hz1 hz2 _ _ _ rfl w _ _ (by assumption) rfl (by omega) ?_; intro _ _ hb)
        go_roundw
        case rel => exact ⟨k + 1, acc ++ [32], by omega, by rw [List.length_append]; simp only [List.length_cons, List.length_nil]; omega, by go_num, Lib.hid (Buf.congr hb (by rw [List.length_append]; rfl) (bytes_snoc acc 32)), HN⟩
        case measure => simp [intOf]; omega
      have g10 : ((s[k].toNat : Int) == 10) = false := u8_ne h10
      have HN := Lib.hid (HX.out.trans (show acc ++ pl true (s.data.toList.drop k) = (acc ++ [s[k]]) ++ pl true (s.data.toList.drop (k + 1)) by rw [drop_at s k hlt, pl, if_neg h13, bl_other h9 h10, List.append_assoc]; rfl))
      clear h13 h9 h10
      go_wp2_with (at_builtin; refine Lib.wpList_append_byte rfl _ _ 57 rfl B 5 i0 Tryd.underlying57 hi hz0 hz1 hz2 _ _ _ rfl w _ _ (by assumption) rfl (by omega) ?_; intro _ _ hb)
      go_roundw
      case rel => exact ⟨k + 1, acc ++ [s[k]], by omega, by rw [List.length_append]; simp only [List.length_cons, List.length_nil]; omega, by go_num, Lib.hid (Buf.congr hb (by rw [List.length_append]; rfl) (bytes_snoc acc s[k])), HN⟩
      case measure => simp [intOf]; omega
    · obtain rfl : k = s.size := by omega
      have HN := Lib.hid (HX.out.trans (show acc ++ pl true (s.data.toList.drop s.size) = acc by rw [drop_end]; simp [pl]))
      have hcv := hb.conv
      go_wp2
      go_ret
      exact ⟨by rw [HN.out]; rfl, by have := hb.2.1; rw [HB.out] at this; exact this⟩
end Go.Proofs.YtgmfggflbcegjaaDoor
