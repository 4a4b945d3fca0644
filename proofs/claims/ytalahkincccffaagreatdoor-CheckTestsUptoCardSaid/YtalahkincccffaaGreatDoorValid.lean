/-
  Contracts of chars.Valid and of the document's decoder.
-/
import Derived.Test.YtalahkincccffaaGreatDoorExt
import Derived.Test.YtalahkincccffaaGreatDoorBa
import Derived.Test.YtalahkincccffaaGreatDoorBb
import Derived.Laws.RangeAny
import Derived.Laws.RangeString
import Derived.LoopTactic
namespace Go.Proofs.YtalahkincccffaaGreatDoor
open Go.RowKit Txt
attribute [local go_sem] setCell_drewN cell?_ext frozen?_ext shape?_ext setCell_ext lt_1' ne_1' en_1' le_1' lt_2' ne_2' en_2' le_2' lt_3' ne_3' en_3' le_3' lt_4' ne_4' en_4' le_4' lt_5' ne_5' en_5' le_5' lt_6' ne_6' en_6' le_6' lt_7' ne_7' en_7' le_7' lt_8' ne_8' en_8' le_8' lt_9' ne_9' en_9' le_9' lt_10' ne_10' en_10' le_10' lt_11' ne_11' en_11' le_11' lt_12' ne_12' en_12' le_12'

def Tabs (w : World) : Prop := Lib.Utf8Tabs 7 8 w ∧ 7 < w.heap.size ∧ 8 < w.heap.size
theorem Tabs.below {w w' : World} (h : Tabs w) (hb : Below w.heap.size w w') : Tabs w' := ⟨Utf8Tabs_below h.1 hb, by have := hb.size; have := h.2.1; omega, by have := hb.size; have := h.2.2; omega⟩
theorem valid_lib (s : ByteArray) (w : World) (hs : s.size ≤ 9223372036854775807) (hT : Tabs w) :
    Calls Tryz.prog 96 #[.string s] w fun e w' => e = .returned (.bool (Lib.validD s.data.toList)) ∧ Below w.heap.size w w' := Any.utf8_ValidString Tryz.lays196 s w hs hT.1
theorem okI_split (r : Int) : (okI r = true ∧ (r = 9 ∨ r = 10 ∨ r = 13 ∨ (32 ≤ r ∧ r ≤ 55295) ∨ (57344 ≤ r ∧ r ≤ 65533) ∨ (65536 ≤ r ∧ r ≤ 1114111))) ∨
    (okI r = false ∧ (((r == 9) = false ∧ (r == 10) = false ∧ (r == 13) = false ∧ r < 32) ∨ (55296 ≤ r ∧ r < 57344) ∨ (65534 ≤ r ∧ r < 65536) ∨ 1114111 < r)) := by
  by_cases h : r = 9 ∨ r = 10 ∨ r = 13 ∨ (32 ≤ r ∧ r ≤ 55295) ∨ (57344 ≤ r ∧ r ≤ 65533) ∨ (65536 ≤ r ∧ r ≤ 1114111)
  · exact .inl ⟨decide_eq_true h, h⟩
  · refine .inr ⟨decide_eq_false h, ?_⟩
    simp only [beq_eq_false_iff_ne, ne_eq]
    omega
theorem ne3 {r : Int} (h : 32 ≤ r) : (r == 9) = false ∧ (r == 10) = false ∧ (r == 13) = false := by
  simp only [beq_eq_false_iff_ne, ne_eq]; omega
set_option maxHeartbeats 1000000 in
theorem allowed_any (r : Int) (w : World) : Calls Tryz.prog 97 #[.int .i32 r] w fun e w' => e = .returned (.bool (okI r)) ∧ w = w' := by
  rcases okI_split r with ⟨h, rfl | rfl | rfl | ⟨h1, h2⟩ | ⟨h1, h2⟩ | ⟨h1, h2⟩⟩ | ⟨h, ⟨h1, h2, h3, h4⟩ | ⟨h1, h2⟩ | ⟨h1, h2⟩ | h1⟩
  case inl.inl | inl.inr.inl | inl.inr.inr.inl =>
    rw [h]
    clear h
    go_enter Tryz.func97, Tryz.ntmps97
    go_wp2
    go_ret
    exact ⟨rfl, rfl⟩
  case inr.inl =>
    rw [h]
    clear h
    go_enter Tryz.func97, Tryz.ntmps97
    go_wp2
    go_ret
    exact ⟨rfl, rfl⟩
  case inl.inr.inr.inr.inl =>
    obtain ⟨e1, e2, e3⟩ := ne3 (r := r) (by omega)
    rw [h]
    clear h
    go_enter Tryz.func97, Tryz.ntmps97
    go_wp2
    go_ret
    exact ⟨rfl, rfl⟩
  all_goals
    obtain ⟨e1, e2, e3⟩ := ne3 (r := r) (by omega)
    rw [h]
    clear h
    first
      | (have g1 : decide (r ≤ 65533) = true := by simp; omega)
      | (have g1 : decide (r ≤ 65533) = false := by simp; omega)
    first
      | (have g2 : decide (r ≤ 1114111) = true := by simp; omega)
      | (have g2 : decide (r ≤ 1114111) = false := by simp; omega)
    first
      | (have g3 : decide (57344 ≤ r) = true := by simp; omega)
      | (have g3 : decide (57344 ≤ r) = false := by simp; omega)
    first
      | (have g5 : decide (r ≤ 55295) = true := by simp; omega)
      | (have g5 : decide (r ≤ 55295) = false := by simp; omega)
    first
      | (have g4 : decide (65536 ≤ r) = true := by simp; omega)
      | (have g4 : decide (65536 ≤ r) = false := by simp; omega)
    go_enter Tryz.func97, Tryz.ntmps97
    go_wp2
    go_ret
    exact ⟨rfl, rfl⟩
set_option maxHeartbeats 1000000 in
theorem char_any (r : Int) (w : World) : Calls Tryz.prog 85 #[.int .i64 r] w fun e w' => e = .returned (.bool (okI r)) ∧ w = w' := by
  rcases okI_split r with ⟨h, rfl | rfl | rfl | ⟨h1, h2⟩ | ⟨h1, h2⟩ | ⟨h1, h2⟩⟩ | ⟨h, ⟨h1, h2, h3, h4⟩ | ⟨h1, h2⟩ | ⟨h1, h2⟩ | h1⟩
  case inl.inl | inl.inr.inl | inl.inr.inr.inl =>
    rw [h]
    clear h
    go_enter Tryz.func85, Tryz.ntmps85
    go_wp2
    go_ret
    exact ⟨rfl, rfl⟩
  case inr.inl =>
    rw [h]
    clear h
    go_enter Tryz.func85, Tryz.ntmps85
    go_wp2
    go_ret
    exact ⟨rfl, rfl⟩
  case inl.inr.inr.inr.inl =>
    obtain ⟨e1, e2, e3⟩ := ne3 (r := r) (by omega)
    rw [h]
    clear h
    go_enter Tryz.func85, Tryz.ntmps85
    go_wp2
    go_ret
    exact ⟨rfl, rfl⟩
  all_goals
    obtain ⟨e1, e2, e3⟩ := ne3 (r := r) (by omega)
    rw [h]
    clear h
    first
      | (have g1 : decide (r ≤ 65533) = true := by simp; omega)
      | (have g1 : decide (r ≤ 65533) = false := by simp; omega)
    first
      | (have g2 : decide (r ≤ 1114111) = true := by simp; omega)
      | (have g2 : decide (r ≤ 1114111) = false := by simp; omega)
    first
      | (have g3 : decide (57344 ≤ r) = true := by simp; omega)
      | (have g3 : decide (57344 ≤ r) = false := by simp; omega)
    first
      | (have g5 : decide (r ≤ 55295) = true := by simp; omega)
      | (have g5 : decide (r ≤ 55295) = false := by simp; omega)
    first
      | (have g4 : decide (65536 ≤ r) = true := by simp; omega)
      | (have g4 : decide (65536 ≤ r) = false := by simp; omega)
    go_enter Tryz.func85, Tryz.ntmps85
    go_wp2
    go_ret
    exact ⟨rfl, rfl⟩
theorem next_any (w : World) (k : Nat) (hk : w.heap.size = k) (s : ByteArray) (pos : Nat) (h : pos < s.size) (ty : TypeId) :
    (Instr.next (.pointer (some ⟨k, 0, none⟩)) true ty).run Tryz.prog (w.iter s pos) = .ok (.tuple #[.bool true, .int .i64 pos, .int .i32 ((Utf8.decode s pos).1 : Int)]) (w.iter s (pos + (Utf8.decode s pos).2)) := by
  subst hk; exact run_next_any w s pos ty h
theorem next_end (w : World) (k : Nat) (hk : w.heap.size = k) (s : ByteArray) (pos : Nat) (h : ¬ pos < s.size) (ty : TypeId) :
    (Instr.next (.pointer (some ⟨k, 0, none⟩)) true ty).run Tryz.prog (w.iter s pos) = .ok (.tuple #[.bool false]) (w.iter s pos) := by
  subst hk; exact run_next_end w s pos ty h
theorem below_iter {B : Nat} {a w : World} (h : Below B a w) (hB : B ≤ w.heap.size) (s : ByteArray) (pos : Nat) : Below B a (w.iter s pos) := h.alloc hB _
set_option maxHeartbeats 2000000 in
theorem valid_any (s : ByteArray) (hs : s.size ≤ maxLen) (w : World) (hT : Tabs w) :
    Calls Tryz.prog 89 #[.string s] w fun e w' => e = .returned (.bool (isText s)) ∧ Below w.heap.size w w' := by
  unfold maxLen at hs
  have cV := valid_lib s w (by omega) hT
  clear hT
  cases hv : Lib.validD s.data.toList with
  | false =>
    rw [hv] at cV
    rw [not_text_of_invalid s hv]
    have CV := Lib.hid cV
    clear cV hv
    go_enter Tryz.func89, Tryz.ntmps89
    go_wp2_with (go_at_call 96; ((with_reducible refine (CV.out).mono ?_); rintro e w1 ⟨rfl, hb1⟩; obtain ⟨osA, dA, rfl⟩ := ext_of_below hb1; clear hb1))
    go_ret
    exact ⟨rfl, by (repeat' (first | (with_reducible first | exact Below.refl _ _ | assumption | refine Below.alloc ?_ ?_ _ | refine below_drewN ?_ _ | refine below_drew ?_ | refine below_ext ?_ ?_ _ _ | refine Below.setCell ?_ ?_ _) | (simp; done) | (simp; omega) | omega))⟩
  | true =>
    rw [hv] at cV
    have CV := Lib.hid cV
    have HV := Lib.hid hv
    clear cV hv
    go_enter Tryz.func89, Tryz.ntmps89
    go_wp2_with (go_at_call 96; ((with_reducible refine (CV.out).mono ?_); rintro e w1 ⟨rfl, hb1⟩; obtain ⟨osA, dA, rfl⟩ := ext_of_below hb1; clear hb1))
    go_loopw [] (fun wr => ∃ (pos b : Nat), wr = (ext w osA dA).iter s pos ∧ Lib.validD (s.data.toList.drop pos) = true ∧ textFrom s b pos = isText s ∧ s.size ≤ pos + b) (fun wr => s.size - wr.iterPos (ext w osA dA).heap.size)
    case atStart => exact ⟨0, s.size, rfl, by rw [List.drop_zero]; exact HV.out, rfl, by omega⟩
    case round =>
      obtain ⟨pos, b, rfl, hv, ht, hb⟩ := hrel
      have HV2 := Lib.hid hv; have HT2 := Lib.hid ht
      clear hv ht
      by_cases hp : pos < s.size
      · obtain ⟨hv1, hv2⟩ := valid_at s pos hp HV2.out
        have hg := good_of_valid s pos hv1
        have hw := width_pos s pos
        have hnx := next_any (ext w osA dA) (w.heap.size + osA.size) (ext_size w osA dA) s pos hp
        have hstep : ∀ b', b = b' + 1 → textFrom s b pos = (good s pos && textFrom s b' (pos + (Utf8.decode s pos).2)) := fun b' e => by rw [e]; exact textFrom_step s b' pos hp
        obtain ⟨D, hD⟩ : ∃ D, Utf8.decode s pos = D := ⟨_, rfl⟩
        rw [hD] at hv1 hv2 hg hw hnx hstep
        obtain ⟨r, n⟩ := D
        simp only at hv1 hv2 hg hw hnx hstep
        have HS := Lib.hid hstep; have HG := Lib.hid hg; have HV3 := Lib.hid hv2
        clear hv1 hv2 hg hstep hD
        cases hk : okI (r : Int) with
        | false =>
          have hA := allowed_any (r : Int)
          rw [hk] at hA
          have HA := Lib.hid hA; have HK := Lib.hid hk
          clear hA hk
          go_wp2_with (go_at_call 97; ((with_reducible refine (HA.out _).mono ?_); rintro e w' ⟨rfl, rfl⟩))
          go_ret
          refine ⟨?_, by first | (exact below_iter (by (repeat' (first | (with_reducible first | exact Below.refl _ _ | assumption | refine Below.alloc ?_ ?_ _ | refine below_drewN ?_ _ | refine below_drew ?_ | refine below_ext ?_ ?_ _ _ | refine Below.setCell ?_ ?_ _) | (simp; done) | (simp; omega) | omega))) (by simp) _ _) | (repeat' (first | (with_reducible first | exact Below.refl _ _ | assumption | refine Below.alloc ?_ ?_ _ | refine below_drewN ?_ _ | refine below_drew ?_ | refine below_ext ?_ ?_ _ _ | refine Below.setCell ?_ ?_ _) | (simp; done) | (simp; omega) | omega))⟩
          obtain ⟨b', rfl⟩ : ∃ b', b = b' + 1 := ⟨b - 1, by omega⟩
          have := HT2.out
          rw [HS.out b' rfl, HG.out, HK.out, Bool.false_and] at this
          rw [← this]
          rfl
        | true =>
          have hA := allowed_any (r : Int)
          rw [hk] at hA
          have HA := Lib.hid hA; have HK := Lib.hid hk
          clear hA hk
          go_wp2_with (go_at_call 97; ((with_reducible refine (HA.out _).mono ?_); rintro e w' ⟨rfl, rfl⟩))
          go_roundw
          case rel =>
            obtain ⟨b', rfl⟩ : ∃ b', b = b' + 1 := ⟨b - 1, by omega⟩
            refine ⟨pos + n, b', rfl, HV3.out, ?_, by omega⟩
            have := HT2.out
            rw [HS.out b' rfl, HG.out, HK.out, Bool.true_and] at this
            exact this
          case measure => simp only [World.iterPos_iter]; omega
      · have hnx := next_end (ext w osA dA) (w.heap.size + osA.size) (ext_size w osA dA) s pos hp
        have ht : isText s = true := by rw [← HT2.out]; exact textFrom_end s b pos hp
        have HT3 := Lib.hid ht
        clear ht
        go_wp2
        go_ret
        exact ⟨by rw [HT3.out]; rfl, by first | (exact below_iter (by (repeat' (first | (with_reducible first | exact Below.refl _ _ | assumption | refine Below.alloc ?_ ?_ _ | refine below_drewN ?_ _ | refine below_drew ?_ | refine below_ext ?_ ?_ _ _ | refine Below.setCell ?_ ?_ _) | (simp; done) | (simp; omega) | omega))) (by simp) _ _) | (repeat' (first | (with_reducible first | exact Below.refl _ _ | assumption | refine Below.alloc ?_ ?_ _ | refine below_drewN ?_ _ | refine below_drew ?_ | refine below_ext ?_ ?_ _ _ | refine Below.setCell ?_ ?_ _) | (simp; done) | (simp; omega) | omega))⟩
theorem bits_high : ∀ b : Fin 256, bits .and .u8 ((b.val : Nat) : Int) 192 = ((b.val / 64 * 64 : Nat) : Int) := by decide +kernel
theorem bits_low : ∀ b : Fin 256, bits .and .u8 ((b.val : Nat) : Int) 63 = ((b.val % 64 : Nat) : Int) := by decide +kernel
theorem bits_31 : ∀ b : Fin 256, bits .and .i64 ((b.val : Nat) : Int) 31 = ((b.val % 32 : Nat) : Int) := by decide +kernel
theorem bits_15 : ∀ b : Fin 256, bits .and .i64 ((b.val : Nat) : Int) 15 = ((b.val % 16 : Nat) : Int) := by decide +kernel
theorem bits_7 : ∀ b : Fin 256, bits .and .i64 ((b.val : Nat) : Int) 7 = ((b.val % 8 : Nat) : Int) := by decide +kernel
theorem tail_yes (s : ByteArray) (i : Nat) (h : i < s.size) (hb : (s[i]'h).toNat / 64 = 2) (w : World) :
    Calls Tryz.prog 95 #[.string s, .int .i64 i] w fun e w' => e = .returned (.tuple #[.int .i64 (((s[i]'h).toNat % 64 : Nat) : Int), .bool true]) ∧ w = w' := by
  have hlt : (s[i]'h).toNat < 256 := UInt8.toNat_lt _
  have e1 := bits_high ⟨(s[i]'h).toNat, hlt⟩
  have e2 := bits_low ⟨(s[i]'h).toNat, hlt⟩
  simp only [hb] at e1
  obtain ⟨c, hc⟩ : ∃ c, c = (s[i]'h).toNat % 64 := ⟨_, rfl⟩
  simp only [← hc] at e2
  rw [← hc]
  have hc2 : c < 64 := by omega
  clear hc hb
  go_enter Tryz.func95, Tryz.ntmps95
  go_wp2
  go_ret2
  exact ⟨rfl, rfl⟩
theorem tail_no (s : ByteArray) (i : Nat) (h : ∀ h : i < s.size, (s[i]'h).toNat / 64 ≠ 2) (w : World) :
    Calls Tryz.prog 95 #[.string s, .int .i64 i] w fun e w' => e = .returned (.tuple #[.int .i64 0, .bool false]) ∧ w = w' := by
  by_cases hi : i < s.size
  · have hlt : (s[i]'hi).toNat < 256 := UInt8.toNat_lt _
    have e1 := bits_high ⟨(s[i]'hi).toNat, hlt⟩
    have hb := h hi
    have e2 : (bits .and .u8 ((s[i]'hi).toNat : Int) 192 != 128) = true := by
      rw [e1]; simp only [bne_iff_ne, ne_eq]; omega
    clear e1 hb h
    go_enter Tryz.func95, Tryz.ntmps95
    go_wp2
    go_ret2
    exact ⟨rfl, rfl⟩
  · clear h
    go_enter Tryz.func95, Tryz.ntmps95
    go_wp2
    go_ret2
    exact ⟨rfl, rfl⟩
end Go.Proofs.YtalahkincccffaaGreatDoor
