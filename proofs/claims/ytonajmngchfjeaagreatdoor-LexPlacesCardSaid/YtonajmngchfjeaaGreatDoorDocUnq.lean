/-
  The document's reader of quotes.
-/
import Derived.Test.YtonajmngchfjeaaGreatDoorQuotes
namespace Go.Proofs.YtonajmngchfjeaaGreatDoor
open Go.RowKit Txt
attribute [local go_sem] setCell_drewN cell?_ext frozen?_ext shape?_ext setCell_ext lt_1' ne_1' en_1' le_1' lt_2' ne_2' en_2' le_2' lt_3' ne_3' en_3' le_3' lt_4' ne_4' en_4' le_4' lt_5' ne_5' en_5' le_5' lt_6' ne_6' en_6' le_6' lt_7' ne_7' en_7' le_7' lt_8' ne_8' en_8' le_8' lt_9' ne_9' en_9' le_9' lt_10' ne_10' en_10' le_10' lt_11' ne_11' en_11' le_11' lt_12' ne_12' en_12' le_12'

theorem drop_last (s : ByteArray) (q : Nat) (hq : s.size = q + 1) (h : 1 ≤ q) : s.data.toList.drop 1 = (s.extract 1 q).data.toList ++ [s[q]'(by omega)] := by
  have hl : s.data.toList.length = q + 1 := by simpa using hq
  have e : s.data.toList = s.data.toList.take q ++ [s[q]'(by omega)] := by
    have := take_snoc s q (by omega)
    rw [← this, List.take_of_length_le (by omega)]
  rw [ext_data]
  conv => lhs; rw [e]
  rw [List.drop_append_of_le_length (by rw [List.length_take]; omega)]
theorem ret_str (w : World) : Below w.heap.size w w := Below.refl _ _
set_option maxRecDepth 100000 in
set_option maxHeartbeats 16000000 in
theorem docunq_text (s : ByteArray) (hs : s.size ≤ 1048576) (ht : isText s = true) (w : World) :
    Calls Tryz.prog 41 #[.string s] w fun e w' => e = .returned (ansX (unX s)) ∧ Below w.heap.size w w' := by
  have hV := rvalid_any s hs w
  rw [ht] at hV
  have HV := Lib.hid hV
  obtain ⟨i0, hi, hz0, hz1, hz2⟩ := info_parts infoByte
  obtain ⟨B, hB⟩ : ∃ B, B = w.heap.size := ⟨_, rfl⟩
  have HB := Lib.hid hB
  clear hV ht hB
  by_cases h2 : 2 ≤ s.size
  · have h2i : (2 : Int) ≤ s.size := by omega
    have h0 : 0 < s.size := by omega
    obtain ⟨q, hq⟩ : ∃ q, s.size = q + 1 := ⟨s.size - 1, by omega⟩
    have hq1 : q < s.size := by omega
    have W1 : wrap64 ((s.size : Int) - 1) = (q : Int) := by unfold wrap64; omega
    by_cases h34 : s[0] = 34
    · have e34 : ((s[0].toNat : Nat) : Int) = 34 := by rw [h34]; rfl
      obtain ⟨X, hX⟩ : ∃ X, X = unX s := ⟨_, rfl⟩
      have hX1 : X = unq false ((s.extract 1 q).data.toList ++ [s[q]]) [] := by rw [hX, unX, dif_pos h2, if_pos h34, drop_last s q hq (by omega)]
      rw [← hX]
      clear hX
      by_cases hl34 : s[q] = 34
      · have e35 : ((s[q].toNat : Nat) : Int) = 34 := by rw [hl34]; rfl
        rw [hl34, unq_quote] at hX1
        have ksl := slice_mid s 1 q (by omega) (by omega)
        obtain ⟨t, htt⟩ : ∃ t, t = s.extract 1 q := ⟨_, rfl⟩
        have htl : t.size ≤ 1048576 := by rw [htt]; simp; omega
        rw [← htt] at ksl hX1
        have HX0 := Lib.hid hX1
        have HTT := Lib.hid htt
        clear hX1 htt h34 hl34
        go_enter Tryz.func41, Tryz.ntmps41
        go_wp2_with (go_at_call 11; ((with_reducible refine (HV.out).mono ?_); rintro e w1 ⟨rfl, hb1⟩; obtain ⟨osA, dA, rfl⟩ := ext_of_below hb1; clear hb1))
        rw [← HTT.out]
        clear hq W1 e34 e35 h2i h0 hq1 h2 ksl
        go_loopw [4, 5] (fun v i wr => ∃ (k : Nat) (acc : List UInt8), k ≤ t.size ∧ acc.length ≤ k ∧ i = .int .i64 k ∧ Hid (Buf B v acc w wr) ∧ Hid (X = rqu false (t.data.toList.drop k) acc)) (fun _ i _ => t.size - (intOf i).toNat)
        case atStart => exact ⟨0, [], Nat.zero_le _, Nat.zero_le _, rfl, Lib.hid (by rw [HB.out]; exact Buf.nil w (by (repeat' (first | (with_reducible exact Below.refl _ _) | (with_reducible assumption) | (with_reducible refine Below.alloc ?_ ?_ _) | (with_reducible refine below_drewN ?_ _) | (with_reducible refine below_drew ?_) | (with_reducible refine below_ext ?_ ?_ _ _) | (with_reducible refine Below.setCell ?_ ?_ _) | (simp; done) | (simp; omega) | omega)))), Lib.hid (by rw [List.drop_zero]; exact HX0.out)⟩
        case round =>
          obtain ⟨k, acc, hk, hl, rfl, hb0, HX⟩ := hrel
          have hb := hb0.out
          by_cases hlt : k < t.size
          · have hlti : (k : Int) < t.size := by omega
            rcases five t[k] 34 92 10 13 9 with hc | hc | hc | hc | hc | ⟨h1, h2, h3, h4, h5⟩
            · have HN := Lib.hid (show X = none by rw [HX.out, drop_at t k hlt, rqu, hc]; rfl)
              have e34 : ((t[k].toNat : Nat) : Int) = 34 := by rw [hc]; rfl
              clear hc
              go_wp2
              go_ret2
              exact ⟨by rw [HN.out]; rfl, by have := hb.2.1; rw [HB.out] at this; exact this⟩
            · have HX2 := Lib.hid (show X = rqu true (t.data.toList.drop (k + 1)) acc by rw [HX.out, drop_at t k hlt, rqu, if_pos hc])
              have e34 : ((t[k].toNat : Nat) : Int) = 92 := by rw [hc]; rfl
              clear hc
              by_cases hl2 : k + 1 < t.size
              · have hl2i : (k : Int) + 1 < t.size := by omega
                rcases five t[k + 1] 34 92 110 114 116 with hd | hd | hd | hd | hd | ⟨h1, h2, h3, h4, h5⟩
                · have HN := Lib.hid (show X = rqu false (t.data.toList.drop (k + 1 + 1)) (acc ++ [34]) by rw [HX2.out, drop_at t (k + 1) hl2, rqu, hd]; rfl)
                  have e35 : ((t[k + 1].toNat : Nat) : Int) = 34 := by rw [hd]; rfl
                  clear hd
                  go_wp2_with (at_builtin; refine Lib.wpList_append_byte rfl _ _ 76 rfl B 5 i0 Tryz.underlying76 hi hz0 hz1 hz2 _ _ _ rfl w _ _ (by assumption) rfl (by omega) ?_; intro _ _ hb)
                  go_roundw
                  case rel => exact ⟨k + 1 + 1, acc ++ [34], by omega, by rw [List.length_append]; simp only [List.length_cons, List.length_nil]; omega, by go_num, Lib.hid (Buf.congr hb (by rw [List.length_append]; rfl) (bytes_snoc acc 34)), HN⟩
                  case measure => simp [intOf]; omega
                · have HN := Lib.hid (show X = rqu false (t.data.toList.drop (k + 1 + 1)) (acc ++ [92]) by rw [HX2.out, drop_at t (k + 1) hl2, rqu, hd]; rfl)
                  have e35 : ((t[k + 1].toNat : Nat) : Int) = 92 := by rw [hd]; rfl
                  clear hd
                  go_wp2_with (at_builtin; refine Lib.wpList_append_byte rfl _ _ 76 rfl B 5 i0 Tryz.underlying76 hi hz0 hz1 hz2 _ _ _ rfl w _ _ (by assumption) rfl (by omega) ?_; intro _ _ hb)
                  go_roundw
                  case rel => exact ⟨k + 1 + 1, acc ++ [92], by omega, by rw [List.length_append]; simp only [List.length_cons, List.length_nil]; omega, by go_num, Lib.hid (Buf.congr hb (by rw [List.length_append]; rfl) (bytes_snoc acc 92)), HN⟩
                  case measure => simp [intOf]; omega
                · have HN := Lib.hid (show X = rqu false (t.data.toList.drop (k + 1 + 1)) (acc ++ [10]) by rw [HX2.out, drop_at t (k + 1) hl2, rqu, hd]; rfl)
                  have e35 : ((t[k + 1].toNat : Nat) : Int) = 110 := by rw [hd]; rfl
                  clear hd
                  go_wp2_with (at_builtin; refine Lib.wpList_append_byte rfl _ _ 76 rfl B 5 i0 Tryz.underlying76 hi hz0 hz1 hz2 _ _ _ rfl w _ _ (by assumption) rfl (by omega) ?_; intro _ _ hb)
                  go_roundw
                  case rel => exact ⟨k + 1 + 1, acc ++ [10], by omega, by rw [List.length_append]; simp only [List.length_cons, List.length_nil]; omega, by go_num, Lib.hid (Buf.congr hb (by rw [List.length_append]; rfl) (bytes_snoc acc 10)), HN⟩
                  case measure => simp [intOf]; omega
                · have HN := Lib.hid (show X = rqu false (t.data.toList.drop (k + 1 + 1)) (acc ++ [13]) by rw [HX2.out, drop_at t (k + 1) hl2, rqu, hd]; rfl)
                  have e35 : ((t[k + 1].toNat : Nat) : Int) = 114 := by rw [hd]; rfl
                  clear hd
                  go_wp2_with (at_builtin; refine Lib.wpList_append_byte rfl _ _ 76 rfl B 5 i0 Tryz.underlying76 hi hz0 hz1 hz2 _ _ _ rfl w _ _ (by assumption) rfl (by omega) ?_; intro _ _ hb)
                  go_roundw
                  case rel => exact ⟨k + 1 + 1, acc ++ [13], by omega, by rw [List.length_append]; simp only [List.length_cons, List.length_nil]; omega, by go_num, Lib.hid (Buf.congr hb (by rw [List.length_append]; rfl) (bytes_snoc acc 13)), HN⟩
                  case measure => simp [intOf]; omega
                · have HN := Lib.hid (show X = rqu false (t.data.toList.drop (k + 1 + 1)) (acc ++ [9]) by rw [HX2.out, drop_at t (k + 1) hl2, rqu, hd]; rfl)
                  have e35 : ((t[k + 1].toNat : Nat) : Int) = 116 := by rw [hd]; rfl
                  clear hd
                  go_wp2_with (at_builtin; refine Lib.wpList_append_byte rfl _ _ 76 rfl B 5 i0 Tryz.underlying76 hi hz0 hz1 hz2 _ _ _ rfl w _ _ (by assumption) rfl (by omega) ?_; intro _ _ hb)
                  go_roundw
                  case rel => exact ⟨k + 1 + 1, acc ++ [9], by omega, by rw [List.length_append]; simp only [List.length_cons, List.length_nil]; omega, by go_num, Lib.hid (Buf.congr hb (by rw [List.length_append]; rfl) (bytes_snoc acc 9)), HN⟩
                  case measure => simp [intOf]; omega
                · have HN := Lib.hid (show X = none by rw [HX2.out, drop_at t (k + 1) hl2, rqu, if_pos (mng_no h1 h2 h3 h4 h5)])
                  have g1 : ((t[k + 1].toNat : Int) == 34) = false := u8_ne h1
                  have g2 : ((t[k + 1].toNat : Int) == 92) = false := u8_ne h2
                  have g3 : ((t[k + 1].toNat : Int) == 110) = false := u8_ne h3
                  have g4 : ((t[k + 1].toNat : Int) == 114) = false := u8_ne h4
                  have g5 : ((t[k + 1].toNat : Int) == 116) = false := u8_ne h5
                  clear h1 h2 h3 h4 h5
                  go_wp2
                  go_ret2
                  exact ⟨by rw [HN.out]; rfl, by have := hb.2.1; rw [HB.out] at this; exact this⟩
              · have hl2i : (t.size : Int) ≤ (k : Int) + 1 := by omega
                have HN := Lib.hid (show X = none by rw [HX2.out, (drop_nil t (k + 1)).2 (by omega)]; rfl)
                go_wp2
                go_ret2
                exact ⟨by rw [HN.out]; rfl, by have := hb.2.1; rw [HB.out] at this; exact this⟩
            · have HN := Lib.hid (show X = none by rw [HX.out, drop_at t k hlt, rqu, hc]; rfl)
              have e34 : ((t[k].toNat : Nat) : Int) = 10 := by rw [hc]; rfl
              clear hc
              go_wp2
              go_ret2
              exact ⟨by rw [HN.out]; rfl, by have := hb.2.1; rw [HB.out] at this; exact this⟩
            · have HN := Lib.hid (show X = none by rw [HX.out, drop_at t k hlt, rqu, hc]; rfl)
              have e34 : ((t[k].toNat : Nat) : Int) = 13 := by rw [hc]; rfl
              clear hc
              go_wp2
              go_ret2
              exact ⟨by rw [HN.out]; rfl, by have := hb.2.1; rw [HB.out] at this; exact this⟩
            · have HN := Lib.hid (show X = none by rw [HX.out, drop_at t k hlt, rqu, hc]; rfl)
              have e34 : ((t[k].toNat : Nat) : Int) = 9 := by rw [hc]; rfl
              clear hc
              go_wp2
              go_ret2
              exact ⟨by rw [HN.out]; rfl, by have := hb.2.1; rw [HB.out] at this; exact this⟩
            · have HN := Lib.hid (show X = rqu false (t.data.toList.drop (k + 1)) (acc ++ [t[k]]) by rw [HX.out, drop_at t k hlt, rqu, if_neg h2, if_pos (sgn_no h1 h2 h3 h4 h5)])
              have g1 : ((t[k].toNat : Int) == 34) = false := u8_ne h1
              have g2 : ((t[k].toNat : Int) == 92) = false := u8_ne h2
              have g3 : ((t[k].toNat : Int) == 10) = false := u8_ne h3
              have g4 : ((t[k].toNat : Int) == 13) = false := u8_ne h4
              have g5 : ((t[k].toNat : Int) == 9) = false := u8_ne h5
              clear h1 h2 h3 h4 h5
              go_wp2_with (at_builtin; refine Lib.wpList_append_byte rfl _ _ 76 rfl B 5 i0 Tryz.underlying76 hi hz0 hz1 hz2 _ _ _ rfl w _ _ (by assumption) rfl (by omega) ?_; intro _ _ hb)
              go_roundw
              case rel => exact ⟨k + 1, acc ++ [t[k]], by omega, by rw [List.length_append]; simp only [List.length_cons, List.length_nil]; omega, by go_num, Lib.hid (Buf.congr hb (by rw [List.length_append]; rfl) (bytes_snoc _ _)), HN⟩
              case measure => simp [intOf]; omega
          · obtain rfl : k = t.size := by omega
            have HN := Lib.hid (show X = some acc by rw [HX.out, drop_end]; rfl)
            have hcv := hb.conv
            go_wp2
            go_ret2
            exact ⟨by rw [HN.out]; rfl, by have := hb.2.1; rw [HB.out] at this; exact this⟩
      · have g35 : ((s[q].toNat : Int) == 34) = false := u8_ne hl34
        have g36 : ((s[q].toNat : Int) != 34) = true := by rw [bne, g35]; rfl
        have g37 : ¬ ((s[q].toNat : Int) = 34) := by simpa using g35
        rw [unq_other _ hl34] at hX1
        have HX0 := Lib.hid hX1
        clear hX1 h34 hl34
        go_enter Tryz.func41, Tryz.ntmps41
        go_wp2_with (go_at_call 11; ((with_reducible refine (HV.out).mono ?_); rintro e w1 ⟨rfl, hb1⟩; obtain ⟨osA, dA, rfl⟩ := ext_of_below hb1; clear hb1))
        go_ret2
        exact ⟨by rw [HX0.out]; rfl, by (repeat' (first | (with_reducible exact Below.refl _ _) | (with_reducible assumption) | (with_reducible refine Below.alloc ?_ ?_ _) | (with_reducible refine below_drewN ?_ _) | (with_reducible refine below_drew ?_) | (with_reducible refine below_ext ?_ ?_ _ _) | (with_reducible refine Below.setCell ?_ ?_ _) | (simp; done) | (simp; omega) | omega))⟩
    · have g35 : ((s[0].toNat : Int) == 34) = false := u8_ne h34
      have g36 : ((s[0].toNat : Int) != 34) = true := by rw [bne, g35]; rfl
      have g37 : ¬ ((s[0].toNat : Int) = 34) := by simpa using g35
      have HX0 := Lib.hid (show unX s = none by rw [unX, dif_pos h2, if_neg h34])
      clear h34
      go_enter Tryz.func41, Tryz.ntmps41
      go_wp2_with (go_at_call 11; ((with_reducible refine (HV.out).mono ?_); rintro e w1 ⟨rfl, hb1⟩; obtain ⟨osA, dA, rfl⟩ := ext_of_below hb1; clear hb1))
      go_ret2
      exact ⟨by rw [HX0.out]; rfl, by (repeat' (first | (with_reducible exact Below.refl _ _) | (with_reducible assumption) | (with_reducible refine Below.alloc ?_ ?_ _) | (with_reducible refine below_drewN ?_ _) | (with_reducible refine below_drew ?_) | (with_reducible refine below_ext ?_ ?_ _ _) | (with_reducible refine Below.setCell ?_ ?_ _) | (simp; done) | (simp; omega) | omega))⟩
  · have h2i : (s.size : Int) < 2 := by omega
    have HX0 := Lib.hid (show unX s = none by rw [unX, dif_neg h2])
    clear h2
    go_enter Tryz.func41, Tryz.ntmps41
    go_wp2_with (go_at_call 11; ((with_reducible refine (HV.out).mono ?_); rintro e w1 ⟨rfl, hb1⟩; obtain ⟨osA, dA, rfl⟩ := ext_of_below hb1; clear hb1))
    go_ret2
    exact ⟨by rw [HX0.out]; rfl, by (repeat' (first | (with_reducible exact Below.refl _ _) | (with_reducible assumption) | (with_reducible refine Below.alloc ?_ ?_ _) | (with_reducible refine below_drewN ?_ _) | (with_reducible refine below_drew ?_) | (with_reducible refine below_ext ?_ ?_ _ _) | (with_reducible refine Below.setCell ?_ ?_ _) | (simp; done) | (simp; omega) | omega))⟩
end Go.Proofs.YtonajmngchfjeaaGreatDoor
