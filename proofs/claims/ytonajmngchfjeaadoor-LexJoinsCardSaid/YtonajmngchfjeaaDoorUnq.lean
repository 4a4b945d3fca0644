/-
  Unquote's machine.
-/
import Derived.Test.YtonajmngchfjeaaDoorQuote
namespace Go.Proofs.YtonajmngchfjeaaDoor
open Go.RowKit Txt
attribute [local go_sem] setCell_drewN cell?_ext frozen?_ext shape?_ext setCell_ext lt_1' ne_1' en_1' le_1' lt_2' ne_2' en_2' le_2' lt_3' ne_3' en_3' le_3' lt_4' ne_4' en_4' le_4' lt_5' ne_5' en_5' le_5' lt_6' ne_6' en_6' le_6' lt_7' ne_7' en_7' le_7' lt_8' ne_8' en_8' le_8' lt_9' ne_9' en_9' le_9' lt_10' ne_10' en_10' le_10' lt_11' ne_11' en_11' le_11' lt_12' ne_12' en_12' le_12'

def kOf (a : Act) : Nat := match a.tmps.getD 6 undef with | .int _ q => q.toNat | _ => 0
/-- how far a machine over a text of n bytes is from its end -/
def far (n l : Nat) (a : Act) : Nat := if l = 0 then 0 else if l = 2 then 1 else 2 * (n - kOf a) + 2
/-- what holds at each of the machine's labels -/
def JU (s : ByteArray) (X : Option (List UInt8)) (B : Nat) (w : World) (l : Nat) (a' : Act) (wr : World) : Prop :=
  ∃ (v : Value) (k : Nat) (acc : List UInt8) (u1 u5 u7 u8 u9 u10 u11 u12 u13 u14 u15 u16 u17 u18 u19 u20 u21 u22 u23 u24 u25 u26 u27 u28 u29 u30 u31 u32 u33 u34 u35 u36 u37 u38 u39 u40 u41 u42 u43 u44 u45 u46 u47 u48 u49 u50 u51 u52 u53 u54 u55 u56 u57 u58 u59 : Value), a' = { tmps := #[.string s, u1, .string { data := #[] }, .int .i64 0, v, u5, .int .i64 (k : Int), u7, u8, u9, u10, u11, u12, u13, u14, u15, u16, u17, u18, u19, u20, u21, u22, u23, u24, u25, u26, u27, u28, u29, u30, u31, u32, u33, u34, u35, u36, u37, u38, u39, u40, u41, u42, u43, u44, u45, u46, u47, u48, u49, u50, u51, u52, u53, u54, u55, u56, u57, u58, u59], defers := [] } ∧ (l ≠ 0 → k ≤ s.size) ∧ acc.length ≤ k ∧ Hid (Buf B v acc w wr) ∧ Hid (St s X l k acc)
set_option maxRecDepth 100000 in
set_option maxHeartbeats 8000000 in
theorem unquote_machine (s : ByteArray) (hs : s.size ≤ 140737488351232) (X : Option (List UInt8)) (hX : X = if h : 2 ≤ s.size then if s[0] = 34 then unq false (s.data.toList.drop 1) [] else none else none) (w : World) :
    Calls Tryd.prog 34 #[.string s] w fun e w' => e = .returned (ansX X) ∧ Below w.heap.size w w' := by
  obtain ⟨i0, hi, hz0, hz1, hz2⟩ := info_parts infoByte
  obtain ⟨B, hB⟩ : ∃ B, B = w.heap.size := ⟨_, rfl⟩
  have HB := Lib.hid hB
  have HX := Lib.hid hX
  clear hB hX
  go_enter Tryd.func34, Tryd.ntmps34
  go_wp2
  refine wp_labels2 (JU s X B w) (fun l a' _ => far s.size l a') ?_ ?_
  · rintro l a' wr ⟨v, k, acc, u1, u5, u7, u8, u9, u10, u11, u12, u13, u14, u15, u16, u17, u18, u19, u20, u21, u22, u23, u24, u25, u26, u27, u28, u29, u30, u31, u32, u33, u34, u35, u36, u37, u38, u39, u40, u41, u42, u43, u44, u45, u46, u47, u48, u49, u50, u51, u52, u53, u54, u55, u56, u57, u58, u59, rfl, hk, hl, hb0, hst⟩
    have hb := hb0.out
    rcases hst.out with ⟨rfl, h⟩ | ⟨rfl, h⟩ | ⟨rfl, h⟩ | ⟨rfl, h⟩
    · refine ⟨_, rfl, ?_⟩
      go_wp2
      go_ret2
      exact ⟨by rw [h]; rfl, by have := hb.2.1; rw [HB.out] at this; exact this⟩
    · refine ⟨_, rfl, ?_⟩
      have hk := hk (by decide)
      clear hst
      by_cases hlt : k < s.size
      · have hlti : (k : Int) < s.size := by omega
        have hnei : ((k : Int) == (s.size : Int)) = false := by simp; omega
        have HS := Lib.hid (sign_any s[k])
        by_cases h34 : s[k] = 34
        · have H2 := Lib.hid (st1_quote h hlt h34)
          rw [h34] at HS
          have e34 : ((s[k].toNat : Nat) : Int) = 34 := by rw [h34]; rfl
          clear h HS
          go_wp2
          go_step3
          go_wp2
          refine ⟨⟨_, k + 1, acc, _, _, _, _, _, _, _, _, _, _, _, _, _, _, _, _, _, _, _, _, _, _, _, _, _, _, _, _, _, _, _, _, _, _, _, _, _, _, _, _, _, _, _, _, _, _, _, _, _, _, _, _, _, _, _, rfl, by omega, by omega, Lib.hid (hb0.out), Lib.hid (H2.out)⟩, ?_⟩
          simp [far, kOf]
        by_cases h92 : s[k] = 92
        · have H2 := Lib.hid (st1_back h hlt h92)
          have e34 : ((s[k].toNat : Nat) : Int) = 92 := by rw [h92]; rfl
          clear h HS
          go_wp2
          go_step3
          go_wp2
          refine ⟨⟨_, k + 1, acc, _, _, _, _, _, _, _, _, _, _, _, _, _, _, _, _, _, _, _, _, _, _, _, _, _, _, _, _, _, _, _, _, _, _, _, _, _, _, _, _, _, _, _, _, _, _, _, _, _, _, _, _, _, _, _, rfl, by omega, by omega, Lib.hid (hb0.out), Lib.hid (H2.out)⟩, ?_⟩
          simp [far, kOf]
          omega
        have g1 : ((s[k].toNat : Int) == 34) = false := u8_ne h34
        have g2 : ((s[k].toNat : Int) == 92) = false := u8_ne h92
        by_cases hsg : sgn s[k] = 0
        · have H2 := Lib.hid (st1_take h hlt hsg)
          have HS2 := HS
          rw [hsg] at HS2
          clear h HS hsg h34 h92
          go_wp2_with (first | (go_at_call 49; ((with_reducible refine (HS2.out _).mono ?_); rintro e w' ⟨rfl, rfl⟩)) | (at_builtin; refine Lib.wpList_append_byte rfl _ _ 64 rfl B 5 i0 Tryd.underlying64 hi hz0 hz1 hz2 _ _ _ rfl w _ _ (by assumption) rfl (by omega) ?_; intro _ _ hb))
          go_step3
          go_wp2
          refine ⟨⟨_, k + 1, (acc ++ [s[k]]), _, _, _, _, _, _, _, _, _, _, _, _, _, _, _, _, _, _, _, _, _, _, _, _, _, _, _, _, _, _, _, _, _, _, _, _, _, _, _, _, _, _, _, _, _, _, _, _, _, _, _, _, _, _, _, rfl, by omega, by rw [List.length_append]; simp only [List.length_cons, List.length_nil]; omega, Lib.hid (Buf.congr hb (by rw [List.length_append]; rfl) (by rw [bytes_snoc])), Lib.hid (H2.out)⟩, ?_⟩
          simp [far, kOf]
          omega
        · have H2 := Lib.hid (st1_wrong h hlt h34 h92 hsg)
          obtain ⟨z, hz⟩ : ∃ z : Nat, z = (sgn s[k]).toNat := ⟨_, rfl⟩
          have hzz : ((z : Int) == 0) = false := by rw [hz]; exact u8_ne (k := 0) hsg
          have HS2 := HS
          rw [← hz] at HS2
          clear h HS hsg h34 h92 hz
          go_wp2_with (first | (go_at_call 49; ((with_reducible refine (HS2.out _).mono ?_); rintro e w' ⟨rfl, rfl⟩)) | (at_builtin; refine Lib.wpList_append_byte rfl _ _ 64 rfl B 5 i0 Tryd.underlying64 hi hz0 hz1 hz2 _ _ _ rfl w _ _ (by assumption) rfl (by omega) ?_; intro _ _ hb))
          go_step3
          go_wp2
          refine ⟨⟨_, (k + 1), acc, _, _, _, _, _, _, _, _, _, _, _, _, _, _, _, _, _, _, _, _, _, _, _, _, _, _, _, _, _, _, _, _, _, _, _, _, _, _, _, _, _, _, _, _, _, _, _, _, _, _, _, _, _, _, _, rfl, by omega, by omega, Lib.hid (hb0.out), Lib.hid (H2.out _ _)⟩, ?_⟩
          simp [far, kOf]
      · obtain rfl : k = s.size := by omega
        have H2 := Lib.hid (st1_end h)
        clear h
        go_wp2
        go_step3
        go_wp2
        refine ⟨⟨_, s.size, acc, _, _, _, _, _, _, _, _, _, _, _, _, _, _, _, _, _, _, _, _, _, _, _, _, _, _, _, _, _, _, _, _, _, _, _, _, _, _, _, _, _, _, _, _, _, _, _, _, _, _, _, _, _, _, _, rfl, by omega, by omega, Lib.hid (hb0.out), Lib.hid (H2.out _ _)⟩, ?_⟩
        simp [far, kOf]
    · refine ⟨_, rfl, ?_⟩
      have hk := hk (by decide)
      clear hst
      by_cases hlt : k = s.size
      · subst hlt
        rw [if_pos rfl] at h
        have hcv := hb.conv
        have HXX := Lib.hid h
        clear h
        go_wp2
        go_ret2
        exact ⟨by rw [HXX.out]; rfl, by have := hb.2.1; rw [HB.out] at this; exact this⟩
      · have hnei : ((k : Int) == (s.size : Int)) = false := by simp; omega
        rw [if_neg hlt] at h
        have HXX := Lib.hid h
        clear h
        go_wp2
        go_step3
        go_wp2
        go_ret2
        exact ⟨by rw [HXX.out]; rfl, by have := hb.2.1; rw [HB.out] at this; exact this⟩
    · refine ⟨_, rfl, ?_⟩
      have hk := hk (by decide)
      clear hst
      by_cases hlt : k < s.size
      · have hlti : (k : Int) < s.size := by omega
        have hnei : ((k : Int) == (s.size : Int)) = false := by simp; omega
        have HS := Lib.hid (meaning_any s[k])
        by_cases hsg : mng s[k] = 0
        · have H2 := Lib.hid (st3_wrong h hlt hsg)
          have HS2 := HS
          rw [hsg] at HS2
          clear h HS hsg
          go_wp2_with (first | (go_at_call 50; ((with_reducible refine (HS2.out _).mono ?_); rintro e w' ⟨rfl, rfl⟩)) | (at_builtin; refine Lib.wpList_append_byte rfl _ _ 64 rfl B 5 i0 Tryd.underlying64 hi hz0 hz1 hz2 _ _ _ rfl w _ _ (by assumption) rfl (by omega) ?_; intro _ _ hb))
          go_step3
          go_wp2
          refine ⟨⟨_, (k + 1), acc, _, _, _, _, _, _, _, _, _, _, _, _, _, _, _, _, _, _, _, _, _, _, _, _, _, _, _, _, _, _, _, _, _, _, _, _, _, _, _, _, _, _, _, _, _, _, _, _, _, _, _, _, _, _, _, rfl, by omega, by omega, Lib.hid (hb0.out), Lib.hid (H2.out _ _)⟩, ?_⟩
          simp [far, kOf]
        · have H2 := Lib.hid (st3_take h hlt hsg)
          obtain ⟨z, hz⟩ : ∃ z, z = mng s[k] := ⟨_, rfl⟩
          rw [← hz] at hsg H2
          have hzz : ((z.toNat : Int) == 0) = false := u8_ne (k := 0) hsg
          have HS2 := HS
          rw [← hz] at HS2
          clear h HS hsg hz
          go_wp2_with (first | (go_at_call 50; ((with_reducible refine (HS2.out _).mono ?_); rintro e w' ⟨rfl, rfl⟩)) | (at_builtin; refine Lib.wpList_append_byte rfl _ _ 64 rfl B 5 i0 Tryd.underlying64 hi hz0 hz1 hz2 _ _ _ rfl w _ _ (by assumption) rfl (by omega) ?_; intro _ _ hb))
          go_step3
          go_wp2
          refine ⟨⟨_, k + 1, (acc ++ [z]), _, _, _, _, _, _, _, _, _, _, _, _, _, _, _, _, _, _, _, _, _, _, _, _, _, _, _, _, _, _, _, _, _, _, _, _, _, _, _, _, _, _, _, _, _, _, _, _, _, _, _, _, _, _, _, rfl, by omega, by rw [List.length_append]; simp only [List.length_cons, List.length_nil]; omega, Lib.hid (Buf.congr hb (by rw [List.length_append]; rfl) (by rw [bytes_snoc])), Lib.hid (H2.out)⟩, ?_⟩
          simp [far, kOf]
          omega
      · obtain rfl : k = s.size := by omega
        have H2 := Lib.hid (st1_end h)
        clear h
        go_wp2
        go_step3
        go_wp2
        refine ⟨⟨_, s.size, acc, _, _, _, _, _, _, _, _, _, _, _, _, _, _, _, _, _, _, _, _, _, _, _, _, _, _, _, _, _, _, _, _, _, _, _, _, _, _, _, _, _, _, _, _, _, _, _, _, _, _, _, _, _, _, _, rfl, by omega, by omega, Lib.hid (hb0.out), Lib.hid (H2.out _ _)⟩, ?_⟩
        simp [far, kOf]
  · intro hp
    by_cases h2 : 2 ≤ s.size
    · have h2i : (2 : Int) ≤ s.size := by omega
      have h20 : 0 < s.size := by omega
      have h21 : 1 ≤ s.size := by omega
      by_cases h34 : s[0] = 34
      · have e34 : ((s[0].toNat : Nat) : Int) = 34 := by rw [h34]; rfl
        have hX := HX.out
        rw [dif_pos h2, if_pos h34] at hX
        have H2 := Lib.hid (show St s X 1 1 [] from .inr (.inl ⟨rfl, hX⟩))
        clear hX HX
        go_wp2
        go_step3
        simp only [Exit.then]
        rename_i ha
        refine ha _ _ ?_
        refine hp 1 _ _ ?_ _ rfl
        exact ⟨_, 1, [], _, _, _, _, _, _, _, _, _, _, _, _, _, _, _, _, _, _, _, _, _, _, _, _, _, _, _, _, _, _, _, _, _, _, _, _, _, _, _, _, _, _, _, _, _, _, _, _, _, _, _, _, _, _, _, rfl, by omega, Nat.zero_le _, Lib.hid (by rw [HB.out]; exact Buf.nil w (by (repeat' (first | (with_reducible exact Below.refl _ _) | (with_reducible assumption) | (with_reducible refine Below.alloc ?_ ?_ _) | (with_reducible refine below_drewN ?_ _) | (with_reducible refine below_drew ?_) | (with_reducible refine below_ext ?_ ?_ _ _) | (with_reducible refine Below.setCell ?_ ?_ _) | (simp; done) | (simp; omega) | omega)))), H2⟩
      · have g1 : ((s[0].toNat : Int) == 34) = false := u8_ne h34
        have g3 : ((s[0].toNat : Int) != 34) = true := by rw [bne, g1]; rfl
        have g4 : ¬ ((s[0].toNat : Int) = 34) := by simpa using g1
        have hX := HX.out
        rw [dif_pos h2, if_neg h34] at hX
        have H2 := Lib.hid (show St s X 0 1 [] from .inl ⟨rfl, hX⟩)
        clear hX HX h34
        go_wp2
        go_step3
        go_wp2
        exact ⟨_, 1, [], _, _, _, _, _, _, _, _, _, _, _, _, _, _, _, _, _, _, _, _, _, _, _, _, _, _, _, _, _, _, _, _, _, _, _, _, _, _, _, _, _, _, _, _, _, _, _, _, _, _, _, _, _, _, _, rfl, by omega, Nat.zero_le _, Lib.hid (by rw [HB.out]; exact Buf.nil w (by (repeat' (first | (with_reducible exact Below.refl _ _) | (with_reducible assumption) | (with_reducible refine Below.alloc ?_ ?_ _) | (with_reducible refine below_drewN ?_ _) | (with_reducible refine below_drew ?_) | (with_reducible refine below_ext ?_ ?_ _ _) | (with_reducible refine Below.setCell ?_ ?_ _) | (simp; done) | (simp; omega) | omega)))), H2⟩
    · have hX := HX.out
      rw [dif_neg h2] at hX
      have h2i : (s.size : Int) < 2 := by omega
      have H2 := Lib.hid (show St s X 0 1 [] from .inl ⟨rfl, hX⟩)
      clear hX HX h2
      go_wp2
      go_step3
      go_wp2
      exact ⟨_, 1, [], _, _, _, _, _, _, _, _, _, _, _, _, _, _, _, _, _, _, _, _, _, _, _, _, _, _, _, _, _, _, _, _, _, _, _, _, _, _, _, _, _, _, _, _, _, _, _, _, _, _, _, _, _, _, _, rfl, by omega, Nat.zero_le _, Lib.hid (by rw [HB.out]; exact Buf.nil w (by (repeat' (first | (with_reducible exact Below.refl _ _) | (with_reducible assumption) | (with_reducible refine Below.alloc ?_ ?_ _) | (with_reducible refine below_drewN ?_ _) | (with_reducible refine below_drew ?_) | (with_reducible refine below_ext ?_ ?_ _ _) | (with_reducible refine Below.setCell ?_ ?_ _) | (simp; done) | (simp; omega) | omega)))), H2⟩
end Go.Proofs.YtonajmngchfjeaaDoor
