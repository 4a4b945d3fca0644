/-
  wide.Text: a number's numeral.
-/
import Derived.Test.YtnaajhhdpcdakaaDoorTxtM
import Derived.Test.YtnaajhhdpcdakaaDoorFmt
import Derived.Test.YtnaajhhdpcdakaaDoorDigits
import Derived.WalkSmall
namespace Go.Proofs.YtnaajhhdpcdakaaDoor
open Go.RowKit Num Word
open Lib (decDigits)
attribute [local go_sem] setCell_drewN cell?_ext frozen?_ext shape?_ext setCell_ext lt_1' ne_1' en_1' le_1' lt_2' ne_2' en_2' le_2' lt_3' ne_3' en_3' le_3' lt_4' ne_4' en_4' le_4' lt_5' ne_5' en_5' le_5' lt_6' ne_6' en_6' le_6' lt_7' ne_7' en_7' le_7' lt_8' ne_8' en_8' le_8' lt_9' ne_9' en_9' le_9' lt_10' ne_10' en_10' le_10' lt_11' ne_11' en_11' le_11' lt_12' ne_12' en_12' le_12'

theorem gPowT : Tryd.prog.globalNamed "internal/strconv.uint64pow10" = some 3 := by kernel_rfl
/-- both tables lie -/
structure TenPow (w : World) : Prop where
  tens : Tens w
  pow : PowT w
  in1 : 3 < w.heap.size
theorem TenPow.below {w w' : World} (h : TenPow w) (hb : Below w.heap.size w w') : TenPow w' :=
  ⟨h.tens.below hb, var?_below hb gPowT h.in1 h.pow, by have := hb.size; have := h.in1; omega⟩
theorem repT_any (c : Int) (h0 : 0 ≤ c) (h : c ≤ 1000) (w : World) :
    Calls Tryd.prog 20 #[.string { data := #[48] }, .int .i64 c] w fun e w' => e = .returned (.string ⟨(Lib.repeatL [48] c.toNat).toArray⟩) ∧ Below w.heap.size w w' := by
  obtain ⟨k, rfl⟩ : ∃ k : Nat, c = k := ⟨c.toNat, by omega⟩
  exact Tryd.strings_Repeat { data := #[48] } k w (by omega) (by show 1 * k ≤ _; omega)
theorem repL (k : Nat) : Lib.repeatL [48] k = List.replicate k 48 := by
  induction k with
  | zero => rfl
  | succ k ih => rw [Lib.repeatL, ih, List.replicate_succ]; rfl
def strLen : Value → Nat | .string s => s.size | _ => 0
theorem mkP_append (a b : List UInt8) : (⟨a.toArray⟩ : ByteArray) ++ ⟨b.toArray⟩ = ⟨(a ++ b).toArray⟩ := by apply ByteArray.ext; simp
theorem str_eqP {a b : ByteArray} (h : a = b) : Ending.returned (.string a) = .returned (.string b) := by rw [h]
theorem div_word (n q r : Nat) (hq : q = n / 10000000000000000000) (hr : r = n % 10000000000000000000) (hn : n < top4) (w : World) :
    Calls Tryd.prog 17 #[L n, .int .u64 10000000000000000000] w fun e w' => e = .returned (.tuple #[L q, .int .u64 (r : Int)]) ∧ Below w.heap.size w w' := by
  subst hq
  exact divWord_any n 10000000000000000000 r hr hn (by omega) (by omega) w
theorem text_step {n q r k q' d : Nat} (hn : n = q * 10 ^ (19 * k) + r) (hr : r < 10 ^ (19 * k)) (hq : q' = q / 10000000000000000000) (hd : d = q % 10000000000000000000) :
    n = q' * 10 ^ (19 * (k + 1)) + (d * 10 ^ (19 * k) + r) ∧ d * 10 ^ (19 * k) + r < 10 ^ (19 * (k + 1)) ∧ padT (19 * (k + 1)) (d * 10 ^ (19 * k) + r) = padT 19 d ++ padT (19 * k) r := by
  have e : 10 ^ (19 * (k + 1)) = 10000000000000000000 * 10 ^ (19 * k) := by rw [Nat.mul_add, Nat.pow_add, Nat.mul_comm]
  have hq2 : q = q' * 10000000000000000000 + d := by omega
  have hd2 : d ≤ 9999999999999999999 := by omega
  refine ⟨?_, ?_, ?_⟩
  · rw [e, hn, hq2, Nat.add_mul, Nat.mul_assoc, Nat.add_assoc]
  · rw [e]
    have h1 : d * 10 ^ (19 * k) ≤ 9999999999999999999 * 10 ^ (19 * k) := Nat.mul_le_mul_right _ hd2
    generalize 10 ^ (19 * k) = y at *
    omega
  · rw [show 19 * (k + 1) = 19 + 19 * k by omega]; exact padT_app 19 d _ _ hr
theorem text_pad {d : Nat} (h : d < 10000000000000000000) : List.replicate (19 - (decDigits d).length) 48 ++ decDigits d = padT 19 d := (padT_is 18 d h).symm
theorem text_end {n q r k : Nat} (hn : n = q * 10 ^ (19 * k) + r) (hr : r < 10 ^ (19 * k)) (hq : 0 < q ∨ k = 0) : decDigits q ++ padT (19 * k) r = decDigits n := by
  rcases hq with hq | rfl
  · rw [hn, dd_split _ _ _ hq hr]
  · obtain rfl : r = 0 := by simpa using hr
    rw [hn]; simp [padT]
theorem text_few {n q r k : Nat} (hn : n = q * 10 ^ (19 * k) + r) (hl : n < top2) (hq : 18446744073709551616 ≤ q) : k ≤ 1 := by
  by_cases h : k ≤ 1
  · exact h
  · have h1 : 10 ^ (19 * 2) ≤ 10 ^ (19 * k) := Nat.pow_le_pow_right (by decide) (by omega)
    have h2 : 18446744073709551616 * 10 ^ (19 * 2) ≤ q * 10 ^ (19 * k) := Nat.mul_le_mul hq h1
    have h3 : top2 < 18446744073709551616 * 10 ^ (19 * 2) := by decide
    omega
set_option maxRecDepth 100000 in
set_option maxHeartbeats 8000000 in
theorem text_any (n : Nat) (hn : n < top2) (w : World) (hl : TenPow w) :
    Calls Tryd.prog 7 #[W n] w fun e w' => e = .returned (.string ⟨(decDigits n).toArray⟩) ∧ Below w.heap.size w w' := by
  have HT := Lib.hid (fun w' (hb : Below w.heap.size w w') => hl.below hb)
  have HG := Lib.hid (fun w' (hb : Below w.heap.size w w') => show w'.cell? ⟨0, 19, none⟩ = some (.int .u64 10000000000000000000) from (hl.below hb).tens.2 19 (by decide))
  clear hl
  go_enter Tryd.func7, Tryd.ntmps7
  go_wp2_with fail
  go_loopw [3] (fun tv wr => ∃ (q r k : Nat) (x : ByteArray), tv = .string x ∧ x.size = 19 * k ∧ q < top2 ∧ Hid (x = ⟨(padT (19 * k) r).toArray⟩) ∧ Hid (n = q * 10 ^ (19 * k) + r) ∧ Hid (r < 10 ^ (19 * k)) ∧ (0 < q ∨ k = 0) ∧ Below (w.alloc (.cells #[.int .u64 (hi q : Int), .int .u64 (lo q : Int)] 24)).heap.size (w.alloc (.cells #[.int .u64 (hi q : Int), .int .u64 (lo q : Int)] 24)) wr) (fun tv _ => 100 - strLen tv)
  case atStart => exact ⟨n, 0, 0, _, rfl, rfl, hn, Lib.hid rfl, Lib.hid (by simp), Lib.hid (by decide), .inr rfl, Below.refl _ _⟩
  case round =>
    obtain ⟨q, r, k, x, rfl, hx, hq2, hX, hN, hR, h0, hbw⟩ := hrel
    obtain ⟨osX, dX, rfl⟩ := ext_of_below hbw
    clear hbw
    by_cases hhi : hi q = 0
    · have hB : ((hi q : Int) != 0) = false := by rw [hhi]; rfl
      have hlo : lo q = q := by have := hilo q; rw [hhi] at this; omega
      have hk2 : k ≤ 2 := by
        rcases Nat.lt_or_ge 2 k with h | h
        · exfalso
          have h1 : 10 ^ (19 * 3) ≤ 10 ^ (19 * k) := Nat.pow_le_pow_right (by decide) (by omega)
          have h2 : 1 * 10 ^ (19 * 3) ≤ q * 10 ^ (19 * k) := Nat.mul_le_mul (by omega) h1
          have h3 : top2 < 1 * 10 ^ (19 * 3) := by decide
          have := hN.out
          omega
        · exact h
      have hx100 : x.size ≤ 100 := by omega
      have HF := Lib.hid (fun w1 h1 => fmt_any (lo q) (lo_lt q) w1 h1)
      obtain ⟨t, ht⟩ : ∃ t : ByteArray, t = ⟨(decDigits (lo q)).toArray⟩ := ⟨_, rfl⟩
      have ht100 : t.size ≤ 100 := by
        rw [ht]; show (decDigits (lo q)).toArray.size ≤ 100
        rw [List.size_toArray]
        have := dd_len 38 (lo q) (Nat.lt_trans (lo_lt q) (by decide))
        omega
      have HE := Lib.hid (show t ++ x = ⟨(decDigits n).toArray⟩ by
        rw [ht, hX.out, mkP_append, hlo, text_end hN.out hR.out h0])
      rw [← ht] at HF
      clear ht hlo hhi hx hX hN hR h0 hk2
      go_wp2_with (go_at_call 19; ((with_reducible refine (HF.out _ (HT.out _ (by (repeat' (first | (with_reducible exact Below.refl _ _) | (with_reducible assumption) | (with_reducible refine Below.alloc ?_ ?_ _) | (with_reducible refine below_drewN ?_ _) | (with_reducible refine below_drew ?_) | (with_reducible refine below_ext ?_ ?_ _ _) | (with_reducible refine Below.setCell ?_ ?_ _) | (simp; done) | (simp; omega) | omega)))).pow).mono ?_); rintro e w1 ⟨rfl, hb1⟩; obtain ⟨osF, dF, rfl⟩ := ext_of_below hb1; clear hb1))
      go_ret
      exact ⟨str_eqP HE.out, by (repeat' (first | (with_reducible exact Below.refl _ _) | (with_reducible assumption) | (with_reducible refine Below.alloc ?_ ?_ _) | (with_reducible refine below_drewN ?_ _) | (with_reducible refine below_drew ?_) | (with_reducible refine below_ext ?_ ?_ _ _) | (with_reducible refine Below.setCell ?_ ?_ _) | (simp; done) | (simp; omega) | omega))⟩
    · have hB : ((hi q : Int) != 0) = true := by simp; omega
      have hq64 : 18446744073709551616 ≤ q := by have := hilo q; omega
      have hk1 : k ≤ 1 := text_few hN.out hn hq64
      obtain ⟨q', hq'⟩ : ∃ q', q' = q / 10000000000000000000 := ⟨_, rfl⟩
      obtain ⟨d, hd⟩ : ∃ d, d = q % 10000000000000000000 := ⟨_, rfl⟩
      have hd19 : d < 10000000000000000000 := by omega
      have hd64 : d < 18446744073709551616 := by omega
      have hq0 : 0 < q' := by omega
      have hq2' : q' < top2 := by omega
      have hq4 : q < top4 := by unfold top2 top4 at *; omega
      obtain ⟨g1, g0⟩ := two_words (q := q') hq2'
      obtain ⟨s1, s2, s3⟩ := text_step hN.out hR.out hq' hd
      have HL := Lib.hid (long_any q hq2)
      have HD := Lib.hid (div_word q q' d hq' hd hq4)
      have HF := Lib.hid (fun w1 h1 => fmt_any d hd64 w1 h1)
      obtain ⟨t, ht⟩ : ∃ t : ByteArray, t = ⟨(decDigits d).toArray⟩ := ⟨_, rfl⟩
      have htz : t.size = (decDigits d).length := by rw [ht]; rfl
      have ht19 : t.size ≤ 19 := by rw [htz]; exact dd_len 18 d hd19
      have hrp := fun w1 => repT_any (19 - (t.size : Int)) (by omega) (by omega) w1
      rw [show (19 - (t.size : Int)).toNat = 19 - t.size by omega, repL] at hrp
      obtain ⟨p, hp⟩ : ∃ p : ByteArray, p = ⟨(List.replicate (19 - t.size) 48).toArray⟩ := ⟨_, rfl⟩
      have hpz : p.size = 19 - t.size := by rw [hp]; show (List.replicate (19 - t.size) (48 : UInt8)).toArray.size = _; simp
      rw [← hp] at hrp
      rw [← ht] at HF
      have HRP := Lib.hid hrp
      have HX := Lib.hid (show p ++ t ++ x = ⟨(padT (19 * (k + 1)) (d * 10 ^ (19 * k) + r)).toArray⟩ by
        rw [s3, ← text_pad hd19, ← htz, hX.out, hp]; rw [show t = ⟨(decDigits d).toArray⟩ from ht, mkP_append, mkP_append])
      have HZ := Lib.hid (show (p ++ t ++ x).size = 19 * (k + 1) by rw [ByteArray.size_append, ByteArray.size_append]; omega)
      have HXS := Lib.hid hx
      have HN := Lib.hid s1; have HR := Lib.hid s2; have hx100 : x.size ≤ 100 := by omega
      have hp19 : p.size ≤ 19 := by omega
      have hpt : (p ++ t).size ≤ 19 := by rw [ByteArray.size_append]; omega
      clear s1 s2 s3 ht htz hp hpz hrp hX hN hR h0 hq' hd hq64 hhi hx
      go_wp2_with fail
      go_region_held3 (fun w' => w'.cell? ⟨w.heap.size, 0, none⟩ = some (.int .u64 (hi q : Int)) ∧ w'.cell? ⟨w.heap.size, 1, none⟩ = some (.int .u64 (lo q : Int)) ∧ w'.cell? ⟨0, 19, none⟩ = some (.int .u64 10000000000000000000)) (exact ⟨by simp [go_sem], by simp [go_sem], HG.out _ (by (repeat' (first | (with_reducible exact Below.refl _ _) | (with_reducible assumption) | (with_reducible refine Below.alloc ?_ ?_ _) | (with_reducible refine below_drewN ?_ _) | (with_reducible refine below_drew ?_) | (with_reducible refine below_ext ?_ ?_ _ _) | (with_reducible refine Below.setCell ?_ ?_ _) | (simp; done) | (simp; omega) | omega)))⟩) (first
        | (go_at_call 18; ((with_reducible refine (HL.out _).mono ?_); rintro e w1 ⟨rfl, hb1⟩; obtain ⟨osL, dL, rfl⟩ := ext_of_below hb1; clear hb1))
        | (go_at_call 17; ((with_reducible refine (HD.out _).mono ?_); rintro e w1 ⟨rfl, hb1⟩; obtain ⟨osD, dD, rfl⟩ := ext_of_below hb1; clear hb1)))
      all_goals
        go_wp2_with (first
          | (go_at_call 19; ((with_reducible refine (HF.out _ (HT.out _ (by (repeat' (first | (with_reducible exact Below.refl _ _) | (with_reducible assumption) | (with_reducible refine Below.alloc ?_ ?_ _) | (with_reducible refine below_drewN ?_ _) | (with_reducible refine below_drew ?_) | (with_reducible refine below_ext ?_ ?_ _ _) | (with_reducible refine Below.setCell ?_ ?_ _) | (simp; done) | (simp; omega) | omega)))).pow).mono ?_); rintro e w1 ⟨rfl, hb1⟩; obtain ⟨osF, dF, rfl⟩ := ext_of_below hb1; clear hb1))
          | (go_at_call 20; ((with_reducible refine (HRP.out _).mono ?_); rintro e w1 ⟨rfl, hb1⟩; obtain ⟨osR, dR, rfl⟩ := ext_of_below hb1; clear hb1)))
        go_roundw
        case rel => exact ⟨q', d * 10 ^ (19 * k) + r, k + 1, p ++ t ++ x, rfl, HZ.out, hq2', HX, HN, HR, .inl hq0, by (repeat' (first | (with_reducible exact Below.refl _ _) | (with_reducible assumption) | (with_reducible refine Below.alloc ?_ ?_ _) | (with_reducible refine below_drewN ?_ _) | (with_reducible refine below_drew ?_) | (with_reducible refine below_ext ?_ ?_ _ _) | (with_reducible refine Below.setCell ?_ ?_ _) | (simp; done) | (simp; omega) | omega))⟩
        case measure =>
          have h2 := HZ.out
          have h3 := HXS.out
          show 100 - (p ++ t ++ x).size < 100 - x.size
          omega
end Go.Proofs.YtnaajhhdpcdakaaDoor
