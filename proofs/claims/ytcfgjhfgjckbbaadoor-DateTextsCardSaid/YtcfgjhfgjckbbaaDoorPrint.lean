/-
  Contracts of Print, and the statements' own first question of package date.
-/
import Derived.Test.YtcfgjhfgjckbbaaDoorDays
import Derived.Test.YtcfgjhfgjckbbaaDoorItoa
import Derived.WalkSmall
namespace Go.Proofs.YtcfgjhfgjckbbaaDoor
open Go.RowKit
attribute [local go_sem] setCell_drewN cell?_ext frozen?_ext shape?_ext setCell_ext lt_1' ne_1' en_1' le_1' lt_2' ne_2' en_2' le_2' lt_3' ne_3' en_3' le_3' lt_4' ne_4' en_4' le_4' lt_5' ne_5' en_5' le_5' lt_6' ne_6' en_6' le_6' lt_7' ne_7' en_7' le_7' lt_8' ne_8' en_8' le_8' lt_9' ne_9' en_9' le_9' lt_10' ne_10' en_10' le_10' lt_11' ne_11' en_11' le_11' lt_12' ne_12' en_12' le_12'

/-- two decimal digits -/
def two (n : Nat) : List UInt8 := [UInt8.ofNat (48 + n / 10), UInt8.ofNat (48 + n % 10)]
def four (n : Nat) : List UInt8 := two (n / 100) ++ two (n % 100)
theorem dec_len {n : Nat} (h : n < 10000) : (Lib.decDigits n).length = if n < 10 then 1 else if n < 100 then 2 else if n < 1000 then 3 else 4 := by
  rw [Lib.decDigits_length]
  by_cases h1 : n < 10
  · rw [if_pos h1, Lib.nDigits_small h1]
  · rw [if_neg h1]
    by_cases h2 : n < 100
    · rw [if_pos h2, Lib.nDigits_unique 1 n (by omega) (by omega)]
    · rw [if_neg h2]
      by_cases h3 : n < 1000
      · rw [if_pos h3, Lib.nDigits_unique 2 n (by omega) (by omega)]
      · rw [if_neg h3, Lib.nDigits_unique 3 n (by omega) (by omega)]
theorem dec_big {n : Nat} (h : ¬ n < 10) : Lib.decDigits n = Lib.decDigits (n / 10) ++ [UInt8.ofNat (48 + n % 10)] := by rw [Lib.decDigits, dif_neg h]
theorem pad_two {n : Nat} (h : n < 100) : Lib.repeatL [48] (2 - (Lib.decDigits n).length) ++ Lib.decDigits n = two n := by
  rw [dec_len (by omega)]
  by_cases h1 : n < 10
  · rw [if_pos h1, Lib.decDigits_one h1]
    have : n / 10 = 0 := by omega
    have : n % 10 = n := by omega
    simp [Lib.repeatL, two, *]
  · rw [if_neg h1, if_pos h, Lib.decDigits_two h1 h]
    simp [Lib.repeatL, two]
theorem pad_four {n : Nat} (h : n < 10000) : Lib.repeatL [48] (4 - (Lib.decDigits n).length) ++ Lib.decDigits n = four n := by
  rw [dec_len h]
  by_cases h1 : n < 10
  · rw [if_pos h1, Lib.decDigits_one h1]
    have e1 : n / 100 / 10 = 0 := by omega
    have e2 : n / 100 % 10 = 0 := by omega
    have e3 : n % 100 / 10 = 0 := by omega
    have e4 : n % 100 % 10 = n := by omega
    simp [Lib.repeatL, four, two, e1, e2, e3, e4]
  · rw [if_neg h1]
    by_cases h2 : n < 100
    · rw [if_pos h2, Lib.decDigits_two h1 h2]
      have e1 : n / 100 / 10 = 0 := by omega
      have e2 : n / 100 % 10 = 0 := by omega
      have e3 : n % 100 = n := by omega
      simp [Lib.repeatL, four, two, e1, e2, e3]
    · rw [if_neg h2]
      by_cases h3 : n < 1000
      · rw [if_pos h3, dec_big h1, Lib.decDigits_two (by omega) (by omega)]
        have e1 : n / 100 / 10 = 0 := by omega
        have e2 : n / 100 % 10 = n / 10 / 10 := by omega
        have e3 : n % 100 / 10 = n / 10 % 10 := by omega
        have e4 : n % 100 % 10 = n % 10 := by omega
        simp [Lib.repeatL, four, two, e1, e2, e3, e4]
      · rw [if_neg h3, dec_big h1, dec_big (by omega), Lib.decDigits_two (by omega) (by omega)]
        have e1 : n / 100 / 10 = n / 10 / 10 / 10 := by omega
        have e2 : n / 100 % 10 = n / 10 / 10 % 10 := by omega
        have e3 : n % 100 / 10 = n / 10 % 10 := by omega
        have e4 : n % 100 % 10 = n % 10 := by omega
        simp [Lib.repeatL, four, two, e1, e2, e3, e4]
/-- the table of powers of ten that the library's numerals read -/
def Pow (w : World) : Prop := Lib.TabIs Tryd.prog w "internal/strconv.uint64pow10" .u64 Lib.pow10Tab
theorem gPow : Tryd.prog.globalNamed "internal/strconv.uint64pow10" = some 3 := by kernel_rfl
theorem Pow.below {w w' : World} (h : Pow w) (hg : 3 < w.heap.size) (hb : Below w.heap.size w w') : Pow w' := var?_below hb gPow hg h
/-- both tables lie -/
structure Laid (w : World) : Prop where
  lens : Lens w
  pow : Pow w
  in1 : 3 < w.heap.size
theorem Laid.below {w w' : World} (h : Laid w) (hb : Below w.heap.size w w') : Laid w' := ⟨h.lens.below hb, h.pow.below h.in1 hb, by have := hb.size; have := h.in1; omega⟩
/-- a text out of its bytes -/
abbrev mk (l : List UInt8) : ByteArray := ⟨l.toArray⟩
theorem mk_append (a b : List UInt8) : mk a ++ mk b = mk (a ++ b) := by apply ByteArray.ext; simp
theorem str_eq {a b : ByteArray} (h : a = b) : Ending.returned (.string a) = .returned (.string b) := by rw [h]
theorem str_tuple {a b : ByteArray} {v : Value} (h : a = b) : Ending.returned (.tuple #[.string a, v]) = .returned (.tuple #[.string b, v]) := by rw [h]
theorem itoa_any (n : Nat) (hn : n ≤ 10000) (w : World) (hl : Laid w) :
    Calls Tryd.prog 88 #[.int .i64 n] w fun e w' => e = .returned (.string ⟨(Lib.decDigits n).toArray⟩) ∧ Below w.heap.size w w' := by
  refine (Tryd.strconv_Itoa n (by omega) (by omega) w hl.pow).mono ?_
  rintro e w' ⟨rfl, k, os, rfl⟩
  refine ⟨?_, ?_⟩
  · rw [Lib.itoa, if_neg (by omega)]; rfl
  · exact ⟨rfl, rfl, rfl, by simp [Sort.grow], fun b hb => by simp [Sort.grow, Array.getElem?_append, hb]⟩
theorem repeat_any (c : Int) (h0 : 0 ≤ c) (h : c ≤ 4) (w : World) :
    Calls Tryd.prog 89 #[.string { data := #[48] }, .int .i64 c] w fun e w' => e = .returned (.string ⟨(Lib.repeatL [48] c.toNat).toArray⟩) ∧ Below w.heap.size w w' := by
  obtain ⟨k, rfl⟩ : ∃ k : Nat, c = k := ⟨c.toNat, by omega⟩
  exact Tryd.strings_Repeat { data := #[48] } k w (by omega) (by show 1 * k ≤ _; omega)
set_option maxHeartbeats 1000000 in
theorem digits_date (n wd : Nat) (hn : n ≤ 10000) (hw : wd ≤ 4) (hlen : (Lib.decDigits n).length ≤ wd) (w : World) (hl : Laid w) :
    Calls Tryd.prog 66 #[.int .i64 n, .int .i64 wd] w fun e w' => e = .returned (.string ⟨(Lib.repeatL [48] (wd - (Lib.decDigits n).length) ++ Lib.decDigits n).toArray⟩) ∧ Below w.heap.size w w' := by
  have HL := Lib.hid hl
  clear hl
  obtain ⟨s, hs⟩ : ∃ s : ByteArray, s = ⟨(Lib.decDigits n).toArray⟩ := ⟨_, rfl⟩
  have hsz : s.size = (Lib.decDigits n).length := by rw [hs]; rfl
  have h4 : s.size ≤ wd := by omega
  have hI := itoa_any n hn
  rw [← hs] at hI
  have HI := Lib.hid hI
  have HZ := Lib.hid hsz; have HS := Lib.hid hs
  have hR : (Lib.repeatL [48] (wd - s.size)).length ≤ 4 := by rw [Lib.repeatL_length]; simp; omega
  clear hI hsz hs hlen
  go_enter Tryd.func66, Tryd.ntmps66
  go_wp2_with (first
    | (go_at_call 88; ((with_reducible refine (HI.out _ HL.out).mono ?_); rintro e w1 ⟨rfl, hb1⟩; obtain ⟨osA, dA, rfl⟩ := ext_of_below hb1; clear hb1))
    | (go_at_call 89; ((with_reducible refine (repeat_any _ (by omega) (by omega) _).mono ?_); rintro e w1 ⟨rfl, hb1⟩; obtain ⟨osB, dB, rfl⟩ := ext_of_below hb1; clear hb1)))
  go_ret
  exact ⟨str_eq (by rw [HS.out, mk_append]; rfl), by (repeat' (first | (with_reducible exact Below.refl _ _) | (with_reducible assumption) | (with_reducible refine Below.alloc ?_ ?_ _) | (with_reducible refine below_drewN ?_ _) | (with_reducible refine below_drew ?_) | (with_reducible refine below_ext ?_ ?_ _ _) | (with_reducible refine Below.setCell ?_ ?_ _) | (simp; done) | (simp; omega) | omega))⟩
theorem digits_two (n : Nat) (hn : n < 100) (w : World) (hl : Laid w) :
    Calls Tryd.prog 66 #[.int .i64 n, .int .i64 2] w fun e w' => e = .returned (.string (mk (two n))) ∧ Below w.heap.size w w' := by
  have h := digits_date n 2 (by omega) (by omega) (by rw [dec_len (by omega)]; split <;> (try split) <;> (try split) <;> omega) w hl
  rw [pad_two hn] at h
  exact h
theorem digits_four (n : Nat) (hn : n < 10000) (w : World) (hl : Laid w) :
    Calls Tryd.prog 66 #[.int .i64 n, .int .i64 4] w fun e w' => e = .returned (.string (mk (four n))) ∧ Below w.heap.size w w' := by
  have h := digits_date n 4 (by omega) (by omega) (by rw [dec_len (by omega)]; split <;> (try split) <;> (try split) <;> omega) w hl
  rw [pad_four hn] at h
  exact h
/-- the text of a day -/
def told (y m d : Nat) : ByteArray := mk (four y ++ [45] ++ two m ++ [45] ++ two d)
set_option maxHeartbeats 1000000 in
theorem Print_nat (n : Int) (y m d : Nat) (h : Cal.IsDay n y m d) (w : World) (hl : Laid w) :
    Calls Tryd.prog 31 #[.int .i64 n] w fun e w' => e = .returned (.tuple #[.string (told y m d), .int .i64 0]) ∧ Below w.heap.size w w' := by
  have HL := Lib.hid (fun w' (hb : Below w.heap.size w w') => hl.below hb)
  have HD := Lib.hid h
  obtain ⟨y1, y2, m1, m2, d1, d2, hn⟩ := h
  have hdb := Cal.dim_bd y m
  have g1 : y < 10000 := by omega
  have g2 : m < 100 := by omega
  have g3 : d < 100 := by omega
  clear y1 y2 m1 m2 d1 d2 hn hl hdb
  obtain ⟨a, ha⟩ : ∃ a, a = mk (four y) := ⟨_, rfl⟩
  obtain ⟨b, hb⟩ : ∃ a, a = mk (two m) := ⟨_, rfl⟩
  obtain ⟨c, hc⟩ : ∃ a, a = mk (two d) := ⟨_, rfl⟩
  have hA := digits_four y g1
  have hB := digits_two m g2
  have hC := digits_two d g3
  rw [← ha] at hA; rw [← hb] at hB; rw [← hc] at hC
  have s1 : a.size ≤ 4 := by rw [ha]; exact Nat.le_refl 4
  have s2 : b.size ≤ 2 := by rw [hb]; exact Nat.le_refl 2
  have s3 : c.size ≤ 2 := by rw [hc]; exact Nat.le_refl 2
  have HA := Lib.hid hA; have HB := Lib.hid hB; have HC := Lib.hid hC
  have Ha := Lib.hid ha; have Hb := Lib.hid hb; have Hc := Lib.hid hc
  clear hA hB hC ha hb hc
  go_enter Tryd.func31, Tryd.ntmps31
  go_wp2_with (first
    | (go_at_call 21; ((with_reducible refine (Split_ok n y m d HD.out _ (HL.out _ (by (repeat' (first | (with_reducible exact Below.refl _ _) | (with_reducible assumption) | (with_reducible refine Below.alloc ?_ ?_ _) | (with_reducible refine below_drewN ?_ _) | (with_reducible refine below_drew ?_) | (with_reducible refine below_ext ?_ ?_ _ _) | (with_reducible refine Below.setCell ?_ ?_ _) | (simp; done) | (simp; omega) | omega)))).lens).mono ?_); rintro e w' ⟨rfl, rfl⟩))
    | (go_at_call 66; ((with_reducible refine (HA.out _ (HL.out _ (by (repeat' (first | (with_reducible exact Below.refl _ _) | (with_reducible assumption) | (with_reducible refine Below.alloc ?_ ?_ _) | (with_reducible refine below_drewN ?_ _) | (with_reducible refine below_drew ?_) | (with_reducible refine below_ext ?_ ?_ _ _) | (with_reducible refine Below.setCell ?_ ?_ _) | (simp; done) | (simp; omega) | omega))))).mono ?_); rintro e w1 ⟨rfl, hb1⟩; obtain ⟨osA, dA, rfl⟩ := ext_of_below hb1; clear hb1))
    | (go_at_call 66; ((with_reducible refine (HB.out _ (HL.out _ (by (repeat' (first | (with_reducible exact Below.refl _ _) | (with_reducible assumption) | (with_reducible refine Below.alloc ?_ ?_ _) | (with_reducible refine below_drewN ?_ _) | (with_reducible refine below_drew ?_) | (with_reducible refine below_ext ?_ ?_ _ _) | (with_reducible refine Below.setCell ?_ ?_ _) | (simp; done) | (simp; omega) | omega))))).mono ?_); rintro e w1 ⟨rfl, hb1⟩; obtain ⟨osB, dB, rfl⟩ := ext_of_below hb1; clear hb1))
    | (go_at_call 66; ((with_reducible refine (HC.out _ (HL.out _ (by (repeat' (first | (with_reducible exact Below.refl _ _) | (with_reducible assumption) | (with_reducible refine Below.alloc ?_ ?_ _) | (with_reducible refine below_drewN ?_ _) | (with_reducible refine below_drew ?_) | (with_reducible refine below_ext ?_ ?_ _ _) | (with_reducible refine Below.setCell ?_ ?_ _) | (simp; done) | (simp; omega) | omega))))).mono ?_); rintro e w1 ⟨rfl, hb1⟩; obtain ⟨osC, dC, rfl⟩ := ext_of_below hb1; clear hb1)))
  go_ret2
  exact ⟨str_tuple (by rw [Ha.out, Hb.out, Hc.out]; rfl), by (repeat' (first | (with_reducible exact Below.refl _ _) | (with_reducible assumption) | (with_reducible refine Below.alloc ?_ ?_ _) | (with_reducible refine below_drewN ?_ _) | (with_reducible refine below_drew ?_) | (with_reducible refine below_ext ?_ ?_ _ _) | (with_reducible refine Below.setCell ?_ ?_ _) | (simp; done) | (simp; omega) | omega))⟩
theorem Print_bad (n : Int) (h : n < 1 ∨ 3652059 < n) (w : World) :
    Calls Tryd.prog 31 #[.int .i64 n] w fun e w' => e = .returned (.tuple #[.string ⟨#[]⟩, .int .i64 1]) ∧ w = w' := by
  go_enter Tryd.func31, Tryd.ntmps31
  go_wp2_with (go_at_call 21; refine (Split_bad n h _).mono ?_; rintro e w' ⟨rfl, rfl⟩)
  go_ret2
  exact ⟨rfl, rfl⟩
theorem told_first : told 1 1 1 = { data := #[48, 48, 48, 49, 45, 48, 49, 45, 48, 49] } := by decide
theorem known_day : Cal.IsDay 3652059 9999 12 31 := ⟨by decide, by decide, by decide, by decide, by decide, by decide, by decide⟩
theorem known_first : Cal.IsDay 1 ((1 : Nat) : Int) ((1 : Nat) : Int) ((1 : Nat) : Int) := ⟨by decide, by decide, by decide, by decide, by decide, by decide, by decide⟩
theorem print_first (w : World) (hl : Laid w) :
    Calls Tryd.prog 31 #[.int .i64 1] w fun e w' => e = .returned (.tuple #[.string { data := #[48, 48, 48, 49, 45, 48, 49, 45, 48, 49] }, .int .i64 0]) ∧ Below w.heap.size w w' := by
  have h := Print_nat 1 1 1 1 known_first w hl
  rw [told_first] at h
  exact h
theorem known_any : Known Laid := by
  intro w hl
  have HL := Lib.hid hl
  clear hl
  go_enter Tryd.func13, Tryd.ntmps13
  go_wp2_with (first
    | (go_at_call 17; ((with_reducible refine (Day_ok 3652059 9999 12 31 known_day _ HL.out.lens).mono ?_); rintro e w' ⟨rfl, rfl⟩))
    | (go_at_call 31; ((with_reducible refine (print_first _ HL.out).mono ?_); rintro e w1 ⟨rfl, hb1⟩; obtain ⟨osA, dA, rfl⟩ := ext_of_below hb1; clear hb1)))
  go_ret
  exact ⟨rfl, by (repeat' (first | (with_reducible exact Below.refl _ _) | (with_reducible assumption) | (with_reducible refine Below.alloc ?_ ?_ _) | (with_reducible refine below_drewN ?_ _) | (with_reducible refine below_drew ?_) | (with_reducible refine below_ext ?_ ?_ _ _) | (with_reducible refine Below.setCell ?_ ?_ _) | (simp; done) | (simp; omega) | omega))⟩
theorem days_any (y m d : Int) (w : World) (hl : Laid w) : Calls Tryd.prog 3 #[.int .i64 y, .int .i64 m, .int .i64 d] w fun e w' => e = .returned (.bool true) ∧ Below w.heap.size w w' := days_of Laid known_any y m d w hl hl.lens
theorem splits_any (n : Int) (w : World) (hl : Laid w) : Calls Tryd.prog 4 #[.int .i64 n] w fun e w' => e = .returned (.bool true) ∧ Below w.heap.size w w' := splits_of Laid known_any n w hl hl.lens
theorem steps_any (n k : Int) (w : World) (hl : Laid w) : Calls Tryd.prog 5 #[.int .i64 n, .int .i64 k] w fun e w' => e = .returned (.bool true) ∧ Below w.heap.size w w' := steps_of Laid known_any n k w hl hl.lens
end Go.Proofs.YtcfgjhfgjckbbaaDoor
