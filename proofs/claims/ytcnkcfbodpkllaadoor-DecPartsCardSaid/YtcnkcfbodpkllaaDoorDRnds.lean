/-
  The law DecRounds.
-/
import Derived.Test.YtcnkcfbodpkllaaDoorDocOne
import Derived.Test.YtcnkcfbodpkllaaDoorUndoBase
namespace Go.Proofs.YtcnkcfbodpkllaaDoor
open Go.RowKit Num Word
attribute [local go_sem] setCell_drewN cell?_ext frozen?_ext shape?_ext setCell_ext lt_1' ne_1' en_1' le_1' lt_2' ne_2' en_2' le_2' lt_3' ne_3' en_3' le_3' lt_4' ne_4' en_4' le_4' lt_5' ne_5' en_5' le_5' lt_6' ne_6' en_6' le_6' lt_7' ne_7' en_7' le_7' lt_8' ne_8' en_8' le_8' lt_9' ne_9' en_9' le_9' lt_10' ne_10' en_10' le_10' lt_11' ne_11' en_11' le_11' lt_12' ne_12' en_12' le_12'
attribute [local go_sem] lt_13' ne_13' en_13' le_13' lt_14' ne_14' en_14' le_14' lt_15' ne_15' en_15' le_15' lt_16' ne_16' en_16' le_16' lt_17' ne_17' en_17' le_17' lt_18' ne_18' en_18' le_18'

/-- the whole part, one farther from nought where asked and something is left -/
def flN (away : Bool) (c S : Nat) : Nat := if away = true ∧ c % 10 ^ S ≠ 0 then c / 10 ^ S + 1 else c / 10 ^ S
theorem flN_le (away : Bool) {c S : Nat} (hc : c < 10 ^ 34) : flN away c S < 10 ^ 34 + 1 := by
  have h := Nat.div_le_self c (10 ^ S)
  unfold flN
  split <;> omega
theorem flN_le' (away : Bool) {c S : Nat} (hc : c < 10 ^ 34) : flN away c S < 10 ^ 34 := by
  have h := Nat.div_le_self c (10 ^ S)
  unfold flN
  split
  · rename_i h1
    rcases Nat.eq_zero_or_pos S with h0 | h0
    · exact absurd (by rw [h0, Nat.pow_zero, Nat.mod_one]) h1.2
    · have h2 : 10 ^ 1 ≤ 10 ^ S := Nat.pow_le_pow_right (by decide) h0
      have h3 : c / 10 ^ S ≤ c / 10 ^ 1 := Nat.div_le_div_left h2 (by decide)
      omega
  · omega
/-- two words in a block -/
def WBox (w : World) (b n : Nat) : Prop := b < w.heap.size ∧ w.cell? ⟨b, 0, none⟩ = some (.int .u64 (hi n : Int)) ∧ w.cell? ⟨b, 1, none⟩ = some (.int .u64 (lo n : Int))
theorem meet_lw {Wb Z Y : World} {Q : Obj} {c r a5 : Nat} (h2 : Below (Y.alloc Q).heap.size (Y.alloc Q) Z) (h1 : Below Wb.heap.size Wb Y) (ha : a5 = Y.heap.size) (hc : WBox Z c r) :
    ∃ (os1 : Array Obj) (d1 : Nat) (os2 : Array Obj) (d2 c' : Nat), Value.pointer (some ⟨a5, 0, none⟩) = .pointer (some ⟨Wb.heap.size + os1.size, 0, none⟩) ∧ Value.pointer (some ⟨c, 0, none⟩) = .pointer (some ⟨c', 0, none⟩) ∧ Z = ext ((ext Wb os1 d1).alloc Q) os2 d2 ∧ WBox Z c' r := by
  obtain ⟨os1, d1, e1⟩ := ext_of_below h1
  obtain ⟨os2, d2, e2⟩ := ext_of_below h2
  refine ⟨os1, d1, os2, d2, c, ?_, rfl, ?_, hc⟩
  · rw [ha, e1, ext_size]
  · rw [e2, e1]
set_option maxRecDepth 100000 in
set_option maxHeartbeats 8000000 in
theorem whole_any (neg away : Bool) (c S : Nat) (q : Nat) (hq : q = flN away c S) (hc : c < 10 ^ 34) (hS : S ≤ 18) (w : World) (ht : Tens w) :
    Calls Tryd.prog 55 #[D neg c (S : Int), .bool away] w fun e w' => e = .returned (DS neg q 0) ∧ Below w.heap.size w w' := by
  have HT := Lib.hid (fun w' (hb : Below w.heap.size w w') => ht.below hb)
  have hct := lt34_top2 hc
  have hc4 : c < top4 := by unfold top2 top4 at *; omega
  have H1 := Lib.hid (fun w => dlong_any c hct w)
  obtain ⟨p, hp⟩ : ∃ p, p = c / p10 S := ⟨_, rfl⟩
  obtain ⟨r, hr⟩ : ∃ r, r = c % p10 S := ⟨_, rfl⟩
  have h2 := fun w ht => split_any c S p r hc4 (by omega) hp hr w ht
  have hq34 : q < 10 ^ 34 := by rw [hq]; exact flN_le' away hc
  have hq4 : q < top4 := Nat.lt_trans hq34 (by decide)
  have hql : q = q % 340282366920938463463374607431768211456 := (Nat.mod_eq_of_lt (lt34_top2 hq34)).symm
  have H3 := Lib.hid (fun w => dlow_any q q hq4 hql w)
  have h4 := fun w ht => settle_any neg q 0 (lt34_top2 hq34) (by omega) w ht
  obtain ⟨vg, hvg⟩ : ∃ x, x = (neg && decide (0 < (Fit.strip q 0).1)) := ⟨_, rfl⟩
  unfold DS at h4 ⊢
  rw [← hvg] at h4 ⊢
  have h4' : ∀ w, Tens w → Calls Tryd.prog 57 #[.bool neg, W q, .int .i64 0] w fun e w' => e = .returned (D vg q 0) ∧ Below w.heap.size w w' := h4
  have H4 := Lib.hid h4'
  show Calls Tryd.prog 55 #[D neg c (S : Int), .bool away] w fun e w' => e = .returned (D vg q 0) ∧ Below w.heap.size w w'
  unfold flN at hq
  have hpp : c / 10 ^ S = p := hp.symm
  have hrr : c % 10 ^ S = r := hr.symm
  rw [hpp, hrr] at hq
  have hpc : p < 10 ^ 34 := by rw [hp]; exact Nat.lt_of_le_of_lt (Nat.div_le_self _ _) hc
  have htop : 10 ^ 34 < top4 := by decide
  clear ht hct hp hr hpp hrr hql h4 h4' hvg hc
  have H2 := Lib.hid h2
  have HQ := Lib.hid hq
  have HQL := Lib.hid (show p + 1 < top4 by omega)
  clear htop
  clear h2 hq hc4 hq34 hq4 hpc
  go_enter Tryd.func55, Tryd.ntmps55
  go_wp2_with fail
  go_cut [5, 6] (fun s5 s6 wx => ∃ (os1 : Array Obj) (d1 : Nat) (os2 : Array Obj) (d2 c' : Nat), s5 = .pointer (some ⟨((w.alloc (.cells #[.bool neg, .int .u64 (hi c : Int), .int .u64 (lo c : Int), .int .i64 (S : Int)] 26)).alloc (.cells #[.bool false, .int .u64 0, .int .u64 0, .int .i64 0] 26)).heap.size + os1.size, 0, none⟩) ∧ s6 = .pointer (some ⟨c', 0, none⟩) ∧ wx = ext ((ext ((w.alloc (.cells #[.bool neg, .int .u64 (hi c : Int), .int .u64 (lo c : Int), .int .i64 (S : Int)] 26)).alloc (.cells #[.bool false, .int .u64 0, .int .u64 0, .int .i64 0] 26)) os1 d1).alloc (.cells #[.int .u64 (w0 p : Int), .int .u64 (w1 p : Int), .int .u64 (w2 p : Int), .int .u64 (w3 p : Int)] 46)) os2 d2 ∧ WBox wx c' r)
  case first =>
    go_region_held3 (fun w' => w'.cell? ⟨w.heap.size, 0, none⟩ = some (.bool neg) ∧ w'.cell? ⟨w.heap.size, 1, none⟩ = some (.int .u64 (hi c : Int)) ∧ w'.cell? ⟨w.heap.size, 2, none⟩ = some (.int .u64 (lo c : Int)) ∧ w'.cell? ⟨w.heap.size, 3, none⟩ = some (.int .i64 (S : Int))) (first | (simp [go_sem]; done) | go_keep) (first
      | (go_at_call 54; ((with_reducible refine (H1.out _).mono ?_); rintro e w1 ⟨rfl, hb1⟩; obtain ⟨osA, dA, rfl⟩ := ext_of_below hb1; clear hb1))
      | (go_at_call 53; ((with_reducible refine (H2.out _ (HT.out _ (by (repeat' (first | (with_reducible exact Below.refl _ _) | (with_reducible assumption) | (with_reducible refine Below.alloc ?_ ?_ _) | (with_reducible refine below_drewN ?_ _) | (with_reducible refine below_drew ?_) | (with_reducible refine below_ext ?_ ?_ _ _) | (with_reducible refine Below.setCell ?_ ?_ _) | (simp; done) | (simp; omega) | omega))))).mono ?_); rintro e w1 ⟨rfl, hb1⟩; obtain ⟨osB, dB, rfl⟩ := ext_of_below hb1; clear hb1)))
    all_goals
      go_wp2_with fail
      go_meet
      apply meet_lw (Q := (.cells #[.int .u64 (w0 p : Int), .int .u64 (w1 p : Int), .int .u64 (w2 p : Int), .int .u64 (w3 p : Int)] 46))
      case h2 => (repeat' (first | (with_reducible exact Below.refl _ _) | (with_reducible assumption) | (with_reducible refine Below.alloc ?_ ?_ _) | (with_reducible refine below_drewN ?_ _) | (with_reducible refine below_drew ?_) | (with_reducible refine below_ext ?_ ?_ _ _) | (with_reducible refine Below.setCell ?_ ?_ _) | (simp; done) | (simp; omega) | omega))
      case h1 => (repeat' (first | (with_reducible exact Below.refl _ _) | (with_reducible assumption) | (with_reducible refine Below.alloc ?_ ?_ _) | (with_reducible refine below_drewN ?_ _) | (with_reducible refine below_drew ?_) | (with_reducible refine below_ext ?_ ?_ _ _) | (with_reducible refine Below.setCell ?_ ?_ _) | (simp; done) | (simp; omega) | omega))
      case ha => first | (simp; done) | (simp; omega)
      case hc => refine ⟨by first | (simp; done) | (simp; omega), ?_, ?_⟩ <;> simp [go_sem]
  case rest =>
    obtain ⟨os1, d1, os2, d2, c', rfl, rfl, rfl, ⟨hcl, c0, c1⟩⟩ := hcut
    simp only [World.size_alloc]
    have hq := HQ.out
    by_cases hcase : away = true ∧ r ≠ 0
    · rw [if_pos hcase] at hq
      obtain ⟨rfl, hr0⟩ := hcase
      have h5 := fun w => daddLong_any p 1 (by have := HQL.out; omega) (by unfold top4; decide) HQL.out w
      rw [← hq] at h5
      have e1 : L 1 = .agg #[.int .u64 1, .int .u64 0, .int .u64 0, .int .u64 0] := rfl
      rw [e1] at h5
      have H5 := Lib.hid h5
      have hnz := word_ne (b := r) (by omega)
      clear h5 hq hr0 e1 HQ
      rcases hnz with nz | ⟨nz, nz'⟩
      all_goals
        go_wp2_with (first
          | (go_at_call 51; ((with_reducible refine (H5.out _).mono ?_); rintro e w1 ⟨rfl, hb1⟩; obtain ⟨osC, dC, rfl⟩ := ext_of_below hb1; clear hb1)))
        go_region_held3 (fun w' => w'.cell? ⟨w.heap.size, 0, none⟩ = some (.bool neg) ∧ w'.cell? ⟨w.heap.size + 1 + 1 + os1.size, 0, none⟩ = some (.int .u64 (w0 q : Int)) ∧ w'.cell? ⟨w.heap.size + 1 + 1 + os1.size, 1, none⟩ = some (.int .u64 (w1 q : Int)) ∧ w'.cell? ⟨w.heap.size + 1 + 1 + os1.size, 2, none⟩ = some (.int .u64 (w2 q : Int)) ∧ w'.cell? ⟨w.heap.size + 1 + 1 + os1.size, 3, none⟩ = some (.int .u64 (w3 q : Int))) (first | (simp [go_sem]; done) | go_keep) (first
          | (go_at_call 73; ((with_reducible refine (H3.out _).mono ?_); rintro e w1 ⟨rfl, hb1⟩; obtain ⟨osD, dD, rfl⟩ := ext_of_below hb1; clear hb1))
          | (go_at_call 57; ((with_reducible refine (H4.out _ (HT.out _ (by (repeat' (first | (with_reducible exact Below.refl _ _) | (with_reducible assumption) | (with_reducible refine Below.alloc ?_ ?_ _) | (with_reducible refine below_drewN ?_ _) | (with_reducible refine below_drew ?_) | (with_reducible refine below_ext ?_ ?_ _ _) | (with_reducible refine Below.setCell ?_ ?_ _) | (simp; done) | (simp; omega) | omega))))).mono ?_); rintro e w1 ⟨rfl, hb1⟩; obtain ⟨osE, dE, rfl⟩ := ext_of_below hb1; clear hb1)))
        all_goals
          go_wp2
          go_returns
          exact ⟨rfl, by (repeat' (first | (with_reducible exact Below.refl _ _) | (with_reducible assumption) | (with_reducible refine Below.alloc ?_ ?_ _) | (with_reducible refine below_drewN ?_ _) | (with_reducible refine below_drew ?_) | (with_reducible refine below_ext ?_ ?_ _ _) | (with_reducible refine Below.setCell ?_ ?_ _) | (simp; done) | (simp; omega) | omega))⟩
    · rw [if_neg hcase] at hq
      subst hq
      cases away with
      | false =>
        clear hcase
        go_wp2_with fail
        go_region_held3 (fun w' => w'.cell? ⟨w.heap.size, 0, none⟩ = some (.bool neg) ∧ w'.cell? ⟨w.heap.size + 1 + 1 + os1.size, 0, none⟩ = some (.int .u64 (w0 q : Int)) ∧ w'.cell? ⟨w.heap.size + 1 + 1 + os1.size, 1, none⟩ = some (.int .u64 (w1 q : Int)) ∧ w'.cell? ⟨w.heap.size + 1 + 1 + os1.size, 2, none⟩ = some (.int .u64 (w2 q : Int)) ∧ w'.cell? ⟨w.heap.size + 1 + 1 + os1.size, 3, none⟩ = some (.int .u64 (w3 q : Int))) (first | (simp [go_sem]; done) | go_keep) (first
          | (go_at_call 73; ((with_reducible refine (H3.out _).mono ?_); rintro e w1 ⟨rfl, hb1⟩; obtain ⟨osD, dD, rfl⟩ := ext_of_below hb1; clear hb1))
          | (go_at_call 57; ((with_reducible refine (H4.out _ (HT.out _ (by (repeat' (first | (with_reducible exact Below.refl _ _) | (with_reducible assumption) | (with_reducible refine Below.alloc ?_ ?_ _) | (with_reducible refine below_drewN ?_ _) | (with_reducible refine below_drew ?_) | (with_reducible refine below_ext ?_ ?_ _ _) | (with_reducible refine Below.setCell ?_ ?_ _) | (simp; done) | (simp; omega) | omega))))).mono ?_); rintro e w1 ⟨rfl, hb1⟩; obtain ⟨osE, dE, rfl⟩ := ext_of_below hb1; clear hb1)))
        all_goals
          go_wp2
          go_returns
          exact ⟨rfl, by (repeat' (first | (with_reducible exact Below.refl _ _) | (with_reducible assumption) | (with_reducible refine Below.alloc ?_ ?_ _) | (with_reducible refine below_drewN ?_ _) | (with_reducible refine below_drew ?_) | (with_reducible refine below_ext ?_ ?_ _ _) | (with_reducible refine Below.setCell ?_ ?_ _) | (simp; done) | (simp; omega) | omega))⟩
      | true =>
        obtain rfl : r = 0 := by
          rcases Nat.eq_zero_or_pos r with h | h
          · exact h
          · exact absurd ⟨rfl, by omega⟩ hcase
        have c0' : (ext ((ext ((w.alloc (.cells #[.bool neg, .int .u64 (hi c : Int), .int .u64 (lo c : Int), .int .i64 (S : Int)] 26)).alloc (.cells #[.bool false, .int .u64 0, .int .u64 0, .int .i64 0] 26)) os1 d1).alloc (.cells #[.int .u64 (w0 q : Int), .int .u64 (w1 q : Int), .int .u64 (w2 q : Int), .int .u64 (w3 q : Int)] 46)) os2 d2).cell? ⟨c', 0, none⟩ = some (.int .u64 0) := c0
        have c1' : (ext ((ext ((w.alloc (.cells #[.bool neg, .int .u64 (hi c : Int), .int .u64 (lo c : Int), .int .i64 (S : Int)] 26)).alloc (.cells #[.bool false, .int .u64 0, .int .u64 0, .int .i64 0] 26)) os1 d1).alloc (.cells #[.int .u64 (w0 q : Int), .int .u64 (w1 q : Int), .int .u64 (w2 q : Int), .int .u64 (w3 q : Int)] 46)) os2 d2).cell? ⟨c', 1, none⟩ = some (.int .u64 0) := c1
        clear hcase c0 c1
        go_wp2_with fail
        go_region_held3 (fun w' => w'.cell? ⟨w.heap.size, 0, none⟩ = some (.bool neg) ∧ w'.cell? ⟨w.heap.size + 1 + 1 + os1.size, 0, none⟩ = some (.int .u64 (w0 q : Int)) ∧ w'.cell? ⟨w.heap.size + 1 + 1 + os1.size, 1, none⟩ = some (.int .u64 (w1 q : Int)) ∧ w'.cell? ⟨w.heap.size + 1 + 1 + os1.size, 2, none⟩ = some (.int .u64 (w2 q : Int)) ∧ w'.cell? ⟨w.heap.size + 1 + 1 + os1.size, 3, none⟩ = some (.int .u64 (w3 q : Int))) (first | (simp [go_sem]; done) | go_keep) (first
          | (go_at_call 73; ((with_reducible refine (H3.out _).mono ?_); rintro e w1 ⟨rfl, hb1⟩; obtain ⟨osD, dD, rfl⟩ := ext_of_below hb1; clear hb1))
          | (go_at_call 57; ((with_reducible refine (H4.out _ (HT.out _ (by (repeat' (first | (with_reducible exact Below.refl _ _) | (with_reducible assumption) | (with_reducible refine Below.alloc ?_ ?_ _) | (with_reducible refine below_drewN ?_ _) | (with_reducible refine below_drew ?_) | (with_reducible refine below_ext ?_ ?_ _ _) | (with_reducible refine Below.setCell ?_ ?_ _) | (simp; done) | (simp; omega) | omega))))).mono ?_); rintro e w1 ⟨rfl, hb1⟩; obtain ⟨osE, dE, rfl⟩ := ext_of_below hb1; clear hb1)))
        all_goals
          go_wp2
          go_returns
          exact ⟨rfl, by (repeat' (first | (with_reducible exact Below.refl _ _) | (with_reducible assumption) | (with_reducible refine Below.alloc ?_ ?_ _) | (with_reducible refine below_drewN ?_ _) | (with_reducible refine below_drew ?_) | (with_reducible refine below_ext ?_ ?_ _ _) | (with_reducible refine Below.setCell ?_ ?_ _) | (simp; done) | (simp; omega) | omega))⟩
theorem dFloor_ok (neg : Bool) (c : Nat) (s : Int) (S : Nat) (hs : s = (S : Int)) (f : formB neg c s = true) (g : Bool) (q : Nat) (hq : q = flN neg c S) (hg : g = (neg && decide (0 < q))) (w : World) (ht : Tens w) :
    Calls Tryd.prog 24 #[D neg c s] w fun e w' => e = .returned (.tuple #[D g q 0, .int .i64 0]) ∧ Below w.heap.size w w' := by
  have HT := Lib.hid (fun w' (hb : Below w.heap.size w w') => ht.below hb)
  obtain ⟨S', hS', hS18, hc, _, _⟩ := form_open f
  obtain rfl : S = S' := by omega
  have F1 := Lib.hid (fun w ht => form_yes f w ht)
  subst hs
  have h1 : ∀ w, Tens w → Calls Tryd.prog 55 #[D neg c (S : Int), .bool neg] w fun e w' => e = .returned (D g q 0) ∧ Below w.heap.size w w' := by
    intro w ht
    have h := whole_any neg neg c S q hq hc hS18 w ht
    rw [hg]
    exact h
  clear ht f hq hg hc hS'
  cases neg
  all_goals
    try simp only [Bool.not_false, Bool.not_true] at h1
    have H1 := Lib.hid h1
    clear h1
    go_enter Tryd.func24, Tryd.ntmps24
    go_wp2_with (first
      | (go_at_call 23; ((with_reducible refine (F1.out _ (HT.out _ (by (repeat' (first | (with_reducible exact Below.refl _ _) | (with_reducible assumption) | (with_reducible refine Below.alloc ?_ ?_ _) | (with_reducible refine below_drewN ?_ _) | (with_reducible refine below_drew ?_) | (with_reducible refine below_ext ?_ ?_ _ _) | (with_reducible refine Below.setCell ?_ ?_ _) | (simp; done) | (simp; omega) | omega))))).mono ?_); rintro e w1 ⟨rfl, hb1⟩; obtain ⟨osA, dA, rfl⟩ := ext_of_below hb1; clear hb1))
      | (go_at_call 55; ((with_reducible refine (H1.out _ (HT.out _ (by (repeat' (first | (with_reducible exact Below.refl _ _) | (with_reducible assumption) | (with_reducible refine Below.alloc ?_ ?_ _) | (with_reducible refine below_drewN ?_ _) | (with_reducible refine below_drew ?_) | (with_reducible refine below_ext ?_ ?_ _ _) | (with_reducible refine Below.setCell ?_ ?_ _) | (simp; done) | (simp; omega) | omega))))).mono ?_); rintro e w1 ⟨rfl, hb1⟩; obtain ⟨osB, dB, rfl⟩ := ext_of_below hb1; clear hb1)))
    go_returns
    exact ⟨rfl, by (repeat' (first | (with_reducible exact Below.refl _ _) | (with_reducible assumption) | (with_reducible refine Below.alloc ?_ ?_ _) | (with_reducible refine below_drewN ?_ _) | (with_reducible refine below_drew ?_) | (with_reducible refine below_ext ?_ ?_ _ _) | (with_reducible refine Below.setCell ?_ ?_ _) | (simp; done) | (simp; omega) | omega))⟩
theorem dFloor_bad (neg : Bool) (c : Nat) (s : Int) (hc : c < top2) (f : formB neg c s = false) (w : World) (ht : Tens w) :
    Calls Tryd.prog 24 #[D neg c s] w fun e w' => e = .returned (.tuple #[D false 0 0, .int .i64 2]) ∧ Below w.heap.size w w' := by
  have HT := Lib.hid (fun w' (hb : Below w.heap.size w w') => ht.below hb)
  have F1 := Lib.hid (fun w ht => form_no hc f w ht)
  rw [← dbad_D]
  clear ht f hc
  go_enter Tryd.func24, Tryd.ntmps24
  go_wp2_with (first
    | (go_at_call 23; ((with_reducible refine (F1.out _ (HT.out _ (by (repeat' (first | (with_reducible exact Below.refl _ _) | (with_reducible assumption) | (with_reducible refine Below.alloc ?_ ?_ _) | (with_reducible refine below_drewN ?_ _) | (with_reducible refine below_drew ?_) | (with_reducible refine below_ext ?_ ?_ _ _) | (with_reducible refine Below.setCell ?_ ?_ _) | (simp; done) | (simp; omega) | omega))))).mono ?_); rintro e w1 ⟨rfl, hb1⟩; obtain ⟨osA, dA, rfl⟩ := ext_of_below hb1; clear hb1)))
  go_returns
  exact ⟨rfl, by (repeat' (first | (with_reducible exact Below.refl _ _) | (with_reducible assumption) | (with_reducible refine Below.alloc ?_ ?_ _) | (with_reducible refine below_drewN ?_ _) | (with_reducible refine below_drew ?_) | (with_reducible refine below_ext ?_ ?_ _ _) | (with_reducible refine Below.setCell ?_ ?_ _) | (simp; done) | (simp; omega) | omega))⟩
theorem dCeil_ok (neg : Bool) (c : Nat) (s : Int) (S : Nat) (hs : s = (S : Int)) (f : formB neg c s = true) (g : Bool) (q : Nat) (hq : q = flN (!neg) c S) (hg : g = (neg && decide (0 < q))) (w : World) (ht : Tens w) :
    Calls Tryd.prog 25 #[D neg c s] w fun e w' => e = .returned (.tuple #[D g q 0, .int .i64 0]) ∧ Below w.heap.size w w' := by
  have HT := Lib.hid (fun w' (hb : Below w.heap.size w w') => ht.below hb)
  obtain ⟨S', hS', hS18, hc, _, _⟩ := form_open f
  obtain rfl : S = S' := by omega
  have F1 := Lib.hid (fun w ht => form_yes f w ht)
  subst hs
  have h1 : ∀ w, Tens w → Calls Tryd.prog 55 #[D neg c (S : Int), .bool (!neg)] w fun e w' => e = .returned (D g q 0) ∧ Below w.heap.size w w' := by
    intro w ht
    have h := whole_any neg (!neg) c S q hq hc hS18 w ht
    rw [hg]
    exact h
  clear ht f hq hg hc hS'
  cases neg
  all_goals
    try simp only [Bool.not_false, Bool.not_true] at h1
    have H1 := Lib.hid h1
    clear h1
    go_enter Tryd.func25, Tryd.ntmps25
    go_wp2_with (first
      | (go_at_call 23; ((with_reducible refine (F1.out _ (HT.out _ (by (repeat' (first | (with_reducible exact Below.refl _ _) | (with_reducible assumption) | (with_reducible refine Below.alloc ?_ ?_ _) | (with_reducible refine below_drewN ?_ _) | (with_reducible refine below_drew ?_) | (with_reducible refine below_ext ?_ ?_ _ _) | (with_reducible refine Below.setCell ?_ ?_ _) | (simp; done) | (simp; omega) | omega))))).mono ?_); rintro e w1 ⟨rfl, hb1⟩; obtain ⟨osA, dA, rfl⟩ := ext_of_below hb1; clear hb1))
      | (go_at_call 55; ((with_reducible refine (H1.out _ (HT.out _ (by (repeat' (first | (with_reducible exact Below.refl _ _) | (with_reducible assumption) | (with_reducible refine Below.alloc ?_ ?_ _) | (with_reducible refine below_drewN ?_ _) | (with_reducible refine below_drew ?_) | (with_reducible refine below_ext ?_ ?_ _ _) | (with_reducible refine Below.setCell ?_ ?_ _) | (simp; done) | (simp; omega) | omega))))).mono ?_); rintro e w1 ⟨rfl, hb1⟩; obtain ⟨osB, dB, rfl⟩ := ext_of_below hb1; clear hb1)))
    go_returns
    exact ⟨rfl, by (repeat' (first | (with_reducible exact Below.refl _ _) | (with_reducible assumption) | (with_reducible refine Below.alloc ?_ ?_ _) | (with_reducible refine below_drewN ?_ _) | (with_reducible refine below_drew ?_) | (with_reducible refine below_ext ?_ ?_ _ _) | (with_reducible refine Below.setCell ?_ ?_ _) | (simp; done) | (simp; omega) | omega))⟩
theorem dCeil_bad (neg : Bool) (c : Nat) (s : Int) (hc : c < top2) (f : formB neg c s = false) (w : World) (ht : Tens w) :
    Calls Tryd.prog 25 #[D neg c s] w fun e w' => e = .returned (.tuple #[D false 0 0, .int .i64 2]) ∧ Below w.heap.size w w' := by
  have HT := Lib.hid (fun w' (hb : Below w.heap.size w w') => ht.below hb)
  have F1 := Lib.hid (fun w ht => form_no hc f w ht)
  rw [← dbad_D]
  clear ht f hc
  go_enter Tryd.func25, Tryd.ntmps25
  go_wp2_with (first
    | (go_at_call 23; ((with_reducible refine (F1.out _ (HT.out _ (by (repeat' (first | (with_reducible exact Below.refl _ _) | (with_reducible assumption) | (with_reducible refine Below.alloc ?_ ?_ _) | (with_reducible refine below_drewN ?_ _) | (with_reducible refine below_drew ?_) | (with_reducible refine below_ext ?_ ?_ _ _) | (with_reducible refine Below.setCell ?_ ?_ _) | (simp; done) | (simp; omega) | omega))))).mono ?_); rintro e w1 ⟨rfl, hb1⟩; obtain ⟨osA, dA, rfl⟩ := ext_of_below hb1; clear hb1)))
  go_returns
  exact ⟨rfl, by (repeat' (first | (with_reducible exact Below.refl _ _) | (with_reducible assumption) | (with_reducible refine Below.alloc ?_ ?_ _) | (with_reducible refine below_drewN ?_ _) | (with_reducible refine below_drew ?_) | (with_reducible refine below_ext ?_ ?_ _ _) | (with_reducible refine Below.setCell ?_ ?_ _) | (simp; done) | (simp; omega) | omega))⟩
theorem below_one1 (W : World) : Below W.heap.size W (W.alloc (.cells #[.int .i64 1] 3)) := by (repeat' (first | (with_reducible exact Below.refl _ _) | (with_reducible assumption) | (with_reducible refine Below.alloc ?_ ?_ _) | (with_reducible refine below_drewN ?_ _) | (with_reducible refine below_drew ?_) | (with_reducible refine below_ext ?_ ?_ _ _) | (with_reducible refine Below.setCell ?_ ?_ _) | (simp; done) | (simp; omega) | omega))
theorem rmake_lit (neg : Bool) (v : Value) (n : Nat) (hn : n < 10 ^ 34) (w : World) (ha : Rd w v (dg n)) :
    Calls Tryd.prog 60 #[.bool neg, v, .int .i64 0] w fun e w' => e = .returned (D (neg && decide (0 < n)) n 0) ∧ Below w.heap.size w w' := rmake_any neg v n 0 hn (by omega) w ha
theorem ceil_sign (neg : Bool) (c S : Nat) : flN (flip neg c) c S = flN (!neg) c S ∧ flip (flip neg c && decide (0 < flN (flip neg c) c S)) (flN (flip neg c) c S) = (neg && decide (0 < flN (!neg) c S)) := by
  rcases Nat.eq_zero_or_pos c with h | h
  · subst h
    have e : ∀ b, flN b 0 S = 0 := fun b => by
      unfold flN
      rw [Nat.zero_mod, if_neg (fun h => h.2 rfl), Nat.zero_div]
    rw [e, e]
    exact ⟨rfl, by unfold flip; cases neg <;> rfl⟩
  · have e : flip neg c = !neg := by unfold flip; rw [decide_eq_false (by omega)]; simp
    rw [e]
    refine ⟨rfl, ?_⟩
    generalize flN (!neg) c S = q
    rcases Nat.eq_zero_or_pos q with h0 | h0
    · subst h0; unfold flip; cases neg <;> rfl
    · unfold flip; rw [decide_eq_true h0, decide_eq_false (by omega)]; cases neg <;> rfl
theorem meet_w {Wb X : World} {c x : Nat} (hb : Below Wb.heap.size Wb X) (h1 : WBox X c x) (g1 : Wb.heap.size ≤ c) :
    ∃ (os : Array Obj) (d' c' : Nat), Value.pointer (some ⟨c, 0, none⟩) = .pointer (some ⟨c', 0, none⟩) ∧ X = ext Wb os d' ∧ WBox X c' x ∧ Wb.heap.size ≤ c' := by
  obtain ⟨os, d', he⟩ := ext_of_below hb
  exact ⟨os, d', c, rfl, he, h1, g1⟩
theorem near_down {c S n : Nat} (h : n < S) (hS : S ≤ 18) : Fit.near (Fit.uni c S) (10 ^ (18 - n)) = Fit.near c (10 ^ (S - n)) := by
  refine Fit.near_ratio (Fit.pp _) (Fit.pp _) ?_
  unfold Fit.uni
  rw [Nat.mul_assoc, ← Nat.pow_add]
  congr 2; omega
theorem near_lt34 {c k : Nat} (hc : c < 10 ^ 34) (hk : 0 < k) : Fit.near c (10 ^ k) < 10 ^ 34 := by
  have h2 : 10 ^ 1 ≤ 10 ^ k := Nat.pow_le_pow_right (by decide) hk
  have h3 : c / 10 ^ k ≤ c / 10 ^ 1 := Nat.div_le_div_left h2 (by decide)
  have h4 : Fit.near c (10 ^ k) ≤ c / 10 ^ k + 1 := by
    unfold Fit.near
    split
    · omega
    · split
      · split <;> omega
      · omega
  omega
theorem near_up18 {c S n : Nat} (h : S ≤ n) (hn : n ≤ 18) : Fit.near (Fit.uni c S) (10 ^ (18 - n)) = c * 10 ^ (n - S) := by
  have e : Fit.uni c S = c * 10 ^ (n - S) * 10 ^ (18 - n) := Fit.uni_raised c S n h hn
  rw [e]
  exact Fit.near_whole _ _ (Fit.pp _)
/-- what is rounded, fitted -/
theorem round_fit_down {c S n : Nat} (hc : c < 10 ^ 34) (h : n < S) (hS : S ≤ 18) : Fit.fit (Fit.near (Fit.uni c S) (10 ^ (18 - n))) (10 ^ n) 19 = some (Fit.strip (Fit.near c (10 ^ (S - n))) n) := by
  rw [near_down h hS]
  exact Fit.fit_exact (near_lt34 hc (by omega)) (by omega)
theorem round_fit_up {c S n : Nat} (hc : c < 10 ^ 34) (h : S ≤ n) (hn : n ≤ 18) (h4 : S ≠ 0 → c % 10 ≠ 0) : Fit.fit (Fit.near (Fit.uni c S) (10 ^ (18 - n))) (10 ^ n) 19 = some (c, S) := by
  rw [near_up18 h hn]
  have e : Fit.fit (c * 10 ^ (n - S)) (10 ^ n) 19 = Fit.fit c (10 ^ S) 19 := by
    refine Fit.fit_ratio (Fit.pp _) (Fit.pp _) ?_ 19
    rw [Nat.mul_assoc, ← Nat.pow_add]
    congr 2; omega
  rw [e, Fit.fit_exact hc (by omega), form_strip h4]
set_option maxHeartbeats 4000000 in
theorem dround_down (neg : Bool) (c S n : Nat) (f : formB neg c (S : Int) = true) (h : n < S) (w : World) (ht : Tens w) :
    Calls Tryd.prog 26 #[D neg c (S : Int), .int .i64 (n : Int)] w fun e w' => e = .returned (.tuple #[DS neg (Fit.near c (10 ^ (S - n))) n, .int .i64 0]) ∧ Below w.heap.size w w' := by
  have HT := Lib.hid (fun w' (hb : Below w.heap.size w w') => ht.below hb)
  obtain ⟨S', hS', hS18, hc, _, _⟩ := form_open f
  obtain rfl : S = S' := by omega
  have F1 := Lib.hid (fun w ht => form_yes f w ht)
  have hct := lt34_top2 hc
  have hc4 : c < top4 := by unfold top2 top4 at *; omega
  have H1 := Lib.hid (fun w => dlong_any c hct w)
  obtain ⟨k, hk⟩ : ∃ k, k = S - n := ⟨_, rfl⟩
  rw [← hk]
  obtain ⟨m, hm⟩ : ∃ m, m = Fit.near c (10 ^ k) := ⟨_, rfl⟩
  have hm34 : m < 10 ^ 34 := by rw [hm]; exact near_lt34 hc (by omega)
  have h2 := fun w ht => round_ok c k m (by rw [hm]; exact near_isN c (10 ^ k)) (by omega) hc4 w ht
  rw [show nw m = m from if_pos (lt34_top2 hm34), show ne m = 0 from if_pos (lt34_top2 hm34)] at h2
  have h3 := fun w ht => settle_any neg m n (lt34_top2 hm34) (by omega) w ht
  rw [← hm]
  obtain ⟨g, hg⟩ : ∃ g, g = (neg && decide (0 < (Fit.strip m n).1)) := ⟨_, rfl⟩
  obtain ⟨x, hx⟩ : ∃ x, x = (Fit.strip m n).1 := ⟨_, rfl⟩
  obtain ⟨y, hy⟩ : ∃ y, y = (Fit.strip m n).2 := ⟨_, rfl⟩
  unfold DS at h3 ⊢
  rw [← hg, ← hx, ← hy] at h3 ⊢
  have E1 : IntKind.i64.wrap (k : Int) = (k : Int) := IntWalk.i64_in _ (by omega)
  have E2 : (S : Int) - (n : Int) = (k : Int) := by omega
  have H2 := Lib.hid h2; have H3 := Lib.hid h3
  have i1 : ¬ (n : Int) < 0 := by omega
  have i2 : ¬ (18 : Int) < (n : Int) := by omega
  have i3 : ¬ (S : Int) ≤ (n : Int) := by omega
  clear ht f hct hc4 hc h2 h3 hg hx hy hm hm34 hk hS'
  go_enter Tryd.func26, Tryd.ntmps26
  go_upto_region 7 with (first
    | (go_at_call 23; ((with_reducible refine (F1.out _ (HT.out _ (by (repeat' (first | (with_reducible exact Below.refl _ _) | (with_reducible assumption) | (with_reducible refine Below.alloc ?_ ?_ _) | (with_reducible refine below_drewN ?_ _) | (with_reducible refine below_drew ?_) | (with_reducible refine below_ext ?_ ?_ _ _) | (with_reducible refine Below.setCell ?_ ?_ _) | (simp; done) | (simp; omega) | omega))))).mono ?_); rintro e w1 ⟨rfl, hb1⟩; obtain ⟨osA, dA, rfl⟩ := ext_of_below hb1; clear hb1)))
  go_cut [6] (fun s6 wx => ∃ (os : Array Obj) (d' c' : Nat), s6 = .pointer (some ⟨c', 0, none⟩) ∧ wx = ext (ext ((w.alloc (.cells #[.bool neg, .int .u64 (hi c : Int), .int .u64 (lo c : Int), .int .i64 (S : Int)] 26)).alloc (.cells #[.bool false, .int .u64 0, .int .u64 0, .int .i64 0] 26)) osA dA) os d' ∧ WBox wx c' m ∧ (ext ((w.alloc (.cells #[.bool neg, .int .u64 (hi c : Int), .int .u64 (lo c : Int), .int .i64 (S : Int)] 26)).alloc (.cells #[.bool false, .int .u64 0, .int .u64 0, .int .i64 0] 26)) osA dA).heap.size ≤ c')
  case first =>
    go_region_held3 (fun w' => w'.cell? ⟨w.heap.size, 0, none⟩ = some (.bool neg) ∧ w'.cell? ⟨w.heap.size, 1, none⟩ = some (.int .u64 (hi c : Int)) ∧ w'.cell? ⟨w.heap.size, 2, none⟩ = some (.int .u64 (lo c : Int)) ∧ w'.cell? ⟨w.heap.size, 3, none⟩ = some (.int .i64 (S : Int))) (first | (simp [go_sem]; done) | go_keep) (first
      | (go_at_call 54; ((with_reducible refine (H1.out _).mono ?_); rintro e w1 ⟨rfl, hb1⟩; obtain ⟨osB, dB, rfl⟩ := ext_of_below hb1; clear hb1))
      | (go_at_call 56; ((with_reducible refine (H2.out _ (HT.out _ (by (repeat' (first | (with_reducible exact Below.refl _ _) | (with_reducible assumption) | (with_reducible refine Below.alloc ?_ ?_ _) | (with_reducible refine below_drewN ?_ _) | (with_reducible refine below_drew ?_) | (with_reducible refine below_ext ?_ ?_ _ _) | (with_reducible refine Below.setCell ?_ ?_ _) | (simp; done) | (simp; omega) | omega))))).mono ?_); rintro e w1 ⟨rfl, hb1⟩; obtain ⟨osC, dC, rfl⟩ := ext_of_below hb1; clear hb1)))
    all_goals
      go_wp2_with fail
      go_meet
      exact meet_w (by (repeat' (first | (with_reducible exact Below.refl _ _) | (with_reducible assumption) | (with_reducible refine Below.alloc ?_ ?_ _) | (with_reducible refine below_drewN ?_ _) | (with_reducible refine below_drew ?_) | (with_reducible refine below_ext ?_ ?_ _ _) | (with_reducible refine Below.setCell ?_ ?_ _) | (simp; done) | (simp; omega) | omega))) (by refine ⟨by first | (simp; done) | (simp; omega), ?_, ?_⟩ <;> simp [go_sem]) (by first | (simp; done) | (simp; omega))
  case rest =>
    obtain ⟨osR, dR, c', rfl, rfl, ⟨hcl, c0, c1⟩, hcg⟩ := hcut
    have c0' := ext_new hcg c0 (w.heap.size + 1 + 1 + osA.size) (by simp)
    have c1' := ext_new hcg c1 (w.heap.size + 1 + 1 + osA.size) (by simp)
    clear c0 c1 hcg
    simp only [ext_size, World.size_alloc] at hcl
    have hc1 := fun k => Nat.lt_add_right k hcl
    go_wp2_with (first
      | (go_at_call 57; ((with_reducible refine (H3.out _ (HT.out _ (by (repeat' (first | (with_reducible exact Below.refl _ _) | (with_reducible assumption) | (with_reducible refine Below.alloc ?_ ?_ _) | (with_reducible refine below_drewN ?_ _) | (with_reducible refine below_drew ?_) | (with_reducible refine below_ext ?_ ?_ _ _) | (with_reducible refine Below.setCell ?_ ?_ _) | (simp; done) | (simp; omega) | omega))))).mono ?_); rintro e w1 ⟨rfl, hb1⟩; obtain ⟨osD, dD, rfl⟩ := ext_of_below hb1; clear hb1)))
    go_returns
    exact ⟨rfl, by (repeat' (first | (with_reducible exact Below.refl _ _) | (with_reducible assumption) | (with_reducible refine Below.alloc ?_ ?_ _) | (with_reducible refine below_drewN ?_ _) | (with_reducible refine below_drew ?_) | (with_reducible refine below_ext ?_ ?_ _ _) | (with_reducible refine Below.setCell ?_ ?_ _) | (simp; done) | (simp; omega) | omega))⟩
theorem dround_up (neg : Bool) (c S n : Nat) (f : formB neg c (S : Int) = true) (h : S ≤ n) (hn : n ≤ 18) (w : World) (ht : Tens w) :
    Calls Tryd.prog 26 #[D neg c (S : Int), .int .i64 (n : Int)] w fun e w' => e = .returned (.tuple #[D neg c (S : Int), .int .i64 0]) ∧ Below w.heap.size w w' := by
  have HT := Lib.hid (fun w' (hb : Below w.heap.size w w') => ht.below hb)
  have F1 := Lib.hid (fun w ht => form_yes f w ht)
  have i1 : ¬ (n : Int) < 0 := by omega
  have i2 : ¬ (18 : Int) < (n : Int) := by omega
  have i3 : (S : Int) ≤ (n : Int) := by omega
  clear ht f
  go_enter Tryd.func26, Tryd.ntmps26
  go_wp2_with (first
    | (go_at_call 23; ((with_reducible refine (F1.out _ (HT.out _ (by (repeat' (first | (with_reducible exact Below.refl _ _) | (with_reducible assumption) | (with_reducible refine Below.alloc ?_ ?_ _) | (with_reducible refine below_drewN ?_ _) | (with_reducible refine below_drew ?_) | (with_reducible refine below_ext ?_ ?_ _ _) | (with_reducible refine Below.setCell ?_ ?_ _) | (simp; done) | (simp; omega) | omega))))).mono ?_); rintro e w1 ⟨rfl, hb1⟩; obtain ⟨osA, dA, rfl⟩ := ext_of_below hb1; clear hb1)))
  all_goals (go_returns; exact ⟨rfl, by (repeat' (first | (with_reducible exact Below.refl _ _) | (with_reducible assumption) | (with_reducible refine Below.alloc ?_ ?_ _) | (with_reducible refine below_drewN ?_ _) | (with_reducible refine below_drew ?_) | (with_reducible refine below_ext ?_ ?_ _ _) | (with_reducible refine Below.setCell ?_ ?_ _) | (simp; done) | (simp; omega) | omega))⟩)
theorem dround_arg (neg : Bool) (c : Nat) (s n : Int) (hn : n < 0 ∨ (¬ n < 0 ∧ 18 < n)) (w : World) :
    Calls Tryd.prog 26 #[D neg c s, .int .i64 n] w fun e w' => e = .returned (.tuple #[D false 0 0, .int .i64 1]) ∧ Below w.heap.size w w' := by
  rw [← dbad_D]
  rcases hn with hn | ⟨h0, hn⟩
  all_goals
    go_enter Tryd.func26, Tryd.ntmps26
    go_wp2
    go_returns
    exact ⟨rfl, by (repeat' (first | (with_reducible exact Below.refl _ _) | (with_reducible assumption) | (with_reducible refine Below.alloc ?_ ?_ _) | (with_reducible refine below_drewN ?_ _) | (with_reducible refine below_drew ?_) | (with_reducible refine below_ext ?_ ?_ _ _) | (with_reducible refine Below.setCell ?_ ?_ _) | (simp; done) | (simp; omega) | omega))⟩
theorem dround_bad (neg : Bool) (c : Nat) (s : Int) (n : Nat) (hn : n ≤ 18) (hc : c < top2) (f : formB neg c s = false) (w : World) (ht : Tens w) :
    Calls Tryd.prog 26 #[D neg c s, .int .i64 (n : Int)] w fun e w' => e = .returned (.tuple #[D false 0 0, .int .i64 2]) ∧ Below w.heap.size w w' := by
  have HT := Lib.hid (fun w' (hb : Below w.heap.size w w') => ht.below hb)
  have F1 := Lib.hid (fun w ht => form_no hc f w ht)
  rw [← dbad_D]
  have i1 : ¬ (n : Int) < 0 := by omega
  have i2 : ¬ (18 : Int) < (n : Int) := by omega
  clear ht f hc
  go_enter Tryd.func26, Tryd.ntmps26
  go_wp2_with (first
    | (go_at_call 23; ((with_reducible refine (F1.out _ (HT.out _ (by (repeat' (first | (with_reducible exact Below.refl _ _) | (with_reducible assumption) | (with_reducible refine Below.alloc ?_ ?_ _) | (with_reducible refine below_drewN ?_ _) | (with_reducible refine below_drew ?_) | (with_reducible refine below_ext ?_ ?_ _ _) | (with_reducible refine Below.setCell ?_ ?_ _) | (simp; done) | (simp; omega) | omega))))).mono ?_); rintro e w1 ⟨rfl, hb1⟩; obtain ⟨osA, dA, rfl⟩ := ext_of_below hb1; clear hb1)))
  go_returns
  exact ⟨rfl, by (repeat' (first | (with_reducible exact Below.refl _ _) | (with_reducible assumption) | (with_reducible refine Below.alloc ?_ ?_ _) | (with_reducible refine below_drewN ?_ _) | (with_reducible refine below_drew ?_) | (with_reducible refine below_ext ?_ ?_ _ _) | (with_reducible refine Below.setCell ?_ ?_ _) | (simp; done) | (simp; omega) | omega))⟩
end Go.Proofs.YtcnkcfbodpkllaaDoor
