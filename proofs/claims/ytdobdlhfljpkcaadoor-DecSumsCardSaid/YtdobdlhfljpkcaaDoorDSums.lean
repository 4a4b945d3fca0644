/-
  The law DecSums.
-/
import Derived.Test.YtdobdlhfljpkcaaDoorDocOne
import Derived.Test.YtdobdlhfljpkcaaDoorUndoBase
namespace Go.Proofs.YtdobdlhfljpkcaaDoor
open Go.RowKit Num Word
attribute [local go_sem] setCell_drewN cell?_ext frozen?_ext shape?_ext setCell_ext lt_1' ne_1' en_1' le_1' lt_2' ne_2' en_2' le_2' lt_3' ne_3' en_3' le_3' lt_4' ne_4' en_4' le_4' lt_5' ne_5' en_5' le_5' lt_6' ne_6' en_6' le_6' lt_7' ne_7' en_7' le_7' lt_8' ne_8' en_8' le_8' lt_9' ne_9' en_9' le_9' lt_10' ne_10' en_10' le_10' lt_11' ne_11' en_11' le_11' lt_12' ne_12' en_12' le_12'
attribute [local go_sem] lt_13' ne_13' en_13' le_13' lt_14' ne_14' en_14' le_14' lt_15' ne_15' en_15' le_15' lt_16' ne_16' en_16' le_16' lt_17' ne_17' en_17' le_17' lt_18' ne_18' en_18' le_18' lt_19' ne_19' en_19' le_19' lt_20' ne_20' en_20' le_20' lt_21' ne_21' en_21' le_21' lt_22' ne_22' en_22' le_22' lt_23' ne_23' en_23' le_23' lt_24' ne_24' en_24' le_24' lt_25' ne_25' en_25' le_25' lt_26' ne_26' en_26' le_26'

theorem form_uni_pos {c S : Nat} (h3 : S = 0 → true = true → c ≠ 0) (h4 : S ≠ 0 → c % 10 ≠ 0) : 0 < Fit.uni c S := by
  have : 0 < c := by
    rcases Nat.eq_zero_or_pos S with h | h
    · have := h3 h rfl; omega
    · have := h4 (by omega); omega
  exact Nat.mul_pos this (Fit.pp _)
set_option maxHeartbeats 4000000 in
theorem docCmpD_ok (na nb : Bool) (ca cb : Nat) (sa sb : Int) (SA SB : Nat) (hA : sa = (SA : Int)) (hB : sb = (SB : Int)) (fa : formB na ca sa = true) (fb : formB nb cb sb = true) (r : Int) (hr : r = ordV na (Fit.uni ca SA) nb (Fit.uni cb SB)) (w : World) :
    Calls Tryd.prog 26 #[D na ca sa, D nb cb sb] w fun e w' => e = .returned (.tuple #[.int .i64 r, .int .i64 0]) ∧ Below w.heap.size w w' := by
  obtain ⟨SA', hA', hA18, cA, a3, a4⟩ := form_open fa
  obtain ⟨SB', hB', hB18, cB, b3, b4⟩ := form_open fb
  obtain rfl : SA = SA' := by omega
  obtain rfl : SB = SB' := by omega
  have H0 := Lib.hid (fun w => rforms_yes fa fb w)
  subst hA hB
  have hn : ¬ na = nb → 0 < Fit.uni ca SA + Fit.uni cb SB := by
    intro h
    cases na
    · cases nb
      · exact absurd rfl h
      · have := form_uni_pos b3 b4; omega
    · have := form_uni_pos a3 a4; omega
  have H1 := Lib.hid (fun w => order_ok na nb ca cb SA SB hA18 hB18 cA cB r hn hr w)
  clear fa fb hr hn cA cB a3 a4 b3 b4 hA' hB'
  go_enter Tryd.func26, Tryd.ntmps26
  go_wp2_with (first
    | (go_at_call 76; ((with_reducible refine (H0.out _).mono ?_); rintro e w1 ⟨rfl, hb1⟩; obtain ⟨osA, dA, rfl⟩ := ext_of_below hb1; clear hb1))
    | (go_at_call 77; ((with_reducible refine (H1.out _).mono ?_); rintro e w1 ⟨rfl, hb1⟩; obtain ⟨osB, dB, rfl⟩ := ext_of_below hb1; clear hb1)))
  go_returns
  exact ⟨rfl, by (repeat' (first | (with_reducible exact Below.refl _ _) | (with_reducible assumption) | (with_reducible refine Below.alloc ?_ ?_ _) | (with_reducible refine below_drewN ?_ _) | (with_reducible refine below_drew ?_) | (with_reducible refine below_ext ?_ ?_ _ _) | (with_reducible refine Below.setCell ?_ ?_ _) | (simp; done) | (simp; omega) | omega))⟩
section
variable (na nb : Bool) (ca cb : Nat) (sa sb : Int)
theorem cmpPair (ha : ca < top2) (hb : cb < top2) : ∃ r e0 : Int,
    (∀ w, Tens w → Calls Tryd.prog 27 #[D na ca sa, D nb cb sb] w fun e w' => e = .returned (.tuple #[.int .i64 r, .int .i64 e0]) ∧ Below w.heap.size w w') ∧
    (∀ w, Calls Tryd.prog 26 #[D na ca sa, D nb cb sb] w fun e w' => e = .returned (.tuple #[.int .i64 r, .int .i64 e0]) ∧ Below w.heap.size w w') := by
  cases fa : formB na ca sa with
  | false => exact ⟨0, 2, fun w ht => dcmp_bad1 na nb ca cb sa sb ha fa w ht, fun w => DocCmpD_bad na nb ca cb sa sb ha hb (by rw [fa]; rfl) w⟩
  | true =>
    cases fb : formB nb cb sb with
    | false => exact ⟨0, 2, fun w ht => dcmp_bad2 na nb ca cb sa sb fa hb fb w ht, fun w => DocCmpD_bad na nb ca cb sa sb ha hb (by rw [fa, fb]; rfl) w⟩
    | true =>
      obtain ⟨SA, hA, _⟩ := form_open fa
      obtain ⟨SB, hB, _⟩ := form_open fb
      exact ⟨_, 0, fun w ht => dcmp_ok na nb ca cb sa sb SA SB hA hB fa fb _ rfl w ht, fun w => docCmpD_ok na nb ca cb sa sb SA SB hA hB fa fb _ rfl w⟩
theorem negPair (ha : ca < top2) : ∃ n c s e0,
    (∀ w, Tens w → Calls Tryd.prog 29 #[D na ca sa] w fun e w' => e = .returned (.tuple #[D n c s, .int .i64 e0]) ∧ Below w.heap.size w w') ∧
    (∀ w, Calls Tryd.prog 28 #[D na ca sa] w fun e w' => e = .returned (.tuple #[D n c s, .int .i64 e0]) ∧ Below w.heap.size w w') := by
  cases fa : formB na ca sa with
  | false => exact ⟨false, 0, 0, 2, fun w ht => dneg_bad na ca sa ha fa w ht, fun w => DocNegD_bad na ca sa ha fa w⟩
  | true => exact ⟨_, _, _, 0, fun w ht => dneg_ok na ca sa fa w ht, fun w => docNegD_ok na ca sa fa w⟩
theorem absPair (ha : ca < top2) : ∃ n c s e0,
    (∀ w, Tens w → Calls Tryd.prog 31 #[D na ca sa] w fun e w' => e = .returned (.tuple #[D n c s, .int .i64 e0]) ∧ Below w.heap.size w w') ∧
    (∀ w, Calls Tryd.prog 30 #[D na ca sa] w fun e w' => e = .returned (.tuple #[D n c s, .int .i64 e0]) ∧ Below w.heap.size w w') := by
  cases fa : formB na ca sa with
  | false => exact ⟨false, 0, 0, 2, fun w ht => dabs_bad na ca sa ha fa w ht, fun w => DocAbsD_bad na ca sa ha fa w⟩
  | true => exact ⟨_, _, _, 0, fun w ht => dabs_ok na ca sa fa w ht, fun w => docAbsD_ok na ca sa fa w⟩
theorem addPair_in (fa : formB na ca sa = true) (fb : formB nb cb sb = true) : ∃ n c s e0,
    (∀ w, Tens w → Calls Tryd.prog 33 #[D na ca sa, D nb cb sb] w fun e w' => e = .returned (.tuple #[D n c s, .int .i64 e0]) ∧ Below w.heap.size w w') ∧
    (∀ w, Calls Tryd.prog 32 #[D na ca sa, D nb cb sb] w fun e w' => e = .returned (.tuple #[D n c s, .int .i64 e0]) ∧ Below w.heap.size w w') := by
  obtain ⟨SA, hA, _⟩ := form_open fa
  obtain ⟨SB, hB, _⟩ := form_open fb
  exact ⟨_, _, _, _, fun w ht => dadd_ok na nb ca cb sa sb SA SB hA hB fa fb _ _ rfl rfl w ht, fun w => docAddD_ok na nb ca cb sa sb SA SB hA hB fa fb _ _ rfl rfl w⟩
theorem addPair (ha : ca < top2) (hb : cb < top2) : ∃ n c s e0,
    (∀ w, Tens w → Calls Tryd.prog 33 #[D na ca sa, D nb cb sb] w fun e w' => e = .returned (.tuple #[D n c s, .int .i64 e0]) ∧ Below w.heap.size w w') ∧
    (∀ w, Calls Tryd.prog 32 #[D na ca sa, D nb cb sb] w fun e w' => e = .returned (.tuple #[D n c s, .int .i64 e0]) ∧ Below w.heap.size w w') := by
  cases fa : formB na ca sa with
  | false => exact ⟨false, 0, 0, 2, fun w ht => dadd_bad1 na nb ca cb sa sb ha fa w ht, fun w => DocAddD_bad na nb ca cb sa sb ha hb (by rw [fa]; rfl) w⟩
  | true =>
    cases fb : formB nb cb sb with
    | false => exact ⟨false, 0, 0, 2, fun w ht => dadd_bad2 na nb ca cb sa sb fa hb fb w ht, fun w => DocAddD_bad na nb ca cb sa sb ha hb (by rw [fa, fb]; rfl) w⟩
    | true => exact addPair_in na nb ca cb sa sb fa fb
theorem subPair (ha : ca < top2) (hb : cb < top2) : ∃ n c s e0,
    (∀ w, Tens w → Calls Tryd.prog 35 #[D na ca sa, D nb cb sb] w fun e w' => e = .returned (.tuple #[D n c s, .int .i64 e0]) ∧ Below w.heap.size w w') ∧
    (∀ w, Calls Tryd.prog 34 #[D na ca sa, D nb cb sb] w fun e w' => e = .returned (.tuple #[D n c s, .int .i64 e0]) ∧ Below w.heap.size w w') := by
  cases fa : formB na ca sa with
  | false => exact ⟨false, 0, 0, 2, fun w ht => dsub_bad1 na nb ca cb sa sb ha fa w ht, fun w => DocSubD_bad na nb ca cb sa sb ha hb (by rw [fa]; rfl) w⟩
  | true =>
    cases fb : formB nb cb sb with
    | false => exact ⟨false, 0, 0, 2, fun w ht => dsub_bad2 na nb ca cb sa sb fa hb fb w ht, fun w => DocSubD_bad na nb ca cb sa sb ha hb (by rw [fa, fb]; rfl) w⟩
    | true =>
      obtain ⟨n, c, s, e0, h1, h2⟩ := addPair_in na (flip nb cb) ca cb sa sb fa (flip_form fb)
      exact ⟨n, c, s, e0, fun w ht => dsub_ok na nb ca cb sa sb fa fb n c s e0 h1 w ht, fun w => docSubD_ok na nb ca cb sa sb fa fb n c s e0 h2 w⟩
end
set_option maxRecDepth 100000 in
set_option maxHeartbeats 16000000 in
theorem decSums_law (na : Bool) (ca : Nat) (sa : Int) (nb : Bool) (cb : Nat) (sb : Int) (ha : ca < top2) (_za : (Lit.int .i64 sa).wf = true) (hb : cb < top2) (_zb : (Lit.int .i64 sb).wf = true) (w : World) (ht : Tens w) :
    Calls Tryd.prog 5 #[D na ca sa, D nb cb sb] w fun e w' => e = .returned (.bool true) ∧ Below w.heap.size w w' := by
  have HT := Lib.hid (fun w' (hb : Below w.heap.size w w') => ht.below hb)
  obtain ⟨r, e1, c1, c2⟩ := cmpPair na nb ca cb sa sb ha hb
  obtain ⟨n2, k2, s2, e2, d1, d2⟩ := negPair na ca sa ha
  obtain ⟨n3, k3, s3, e3, f1, f2⟩ := absPair na ca sa ha
  obtain ⟨n4, k4, s4, e4, g1, g2⟩ := addPair na nb ca cb sa sb ha hb
  obtain ⟨n5, k5, s5, e5, h1, h2⟩ := subPair na nb ca cb sa sb ha hb
  have C1 := Lib.hid c1; have C2 := Lib.hid c2; have D1 := Lib.hid d1; have D2 := Lib.hid d2; have F1 := Lib.hid f1; have F2 := Lib.hid f2; have G1 := Lib.hid g1; have G2 := Lib.hid g2; have H1 := Lib.hid h1; have H2 := Lib.hid h2
  clear c1 c2 d1 d2 f1 f2 g1 g2 h1 h2 ht ha hb _za _zb
  go_enter Tryd.func5, Tryd.ntmps5
  go_wp2_with (first
    | (go_at_call 17; ((with_reducible refine (knownD _ (HT.out _ (by (repeat' (first | (with_reducible exact Below.refl _ _) | (with_reducible assumption) | (with_reducible refine Below.alloc ?_ ?_ _) | (with_reducible refine below_drewN ?_ _) | (with_reducible refine below_drew ?_) | (with_reducible refine below_ext ?_ ?_ _ _) | (with_reducible refine Below.setCell ?_ ?_ _) | (simp; done) | (simp; omega) | omega))))).mono ?_); rintro e w1 ⟨rfl, hb1⟩; obtain ⟨osA, dA, rfl⟩ := ext_of_below hb1; clear hb1))
    | (go_at_call 26; ((with_reducible refine (C2.out _).mono ?_); rintro e w1 ⟨rfl, hb1⟩; obtain ⟨osB, dB, rfl⟩ := ext_of_below hb1; clear hb1))
    | (go_at_call 27; ((with_reducible refine (C1.out _ (HT.out _ (by (repeat' (first | (with_reducible exact Below.refl _ _) | (with_reducible assumption) | (with_reducible refine Below.alloc ?_ ?_ _) | (with_reducible refine below_drewN ?_ _) | (with_reducible refine below_drew ?_) | (with_reducible refine below_ext ?_ ?_ _ _) | (with_reducible refine Below.setCell ?_ ?_ _) | (simp; done) | (simp; omega) | omega))))).mono ?_); rintro e w1 ⟨rfl, hb1⟩; obtain ⟨osC, dC, rfl⟩ := ext_of_below hb1; clear hb1))
    | (go_at_call 28; ((with_reducible refine (D2.out _).mono ?_); rintro e w1 ⟨rfl, hb1⟩; obtain ⟨osD, dD, rfl⟩ := ext_of_below hb1; clear hb1))
    | (go_at_call 29; ((with_reducible refine (D1.out _ (HT.out _ (by (repeat' (first | (with_reducible exact Below.refl _ _) | (with_reducible assumption) | (with_reducible refine Below.alloc ?_ ?_ _) | (with_reducible refine below_drewN ?_ _) | (with_reducible refine below_drew ?_) | (with_reducible refine below_ext ?_ ?_ _ _) | (with_reducible refine Below.setCell ?_ ?_ _) | (simp; done) | (simp; omega) | omega))))).mono ?_); rintro e w1 ⟨rfl, hb1⟩; obtain ⟨osE, dE, rfl⟩ := ext_of_below hb1; clear hb1))
    | (go_at_call 30; ((with_reducible refine (F2.out _).mono ?_); rintro e w1 ⟨rfl, hb1⟩; obtain ⟨osF, dF, rfl⟩ := ext_of_below hb1; clear hb1))
    | (go_at_call 31; ((with_reducible refine (F1.out _ (HT.out _ (by (repeat' (first | (with_reducible exact Below.refl _ _) | (with_reducible assumption) | (with_reducible refine Below.alloc ?_ ?_ _) | (with_reducible refine below_drewN ?_ _) | (with_reducible refine below_drew ?_) | (with_reducible refine below_ext ?_ ?_ _ _) | (with_reducible refine Below.setCell ?_ ?_ _) | (simp; done) | (simp; omega) | omega))))).mono ?_); rintro e w1 ⟨rfl, hb1⟩; obtain ⟨osG, dG, rfl⟩ := ext_of_below hb1; clear hb1))
    | (go_at_call 32; ((with_reducible refine (G2.out _).mono ?_); rintro e w1 ⟨rfl, hb1⟩; obtain ⟨osH, dH, rfl⟩ := ext_of_below hb1; clear hb1))
    | (go_at_call 33; ((with_reducible refine (G1.out _ (HT.out _ (by (repeat' (first | (with_reducible exact Below.refl _ _) | (with_reducible assumption) | (with_reducible refine Below.alloc ?_ ?_ _) | (with_reducible refine below_drewN ?_ _) | (with_reducible refine below_drew ?_) | (with_reducible refine below_ext ?_ ?_ _ _) | (with_reducible refine Below.setCell ?_ ?_ _) | (simp; done) | (simp; omega) | omega))))).mono ?_); rintro e w1 ⟨rfl, hb1⟩; obtain ⟨osI, dI, rfl⟩ := ext_of_below hb1; clear hb1))
    | (go_at_call 34; ((with_reducible refine (H2.out _).mono ?_); rintro e w1 ⟨rfl, hb1⟩; obtain ⟨osJ, dJ, rfl⟩ := ext_of_below hb1; clear hb1))
    | (go_at_call 35; ((with_reducible refine (H1.out _ (HT.out _ (by (repeat' (first | (with_reducible exact Below.refl _ _) | (with_reducible assumption) | (with_reducible refine Below.alloc ?_ ?_ _) | (with_reducible refine below_drewN ?_ _) | (with_reducible refine below_drew ?_) | (with_reducible refine below_ext ?_ ?_ _ _) | (with_reducible refine Below.setCell ?_ ?_ _) | (simp; done) | (simp; omega) | omega))))).mono ?_); rintro e w1 ⟨rfl, hb1⟩; obtain ⟨osK, dK, rfl⟩ := ext_of_below hb1; clear hb1)))
  go_ret
  exact ⟨rfl, by (repeat' (first | (with_reducible exact Below.refl _ _) | (with_reducible assumption) | (with_reducible refine Below.alloc ?_ ?_ _) | (with_reducible refine below_drewN ?_ _) | (with_reducible refine below_drew ?_) | (with_reducible refine below_ext ?_ ?_ _ _) | (with_reducible refine Below.setCell ?_ ?_ _) | (simp; done) | (simp; omega) | omega))⟩
end Go.Proofs.YtdobdlhfljpkcaaDoor
