/-
  The contract of dec.Div, of decimals in form and a divisor that isn't nought.
-/
import Derived.Test.YtcnkcfbodpkllaaDoorDRnds
import Derived.Test.YtcnkcfbodpkllaaDoorDProd
namespace Go.Proofs.YtcnkcfbodpkllaaDoor
open Go.RowKit Num Word
attribute [local go_sem] setCell_drewN cell?_ext frozen?_ext shape?_ext setCell_ext lt_1' ne_1' en_1' le_1' lt_2' ne_2' en_2' le_2' lt_3' ne_3' en_3' le_3' lt_4' ne_4' en_4' le_4' lt_5' ne_5' en_5' le_5' lt_6' ne_6' en_6' le_6' lt_7' ne_7' en_7' le_7' lt_8' ne_8' en_8' le_8' lt_9' ne_9' en_9' le_9' lt_10' ne_10' en_10' le_10' lt_11' ne_11' en_11' le_11' lt_12' ne_12' en_12' le_12'
attribute [local go_sem] lt_13' ne_13' en_13' le_13' lt_14' ne_14' en_14' le_14' lt_15' ne_15' en_15' le_15' lt_16' ne_16' en_16' le_16' lt_17' ne_17' en_17' le_17' lt_18' ne_18' en_18' le_18'

theorem raised_lt2 {c S m : Nat} (hc : c < 10 ^ 34) (h : m ≤ 37) : c * 10 ^ (m - S) < 10 ^ 71 := by
  have h1 : 10 ^ (m - S) ≤ 10 ^ 37 := Nat.pow_le_pow_right (by decide) (by omega)
  have h2 : c * 10 ^ (m - S) ≤ c * 10 ^ 37 := Nat.mul_le_mul_left _ h1
  have h3 : c * 10 ^ 37 < 10 ^ 34 * 10 ^ 37 := Nat.mul_lt_mul_of_pos_right hc (Fit.pp _)
  have h4 : 10 ^ 34 * 10 ^ 37 = 10 ^ 71 := rfl
  omega
set_option maxRecDepth 100000 in
set_option maxHeartbeats 16000000 in
theorem ddiv_ok (na nb : Bool) (ca cb : Nat) (sa sb : Int) (SA SB : Nat) (hA : sa = (SA : Int)) (hB : sb = (SB : Int)) (fa : formB na ca sa = true) (fb : formB nb cb sb = true) (g : Bool) (hg : g = (na != nb)) (F : Option (Nat × Nat)) (h0 : 0 < cb) (hF : F = Fit.fit (Fit.uni ca SA) (Fit.uni cb SB) 19) (w : World) (ht : Tens w) :
    Calls Tryd.prog 12 #[D na ca sa, D nb cb sb] w fun e w' => e = .returned (.tuple #[FV g F, .int .i64 (fitE F)]) ∧ Below w.heap.size w w' := by
  have HT := Lib.hid (fun w' (hb : Below w.heap.size w w') => ht.below hb)
  obtain ⟨SA', hA', hA18, cA, _, _⟩ := form_open fa
  obtain ⟨SB', hB', hB18, cB, _, _⟩ := form_open fb
  obtain rfl : SA = SA' := by omega
  obtain rfl : SB = SB' := by omega
  have F1 := Lib.hid (fun w ht => form_yes fa w ht)
  have F2 := Lib.hid (fun w ht => form_yes fb w ht)
  subst hA hB
  have hz := fun w => isZero_any nb cb (SB : Int) w
  rw [decide_eq_false (show ¬ cb = 0 by omega)] at hz
  have HZ := Lib.hid hz
  have r1 := fun w ht => raised_any na ca SA (19 + SB) (lt34_top2 cA) (by omega) (by omega) w ht
  have hAl := raised_lt2 (S := SA) cA (show 19 + SB ≤ 37 by omega)
  obtain ⟨A, hAA⟩ : ∃ A, A = ca * 10 ^ (19 + SB - SA) := ⟨_, rfl⟩
  rw [← hAA] at r1 hAl
  have E1 : (19 : Int) + (SB : Int) = ((19 + SB : Nat) : Int) := by omega
  obtain ⟨m, hm⟩ : ∃ m, m = 19 + SB := ⟨_, rfl⟩
  rw [← hm] at r1 E1
  have E2 : IntKind.i64.wrap (m : Int) = (m : Int) := IntWalk.i64_in _ (by omega)
  obtain ⟨q, hq⟩ : ∃ q, q = A / cb := ⟨_, rfl⟩
  obtain ⟨r, hr⟩ : ∃ r, r = A % cb := ⟨_, rfl⟩
  have h2 := fun w => div_q A cb q r hq hr (Nat.lt_trans hAl (by decide)) h0 (lt34_top2 cB) w
  have R1 := Lib.hid r1; have H2 := Lib.hid h2
  obtain ⟨d0, d1⟩ := div_fit hA18 hB18 h0 hAA hq hr
  have hqA : q ≤ A := by rw [hq]; exact Nat.div_le_self _ _
  have hq71 : q < 10 ^ 71 := Nat.lt_of_le_of_lt hqA hAl
  have t71 : 10 * 10 ^ 71 + 1 < top4 := by decide
  have f0 : r = 0 → ∀ w, Tens w → Calls Tryd.prog 35 #[.bool g, L q, .int .i64 19] w fun e w' => e = .returned (.tuple #[FV g F, .int .i64 (fitE F)]) ∧ Below w.heap.size w w' :=
    fun h w ht => dfit_any g q 19 F (by rw [hF, d0 h]) (by omega) (by omega) w ht
  have f1 : r ≠ 0 → ∀ w, Tens w → Calls Tryd.prog 35 #[.bool g, L (10 * q + 1), .int .i64 20] w fun e w' => e = .returned (.tuple #[FV g F, .int .i64 (fitE F)]) ∧ Below w.heap.size w w' :=
    fun h w ht => dfit_any g (10 * q + 1) 20 F (by rw [hF, d1 h]) (by omega) (by omega) w ht
  have hpu := fun w => push_any q (10 * q + 1) rfl (by omega) w
  obtain ⟨P, hP⟩ : ∃ P, P = 10 * q + 1 := ⟨_, rfl⟩
  rw [← hP] at f1 hpu
  have HP := Lib.hid hpu
  show Calls Tryd.prog 12 #[D na ca (SA : Int), D nb cb (SB : Int)] w fun e w' => e = .returned (.tuple #[D (g && decide (0 < fitC F)) (fitC F) (fitZ F), .int .i64 (fitE F)]) ∧ Below w.heap.size w w'
  unfold FV at f0 f1
  obtain ⟨vg, hvg⟩ : ∃ x, x = (g && decide (0 < fitC F)) := ⟨_, rfl⟩
  obtain ⟨vc, hvc⟩ : ∃ x, x = fitC F := ⟨_, rfl⟩
  obtain ⟨vz, hvz⟩ : ∃ x, x = fitZ F := ⟨_, rfl⟩
  obtain ⟨ve, hve⟩ : ∃ x, x = fitE F := ⟨_, rfl⟩
  rw [← hvg, ← hvc, ← hvz, ← hve] at f0 f1 ⊢
  have G0 := Lib.hid f0; have G1 := Lib.hid f1; have HG := Lib.hid hg
  clear ht fa fb hz r1 h2 hA' hB' cA cB d0 d1 hqA hq71 t71 f0 f1 hpu hP hvg hvc hvz hve hq hr hAA hAl hF hg h0 hm hA18 hB18
  go_enter Tryd.func12, Tryd.ntmps12
  go_upto_region 5 with (first
    | (go_at_call 23; ((with_reducible refine (F1.out _ (HT.out _ (by (repeat' (first | (with_reducible exact Below.refl _ _) | (with_reducible assumption) | (with_reducible refine Below.alloc ?_ ?_ _) | (with_reducible refine below_drewN ?_ _) | (with_reducible refine below_drew ?_) | (with_reducible refine below_ext ?_ ?_ _ _) | (with_reducible refine Below.setCell ?_ ?_ _) | (simp; done) | (simp; omega) | omega))))).mono ?_); rintro e w1 ⟨rfl, hb1⟩; obtain ⟨osA, dA, rfl⟩ := ext_of_below hb1; clear hb1))
    | (go_at_call 23; ((with_reducible refine (F2.out _ (HT.out _ (by (repeat' (first | (with_reducible exact Below.refl _ _) | (with_reducible assumption) | (with_reducible refine Below.alloc ?_ ?_ _) | (with_reducible refine below_drewN ?_ _) | (with_reducible refine below_drew ?_) | (with_reducible refine below_ext ?_ ?_ _ _) | (with_reducible refine Below.setCell ?_ ?_ _) | (simp; done) | (simp; omega) | omega))))).mono ?_); rintro e w1 ⟨rfl, hb1⟩; obtain ⟨osB, dB, rfl⟩ := ext_of_below hb1; clear hb1))
    | (go_at_call 38; ((with_reducible refine (HZ.out _).mono ?_); rintro e w1 ⟨rfl, hb1⟩; obtain ⟨osC, dC, rfl⟩ := ext_of_below hb1; clear hb1)))
  go_cut [6, 7] (fun s6 s7 wx => ∃ (os1 : Array Obj) (d1 : Nat) (os2 : Array Obj) (d2 c' : Nat), s6 = .pointer (some ⟨(ext (ext (ext (((w.alloc (.cells #[.bool na, .int .u64 (hi ca : Int), .int .u64 (lo ca : Int), .int .i64 (SA : Int)] 26)).alloc (.cells #[.bool nb, .int .u64 (hi cb : Int), .int .u64 (lo cb : Int), .int .i64 (SB : Int)] 26)).alloc (.cells #[.bool false, .int .u64 0, .int .u64 0, .int .i64 0] 26)) osA dA) osB dB) osC dC).heap.size + os1.size, 0, none⟩) ∧ s7 = .pointer (some ⟨c', 0, none⟩) ∧ wx = ext ((ext (ext (ext (ext (((w.alloc (.cells #[.bool na, .int .u64 (hi ca : Int), .int .u64 (lo ca : Int), .int .i64 (SA : Int)] 26)).alloc (.cells #[.bool nb, .int .u64 (hi cb : Int), .int .u64 (lo cb : Int), .int .i64 (SB : Int)] 26)).alloc (.cells #[.bool false, .int .u64 0, .int .u64 0, .int .i64 0] 26)) osA dA) osB dB) osC dC) os1 d1).alloc (.cells #[.int .u64 (w0 q : Int), .int .u64 (w1 q : Int), .int .u64 (w2 q : Int), .int .u64 (w3 q : Int)] 46)) os2 d2 ∧ WBox wx c' r)
  case first =>
    go_region_held3 (fun w' => w'.cell? ⟨w.heap.size, 0, none⟩ = some (.bool na) ∧ w'.cell? ⟨w.heap.size, 1, none⟩ = some (.int .u64 (hi ca : Int)) ∧ w'.cell? ⟨w.heap.size, 2, none⟩ = some (.int .u64 (lo ca : Int)) ∧ w'.cell? ⟨w.heap.size, 3, none⟩ = some (.int .i64 (SA : Int)) ∧ w'.cell? ⟨w.heap.size + 1, 0, none⟩ = some (.bool nb) ∧ w'.cell? ⟨w.heap.size + 1, 1, none⟩ = some (.int .u64 (hi cb : Int)) ∧ w'.cell? ⟨w.heap.size + 1, 2, none⟩ = some (.int .u64 (lo cb : Int)) ∧ w'.cell? ⟨w.heap.size + 1, 3, none⟩ = some (.int .i64 (SB : Int))) (first | (simp [go_sem]; done) | go_keep) (first
      | (go_at_call 40; ((with_reducible refine (R1.out _ (HT.out _ (by (repeat' (first | (with_reducible exact Below.refl _ _) | (with_reducible assumption) | (with_reducible refine Below.alloc ?_ ?_ _) | (with_reducible refine below_drewN ?_ _) | (with_reducible refine below_drew ?_) | (with_reducible refine below_ext ?_ ?_ _ _) | (with_reducible refine Below.setCell ?_ ?_ _) | (simp; done) | (simp; omega) | omega))))).mono ?_); rintro e w1 ⟨rfl, hb1⟩; obtain ⟨osD, dD, rfl⟩ := ext_of_below hb1; clear hb1))
      | (go_at_call 39; ((with_reducible refine (H2.out _).mono ?_); rintro e w1 ⟨rfl, hb1⟩; obtain ⟨osE, dE, rfl⟩ := ext_of_below hb1; clear hb1)))
    all_goals
      go_wp2_with fail
      go_meet
      apply meet_lw (Q := (.cells #[.int .u64 (w0 q : Int), .int .u64 (w1 q : Int), .int .u64 (w2 q : Int), .int .u64 (w3 q : Int)] 46))
      case h2 => (repeat' (first | (with_reducible exact Below.refl _ _) | (with_reducible assumption) | (with_reducible refine Below.alloc ?_ ?_ _) | (with_reducible refine below_drewN ?_ _) | (with_reducible refine below_drew ?_) | (with_reducible refine below_ext ?_ ?_ _ _) | (with_reducible refine Below.setCell ?_ ?_ _) | (simp; done) | (simp; omega) | omega))
      case h1 => (repeat' (first | (with_reducible exact Below.refl _ _) | (with_reducible assumption) | (with_reducible refine Below.alloc ?_ ?_ _) | (with_reducible refine below_drewN ?_ _) | (with_reducible refine below_drew ?_) | (with_reducible refine below_ext ?_ ?_ _ _) | (with_reducible refine Below.setCell ?_ ?_ _) | (simp; done) | (simp; omega) | omega))
      case ha => first | (simp; done) | (simp; omega)
      case hc => refine ⟨by first | (simp; done) | (simp; omega), ?_, ?_⟩ <;> simp [go_sem]
  case rest =>
    obtain ⟨os1, d1, os2, d2, c', rfl, rfl, rfl, ⟨hcl, c0, c1⟩⟩ := hcut
    simp only [ext_size, World.size_alloc]
    by_cases hr0 : r = 0
    · subst hr0
      have c0' : (ext ((ext (ext (ext (ext (((w.alloc (.cells #[.bool na, .int .u64 (hi ca : Int), .int .u64 (lo ca : Int), .int .i64 (SA : Int)] 26)).alloc (.cells #[.bool nb, .int .u64 (hi cb : Int), .int .u64 (lo cb : Int), .int .i64 (SB : Int)] 26)).alloc (.cells #[.bool false, .int .u64 0, .int .u64 0, .int .i64 0] 26)) osA dA) osB dB) osC dC) os1 d1).alloc (.cells #[.int .u64 (w0 q : Int), .int .u64 (w1 q : Int), .int .u64 (w2 q : Int), .int .u64 (w3 q : Int)] 46)) os2 d2).cell? ⟨c', 0, none⟩ = some (.int .u64 0) := c0
      have c1' : (ext ((ext (ext (ext (ext (((w.alloc (.cells #[.bool na, .int .u64 (hi ca : Int), .int .u64 (lo ca : Int), .int .i64 (SA : Int)] 26)).alloc (.cells #[.bool nb, .int .u64 (hi cb : Int), .int .u64 (lo cb : Int), .int .i64 (SB : Int)] 26)).alloc (.cells #[.bool false, .int .u64 0, .int .u64 0, .int .i64 0] 26)) osA dA) osB dB) osC dC) os1 d1).alloc (.cells #[.int .u64 (w0 q : Int), .int .u64 (w1 q : Int), .int .u64 (w2 q : Int), .int .u64 (w3 q : Int)] 46)) os2 d2).cell? ⟨c', 1, none⟩ = some (.int .u64 0) := c1
      have H5 := Lib.hid (G0.out rfl)
      clear G0 G1 c0 c1
      cases na <;> cases nb
      · obtain rfl : g = false := HG.out
        go_wp2_with (first
          | (go_at_call 35; ((with_reducible refine (H5.out _ (HT.out _ (by (repeat' (first | (with_reducible exact Below.refl _ _) | (with_reducible assumption) | (with_reducible refine Below.alloc ?_ ?_ _) | (with_reducible refine below_drewN ?_ _) | (with_reducible refine below_drew ?_) | (with_reducible refine below_ext ?_ ?_ _ _) | (with_reducible refine Below.setCell ?_ ?_ _) | (simp; done) | (simp; omega) | omega))))).mono ?_); rintro e w1 ⟨rfl, hb1⟩; obtain ⟨osH, dH, rfl⟩ := ext_of_below hb1; clear hb1)))
        go_returns
        exact ⟨rfl, by (repeat' (first | (with_reducible exact Below.refl _ _) | (with_reducible assumption) | (with_reducible refine Below.alloc ?_ ?_ _) | (with_reducible refine below_drewN ?_ _) | (with_reducible refine below_drew ?_) | (with_reducible refine below_ext ?_ ?_ _ _) | (with_reducible refine Below.setCell ?_ ?_ _) | (simp; done) | (simp; omega) | omega))⟩
      · obtain rfl : g = true := HG.out
        go_wp2_with (first
          | (go_at_call 35; ((with_reducible refine (H5.out _ (HT.out _ (by (repeat' (first | (with_reducible exact Below.refl _ _) | (with_reducible assumption) | (with_reducible refine Below.alloc ?_ ?_ _) | (with_reducible refine below_drewN ?_ _) | (with_reducible refine below_drew ?_) | (with_reducible refine below_ext ?_ ?_ _ _) | (with_reducible refine Below.setCell ?_ ?_ _) | (simp; done) | (simp; omega) | omega))))).mono ?_); rintro e w1 ⟨rfl, hb1⟩; obtain ⟨osH, dH, rfl⟩ := ext_of_below hb1; clear hb1)))
        go_returns
        exact ⟨rfl, by (repeat' (first | (with_reducible exact Below.refl _ _) | (with_reducible assumption) | (with_reducible refine Below.alloc ?_ ?_ _) | (with_reducible refine below_drewN ?_ _) | (with_reducible refine below_drew ?_) | (with_reducible refine below_ext ?_ ?_ _ _) | (with_reducible refine Below.setCell ?_ ?_ _) | (simp; done) | (simp; omega) | omega))⟩
      · obtain rfl : g = true := HG.out
        go_wp2_with (first
          | (go_at_call 35; ((with_reducible refine (H5.out _ (HT.out _ (by (repeat' (first | (with_reducible exact Below.refl _ _) | (with_reducible assumption) | (with_reducible refine Below.alloc ?_ ?_ _) | (with_reducible refine below_drewN ?_ _) | (with_reducible refine below_drew ?_) | (with_reducible refine below_ext ?_ ?_ _ _) | (with_reducible refine Below.setCell ?_ ?_ _) | (simp; done) | (simp; omega) | omega))))).mono ?_); rintro e w1 ⟨rfl, hb1⟩; obtain ⟨osH, dH, rfl⟩ := ext_of_below hb1; clear hb1)))
        go_returns
        exact ⟨rfl, by (repeat' (first | (with_reducible exact Below.refl _ _) | (with_reducible assumption) | (with_reducible refine Below.alloc ?_ ?_ _) | (with_reducible refine below_drewN ?_ _) | (with_reducible refine below_drew ?_) | (with_reducible refine below_ext ?_ ?_ _ _) | (with_reducible refine Below.setCell ?_ ?_ _) | (simp; done) | (simp; omega) | omega))⟩
      · obtain rfl : g = false := HG.out
        go_wp2_with (first
          | (go_at_call 35; ((with_reducible refine (H5.out _ (HT.out _ (by (repeat' (first | (with_reducible exact Below.refl _ _) | (with_reducible assumption) | (with_reducible refine Below.alloc ?_ ?_ _) | (with_reducible refine below_drewN ?_ _) | (with_reducible refine below_drew ?_) | (with_reducible refine below_ext ?_ ?_ _ _) | (with_reducible refine Below.setCell ?_ ?_ _) | (simp; done) | (simp; omega) | omega))))).mono ?_); rintro e w1 ⟨rfl, hb1⟩; obtain ⟨osH, dH, rfl⟩ := ext_of_below hb1; clear hb1)))
        go_returns
        exact ⟨rfl, by (repeat' (first | (with_reducible exact Below.refl _ _) | (with_reducible assumption) | (with_reducible refine Below.alloc ?_ ?_ _) | (with_reducible refine below_drewN ?_ _) | (with_reducible refine below_drew ?_) | (with_reducible refine below_ext ?_ ?_ _ _) | (with_reducible refine Below.setCell ?_ ?_ _) | (simp; done) | (simp; omega) | omega))⟩
    · have H5 := Lib.hid (G1.out hr0)
      have hnz := word_ne (b := r) (by omega)
      clear G0 G1 hr0
      rcases hnz with nz | ⟨nz, nz'⟩
      all_goals
        cases na <;> cases nb
        · obtain rfl : g = false := HG.out
          go_wp2_with (first
            | (go_at_call 41; ((with_reducible refine (HP.out _).mono ?_); rintro e w1 ⟨rfl, hb1⟩; obtain ⟨osG, dG, rfl⟩ := ext_of_below hb1; clear hb1))
            | (go_at_call 35; ((with_reducible refine (H5.out _ (HT.out _ (by (repeat' (first | (with_reducible exact Below.refl _ _) | (with_reducible assumption) | (with_reducible refine Below.alloc ?_ ?_ _) | (with_reducible refine below_drewN ?_ _) | (with_reducible refine below_drew ?_) | (with_reducible refine below_ext ?_ ?_ _ _) | (with_reducible refine Below.setCell ?_ ?_ _) | (simp; done) | (simp; omega) | omega))))).mono ?_); rintro e w1 ⟨rfl, hb1⟩; obtain ⟨osH, dH, rfl⟩ := ext_of_below hb1; clear hb1)))
          go_returns
          exact ⟨rfl, by (repeat' (first | (with_reducible exact Below.refl _ _) | (with_reducible assumption) | (with_reducible refine Below.alloc ?_ ?_ _) | (with_reducible refine below_drewN ?_ _) | (with_reducible refine below_drew ?_) | (with_reducible refine below_ext ?_ ?_ _ _) | (with_reducible refine Below.setCell ?_ ?_ _) | (simp; done) | (simp; omega) | omega))⟩
        · obtain rfl : g = true := HG.out
          go_wp2_with (first
            | (go_at_call 41; ((with_reducible refine (HP.out _).mono ?_); rintro e w1 ⟨rfl, hb1⟩; obtain ⟨osG, dG, rfl⟩ := ext_of_below hb1; clear hb1))
            | (go_at_call 35; ((with_reducible refine (H5.out _ (HT.out _ (by (repeat' (first | (with_reducible exact Below.refl _ _) | (with_reducible assumption) | (with_reducible refine Below.alloc ?_ ?_ _) | (with_reducible refine below_drewN ?_ _) | (with_reducible refine below_drew ?_) | (with_reducible refine below_ext ?_ ?_ _ _) | (with_reducible refine Below.setCell ?_ ?_ _) | (simp; done) | (simp; omega) | omega))))).mono ?_); rintro e w1 ⟨rfl, hb1⟩; obtain ⟨osH, dH, rfl⟩ := ext_of_below hb1; clear hb1)))
          go_returns
          exact ⟨rfl, by (repeat' (first | (with_reducible exact Below.refl _ _) | (with_reducible assumption) | (with_reducible refine Below.alloc ?_ ?_ _) | (with_reducible refine below_drewN ?_ _) | (with_reducible refine below_drew ?_) | (with_reducible refine below_ext ?_ ?_ _ _) | (with_reducible refine Below.setCell ?_ ?_ _) | (simp; done) | (simp; omega) | omega))⟩
        · obtain rfl : g = true := HG.out
          go_wp2_with (first
            | (go_at_call 41; ((with_reducible refine (HP.out _).mono ?_); rintro e w1 ⟨rfl, hb1⟩; obtain ⟨osG, dG, rfl⟩ := ext_of_below hb1; clear hb1))
            | (go_at_call 35; ((with_reducible refine (H5.out _ (HT.out _ (by (repeat' (first | (with_reducible exact Below.refl _ _) | (with_reducible assumption) | (with_reducible refine Below.alloc ?_ ?_ _) | (with_reducible refine below_drewN ?_ _) | (with_reducible refine below_drew ?_) | (with_reducible refine below_ext ?_ ?_ _ _) | (with_reducible refine Below.setCell ?_ ?_ _) | (simp; done) | (simp; omega) | omega))))).mono ?_); rintro e w1 ⟨rfl, hb1⟩; obtain ⟨osH, dH, rfl⟩ := ext_of_below hb1; clear hb1)))
          go_returns
          exact ⟨rfl, by (repeat' (first | (with_reducible exact Below.refl _ _) | (with_reducible assumption) | (with_reducible refine Below.alloc ?_ ?_ _) | (with_reducible refine below_drewN ?_ _) | (with_reducible refine below_drew ?_) | (with_reducible refine below_ext ?_ ?_ _ _) | (with_reducible refine Below.setCell ?_ ?_ _) | (simp; done) | (simp; omega) | omega))⟩
        · obtain rfl : g = false := HG.out
          go_wp2_with (first
            | (go_at_call 41; ((with_reducible refine (HP.out _).mono ?_); rintro e w1 ⟨rfl, hb1⟩; obtain ⟨osG, dG, rfl⟩ := ext_of_below hb1; clear hb1))
            | (go_at_call 35; ((with_reducible refine (H5.out _ (HT.out _ (by (repeat' (first | (with_reducible exact Below.refl _ _) | (with_reducible assumption) | (with_reducible refine Below.alloc ?_ ?_ _) | (with_reducible refine below_drewN ?_ _) | (with_reducible refine below_drew ?_) | (with_reducible refine below_ext ?_ ?_ _ _) | (with_reducible refine Below.setCell ?_ ?_ _) | (simp; done) | (simp; omega) | omega))))).mono ?_); rintro e w1 ⟨rfl, hb1⟩; obtain ⟨osH, dH, rfl⟩ := ext_of_below hb1; clear hb1)))
          go_returns
          exact ⟨rfl, by (repeat' (first | (with_reducible exact Below.refl _ _) | (with_reducible assumption) | (with_reducible refine Below.alloc ?_ ?_ _) | (with_reducible refine below_drewN ?_ _) | (with_reducible refine below_drew ?_) | (with_reducible refine below_ext ?_ ?_ _ _) | (with_reducible refine Below.setCell ?_ ?_ _) | (simp; done) | (simp; omega) | omega))⟩
end Go.Proofs.YtcnkcfbodpkllaaDoor
