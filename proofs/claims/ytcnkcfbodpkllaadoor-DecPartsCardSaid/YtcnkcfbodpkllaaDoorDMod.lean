/-
  The law DecProducts: the rest of a division; a divisor of nought; the law.
-/
import Derived.Test.YtcnkcfbodpkllaaDoorDQuot
import Derived.Test.YtcnkcfbodpkllaaDoorEqual
namespace Go.Proofs.YtcnkcfbodpkllaaDoor
open Go.RowKit Num Word
attribute [local go_sem] setCell_drewN cell?_ext frozen?_ext shape?_ext setCell_ext lt_1' ne_1' en_1' le_1' lt_2' ne_2' en_2' le_2' lt_3' ne_3' en_3' le_3' lt_4' ne_4' en_4' le_4' lt_5' ne_5' en_5' le_5' lt_6' ne_6' en_6' le_6' lt_7' ne_7' en_7' le_7' lt_8' ne_8' en_8' le_8' lt_9' ne_9' en_9' le_9' lt_10' ne_10' en_10' le_10' lt_11' ne_11' en_11' le_11' lt_12' ne_12' en_12' le_12'
attribute [local go_sem] long_eqIn lt_13' ne_13' en_13' le_13' lt_14' ne_14' en_14' le_14' lt_15' ne_15' en_15' le_15' lt_16' ne_16' en_16' le_16' lt_17' ne_17' en_17' le_17' lt_18' ne_18' en_18' le_18'

set_option maxRecDepth 100000 in
set_option maxHeartbeats 4000000 in
theorem remainder_any (x y r : Nat) (hr : r = x % y) (hx : x < top4) (hy0 : 0 < y) (hy : y < top4) (hs : y < top2 ∨ x < y) (w : World) :
    Calls Tryd.prog 44 #[L x, L y] w fun e w' => e = .returned (L r) ∧ Below w.heap.size w w' := by
  by_cases h : y < top2
  · have hr2 : r < top2 := by rw [hr]; exact Nat.lt_trans (Nat.mod_lt _ hy0) h
    have H1 := Lib.hid (fun w => narrow_ok y h w)
    have H2 := Lib.hid (fun w => div_q x y (x / y) r rfl hr hx hy0 h w)
    have H3 := Lib.hid (fun w => dlong_any r hr2 w)
    obtain ⟨q, hq⟩ : ∃ q, q = x / y := ⟨_, rfl⟩
    rw [← hq] at H2
    clear hr hx hy0 hy hs h hr2 hq
    go_enter Tryd.func44, Tryd.ntmps44
    go_wp2_with (first
      | (go_at_call 69; ((with_reducible refine (H1.out _).mono ?_); rintro e w1 ⟨rfl, hb1⟩; obtain ⟨osA, dA, rfl⟩ := ext_of_below hb1; clear hb1))
      | (go_at_call 39; ((with_reducible refine (H2.out _).mono ?_); rintro e w1 ⟨rfl, hb1⟩; obtain ⟨osB, dB, rfl⟩ := ext_of_below hb1; clear hb1))
      | (go_at_call 54; ((with_reducible refine (H3.out _).mono ?_); rintro e w1 ⟨rfl, hb1⟩; obtain ⟨osC, dC, rfl⟩ := ext_of_below hb1; clear hb1)))
    go_returns
    exact ⟨rfl, by (repeat' (first | (with_reducible exact Below.refl _ _) | (with_reducible assumption) | (with_reducible refine Below.alloc ?_ ?_ _) | (with_reducible refine below_drewN ?_ _) | (with_reducible refine below_drew ?_) | (with_reducible refine below_ext ?_ ?_ _ _) | (with_reducible refine Below.setCell ?_ ?_ _) | (simp; done) | (simp; omega) | omega))⟩
  · have H1 := Lib.hid (fun w => narrow_over y hy (by omega) w)
    obtain rfl : r = x := by rw [hr]; exact Nat.mod_eq_of_lt (by omega)
    clear hr hx hy0 hy hs h
    go_enter Tryd.func44, Tryd.ntmps44
    go_wp2_with (first
      | (go_at_call 69; ((with_reducible refine (H1.out _).mono ?_); rintro e w1 ⟨rfl, hb1⟩; obtain ⟨osA, dA, rfl⟩ := ext_of_below hb1; clear hb1)))
    go_returns
    exact ⟨rfl, by (repeat' (first | (with_reducible exact Below.refl _ _) | (with_reducible assumption) | (with_reducible refine Below.alloc ?_ ?_ _) | (with_reducible refine below_drewN ?_ _) | (with_reducible refine below_drew ?_) | (with_reducible refine below_ext ?_ ?_ _ _) | (with_reducible refine Below.setCell ?_ ?_ _) | (simp; done) | (simp; omega) | omega))⟩
/-- the rest of a division that is rounded down -/
def modN (d : Bool) (x y : Nat) : Nat := if d = true ∧ x % y ≠ 0 then y - x % y else x % y
theorem modN_scale (d : Bool) (x y P : Nat) (hP : 0 < P) : modN d (x * P) (y * P) = modN d x y * P := by
  unfold modN
  rw [Nat.mul_mod_mul_right]
  have e : (x % y * P ≠ 0) ↔ (x % y ≠ 0) := by
    constructor
    · intro h h2; rw [h2, Nat.zero_mul] at h; exact h rfl
    · intro h h2
      rcases Nat.mul_eq_zero.1 h2 with h3 | h3
      · exact h h3
      · omega
  by_cases h : d = true ∧ x % y ≠ 0
  · rw [if_pos h, if_pos ⟨h.1, e.2 h.2⟩, Nat.sub_mul]
  · rw [if_neg h, if_neg (fun h2 => h ⟨h2.1, e.1 h2.2⟩)]
theorem modN_le {d : Bool} {x y : Nat} (h : 0 < y) : modN d x y ≤ y := by
  have := Nat.mod_lt x h
  unfold modN
  split <;> omega
theorem modN_units (d : Bool) (ca SA cb SB m : Nat) (h1 : SA ≤ m) (h2 : SB ≤ m) (h3 : m ≤ 18) :
    Fit.fit (modN d (Fit.uni ca SA) (Fit.uni cb SB)) (10 ^ 18) 19 = Fit.fit (modN d (ca * 10 ^ (m - SA)) (cb * 10 ^ (m - SB))) (10 ^ m) 19 := by
  rw [Fit.uni_raised ca SA m h1 h3, Fit.uni_raised cb SB m h2 h3, modN_scale _ _ _ _ (Fit.pp _)]
  exact (Fit.fit_uni _ m h3 19).symm
/-- four words that are not all nought -/
theorem long_ne {n : Nat} (h : n < top4) (h0 : 0 < n) : ((w0 n : Int) == 0 && ((w1 n : Int) == 0 && ((w2 n : Int) == 0 && (w3 n : Int) == 0))) = false := by
  have hw := words4 h
  by_cases a : w0 n = 0
  · by_cases b : w1 n = 0
    · by_cases c : w2 n = 0
      · by_cases d : w3 n = 0
        · rw [a, b, c, d] at hw; omega
        · rw [beq_eq_false_iff_ne.2 (show (w3 n : Int) ≠ 0 by omega)]; simp
      · rw [beq_eq_false_iff_ne.2 (show (w2 n : Int) ≠ 0 by omega)]; simp
    · rw [beq_eq_false_iff_ne.2 (show (w1 n : Int) ≠ 0 by omega)]; simp
  · rw [beq_eq_false_iff_ne.2 (show (w0 n : Int) ≠ 0 by omega)]; simp
set_option maxRecDepth 100000 in
set_option maxHeartbeats 16000000 in
theorem dmod_ok (na nb : Bool) (ca cb : Nat) (sa sb : Int) (SA SB : Nat) (hA : sa = (SA : Int)) (hB : sb = (SB : Int)) (fa : formB na ca sa = true) (fb : formB nb cb sb = true) (g : Bool) (hg : g = (na != nb)) (F : Option (Nat × Nat)) (h0 : 0 < cb) (hF : F = Fit.fit (modN g (Fit.uni ca SA) (Fit.uni cb SB)) (10 ^ 18) 19) (w : World) (ht : Tens w) :
    Calls Tryd.prog 14 #[D na ca sa, D nb cb sb] w fun e w' => e = .returned (.tuple #[FV nb F, .int .i64 (fitE F)]) ∧ Below w.heap.size w w' := by
  have HT := Lib.hid (fun w' (hb : Below w.heap.size w w') => ht.below hb)
  obtain ⟨SA', hA', hA18, cA, _, _⟩ := form_open fa
  obtain ⟨SB', hB', hB18, cB, _, _⟩ := form_open fb
  obtain rfl : SA = SA' := by omega
  obtain rfl : SB = SB' := by omega
  obtain ⟨m, hm⟩ : ∃ m, m = max SA SB := ⟨_, rfl⟩
  have hmA : SA ≤ m := by omega
  have hmB : SB ≤ m := by omega
  have hm18 : m ≤ 18 := by omega
  have E1 : max (SA : Int) (SB : Int) = (m : Int) := by omega
  rw [modN_units g ca SA cb SB m hmA hmB hm18] at hF
  have f1 := fun w ht => form_yes fa w ht
  have f2 := fun w ht => form_yes fb w ht
  have hz := fun w => isZero_any nb cb (SB : Int) w
  rw [decide_eq_false (show ¬ cb = 0 by omega)] at hz
  have r1 := fun w ht => raised_any na ca SA m (lt34_top2 cA) hmA (by omega) w ht
  have r2 := fun w ht => raised_any nb cb SB m (lt34_top2 cB) hmB (by omega) w ht
  have lX := raised_lt (S := SA) cA hm18
  have lY := raised_lt (S := SB) cB hm18
  subst hA hB
  have hcase : cb * 10 ^ (m - SB) < top2 ∨ ca * 10 ^ (m - SA) < cb * 10 ^ (m - SB) := by
    have c1 := lt34_top2 cA
    have c2 := lt34_top2 cB
    rcases Nat.le_total SA SB with h | h
    · left; rw [show m - SB = 0 by omega, Nat.pow_zero, Nat.mul_one]; exact c2
    · rw [show m - SA = 0 by omega, Nat.pow_zero, Nat.mul_one]
      by_cases h2 : cb * 10 ^ (m - SB) < top2
      · exact .inl h2
      · right; omega
  have hY0 : 0 < cb * 10 ^ (m - SB) := Nat.mul_pos h0 (Fit.pp _)
  obtain ⟨X, hX⟩ : ∃ X, X = ca * 10 ^ (m - SA) := ⟨_, rfl⟩
  obtain ⟨Y, hY⟩ : ∃ Y, Y = cb * 10 ^ (m - SB) := ⟨_, rfl⟩
  rw [← hX] at r1 lX hF hcase
  rw [← hY] at r2 lY hF hcase hY0
  have t52 : 10 ^ 52 + 10 ^ 52 < top4 := by decide
  obtain ⟨r, hr⟩ : ∃ r, r = X % Y := ⟨_, rfl⟩
  have h3 := fun w => remainder_any X Y r hr (by omega) hY0 (by omega) hcase w
  have hrY : r < Y := by rw [hr]; exact Nat.mod_lt _ hY0
  have fin : ∃ Z, ((g = false ∨ r = 0) → Z = r) ∧ ((g = true ∧ 0 < r) → ∀ w', Calls Tryd.prog 45 #[L Y, L r] w' fun e w'' => e = .returned (L Z) ∧ Below w'.heap.size w' w'') ∧
      ∀ w', Tens w' → Calls Tryd.prog 35 #[.bool nb, L Z, .int .i64 (m : Int)] w' fun e w'' => e = .returned (.tuple #[FV nb F, .int .i64 (fitE F)]) ∧ Below w'.heap.size w' w'' := by
    refine ⟨modN g X Y, ?_, ?_, ?_⟩
    · intro h
      unfold modN
      rw [← hr, if_neg]
      rintro ⟨h1, h2⟩
      rcases h with h | h
      · rw [h1] at h; cases h
      · exact h2 h
    · rintro ⟨h1, h2⟩ w'
      have e : modN g X Y = Y - r := by unfold modN; rw [← hr, if_pos ⟨h1, by omega⟩]
      rw [e]
      exact dsubLong_any Y r (by omega) (by omega) (by omega) w'
    · intro w' ht'
      have := modN_le (d := g) (x := X) hY0
      exact dfit_any nb _ m F hF (by omega) (by omega) w' ht'
  obtain ⟨Z, z0, z1, z2⟩ := fin
  have hrn : 0 < r → _ := fun h => long_ne (n := r) (by omega) h
  have hzero : (g = false ∨ r = 0) ∨ (g = true ∧ 0 < r) := by
    cases g
    · exact .inl (.inl rfl)
    · rcases Nat.eq_zero_or_pos r with h | h
      · exact .inl (.inr h)
      · exact .inr ⟨rfl, h⟩
  show Calls Tryd.prog 14 #[D na ca (SA : Int), D nb cb (SB : Int)] w fun e w' => e = .returned (.tuple #[D (nb && decide (0 < fitC F)) (fitC F) (fitZ F), .int .i64 (fitE F)]) ∧ Below w.heap.size w w'
  obtain ⟨vg, hvg⟩ : ∃ x, x = (nb && decide (0 < fitC F)) := ⟨_, rfl⟩
  obtain ⟨vc, hvc⟩ : ∃ x, x = fitC F := ⟨_, rfl⟩
  obtain ⟨vz, hvz⟩ : ∃ x, x = fitZ F := ⟨_, rfl⟩
  obtain ⟨ve, hve⟩ : ∃ x, x = fitE F := ⟨_, rfl⟩
  unfold FV at z2
  rw [← hvg, ← hvc, ← hvz, ← hve] at z2 ⊢
  have F1 := Lib.hid f1; have F2 := Lib.hid f2; have HZ := Lib.hid hz; have R1 := Lib.hid r1; have R2 := Lib.hid r2; have H3 := Lib.hid h3; have Z0 := Lib.hid z0; have Z1 := Lib.hid z1; have H2 := Lib.hid z2; have HRN := Lib.hid hrn; have HZZ := Lib.hid hzero; have HG := Lib.hid hg
  clear ht fa fb f1 f2 hz r1 r2 h3 z0 z1 z2 hrn hzero hg lX lY hX hY t52 hF cA cB hA' hB' hm hcase hY0 hr hrY hvg hvc hvz hve h0
  go_enter Tryd.func14, Tryd.ntmps14
  go_upto_region 6 with (first
    | (go_at_call 23; ((with_reducible refine (F1.out _ (HT.out _ (by (repeat' (first | (with_reducible exact Below.refl _ _) | (with_reducible assumption) | (with_reducible refine Below.alloc ?_ ?_ _) | (with_reducible refine below_drewN ?_ _) | (with_reducible refine below_drew ?_) | (with_reducible refine below_ext ?_ ?_ _ _) | (with_reducible refine Below.setCell ?_ ?_ _) | (simp; done) | (simp; omega) | omega))))).mono ?_); rintro e w1 ⟨rfl, hb1⟩; obtain ⟨osA, dA, rfl⟩ := ext_of_below hb1; clear hb1))
    | (go_at_call 23; ((with_reducible refine (F2.out _ (HT.out _ (by (repeat' (first | (with_reducible exact Below.refl _ _) | (with_reducible assumption) | (with_reducible refine Below.alloc ?_ ?_ _) | (with_reducible refine below_drewN ?_ _) | (with_reducible refine below_drew ?_) | (with_reducible refine below_ext ?_ ?_ _ _) | (with_reducible refine Below.setCell ?_ ?_ _) | (simp; done) | (simp; omega) | omega))))).mono ?_); rintro e w1 ⟨rfl, hb1⟩; obtain ⟨osB, dB, rfl⟩ := ext_of_below hb1; clear hb1))
    | (go_at_call 38; ((with_reducible refine (HZ.out _).mono ?_); rintro e w1 ⟨rfl, hb1⟩; obtain ⟨osC, dC, rfl⟩ := ext_of_below hb1; clear hb1)))
  go_cut [7, 8] (fun s7 s8 wx => ∃ (os : Array Obj) (d' b c : Nat), s7 = .pointer (some ⟨b, 0, none⟩) ∧ s8 = .pointer (some ⟨c, 0, none⟩) ∧ wx = ext (ext (ext (ext (((w.alloc (.cells #[.bool na, .int .u64 (hi ca : Int), .int .u64 (lo ca : Int), .int .i64 (SA : Int)] 26)).alloc (.cells #[.bool nb, .int .u64 (hi cb : Int), .int .u64 (lo cb : Int), .int .i64 (SB : Int)] 26)).alloc (.cells #[.bool false, .int .u64 0, .int .u64 0, .int .i64 0] 26)) osA dA) osB dB) osC dC) os d' ∧ LBox wx b X ∧ LBox wx c Y ∧ (ext (ext (ext (((w.alloc (.cells #[.bool na, .int .u64 (hi ca : Int), .int .u64 (lo ca : Int), .int .i64 (SA : Int)] 26)).alloc (.cells #[.bool nb, .int .u64 (hi cb : Int), .int .u64 (lo cb : Int), .int .i64 (SB : Int)] 26)).alloc (.cells #[.bool false, .int .u64 0, .int .u64 0, .int .i64 0] 26)) osA dA) osB dB) osC dC).heap.size ≤ b ∧ (ext (ext (ext (((w.alloc (.cells #[.bool na, .int .u64 (hi ca : Int), .int .u64 (lo ca : Int), .int .i64 (SA : Int)] 26)).alloc (.cells #[.bool nb, .int .u64 (hi cb : Int), .int .u64 (lo cb : Int), .int .i64 (SB : Int)] 26)).alloc (.cells #[.bool false, .int .u64 0, .int .u64 0, .int .i64 0] 26)) osA dA) osB dB) osC dC).heap.size ≤ c)
  case first =>
    go_region_held3 (fun w' => w'.cell? ⟨w.heap.size, 0, none⟩ = some (.bool na) ∧ w'.cell? ⟨w.heap.size, 1, none⟩ = some (.int .u64 (hi ca : Int)) ∧ w'.cell? ⟨w.heap.size, 2, none⟩ = some (.int .u64 (lo ca : Int)) ∧ w'.cell? ⟨w.heap.size, 3, none⟩ = some (.int .i64 (SA : Int)) ∧ w'.cell? ⟨w.heap.size + 1, 0, none⟩ = some (.bool nb) ∧ w'.cell? ⟨w.heap.size + 1, 1, none⟩ = some (.int .u64 (hi cb : Int)) ∧ w'.cell? ⟨w.heap.size + 1, 2, none⟩ = some (.int .u64 (lo cb : Int)) ∧ w'.cell? ⟨w.heap.size + 1, 3, none⟩ = some (.int .i64 (SB : Int))) (first | (simp [go_sem]; done) | go_keep) (first
      | (go_at_call 40; ((with_reducible refine (R1.out _ (HT.out _ (by (repeat' (first | (with_reducible exact Below.refl _ _) | (with_reducible assumption) | (with_reducible refine Below.alloc ?_ ?_ _) | (with_reducible refine below_drewN ?_ _) | (with_reducible refine below_drew ?_) | (with_reducible refine below_ext ?_ ?_ _ _) | (with_reducible refine Below.setCell ?_ ?_ _) | (simp; done) | (simp; omega) | omega))))).mono ?_); rintro e w1 ⟨rfl, hb1⟩; obtain ⟨osD, dD, rfl⟩ := ext_of_below hb1; clear hb1))
      | (go_at_call 40; ((with_reducible refine (R2.out _ (HT.out _ (by (repeat' (first | (with_reducible exact Below.refl _ _) | (with_reducible assumption) | (with_reducible refine Below.alloc ?_ ?_ _) | (with_reducible refine below_drewN ?_ _) | (with_reducible refine below_drew ?_) | (with_reducible refine below_ext ?_ ?_ _ _) | (with_reducible refine Below.setCell ?_ ?_ _) | (simp; done) | (simp; omega) | omega))))).mono ?_); rintro e w1 ⟨rfl, hb1⟩; obtain ⟨osE, dE, rfl⟩ := ext_of_below hb1; clear hb1)))
    all_goals
      go_wp2_with fail
      go_meet
      exact meet_two (by (repeat' (first | (with_reducible exact Below.refl _ _) | (with_reducible assumption) | (with_reducible refine Below.alloc ?_ ?_ _) | (with_reducible refine below_drewN ?_ _) | (with_reducible refine below_drew ?_) | (with_reducible refine below_ext ?_ ?_ _ _) | (with_reducible refine Below.setCell ?_ ?_ _) | (simp; done) | (simp; omega) | omega))) (by refine ⟨by first | (simp; done) | (simp; omega), ?_, ?_, ?_, ?_⟩ <;> simp [go_sem]) (by refine ⟨by first | (simp; done) | (simp; omega), ?_, ?_, ?_, ?_⟩ <;> simp [go_sem]) (by first | (simp; done) | (simp; omega)) (by first | (simp; done) | (simp; omega))
  case rest =>
    obtain ⟨osR, dR, b, c, rfl, rfl, rfl, ⟨hb, b0, b1, b2, b3⟩, ⟨hc, c0, c1, c2, c3⟩, hbg, hcg⟩ := hcut
    have b0' := ext_new hbg b0 (w.heap.size + 1 + 1 + 1 + osA.size + osB.size + osC.size) (by simp)
    have b1' := ext_new hbg b1 (w.heap.size + 1 + 1 + 1 + osA.size + osB.size + osC.size) (by simp)
    have b2' := ext_new hbg b2 (w.heap.size + 1 + 1 + 1 + osA.size + osB.size + osC.size) (by simp)
    have b3' := ext_new hbg b3 (w.heap.size + 1 + 1 + 1 + osA.size + osB.size + osC.size) (by simp)
    have c0' := ext_new hcg c0 (w.heap.size + 1 + 1 + 1 + osA.size + osB.size + osC.size) (by simp)
    have c1' := ext_new hcg c1 (w.heap.size + 1 + 1 + 1 + osA.size + osB.size + osC.size) (by simp)
    have c2' := ext_new hcg c2 (w.heap.size + 1 + 1 + 1 + osA.size + osB.size + osC.size) (by simp)
    have c3' := ext_new hcg c3 (w.heap.size + 1 + 1 + 1 + osA.size + osB.size + osC.size) (by simp)
    clear b0 b1 b2 b3 c0 c1 c2 c3 hbg hcg
    simp only [ext_size, World.size_alloc] at hb hc
    have hb1 := fun k => Nat.lt_add_right k hb
    have hb2 := fun k l => Nat.lt_add_right l (hb1 k)
    have hb3 := fun k l m => Nat.lt_add_right m (hb2 k l)
    have hc1 := fun k => Nat.lt_add_right k hc
    have hc2 := fun k l => Nat.lt_add_right l (hc1 k)
    have hc3 := fun k l m => Nat.lt_add_right m (hc2 k l)
    cases na <;> cases nb
    · obtain rfl : g = false := HG.out
      obtain rfl : Z = r := Z0.out (.inl rfl)
      clear HG Z0 Z1 HRN HZZ
      go_wp2_with (first
        | (go_at_call 44; ((with_reducible refine (H3.out _).mono ?_); rintro e w1 ⟨rfl, hb1⟩; obtain ⟨osF, dF, rfl⟩ := ext_of_below hb1; clear hb1))
        | (go_at_call 35; ((with_reducible refine (H2.out _ (HT.out _ (by (repeat' (first | (with_reducible exact Below.refl _ _) | (with_reducible assumption) | (with_reducible refine Below.alloc ?_ ?_ _) | (with_reducible refine below_drewN ?_ _) | (with_reducible refine below_drew ?_) | (with_reducible refine below_ext ?_ ?_ _ _) | (with_reducible refine Below.setCell ?_ ?_ _) | (simp; done) | (simp; omega) | omega))))).mono ?_); rintro e w1 ⟨rfl, hb1⟩; obtain ⟨osH, dH, rfl⟩ := ext_of_below hb1; clear hb1)))
      go_returns
      exact ⟨rfl, by (repeat' (first | (with_reducible exact Below.refl _ _) | (with_reducible assumption) | (with_reducible refine Below.alloc ?_ ?_ _) | (with_reducible refine below_drewN ?_ _) | (with_reducible refine below_drew ?_) | (with_reducible refine below_ext ?_ ?_ _ _) | (with_reducible refine Below.setCell ?_ ?_ _) | (simp; done) | (simp; omega) | omega))⟩
    · obtain rfl : g = true := HG.out
      rcases Nat.eq_zero_or_pos r with hr0 | hr0
      · obtain rfl : Z = r := Z0.out (.inr hr0)
        subst hr0
        have e0 : L 0 = .agg #[.int .u64 0, .int .u64 0, .int .u64 0, .int .u64 0] := rfl
        rw [e0] at H2 H3
        clear HG Z0 Z1 HRN HZZ e0
        go_wp2_with (first
          | (go_at_call 44; ((with_reducible refine (H3.out _).mono ?_); rintro e w1 ⟨rfl, hb1⟩; obtain ⟨osF, dF, rfl⟩ := ext_of_below hb1; clear hb1))
          | (go_at_call 35; ((with_reducible refine (H2.out _ (HT.out _ (by (repeat' (first | (with_reducible exact Below.refl _ _) | (with_reducible assumption) | (with_reducible refine Below.alloc ?_ ?_ _) | (with_reducible refine below_drewN ?_ _) | (with_reducible refine below_drew ?_) | (with_reducible refine below_ext ?_ ?_ _ _) | (with_reducible refine Below.setCell ?_ ?_ _) | (simp; done) | (simp; omega) | omega))))).mono ?_); rintro e w1 ⟨rfl, hb1⟩; obtain ⟨osH, dH, rfl⟩ := ext_of_below hb1; clear hb1)))
        go_returns
        exact ⟨rfl, by (repeat' (first | (with_reducible exact Below.refl _ _) | (with_reducible assumption) | (with_reducible refine Below.alloc ?_ ?_ _) | (with_reducible refine below_drewN ?_ _) | (with_reducible refine below_drew ?_) | (with_reducible refine below_ext ?_ ?_ _ _) | (with_reducible refine Below.setCell ?_ ?_ _) | (simp; done) | (simp; omega) | omega))⟩
      · have hne := HRN.out hr0
        have H4 := Lib.hid (Z1.out ⟨rfl, hr0⟩)
        clear HG Z0 Z1 HRN HZZ hr0
        go_wp2_with (first
          | (go_at_call 44; ((with_reducible refine (H3.out _).mono ?_); rintro e w1 ⟨rfl, hb1⟩; obtain ⟨osF, dF, rfl⟩ := ext_of_below hb1; clear hb1))
          | (go_at_call 45; ((with_reducible refine (H4.out _).mono ?_); rintro e w1 ⟨rfl, hb1⟩; obtain ⟨osG, dG, rfl⟩ := ext_of_below hb1; clear hb1))
          | (go_at_call 35; ((with_reducible refine (H2.out _ (HT.out _ (by (repeat' (first | (with_reducible exact Below.refl _ _) | (with_reducible assumption) | (with_reducible refine Below.alloc ?_ ?_ _) | (with_reducible refine below_drewN ?_ _) | (with_reducible refine below_drew ?_) | (with_reducible refine below_ext ?_ ?_ _ _) | (with_reducible refine Below.setCell ?_ ?_ _) | (simp; done) | (simp; omega) | omega))))).mono ?_); rintro e w1 ⟨rfl, hb1⟩; obtain ⟨osH, dH, rfl⟩ := ext_of_below hb1; clear hb1)))
        go_returns
        exact ⟨rfl, by (repeat' (first | (with_reducible exact Below.refl _ _) | (with_reducible assumption) | (with_reducible refine Below.alloc ?_ ?_ _) | (with_reducible refine below_drewN ?_ _) | (with_reducible refine below_drew ?_) | (with_reducible refine below_ext ?_ ?_ _ _) | (with_reducible refine Below.setCell ?_ ?_ _) | (simp; done) | (simp; omega) | omega))⟩
    · obtain rfl : g = true := HG.out
      rcases Nat.eq_zero_or_pos r with hr0 | hr0
      · obtain rfl : Z = r := Z0.out (.inr hr0)
        subst hr0
        have e0 : L 0 = .agg #[.int .u64 0, .int .u64 0, .int .u64 0, .int .u64 0] := rfl
        rw [e0] at H2 H3
        clear HG Z0 Z1 HRN HZZ e0
        go_wp2_with (first
          | (go_at_call 44; ((with_reducible refine (H3.out _).mono ?_); rintro e w1 ⟨rfl, hb1⟩; obtain ⟨osF, dF, rfl⟩ := ext_of_below hb1; clear hb1))
          | (go_at_call 35; ((with_reducible refine (H2.out _ (HT.out _ (by (repeat' (first | (with_reducible exact Below.refl _ _) | (with_reducible assumption) | (with_reducible refine Below.alloc ?_ ?_ _) | (with_reducible refine below_drewN ?_ _) | (with_reducible refine below_drew ?_) | (with_reducible refine below_ext ?_ ?_ _ _) | (with_reducible refine Below.setCell ?_ ?_ _) | (simp; done) | (simp; omega) | omega))))).mono ?_); rintro e w1 ⟨rfl, hb1⟩; obtain ⟨osH, dH, rfl⟩ := ext_of_below hb1; clear hb1)))
        go_returns
        exact ⟨rfl, by (repeat' (first | (with_reducible exact Below.refl _ _) | (with_reducible assumption) | (with_reducible refine Below.alloc ?_ ?_ _) | (with_reducible refine below_drewN ?_ _) | (with_reducible refine below_drew ?_) | (with_reducible refine below_ext ?_ ?_ _ _) | (with_reducible refine Below.setCell ?_ ?_ _) | (simp; done) | (simp; omega) | omega))⟩
      · have hne := HRN.out hr0
        have H4 := Lib.hid (Z1.out ⟨rfl, hr0⟩)
        clear HG Z0 Z1 HRN HZZ hr0
        go_wp2_with (first
          | (go_at_call 44; ((with_reducible refine (H3.out _).mono ?_); rintro e w1 ⟨rfl, hb1⟩; obtain ⟨osF, dF, rfl⟩ := ext_of_below hb1; clear hb1))
          | (go_at_call 45; ((with_reducible refine (H4.out _).mono ?_); rintro e w1 ⟨rfl, hb1⟩; obtain ⟨osG, dG, rfl⟩ := ext_of_below hb1; clear hb1))
          | (go_at_call 35; ((with_reducible refine (H2.out _ (HT.out _ (by (repeat' (first | (with_reducible exact Below.refl _ _) | (with_reducible assumption) | (with_reducible refine Below.alloc ?_ ?_ _) | (with_reducible refine below_drewN ?_ _) | (with_reducible refine below_drew ?_) | (with_reducible refine below_ext ?_ ?_ _ _) | (with_reducible refine Below.setCell ?_ ?_ _) | (simp; done) | (simp; omega) | omega))))).mono ?_); rintro e w1 ⟨rfl, hb1⟩; obtain ⟨osH, dH, rfl⟩ := ext_of_below hb1; clear hb1)))
        go_returns
        exact ⟨rfl, by (repeat' (first | (with_reducible exact Below.refl _ _) | (with_reducible assumption) | (with_reducible refine Below.alloc ?_ ?_ _) | (with_reducible refine below_drewN ?_ _) | (with_reducible refine below_drew ?_) | (with_reducible refine below_ext ?_ ?_ _ _) | (with_reducible refine Below.setCell ?_ ?_ _) | (simp; done) | (simp; omega) | omega))⟩
    · obtain rfl : g = false := HG.out
      obtain rfl : Z = r := Z0.out (.inl rfl)
      clear HG Z0 Z1 HRN HZZ
      go_wp2_with (first
        | (go_at_call 44; ((with_reducible refine (H3.out _).mono ?_); rintro e w1 ⟨rfl, hb1⟩; obtain ⟨osF, dF, rfl⟩ := ext_of_below hb1; clear hb1))
        | (go_at_call 35; ((with_reducible refine (H2.out _ (HT.out _ (by (repeat' (first | (with_reducible exact Below.refl _ _) | (with_reducible assumption) | (with_reducible refine Below.alloc ?_ ?_ _) | (with_reducible refine below_drewN ?_ _) | (with_reducible refine below_drew ?_) | (with_reducible refine below_ext ?_ ?_ _ _) | (with_reducible refine Below.setCell ?_ ?_ _) | (simp; done) | (simp; omega) | omega))))).mono ?_); rintro e w1 ⟨rfl, hb1⟩; obtain ⟨osH, dH, rfl⟩ := ext_of_below hb1; clear hb1)))
      go_returns
      exact ⟨rfl, by (repeat' (first | (with_reducible exact Below.refl _ _) | (with_reducible assumption) | (with_reducible refine Below.alloc ?_ ?_ _) | (with_reducible refine below_drewN ?_ _) | (with_reducible refine below_drew ?_) | (with_reducible refine below_ext ?_ ?_ _ _) | (with_reducible refine Below.setCell ?_ ?_ _) | (simp; done) | (simp; omega) | omega))⟩
set_option maxRecDepth 100000 in
set_option maxHeartbeats 16000000 in
theorem docModD_ok (na nb : Bool) (ca cb : Nat) (sa sb : Int) (SA SB : Nat) (hA : sa = (SA : Int)) (hB : sb = (SB : Int)) (fa : formB na ca sa = true) (fb : formB nb cb sb = true) (g : Bool) (hg : g = (na != nb)) (F : Option (Nat × Nat)) (h0 : 0 < cb) (hF : F = Fit.fit (modN g (Fit.uni ca SA) (Fit.uni cb SB)) (10 ^ 18) 19) (w : World) :
    Calls Tryd.prog 13 #[D na ca sa, D nb cb sb] w fun e w' => e = .returned (.tuple #[FV nb F, .int .i64 (fitE F)]) ∧ Below w.heap.size w w' := by
  obtain ⟨SA', hA', hA18, cA, _, _⟩ := form_open fa
  obtain ⟨SB', hB', hB18, cB, _, _⟩ := form_open fb
  obtain rfl : SA = SA' := by omega
  obtain rfl : SB = SB' := by omega
  have H0 := Lib.hid (fun w => rforms_yes fa fb w)
  subst hA hB
  have h1 := fun w => units_any na ca SA (lt34_top2 cA) hA18 w
  have h2 := fun w => units_any nb cb SB (lt34_top2 cB) hB18 w
  have lx := uni_lt (S := SA) cA
  have ly := uni_lt (S := SB) cB
  have y0 := uni_pos (S := SB) h0
  obtain ⟨x, hx⟩ : ∃ x, x = Fit.uni ca SA := ⟨_, rfl⟩
  obtain ⟨y, hy⟩ : ∃ y, y = Fit.uni cb SB := ⟨_, rfl⟩
  rw [← hx] at h1 lx hF
  rw [← hy] at h2 ly hF y0
  have t60 : 10 ^ 52 < 10 ^ 60 := by decide
  have lxl := len_lt (Nat.lt_trans lx t60)
  have lyl := len_lt (Nat.lt_trans ly t60)
  have hlb : (((dg y).length : Int) == 0) = false := beq_eq_false_iff_ne.2 (by have := dg_len_pos y0; omega)
  have h3 := fun va vb w ha hb => rquo_any va vb x y y0 (by omega) (by omega) w ha hb
  have hzy := modN_le (d := g) (x := x) y0
  obtain ⟨z, hz⟩ : ∃ z, z = modN g x y := ⟨_, rfl⟩
  rw [← hz] at hF hzy
  have h5 := fun va vb w ha hb => rfit_any nb va vb z (10 ^ 18) F hF (Fit.pp _) (by have := len_lt (show z < 10 ^ 60 by omega); omega) (Nat.le_trans (p10_len18) (by omega)) w ha hb
  have h6 := fun w => one_18 w
  obtain ⟨T, hT⟩ : ∃ T, T = 10 ^ 18 := ⟨_, rfl⟩
  rw [← hT] at h5 h6
  have hry := Nat.mod_lt x y0
  unfold modN at hz
  obtain ⟨q, hq⟩ : ∃ q, q = x / y := ⟨_, rfl⟩
  obtain ⟨r, hr⟩ : ∃ r, r = x % y := ⟨_, rfl⟩
  rw [← hq, ← hr] at h3
  rw [← hr] at hz hry
  have h4 := fun va vb w ha hb => rless_any va vb y r (by omega) (by omega) w ha hb
  have hrl := len_zero r
  show Calls Tryd.prog 13 #[D na ca (SA : Int), D nb cb (SB : Int)] w fun e w' => e = .returned (.tuple #[D (nb && decide (0 < fitC F)) (fitC F) (fitZ F), .int .i64 (fitE F)]) ∧ Below w.heap.size w w'
  unfold FV at h5
  obtain ⟨vg, hvg⟩ : ∃ x, x = (nb && decide (0 < fitC F)) := ⟨_, rfl⟩
  obtain ⟨vc, hvc⟩ : ∃ x, x = fitC F := ⟨_, rfl⟩
  obtain ⟨vz, hvz⟩ : ∃ x, x = fitZ F := ⟨_, rfl⟩
  obtain ⟨ve, hve⟩ : ∃ x, x = fitE F := ⟨_, rfl⟩
  rw [← hvg, ← hvc, ← hvz, ← hve] at h5 ⊢
  have H1 := Lib.hid h1; have H2 := Lib.hid h2; have H3 := Lib.hid h3; have H5 := Lib.hid h5; have H6 := Lib.hid h6
  clear fa fb h1 h2 h3 h5 h6 hF lx ly hx hy t60 lxl lyl y0 h0 hvg hvc hvz hve cA cB hA' hB' hA18 hB18 hT hq hr hzy
  by_cases hcase : g = true ∧ r ≠ 0
  · rw [if_pos hcase] at hz
    rw [← hz] at h4
    have H4 := Lib.hid h4
    obtain ⟨rfl, hr0⟩ := hcase
    have hl1 : (0 : Int) < ((dg r).length : Int) := by
      have : ¬ (dg r).length = 0 := fun e => hr0 (hrl.1 e)
      omega
    clear h4 hz hry hrl hr0
    cases na <;> cases nb
    · exact absurd hg (by decide)
    · clear hg
      go_enter Tryd.func13, Tryd.ntmps13
      go_wp2_with (first
        | (go_at_call 30; ((with_reducible refine (H0.out _).mono ?_); rintro e w1 ⟨rfl, hb1⟩; obtain ⟨osA, dA, rfl⟩ := ext_of_below hb1; clear hb1))
        | (go_at_call 37; ((with_reducible refine (H1.out _).mono ?_); rintro e w1 ⟨v1, rfl, r1, b1⟩; obtain ⟨os1, d1, rfl⟩ := ext_of_below b1; clear b1))
        | (go_at_call 37; ((with_reducible refine (H2.out _).mono ?_); rintro e w2 ⟨v2, rfl, r2, b2⟩; obtain ⟨p2, c2, rfl, -⟩ := r2.form; obtain ⟨os2, d2, rfl⟩ := ext_of_below b2; clear b2))
        | (go_at_call 42; ((with_reducible refine (H3.out _ _ _ (r1.rd.later (by (repeat' (first | (with_reducible exact Below.refl _ _) | (with_reducible assumption) | (with_reducible refine Below.alloc ?_ ?_ _) | (with_reducible refine below_drewN ?_ _) | (with_reducible refine below_drew ?_) | (with_reducible refine below_ext ?_ ?_ _ _) | (with_reducible refine Below.setCell ?_ ?_ _) | (simp; done) | (simp; omega) | omega)))) (r2.rd.later (by (repeat' (first | (with_reducible exact Below.refl _ _) | (with_reducible assumption) | (with_reducible refine Below.alloc ?_ ?_ _) | (with_reducible refine below_drewN ?_ _) | (with_reducible refine below_drew ?_) | (with_reducible refine below_ext ?_ ?_ _ _) | (with_reducible refine Below.setCell ?_ ?_ _) | (simp; done) | (simp; omega) | omega))))).mono ?_); rintro e w3 ⟨v3, v4, rfl, r3, r4, b3⟩; obtain ⟨p4, c4, rfl, -⟩ := r4.form; obtain ⟨os3, d3, rfl⟩ := ext_of_below b3; clear b3 r3))
        | (go_at_call 43; ((with_reducible refine (H4.out _ _ _ (r2.rd.later (by (repeat' (first | (with_reducible exact Below.refl _ _) | (with_reducible assumption) | (with_reducible refine Below.alloc ?_ ?_ _) | (with_reducible refine below_drewN ?_ _) | (with_reducible refine below_drew ?_) | (with_reducible refine below_ext ?_ ?_ _ _) | (with_reducible refine Below.setCell ?_ ?_ _) | (simp; done) | (simp; omega) | omega)))) (r4.rd.later (by (repeat' (first | (with_reducible exact Below.refl _ _) | (with_reducible assumption) | (with_reducible refine Below.alloc ?_ ?_ _) | (with_reducible refine below_drewN ?_ _) | (with_reducible refine below_drew ?_) | (with_reducible refine below_ext ?_ ?_ _ _) | (with_reducible refine Below.setCell ?_ ?_ _) | (simp; done) | (simp; omega) | omega))))).mono ?_); rintro e w4 ⟨v5, rfl, r5, b4⟩; obtain ⟨os4, d4, rfl⟩ := ext_of_below b4; clear b4)))
      go_region_held3 (fun w' => w'.cell? ⟨w.heap.size + 1, 0, none⟩ = some (.bool true)) (first | (simp [go_sem]; done) | go_keep) (first
        | (go_at_call 34; ((with_reducible refine (H6.out _).mono ?_); rintro e w6 ⟨v6, rfl, r6, b6⟩; obtain ⟨os6, d6, rfl⟩ := ext_of_below b6; clear b6))
        | (go_at_call 31; ((with_reducible refine (H5.out _ _ _ (r5.rd.later (by (repeat' (first | (with_reducible exact Below.refl _ _) | (with_reducible assumption) | (with_reducible refine Below.alloc ?_ ?_ _) | (with_reducible refine below_drewN ?_ _) | (with_reducible refine below_drew ?_) | (with_reducible refine below_ext ?_ ?_ _ _) | (with_reducible refine Below.setCell ?_ ?_ _) | (simp; done) | (simp; omega) | omega)))) (r6.rd.later (by (repeat' (first | (with_reducible exact Below.refl _ _) | (with_reducible assumption) | (with_reducible refine Below.alloc ?_ ?_ _) | (with_reducible refine below_drewN ?_ _) | (with_reducible refine below_drew ?_) | (with_reducible refine below_ext ?_ ?_ _ _) | (with_reducible refine Below.setCell ?_ ?_ _) | (simp; done) | (simp; omega) | omega))))).mono ?_); rintro e w5 ⟨rfl, b5⟩; obtain ⟨os5, d5, rfl⟩ := ext_of_below b5; clear b5)))
      all_goals
        go_wp2
        go_returns
        exact ⟨rfl, by (repeat' (first | (with_reducible exact Below.refl _ _) | (with_reducible assumption) | (with_reducible refine Below.alloc ?_ ?_ _) | (with_reducible refine below_drewN ?_ _) | (with_reducible refine below_drew ?_) | (with_reducible refine below_ext ?_ ?_ _ _) | (with_reducible refine Below.setCell ?_ ?_ _) | (simp; done) | (simp; omega) | omega))⟩
    · clear hg
      go_enter Tryd.func13, Tryd.ntmps13
      go_wp2_with (first
        | (go_at_call 30; ((with_reducible refine (H0.out _).mono ?_); rintro e w1 ⟨rfl, hb1⟩; obtain ⟨osA, dA, rfl⟩ := ext_of_below hb1; clear hb1))
        | (go_at_call 37; ((with_reducible refine (H1.out _).mono ?_); rintro e w1 ⟨v1, rfl, r1, b1⟩; obtain ⟨os1, d1, rfl⟩ := ext_of_below b1; clear b1))
        | (go_at_call 37; ((with_reducible refine (H2.out _).mono ?_); rintro e w2 ⟨v2, rfl, r2, b2⟩; obtain ⟨p2, c2, rfl, -⟩ := r2.form; obtain ⟨os2, d2, rfl⟩ := ext_of_below b2; clear b2))
        | (go_at_call 42; ((with_reducible refine (H3.out _ _ _ (r1.rd.later (by (repeat' (first | (with_reducible exact Below.refl _ _) | (with_reducible assumption) | (with_reducible refine Below.alloc ?_ ?_ _) | (with_reducible refine below_drewN ?_ _) | (with_reducible refine below_drew ?_) | (with_reducible refine below_ext ?_ ?_ _ _) | (with_reducible refine Below.setCell ?_ ?_ _) | (simp; done) | (simp; omega) | omega)))) (r2.rd.later (by (repeat' (first | (with_reducible exact Below.refl _ _) | (with_reducible assumption) | (with_reducible refine Below.alloc ?_ ?_ _) | (with_reducible refine below_drewN ?_ _) | (with_reducible refine below_drew ?_) | (with_reducible refine below_ext ?_ ?_ _ _) | (with_reducible refine Below.setCell ?_ ?_ _) | (simp; done) | (simp; omega) | omega))))).mono ?_); rintro e w3 ⟨v3, v4, rfl, r3, r4, b3⟩; obtain ⟨p4, c4, rfl, -⟩ := r4.form; obtain ⟨os3, d3, rfl⟩ := ext_of_below b3; clear b3 r3))
        | (go_at_call 43; ((with_reducible refine (H4.out _ _ _ (r2.rd.later (by (repeat' (first | (with_reducible exact Below.refl _ _) | (with_reducible assumption) | (with_reducible refine Below.alloc ?_ ?_ _) | (with_reducible refine below_drewN ?_ _) | (with_reducible refine below_drew ?_) | (with_reducible refine below_ext ?_ ?_ _ _) | (with_reducible refine Below.setCell ?_ ?_ _) | (simp; done) | (simp; omega) | omega)))) (r4.rd.later (by (repeat' (first | (with_reducible exact Below.refl _ _) | (with_reducible assumption) | (with_reducible refine Below.alloc ?_ ?_ _) | (with_reducible refine below_drewN ?_ _) | (with_reducible refine below_drew ?_) | (with_reducible refine below_ext ?_ ?_ _ _) | (with_reducible refine Below.setCell ?_ ?_ _) | (simp; done) | (simp; omega) | omega))))).mono ?_); rintro e w4 ⟨v5, rfl, r5, b4⟩; obtain ⟨os4, d4, rfl⟩ := ext_of_below b4; clear b4)))
      go_region_held3 (fun w' => w'.cell? ⟨w.heap.size + 1, 0, none⟩ = some (.bool false)) (first | (simp [go_sem]; done) | go_keep) (first
        | (go_at_call 34; ((with_reducible refine (H6.out _).mono ?_); rintro e w6 ⟨v6, rfl, r6, b6⟩; obtain ⟨os6, d6, rfl⟩ := ext_of_below b6; clear b6))
        | (go_at_call 31; ((with_reducible refine (H5.out _ _ _ (r5.rd.later (by (repeat' (first | (with_reducible exact Below.refl _ _) | (with_reducible assumption) | (with_reducible refine Below.alloc ?_ ?_ _) | (with_reducible refine below_drewN ?_ _) | (with_reducible refine below_drew ?_) | (with_reducible refine below_ext ?_ ?_ _ _) | (with_reducible refine Below.setCell ?_ ?_ _) | (simp; done) | (simp; omega) | omega)))) (r6.rd.later (by (repeat' (first | (with_reducible exact Below.refl _ _) | (with_reducible assumption) | (with_reducible refine Below.alloc ?_ ?_ _) | (with_reducible refine below_drewN ?_ _) | (with_reducible refine below_drew ?_) | (with_reducible refine below_ext ?_ ?_ _ _) | (with_reducible refine Below.setCell ?_ ?_ _) | (simp; done) | (simp; omega) | omega))))).mono ?_); rintro e w5 ⟨rfl, b5⟩; obtain ⟨os5, d5, rfl⟩ := ext_of_below b5; clear b5)))
      all_goals
        go_wp2
        go_returns
        exact ⟨rfl, by (repeat' (first | (with_reducible exact Below.refl _ _) | (with_reducible assumption) | (with_reducible refine Below.alloc ?_ ?_ _) | (with_reducible refine below_drewN ?_ _) | (with_reducible refine below_drew ?_) | (with_reducible refine below_ext ?_ ?_ _ _) | (with_reducible refine Below.setCell ?_ ?_ _) | (simp; done) | (simp; omega) | omega))⟩
    · exact absurd hg (by decide)
  · rw [if_neg hcase] at hz
    subst hz
    clear h4 hry
    by_cases hr0 : z = 0
    · have hl1 : ¬ (0 : Int) < ((dg z).length : Int) := by have := hrl.2 hr0; omega
      clear hrl hr0 hcase
      subst hg
      cases na <;> cases nb
      · go_enter Tryd.func13, Tryd.ntmps13
        go_wp2_with (first
          | (go_at_call 30; ((with_reducible refine (H0.out _).mono ?_); rintro e w1 ⟨rfl, hb1⟩; obtain ⟨osA, dA, rfl⟩ := ext_of_below hb1; clear hb1))
          | (go_at_call 37; ((with_reducible refine (H1.out _).mono ?_); rintro e w1 ⟨v1, rfl, r1, b1⟩; obtain ⟨os1, d1, rfl⟩ := ext_of_below b1; clear b1))
          | (go_at_call 37; ((with_reducible refine (H2.out _).mono ?_); rintro e w2 ⟨v2, rfl, r2, b2⟩; obtain ⟨p2, c2, rfl, -⟩ := r2.form; obtain ⟨os2, d2, rfl⟩ := ext_of_below b2; clear b2))
          | (go_at_call 42; ((with_reducible refine (H3.out _ _ _ (r1.rd.later (by (repeat' (first | (with_reducible exact Below.refl _ _) | (with_reducible assumption) | (with_reducible refine Below.alloc ?_ ?_ _) | (with_reducible refine below_drewN ?_ _) | (with_reducible refine below_drew ?_) | (with_reducible refine below_ext ?_ ?_ _ _) | (with_reducible refine Below.setCell ?_ ?_ _) | (simp; done) | (simp; omega) | omega)))) (r2.rd.later (by (repeat' (first | (with_reducible exact Below.refl _ _) | (with_reducible assumption) | (with_reducible refine Below.alloc ?_ ?_ _) | (with_reducible refine below_drewN ?_ _) | (with_reducible refine below_drew ?_) | (with_reducible refine below_ext ?_ ?_ _ _) | (with_reducible refine Below.setCell ?_ ?_ _) | (simp; done) | (simp; omega) | omega))))).mono ?_); rintro e w3 ⟨v3, v4, rfl, r3, r4, b3⟩; obtain ⟨p4, c4, rfl, -⟩ := r4.form; obtain ⟨os3, d3, rfl⟩ := ext_of_below b3; clear b3 r3)))
        go_region_held3 (fun w' => w'.cell? ⟨w.heap.size + 1, 0, none⟩ = some (.bool false)) (first | (simp [go_sem]; done) | go_keep) (first
          | (go_at_call 34; ((with_reducible refine (H6.out _).mono ?_); rintro e w6 ⟨v6, rfl, r6, b6⟩; obtain ⟨os6, d6, rfl⟩ := ext_of_below b6; clear b6))
          | (go_at_call 31; ((with_reducible refine (H5.out _ _ _ (r4.rd.later (by (repeat' (first | (with_reducible exact Below.refl _ _) | (with_reducible assumption) | (with_reducible refine Below.alloc ?_ ?_ _) | (with_reducible refine below_drewN ?_ _) | (with_reducible refine below_drew ?_) | (with_reducible refine below_ext ?_ ?_ _ _) | (with_reducible refine Below.setCell ?_ ?_ _) | (simp; done) | (simp; omega) | omega)))) (r6.rd.later (by (repeat' (first | (with_reducible exact Below.refl _ _) | (with_reducible assumption) | (with_reducible refine Below.alloc ?_ ?_ _) | (with_reducible refine below_drewN ?_ _) | (with_reducible refine below_drew ?_) | (with_reducible refine below_ext ?_ ?_ _ _) | (with_reducible refine Below.setCell ?_ ?_ _) | (simp; done) | (simp; omega) | omega))))).mono ?_); rintro e w5 ⟨rfl, b5⟩; obtain ⟨os5, d5, rfl⟩ := ext_of_below b5; clear b5)))
        all_goals
          go_wp2
          go_returns
          exact ⟨rfl, by (repeat' (first | (with_reducible exact Below.refl _ _) | (with_reducible assumption) | (with_reducible refine Below.alloc ?_ ?_ _) | (with_reducible refine below_drewN ?_ _) | (with_reducible refine below_drew ?_) | (with_reducible refine below_ext ?_ ?_ _ _) | (with_reducible refine Below.setCell ?_ ?_ _) | (simp; done) | (simp; omega) | omega))⟩
      · go_enter Tryd.func13, Tryd.ntmps13
        go_wp2_with (first
          | (go_at_call 30; ((with_reducible refine (H0.out _).mono ?_); rintro e w1 ⟨rfl, hb1⟩; obtain ⟨osA, dA, rfl⟩ := ext_of_below hb1; clear hb1))
          | (go_at_call 37; ((with_reducible refine (H1.out _).mono ?_); rintro e w1 ⟨v1, rfl, r1, b1⟩; obtain ⟨os1, d1, rfl⟩ := ext_of_below b1; clear b1))
          | (go_at_call 37; ((with_reducible refine (H2.out _).mono ?_); rintro e w2 ⟨v2, rfl, r2, b2⟩; obtain ⟨p2, c2, rfl, -⟩ := r2.form; obtain ⟨os2, d2, rfl⟩ := ext_of_below b2; clear b2))
          | (go_at_call 42; ((with_reducible refine (H3.out _ _ _ (r1.rd.later (by (repeat' (first | (with_reducible exact Below.refl _ _) | (with_reducible assumption) | (with_reducible refine Below.alloc ?_ ?_ _) | (with_reducible refine below_drewN ?_ _) | (with_reducible refine below_drew ?_) | (with_reducible refine below_ext ?_ ?_ _ _) | (with_reducible refine Below.setCell ?_ ?_ _) | (simp; done) | (simp; omega) | omega)))) (r2.rd.later (by (repeat' (first | (with_reducible exact Below.refl _ _) | (with_reducible assumption) | (with_reducible refine Below.alloc ?_ ?_ _) | (with_reducible refine below_drewN ?_ _) | (with_reducible refine below_drew ?_) | (with_reducible refine below_ext ?_ ?_ _ _) | (with_reducible refine Below.setCell ?_ ?_ _) | (simp; done) | (simp; omega) | omega))))).mono ?_); rintro e w3 ⟨v3, v4, rfl, r3, r4, b3⟩; obtain ⟨p4, c4, rfl, -⟩ := r4.form; obtain ⟨os3, d3, rfl⟩ := ext_of_below b3; clear b3 r3)))
        go_region_held3 (fun w' => w'.cell? ⟨w.heap.size + 1, 0, none⟩ = some (.bool true)) (first | (simp [go_sem]; done) | go_keep) (first
          | (go_at_call 34; ((with_reducible refine (H6.out _).mono ?_); rintro e w6 ⟨v6, rfl, r6, b6⟩; obtain ⟨os6, d6, rfl⟩ := ext_of_below b6; clear b6))
          | (go_at_call 31; ((with_reducible refine (H5.out _ _ _ (r4.rd.later (by (repeat' (first | (with_reducible exact Below.refl _ _) | (with_reducible assumption) | (with_reducible refine Below.alloc ?_ ?_ _) | (with_reducible refine below_drewN ?_ _) | (with_reducible refine below_drew ?_) | (with_reducible refine below_ext ?_ ?_ _ _) | (with_reducible refine Below.setCell ?_ ?_ _) | (simp; done) | (simp; omega) | omega)))) (r6.rd.later (by (repeat' (first | (with_reducible exact Below.refl _ _) | (with_reducible assumption) | (with_reducible refine Below.alloc ?_ ?_ _) | (with_reducible refine below_drewN ?_ _) | (with_reducible refine below_drew ?_) | (with_reducible refine below_ext ?_ ?_ _ _) | (with_reducible refine Below.setCell ?_ ?_ _) | (simp; done) | (simp; omega) | omega))))).mono ?_); rintro e w5 ⟨rfl, b5⟩; obtain ⟨os5, d5, rfl⟩ := ext_of_below b5; clear b5)))
        all_goals
          go_wp2
          go_returns
          exact ⟨rfl, by (repeat' (first | (with_reducible exact Below.refl _ _) | (with_reducible assumption) | (with_reducible refine Below.alloc ?_ ?_ _) | (with_reducible refine below_drewN ?_ _) | (with_reducible refine below_drew ?_) | (with_reducible refine below_ext ?_ ?_ _ _) | (with_reducible refine Below.setCell ?_ ?_ _) | (simp; done) | (simp; omega) | omega))⟩
      · go_enter Tryd.func13, Tryd.ntmps13
        go_wp2_with (first
          | (go_at_call 30; ((with_reducible refine (H0.out _).mono ?_); rintro e w1 ⟨rfl, hb1⟩; obtain ⟨osA, dA, rfl⟩ := ext_of_below hb1; clear hb1))
          | (go_at_call 37; ((with_reducible refine (H1.out _).mono ?_); rintro e w1 ⟨v1, rfl, r1, b1⟩; obtain ⟨os1, d1, rfl⟩ := ext_of_below b1; clear b1))
          | (go_at_call 37; ((with_reducible refine (H2.out _).mono ?_); rintro e w2 ⟨v2, rfl, r2, b2⟩; obtain ⟨p2, c2, rfl, -⟩ := r2.form; obtain ⟨os2, d2, rfl⟩ := ext_of_below b2; clear b2))
          | (go_at_call 42; ((with_reducible refine (H3.out _ _ _ (r1.rd.later (by (repeat' (first | (with_reducible exact Below.refl _ _) | (with_reducible assumption) | (with_reducible refine Below.alloc ?_ ?_ _) | (with_reducible refine below_drewN ?_ _) | (with_reducible refine below_drew ?_) | (with_reducible refine below_ext ?_ ?_ _ _) | (with_reducible refine Below.setCell ?_ ?_ _) | (simp; done) | (simp; omega) | omega)))) (r2.rd.later (by (repeat' (first | (with_reducible exact Below.refl _ _) | (with_reducible assumption) | (with_reducible refine Below.alloc ?_ ?_ _) | (with_reducible refine below_drewN ?_ _) | (with_reducible refine below_drew ?_) | (with_reducible refine below_ext ?_ ?_ _ _) | (with_reducible refine Below.setCell ?_ ?_ _) | (simp; done) | (simp; omega) | omega))))).mono ?_); rintro e w3 ⟨v3, v4, rfl, r3, r4, b3⟩; obtain ⟨p4, c4, rfl, -⟩ := r4.form; obtain ⟨os3, d3, rfl⟩ := ext_of_below b3; clear b3 r3)))
        go_region_held3 (fun w' => w'.cell? ⟨w.heap.size + 1, 0, none⟩ = some (.bool false)) (first | (simp [go_sem]; done) | go_keep) (first
          | (go_at_call 34; ((with_reducible refine (H6.out _).mono ?_); rintro e w6 ⟨v6, rfl, r6, b6⟩; obtain ⟨os6, d6, rfl⟩ := ext_of_below b6; clear b6))
          | (go_at_call 31; ((with_reducible refine (H5.out _ _ _ (r4.rd.later (by (repeat' (first | (with_reducible exact Below.refl _ _) | (with_reducible assumption) | (with_reducible refine Below.alloc ?_ ?_ _) | (with_reducible refine below_drewN ?_ _) | (with_reducible refine below_drew ?_) | (with_reducible refine below_ext ?_ ?_ _ _) | (with_reducible refine Below.setCell ?_ ?_ _) | (simp; done) | (simp; omega) | omega)))) (r6.rd.later (by (repeat' (first | (with_reducible exact Below.refl _ _) | (with_reducible assumption) | (with_reducible refine Below.alloc ?_ ?_ _) | (with_reducible refine below_drewN ?_ _) | (with_reducible refine below_drew ?_) | (with_reducible refine below_ext ?_ ?_ _ _) | (with_reducible refine Below.setCell ?_ ?_ _) | (simp; done) | (simp; omega) | omega))))).mono ?_); rintro e w5 ⟨rfl, b5⟩; obtain ⟨os5, d5, rfl⟩ := ext_of_below b5; clear b5)))
        all_goals
          go_wp2
          go_returns
          exact ⟨rfl, by (repeat' (first | (with_reducible exact Below.refl _ _) | (with_reducible assumption) | (with_reducible refine Below.alloc ?_ ?_ _) | (with_reducible refine below_drewN ?_ _) | (with_reducible refine below_drew ?_) | (with_reducible refine below_ext ?_ ?_ _ _) | (with_reducible refine Below.setCell ?_ ?_ _) | (simp; done) | (simp; omega) | omega))⟩
      · go_enter Tryd.func13, Tryd.ntmps13
        go_wp2_with (first
          | (go_at_call 30; ((with_reducible refine (H0.out _).mono ?_); rintro e w1 ⟨rfl, hb1⟩; obtain ⟨osA, dA, rfl⟩ := ext_of_below hb1; clear hb1))
          | (go_at_call 37; ((with_reducible refine (H1.out _).mono ?_); rintro e w1 ⟨v1, rfl, r1, b1⟩; obtain ⟨os1, d1, rfl⟩ := ext_of_below b1; clear b1))
          | (go_at_call 37; ((with_reducible refine (H2.out _).mono ?_); rintro e w2 ⟨v2, rfl, r2, b2⟩; obtain ⟨p2, c2, rfl, -⟩ := r2.form; obtain ⟨os2, d2, rfl⟩ := ext_of_below b2; clear b2))
          | (go_at_call 42; ((with_reducible refine (H3.out _ _ _ (r1.rd.later (by (repeat' (first | (with_reducible exact Below.refl _ _) | (with_reducible assumption) | (with_reducible refine Below.alloc ?_ ?_ _) | (with_reducible refine below_drewN ?_ _) | (with_reducible refine below_drew ?_) | (with_reducible refine below_ext ?_ ?_ _ _) | (with_reducible refine Below.setCell ?_ ?_ _) | (simp; done) | (simp; omega) | omega)))) (r2.rd.later (by (repeat' (first | (with_reducible exact Below.refl _ _) | (with_reducible assumption) | (with_reducible refine Below.alloc ?_ ?_ _) | (with_reducible refine below_drewN ?_ _) | (with_reducible refine below_drew ?_) | (with_reducible refine below_ext ?_ ?_ _ _) | (with_reducible refine Below.setCell ?_ ?_ _) | (simp; done) | (simp; omega) | omega))))).mono ?_); rintro e w3 ⟨v3, v4, rfl, r3, r4, b3⟩; obtain ⟨p4, c4, rfl, -⟩ := r4.form; obtain ⟨os3, d3, rfl⟩ := ext_of_below b3; clear b3 r3)))
        go_region_held3 (fun w' => w'.cell? ⟨w.heap.size + 1, 0, none⟩ = some (.bool true)) (first | (simp [go_sem]; done) | go_keep) (first
          | (go_at_call 34; ((with_reducible refine (H6.out _).mono ?_); rintro e w6 ⟨v6, rfl, r6, b6⟩; obtain ⟨os6, d6, rfl⟩ := ext_of_below b6; clear b6))
          | (go_at_call 31; ((with_reducible refine (H5.out _ _ _ (r4.rd.later (by (repeat' (first | (with_reducible exact Below.refl _ _) | (with_reducible assumption) | (with_reducible refine Below.alloc ?_ ?_ _) | (with_reducible refine below_drewN ?_ _) | (with_reducible refine below_drew ?_) | (with_reducible refine below_ext ?_ ?_ _ _) | (with_reducible refine Below.setCell ?_ ?_ _) | (simp; done) | (simp; omega) | omega)))) (r6.rd.later (by (repeat' (first | (with_reducible exact Below.refl _ _) | (with_reducible assumption) | (with_reducible refine Below.alloc ?_ ?_ _) | (with_reducible refine below_drewN ?_ _) | (with_reducible refine below_drew ?_) | (with_reducible refine below_ext ?_ ?_ _ _) | (with_reducible refine Below.setCell ?_ ?_ _) | (simp; done) | (simp; omega) | omega))))).mono ?_); rintro e w5 ⟨rfl, b5⟩; obtain ⟨os5, d5, rfl⟩ := ext_of_below b5; clear b5)))
        all_goals
          go_wp2
          go_returns
          exact ⟨rfl, by (repeat' (first | (with_reducible exact Below.refl _ _) | (with_reducible assumption) | (with_reducible refine Below.alloc ?_ ?_ _) | (with_reducible refine below_drewN ?_ _) | (with_reducible refine below_drew ?_) | (with_reducible refine below_ext ?_ ?_ _ _) | (with_reducible refine Below.setCell ?_ ?_ _) | (simp; done) | (simp; omega) | omega))⟩
    · have hg2 : g = false := by
        cases g
        · rfl
        · exact absurd ⟨rfl, hr0⟩ hcase
      have hl1 : (0 : Int) < ((dg z).length : Int) := by
        have : ¬ (dg z).length = 0 := fun e => hr0 (hrl.1 e)
        omega
      subst hg2
      clear hrl hr0 hcase
      cases na <;> cases nb
      · clear hg
        go_enter Tryd.func13, Tryd.ntmps13
        go_wp2_with (first
          | (go_at_call 30; ((with_reducible refine (H0.out _).mono ?_); rintro e w1 ⟨rfl, hb1⟩; obtain ⟨osA, dA, rfl⟩ := ext_of_below hb1; clear hb1))
          | (go_at_call 37; ((with_reducible refine (H1.out _).mono ?_); rintro e w1 ⟨v1, rfl, r1, b1⟩; obtain ⟨os1, d1, rfl⟩ := ext_of_below b1; clear b1))
          | (go_at_call 37; ((with_reducible refine (H2.out _).mono ?_); rintro e w2 ⟨v2, rfl, r2, b2⟩; obtain ⟨p2, c2, rfl, -⟩ := r2.form; obtain ⟨os2, d2, rfl⟩ := ext_of_below b2; clear b2))
          | (go_at_call 42; ((with_reducible refine (H3.out _ _ _ (r1.rd.later (by (repeat' (first | (with_reducible exact Below.refl _ _) | (with_reducible assumption) | (with_reducible refine Below.alloc ?_ ?_ _) | (with_reducible refine below_drewN ?_ _) | (with_reducible refine below_drew ?_) | (with_reducible refine below_ext ?_ ?_ _ _) | (with_reducible refine Below.setCell ?_ ?_ _) | (simp; done) | (simp; omega) | omega)))) (r2.rd.later (by (repeat' (first | (with_reducible exact Below.refl _ _) | (with_reducible assumption) | (with_reducible refine Below.alloc ?_ ?_ _) | (with_reducible refine below_drewN ?_ _) | (with_reducible refine below_drew ?_) | (with_reducible refine below_ext ?_ ?_ _ _) | (with_reducible refine Below.setCell ?_ ?_ _) | (simp; done) | (simp; omega) | omega))))).mono ?_); rintro e w3 ⟨v3, v4, rfl, r3, r4, b3⟩; obtain ⟨p4, c4, rfl, -⟩ := r4.form; obtain ⟨os3, d3, rfl⟩ := ext_of_below b3; clear b3 r3)))
        go_region_held3 (fun w' => w'.cell? ⟨w.heap.size + 1, 0, none⟩ = some (.bool false)) (first | (simp [go_sem]; done) | go_keep) (first
          | (go_at_call 34; ((with_reducible refine (H6.out _).mono ?_); rintro e w6 ⟨v6, rfl, r6, b6⟩; obtain ⟨os6, d6, rfl⟩ := ext_of_below b6; clear b6))
          | (go_at_call 31; ((with_reducible refine (H5.out _ _ _ (r4.rd.later (by (repeat' (first | (with_reducible exact Below.refl _ _) | (with_reducible assumption) | (with_reducible refine Below.alloc ?_ ?_ _) | (with_reducible refine below_drewN ?_ _) | (with_reducible refine below_drew ?_) | (with_reducible refine below_ext ?_ ?_ _ _) | (with_reducible refine Below.setCell ?_ ?_ _) | (simp; done) | (simp; omega) | omega)))) (r6.rd.later (by (repeat' (first | (with_reducible exact Below.refl _ _) | (with_reducible assumption) | (with_reducible refine Below.alloc ?_ ?_ _) | (with_reducible refine below_drewN ?_ _) | (with_reducible refine below_drew ?_) | (with_reducible refine below_ext ?_ ?_ _ _) | (with_reducible refine Below.setCell ?_ ?_ _) | (simp; done) | (simp; omega) | omega))))).mono ?_); rintro e w5 ⟨rfl, b5⟩; obtain ⟨os5, d5, rfl⟩ := ext_of_below b5; clear b5)))
        all_goals
          go_wp2
          go_returns
          exact ⟨rfl, by (repeat' (first | (with_reducible exact Below.refl _ _) | (with_reducible assumption) | (with_reducible refine Below.alloc ?_ ?_ _) | (with_reducible refine below_drewN ?_ _) | (with_reducible refine below_drew ?_) | (with_reducible refine below_ext ?_ ?_ _ _) | (with_reducible refine Below.setCell ?_ ?_ _) | (simp; done) | (simp; omega) | omega))⟩
      · exact absurd hg (by decide)
      · exact absurd hg (by decide)
      · clear hg
        go_enter Tryd.func13, Tryd.ntmps13
        go_wp2_with (first
          | (go_at_call 30; ((with_reducible refine (H0.out _).mono ?_); rintro e w1 ⟨rfl, hb1⟩; obtain ⟨osA, dA, rfl⟩ := ext_of_below hb1; clear hb1))
          | (go_at_call 37; ((with_reducible refine (H1.out _).mono ?_); rintro e w1 ⟨v1, rfl, r1, b1⟩; obtain ⟨os1, d1, rfl⟩ := ext_of_below b1; clear b1))
          | (go_at_call 37; ((with_reducible refine (H2.out _).mono ?_); rintro e w2 ⟨v2, rfl, r2, b2⟩; obtain ⟨p2, c2, rfl, -⟩ := r2.form; obtain ⟨os2, d2, rfl⟩ := ext_of_below b2; clear b2))
          | (go_at_call 42; ((with_reducible refine (H3.out _ _ _ (r1.rd.later (by (repeat' (first | (with_reducible exact Below.refl _ _) | (with_reducible assumption) | (with_reducible refine Below.alloc ?_ ?_ _) | (with_reducible refine below_drewN ?_ _) | (with_reducible refine below_drew ?_) | (with_reducible refine below_ext ?_ ?_ _ _) | (with_reducible refine Below.setCell ?_ ?_ _) | (simp; done) | (simp; omega) | omega)))) (r2.rd.later (by (repeat' (first | (with_reducible exact Below.refl _ _) | (with_reducible assumption) | (with_reducible refine Below.alloc ?_ ?_ _) | (with_reducible refine below_drewN ?_ _) | (with_reducible refine below_drew ?_) | (with_reducible refine below_ext ?_ ?_ _ _) | (with_reducible refine Below.setCell ?_ ?_ _) | (simp; done) | (simp; omega) | omega))))).mono ?_); rintro e w3 ⟨v3, v4, rfl, r3, r4, b3⟩; obtain ⟨p4, c4, rfl, -⟩ := r4.form; obtain ⟨os3, d3, rfl⟩ := ext_of_below b3; clear b3 r3)))
        go_region_held3 (fun w' => w'.cell? ⟨w.heap.size + 1, 0, none⟩ = some (.bool true)) (first | (simp [go_sem]; done) | go_keep) (first
          | (go_at_call 34; ((with_reducible refine (H6.out _).mono ?_); rintro e w6 ⟨v6, rfl, r6, b6⟩; obtain ⟨os6, d6, rfl⟩ := ext_of_below b6; clear b6))
          | (go_at_call 31; ((with_reducible refine (H5.out _ _ _ (r4.rd.later (by (repeat' (first | (with_reducible exact Below.refl _ _) | (with_reducible assumption) | (with_reducible refine Below.alloc ?_ ?_ _) | (with_reducible refine below_drewN ?_ _) | (with_reducible refine below_drew ?_) | (with_reducible refine below_ext ?_ ?_ _ _) | (with_reducible refine Below.setCell ?_ ?_ _) | (simp; done) | (simp; omega) | omega)))) (r6.rd.later (by (repeat' (first | (with_reducible exact Below.refl _ _) | (with_reducible assumption) | (with_reducible refine Below.alloc ?_ ?_ _) | (with_reducible refine below_drewN ?_ _) | (with_reducible refine below_drew ?_) | (with_reducible refine below_ext ?_ ?_ _ _) | (with_reducible refine Below.setCell ?_ ?_ _) | (simp; done) | (simp; omega) | omega))))).mono ?_); rintro e w5 ⟨rfl, b5⟩; obtain ⟨os5, d5, rfl⟩ := ext_of_below b5; clear b5)))
        all_goals
          go_wp2
          go_returns
          exact ⟨rfl, by (repeat' (first | (with_reducible exact Below.refl _ _) | (with_reducible assumption) | (with_reducible refine Below.alloc ?_ ?_ _) | (with_reducible refine below_drewN ?_ _) | (with_reducible refine below_drew ?_) | (with_reducible refine below_ext ?_ ?_ _ _) | (with_reducible refine Below.setCell ?_ ?_ _) | (simp; done) | (simp; omega) | omega))⟩
theorem dDiv_zero (na nb : Bool) (ca : Nat) (sa sb : Int) (fa : formB na ca sa = true) (fb : formB nb 0 sb = true) (w : World) (ht : Tens w) :
    Calls Tryd.prog 12 #[D na ca sa, D nb 0 sb] w fun e w' => e = .returned (.tuple #[D false 0 0, .int .i64 4]) ∧ Below w.heap.size w w' := by
  have HT := Lib.hid (fun w' (hb : Below w.heap.size w w') => ht.below hb)
  have F1 := Lib.hid (fun w ht => form_yes fa w ht)
  have F2 := Lib.hid (fun w ht => form_yes fb w ht)
  have hz := fun w => isZero_any nb 0 sb w
  rw [decide_eq_true rfl] at hz
  have HZ := Lib.hid hz
  obtain ⟨y, hy⟩ : ∃ y, y = (0 : Nat) := ⟨_, rfl⟩
  rw [← dbad_D]
  rw [← hy] at F2 HZ ⊢
  clear ht fa fb hz hy
  go_enter Tryd.func12, Tryd.ntmps12
  go_wp2_with (first
    | (go_at_call 23; ((with_reducible refine (F1.out _ (HT.out _ (by (repeat' (first | (with_reducible exact Below.refl _ _) | (with_reducible assumption) | (with_reducible refine Below.alloc ?_ ?_ _) | (with_reducible refine below_drewN ?_ _) | (with_reducible refine below_drew ?_) | (with_reducible refine below_ext ?_ ?_ _ _) | (with_reducible refine Below.setCell ?_ ?_ _) | (simp; done) | (simp; omega) | omega))))).mono ?_); rintro e w1 ⟨rfl, hb1⟩; obtain ⟨osA, dA, rfl⟩ := ext_of_below hb1; clear hb1))
    | (go_at_call 23; ((with_reducible refine (F2.out _ (HT.out _ (by (repeat' (first | (with_reducible exact Below.refl _ _) | (with_reducible assumption) | (with_reducible refine Below.alloc ?_ ?_ _) | (with_reducible refine below_drewN ?_ _) | (with_reducible refine below_drew ?_) | (with_reducible refine below_ext ?_ ?_ _ _) | (with_reducible refine Below.setCell ?_ ?_ _) | (simp; done) | (simp; omega) | omega))))).mono ?_); rintro e w1 ⟨rfl, hb1⟩; obtain ⟨osB, dB, rfl⟩ := ext_of_below hb1; clear hb1))
    | (go_at_call 38; ((with_reducible refine (HZ.out _).mono ?_); rintro e w1 ⟨rfl, hb1⟩; obtain ⟨osC, dC, rfl⟩ := ext_of_below hb1; clear hb1)))
  go_returns
  exact ⟨rfl, by (repeat' (first | (with_reducible exact Below.refl _ _) | (with_reducible assumption) | (with_reducible refine Below.alloc ?_ ?_ _) | (with_reducible refine below_drewN ?_ _) | (with_reducible refine below_drew ?_) | (with_reducible refine below_ext ?_ ?_ _ _) | (with_reducible refine Below.setCell ?_ ?_ _) | (simp; done) | (simp; omega) | omega))⟩
theorem docDivD_zero (na nb : Bool) (ca : Nat) (sa sb : Int) (SA SB : Nat) (hA : sa = (SA : Int)) (hB : sb = (SB : Int)) (fa : formB na ca sa = true) (fb : formB nb 0 sb = true) (w : World) :
    Calls Tryd.prog 11 #[D na ca sa, D nb 0 sb] w fun e w' => e = .returned (.tuple #[D false 0 0, .int .i64 4]) ∧ Below w.heap.size w w' := by
  obtain ⟨SA', hA', hA18, cA, _, _⟩ := form_open fa
  obtain ⟨SB', hB', hB18, cB, _, _⟩ := form_open fb
  obtain rfl : SA = SA' := by omega
  obtain rfl : SB = SB' := by omega
  have H0 := Lib.hid (fun w => rforms_yes fa fb w)
  subst hA hB
  have H1 := Lib.hid (fun w => units_any na ca SA (lt34_top2 cA) hA18 w)
  have h2 := fun w => units_any nb 0 SB (lt34_top2 cB) hB18 w
  have e0 : Fit.uni 0 SB = 0 := Nat.zero_mul _
  rw [e0] at h2
  obtain ⟨l, hl⟩ : ∃ l, l = dg 0 := ⟨_, rfl⟩
  have hlb : ((l.length : Int) == 0) = true := by rw [hl, dg_zero]; rfl
  rw [← hl] at h2
  have H2 := Lib.hid h2
  rw [← dbad_D]
  obtain ⟨y, hy⟩ : ∃ y, y = (0 : Nat) := ⟨_, rfl⟩
  rw [← hy] at H0 H2 ⊢
  clear fa fb h2 e0 hl hy cA cB hA' hB' hA18 hB18
  go_enter Tryd.func11, Tryd.ntmps11
  go_wp2_with (first
    | (go_at_call 30; ((with_reducible refine (H0.out _).mono ?_); rintro e w1 ⟨rfl, hb1⟩; obtain ⟨osA, dA, rfl⟩ := ext_of_below hb1; clear hb1))
    | (go_at_call 37; ((with_reducible refine (H1.out _).mono ?_); rintro e w1 ⟨v1, rfl, r1, b1⟩; obtain ⟨os1, d1, rfl⟩ := ext_of_below b1; clear b1))
    | (go_at_call 37; ((with_reducible refine (H2.out _).mono ?_); rintro e w2 ⟨v2, rfl, r2, b2⟩; obtain ⟨p2, c2, rfl, -⟩ := r2.form; obtain ⟨os2, d2, rfl⟩ := ext_of_below b2; clear b2)))
  go_returns
  exact ⟨rfl, by (repeat' (first | (with_reducible exact Below.refl _ _) | (with_reducible assumption) | (with_reducible refine Below.alloc ?_ ?_ _) | (with_reducible refine below_drewN ?_ _) | (with_reducible refine below_drew ?_) | (with_reducible refine below_ext ?_ ?_ _ _) | (with_reducible refine Below.setCell ?_ ?_ _) | (simp; done) | (simp; omega) | omega))⟩
theorem dMod_zero (na nb : Bool) (ca : Nat) (sa sb : Int) (fa : formB na ca sa = true) (fb : formB nb 0 sb = true) (w : World) (ht : Tens w) :
    Calls Tryd.prog 14 #[D na ca sa, D nb 0 sb] w fun e w' => e = .returned (.tuple #[D false 0 0, .int .i64 4]) ∧ Below w.heap.size w w' := by
  have HT := Lib.hid (fun w' (hb : Below w.heap.size w w') => ht.below hb)
  have F1 := Lib.hid (fun w ht => form_yes fa w ht)
  have F2 := Lib.hid (fun w ht => form_yes fb w ht)
  have hz := fun w => isZero_any nb 0 sb w
  rw [decide_eq_true rfl] at hz
  have HZ := Lib.hid hz
  obtain ⟨y, hy⟩ : ∃ y, y = (0 : Nat) := ⟨_, rfl⟩
  rw [← dbad_D]
  rw [← hy] at F2 HZ ⊢
  clear ht fa fb hz hy
  go_enter Tryd.func14, Tryd.ntmps14
  go_wp2_with (first
    | (go_at_call 23; ((with_reducible refine (F1.out _ (HT.out _ (by (repeat' (first | (with_reducible exact Below.refl _ _) | (with_reducible assumption) | (with_reducible refine Below.alloc ?_ ?_ _) | (with_reducible refine below_drewN ?_ _) | (with_reducible refine below_drew ?_) | (with_reducible refine below_ext ?_ ?_ _ _) | (with_reducible refine Below.setCell ?_ ?_ _) | (simp; done) | (simp; omega) | omega))))).mono ?_); rintro e w1 ⟨rfl, hb1⟩; obtain ⟨osA, dA, rfl⟩ := ext_of_below hb1; clear hb1))
    | (go_at_call 23; ((with_reducible refine (F2.out _ (HT.out _ (by (repeat' (first | (with_reducible exact Below.refl _ _) | (with_reducible assumption) | (with_reducible refine Below.alloc ?_ ?_ _) | (with_reducible refine below_drewN ?_ _) | (with_reducible refine below_drew ?_) | (with_reducible refine below_ext ?_ ?_ _ _) | (with_reducible refine Below.setCell ?_ ?_ _) | (simp; done) | (simp; omega) | omega))))).mono ?_); rintro e w1 ⟨rfl, hb1⟩; obtain ⟨osB, dB, rfl⟩ := ext_of_below hb1; clear hb1))
    | (go_at_call 38; ((with_reducible refine (HZ.out _).mono ?_); rintro e w1 ⟨rfl, hb1⟩; obtain ⟨osC, dC, rfl⟩ := ext_of_below hb1; clear hb1)))
  go_returns
  exact ⟨rfl, by (repeat' (first | (with_reducible exact Below.refl _ _) | (with_reducible assumption) | (with_reducible refine Below.alloc ?_ ?_ _) | (with_reducible refine below_drewN ?_ _) | (with_reducible refine below_drew ?_) | (with_reducible refine below_ext ?_ ?_ _ _) | (with_reducible refine Below.setCell ?_ ?_ _) | (simp; done) | (simp; omega) | omega))⟩
theorem docModD_zero (na nb : Bool) (ca : Nat) (sa sb : Int) (SA SB : Nat) (hA : sa = (SA : Int)) (hB : sb = (SB : Int)) (fa : formB na ca sa = true) (fb : formB nb 0 sb = true) (w : World) :
    Calls Tryd.prog 13 #[D na ca sa, D nb 0 sb] w fun e w' => e = .returned (.tuple #[D false 0 0, .int .i64 4]) ∧ Below w.heap.size w w' := by
  obtain ⟨SA', hA', hA18, cA, _, _⟩ := form_open fa
  obtain ⟨SB', hB', hB18, cB, _, _⟩ := form_open fb
  obtain rfl : SA = SA' := by omega
  obtain rfl : SB = SB' := by omega
  have H0 := Lib.hid (fun w => rforms_yes fa fb w)
  subst hA hB
  have H1 := Lib.hid (fun w => units_any na ca SA (lt34_top2 cA) hA18 w)
  have h2 := fun w => units_any nb 0 SB (lt34_top2 cB) hB18 w
  have e0 : Fit.uni 0 SB = 0 := Nat.zero_mul _
  rw [e0] at h2
  obtain ⟨l, hl⟩ : ∃ l, l = dg 0 := ⟨_, rfl⟩
  have hlb : ((l.length : Int) == 0) = true := by rw [hl, dg_zero]; rfl
  rw [← hl] at h2
  have H2 := Lib.hid h2
  rw [← dbad_D]
  obtain ⟨y, hy⟩ : ∃ y, y = (0 : Nat) := ⟨_, rfl⟩
  rw [← hy] at H0 H2 ⊢
  clear fa fb h2 e0 hl hy cA cB hA' hB' hA18 hB18
  go_enter Tryd.func13, Tryd.ntmps13
  go_wp2_with (first
    | (go_at_call 30; ((with_reducible refine (H0.out _).mono ?_); rintro e w1 ⟨rfl, hb1⟩; obtain ⟨osA, dA, rfl⟩ := ext_of_below hb1; clear hb1))
    | (go_at_call 37; ((with_reducible refine (H1.out _).mono ?_); rintro e w1 ⟨v1, rfl, r1, b1⟩; obtain ⟨os1, d1, rfl⟩ := ext_of_below b1; clear b1))
    | (go_at_call 37; ((with_reducible refine (H2.out _).mono ?_); rintro e w2 ⟨v2, rfl, r2, b2⟩; obtain ⟨p2, c2, rfl, -⟩ := r2.form; obtain ⟨os2, d2, rfl⟩ := ext_of_below b2; clear b2)))
  go_returns
  exact ⟨rfl, by (repeat' (first | (with_reducible exact Below.refl _ _) | (with_reducible assumption) | (with_reducible refine Below.alloc ?_ ?_ _) | (with_reducible refine below_drewN ?_ _) | (with_reducible refine below_drew ?_) | (with_reducible refine below_ext ?_ ?_ _ _) | (with_reducible refine Below.setCell ?_ ?_ _) | (simp; done) | (simp; omega) | omega))⟩
section
variable (na nb : Bool) (ca cb : Nat) (sa sb : Int)
theorem mulPair (ha : ca < top2) (hb : cb < top2) : ∃ n c s e0,
    (∀ w, Tens w → Calls Tryd.prog 10 #[D na ca sa, D nb cb sb] w fun e w' => e = .returned (.tuple #[D n c s, .int .i64 e0]) ∧ Below w.heap.size w w') ∧
    (∀ w, Calls Tryd.prog 9 #[D na ca sa, D nb cb sb] w fun e w' => e = .returned (.tuple #[D n c s, .int .i64 e0]) ∧ Below w.heap.size w w') := by
  cases fa : formB na ca sa with
  | false => exact ⟨false, 0, 0, 2, fun w ht => dMul_bad1 na nb ca cb sa sb ha fa w ht, fun w => docMulD_bad na nb ca cb sa sb ha hb (by rw [fa]; rfl) w⟩
  | true =>
    cases fb : formB nb cb sb with
    | false => exact ⟨false, 0, 0, 2, fun w ht => dMul_bad2 na nb ca cb sa sb fa hb fb w ht, fun w => docMulD_bad na nb ca cb sa sb ha hb (by rw [fa, fb]; rfl) w⟩
    | true =>
      obtain ⟨SA, hA, _⟩ := form_open fa
      obtain ⟨SB, hB, _⟩ := form_open fb
      exact ⟨_, _, _, _, fun w ht => dmul_ok na nb ca cb sa sb SA SB hA hB fa fb _ rfl _ rfl w ht, fun w => docMulD_ok na nb ca cb sa sb SA SB hA hB fa fb _ rfl _ rfl w⟩
theorem divPair (ha : ca < top2) (hb : cb < top2) : ∃ n c s e0,
    (∀ w, Tens w → Calls Tryd.prog 12 #[D na ca sa, D nb cb sb] w fun e w' => e = .returned (.tuple #[D n c s, .int .i64 e0]) ∧ Below w.heap.size w w') ∧
    (∀ w, Calls Tryd.prog 11 #[D na ca sa, D nb cb sb] w fun e w' => e = .returned (.tuple #[D n c s, .int .i64 e0]) ∧ Below w.heap.size w w') := by
  cases fa : formB na ca sa with
  | false => exact ⟨false, 0, 0, 2, fun w ht => dDiv_bad1 na nb ca cb sa sb ha fa w ht, fun w => docDivD_bad na nb ca cb sa sb ha hb (by rw [fa]; rfl) w⟩
  | true =>
    cases fb : formB nb cb sb with
    | false => exact ⟨false, 0, 0, 2, fun w ht => dDiv_bad2 na nb ca cb sa sb fa hb fb w ht, fun w => docDivD_bad na nb ca cb sa sb ha hb (by rw [fa, fb]; rfl) w⟩
    | true =>
      obtain ⟨SA, hA, _⟩ := form_open fa
      obtain ⟨SB, hB, _⟩ := form_open fb
      rcases Nat.eq_zero_or_pos cb with hc | hc
      · subst hc
        exact ⟨false, 0, 0, 4, fun w ht => dDiv_zero na nb ca sa sb fa fb w ht, fun w => docDivD_zero na nb ca sa sb SA SB hA hB fa fb w⟩
      · exact ⟨_, _, _, _, fun w ht => ddiv_ok na nb ca cb sa sb SA SB hA hB fa fb _ rfl _ hc rfl w ht, fun w => docDivD_ok na nb ca cb sa sb SA SB hA hB fa fb _ rfl _ hc rfl w⟩
theorem modPair (ha : ca < top2) (hb : cb < top2) : ∃ n c s e0,
    (∀ w, Tens w → Calls Tryd.prog 14 #[D na ca sa, D nb cb sb] w fun e w' => e = .returned (.tuple #[D n c s, .int .i64 e0]) ∧ Below w.heap.size w w') ∧
    (∀ w, Calls Tryd.prog 13 #[D na ca sa, D nb cb sb] w fun e w' => e = .returned (.tuple #[D n c s, .int .i64 e0]) ∧ Below w.heap.size w w') := by
  cases fa : formB na ca sa with
  | false => exact ⟨false, 0, 0, 2, fun w ht => dMod_bad1 na nb ca cb sa sb ha fa w ht, fun w => docModD_bad na nb ca cb sa sb ha hb (by rw [fa]; rfl) w⟩
  | true =>
    cases fb : formB nb cb sb with
    | false => exact ⟨false, 0, 0, 2, fun w ht => dMod_bad2 na nb ca cb sa sb fa hb fb w ht, fun w => docModD_bad na nb ca cb sa sb ha hb (by rw [fa, fb]; rfl) w⟩
    | true =>
      obtain ⟨SA, hA, _⟩ := form_open fa
      obtain ⟨SB, hB, _⟩ := form_open fb
      rcases Nat.eq_zero_or_pos cb with hc | hc
      · subst hc
        exact ⟨false, 0, 0, 4, fun w ht => dMod_zero na nb ca sa sb fa fb w ht, fun w => docModD_zero na nb ca sa sb SA SB hA hB fa fb w⟩
      · exact ⟨_, _, _, _, fun w ht => dmod_ok na nb ca cb sa sb SA SB hA hB fa fb _ rfl _ hc rfl w ht, fun w => docModD_ok na nb ca cb sa sb SA SB hA hB fa fb _ rfl _ hc rfl w⟩
end
set_option maxRecDepth 100000 in
set_option maxHeartbeats 16000000 in
theorem decProducts_law (na : Bool) (ca : Nat) (sa : Int) (nb : Bool) (cb : Nat) (sb : Int) (ha : ca < top2) (_za : (Lit.int .i64 sa).wf = true) (hb : cb < top2) (_zb : (Lit.int .i64 sb).wf = true) (w : World) (ht : Tens w) :
    Calls Tryd.prog 3 #[D na ca sa, D nb cb sb] w fun e w' => e = .returned (.bool true) ∧ Below w.heap.size w w' := by
  have HT := Lib.hid (fun w' (hb : Below w.heap.size w w') => ht.below hb)
  obtain ⟨n2, k2, s2, e2, d1, d2⟩ := mulPair na nb ca cb sa sb ha hb
  obtain ⟨n3, k3, s3, e3, f1, f2⟩ := divPair na nb ca cb sa sb ha hb
  obtain ⟨n4, k4, s4, e4, g1, g2⟩ := modPair na nb ca cb sa sb ha hb
  have D1 := Lib.hid d1; have D2 := Lib.hid d2; have F1 := Lib.hid f1; have F2 := Lib.hid f2; have G1 := Lib.hid g1; have G2 := Lib.hid g2
  clear d1 d2 f1 f2 g1 g2 ht ha hb _za _zb
  go_enter Tryd.func3, Tryd.ntmps3
  go_wp2_with (first
    | (go_at_call 8; ((with_reducible refine (knownD _ (HT.out _ (by (repeat' (first | (with_reducible exact Below.refl _ _) | (with_reducible assumption) | (with_reducible refine Below.alloc ?_ ?_ _) | (with_reducible refine below_drewN ?_ _) | (with_reducible refine below_drew ?_) | (with_reducible refine below_ext ?_ ?_ _ _) | (with_reducible refine Below.setCell ?_ ?_ _) | (simp; done) | (simp; omega) | omega))))).mono ?_); rintro e w1 ⟨rfl, hb1⟩; obtain ⟨osA, dA, rfl⟩ := ext_of_below hb1; clear hb1))
    | (go_at_call 9; ((with_reducible refine (D2.out _).mono ?_); rintro e w1 ⟨rfl, hb1⟩; obtain ⟨osD, dD, rfl⟩ := ext_of_below hb1; clear hb1))
    | (go_at_call 10; ((with_reducible refine (D1.out _ (HT.out _ (by (repeat' (first | (with_reducible exact Below.refl _ _) | (with_reducible assumption) | (with_reducible refine Below.alloc ?_ ?_ _) | (with_reducible refine below_drewN ?_ _) | (with_reducible refine below_drew ?_) | (with_reducible refine below_ext ?_ ?_ _ _) | (with_reducible refine Below.setCell ?_ ?_ _) | (simp; done) | (simp; omega) | omega))))).mono ?_); rintro e w1 ⟨rfl, hb1⟩; obtain ⟨osE, dE, rfl⟩ := ext_of_below hb1; clear hb1))
    | (go_at_call 11; ((with_reducible refine (F2.out _).mono ?_); rintro e w1 ⟨rfl, hb1⟩; obtain ⟨osF, dF, rfl⟩ := ext_of_below hb1; clear hb1))
    | (go_at_call 12; ((with_reducible refine (F1.out _ (HT.out _ (by (repeat' (first | (with_reducible exact Below.refl _ _) | (with_reducible assumption) | (with_reducible refine Below.alloc ?_ ?_ _) | (with_reducible refine below_drewN ?_ _) | (with_reducible refine below_drew ?_) | (with_reducible refine below_ext ?_ ?_ _ _) | (with_reducible refine Below.setCell ?_ ?_ _) | (simp; done) | (simp; omega) | omega))))).mono ?_); rintro e w1 ⟨rfl, hb1⟩; obtain ⟨osG, dG, rfl⟩ := ext_of_below hb1; clear hb1))
    | (go_at_call 13; ((with_reducible refine (G2.out _).mono ?_); rintro e w1 ⟨rfl, hb1⟩; obtain ⟨osH, dH, rfl⟩ := ext_of_below hb1; clear hb1))
    | (go_at_call 14; ((with_reducible refine (G1.out _ (HT.out _ (by (repeat' (first | (with_reducible exact Below.refl _ _) | (with_reducible assumption) | (with_reducible refine Below.alloc ?_ ?_ _) | (with_reducible refine below_drewN ?_ _) | (with_reducible refine below_drew ?_) | (with_reducible refine below_ext ?_ ?_ _ _) | (with_reducible refine Below.setCell ?_ ?_ _) | (simp; done) | (simp; omega) | omega))))).mono ?_); rintro e w1 ⟨rfl, hb1⟩; obtain ⟨osI, dI, rfl⟩ := ext_of_below hb1; clear hb1)))
  go_ret
  exact ⟨rfl, by (repeat' (first | (with_reducible exact Below.refl _ _) | (with_reducible assumption) | (with_reducible refine Below.alloc ?_ ?_ _) | (with_reducible refine below_drewN ?_ _) | (with_reducible refine below_drew ?_) | (with_reducible refine below_ext ?_ ?_ _ _) | (with_reducible refine Below.setCell ?_ ?_ _) | (simp; done) | (simp; omega) | omega))⟩
end Go.Proofs.YtcnkcfbodpkllaaDoor
