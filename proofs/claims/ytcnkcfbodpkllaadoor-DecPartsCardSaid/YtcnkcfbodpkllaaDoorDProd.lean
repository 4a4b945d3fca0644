/-
  The law DecProducts: the products.
-/
import Derived.Test.YtcnkcfbodpkllaaDoorDocOne
import Derived.Test.YtcnkcfbodpkllaaDoorUndoBase
namespace Go.Proofs.YtcnkcfbodpkllaaDoor
open Go.RowKit Num Word
attribute [local go_sem] setCell_drewN cell?_ext frozen?_ext shape?_ext setCell_ext lt_1' ne_1' en_1' le_1' lt_2' ne_2' en_2' le_2' lt_3' ne_3' en_3' le_3' lt_4' ne_4' en_4' le_4' lt_5' ne_5' en_5' le_5' lt_6' ne_6' en_6' le_6' lt_7' ne_7' en_7' le_7' lt_8' ne_8' en_8' le_8' lt_9' ne_9' en_9' le_9' lt_10' ne_10' en_10' le_10' lt_11' ne_11' en_11' le_11' lt_12' ne_12' en_12' le_12'
attribute [local go_sem] lt_13' ne_13' en_13' le_13' lt_14' ne_14' en_14' le_14' lt_15' ne_15' en_15' le_15' lt_16' ne_16' en_16' le_16' lt_17' ne_17' en_17' le_17' lt_18' ne_18' en_18' le_18' lt_19' ne_19' en_19' le_19' lt_20' ne_20' en_20' le_20'

theorem cc_lt {a b : Nat} (ha : a < 10 ^ 34) (hb : b < 10 ^ 34) : a * b < 10 ^ 68 := by
  have h := Nat.mul_lt_mul'' ha hb
  exact Nat.lt_of_lt_of_le h (by decide)
set_option maxHeartbeats 8000000 in
theorem dmul_ok (na nb : Bool) (ca cb : Nat) (sa sb : Int) (SA SB : Nat) (hA : sa = (SA : Int)) (hB : sb = (SB : Int)) (fa : formB na ca sa = true) (fb : formB nb cb sb = true) (g : Bool) (hg : g = (na != nb)) (F : Option (Nat × Nat)) (hF : F = Fit.fit (ca * cb) (10 ^ (SA + SB)) 19) (w : World) (ht : Tens w) :
    Calls Tryd.prog 10 #[D na ca sa, D nb cb sb] w fun e w' => e = .returned (.tuple #[FV g F, .int .i64 (fitE F)]) ∧ Below w.heap.size w w' := by
  have HT := Lib.hid (fun w' (hb : Below w.heap.size w w') => ht.below hb)
  obtain ⟨SA', hA', hA18, cA, _, _⟩ := form_open fa
  obtain ⟨SB', hB', hB18, cB, _, _⟩ := form_open fb
  obtain rfl : SA = SA' := by omega
  obtain rfl : SB = SB' := by omega
  have F1 := Lib.hid (fun w ht => form_yes fa w ht)
  have F2 := Lib.hid (fun w ht => form_yes fb w ht)
  subst hA hB
  have h1 := fun w => mul_any ca cb (lt34_top2 cA) (lt34_top2 cB) w
  have hlt := cc_lt cA cB
  obtain ⟨P, hP⟩ : ∃ P, P = ca * cb := ⟨_, rfl⟩
  rw [← hP] at h1 hF hlt
  have E1 : (SA : Int) + (SB : Int) = ((SA + SB : Nat) : Int) := by omega
  have h2 := fun w ht => dfit_any g P (SA + SB) F hF (Nat.lt_trans hlt (by decide)) (by omega) w ht
  obtain ⟨m, hm⟩ : ∃ m, m = SA + SB := ⟨_, rfl⟩
  rw [← hm] at h2 E1
  have E2 : IntKind.i64.wrap (m : Int) = (m : Int) := IntWalk.i64_in _ (by omega)
  show Calls Tryd.prog 10 #[D na ca (SA : Int), D nb cb (SB : Int)] w fun e w' => e = .returned (.tuple #[D (g && decide (0 < fitC F)) (fitC F) (fitZ F), .int .i64 (fitE F)]) ∧ Below w.heap.size w w'
  unfold FV at h2
  obtain ⟨vg, hvg⟩ : ∃ x, x = (g && decide (0 < fitC F)) := ⟨_, rfl⟩
  obtain ⟨vc, hvc⟩ : ∃ x, x = fitC F := ⟨_, rfl⟩
  obtain ⟨vz, hvz⟩ : ∃ x, x = fitZ F := ⟨_, rfl⟩
  obtain ⟨ve, hve⟩ : ∃ x, x = fitE F := ⟨_, rfl⟩
  rw [← hvg, ← hvc, ← hvz, ← hve] at h2 ⊢
  have H1 := Lib.hid h1; have H2 := Lib.hid h2
  clear ht fa fb h1 h2 hF hlt hP hm hvg hvc hvz hve cA cB hA' hB' hA18 hB18
  cases na <;> cases nb
  · obtain rfl : g = false := hg
    go_enter Tryd.func10, Tryd.ntmps10
    go_wp2_with (first
      | (go_at_call 23; ((with_reducible refine (F1.out _ (HT.out _ (by (repeat' (first | (with_reducible exact Below.refl _ _) | (with_reducible assumption) | (with_reducible refine Below.alloc ?_ ?_ _) | (with_reducible refine below_drewN ?_ _) | (with_reducible refine below_drew ?_) | (with_reducible refine below_ext ?_ ?_ _ _) | (with_reducible refine Below.setCell ?_ ?_ _) | (simp; done) | (simp; omega) | omega))))).mono ?_); rintro e w1 ⟨rfl, hb1⟩; obtain ⟨osA, dA, rfl⟩ := ext_of_below hb1; clear hb1))
      | (go_at_call 23; ((with_reducible refine (F2.out _ (HT.out _ (by (repeat' (first | (with_reducible exact Below.refl _ _) | (with_reducible assumption) | (with_reducible refine Below.alloc ?_ ?_ _) | (with_reducible refine below_drewN ?_ _) | (with_reducible refine below_drew ?_) | (with_reducible refine below_ext ?_ ?_ _ _) | (with_reducible refine Below.setCell ?_ ?_ _) | (simp; done) | (simp; omega) | omega))))).mono ?_); rintro e w1 ⟨rfl, hb1⟩; obtain ⟨osB, dB, rfl⟩ := ext_of_below hb1; clear hb1)))
    go_region_held3 (fun w' => w'.cell? ⟨w.heap.size, 0, none⟩ = some (.bool false) ∧ w'.cell? ⟨w.heap.size, 1, none⟩ = some (.int .u64 (hi ca : Int)) ∧ w'.cell? ⟨w.heap.size, 2, none⟩ = some (.int .u64 (lo ca : Int)) ∧ w'.cell? ⟨w.heap.size, 3, none⟩ = some (.int .i64 (SA : Int)) ∧ w'.cell? ⟨w.heap.size + 1, 0, none⟩ = some (.bool false) ∧ w'.cell? ⟨w.heap.size + 1, 1, none⟩ = some (.int .u64 (hi cb : Int)) ∧ w'.cell? ⟨w.heap.size + 1, 2, none⟩ = some (.int .u64 (lo cb : Int)) ∧ w'.cell? ⟨w.heap.size + 1, 3, none⟩ = some (.int .i64 (SB : Int))) (first | (simp [go_sem]; done) | go_keep) (first
      | (go_at_call 36; ((with_reducible refine (H1.out _).mono ?_); rintro e w1 ⟨rfl, hb1⟩; obtain ⟨osC, dC, rfl⟩ := ext_of_below hb1; clear hb1))
      | (go_at_call 35; ((with_reducible refine (H2.out _ (HT.out _ (by (repeat' (first | (with_reducible exact Below.refl _ _) | (with_reducible assumption) | (with_reducible refine Below.alloc ?_ ?_ _) | (with_reducible refine below_drewN ?_ _) | (with_reducible refine below_drew ?_) | (with_reducible refine below_ext ?_ ?_ _ _) | (with_reducible refine Below.setCell ?_ ?_ _) | (simp; done) | (simp; omega) | omega))))).mono ?_); rintro e w1 ⟨rfl, hb1⟩; obtain ⟨osD, dD, rfl⟩ := ext_of_below hb1; clear hb1)))
    all_goals
      go_wp2
      go_returns
      exact ⟨rfl, by (repeat' (first | (with_reducible exact Below.refl _ _) | (with_reducible assumption) | (with_reducible refine Below.alloc ?_ ?_ _) | (with_reducible refine below_drewN ?_ _) | (with_reducible refine below_drew ?_) | (with_reducible refine below_ext ?_ ?_ _ _) | (with_reducible refine Below.setCell ?_ ?_ _) | (simp; done) | (simp; omega) | omega))⟩
  · obtain rfl : g = true := hg
    go_enter Tryd.func10, Tryd.ntmps10
    go_wp2_with (first
      | (go_at_call 23; ((with_reducible refine (F1.out _ (HT.out _ (by (repeat' (first | (with_reducible exact Below.refl _ _) | (with_reducible assumption) | (with_reducible refine Below.alloc ?_ ?_ _) | (with_reducible refine below_drewN ?_ _) | (with_reducible refine below_drew ?_) | (with_reducible refine below_ext ?_ ?_ _ _) | (with_reducible refine Below.setCell ?_ ?_ _) | (simp; done) | (simp; omega) | omega))))).mono ?_); rintro e w1 ⟨rfl, hb1⟩; obtain ⟨osA, dA, rfl⟩ := ext_of_below hb1; clear hb1))
      | (go_at_call 23; ((with_reducible refine (F2.out _ (HT.out _ (by (repeat' (first | (with_reducible exact Below.refl _ _) | (with_reducible assumption) | (with_reducible refine Below.alloc ?_ ?_ _) | (with_reducible refine below_drewN ?_ _) | (with_reducible refine below_drew ?_) | (with_reducible refine below_ext ?_ ?_ _ _) | (with_reducible refine Below.setCell ?_ ?_ _) | (simp; done) | (simp; omega) | omega))))).mono ?_); rintro e w1 ⟨rfl, hb1⟩; obtain ⟨osB, dB, rfl⟩ := ext_of_below hb1; clear hb1)))
    go_region_held3 (fun w' => w'.cell? ⟨w.heap.size, 0, none⟩ = some (.bool false) ∧ w'.cell? ⟨w.heap.size, 1, none⟩ = some (.int .u64 (hi ca : Int)) ∧ w'.cell? ⟨w.heap.size, 2, none⟩ = some (.int .u64 (lo ca : Int)) ∧ w'.cell? ⟨w.heap.size, 3, none⟩ = some (.int .i64 (SA : Int)) ∧ w'.cell? ⟨w.heap.size + 1, 0, none⟩ = some (.bool true) ∧ w'.cell? ⟨w.heap.size + 1, 1, none⟩ = some (.int .u64 (hi cb : Int)) ∧ w'.cell? ⟨w.heap.size + 1, 2, none⟩ = some (.int .u64 (lo cb : Int)) ∧ w'.cell? ⟨w.heap.size + 1, 3, none⟩ = some (.int .i64 (SB : Int))) (first | (simp [go_sem]; done) | go_keep) (first
      | (go_at_call 36; ((with_reducible refine (H1.out _).mono ?_); rintro e w1 ⟨rfl, hb1⟩; obtain ⟨osC, dC, rfl⟩ := ext_of_below hb1; clear hb1))
      | (go_at_call 35; ((with_reducible refine (H2.out _ (HT.out _ (by (repeat' (first | (with_reducible exact Below.refl _ _) | (with_reducible assumption) | (with_reducible refine Below.alloc ?_ ?_ _) | (with_reducible refine below_drewN ?_ _) | (with_reducible refine below_drew ?_) | (with_reducible refine below_ext ?_ ?_ _ _) | (with_reducible refine Below.setCell ?_ ?_ _) | (simp; done) | (simp; omega) | omega))))).mono ?_); rintro e w1 ⟨rfl, hb1⟩; obtain ⟨osD, dD, rfl⟩ := ext_of_below hb1; clear hb1)))
    all_goals
      go_wp2
      go_returns
      exact ⟨rfl, by (repeat' (first | (with_reducible exact Below.refl _ _) | (with_reducible assumption) | (with_reducible refine Below.alloc ?_ ?_ _) | (with_reducible refine below_drewN ?_ _) | (with_reducible refine below_drew ?_) | (with_reducible refine below_ext ?_ ?_ _ _) | (with_reducible refine Below.setCell ?_ ?_ _) | (simp; done) | (simp; omega) | omega))⟩
  · obtain rfl : g = true := hg
    go_enter Tryd.func10, Tryd.ntmps10
    go_wp2_with (first
      | (go_at_call 23; ((with_reducible refine (F1.out _ (HT.out _ (by (repeat' (first | (with_reducible exact Below.refl _ _) | (with_reducible assumption) | (with_reducible refine Below.alloc ?_ ?_ _) | (with_reducible refine below_drewN ?_ _) | (with_reducible refine below_drew ?_) | (with_reducible refine below_ext ?_ ?_ _ _) | (with_reducible refine Below.setCell ?_ ?_ _) | (simp; done) | (simp; omega) | omega))))).mono ?_); rintro e w1 ⟨rfl, hb1⟩; obtain ⟨osA, dA, rfl⟩ := ext_of_below hb1; clear hb1))
      | (go_at_call 23; ((with_reducible refine (F2.out _ (HT.out _ (by (repeat' (first | (with_reducible exact Below.refl _ _) | (with_reducible assumption) | (with_reducible refine Below.alloc ?_ ?_ _) | (with_reducible refine below_drewN ?_ _) | (with_reducible refine below_drew ?_) | (with_reducible refine below_ext ?_ ?_ _ _) | (with_reducible refine Below.setCell ?_ ?_ _) | (simp; done) | (simp; omega) | omega))))).mono ?_); rintro e w1 ⟨rfl, hb1⟩; obtain ⟨osB, dB, rfl⟩ := ext_of_below hb1; clear hb1)))
    go_region_held3 (fun w' => w'.cell? ⟨w.heap.size, 0, none⟩ = some (.bool true) ∧ w'.cell? ⟨w.heap.size, 1, none⟩ = some (.int .u64 (hi ca : Int)) ∧ w'.cell? ⟨w.heap.size, 2, none⟩ = some (.int .u64 (lo ca : Int)) ∧ w'.cell? ⟨w.heap.size, 3, none⟩ = some (.int .i64 (SA : Int)) ∧ w'.cell? ⟨w.heap.size + 1, 0, none⟩ = some (.bool false) ∧ w'.cell? ⟨w.heap.size + 1, 1, none⟩ = some (.int .u64 (hi cb : Int)) ∧ w'.cell? ⟨w.heap.size + 1, 2, none⟩ = some (.int .u64 (lo cb : Int)) ∧ w'.cell? ⟨w.heap.size + 1, 3, none⟩ = some (.int .i64 (SB : Int))) (first | (simp [go_sem]; done) | go_keep) (first
      | (go_at_call 36; ((with_reducible refine (H1.out _).mono ?_); rintro e w1 ⟨rfl, hb1⟩; obtain ⟨osC, dC, rfl⟩ := ext_of_below hb1; clear hb1))
      | (go_at_call 35; ((with_reducible refine (H2.out _ (HT.out _ (by (repeat' (first | (with_reducible exact Below.refl _ _) | (with_reducible assumption) | (with_reducible refine Below.alloc ?_ ?_ _) | (with_reducible refine below_drewN ?_ _) | (with_reducible refine below_drew ?_) | (with_reducible refine below_ext ?_ ?_ _ _) | (with_reducible refine Below.setCell ?_ ?_ _) | (simp; done) | (simp; omega) | omega))))).mono ?_); rintro e w1 ⟨rfl, hb1⟩; obtain ⟨osD, dD, rfl⟩ := ext_of_below hb1; clear hb1)))
    all_goals
      go_wp2
      go_returns
      exact ⟨rfl, by (repeat' (first | (with_reducible exact Below.refl _ _) | (with_reducible assumption) | (with_reducible refine Below.alloc ?_ ?_ _) | (with_reducible refine below_drewN ?_ _) | (with_reducible refine below_drew ?_) | (with_reducible refine below_ext ?_ ?_ _ _) | (with_reducible refine Below.setCell ?_ ?_ _) | (simp; done) | (simp; omega) | omega))⟩
  · obtain rfl : g = false := hg
    go_enter Tryd.func10, Tryd.ntmps10
    go_wp2_with (first
      | (go_at_call 23; ((with_reducible refine (F1.out _ (HT.out _ (by (repeat' (first | (with_reducible exact Below.refl _ _) | (with_reducible assumption) | (with_reducible refine Below.alloc ?_ ?_ _) | (with_reducible refine below_drewN ?_ _) | (with_reducible refine below_drew ?_) | (with_reducible refine below_ext ?_ ?_ _ _) | (with_reducible refine Below.setCell ?_ ?_ _) | (simp; done) | (simp; omega) | omega))))).mono ?_); rintro e w1 ⟨rfl, hb1⟩; obtain ⟨osA, dA, rfl⟩ := ext_of_below hb1; clear hb1))
      | (go_at_call 23; ((with_reducible refine (F2.out _ (HT.out _ (by (repeat' (first | (with_reducible exact Below.refl _ _) | (with_reducible assumption) | (with_reducible refine Below.alloc ?_ ?_ _) | (with_reducible refine below_drewN ?_ _) | (with_reducible refine below_drew ?_) | (with_reducible refine below_ext ?_ ?_ _ _) | (with_reducible refine Below.setCell ?_ ?_ _) | (simp; done) | (simp; omega) | omega))))).mono ?_); rintro e w1 ⟨rfl, hb1⟩; obtain ⟨osB, dB, rfl⟩ := ext_of_below hb1; clear hb1)))
    go_region_held3 (fun w' => w'.cell? ⟨w.heap.size, 0, none⟩ = some (.bool true) ∧ w'.cell? ⟨w.heap.size, 1, none⟩ = some (.int .u64 (hi ca : Int)) ∧ w'.cell? ⟨w.heap.size, 2, none⟩ = some (.int .u64 (lo ca : Int)) ∧ w'.cell? ⟨w.heap.size, 3, none⟩ = some (.int .i64 (SA : Int)) ∧ w'.cell? ⟨w.heap.size + 1, 0, none⟩ = some (.bool true) ∧ w'.cell? ⟨w.heap.size + 1, 1, none⟩ = some (.int .u64 (hi cb : Int)) ∧ w'.cell? ⟨w.heap.size + 1, 2, none⟩ = some (.int .u64 (lo cb : Int)) ∧ w'.cell? ⟨w.heap.size + 1, 3, none⟩ = some (.int .i64 (SB : Int))) (first | (simp [go_sem]; done) | go_keep) (first
      | (go_at_call 36; ((with_reducible refine (H1.out _).mono ?_); rintro e w1 ⟨rfl, hb1⟩; obtain ⟨osC, dC, rfl⟩ := ext_of_below hb1; clear hb1))
      | (go_at_call 35; ((with_reducible refine (H2.out _ (HT.out _ (by (repeat' (first | (with_reducible exact Below.refl _ _) | (with_reducible assumption) | (with_reducible refine Below.alloc ?_ ?_ _) | (with_reducible refine below_drewN ?_ _) | (with_reducible refine below_drew ?_) | (with_reducible refine below_ext ?_ ?_ _ _) | (with_reducible refine Below.setCell ?_ ?_ _) | (simp; done) | (simp; omega) | omega))))).mono ?_); rintro e w1 ⟨rfl, hb1⟩; obtain ⟨osD, dD, rfl⟩ := ext_of_below hb1; clear hb1)))
    all_goals
      go_wp2
      go_returns
      exact ⟨rfl, by (repeat' (first | (with_reducible exact Below.refl _ _) | (with_reducible assumption) | (with_reducible refine Below.alloc ?_ ?_ _) | (with_reducible refine below_drewN ?_ _) | (with_reducible refine below_drew ?_) | (with_reducible refine below_ext ?_ ?_ _ _) | (with_reducible refine Below.setCell ?_ ?_ _) | (simp; done) | (simp; omega) | omega))⟩
theorem dMul_bad1 (na nb : Bool) (ca cb : Nat) (sa sb : Int) (hc : ca < top2) (f : formB na ca sa = false) (w : World) (ht : Tens w) :
    Calls Tryd.prog 10 #[D na ca sa, D nb cb sb] w fun e w' => e = .returned (.tuple #[D false 0 0, .int .i64 2]) ∧ Below w.heap.size w w' := by
  have HT := Lib.hid (fun w' (hb : Below w.heap.size w w') => ht.below hb)
  have F1 := Lib.hid (fun w ht => form_no hc f w ht)
  rw [← dbad_D]
  clear ht f hc
  go_enter Tryd.func10, Tryd.ntmps10
  go_wp2_with (first
    | (go_at_call 23; ((with_reducible refine (F1.out _ (HT.out _ (by (repeat' (first | (with_reducible exact Below.refl _ _) | (with_reducible assumption) | (with_reducible refine Below.alloc ?_ ?_ _) | (with_reducible refine below_drewN ?_ _) | (with_reducible refine below_drew ?_) | (with_reducible refine below_ext ?_ ?_ _ _) | (with_reducible refine Below.setCell ?_ ?_ _) | (simp; done) | (simp; omega) | omega))))).mono ?_); rintro e w1 ⟨rfl, hb1⟩; obtain ⟨osA, dA, rfl⟩ := ext_of_below hb1; clear hb1)))
  go_returns
  exact ⟨rfl, by (repeat' (first | (with_reducible exact Below.refl _ _) | (with_reducible assumption) | (with_reducible refine Below.alloc ?_ ?_ _) | (with_reducible refine below_drewN ?_ _) | (with_reducible refine below_drew ?_) | (with_reducible refine below_ext ?_ ?_ _ _) | (with_reducible refine Below.setCell ?_ ?_ _) | (simp; done) | (simp; omega) | omega))⟩
theorem dMul_bad2 (na nb : Bool) (ca cb : Nat) (sa sb : Int) (fa : formB na ca sa = true) (hc : cb < top2) (f : formB nb cb sb = false) (w : World) (ht : Tens w) :
    Calls Tryd.prog 10 #[D na ca sa, D nb cb sb] w fun e w' => e = .returned (.tuple #[D false 0 0, .int .i64 2]) ∧ Below w.heap.size w w' := by
  have HT := Lib.hid (fun w' (hb : Below w.heap.size w w') => ht.below hb)
  have F1 := Lib.hid (fun w ht => form_yes fa w ht)
  have F2 := Lib.hid (fun w ht => form_no hc f w ht)
  rw [← dbad_D]
  clear ht f hc fa
  go_enter Tryd.func10, Tryd.ntmps10
  go_wp2_with (first
    | (go_at_call 23; ((with_reducible refine (F1.out _ (HT.out _ (by (repeat' (first | (with_reducible exact Below.refl _ _) | (with_reducible assumption) | (with_reducible refine Below.alloc ?_ ?_ _) | (with_reducible refine below_drewN ?_ _) | (with_reducible refine below_drew ?_) | (with_reducible refine below_ext ?_ ?_ _ _) | (with_reducible refine Below.setCell ?_ ?_ _) | (simp; done) | (simp; omega) | omega))))).mono ?_); rintro e w1 ⟨rfl, hb1⟩; obtain ⟨osA, dA, rfl⟩ := ext_of_below hb1; clear hb1))
    | (go_at_call 23; ((with_reducible refine (F2.out _ (HT.out _ (by (repeat' (first | (with_reducible exact Below.refl _ _) | (with_reducible assumption) | (with_reducible refine Below.alloc ?_ ?_ _) | (with_reducible refine below_drewN ?_ _) | (with_reducible refine below_drew ?_) | (with_reducible refine below_ext ?_ ?_ _ _) | (with_reducible refine Below.setCell ?_ ?_ _) | (simp; done) | (simp; omega) | omega))))).mono ?_); rintro e w1 ⟨rfl, hb1⟩; obtain ⟨osB, dB, rfl⟩ := ext_of_below hb1; clear hb1)))
  go_returns
  exact ⟨rfl, by (repeat' (first | (with_reducible exact Below.refl _ _) | (with_reducible assumption) | (with_reducible refine Below.alloc ?_ ?_ _) | (with_reducible refine below_drewN ?_ _) | (with_reducible refine below_drew ?_) | (with_reducible refine below_ext ?_ ?_ _ _) | (with_reducible refine Below.setCell ?_ ?_ _) | (simp; done) | (simp; omega) | omega))⟩
theorem docMulD_bad (na nb : Bool) (ca cb : Nat) (sa sb : Int) (ha : ca < top2) (hb : cb < top2) (f : (formB na ca sa && formB nb cb sb) = false) (w : World) :
    Calls Tryd.prog 9 #[D na ca sa, D nb cb sb] w fun e w' => e = .returned (.tuple #[D false 0 0, .int .i64 2]) ∧ Below w.heap.size w w' := by
  have H0 := Lib.hid (fun w => rforms_no ha hb f w)
  rw [← dbad_D]
  clear ha hb f
  go_enter Tryd.func9, Tryd.ntmps9
  go_wp2_with (first
    | (go_at_call 30; ((with_reducible refine (H0.out _).mono ?_); rintro e w1 ⟨rfl, hb1⟩; obtain ⟨osA, dA, rfl⟩ := ext_of_below hb1; clear hb1)))
  go_returns
  exact ⟨rfl, by (repeat' (first | (with_reducible exact Below.refl _ _) | (with_reducible assumption) | (with_reducible refine Below.alloc ?_ ?_ _) | (with_reducible refine below_drewN ?_ _) | (with_reducible refine below_drew ?_) | (with_reducible refine below_ext ?_ ?_ _ _) | (with_reducible refine Below.setCell ?_ ?_ _) | (simp; done) | (simp; omega) | omega))⟩
theorem dDiv_bad1 (na nb : Bool) (ca cb : Nat) (sa sb : Int) (hc : ca < top2) (f : formB na ca sa = false) (w : World) (ht : Tens w) :
    Calls Tryd.prog 12 #[D na ca sa, D nb cb sb] w fun e w' => e = .returned (.tuple #[D false 0 0, .int .i64 2]) ∧ Below w.heap.size w w' := by
  have HT := Lib.hid (fun w' (hb : Below w.heap.size w w') => ht.below hb)
  have F1 := Lib.hid (fun w ht => form_no hc f w ht)
  rw [← dbad_D]
  clear ht f hc
  go_enter Tryd.func12, Tryd.ntmps12
  go_wp2_with (first
    | (go_at_call 23; ((with_reducible refine (F1.out _ (HT.out _ (by (repeat' (first | (with_reducible exact Below.refl _ _) | (with_reducible assumption) | (with_reducible refine Below.alloc ?_ ?_ _) | (with_reducible refine below_drewN ?_ _) | (with_reducible refine below_drew ?_) | (with_reducible refine below_ext ?_ ?_ _ _) | (with_reducible refine Below.setCell ?_ ?_ _) | (simp; done) | (simp; omega) | omega))))).mono ?_); rintro e w1 ⟨rfl, hb1⟩; obtain ⟨osA, dA, rfl⟩ := ext_of_below hb1; clear hb1)))
  go_returns
  exact ⟨rfl, by (repeat' (first | (with_reducible exact Below.refl _ _) | (with_reducible assumption) | (with_reducible refine Below.alloc ?_ ?_ _) | (with_reducible refine below_drewN ?_ _) | (with_reducible refine below_drew ?_) | (with_reducible refine below_ext ?_ ?_ _ _) | (with_reducible refine Below.setCell ?_ ?_ _) | (simp; done) | (simp; omega) | omega))⟩
theorem dDiv_bad2 (na nb : Bool) (ca cb : Nat) (sa sb : Int) (fa : formB na ca sa = true) (hc : cb < top2) (f : formB nb cb sb = false) (w : World) (ht : Tens w) :
    Calls Tryd.prog 12 #[D na ca sa, D nb cb sb] w fun e w' => e = .returned (.tuple #[D false 0 0, .int .i64 2]) ∧ Below w.heap.size w w' := by
  have HT := Lib.hid (fun w' (hb : Below w.heap.size w w') => ht.below hb)
  have F1 := Lib.hid (fun w ht => form_yes fa w ht)
  have F2 := Lib.hid (fun w ht => form_no hc f w ht)
  rw [← dbad_D]
  clear ht f hc fa
  go_enter Tryd.func12, Tryd.ntmps12
  go_wp2_with (first
    | (go_at_call 23; ((with_reducible refine (F1.out _ (HT.out _ (by (repeat' (first | (with_reducible exact Below.refl _ _) | (with_reducible assumption) | (with_reducible refine Below.alloc ?_ ?_ _) | (with_reducible refine below_drewN ?_ _) | (with_reducible refine below_drew ?_) | (with_reducible refine below_ext ?_ ?_ _ _) | (with_reducible refine Below.setCell ?_ ?_ _) | (simp; done) | (simp; omega) | omega))))).mono ?_); rintro e w1 ⟨rfl, hb1⟩; obtain ⟨osA, dA, rfl⟩ := ext_of_below hb1; clear hb1))
    | (go_at_call 23; ((with_reducible refine (F2.out _ (HT.out _ (by (repeat' (first | (with_reducible exact Below.refl _ _) | (with_reducible assumption) | (with_reducible refine Below.alloc ?_ ?_ _) | (with_reducible refine below_drewN ?_ _) | (with_reducible refine below_drew ?_) | (with_reducible refine below_ext ?_ ?_ _ _) | (with_reducible refine Below.setCell ?_ ?_ _) | (simp; done) | (simp; omega) | omega))))).mono ?_); rintro e w1 ⟨rfl, hb1⟩; obtain ⟨osB, dB, rfl⟩ := ext_of_below hb1; clear hb1)))
  go_returns
  exact ⟨rfl, by (repeat' (first | (with_reducible exact Below.refl _ _) | (with_reducible assumption) | (with_reducible refine Below.alloc ?_ ?_ _) | (with_reducible refine below_drewN ?_ _) | (with_reducible refine below_drew ?_) | (with_reducible refine below_ext ?_ ?_ _ _) | (with_reducible refine Below.setCell ?_ ?_ _) | (simp; done) | (simp; omega) | omega))⟩
theorem docDivD_bad (na nb : Bool) (ca cb : Nat) (sa sb : Int) (ha : ca < top2) (hb : cb < top2) (f : (formB na ca sa && formB nb cb sb) = false) (w : World) :
    Calls Tryd.prog 11 #[D na ca sa, D nb cb sb] w fun e w' => e = .returned (.tuple #[D false 0 0, .int .i64 2]) ∧ Below w.heap.size w w' := by
  have H0 := Lib.hid (fun w => rforms_no ha hb f w)
  rw [← dbad_D]
  clear ha hb f
  go_enter Tryd.func11, Tryd.ntmps11
  go_wp2_with (first
    | (go_at_call 30; ((with_reducible refine (H0.out _).mono ?_); rintro e w1 ⟨rfl, hb1⟩; obtain ⟨osA, dA, rfl⟩ := ext_of_below hb1; clear hb1)))
  go_returns
  exact ⟨rfl, by (repeat' (first | (with_reducible exact Below.refl _ _) | (with_reducible assumption) | (with_reducible refine Below.alloc ?_ ?_ _) | (with_reducible refine below_drewN ?_ _) | (with_reducible refine below_drew ?_) | (with_reducible refine below_ext ?_ ?_ _ _) | (with_reducible refine Below.setCell ?_ ?_ _) | (simp; done) | (simp; omega) | omega))⟩
theorem dMod_bad1 (na nb : Bool) (ca cb : Nat) (sa sb : Int) (hc : ca < top2) (f : formB na ca sa = false) (w : World) (ht : Tens w) :
    Calls Tryd.prog 14 #[D na ca sa, D nb cb sb] w fun e w' => e = .returned (.tuple #[D false 0 0, .int .i64 2]) ∧ Below w.heap.size w w' := by
  have HT := Lib.hid (fun w' (hb : Below w.heap.size w w') => ht.below hb)
  have F1 := Lib.hid (fun w ht => form_no hc f w ht)
  rw [← dbad_D]
  clear ht f hc
  go_enter Tryd.func14, Tryd.ntmps14
  go_wp2_with (first
    | (go_at_call 23; ((with_reducible refine (F1.out _ (HT.out _ (by (repeat' (first | (with_reducible exact Below.refl _ _) | (with_reducible assumption) | (with_reducible refine Below.alloc ?_ ?_ _) | (with_reducible refine below_drewN ?_ _) | (with_reducible refine below_drew ?_) | (with_reducible refine below_ext ?_ ?_ _ _) | (with_reducible refine Below.setCell ?_ ?_ _) | (simp; done) | (simp; omega) | omega))))).mono ?_); rintro e w1 ⟨rfl, hb1⟩; obtain ⟨osA, dA, rfl⟩ := ext_of_below hb1; clear hb1)))
  go_returns
  exact ⟨rfl, by (repeat' (first | (with_reducible exact Below.refl _ _) | (with_reducible assumption) | (with_reducible refine Below.alloc ?_ ?_ _) | (with_reducible refine below_drewN ?_ _) | (with_reducible refine below_drew ?_) | (with_reducible refine below_ext ?_ ?_ _ _) | (with_reducible refine Below.setCell ?_ ?_ _) | (simp; done) | (simp; omega) | omega))⟩
theorem dMod_bad2 (na nb : Bool) (ca cb : Nat) (sa sb : Int) (fa : formB na ca sa = true) (hc : cb < top2) (f : formB nb cb sb = false) (w : World) (ht : Tens w) :
    Calls Tryd.prog 14 #[D na ca sa, D nb cb sb] w fun e w' => e = .returned (.tuple #[D false 0 0, .int .i64 2]) ∧ Below w.heap.size w w' := by
  have HT := Lib.hid (fun w' (hb : Below w.heap.size w w') => ht.below hb)
  have F1 := Lib.hid (fun w ht => form_yes fa w ht)
  have F2 := Lib.hid (fun w ht => form_no hc f w ht)
  rw [← dbad_D]
  clear ht f hc fa
  go_enter Tryd.func14, Tryd.ntmps14
  go_wp2_with (first
    | (go_at_call 23; ((with_reducible refine (F1.out _ (HT.out _ (by (repeat' (first | (with_reducible exact Below.refl _ _) | (with_reducible assumption) | (with_reducible refine Below.alloc ?_ ?_ _) | (with_reducible refine below_drewN ?_ _) | (with_reducible refine below_drew ?_) | (with_reducible refine below_ext ?_ ?_ _ _) | (with_reducible refine Below.setCell ?_ ?_ _) | (simp; done) | (simp; omega) | omega))))).mono ?_); rintro e w1 ⟨rfl, hb1⟩; obtain ⟨osA, dA, rfl⟩ := ext_of_below hb1; clear hb1))
    | (go_at_call 23; ((with_reducible refine (F2.out _ (HT.out _ (by (repeat' (first | (with_reducible exact Below.refl _ _) | (with_reducible assumption) | (with_reducible refine Below.alloc ?_ ?_ _) | (with_reducible refine below_drewN ?_ _) | (with_reducible refine below_drew ?_) | (with_reducible refine below_ext ?_ ?_ _ _) | (with_reducible refine Below.setCell ?_ ?_ _) | (simp; done) | (simp; omega) | omega))))).mono ?_); rintro e w1 ⟨rfl, hb1⟩; obtain ⟨osB, dB, rfl⟩ := ext_of_below hb1; clear hb1)))
  go_returns
  exact ⟨rfl, by (repeat' (first | (with_reducible exact Below.refl _ _) | (with_reducible assumption) | (with_reducible refine Below.alloc ?_ ?_ _) | (with_reducible refine below_drewN ?_ _) | (with_reducible refine below_drew ?_) | (with_reducible refine below_ext ?_ ?_ _ _) | (with_reducible refine Below.setCell ?_ ?_ _) | (simp; done) | (simp; omega) | omega))⟩
theorem docModD_bad (na nb : Bool) (ca cb : Nat) (sa sb : Int) (ha : ca < top2) (hb : cb < top2) (f : (formB na ca sa && formB nb cb sb) = false) (w : World) :
    Calls Tryd.prog 13 #[D na ca sa, D nb cb sb] w fun e w' => e = .returned (.tuple #[D false 0 0, .int .i64 2]) ∧ Below w.heap.size w w' := by
  have H0 := Lib.hid (fun w => rforms_no ha hb f w)
  rw [← dbad_D]
  clear ha hb f
  go_enter Tryd.func13, Tryd.ntmps13
  go_wp2_with (first
    | (go_at_call 30; ((with_reducible refine (H0.out _).mono ?_); rintro e w1 ⟨rfl, hb1⟩; obtain ⟨osA, dA, rfl⟩ := ext_of_below hb1; clear hb1)))
  go_returns
  exact ⟨rfl, by (repeat' (first | (with_reducible exact Below.refl _ _) | (with_reducible assumption) | (with_reducible refine Below.alloc ?_ ?_ _) | (with_reducible refine below_drewN ?_ _) | (with_reducible refine below_drew ?_) | (with_reducible refine below_ext ?_ ?_ _ _) | (with_reducible refine Below.setCell ?_ ?_ _) | (simp; done) | (simp; omega) | omega))⟩
set_option maxRecDepth 100000 in
set_option maxHeartbeats 8000000 in
theorem docMulD_ok (na nb : Bool) (ca cb : Nat) (sa sb : Int) (SA SB : Nat) (hA : sa = (SA : Int)) (hB : sb = (SB : Int)) (fa : formB na ca sa = true) (fb : formB nb cb sb = true) (g : Bool) (hg : g = (na != nb)) (F : Option (Nat × Nat)) (hF : F = Fit.fit (ca * cb) (10 ^ (SA + SB)) 19) (w : World) :
    Calls Tryd.prog 9 #[D na ca sa, D nb cb sb] w fun e w' => e = .returned (.tuple #[FV g F, .int .i64 (fitE F)]) ∧ Below w.heap.size w w' := by
  obtain ⟨SA', hA', hA18, cA, _, _⟩ := form_open fa
  obtain ⟨SB', hB', hB18, cB, _, _⟩ := form_open fb
  obtain rfl : SA = SA' := by omega
  obtain rfl : SB = SB' := by omega
  have H0 := Lib.hid (fun w => rforms_yes fa fb w)
  subst hA hB
  have H1 := Lib.hid (fun w => of_any ca (lt34_top2 cA) w)
  have H2 := Lib.hid (fun w => of_any cb (lt34_top2 cB) w)
  have h3 := fun va vb w ha hb => rtimes_any va vb ca cb (by have := len2 (lt34_top2 cA); omega) (by have := len2 (lt34_top2 cB); omega) w ha hb
  have hlt := cc_lt cA cB
  obtain ⟨P, hP⟩ : ∃ P, P = ca * cb := ⟨_, rfl⟩
  rw [← hP] at h3 hF hlt
  have hPl : (dg P).length ≤ 68 := dg_len_le.2 hlt
  have E1 : (SA : Int) + (SB : Int) = ((SA + SB : Nat) : Int) := by omega
  obtain ⟨m, hm⟩ : ∃ m, m = SA + SB := ⟨_, rfl⟩
  have hm36 : m ≤ 36 := by omega
  rw [← hm] at E1 hF
  have E2 : IntKind.i64.wrap (m : Int) = (m : Int) := IntWalk.i64_in _ (by omega)
  have h4 := fun w => one_any m (by omega) w
  have h5 := fun va vb w ha hb => rfit_any g va vb P (10 ^ m) F hF (Fit.pp _) (by omega) (Nat.le_trans (dg_len_le (k := 37).2 (Nat.pow_lt_pow_right (by decide) (by omega))) (by omega)) w ha hb
  obtain ⟨T, hT⟩ : ∃ T, T = 10 ^ m := ⟨_, rfl⟩
  rw [← hT] at h4 h5
  show Calls Tryd.prog 9 #[D na ca (SA : Int), D nb cb (SB : Int)] w fun e w' => e = .returned (.tuple #[D (g && decide (0 < fitC F)) (fitC F) (fitZ F), .int .i64 (fitE F)]) ∧ Below w.heap.size w w'
  unfold FV at h5
  obtain ⟨vg, hvg⟩ : ∃ x, x = (g && decide (0 < fitC F)) := ⟨_, rfl⟩
  obtain ⟨vc, hvc⟩ : ∃ x, x = fitC F := ⟨_, rfl⟩
  obtain ⟨vz, hvz⟩ : ∃ x, x = fitZ F := ⟨_, rfl⟩
  obtain ⟨ve, hve⟩ : ∃ x, x = fitE F := ⟨_, rfl⟩
  rw [← hvg, ← hvc, ← hvz, ← hve] at h5 ⊢
  have H3 := Lib.hid h3; have H4 := Lib.hid h4; have H5 := Lib.hid h5
  clear fa fb h3 h4 h5 hF hlt hP hPl hm hm36 hvg hvc hvz hve hT cA cB hA' hB' hA18 hB18
  cases na <;> cases nb
  · obtain rfl : g = false := hg
    go_enter Tryd.func9, Tryd.ntmps9
    go_wp2_with (first
      | (go_at_call 30; ((with_reducible refine (H0.out _).mono ?_); rintro e w1 ⟨rfl, hb1⟩; obtain ⟨osA, dA, rfl⟩ := ext_of_below hb1; clear hb1)))
    go_region_held3 (fun w' => w'.cell? ⟨w.heap.size, 0, none⟩ = some (.bool false) ∧ w'.cell? ⟨w.heap.size, 1, none⟩ = some (.int .u64 (hi ca : Int)) ∧ w'.cell? ⟨w.heap.size, 2, none⟩ = some (.int .u64 (lo ca : Int)) ∧ w'.cell? ⟨w.heap.size, 3, none⟩ = some (.int .i64 (SA : Int)) ∧ w'.cell? ⟨w.heap.size + 1, 0, none⟩ = some (.bool false) ∧ w'.cell? ⟨w.heap.size + 1, 1, none⟩ = some (.int .u64 (hi cb : Int)) ∧ w'.cell? ⟨w.heap.size + 1, 2, none⟩ = some (.int .u64 (lo cb : Int)) ∧ w'.cell? ⟨w.heap.size + 1, 3, none⟩ = some (.int .i64 (SB : Int))) (first | (simp [go_sem]; done) | go_keep) (first
      | (go_at_call 33; ((with_reducible refine (H1.out _).mono ?_); rintro e w1 ⟨v1, rfl, r1, b1⟩; obtain ⟨os1, d1, rfl⟩ := ext_of_below b1; clear b1))
      | (go_at_call 33; ((with_reducible refine (H2.out _).mono ?_); rintro e w2 ⟨v2, rfl, r2, b2⟩; obtain ⟨os2, d2, rfl⟩ := ext_of_below b2; clear b2))
      | (go_at_call 32; ((with_reducible refine (H3.out _ _ _ (r1.rd.later (by (repeat' (first | (with_reducible exact Below.refl _ _) | (with_reducible assumption) | (with_reducible refine Below.alloc ?_ ?_ _) | (with_reducible refine below_drewN ?_ _) | (with_reducible refine below_drew ?_) | (with_reducible refine below_ext ?_ ?_ _ _) | (with_reducible refine Below.setCell ?_ ?_ _) | (simp; done) | (simp; omega) | omega)))) (r2.rd.later (by (repeat' (first | (with_reducible exact Below.refl _ _) | (with_reducible assumption) | (with_reducible refine Below.alloc ?_ ?_ _) | (with_reducible refine below_drewN ?_ _) | (with_reducible refine below_drew ?_) | (with_reducible refine below_ext ?_ ?_ _ _) | (with_reducible refine Below.setCell ?_ ?_ _) | (simp; done) | (simp; omega) | omega))))).mono ?_); rintro e w3 ⟨v3, rfl, r3, b3⟩; obtain ⟨os3, d3, rfl⟩ := ext_of_below b3; clear b3))
      | (go_at_call 34; ((with_reducible refine (H4.out _).mono ?_); rintro e w4 ⟨v4, rfl, r4, b4⟩; obtain ⟨os4, d4, rfl⟩ := ext_of_below b4; clear b4))
      | (go_at_call 31; ((with_reducible refine (H5.out _ _ _ (r3.rd.later (by (repeat' (first | (with_reducible exact Below.refl _ _) | (with_reducible assumption) | (with_reducible refine Below.alloc ?_ ?_ _) | (with_reducible refine below_drewN ?_ _) | (with_reducible refine below_drew ?_) | (with_reducible refine below_ext ?_ ?_ _ _) | (with_reducible refine Below.setCell ?_ ?_ _) | (simp; done) | (simp; omega) | omega)))) (r4.rd.later (by (repeat' (first | (with_reducible exact Below.refl _ _) | (with_reducible assumption) | (with_reducible refine Below.alloc ?_ ?_ _) | (with_reducible refine below_drewN ?_ _) | (with_reducible refine below_drew ?_) | (with_reducible refine below_ext ?_ ?_ _ _) | (with_reducible refine Below.setCell ?_ ?_ _) | (simp; done) | (simp; omega) | omega))))).mono ?_); rintro e w5 ⟨rfl, b5⟩; obtain ⟨os5, d5, rfl⟩ := ext_of_below b5; clear b5)))
    all_goals
      go_wp2
      go_returns
      exact ⟨rfl, by (repeat' (first | (with_reducible exact Below.refl _ _) | (with_reducible assumption) | (with_reducible refine Below.alloc ?_ ?_ _) | (with_reducible refine below_drewN ?_ _) | (with_reducible refine below_drew ?_) | (with_reducible refine below_ext ?_ ?_ _ _) | (with_reducible refine Below.setCell ?_ ?_ _) | (simp; done) | (simp; omega) | omega))⟩
  · obtain rfl : g = true := hg
    go_enter Tryd.func9, Tryd.ntmps9
    go_wp2_with (first
      | (go_at_call 30; ((with_reducible refine (H0.out _).mono ?_); rintro e w1 ⟨rfl, hb1⟩; obtain ⟨osA, dA, rfl⟩ := ext_of_below hb1; clear hb1)))
    go_region_held3 (fun w' => w'.cell? ⟨w.heap.size, 0, none⟩ = some (.bool false) ∧ w'.cell? ⟨w.heap.size, 1, none⟩ = some (.int .u64 (hi ca : Int)) ∧ w'.cell? ⟨w.heap.size, 2, none⟩ = some (.int .u64 (lo ca : Int)) ∧ w'.cell? ⟨w.heap.size, 3, none⟩ = some (.int .i64 (SA : Int)) ∧ w'.cell? ⟨w.heap.size + 1, 0, none⟩ = some (.bool true) ∧ w'.cell? ⟨w.heap.size + 1, 1, none⟩ = some (.int .u64 (hi cb : Int)) ∧ w'.cell? ⟨w.heap.size + 1, 2, none⟩ = some (.int .u64 (lo cb : Int)) ∧ w'.cell? ⟨w.heap.size + 1, 3, none⟩ = some (.int .i64 (SB : Int))) (first | (simp [go_sem]; done) | go_keep) (first
      | (go_at_call 33; ((with_reducible refine (H1.out _).mono ?_); rintro e w1 ⟨v1, rfl, r1, b1⟩; obtain ⟨os1, d1, rfl⟩ := ext_of_below b1; clear b1))
      | (go_at_call 33; ((with_reducible refine (H2.out _).mono ?_); rintro e w2 ⟨v2, rfl, r2, b2⟩; obtain ⟨os2, d2, rfl⟩ := ext_of_below b2; clear b2))
      | (go_at_call 32; ((with_reducible refine (H3.out _ _ _ (r1.rd.later (by (repeat' (first | (with_reducible exact Below.refl _ _) | (with_reducible assumption) | (with_reducible refine Below.alloc ?_ ?_ _) | (with_reducible refine below_drewN ?_ _) | (with_reducible refine below_drew ?_) | (with_reducible refine below_ext ?_ ?_ _ _) | (with_reducible refine Below.setCell ?_ ?_ _) | (simp; done) | (simp; omega) | omega)))) (r2.rd.later (by (repeat' (first | (with_reducible exact Below.refl _ _) | (with_reducible assumption) | (with_reducible refine Below.alloc ?_ ?_ _) | (with_reducible refine below_drewN ?_ _) | (with_reducible refine below_drew ?_) | (with_reducible refine below_ext ?_ ?_ _ _) | (with_reducible refine Below.setCell ?_ ?_ _) | (simp; done) | (simp; omega) | omega))))).mono ?_); rintro e w3 ⟨v3, rfl, r3, b3⟩; obtain ⟨os3, d3, rfl⟩ := ext_of_below b3; clear b3))
      | (go_at_call 34; ((with_reducible refine (H4.out _).mono ?_); rintro e w4 ⟨v4, rfl, r4, b4⟩; obtain ⟨os4, d4, rfl⟩ := ext_of_below b4; clear b4))
      | (go_at_call 31; ((with_reducible refine (H5.out _ _ _ (r3.rd.later (by (repeat' (first | (with_reducible exact Below.refl _ _) | (with_reducible assumption) | (with_reducible refine Below.alloc ?_ ?_ _) | (with_reducible refine below_drewN ?_ _) | (with_reducible refine below_drew ?_) | (with_reducible refine below_ext ?_ ?_ _ _) | (with_reducible refine Below.setCell ?_ ?_ _) | (simp; done) | (simp; omega) | omega)))) (r4.rd.later (by (repeat' (first | (with_reducible exact Below.refl _ _) | (with_reducible assumption) | (with_reducible refine Below.alloc ?_ ?_ _) | (with_reducible refine below_drewN ?_ _) | (with_reducible refine below_drew ?_) | (with_reducible refine below_ext ?_ ?_ _ _) | (with_reducible refine Below.setCell ?_ ?_ _) | (simp; done) | (simp; omega) | omega))))).mono ?_); rintro e w5 ⟨rfl, b5⟩; obtain ⟨os5, d5, rfl⟩ := ext_of_below b5; clear b5)))
    all_goals
      go_wp2
      go_returns
      exact ⟨rfl, by (repeat' (first | (with_reducible exact Below.refl _ _) | (with_reducible assumption) | (with_reducible refine Below.alloc ?_ ?_ _) | (with_reducible refine below_drewN ?_ _) | (with_reducible refine below_drew ?_) | (with_reducible refine below_ext ?_ ?_ _ _) | (with_reducible refine Below.setCell ?_ ?_ _) | (simp; done) | (simp; omega) | omega))⟩
  · obtain rfl : g = true := hg
    go_enter Tryd.func9, Tryd.ntmps9
    go_wp2_with (first
      | (go_at_call 30; ((with_reducible refine (H0.out _).mono ?_); rintro e w1 ⟨rfl, hb1⟩; obtain ⟨osA, dA, rfl⟩ := ext_of_below hb1; clear hb1)))
    go_region_held3 (fun w' => w'.cell? ⟨w.heap.size, 0, none⟩ = some (.bool true) ∧ w'.cell? ⟨w.heap.size, 1, none⟩ = some (.int .u64 (hi ca : Int)) ∧ w'.cell? ⟨w.heap.size, 2, none⟩ = some (.int .u64 (lo ca : Int)) ∧ w'.cell? ⟨w.heap.size, 3, none⟩ = some (.int .i64 (SA : Int)) ∧ w'.cell? ⟨w.heap.size + 1, 0, none⟩ = some (.bool false) ∧ w'.cell? ⟨w.heap.size + 1, 1, none⟩ = some (.int .u64 (hi cb : Int)) ∧ w'.cell? ⟨w.heap.size + 1, 2, none⟩ = some (.int .u64 (lo cb : Int)) ∧ w'.cell? ⟨w.heap.size + 1, 3, none⟩ = some (.int .i64 (SB : Int))) (first | (simp [go_sem]; done) | go_keep) (first
      | (go_at_call 33; ((with_reducible refine (H1.out _).mono ?_); rintro e w1 ⟨v1, rfl, r1, b1⟩; obtain ⟨os1, d1, rfl⟩ := ext_of_below b1; clear b1))
      | (go_at_call 33; ((with_reducible refine (H2.out _).mono ?_); rintro e w2 ⟨v2, rfl, r2, b2⟩; obtain ⟨os2, d2, rfl⟩ := ext_of_below b2; clear b2))
      | (go_at_call 32; ((with_reducible refine (H3.out _ _ _ (r1.rd.later (by (repeat' (first | (with_reducible exact Below.refl _ _) | (with_reducible assumption) | (with_reducible refine Below.alloc ?_ ?_ _) | (with_reducible refine below_drewN ?_ _) | (with_reducible refine below_drew ?_) | (with_reducible refine below_ext ?_ ?_ _ _) | (with_reducible refine Below.setCell ?_ ?_ _) | (simp; done) | (simp; omega) | omega)))) (r2.rd.later (by (repeat' (first | (with_reducible exact Below.refl _ _) | (with_reducible assumption) | (with_reducible refine Below.alloc ?_ ?_ _) | (with_reducible refine below_drewN ?_ _) | (with_reducible refine below_drew ?_) | (with_reducible refine below_ext ?_ ?_ _ _) | (with_reducible refine Below.setCell ?_ ?_ _) | (simp; done) | (simp; omega) | omega))))).mono ?_); rintro e w3 ⟨v3, rfl, r3, b3⟩; obtain ⟨os3, d3, rfl⟩ := ext_of_below b3; clear b3))
      | (go_at_call 34; ((with_reducible refine (H4.out _).mono ?_); rintro e w4 ⟨v4, rfl, r4, b4⟩; obtain ⟨os4, d4, rfl⟩ := ext_of_below b4; clear b4))
      | (go_at_call 31; ((with_reducible refine (H5.out _ _ _ (r3.rd.later (by (repeat' (first | (with_reducible exact Below.refl _ _) | (with_reducible assumption) | (with_reducible refine Below.alloc ?_ ?_ _) | (with_reducible refine below_drewN ?_ _) | (with_reducible refine below_drew ?_) | (with_reducible refine below_ext ?_ ?_ _ _) | (with_reducible refine Below.setCell ?_ ?_ _) | (simp; done) | (simp; omega) | omega)))) (r4.rd.later (by (repeat' (first | (with_reducible exact Below.refl _ _) | (with_reducible assumption) | (with_reducible refine Below.alloc ?_ ?_ _) | (with_reducible refine below_drewN ?_ _) | (with_reducible refine below_drew ?_) | (with_reducible refine below_ext ?_ ?_ _ _) | (with_reducible refine Below.setCell ?_ ?_ _) | (simp; done) | (simp; omega) | omega))))).mono ?_); rintro e w5 ⟨rfl, b5⟩; obtain ⟨os5, d5, rfl⟩ := ext_of_below b5; clear b5)))
    all_goals
      go_wp2
      go_returns
      exact ⟨rfl, by (repeat' (first | (with_reducible exact Below.refl _ _) | (with_reducible assumption) | (with_reducible refine Below.alloc ?_ ?_ _) | (with_reducible refine below_drewN ?_ _) | (with_reducible refine below_drew ?_) | (with_reducible refine below_ext ?_ ?_ _ _) | (with_reducible refine Below.setCell ?_ ?_ _) | (simp; done) | (simp; omega) | omega))⟩
  · obtain rfl : g = false := hg
    go_enter Tryd.func9, Tryd.ntmps9
    go_wp2_with (first
      | (go_at_call 30; ((with_reducible refine (H0.out _).mono ?_); rintro e w1 ⟨rfl, hb1⟩; obtain ⟨osA, dA, rfl⟩ := ext_of_below hb1; clear hb1)))
    go_region_held3 (fun w' => w'.cell? ⟨w.heap.size, 0, none⟩ = some (.bool true) ∧ w'.cell? ⟨w.heap.size, 1, none⟩ = some (.int .u64 (hi ca : Int)) ∧ w'.cell? ⟨w.heap.size, 2, none⟩ = some (.int .u64 (lo ca : Int)) ∧ w'.cell? ⟨w.heap.size, 3, none⟩ = some (.int .i64 (SA : Int)) ∧ w'.cell? ⟨w.heap.size + 1, 0, none⟩ = some (.bool true) ∧ w'.cell? ⟨w.heap.size + 1, 1, none⟩ = some (.int .u64 (hi cb : Int)) ∧ w'.cell? ⟨w.heap.size + 1, 2, none⟩ = some (.int .u64 (lo cb : Int)) ∧ w'.cell? ⟨w.heap.size + 1, 3, none⟩ = some (.int .i64 (SB : Int))) (first | (simp [go_sem]; done) | go_keep) (first
      | (go_at_call 33; ((with_reducible refine (H1.out _).mono ?_); rintro e w1 ⟨v1, rfl, r1, b1⟩; obtain ⟨os1, d1, rfl⟩ := ext_of_below b1; clear b1))
      | (go_at_call 33; ((with_reducible refine (H2.out _).mono ?_); rintro e w2 ⟨v2, rfl, r2, b2⟩; obtain ⟨os2, d2, rfl⟩ := ext_of_below b2; clear b2))
      | (go_at_call 32; ((with_reducible refine (H3.out _ _ _ (r1.rd.later (by (repeat' (first | (with_reducible exact Below.refl _ _) | (with_reducible assumption) | (with_reducible refine Below.alloc ?_ ?_ _) | (with_reducible refine below_drewN ?_ _) | (with_reducible refine below_drew ?_) | (with_reducible refine below_ext ?_ ?_ _ _) | (with_reducible refine Below.setCell ?_ ?_ _) | (simp; done) | (simp; omega) | omega)))) (r2.rd.later (by (repeat' (first | (with_reducible exact Below.refl _ _) | (with_reducible assumption) | (with_reducible refine Below.alloc ?_ ?_ _) | (with_reducible refine below_drewN ?_ _) | (with_reducible refine below_drew ?_) | (with_reducible refine below_ext ?_ ?_ _ _) | (with_reducible refine Below.setCell ?_ ?_ _) | (simp; done) | (simp; omega) | omega))))).mono ?_); rintro e w3 ⟨v3, rfl, r3, b3⟩; obtain ⟨os3, d3, rfl⟩ := ext_of_below b3; clear b3))
      | (go_at_call 34; ((with_reducible refine (H4.out _).mono ?_); rintro e w4 ⟨v4, rfl, r4, b4⟩; obtain ⟨os4, d4, rfl⟩ := ext_of_below b4; clear b4))
      | (go_at_call 31; ((with_reducible refine (H5.out _ _ _ (r3.rd.later (by (repeat' (first | (with_reducible exact Below.refl _ _) | (with_reducible assumption) | (with_reducible refine Below.alloc ?_ ?_ _) | (with_reducible refine below_drewN ?_ _) | (with_reducible refine below_drew ?_) | (with_reducible refine below_ext ?_ ?_ _ _) | (with_reducible refine Below.setCell ?_ ?_ _) | (simp; done) | (simp; omega) | omega)))) (r4.rd.later (by (repeat' (first | (with_reducible exact Below.refl _ _) | (with_reducible assumption) | (with_reducible refine Below.alloc ?_ ?_ _) | (with_reducible refine below_drewN ?_ _) | (with_reducible refine below_drew ?_) | (with_reducible refine below_ext ?_ ?_ _ _) | (with_reducible refine Below.setCell ?_ ?_ _) | (simp; done) | (simp; omega) | omega))))).mono ?_); rintro e w5 ⟨rfl, b5⟩; obtain ⟨os5, d5, rfl⟩ := ext_of_below b5; clear b5)))
    all_goals
      go_wp2
      go_returns
      exact ⟨rfl, by (repeat' (first | (with_reducible exact Below.refl _ _) | (with_reducible assumption) | (with_reducible refine Below.alloc ?_ ?_ _) | (with_reducible refine below_drewN ?_ _) | (with_reducible refine below_drew ?_) | (with_reducible refine below_ext ?_ ?_ _ _) | (with_reducible refine Below.setCell ?_ ?_ _) | (simp; done) | (simp; omega) | omega))⟩
theorem div_units (ca SA cb SB : Nat) (hA : SA ≤ 18) (hB : SB ≤ 18) : Fit.uni ca SA * (cb * 10 ^ 19) = ca * 10 ^ (19 + SB - SA) * Fit.uni cb SB := by
  unfold Fit.uni
  have e1 : ca * 10 ^ (18 - SA) * (cb * 10 ^ 19) = ca * cb * 10 ^ (18 - SA + 19) := by
    rw [Nat.pow_add, Nat.mul_mul_mul_comm]
  have e2 : ca * 10 ^ (19 + SB - SA) * (cb * 10 ^ (18 - SB)) = ca * cb * 10 ^ (19 + SB - SA + (18 - SB)) := by
    rw [Nat.pow_add, Nat.mul_mul_mul_comm]
  rw [e1, e2]
  congr 2; omega
theorem uni_pos {c S : Nat} (h : 0 < c) : 0 < Fit.uni c S := Nat.mul_pos h (Fit.pp _)
theorem div_fit {ca SA cb SB A q r : Nat} (hA : SA ≤ 18) (hB : SB ≤ 18) (hb : 0 < cb) (hAA : A = ca * 10 ^ (19 + SB - SA)) (hq : q = A / cb) (hr : r = A % cb) :
    (r = 0 → Fit.fit (Fit.uni ca SA) (Fit.uni cb SB) 19 = Fit.fit q (10 ^ 19) 19) ∧ (r ≠ 0 → Fit.fit (Fit.uni ca SA) (Fit.uni cb SB) 19 = Fit.fit (10 * q + 1) (10 ^ 20) 19) := by
  have h0 : Fit.fit (Fit.uni ca SA) (Fit.uni cb SB) 19 = Fit.fit A (cb * 10 ^ 19) 19 :=
    Fit.fit_ratio (uni_pos hb) (Nat.mul_pos hb (Fit.pp _)) (by rw [hAA]; exact div_units ca SA cb SB hA hB) 19
  have hd := Nat.div_add_mod A cb
  rw [← hq, ← hr, Nat.mul_comm] at hd
  have hlt := Nat.mod_lt A hb
  rw [← hr] at hlt
  refine ⟨fun h => ?_, fun h => ?_⟩
  · rw [h0, ← Fit.fit_quot hb (show q * cb = A by omega) 19]
  · rw [h0]
    exact (Fit.fit_push hb (show q * cb < A by omega) (by rw [Nat.add_mul, Nat.one_mul]; omega) 19 (by omega)).symm
theorem mod_units (ca SA cb SB m : Nat) (h1 : SA ≤ m) (h2 : SB ≤ m) (h3 : m ≤ 18) : Fit.uni ca SA % Fit.uni cb SB = ca * 10 ^ (m - SA) % (cb * 10 ^ (m - SB)) * 10 ^ (18 - m) := by
  rw [Fit.uni_raised ca SA m h1 h3, Fit.uni_raised cb SB m h2 h3, Nat.mul_mod_mul_right]
set_option maxRecDepth 100000 in
set_option maxHeartbeats 8000000 in
theorem docDivD_ok (na nb : Bool) (ca cb : Nat) (sa sb : Int) (SA SB : Nat) (hA : sa = (SA : Int)) (hB : sb = (SB : Int)) (fa : formB na ca sa = true) (fb : formB nb cb sb = true) (g : Bool) (hg : g = (na != nb)) (F : Option (Nat × Nat)) (h0 : 0 < cb) (hF : F = Fit.fit (Fit.uni ca SA) (Fit.uni cb SB) 19) (w : World) :
    Calls Tryd.prog 11 #[D na ca sa, D nb cb sb] w fun e w' => e = .returned (.tuple #[FV g F, .int .i64 (fitE F)]) ∧ Below w.heap.size w w' := by
  obtain ⟨SA', hA', hA18, cA, _, _⟩ := form_open fa
  obtain ⟨SB', hB', hB18, cB, _, _⟩ := form_open fb
  obtain rfl : SA = SA' := by omega
  obtain rfl : SB = SB' := by omega
  have H0 := Lib.hid (fun w => rforms_yes fa fb w)
  subst hA hB
  have h1 := fun w => units_any na ca SA (lt34_top2 cA) hA18 w
  have h2 := fun w => units_any nb cb SB (lt34_top2 cB) hB18 w
  have lx := uni_lt (S := SA) cA
  have ly := uni_lt (S := SB) cB
  have y0 := uni_pos (S := SB) h0
  obtain ⟨x, hx⟩ : ∃ x, x = Fit.uni ca SA := ⟨_, rfl⟩
  obtain ⟨y, hy⟩ : ∃ y, y = Fit.uni cb SB := ⟨_, rfl⟩
  rw [← hx] at h1 lx hF
  rw [← hy] at h2 ly hF y0
  have t60 : 10 ^ 52 < 10 ^ 60 := by decide
  have lxl := len_lt (Nat.lt_trans lx t60)
  have lyl := len_lt (Nat.lt_trans ly t60)
  have h5 := fun va vb w ha hb => rfit_any g va vb x y F hF y0 (by omega) (by omega) w ha hb
  have hlb : (((dg y).length : Int) == 0) = false := beq_eq_false_iff_ne.2 (by have := dg_len_pos y0; omega)
  show Calls Tryd.prog 11 #[D na ca (SA : Int), D nb cb (SB : Int)] w fun e w' => e = .returned (.tuple #[D (g && decide (0 < fitC F)) (fitC F) (fitZ F), .int .i64 (fitE F)]) ∧ Below w.heap.size w w'
  unfold FV at h5
  obtain ⟨vg, hvg⟩ : ∃ x, x = (g && decide (0 < fitC F)) := ⟨_, rfl⟩
  obtain ⟨vc, hvc⟩ : ∃ x, x = fitC F := ⟨_, rfl⟩
  obtain ⟨vz, hvz⟩ : ∃ x, x = fitZ F := ⟨_, rfl⟩
  obtain ⟨ve, hve⟩ : ∃ x, x = fitE F := ⟨_, rfl⟩
  rw [← hvg, ← hvc, ← hvz, ← hve] at h5 ⊢
  have H1 := Lib.hid h1; have H2 := Lib.hid h2; have H5 := Lib.hid h5
  clear fa fb h1 h2 h5 hF lx ly hx hy t60 lxl lyl y0 h0 hvg hvc hvz hve cA cB hA' hB' hA18 hB18
  cases na <;> cases nb
  · obtain rfl : g = false := hg
    go_enter Tryd.func11, Tryd.ntmps11
    go_wp2_with (first
      | (go_at_call 30; ((with_reducible refine (H0.out _).mono ?_); rintro e w1 ⟨rfl, hb1⟩; obtain ⟨osA, dA, rfl⟩ := ext_of_below hb1; clear hb1))
      | (go_at_call 37; ((with_reducible refine (H1.out _).mono ?_); rintro e w1 ⟨v1, rfl, r1, b1⟩; obtain ⟨os1, d1, rfl⟩ := ext_of_below b1; clear b1))
      | (go_at_call 37; ((with_reducible refine (H2.out _).mono ?_); rintro e w2 ⟨v2, rfl, r2, b2⟩; obtain ⟨p2, c2, rfl, -⟩ := r2.form; obtain ⟨os2, d2, rfl⟩ := ext_of_below b2; clear b2))
      | (go_at_call 31; ((with_reducible refine (H5.out _ _ _ (r1.rd.later (by (repeat' (first | (with_reducible exact Below.refl _ _) | (with_reducible assumption) | (with_reducible refine Below.alloc ?_ ?_ _) | (with_reducible refine below_drewN ?_ _) | (with_reducible refine below_drew ?_) | (with_reducible refine below_ext ?_ ?_ _ _) | (with_reducible refine Below.setCell ?_ ?_ _) | (simp; done) | (simp; omega) | omega)))) (r2.rd.later (by (repeat' (first | (with_reducible exact Below.refl _ _) | (with_reducible assumption) | (with_reducible refine Below.alloc ?_ ?_ _) | (with_reducible refine below_drewN ?_ _) | (with_reducible refine below_drew ?_) | (with_reducible refine below_ext ?_ ?_ _ _) | (with_reducible refine Below.setCell ?_ ?_ _) | (simp; done) | (simp; omega) | omega))))).mono ?_); rintro e w5 ⟨rfl, b5⟩; obtain ⟨os5, d5, rfl⟩ := ext_of_below b5; clear b5)))
    go_returns
    exact ⟨rfl, by (repeat' (first | (with_reducible exact Below.refl _ _) | (with_reducible assumption) | (with_reducible refine Below.alloc ?_ ?_ _) | (with_reducible refine below_drewN ?_ _) | (with_reducible refine below_drew ?_) | (with_reducible refine below_ext ?_ ?_ _ _) | (with_reducible refine Below.setCell ?_ ?_ _) | (simp; done) | (simp; omega) | omega))⟩
  · obtain rfl : g = true := hg
    go_enter Tryd.func11, Tryd.ntmps11
    go_wp2_with (first
      | (go_at_call 30; ((with_reducible refine (H0.out _).mono ?_); rintro e w1 ⟨rfl, hb1⟩; obtain ⟨osA, dA, rfl⟩ := ext_of_below hb1; clear hb1))
      | (go_at_call 37; ((with_reducible refine (H1.out _).mono ?_); rintro e w1 ⟨v1, rfl, r1, b1⟩; obtain ⟨os1, d1, rfl⟩ := ext_of_below b1; clear b1))
      | (go_at_call 37; ((with_reducible refine (H2.out _).mono ?_); rintro e w2 ⟨v2, rfl, r2, b2⟩; obtain ⟨p2, c2, rfl, -⟩ := r2.form; obtain ⟨os2, d2, rfl⟩ := ext_of_below b2; clear b2))
      | (go_at_call 31; ((with_reducible refine (H5.out _ _ _ (r1.rd.later (by (repeat' (first | (with_reducible exact Below.refl _ _) | (with_reducible assumption) | (with_reducible refine Below.alloc ?_ ?_ _) | (with_reducible refine below_drewN ?_ _) | (with_reducible refine below_drew ?_) | (with_reducible refine below_ext ?_ ?_ _ _) | (with_reducible refine Below.setCell ?_ ?_ _) | (simp; done) | (simp; omega) | omega)))) (r2.rd.later (by (repeat' (first | (with_reducible exact Below.refl _ _) | (with_reducible assumption) | (with_reducible refine Below.alloc ?_ ?_ _) | (with_reducible refine below_drewN ?_ _) | (with_reducible refine below_drew ?_) | (with_reducible refine below_ext ?_ ?_ _ _) | (with_reducible refine Below.setCell ?_ ?_ _) | (simp; done) | (simp; omega) | omega))))).mono ?_); rintro e w5 ⟨rfl, b5⟩; obtain ⟨os5, d5, rfl⟩ := ext_of_below b5; clear b5)))
    go_returns
    exact ⟨rfl, by (repeat' (first | (with_reducible exact Below.refl _ _) | (with_reducible assumption) | (with_reducible refine Below.alloc ?_ ?_ _) | (with_reducible refine below_drewN ?_ _) | (with_reducible refine below_drew ?_) | (with_reducible refine below_ext ?_ ?_ _ _) | (with_reducible refine Below.setCell ?_ ?_ _) | (simp; done) | (simp; omega) | omega))⟩
  · obtain rfl : g = true := hg
    go_enter Tryd.func11, Tryd.ntmps11
    go_wp2_with (first
      | (go_at_call 30; ((with_reducible refine (H0.out _).mono ?_); rintro e w1 ⟨rfl, hb1⟩; obtain ⟨osA, dA, rfl⟩ := ext_of_below hb1; clear hb1))
      | (go_at_call 37; ((with_reducible refine (H1.out _).mono ?_); rintro e w1 ⟨v1, rfl, r1, b1⟩; obtain ⟨os1, d1, rfl⟩ := ext_of_below b1; clear b1))
      | (go_at_call 37; ((with_reducible refine (H2.out _).mono ?_); rintro e w2 ⟨v2, rfl, r2, b2⟩; obtain ⟨p2, c2, rfl, -⟩ := r2.form; obtain ⟨os2, d2, rfl⟩ := ext_of_below b2; clear b2))
      | (go_at_call 31; ((with_reducible refine (H5.out _ _ _ (r1.rd.later (by (repeat' (first | (with_reducible exact Below.refl _ _) | (with_reducible assumption) | (with_reducible refine Below.alloc ?_ ?_ _) | (with_reducible refine below_drewN ?_ _) | (with_reducible refine below_drew ?_) | (with_reducible refine below_ext ?_ ?_ _ _) | (with_reducible refine Below.setCell ?_ ?_ _) | (simp; done) | (simp; omega) | omega)))) (r2.rd.later (by (repeat' (first | (with_reducible exact Below.refl _ _) | (with_reducible assumption) | (with_reducible refine Below.alloc ?_ ?_ _) | (with_reducible refine below_drewN ?_ _) | (with_reducible refine below_drew ?_) | (with_reducible refine below_ext ?_ ?_ _ _) | (with_reducible refine Below.setCell ?_ ?_ _) | (simp; done) | (simp; omega) | omega))))).mono ?_); rintro e w5 ⟨rfl, b5⟩; obtain ⟨os5, d5, rfl⟩ := ext_of_below b5; clear b5)))
    go_returns
    exact ⟨rfl, by (repeat' (first | (with_reducible exact Below.refl _ _) | (with_reducible assumption) | (with_reducible refine Below.alloc ?_ ?_ _) | (with_reducible refine below_drewN ?_ _) | (with_reducible refine below_drew ?_) | (with_reducible refine below_ext ?_ ?_ _ _) | (with_reducible refine Below.setCell ?_ ?_ _) | (simp; done) | (simp; omega) | omega))⟩
  · obtain rfl : g = false := hg
    go_enter Tryd.func11, Tryd.ntmps11
    go_wp2_with (first
      | (go_at_call 30; ((with_reducible refine (H0.out _).mono ?_); rintro e w1 ⟨rfl, hb1⟩; obtain ⟨osA, dA, rfl⟩ := ext_of_below hb1; clear hb1))
      | (go_at_call 37; ((with_reducible refine (H1.out _).mono ?_); rintro e w1 ⟨v1, rfl, r1, b1⟩; obtain ⟨os1, d1, rfl⟩ := ext_of_below b1; clear b1))
      | (go_at_call 37; ((with_reducible refine (H2.out _).mono ?_); rintro e w2 ⟨v2, rfl, r2, b2⟩; obtain ⟨p2, c2, rfl, -⟩ := r2.form; obtain ⟨os2, d2, rfl⟩ := ext_of_below b2; clear b2))
      | (go_at_call 31; ((with_reducible refine (H5.out _ _ _ (r1.rd.later (by (repeat' (first | (with_reducible exact Below.refl _ _) | (with_reducible assumption) | (with_reducible refine Below.alloc ?_ ?_ _) | (with_reducible refine below_drewN ?_ _) | (with_reducible refine below_drew ?_) | (with_reducible refine below_ext ?_ ?_ _ _) | (with_reducible refine Below.setCell ?_ ?_ _) | (simp; done) | (simp; omega) | omega)))) (r2.rd.later (by (repeat' (first | (with_reducible exact Below.refl _ _) | (with_reducible assumption) | (with_reducible refine Below.alloc ?_ ?_ _) | (with_reducible refine below_drewN ?_ _) | (with_reducible refine below_drew ?_) | (with_reducible refine below_ext ?_ ?_ _ _) | (with_reducible refine Below.setCell ?_ ?_ _) | (simp; done) | (simp; omega) | omega))))).mono ?_); rintro e w5 ⟨rfl, b5⟩; obtain ⟨os5, d5, rfl⟩ := ext_of_below b5; clear b5)))
    go_returns
    exact ⟨rfl, by (repeat' (first | (with_reducible exact Below.refl _ _) | (with_reducible assumption) | (with_reducible refine Below.alloc ?_ ?_ _) | (with_reducible refine below_drewN ?_ _) | (with_reducible refine below_drew ?_) | (with_reducible refine below_ext ?_ ?_ _ _) | (with_reducible refine Below.setCell ?_ ?_ _) | (simp; done) | (simp; omega) | omega))⟩
end Go.Proofs.YtcnkcfbodpkllaaDoor
