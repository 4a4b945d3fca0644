/-
  Contracts of package dec: negated, Neg, Abs, Add, Sub, Cmp.
  Contracts of package dec: Neg, Abs, Make, Sub, Mul.
  Contracts of package dec: Cmp, Sub; the statements' own first question.
-/
import Derived.Test.YtjkallelniggpaaGreatDoorDecOne
namespace Go.Proofs.YtjkallelniggpaaGreatDoor
open Go.RowKit Word
attribute [local go_sem] setCell_drewN cell?_ext frozen?_ext shape?_ext setCell_ext lt_1' ne_1' en_1' le_1' lt_2' ne_2' en_2' le_2' lt_3' ne_3' en_3' le_3' lt_4' ne_4' en_4' le_4' lt_5' ne_5' en_5' le_5' lt_6' ne_6' en_6' le_6' lt_7' ne_7' en_7' le_7' lt_8' ne_8' en_8' le_8' lt_9' ne_9' en_9' le_9' lt_10' ne_10' en_10' le_10' lt_11' ne_11' en_11' le_11' lt_12' ne_12' en_12' le_12'

theorem add_units (na nb : Bool) (ca SA cb SB m : Nat) (h1 : SA ≤ m) (h2 : SB ≤ m) (h3 : m ≤ 18) :
    (Fit.sumN na (Fit.uni ca SA) nb (Fit.uni cb SB)).1 = (Fit.sumN na (ca * 10 ^ (m - SA)) nb (cb * 10 ^ (m - SB))).1 ∧
    Fit.fit (Fit.sumN na (Fit.uni ca SA) nb (Fit.uni cb SB)).2 (10 ^ 18) 19 = Fit.fit (Fit.sumN na (ca * 10 ^ (m - SA)) nb (cb * 10 ^ (m - SB))).2 (10 ^ m) 19 := by
  rw [Fit.uni_raised ca SA m h1 h3, Fit.uni_raised cb SB m h2 h3, Fit.sumN_scale _ _ _ _ _ (Fit.pp _)]
  exact ⟨rfl, (Fit.fit_uni _ m h3 19).symm⟩
theorem raised_lt {c S m : Nat} (hc : c < 10 ^ 34) (h : m ≤ 18) : c * 10 ^ (m - S) < 10 ^ 52 := by
  have h1 : 10 ^ (m - S) ≤ 10 ^ 18 := Nat.pow_le_pow_right (by decide) (by omega)
  have h2 : c * 10 ^ (m - S) ≤ c * 10 ^ 18 := Nat.mul_le_mul_left _ h1
  have h3 : c * 10 ^ 18 < 10 ^ 34 * 10 ^ 18 := Nat.mul_lt_mul_of_pos_right hc (Fit.pp _)
  have h4 : 10 ^ 34 * 10 ^ 18 = 10 ^ 52 := rfl
  omega
theorem form_c {neg : Bool} {c : Nat} {s : Int} (h : formB neg c s = true) : c < top2 := by
  obtain ⟨_, _, _, h, _⟩ := form_open h
  exact lt34_top2 h
/-- what is handed in is in form: said ahead -/
theorem form_yes {neg : Bool} {c : Nat} {s : Int} (h : formB neg c s = true) (w : World) (ht : Tens w) :
    Calls Tryz.prog 20 #[D neg c s] w fun e w' => e = .returned (.bool true) ∧ Below w.heap.size w w' := by
  have := form_any neg c s (form_c h) w ht
  rwa [h] at this
theorem form_no {neg : Bool} {c : Nat} {s : Int} (hc : c < top2) (h : formB neg c s = false) (w : World) (ht : Tens w) :
    Calls Tryz.prog 20 #[D neg c s] w fun e w' => e = .returned (.bool false) ∧ Below w.heap.size w w' := by
  have := form_any neg c s hc w ht
  rwa [h] at this
/-- four words in a block -/
def LBox (w : World) (b n : Nat) : Prop := b < w.heap.size ∧ w.cell? ⟨b, 0, none⟩ = some (.int .u64 (w0 n : Int)) ∧ w.cell? ⟨b, 1, none⟩ = some (.int .u64 (w1 n : Int)) ∧ w.cell? ⟨b, 2, none⟩ = some (.int .u64 (w2 n : Int)) ∧ w.cell? ⟨b, 3, none⟩ = some (.int .u64 (w3 n : Int))
theorem meet_two {Wb X : World} {b c x y : Nat} (hb : Below Wb.heap.size Wb X) (h1 : LBox X b x) (h2 : LBox X c y) (g1 : Wb.heap.size ≤ b) (g2 : Wb.heap.size ≤ c) :
    ∃ (os : Array Obj) (d' b' c' : Nat), Value.pointer (some ⟨b, 0, none⟩) = .pointer (some ⟨b', 0, none⟩) ∧ Value.pointer (some ⟨c, 0, none⟩) = .pointer (some ⟨c', 0, none⟩) ∧ X = ext Wb os d' ∧ LBox X b' x ∧ LBox X c' y ∧ Wb.heap.size ≤ b' ∧ Wb.heap.size ≤ c' := by
  obtain ⟨os, d', he⟩ := ext_of_below hb
  exact ⟨os, d', b, c, rfl, rfl, he, h1, h2, g1, g2⟩
/-- a new block's cells hang on the new blocks alone -/
theorem ext_new {Wb : World} {os : Array Obj} {d b k : Nat} {v : Value} (hb : Wb.heap.size ≤ b) (h : (ext Wb os d).cell? ⟨b, k, none⟩ = some v) (N : Nat) (hN : Wb.heap.size = N) :
    ∀ (W' : World) (d' : Nat), W'.heap.size = N → (ext W' os d').cell? ⟨b, k, none⟩ = some v := by
  intro W' d' hs
  rw [← h]
  refine World.cell?_of_block ?_
  unfold ext
  simp only [Array.getElem?_append]
  rw [hs, ← hN]
  rw [if_neg (by omega), if_neg (by omega)]
/-- the other sign, where there is one -/
def flip (neg : Bool) (c : Nat) : Bool := !neg && !decide (c = 0)
theorem flip_form {neg : Bool} {c : Nat} {s : Int} (h : formB neg c s = true) : formB (flip neg c) c s = true := by
  unfold formB at h ⊢
  obtain ⟨h1, h2, h3, _, h5⟩ := of_decide_eq_true h
  refine decide_eq_true ⟨h1, h2, h3, fun _ hf h0 => ?_, h5⟩
  unfold flip at hf
  rw [decide_eq_true h0] at hf
  cases neg <;> cases hf
set_option maxRecDepth 100000 in
set_option maxHeartbeats 16000000 in
theorem dadd_ok (na nb : Bool) (ca cb : Nat) (sa sb : Int) (SA SB : Nat) (hA : sa = (SA : Int)) (hB : sb = (SB : Int)) (fa : formB na ca sa = true) (fb : formB nb cb sb = true) (g : Bool) (F : Option (Nat × Nat))
    (hg : g = (Fit.sumN na (Fit.uni ca SA) nb (Fit.uni cb SB)).1) (hF : F = Fit.fit (Fit.sumN na (Fit.uni ca SA) nb (Fit.uni cb SB)).2 (10 ^ 18) 19) (w : World) (ht : Tens w) :
    Calls Tryz.prog 81 #[D na ca sa, D nb cb sb] w fun e w' => e = .returned (.tuple #[FV g F, .int .i64 (fitE F)]) ∧ Below w.heap.size w w' := by
  have HT := Lib.hid (fun w' (hb : Below w.heap.size w w') => ht.below hb)
  obtain ⟨SA', hA', hA18, cA, _, _⟩ := form_open fa
  obtain ⟨SB', hB', hB18, cB, _, _⟩ := form_open fb
  obtain rfl : SA = SA' := by omega
  obtain rfl : SB = SB' := by omega
  obtain ⟨m, hm⟩ : ∃ m, m = max SA SB := ⟨_, rfl⟩
  have hmA : SA ≤ m := by omega
  have hmB : SB ≤ m := by omega
  have hm18 : m ≤ 18 := by omega
  have E1 : max (SA : Int) (SB : Int) = (m : Int) := by omega
  obtain ⟨u1, u2⟩ := add_units na nb ca SA cb SB m hmA hmB hm18
  rw [u1] at hg
  rw [u2] at hF
  have f1 := fun w ht => form_yes fa w ht
  have f2 := fun w ht => form_yes fb w ht
  have r1 := fun w ht => raised_any na ca SA m (lt34_top2 cA) hmA (by omega) w ht
  have r2 := fun w ht => raised_any nb cb SB m (lt34_top2 cB) hmB (by omega) w ht
  have lX := raised_lt (S := SA) cA hm18
  have lY := raised_lt (S := SB) cB hm18
  subst hA hB
  obtain ⟨X, hX⟩ : ∃ X, X = ca * 10 ^ (m - SA) := ⟨_, rfl⟩
  obtain ⟨Y, hY⟩ : ∃ Y, Y = cb * 10 ^ (m - SB) := ⟨_, rfl⟩
  rw [← hX] at r1 lX hg hF
  rw [← hY] at r2 lY hg hF
  have t52 : 10 ^ 52 + 10 ^ 52 < top4 := by decide
  have F1 := Lib.hid f1; have F2 := Lib.hid f2; have R1 := Lib.hid r1; have R2 := Lib.hid r2
  have fin1 : na = nb → ∃ Z, (∀ w', Calls Tryz.prog 94 #[L X, L Y] w' fun e w'' => e = .returned (L Z) ∧ Below w'.heap.size w' w'') ∧
      ∀ w', Tens w' → Calls Tryz.prog 93 #[.bool na, L Z, .int .i64 (m : Int)] w' fun e w'' => e = .returned (.tuple #[FV g F, .int .i64 (fitE F)]) ∧ Below w'.heap.size w' w'' := by
    intro hs
    have eS : Fit.sumN na X nb Y = (na, X + Y) := if_pos hs
    rw [eS] at hg hF
    exact ⟨X + Y, fun w => daddLong_any X Y (by omega) (by omega) (by omega) w, fun w ht => by rw [hg]; exact dfit_any na (X + Y) m F hF (by omega) (by omega) w ht⟩
  have fin2 : ¬ na = nb → ∃ z : Int, (∀ w', Calls Tryz.prog 21 #[L X, L Y] w' fun e w'' => e = .returned (.int .i64 z) ∧ Below w'.heap.size w' w'') ∧ ∃ Z,
      ((¬ z < 0 ∧ (∀ w', Calls Tryz.prog 95 #[L X, L Y] w' fun e w'' => e = .returned (L Z) ∧ Below w'.heap.size w' w'') ∧
      ∀ w', Tens w' → Calls Tryz.prog 93 #[.bool na, L Z, .int .i64 (m : Int)] w' fun e w'' => e = .returned (.tuple #[FV g F, .int .i64 (fitE F)]) ∧ Below w'.heap.size w' w'') ∨
      (z < 0 ∧ (∀ w', Calls Tryz.prog 95 #[L Y, L X] w' fun e w'' => e = .returned (L Z) ∧ Below w'.heap.size w' w'') ∧
      ∀ w', Tens w' → Calls Tryz.prog 93 #[.bool nb, L Z, .int .i64 (m : Int)] w' fun e w'' => e = .returned (.tuple #[FV g F, .int .i64 (fitE F)]) ∧ Below w'.heap.size w' w'')) := by
    intro hs
    have eS : Fit.sumN na X nb Y = if Y ≤ X then (na, X - Y) else (nb, Y - X) := if_neg hs
    refine ⟨cmpv X Y, fun w => dcmpLong_any X Y (by omega) (by omega) w, ?_⟩
    by_cases hle : Y ≤ X
    · rw [eS, if_pos hle] at hg hF
      exact ⟨X - Y, .inl ⟨by unfold cmpv; rw [if_neg (by omega)]; split <;> decide, fun w => dsubLong_any X Y (by omega) (by omega) hle w, fun w ht => by rw [hg]; exact dfit_any na (X - Y) m F hF (by omega) (by omega) w ht⟩⟩
    · rw [eS, if_neg hle] at hg hF
      exact ⟨Y - X, .inr ⟨by rw [cmpv_lt (by omega)]; decide, fun w => dsubLong_any Y X (by omega) (by omega) (by omega) w, fun w ht => by rw [hg]; exact dfit_any nb (Y - X) m F hF (by omega) (by omega) w ht⟩⟩
  have G1 := Lib.hid fin1; have G2 := Lib.hid fin2
  show Calls Tryz.prog 81 #[D na ca (SA : Int), D nb cb (SB : Int)] w fun e w' => e = .returned (.tuple #[D (g && decide (0 < fitC F)) (fitC F) (fitZ F), .int .i64 (fitE F)]) ∧ Below w.heap.size w w'
  obtain ⟨vg, hvg⟩ : ∃ x, x = (g && decide (0 < fitC F)) := ⟨_, rfl⟩
  obtain ⟨vc, hvc⟩ : ∃ x, x = fitC F := ⟨_, rfl⟩
  obtain ⟨vz, hvz⟩ : ∃ x, x = fitZ F := ⟨_, rfl⟩
  obtain ⟨ve, hve⟩ : ∃ x, x = fitE F := ⟨_, rfl⟩
  unfold FV at G1 G2
  rw [← hvg, ← hvc, ← hvz, ← hve] at G1 G2 ⊢
  clear ht fa fb f1 f2 r1 r2 lX lY hX hY t52 hF u1 u2 cA cB hA' hB' hm hg fin1 fin2 hvg hvc hvz hve
  go_enter Tryz.func81, Tryz.ntmps81
  go_upto_region 4 with (first
    | (go_at_call 20; ((with_reducible refine (F1.out _ (HT.out _ (by (repeat' (first | (with_reducible exact Below.refl _ _) | (with_reducible assumption) | (with_reducible refine Below.alloc ?_ ?_ _) | (with_reducible refine below_drewN ?_ _) | (with_reducible refine below_drew ?_) | (with_reducible refine below_ext ?_ ?_ _ _) | (with_reducible refine Below.setCell ?_ ?_ _) | (simp; done) | (simp; omega) | omega))))).mono ?_); rintro e w1 ⟨rfl, hb1⟩; obtain ⟨osA, dA, rfl⟩ := ext_of_below hb1; clear hb1))
    | (go_at_call 20; ((with_reducible refine (F2.out _ (HT.out _ (by (repeat' (first | (with_reducible exact Below.refl _ _) | (with_reducible assumption) | (with_reducible refine Below.alloc ?_ ?_ _) | (with_reducible refine below_drewN ?_ _) | (with_reducible refine below_drew ?_) | (with_reducible refine below_ext ?_ ?_ _ _) | (with_reducible refine Below.setCell ?_ ?_ _) | (simp; done) | (simp; omega) | omega))))).mono ?_); rintro e w1 ⟨rfl, hb1⟩; obtain ⟨osB, dB, rfl⟩ := ext_of_below hb1; clear hb1)))
  go_cut [7, 8] (fun s7 s8 wx => ∃ (os : Array Obj) (d' b c : Nat), s7 = .pointer (some ⟨b, 0, none⟩) ∧ s8 = .pointer (some ⟨c, 0, none⟩) ∧ wx = ext (ext (ext (((w.alloc (.cells #[.bool na, .int .u64 (hi ca : Int), .int .u64 (lo ca : Int), .int .i64 (SA : Int)] 32)).alloc (.cells #[.bool nb, .int .u64 (hi cb : Int), .int .u64 (lo cb : Int), .int .i64 (SB : Int)] 32)).alloc (.cells #[.bool false, .int .u64 0, .int .u64 0, .int .i64 0] 32)) osA dA) osB dB) os d' ∧ LBox wx b X ∧ LBox wx c Y ∧ (ext (ext (((w.alloc (.cells #[.bool na, .int .u64 (hi ca : Int), .int .u64 (lo ca : Int), .int .i64 (SA : Int)] 32)).alloc (.cells #[.bool nb, .int .u64 (hi cb : Int), .int .u64 (lo cb : Int), .int .i64 (SB : Int)] 32)).alloc (.cells #[.bool false, .int .u64 0, .int .u64 0, .int .i64 0] 32)) osA dA) osB dB).heap.size ≤ b ∧ (ext (ext (((w.alloc (.cells #[.bool na, .int .u64 (hi ca : Int), .int .u64 (lo ca : Int), .int .i64 (SA : Int)] 32)).alloc (.cells #[.bool nb, .int .u64 (hi cb : Int), .int .u64 (lo cb : Int), .int .i64 (SB : Int)] 32)).alloc (.cells #[.bool false, .int .u64 0, .int .u64 0, .int .i64 0] 32)) osA dA) osB dB).heap.size ≤ c)
  case first =>
    go_region_held3 (fun w' => w'.cell? ⟨w.heap.size, 0, none⟩ = some (.bool na) ∧ w'.cell? ⟨w.heap.size, 1, none⟩ = some (.int .u64 (hi ca : Int)) ∧ w'.cell? ⟨w.heap.size, 2, none⟩ = some (.int .u64 (lo ca : Int)) ∧ w'.cell? ⟨w.heap.size, 3, none⟩ = some (.int .i64 (SA : Int)) ∧ w'.cell? ⟨w.heap.size + 1, 0, none⟩ = some (.bool nb) ∧ w'.cell? ⟨w.heap.size + 1, 1, none⟩ = some (.int .u64 (hi cb : Int)) ∧ w'.cell? ⟨w.heap.size + 1, 2, none⟩ = some (.int .u64 (lo cb : Int)) ∧ w'.cell? ⟨w.heap.size + 1, 3, none⟩ = some (.int .i64 (SB : Int))) (first | (simp [go_sem]; done) | go_keep) (first
      | (go_at_call 22; ((with_reducible refine (R1.out _ (HT.out _ (by (repeat' (first | (with_reducible exact Below.refl _ _) | (with_reducible assumption) | (with_reducible refine Below.alloc ?_ ?_ _) | (with_reducible refine below_drewN ?_ _) | (with_reducible refine below_drew ?_) | (with_reducible refine below_ext ?_ ?_ _ _) | (with_reducible refine Below.setCell ?_ ?_ _) | (simp; done) | (simp; omega) | omega))))).mono ?_); rintro e w1 ⟨rfl, hb1⟩; obtain ⟨osC, dC, rfl⟩ := ext_of_below hb1; clear hb1))
      | (go_at_call 22; ((with_reducible refine (R2.out _ (HT.out _ (by (repeat' (first | (with_reducible exact Below.refl _ _) | (with_reducible assumption) | (with_reducible refine Below.alloc ?_ ?_ _) | (with_reducible refine below_drewN ?_ _) | (with_reducible refine below_drew ?_) | (with_reducible refine below_ext ?_ ?_ _ _) | (with_reducible refine Below.setCell ?_ ?_ _) | (simp; done) | (simp; omega) | omega))))).mono ?_); rintro e w1 ⟨rfl, hb1⟩; obtain ⟨osD, dD, rfl⟩ := ext_of_below hb1; clear hb1)))
    all_goals
      go_wp2_with fail
      go_meet
      exact meet_two (by (repeat' (first | (with_reducible exact Below.refl _ _) | (with_reducible assumption) | (with_reducible refine Below.alloc ?_ ?_ _) | (with_reducible refine below_drewN ?_ _) | (with_reducible refine below_drew ?_) | (with_reducible refine below_ext ?_ ?_ _ _) | (with_reducible refine Below.setCell ?_ ?_ _) | (simp; done) | (simp; omega) | omega))) (by refine ⟨by first | (simp; done) | (simp; omega), ?_, ?_, ?_, ?_⟩ <;> simp [go_sem]) (by refine ⟨by first | (simp; done) | (simp; omega), ?_, ?_, ?_, ?_⟩ <;> simp [go_sem]) (by first | (simp; done) | (simp; omega)) (by first | (simp; done) | (simp; omega))
  case rest =>
    obtain ⟨osR, dR, b, c, rfl, rfl, rfl, ⟨hb, b0, b1, b2, b3⟩, ⟨hc, c0, c1, c2, c3⟩, hbg, hcg⟩ := hcut
    obtain ⟨N, hN⟩ : ∃ N, N = w.heap.size + 1 + 1 + 1 + osA.size + osB.size := ⟨_, rfl⟩
    have b0' := ext_new hbg b0 (w.heap.size + 1 + 1 + 1 + osA.size + osB.size) (by simp)
    have b1' := ext_new hbg b1 (w.heap.size + 1 + 1 + 1 + osA.size + osB.size) (by simp)
    have b2' := ext_new hbg b2 (w.heap.size + 1 + 1 + 1 + osA.size + osB.size) (by simp)
    have b3' := ext_new hbg b3 (w.heap.size + 1 + 1 + 1 + osA.size + osB.size) (by simp)
    have c0' := ext_new hcg c0 (w.heap.size + 1 + 1 + 1 + osA.size + osB.size) (by simp)
    have c1' := ext_new hcg c1 (w.heap.size + 1 + 1 + 1 + osA.size + osB.size) (by simp)
    have c2' := ext_new hcg c2 (w.heap.size + 1 + 1 + 1 + osA.size + osB.size) (by simp)
    have c3' := ext_new hcg c3 (w.heap.size + 1 + 1 + 1 + osA.size + osB.size) (by simp)
    clear b0 b1 b2 b3 c0 c1 c2 c3 hbg hcg hN
    simp only [ext_size, World.size_alloc] at hb hc
    have hb1 := fun k => Nat.lt_add_right k hb
    have hb2 := fun k l => Nat.lt_add_right l (hb1 k)
    have hc1 := fun k => Nat.lt_add_right k hc
    have hc2 := fun k l => Nat.lt_add_right l (hc1 k)
    by_cases hs : na = nb
    · obtain ⟨Z, z1, z2⟩ := G1.out hs
      subst hs
      have H1 := Lib.hid z1; have H2 := Lib.hid z2
      clear z1 z2 G1 G2
      have hbe : (na == na) = true := by cases na <;> rfl
      go_wp2_with fail
      go_region_held3 (fun w' => w'.cell? ⟨w.heap.size, 0, none⟩ = some (.bool na) ∧ w'.cell? ⟨b, 0, none⟩ = some (.int .u64 (w0 X : Int)) ∧ w'.cell? ⟨b, 1, none⟩ = some (.int .u64 (w1 X : Int)) ∧ w'.cell? ⟨b, 2, none⟩ = some (.int .u64 (w2 X : Int)) ∧ w'.cell? ⟨b, 3, none⟩ = some (.int .u64 (w3 X : Int)) ∧ w'.cell? ⟨c, 0, none⟩ = some (.int .u64 (w0 Y : Int)) ∧ w'.cell? ⟨c, 1, none⟩ = some (.int .u64 (w1 Y : Int)) ∧ w'.cell? ⟨c, 2, none⟩ = some (.int .u64 (w2 Y : Int)) ∧ w'.cell? ⟨c, 3, none⟩ = some (.int .u64 (w3 Y : Int))) (first | (simp [go_sem, b0', b1', b2', b3', c0', c1', c2', c3', hb, hb1, hc, hc1]; done) | go_keep) (first
        | (go_at_call 94; ((with_reducible refine (H1.out _).mono ?_); rintro e w1 ⟨rfl, hb1⟩; obtain ⟨osE, dE, rfl⟩ := ext_of_below hb1; clear hb1))
        | (go_at_call 93; ((with_reducible refine (H2.out _ (HT.out _ (by (repeat' (first | (with_reducible exact Below.refl _ _) | (with_reducible assumption) | (with_reducible refine Below.alloc ?_ ?_ _) | (with_reducible refine below_drewN ?_ _) | (with_reducible refine below_drew ?_) | (with_reducible refine below_ext ?_ ?_ _ _) | (with_reducible refine Below.setCell ?_ ?_ _) | (simp; done) | (simp; omega) | omega))))).mono ?_); rintro e w1 ⟨rfl, hb1⟩; obtain ⟨osG, dG, rfl⟩ := ext_of_below hb1; clear hb1)))
      all_goals
        go_wp2
        go_returns
        exact ⟨rfl, by (repeat' (first | (with_reducible exact Below.refl _ _) | (with_reducible assumption) | (with_reducible refine Below.alloc ?_ ?_ _) | (with_reducible refine below_drewN ?_ _) | (with_reducible refine below_drew ?_) | (with_reducible refine below_ext ?_ ?_ _ _) | (with_reducible refine Below.setCell ?_ ?_ _) | (simp; done) | (simp; omega) | omega))⟩
    · obtain ⟨z, hz, Z, hcase⟩ := G2.out hs
      have H0 := Lib.hid hz
      have hbe : (na == nb) = false := beq_eq_false_iff_ne.2 hs
      clear hz G1 G2 hs
      rcases hcase with ⟨hz, z1, z2⟩ | ⟨hz, z1, z2⟩
      · have H1 := Lib.hid z1; have H2 := Lib.hid z2
        clear z1 z2
        go_wp2_with (first
          | (go_at_call 21; ((with_reducible refine (H0.out _).mono ?_); rintro e w1 ⟨rfl, hb1⟩; obtain ⟨osE, dE, rfl⟩ := ext_of_below hb1; clear hb1)))
        go_region_held3 (fun w' => w'.cell? ⟨w.heap.size, 0, none⟩ = some (.bool na) ∧ w'.cell? ⟨b, 0, none⟩ = some (.int .u64 (w0 X : Int)) ∧ w'.cell? ⟨b, 1, none⟩ = some (.int .u64 (w1 X : Int)) ∧ w'.cell? ⟨b, 2, none⟩ = some (.int .u64 (w2 X : Int)) ∧ w'.cell? ⟨b, 3, none⟩ = some (.int .u64 (w3 X : Int)) ∧ w'.cell? ⟨c, 0, none⟩ = some (.int .u64 (w0 Y : Int)) ∧ w'.cell? ⟨c, 1, none⟩ = some (.int .u64 (w1 Y : Int)) ∧ w'.cell? ⟨c, 2, none⟩ = some (.int .u64 (w2 Y : Int)) ∧ w'.cell? ⟨c, 3, none⟩ = some (.int .u64 (w3 Y : Int))) (first | (simp [go_sem, b0', b1', b2', b3', c0', c1', c2', c3', hb, hb1, hb2, hc, hc1, hc2]; done) | go_keep) (first
          | (go_at_call 95; ((with_reducible refine (H1.out _).mono ?_); rintro e w1 ⟨rfl, hb1⟩; obtain ⟨osG, dG, rfl⟩ := ext_of_below hb1; clear hb1))
          | (go_at_call 93; ((with_reducible refine (H2.out _ (HT.out _ (by (repeat' (first | (with_reducible exact Below.refl _ _) | (with_reducible assumption) | (with_reducible refine Below.alloc ?_ ?_ _) | (with_reducible refine below_drewN ?_ _) | (with_reducible refine below_drew ?_) | (with_reducible refine below_ext ?_ ?_ _ _) | (with_reducible refine Below.setCell ?_ ?_ _) | (simp; done) | (simp; omega) | omega))))).mono ?_); rintro e w1 ⟨rfl, hb1⟩; obtain ⟨osH, dH, rfl⟩ := ext_of_below hb1; clear hb1)))
        all_goals
          go_wp2
          go_returns
          exact ⟨rfl, by (repeat' (first | (with_reducible exact Below.refl _ _) | (with_reducible assumption) | (with_reducible refine Below.alloc ?_ ?_ _) | (with_reducible refine below_drewN ?_ _) | (with_reducible refine below_drew ?_) | (with_reducible refine below_ext ?_ ?_ _ _) | (with_reducible refine Below.setCell ?_ ?_ _) | (simp; done) | (simp; omega) | omega))⟩
      · have H1 := Lib.hid z1; have H2 := Lib.hid z2
        clear z1 z2
        go_wp2_with (first
          | (go_at_call 21; ((with_reducible refine (H0.out _).mono ?_); rintro e w1 ⟨rfl, hb1⟩; obtain ⟨osE, dE, rfl⟩ := ext_of_below hb1; clear hb1)))
        go_region_held3 (fun w' => w'.cell? ⟨w.heap.size + 1, 0, none⟩ = some (.bool nb) ∧ w'.cell? ⟨b, 0, none⟩ = some (.int .u64 (w0 X : Int)) ∧ w'.cell? ⟨b, 1, none⟩ = some (.int .u64 (w1 X : Int)) ∧ w'.cell? ⟨b, 2, none⟩ = some (.int .u64 (w2 X : Int)) ∧ w'.cell? ⟨b, 3, none⟩ = some (.int .u64 (w3 X : Int)) ∧ w'.cell? ⟨c, 0, none⟩ = some (.int .u64 (w0 Y : Int)) ∧ w'.cell? ⟨c, 1, none⟩ = some (.int .u64 (w1 Y : Int)) ∧ w'.cell? ⟨c, 2, none⟩ = some (.int .u64 (w2 Y : Int)) ∧ w'.cell? ⟨c, 3, none⟩ = some (.int .u64 (w3 Y : Int))) (first | (simp [go_sem, b0', b1', b2', b3', c0', c1', c2', c3', hb, hb1, hb2, hc, hc1, hc2]; done) | go_keep) (first
          | (go_at_call 95; ((with_reducible refine (H1.out _).mono ?_); rintro e w1 ⟨rfl, hb1⟩; obtain ⟨osG, dG, rfl⟩ := ext_of_below hb1; clear hb1))
          | (go_at_call 93; ((with_reducible refine (H2.out _ (HT.out _ (by (repeat' (first | (with_reducible exact Below.refl _ _) | (with_reducible assumption) | (with_reducible refine Below.alloc ?_ ?_ _) | (with_reducible refine below_drewN ?_ _) | (with_reducible refine below_drew ?_) | (with_reducible refine below_ext ?_ ?_ _ _) | (with_reducible refine Below.setCell ?_ ?_ _) | (simp; done) | (simp; omega) | omega))))).mono ?_); rintro e w1 ⟨rfl, hb1⟩; obtain ⟨osH, dH, rfl⟩ := ext_of_below hb1; clear hb1)))
        all_goals
          go_wp2
          go_returns
          exact ⟨rfl, by (repeat' (first | (with_reducible exact Below.refl _ _) | (with_reducible assumption) | (with_reducible refine Below.alloc ?_ ?_ _) | (with_reducible refine below_drewN ?_ _) | (with_reducible refine below_drew ?_) | (with_reducible refine below_ext ?_ ?_ _ _) | (with_reducible refine Below.setCell ?_ ?_ _) | (simp; done) | (simp; omega) | omega))⟩
end Go.Proofs.YtjkallelniggpaaGreatDoor
namespace Go.Proofs.YtjkallelniggpaaGreatDoor
open Go.RowKit Word
attribute [local go_sem] setCell_drewN cell?_ext frozen?_ext shape?_ext setCell_ext lt_1' ne_1' en_1' le_1' lt_2' ne_2' en_2' le_2' lt_3' ne_3' en_3' le_3' lt_4' ne_4' en_4' le_4' lt_5' ne_5' en_5' le_5' lt_6' ne_6' en_6' le_6' lt_7' ne_7' en_7' le_7' lt_8' ne_8' en_8' le_8' lt_9' ne_9' en_9' le_9' lt_10' ne_10' en_10' le_10' lt_11' ne_11' en_11' le_11' lt_12' ne_12' en_12' le_12'

theorem dbad_D : (Value.agg #[.bool false, .int .u64 0, .int .u64 0, .int .i64 0]) = D false 0 0 := rfl
theorem dadd_bad1 (na nb : Bool) (ca cb : Nat) (sa sb : Int) (hc : ca < top2) (f : formB na ca sa = false) (w : World) (ht : Tens w) :
    Calls Tryz.prog 81 #[D na ca sa, D nb cb sb] w fun e w' => e = .returned (.tuple #[D false 0 0, .int .i64 2]) ∧ Below w.heap.size w w' := by
  have HT := Lib.hid (fun w' (hb : Below w.heap.size w w') => ht.below hb)
  have F1 := Lib.hid (fun w ht => form_no hc f w ht)
  rw [← dbad_D]
  clear ht f hc
  go_enter Tryz.func81, Tryz.ntmps81
  go_wp2_with (first
    | (go_at_call 20; ((with_reducible refine (F1.out _ (HT.out _ (by (repeat' (first | (with_reducible exact Below.refl _ _) | (with_reducible assumption) | (with_reducible refine Below.alloc ?_ ?_ _) | (with_reducible refine below_drewN ?_ _) | (with_reducible refine below_drew ?_) | (with_reducible refine below_ext ?_ ?_ _ _) | (with_reducible refine Below.setCell ?_ ?_ _) | (simp; done) | (simp; omega) | omega))))).mono ?_); rintro e w1 ⟨rfl, hb1⟩; obtain ⟨osA, dA, rfl⟩ := ext_of_below hb1; clear hb1)))
  go_returns
  exact ⟨rfl, by (repeat' (first | (with_reducible exact Below.refl _ _) | (with_reducible assumption) | (with_reducible refine Below.alloc ?_ ?_ _) | (with_reducible refine below_drewN ?_ _) | (with_reducible refine below_drew ?_) | (with_reducible refine below_ext ?_ ?_ _ _) | (with_reducible refine Below.setCell ?_ ?_ _) | (simp; done) | (simp; omega) | omega))⟩
theorem dadd_bad2 (na nb : Bool) (ca cb : Nat) (sa sb : Int) (fa : formB na ca sa = true) (hc : cb < top2) (f : formB nb cb sb = false) (w : World) (ht : Tens w) :
    Calls Tryz.prog 81 #[D na ca sa, D nb cb sb] w fun e w' => e = .returned (.tuple #[D false 0 0, .int .i64 2]) ∧ Below w.heap.size w w' := by
  have HT := Lib.hid (fun w' (hb : Below w.heap.size w w') => ht.below hb)
  have F1 := Lib.hid (fun w ht => form_yes fa w ht)
  have F2 := Lib.hid (fun w ht => form_no hc f w ht)
  rw [← dbad_D]
  clear ht f hc fa
  go_enter Tryz.func81, Tryz.ntmps81
  go_wp2_with (first
    | (go_at_call 20; ((with_reducible refine (F1.out _ (HT.out _ (by (repeat' (first | (with_reducible exact Below.refl _ _) | (with_reducible assumption) | (with_reducible refine Below.alloc ?_ ?_ _) | (with_reducible refine below_drewN ?_ _) | (with_reducible refine below_drew ?_) | (with_reducible refine below_ext ?_ ?_ _ _) | (with_reducible refine Below.setCell ?_ ?_ _) | (simp; done) | (simp; omega) | omega))))).mono ?_); rintro e w1 ⟨rfl, hb1⟩; obtain ⟨osA, dA, rfl⟩ := ext_of_below hb1; clear hb1))
    | (go_at_call 20; ((with_reducible refine (F2.out _ (HT.out _ (by (repeat' (first | (with_reducible exact Below.refl _ _) | (with_reducible assumption) | (with_reducible refine Below.alloc ?_ ?_ _) | (with_reducible refine below_drewN ?_ _) | (with_reducible refine below_drew ?_) | (with_reducible refine below_ext ?_ ?_ _ _) | (with_reducible refine Below.setCell ?_ ?_ _) | (simp; done) | (simp; omega) | omega))))).mono ?_); rintro e w1 ⟨rfl, hb1⟩; obtain ⟨osB, dB, rfl⟩ := ext_of_below hb1; clear hb1)))
  go_returns
  exact ⟨rfl, by (repeat' (first | (with_reducible exact Below.refl _ _) | (with_reducible assumption) | (with_reducible refine Below.alloc ?_ ?_ _) | (with_reducible refine below_drewN ?_ _) | (with_reducible refine below_drew ?_) | (with_reducible refine below_ext ?_ ?_ _ _) | (with_reducible refine Below.setCell ?_ ?_ _) | (simp; done) | (simp; omega) | omega))⟩
end Go.Proofs.YtjkallelniggpaaGreatDoor
namespace Go.Proofs.YtjkallelniggpaaGreatDoor
open Go.RowKit Word
attribute [local go_sem] setCell_drewN cell?_ext frozen?_ext shape?_ext setCell_ext lt_1' ne_1' en_1' le_1' lt_2' ne_2' en_2' le_2' lt_3' ne_3' en_3' le_3' lt_4' ne_4' en_4' le_4' lt_5' ne_5' en_5' le_5' lt_6' ne_6' en_6' le_6' lt_7' ne_7' en_7' le_7' lt_8' ne_8' en_8' le_8' lt_9' ne_9' en_9' le_9' lt_10' ne_10' en_10' le_10' lt_11' ne_11' en_11' le_11' lt_12' ne_12' en_12' le_12'

/-- the order of signed sizes, as the program tells it -/
def ordV (an : Bool) (x : Nat) (bn : Bool) (y : Nat) : Int := if an = bn then (if an = true then -cmpv x y else cmpv x y) else if an = true then -1 else 1
theorem cmpv_range (x y : Nat) : -1 ≤ cmpv x y ∧ cmpv x y ≤ 1 := by
  unfold cmpv
  split
  · omega
  · split <;> omega
theorem raised_18 (neg : Bool) (c S : Nat) (hc : c < top2) (hS : S ≤ 18) (w : World) (ht : Tens w) :
    Calls Tryz.prog 22 #[D neg c (S : Int), .int .i64 18] w fun e w' => e = .returned (L (Fit.uni c S)) ∧ Below w.heap.size w w' := raised_any neg c S 18 hc hS (by omega) w ht
theorem uni_small {c S : Nat} (hc : c < 10 ^ 34) : Fit.uni c S < top4 := by
  have := raised_lt (S := S) hc (show 18 ≤ 18 by omega)
  exact Nat.lt_trans this (by decide)
set_option maxHeartbeats 8000000 in
theorem dcmp_ok (na nb : Bool) (ca cb : Nat) (sa sb : Int) (SA SB : Nat) (hA : sa = (SA : Int)) (hB : sb = (SB : Int)) (fa : formB na ca sa = true) (fb : formB nb cb sb = true) (r : Int) (hr : r = ordV na (Fit.uni ca SA) nb (Fit.uni cb SB)) (w : World) (ht : Tens w) :
    Calls Tryz.prog 13 #[D na ca sa, D nb cb sb] w fun e w' => e = .returned (.tuple #[.int .i64 r, .int .i64 0]) ∧ Below w.heap.size w w' := by
  have HT := Lib.hid (fun w' (hb : Below w.heap.size w w') => ht.below hb)
  obtain ⟨SA', hA', hA18, cA, _, _⟩ := form_open fa
  obtain ⟨SB', hB', hB18, cB, _, _⟩ := form_open fb
  obtain rfl : SA = SA' := by omega
  obtain rfl : SB = SB' := by omega
  have f1 := fun w ht => form_yes fa w ht
  have f2 := fun w ht => form_yes fb w ht
  subst hA hB
  have r1 := fun w ht => raised_18 na ca SA (lt34_top2 cA) hA18 w ht
  have r2 := fun w ht => raised_18 nb cb SB (lt34_top2 cB) hB18 w ht
  have lx := uni_small (S := SA) cA
  have ly := uni_small (S := SB) cB
  obtain ⟨x, hx⟩ : ∃ x, x = Fit.uni ca SA := ⟨_, rfl⟩
  obtain ⟨y, hy⟩ : ∃ y, y = Fit.uni cb SB := ⟨_, rfl⟩
  rw [← hx] at r1 lx hr
  rw [← hy] at r2 ly hr
  have h1 := fun w => dcmpLong_any x y lx ly w
  have hrg := cmpv_range x y
  unfold ordV at hr
  obtain ⟨z, hz⟩ : ∃ z, z = cmpv x y := ⟨_, rfl⟩
  rw [← hz] at h1 hrg hr
  have F1 := Lib.hid f1; have F2 := Lib.hid f2; have R1 := Lib.hid r1; have R2 := Lib.hid r2; have H1 := Lib.hid h1
  clear ht fa fb f1 f2 r1 r2 h1 lx ly hx hy hz cA cB hA' hB'
  obtain ⟨hz1, hz2⟩ := hrg
  have hw : IntKind.i64.wrap (-z) = -z := IntWalk.i64_in _ (by omega)
  by_cases hs : na = nb
  · subst hs
    rw [if_pos rfl] at hr
    cases na
    · simp at hr
      subst hr
      go_enter Tryz.func13, Tryz.ntmps13
      go_wp2_with (first
        | (go_at_call 20; ((with_reducible refine (F1.out _ (HT.out _ (by (repeat' (first | (with_reducible exact Below.refl _ _) | (with_reducible assumption) | (with_reducible refine Below.alloc ?_ ?_ _) | (with_reducible refine below_drewN ?_ _) | (with_reducible refine below_drew ?_) | (with_reducible refine below_ext ?_ ?_ _ _) | (with_reducible refine Below.setCell ?_ ?_ _) | (simp; done) | (simp; omega) | omega))))).mono ?_); rintro e w1 ⟨rfl, hb1⟩; obtain ⟨osA, dA, rfl⟩ := ext_of_below hb1; clear hb1))
        | (go_at_call 20; ((with_reducible refine (F2.out _ (HT.out _ (by (repeat' (first | (with_reducible exact Below.refl _ _) | (with_reducible assumption) | (with_reducible refine Below.alloc ?_ ?_ _) | (with_reducible refine below_drewN ?_ _) | (with_reducible refine below_drew ?_) | (with_reducible refine below_ext ?_ ?_ _ _) | (with_reducible refine Below.setCell ?_ ?_ _) | (simp; done) | (simp; omega) | omega))))).mono ?_); rintro e w1 ⟨rfl, hb1⟩; obtain ⟨osB, dB, rfl⟩ := ext_of_below hb1; clear hb1)))
      go_region_held3 (fun w' => w'.cell? ⟨w.heap.size, 0, none⟩ = some (.bool false) ∧ w'.cell? ⟨w.heap.size, 1, none⟩ = some (.int .u64 (hi ca : Int)) ∧ w'.cell? ⟨w.heap.size, 2, none⟩ = some (.int .u64 (lo ca : Int)) ∧ w'.cell? ⟨w.heap.size, 3, none⟩ = some (.int .i64 (SA : Int)) ∧ w'.cell? ⟨w.heap.size + 1, 0, none⟩ = some (.bool false) ∧ w'.cell? ⟨w.heap.size + 1, 1, none⟩ = some (.int .u64 (hi cb : Int)) ∧ w'.cell? ⟨w.heap.size + 1, 2, none⟩ = some (.int .u64 (lo cb : Int)) ∧ w'.cell? ⟨w.heap.size + 1, 3, none⟩ = some (.int .i64 (SB : Int))) (first | (simp [go_sem]; done) | go_keep) (first
        | (go_at_call 22; ((with_reducible refine (R1.out _ (HT.out _ (by (repeat' (first | (with_reducible exact Below.refl _ _) | (with_reducible assumption) | (with_reducible refine Below.alloc ?_ ?_ _) | (with_reducible refine below_drewN ?_ _) | (with_reducible refine below_drew ?_) | (with_reducible refine below_ext ?_ ?_ _ _) | (with_reducible refine Below.setCell ?_ ?_ _) | (simp; done) | (simp; omega) | omega))))).mono ?_); rintro e w1 ⟨rfl, hb1⟩; obtain ⟨osC, dC, rfl⟩ := ext_of_below hb1; clear hb1))
        | (go_at_call 22; ((with_reducible refine (R2.out _ (HT.out _ (by (repeat' (first | (with_reducible exact Below.refl _ _) | (with_reducible assumption) | (with_reducible refine Below.alloc ?_ ?_ _) | (with_reducible refine below_drewN ?_ _) | (with_reducible refine below_drew ?_) | (with_reducible refine below_ext ?_ ?_ _ _) | (with_reducible refine Below.setCell ?_ ?_ _) | (simp; done) | (simp; omega) | omega))))).mono ?_); rintro e w1 ⟨rfl, hb1⟩; obtain ⟨osD, dD, rfl⟩ := ext_of_below hb1; clear hb1))
        | (go_at_call 21; ((with_reducible refine (H1.out _).mono ?_); rintro e w1 ⟨rfl, hb1⟩; obtain ⟨osE, dE, rfl⟩ := ext_of_below hb1; clear hb1)))
      all_goals
        go_wp2
        go_returns
        exact ⟨rfl, by (repeat' (first | (with_reducible exact Below.refl _ _) | (with_reducible assumption) | (with_reducible refine Below.alloc ?_ ?_ _) | (with_reducible refine below_drewN ?_ _) | (with_reducible refine below_drew ?_) | (with_reducible refine below_ext ?_ ?_ _ _) | (with_reducible refine Below.setCell ?_ ?_ _) | (simp; done) | (simp; omega) | omega))⟩
    · simp at hr
      subst hr
      go_enter Tryz.func13, Tryz.ntmps13
      go_wp2_with (first
        | (go_at_call 20; ((with_reducible refine (F1.out _ (HT.out _ (by (repeat' (first | (with_reducible exact Below.refl _ _) | (with_reducible assumption) | (with_reducible refine Below.alloc ?_ ?_ _) | (with_reducible refine below_drewN ?_ _) | (with_reducible refine below_drew ?_) | (with_reducible refine below_ext ?_ ?_ _ _) | (with_reducible refine Below.setCell ?_ ?_ _) | (simp; done) | (simp; omega) | omega))))).mono ?_); rintro e w1 ⟨rfl, hb1⟩; obtain ⟨osA, dA, rfl⟩ := ext_of_below hb1; clear hb1))
        | (go_at_call 20; ((with_reducible refine (F2.out _ (HT.out _ (by (repeat' (first | (with_reducible exact Below.refl _ _) | (with_reducible assumption) | (with_reducible refine Below.alloc ?_ ?_ _) | (with_reducible refine below_drewN ?_ _) | (with_reducible refine below_drew ?_) | (with_reducible refine below_ext ?_ ?_ _ _) | (with_reducible refine Below.setCell ?_ ?_ _) | (simp; done) | (simp; omega) | omega))))).mono ?_); rintro e w1 ⟨rfl, hb1⟩; obtain ⟨osB, dB, rfl⟩ := ext_of_below hb1; clear hb1)))
      go_region_held3 (fun w' => w'.cell? ⟨w.heap.size, 0, none⟩ = some (.bool true) ∧ w'.cell? ⟨w.heap.size, 1, none⟩ = some (.int .u64 (hi ca : Int)) ∧ w'.cell? ⟨w.heap.size, 2, none⟩ = some (.int .u64 (lo ca : Int)) ∧ w'.cell? ⟨w.heap.size, 3, none⟩ = some (.int .i64 (SA : Int)) ∧ w'.cell? ⟨w.heap.size + 1, 0, none⟩ = some (.bool true) ∧ w'.cell? ⟨w.heap.size + 1, 1, none⟩ = some (.int .u64 (hi cb : Int)) ∧ w'.cell? ⟨w.heap.size + 1, 2, none⟩ = some (.int .u64 (lo cb : Int)) ∧ w'.cell? ⟨w.heap.size + 1, 3, none⟩ = some (.int .i64 (SB : Int))) (first | (simp [go_sem]; done) | go_keep) (first
        | (go_at_call 22; ((with_reducible refine (R1.out _ (HT.out _ (by (repeat' (first | (with_reducible exact Below.refl _ _) | (with_reducible assumption) | (with_reducible refine Below.alloc ?_ ?_ _) | (with_reducible refine below_drewN ?_ _) | (with_reducible refine below_drew ?_) | (with_reducible refine below_ext ?_ ?_ _ _) | (with_reducible refine Below.setCell ?_ ?_ _) | (simp; done) | (simp; omega) | omega))))).mono ?_); rintro e w1 ⟨rfl, hb1⟩; obtain ⟨osC, dC, rfl⟩ := ext_of_below hb1; clear hb1))
        | (go_at_call 22; ((with_reducible refine (R2.out _ (HT.out _ (by (repeat' (first | (with_reducible exact Below.refl _ _) | (with_reducible assumption) | (with_reducible refine Below.alloc ?_ ?_ _) | (with_reducible refine below_drewN ?_ _) | (with_reducible refine below_drew ?_) | (with_reducible refine below_ext ?_ ?_ _ _) | (with_reducible refine Below.setCell ?_ ?_ _) | (simp; done) | (simp; omega) | omega))))).mono ?_); rintro e w1 ⟨rfl, hb1⟩; obtain ⟨osD, dD, rfl⟩ := ext_of_below hb1; clear hb1))
        | (go_at_call 21; ((with_reducible refine (H1.out _).mono ?_); rintro e w1 ⟨rfl, hb1⟩; obtain ⟨osE, dE, rfl⟩ := ext_of_below hb1; clear hb1)))
      all_goals
        go_wp2
        go_returns
        exact ⟨rfl, by (repeat' (first | (with_reducible exact Below.refl _ _) | (with_reducible assumption) | (with_reducible refine Below.alloc ?_ ?_ _) | (with_reducible refine below_drewN ?_ _) | (with_reducible refine below_drew ?_) | (with_reducible refine below_ext ?_ ?_ _ _) | (with_reducible refine Below.setCell ?_ ?_ _) | (simp; done) | (simp; omega) | omega))⟩
  · rw [if_neg hs] at hr
    cases na <;> cases nb <;> try exact absurd rfl hs
    all_goals
      simp at hr
      subst hr
      go_enter Tryz.func13, Tryz.ntmps13
      go_wp2_with (first
        | (go_at_call 20; ((with_reducible refine (F1.out _ (HT.out _ (by (repeat' (first | (with_reducible exact Below.refl _ _) | (with_reducible assumption) | (with_reducible refine Below.alloc ?_ ?_ _) | (with_reducible refine below_drewN ?_ _) | (with_reducible refine below_drew ?_) | (with_reducible refine below_ext ?_ ?_ _ _) | (with_reducible refine Below.setCell ?_ ?_ _) | (simp; done) | (simp; omega) | omega))))).mono ?_); rintro e w1 ⟨rfl, hb1⟩; obtain ⟨osA, dA, rfl⟩ := ext_of_below hb1; clear hb1))
        | (go_at_call 20; ((with_reducible refine (F2.out _ (HT.out _ (by (repeat' (first | (with_reducible exact Below.refl _ _) | (with_reducible assumption) | (with_reducible refine Below.alloc ?_ ?_ _) | (with_reducible refine below_drewN ?_ _) | (with_reducible refine below_drew ?_) | (with_reducible refine below_ext ?_ ?_ _ _) | (with_reducible refine Below.setCell ?_ ?_ _) | (simp; done) | (simp; omega) | omega))))).mono ?_); rintro e w1 ⟨rfl, hb1⟩; obtain ⟨osB, dB, rfl⟩ := ext_of_below hb1; clear hb1)))
      go_returns
      exact ⟨rfl, by (repeat' (first | (with_reducible exact Below.refl _ _) | (with_reducible assumption) | (with_reducible refine Below.alloc ?_ ?_ _) | (with_reducible refine below_drewN ?_ _) | (with_reducible refine below_drew ?_) | (with_reducible refine below_ext ?_ ?_ _ _) | (with_reducible refine Below.setCell ?_ ?_ _) | (simp; done) | (simp; omega) | omega))⟩
theorem dcmp_bad1 (na nb : Bool) (ca cb : Nat) (sa sb : Int) (hc : ca < top2) (f : formB na ca sa = false) (w : World) (ht : Tens w) :
    Calls Tryz.prog 13 #[D na ca sa, D nb cb sb] w fun e w' => e = .returned (.tuple #[.int .i64 0, .int .i64 2]) ∧ Below w.heap.size w w' := by
  have HT := Lib.hid (fun w' (hb : Below w.heap.size w w') => ht.below hb)
  have F1 := Lib.hid (fun w ht => form_no hc f w ht)
  clear ht f hc
  go_enter Tryz.func13, Tryz.ntmps13
  go_wp2_with (first
    | (go_at_call 20; ((with_reducible refine (F1.out _ (HT.out _ (by (repeat' (first | (with_reducible exact Below.refl _ _) | (with_reducible assumption) | (with_reducible refine Below.alloc ?_ ?_ _) | (with_reducible refine below_drewN ?_ _) | (with_reducible refine below_drew ?_) | (with_reducible refine below_ext ?_ ?_ _ _) | (with_reducible refine Below.setCell ?_ ?_ _) | (simp; done) | (simp; omega) | omega))))).mono ?_); rintro e w1 ⟨rfl, hb1⟩; obtain ⟨osA, dA, rfl⟩ := ext_of_below hb1; clear hb1)))
  go_returns
  exact ⟨rfl, by (repeat' (first | (with_reducible exact Below.refl _ _) | (with_reducible assumption) | (with_reducible refine Below.alloc ?_ ?_ _) | (with_reducible refine below_drewN ?_ _) | (with_reducible refine below_drew ?_) | (with_reducible refine below_ext ?_ ?_ _ _) | (with_reducible refine Below.setCell ?_ ?_ _) | (simp; done) | (simp; omega) | omega))⟩
theorem dcmp_bad2 (na nb : Bool) (ca cb : Nat) (sa sb : Int) (fa : formB na ca sa = true) (hc : cb < top2) (f : formB nb cb sb = false) (w : World) (ht : Tens w) :
    Calls Tryz.prog 13 #[D na ca sa, D nb cb sb] w fun e w' => e = .returned (.tuple #[.int .i64 0, .int .i64 2]) ∧ Below w.heap.size w w' := by
  have HT := Lib.hid (fun w' (hb : Below w.heap.size w w') => ht.below hb)
  have F1 := Lib.hid (fun w ht => form_yes fa w ht)
  have F2 := Lib.hid (fun w ht => form_no hc f w ht)
  clear ht f hc fa
  go_enter Tryz.func13, Tryz.ntmps13
  go_wp2_with (first
    | (go_at_call 20; ((with_reducible refine (F1.out _ (HT.out _ (by (repeat' (first | (with_reducible exact Below.refl _ _) | (with_reducible assumption) | (with_reducible refine Below.alloc ?_ ?_ _) | (with_reducible refine below_drewN ?_ _) | (with_reducible refine below_drew ?_) | (with_reducible refine below_ext ?_ ?_ _ _) | (with_reducible refine Below.setCell ?_ ?_ _) | (simp; done) | (simp; omega) | omega))))).mono ?_); rintro e w1 ⟨rfl, hb1⟩; obtain ⟨osA, dA, rfl⟩ := ext_of_below hb1; clear hb1))
    | (go_at_call 20; ((with_reducible refine (F2.out _ (HT.out _ (by (repeat' (first | (with_reducible exact Below.refl _ _) | (with_reducible assumption) | (with_reducible refine Below.alloc ?_ ?_ _) | (with_reducible refine below_drewN ?_ _) | (with_reducible refine below_drew ?_) | (with_reducible refine below_ext ?_ ?_ _ _) | (with_reducible refine Below.setCell ?_ ?_ _) | (simp; done) | (simp; omega) | omega))))).mono ?_); rintro e w1 ⟨rfl, hb1⟩; obtain ⟨osB, dB, rfl⟩ := ext_of_below hb1; clear hb1)))
  go_returns
  exact ⟨rfl, by (repeat' (first | (with_reducible exact Below.refl _ _) | (with_reducible assumption) | (with_reducible refine Below.alloc ?_ ?_ _) | (with_reducible refine below_drewN ?_ _) | (with_reducible refine below_drew ?_) | (with_reducible refine below_ext ?_ ?_ _ _) | (with_reducible refine Below.setCell ?_ ?_ _) | (simp; done) | (simp; omega) | omega))⟩
theorem known_fit : Fit.fit (Fit.sumN false (Fit.uni 1 1) false (Fit.uni 2 1)).2 (10 ^ 18) 19 = some (3, 1) := by
  have e : (Fit.sumN false (Fit.uni 1 1) false (Fit.uni 2 1)).2 = 3 * 10 ^ (18 - 1) := by decide
  rw [e, ← Fit.fit_uni 3 1 (by omega), Fit.fit_exact (by decide) (by omega)]
  rfl
theorem known_addD (w : World) (ht : Tens w) : Calls Tryz.prog 81 #[.agg #[.bool false, .int .u64 0, .int .u64 1, .int .i64 1], .agg #[.bool false, .int .u64 0, .int .u64 2, .int .i64 1]] w
    fun e w' => e = .returned (.tuple #[.agg #[.bool false, .int .u64 0, .int .u64 3, .int .i64 1], .int .i64 0]) ∧ Below w.heap.size w w' :=
  dadd_ok false false 1 2 1 1 1 1 rfl rfl (by decide) (by decide) false (some (3, 1)) rfl known_fit.symm w ht
end Go.Proofs.YtjkallelniggpaaGreatDoor
