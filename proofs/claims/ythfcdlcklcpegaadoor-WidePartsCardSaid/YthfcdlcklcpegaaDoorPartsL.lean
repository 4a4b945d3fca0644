/-
  The law WideParts.
-/
import Derived.Test.YthfcdlcklcpegaaDoorRefQ
import Derived.Test.YthfcdlcklcpegaaDoorKnown
import Derived.Test.YthfcdlcklcpegaaDoorLong
namespace Go.Proofs.YthfcdlcklcpegaaDoor
open Go.RowKit Num Word
attribute [local go_sem] setCell_drewN cell?_ext frozen?_ext shape?_ext setCell_ext lt_1' ne_1' en_1' le_1' lt_2' ne_2' en_2' le_2' lt_3' ne_3' en_3' le_3' lt_4' ne_4' en_4' le_4' lt_5' ne_5' en_5' le_5' lt_6' ne_6' en_6' le_6' lt_7' ne_7' en_7' le_7' lt_8' ne_8' en_8' le_8' lt_9' ne_9' en_9' le_9' lt_10' ne_10' en_10' le_10' lt_11' ne_11' en_11' le_11' lt_12' ne_12' en_12' le_12'
attribute [local go_sem] lt_13' ne_13' en_13' le_13' lt_14' ne_14' en_14' le_14' lt_15' ne_15' en_15' le_15' lt_16' ne_16' en_16' le_16' lt_17' ne_17' en_17' le_17' lt_18' ne_18' en_18' le_18' lt_19' ne_19' en_19' le_19' lt_20' ne_20' en_20' le_20'

set_option maxHeartbeats 4000000 in
theorem ten_arg (k : Int) (hk : k < 0 ∨ (¬ k < 0 ∧ 38 < k)) (w : World) :
    Calls Tryd.prog 20 #[.int .i64 k] w fun e w' => e = .returned (.tuple #[.agg #[.int .u64 0, .int .u64 0], .int .i64 1]) ∧ Below w.heap.size w w' := by
  rcases hk with hk | ⟨h0, hk⟩
  all_goals
    go_enter Tryd.func20, Tryd.ntmps20
    go_wp2
    go_returns
    exact ⟨rfl, by (repeat' (first | (with_reducible exact Below.refl _ _) | (with_reducible assumption) | (with_reducible refine Below.alloc ?_ ?_ _) | (with_reducible refine below_drewN ?_ _) | (with_reducible refine below_drew ?_) | (with_reducible refine below_ext ?_ ?_ _ _) | (with_reducible refine Below.setCell ?_ ?_ _) | (simp; done) | (simp; omega) | omega))⟩
set_option maxRecDepth 100000 in
set_option maxHeartbeats 16000000 in
theorem parts_walk (n a t K s : Nat) (k : Int) (x y : Nat) (e1 m : Int) (w : World) (ht : Tens w)
    (h1 : ∀ w, Calls Tryd.prog 17 #[L n] w fun e w' => e = .returned (.tuple #[W s, .int .i64 e1]) ∧ Below w.heap.size w w')
    (h2 : ∀ w, Calls Tryd.prog 18 #[L n] w fun e w' => e = .returned (.tuple #[W s, .int .i64 e1]) ∧ Below w.heap.size w w')
    (h3 : ∀ w, Calls Tryd.prog 19 #[.int .i64 k] w fun e w' => e = .returned (.tuple #[.agg #[.int .u64 (x : Int), .int .u64 (y : Int)], .int .i64 m]) ∧ Below w.heap.size w w')
    (h4 : ∀ w, Tens w → Calls Tryd.prog 20 #[.int .i64 k] w fun e w' => e = .returned (.tuple #[.agg #[.int .u64 (x : Int), .int .u64 (y : Int)], .int .i64 m]) ∧ Below w.heap.size w w')
    (h5 : ∀ w, Calls Tryd.prog 21 #[W a] w fun e w' => e = .returned (.tuple #[W t, .int .i64 (K : Int)]) ∧ Below w.heap.size w w')
    (h6 : ∀ w, Calls Tryd.prog 22 #[W a] w fun e w' => e = .returned (.tuple #[W t, .int .i64 (K : Int)]) ∧ Below w.heap.size w w')
    (h7 : ∀ w, Calls Tryd.prog 24 #[W a] w fun e w' => e = .returned (.int .i64 (nd a)) ∧ Below w.heap.size w w')
    (h8 : ∀ w, Tens w → Calls Tryd.prog 23 #[W a] w fun e w' => e = .returned (.int .i64 (nd a)) ∧ Below w.heap.size w w') :
    Calls Tryd.prog 4 #[L n, W a, .int .i64 k] w fun e w' => e = .returned (.bool true) ∧ Below w.heap.size w w' := by
  have hHT := Lib.hid (fun w' (hb : Below w.heap.size w w') => ht.below hb)
  have H1 := Lib.hid h1; have H2 := Lib.hid h2; have H3 := Lib.hid h3; have H4 := Lib.hid h4; have H5 := Lib.hid h5; have H6 := Lib.hid h6; have H7 := Lib.hid h7; have H8 := Lib.hid h8
  clear h1 h2 h3 h4 h5 h6 h7 h8 ht
  go_enter Tryd.func4, Tryd.ntmps4
  go_wp2_with (first
    | (go_at_call 8; ((with_reducible refine (known_any _ (hHT.out _ (by (repeat' (first | (with_reducible exact Below.refl _ _) | (with_reducible assumption) | (with_reducible refine Below.alloc ?_ ?_ _) | (with_reducible refine below_drewN ?_ _) | (with_reducible refine below_drew ?_) | (with_reducible refine below_ext ?_ ?_ _ _) | (with_reducible refine Below.setCell ?_ ?_ _) | (simp; done) | (simp; omega) | omega))))).mono ?_); rintro e w1 ⟨rfl, hb1⟩; obtain ⟨osA, dA, rfl⟩ := ext_of_below hb1; clear hb1))
    | (go_at_call 17; ((with_reducible refine (H1.out _).mono ?_); rintro e w1 ⟨rfl, hb1⟩; obtain ⟨osB, dB, rfl⟩ := ext_of_below hb1; clear hb1))
    | (go_at_call 18; ((with_reducible refine (H2.out _).mono ?_); rintro e w1 ⟨rfl, hb1⟩; obtain ⟨osC, dC, rfl⟩ := ext_of_below hb1; clear hb1))
    | (go_at_call 19; ((with_reducible refine (H3.out _).mono ?_); rintro e w1 ⟨rfl, hb1⟩; obtain ⟨osD, dD, rfl⟩ := ext_of_below hb1; clear hb1))
    | (go_at_call 20; ((with_reducible refine (H4.out _ (hHT.out _ (by (repeat' (first | (with_reducible exact Below.refl _ _) | (with_reducible assumption) | (with_reducible refine Below.alloc ?_ ?_ _) | (with_reducible refine below_drewN ?_ _) | (with_reducible refine below_drew ?_) | (with_reducible refine below_ext ?_ ?_ _ _) | (with_reducible refine Below.setCell ?_ ?_ _) | (simp; done) | (simp; omega) | omega))))).mono ?_); rintro e w1 ⟨rfl, hb1⟩; obtain ⟨osE, dE, rfl⟩ := ext_of_below hb1; clear hb1))
    | (go_at_call 21; ((with_reducible refine (H5.out _).mono ?_); rintro e w1 ⟨rfl, hb1⟩; obtain ⟨osF, dF, rfl⟩ := ext_of_below hb1; clear hb1))
    | (go_at_call 22; ((with_reducible refine (H6.out _).mono ?_); rintro e w1 ⟨rfl, hb1⟩; obtain ⟨osG, dG, rfl⟩ := ext_of_below hb1; clear hb1)))
  go_region_held3 (fun w' => w'.cell? ⟨w.heap.size + 1, 0, none⟩ = some (.int .u64 (hi a : Int)) ∧ w'.cell? ⟨w.heap.size + 1, 1, none⟩ = some (.int .u64 (lo a : Int)) ∧ w'.cell? ⟨w.heap.size + 1 + 1 + osA.size + osB.size, 0, none⟩ = some (.int .u64 (hi s : Int)) ∧ w'.cell? ⟨w.heap.size + 1 + 1 + osA.size + osB.size, 1, none⟩ = some (.int .u64 (lo s : Int)) ∧ w'.cell? ⟨w.heap.size + 1 + 1 + osA.size + osB.size + 1 + osC.size, 0, none⟩ = some (.int .u64 (hi s : Int)) ∧ w'.cell? ⟨w.heap.size + 1 + 1 + osA.size + osB.size + 1 + osC.size, 1, none⟩ = some (.int .u64 (lo s : Int)) ∧ w'.cell? ⟨w.heap.size + 1 + 1 + osA.size + osB.size + 1 + osC.size + 1 + osD.size, 0, none⟩ = some (.int .u64 (x : Int)) ∧ w'.cell? ⟨w.heap.size + 1 + 1 + osA.size + osB.size + 1 + osC.size + 1 + osD.size, 1, none⟩ = some (.int .u64 (y : Int)) ∧ w'.cell? ⟨w.heap.size + 1 + 1 + osA.size + osB.size + 1 + osC.size + 1 + osD.size + 1 + osE.size, 0, none⟩ = some (.int .u64 (x : Int)) ∧ w'.cell? ⟨w.heap.size + 1 + 1 + osA.size + osB.size + 1 + osC.size + 1 + osD.size + 1 + osE.size, 1, none⟩ = some (.int .u64 (y : Int)) ∧ w'.cell? ⟨w.heap.size + 1 + 1 + osA.size + osB.size + 1 + osC.size + 1 + osD.size + 1 + osE.size + 1 + osF.size, 0, none⟩ = some (.int .u64 (hi t : Int)) ∧ w'.cell? ⟨w.heap.size + 1 + 1 + osA.size + osB.size + 1 + osC.size + 1 + osD.size + 1 + osE.size + 1 + osF.size, 1, none⟩ = some (.int .u64 (lo t : Int)) ∧ w'.cell? ⟨w.heap.size + 1 + 1 + osA.size + osB.size + 1 + osC.size + 1 + osD.size + 1 + osE.size + 1 + osF.size + 1 + osG.size, 0, none⟩ = some (.int .u64 (hi t : Int)) ∧ w'.cell? ⟨w.heap.size + 1 + 1 + osA.size + osB.size + 1 + osC.size + 1 + osD.size + 1 + osE.size + 1 + osF.size + 1 + osG.size, 1, none⟩ = some (.int .u64 (lo t : Int))) (first | (simp [go_sem]; done) | go_keep) (first
    | (go_at_call 23; ((with_reducible refine (H8.out _ (hHT.out _ (by (repeat' (first | (with_reducible exact Below.refl _ _) | (with_reducible assumption) | (with_reducible refine Below.alloc ?_ ?_ _) | (with_reducible refine below_drewN ?_ _) | (with_reducible refine below_drew ?_) | (with_reducible refine below_ext ?_ ?_ _ _) | (with_reducible refine Below.setCell ?_ ?_ _) | (simp; done) | (simp; omega) | omega))))).mono ?_); rintro e w1 ⟨rfl, hb1⟩; obtain ⟨osH, dH, rfl⟩ := ext_of_below hb1; clear hb1))
    | (go_at_call 24; ((with_reducible refine (H7.out _).mono ?_); rintro e w1 ⟨rfl, hb1⟩; obtain ⟨osI, dI, rfl⟩ := ext_of_below hb1; clear hb1)))
  all_goals
    go_wp2_with fail
    go_ret
    exact ⟨rfl, by (repeat' (first | (with_reducible exact Below.refl _ _) | (with_reducible assumption) | (with_reducible refine Below.alloc ?_ ?_ _) | (with_reducible refine below_drewN ?_ _) | (with_reducible refine below_drew ?_) | (with_reducible refine below_ext ?_ ?_ _ _) | (with_reducible refine Below.setCell ?_ ?_ _) | (simp; done) | (simp; omega) | omega))⟩
theorem parts_law (n a : Nat) (k : Int) (hn : n < top4) (ha : a < top2) (_wk : (Lit.int .i64 k).wf = true) (w : World) (ht : Tens w) :
    Calls Tryd.prog 4 #[L n, W a, .int .i64 k] w fun e w' => e = .returned (.bool true) ∧ Below w.heap.size w w' := by
  obtain ⟨t, K, h5, h6⟩ : ∃ t K : Nat, (∀ w, Calls Tryd.prog 21 #[W a] w fun e w' => e = .returned (.tuple #[W t, .int .i64 (K : Int)]) ∧ Below w.heap.size w w') ∧
      ∀ w, Calls Tryd.prog 22 #[W a] w fun e w' => e = .returned (.tuple #[W t, .int .i64 (K : Int)]) ∧ Below w.heap.size w w' := by
    rcases Nat.eq_zero_or_pos a with h0 | h0
    · subst h0
      exact ⟨0, 0, docTrim_zero, trim_zero⟩
    · obtain ⟨t, j, h, h1⟩ := trimmed a h0
      exact ⟨t, j, docTrim_any a t j ha h h1, trim_any a t j ha h h1 (trim_le ha h h1)⟩
  by_cases hk : 0 ≤ k ∧ k ≤ 38
  · obtain ⟨j, rfl⟩ : ∃ j : Nat, k = (j : Int) := ⟨k.toNat, by omega⟩
    exact parts_walk n a t K (nw n) _ (hi (p10 j)) (lo (p10 j)) (ne n) 0 w ht (docNarrow_any n hn) (narrow_any n hn) (docTen_any j (by omega)) (fun w h => ten_ok j (by omega) w h) h5 h6 (docDigits_any a ha) (fun w h => digits_any a ha w h)
  · exact parts_walk n a t K (nw n) k 0 0 (ne n) 1 w ht (docNarrow_any n hn) (narrow_any n hn) (docTen_arg k (by omega)) (fun w _ => ten_arg k (by omega) w) h5 h6 (docDigits_any a ha) (fun w h => digits_any a ha w h)
end Go.Proofs.YthfcdlcklcpegaaDoor
