/-
  The law WideSums.
-/
import Derived.Test.YthfcdlcklcpegaaDoorRefK
import Derived.Test.YthfcdlcklcpegaaDoorKnown
import Derived.Test.YthfcdlcklcpegaaDoorEqual
namespace Go.Proofs.YthfcdlcklcpegaaDoor
open Go.RowKit Num Word
attribute [local go_sem] setCell_drewN cell?_ext frozen?_ext shape?_ext setCell_ext lt_1' ne_1' en_1' le_1' lt_2' ne_2' en_2' le_2' lt_3' ne_3' en_3' le_3' lt_4' ne_4' en_4' le_4' lt_5' ne_5' en_5' le_5' lt_6' ne_6' en_6' le_6' lt_7' ne_7' en_7' le_7' lt_8' ne_8' en_8' le_8' lt_9' ne_9' en_9' le_9' lt_10' ne_10' en_10' le_10' lt_11' ne_11' en_11' le_11' lt_12' ne_12' en_12' le_12'
attribute [local go_sem] long_eqIn lt_13' ne_13' en_13' le_13' lt_14' ne_14' en_14' le_14' lt_15' ne_15' en_15' le_15' lt_16' ne_16' en_16' le_16' lt_17' ne_17' en_17' le_17' lt_18' ne_18' en_18' le_18' lt_19' ne_19' en_19' le_19' lt_20' ne_20' en_20' le_20'

theorem add_nw (a b c : Nat) (hc : c = a + b) (ha : a < top2) (hb : b < top2) (w : World) :
    Calls Tryd.prog 10 #[W a, W b] w fun e w' => e = .returned (.tuple #[W (nw c), .int .i64 (ne c)]) ∧ Below w.heap.size w w' := by
  by_cases h : c < top2
  · rw [show nw c = c from if_pos h, show ne c = 0 from if_pos h]
    subst hc
    exact add_ok a b ha hb h w
  · rw [show nw c = 0 from if_neg h, show ne c = 3 from if_neg h]
    exact add_over a b ha hb (by omega) w
def dif (a b : Nat) : Nat := if b ≤ a then a - b else 0
def difE (a b : Nat) : Int := if b ≤ a then 0 else 3
theorem docSub_dif (a b : Nat) (ha : a < top2) (hb : b < top2) (w : World) :
    Calls Tryd.prog 11 #[W a, W b] w fun e w' => e = .returned (.tuple #[W (dif a b), .int .i64 (difE a b)]) ∧ Below w.heap.size w w' := by
  have h := docSub_any a b ha hb w
  unfold dif difE
  by_cases hle : b ≤ a
  · rw [if_pos hle] at h ⊢; rw [if_pos hle]; exact h
  · rw [if_neg hle] at h ⊢; rw [if_neg hle]; exact h
theorem sub_dif (a b : Nat) (ha : a < top2) (hb : b < top2) (w : World) :
    Calls Tryd.prog 12 #[W a, W b] w fun e w' => e = .returned (.tuple #[W (dif a b), .int .i64 (difE a b)]) ∧ Below w.heap.size w w' := by
  unfold dif difE
  by_cases hle : b ≤ a
  · rw [if_pos hle, if_pos hle]; exact sub_ok a b ha hb hle w
  · rw [if_neg hle, if_neg hle]; exact sub_over a b ha hb (by omega) w
set_option maxRecDepth 100000 in
set_option maxHeartbeats 16000000 in
theorem sums_law (a b : Nat) (ha : a < top2) (hb : b < top2) (w : World) (ht : Tens w) :
    Calls Tryd.prog 3 #[W a, W b] w fun e w' => e = .returned (.bool true) ∧ Below w.heap.size w w' := by
  have hHT := Lib.hid (fun w' (hb : Below w.heap.size w w') => ht.below hb)
  obtain ⟨s, hs⟩ : ∃ s, s = a + b := ⟨_, rfl⟩
  obtain ⟨P, hP⟩ : ∃ P, P = a * b := ⟨_, rfl⟩
  obtain ⟨z, hz⟩ : ∃ z, z = cmpv a b := ⟨_, rfl⟩
  obtain ⟨n1, hn1⟩ : ∃ n, n = nw s := ⟨_, rfl⟩
  obtain ⟨m1, hm1⟩ : ∃ n, n = ne s := ⟨_, rfl⟩
  obtain ⟨n2, hn2⟩ : ∃ n, n = dif a b := ⟨_, rfl⟩
  obtain ⟨m2, hm2⟩ : ∃ n, n = difE a b := ⟨_, rfl⟩
  have h1 := docAdd_any a b s hs ha hb
  have h2 := add_nw a b s hs ha hb
  have h3 := docSub_dif a b ha hb
  have h4 := sub_dif a b ha hb
  have h5 := cmp_any a b ha hb
  have h6 := docCmp_any a b ha hb
  have h7 := fun w => mul_any a b ha hb w
  have h8 := docMul_any a b P hP ha hb
  rw [← hP] at h7
  rw [← hn1, ← hm1] at h1 h2
  rw [← hn2, ← hm2] at h3 h4
  rw [← hz] at h5 h6
  have H1 := Lib.hid h1; have H2 := Lib.hid h2; have H3 := Lib.hid h3; have H4 := Lib.hid h4; have H5 := Lib.hid h5; have H6 := Lib.hid h6; have H7 := Lib.hid h7; have H8 := Lib.hid h8
  clear h1 h2 h3 h4 h5 h6 h7 h8 hs hP hz hn1 hm1 hn2 hm2 ha hb ht
  go_enter Tryd.func3, Tryd.ntmps3
  go_wp2_with (first
    | (go_at_call 8; ((with_reducible refine (known_any _ (hHT.out _ (by (repeat' (first | (with_reducible exact Below.refl _ _) | (with_reducible assumption) | (with_reducible refine Below.alloc ?_ ?_ _) | (with_reducible refine below_drewN ?_ _) | (with_reducible refine below_drew ?_) | (with_reducible refine below_ext ?_ ?_ _ _) | (with_reducible refine Below.setCell ?_ ?_ _) | (simp; done) | (simp; omega) | omega))))).mono ?_); rintro e w1 ⟨rfl, hb1⟩; obtain ⟨osA, dA, rfl⟩ := ext_of_below hb1; clear hb1))
    | (go_at_call 9; ((with_reducible refine (H1.out _).mono ?_); rintro e w1 ⟨rfl, hb1⟩; obtain ⟨osB, dB, rfl⟩ := ext_of_below hb1; clear hb1))
    | (go_at_call 10; ((with_reducible refine (H2.out _).mono ?_); rintro e w1 ⟨rfl, hb1⟩; obtain ⟨osC, dC, rfl⟩ := ext_of_below hb1; clear hb1))
    | (go_at_call 11; ((with_reducible refine (H3.out _).mono ?_); rintro e w1 ⟨rfl, hb1⟩; obtain ⟨osD, dD, rfl⟩ := ext_of_below hb1; clear hb1))
    | (go_at_call 12; ((with_reducible refine (H4.out _).mono ?_); rintro e w1 ⟨rfl, hb1⟩; obtain ⟨osE, dE, rfl⟩ := ext_of_below hb1; clear hb1)))
  go_region_held3 (fun w' => w'.cell? ⟨w.heap.size, 0, none⟩ = some (.int .u64 (hi a : Int)) ∧ w'.cell? ⟨w.heap.size, 1, none⟩ = some (.int .u64 (lo a : Int)) ∧ w'.cell? ⟨w.heap.size + 1, 0, none⟩ = some (.int .u64 (hi b : Int)) ∧ w'.cell? ⟨w.heap.size + 1, 1, none⟩ = some (.int .u64 (lo b : Int)) ∧ w'.cell? ⟨w.heap.size + 1 + 1 + osA.size + osB.size, 0, none⟩ = some (.int .u64 (hi n1 : Int)) ∧ w'.cell? ⟨w.heap.size + 1 + 1 + osA.size + osB.size, 1, none⟩ = some (.int .u64 (lo n1 : Int)) ∧ w'.cell? ⟨w.heap.size + 1 + 1 + osA.size + osB.size + 1 + osC.size, 0, none⟩ = some (.int .u64 (hi n1 : Int)) ∧ w'.cell? ⟨w.heap.size + 1 + 1 + osA.size + osB.size + 1 + osC.size, 1, none⟩ = some (.int .u64 (lo n1 : Int)) ∧ w'.cell? ⟨w.heap.size + 1 + 1 + osA.size + osB.size + 1 + osC.size + 1 + osD.size, 0, none⟩ = some (.int .u64 (hi n2 : Int)) ∧ w'.cell? ⟨w.heap.size + 1 + 1 + osA.size + osB.size + 1 + osC.size + 1 + osD.size, 1, none⟩ = some (.int .u64 (lo n2 : Int)) ∧ w'.cell? ⟨w.heap.size + 1 + 1 + osA.size + osB.size + 1 + osC.size + 1 + osD.size + 1 + osE.size, 0, none⟩ = some (.int .u64 (hi n2 : Int)) ∧ w'.cell? ⟨w.heap.size + 1 + 1 + osA.size + osB.size + 1 + osC.size + 1 + osD.size + 1 + osE.size, 1, none⟩ = some (.int .u64 (lo n2 : Int))) (first | (simp [go_sem]; done) | go_keep) (first
    | (go_at_call 13; ((with_reducible refine (H5.out _).mono ?_); rintro e w1 ⟨rfl, hb1⟩; obtain ⟨osF, dF, rfl⟩ := ext_of_below hb1; clear hb1))
    | (go_at_call 14; ((with_reducible refine (H6.out _).mono ?_); rintro e w1 ⟨rfl, hb1⟩; obtain ⟨osG, dG, rfl⟩ := ext_of_below hb1; clear hb1))
    | (go_at_call 15; ((with_reducible refine (H7.out _).mono ?_); rintro e w1 ⟨rfl, hb1⟩; obtain ⟨osH, dH, rfl⟩ := ext_of_below hb1; clear hb1))
    | (go_at_call 16; ((with_reducible refine (H8.out _).mono ?_); rintro e w1 ⟨rfl, hb1⟩; obtain ⟨osI, dI, rfl⟩ := ext_of_below hb1; clear hb1)))
  all_goals
    go_wp2_with fail
    go_ret
    exact ⟨rfl, by (repeat' (first | (with_reducible exact Below.refl _ _) | (with_reducible assumption) | (with_reducible refine Below.alloc ?_ ?_ _) | (with_reducible refine below_drewN ?_ _) | (with_reducible refine below_drew ?_) | (with_reducible refine below_ext ?_ ?_ _ _) | (with_reducible refine Below.setCell ?_ ?_ _) | (simp; done) | (simp; omega) | omega))⟩
end Go.Proofs.YthfcdlcklcpegaaDoor
