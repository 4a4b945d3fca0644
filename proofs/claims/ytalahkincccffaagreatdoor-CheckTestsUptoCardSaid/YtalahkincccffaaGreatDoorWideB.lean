/-
  Contracts of package wide: sums and differences of two words.
-/
import Derived.Test.YtalahkincccffaaGreatDoorWideA
namespace Go.Proofs.YtalahkincccffaaGreatDoor
open Go.RowKit Word
attribute [local go_sem] setCell_drewN cell?_ext frozen?_ext shape?_ext setCell_ext lt_1' ne_1' en_1' le_1' lt_2' ne_2' en_2' le_2' lt_3' ne_3' en_3' le_3' lt_4' ne_4' en_4' le_4' lt_5' ne_5' en_5' le_5' lt_6' ne_6' en_6' le_6' lt_7' ne_7' en_7' le_7' lt_8' ne_8' en_8' le_8' lt_9' ne_9' en_9' le_9' lt_10' ne_10' en_10' le_10' lt_11' ne_11' en_11' le_11' lt_12' ne_12' en_12' le_12'

def cmpv (a b : Nat) : Int := if a < b then -1 else if b < a then 1 else 0
theorem cmpv_lt {a b : Nat} (h : a < b) : cmpv a b = -1 := by simp [cmpv, h]
theorem cmpv_gt {a b : Nat} (h : b < a) : cmpv a b = 1 := by simp [cmpv, h]; omega
theorem cmpv_eq (a : Nat) : cmpv a a = 0 := by simp [cmpv]
theorem words_lt {a b : Nat} (ha : a < top4) (hb : b < top4) :
    (w3 a < w3 b → a < b) ∧ (w3 a = w3 b → w2 a < w2 b → a < b) ∧ (w3 a = w3 b → w2 a = w2 b → w1 a < w1 b → a < b) ∧ (w3 a = w3 b → w2 a = w2 b → w1 a = w1 b → w0 a < w0 b → a < b) ∧
    (w3 a = w3 b → w2 a = w2 b → w1 a = w1 b → w0 a = w0 b → a = b) := by
  have h1 := words4 ha
  have h2 := words4 hb
  have l0 := w0_lt a; have l1 := w1_lt a; have l2 := w2_lt a; have l3 := w3_lt a
  have m0 := w0_lt b; have m1 := w1_lt b; have m2 := w2_lt b; have m3 := w3_lt b
  generalize w0 a = a0 at *; generalize w1 a = a1 at *; generalize w2 a = a2 at *; generalize w3 a = a3 at *
  generalize w0 b = b0 at *; generalize w1 b = b1 at *; generalize w2 b = b2 at *; generalize w3 b = b3 at *
  clear ha hb
  refine ⟨fun _ => ?_, fun _ _ => ?_, fun _ _ _ => ?_, fun _ _ _ _ => ?_, fun _ _ _ _ => ?_⟩ <;> omega
def Same (a b : Nat) : Nat → Prop
  | 0 => w3 a = w3 b ∧ w2 a = w2 b ∧ w1 a = w1 b ∧ w0 a = w0 b
  | 1 => w3 a = w3 b ∧ w2 a = w2 b ∧ w1 a = w1 b
  | 2 => w3 a = w3 b ∧ w2 a = w2 b
  | 3 => w3 a = w3 b
  | _ => True
set_option maxHeartbeats 4000000 in
theorem cmpLong_any (a b : Nat) (ha : a < top4) (hb : b < top4) (w : World) :
    Calls Tryz.prog 107 #[L a, L b] w fun e w' => e = .returned (.int .i64 (cmpv a b)) ∧ Below w.heap.size w w' := by
  obtain ⟨f3, f2, f1, f0, fe⟩ := words_lt ha hb
  obtain ⟨g3, g2, g1, g0, _⟩ := words_lt hb ha
  have F3 := Lib.hid f3; have F2 := Lib.hid f2; have F1 := Lib.hid f1; have F0 := Lib.hid f0; have FE := Lib.hid fe
  have G3 := Lib.hid g3; have G2 := Lib.hid g2; have G1 := Lib.hid g1; have G0 := Lib.hid g0
  clear f3 f2 f1 f0 fe g3 g2 g1 g0
  go_enter Tryz.func107, Tryz.ntmps107
  go_wp2
  go_loopw [5] (fun i wr => ∃ (q : Int) (n : Nat), -1 ≤ q ∧ q ≤ 3 ∧ i = .int .i64 q ∧ Same a b (q + 1).toNat ∧ wr = ((w.alloc (.cells #[.int .u64 (w0 a : Int), .int .u64 (w1 a : Int), .int .u64 (w2 a : Int), .int .u64 (w3 a : Int)] 124)).alloc (.cells #[.int .u64 (w0 b : Int), .int .u64 (w1 b : Int), .int .u64 (w2 b : Int), .int .u64 (w3 b : Int)] 124)).drewN n)
    (fun i _ => (intOf i + 1).toNat)
  case atStart => exact ⟨3, 0, by omega, by omega, rfl, trivial, rfl⟩
  case round =>
    obtain ⟨q, n, hk1, hk2, rfl, hs, rfl⟩ := hrel
    have HS := Lib.hid hs
    clear hs
    have h5 : q = 3 ∨ q = 2 ∨ q = 1 ∨ q = 0 ∨ q = -1 := by omega
    clear hk1 hk2
    rcases h5 with rfl | rfl | rfl | rfl | rfl
    · by_cases h1 : w3 a < w3 b
      · go_wp2_with fail
        go_quiet (fail)
        go_wp2
        go_returns
        exact ⟨by rw [cmpv_lt (F3.out  h1)]; rfl, below_drewN (by (repeat' (first | (with_reducible first | exact Below.refl _ _ | assumption | refine Below.alloc ?_ ?_ _ | refine below_drewN ?_ _ | refine below_drew ?_ | refine below_ext ?_ ?_ _ _ | refine Below.setCell ?_ ?_ _) | (simp; done) | (simp; omega) | omega))) _⟩
      · by_cases h2 : w3 b < w3 a
        · go_wp2_with fail
          go_quiet (fail)
          go_wp2_with fail
          go_quiet (fail)
          go_wp2
          go_returns
          exact ⟨by rw [cmpv_gt (G3.out  h2)]; rfl, below_drewN (by (repeat' (first | (with_reducible first | exact Below.refl _ _ | assumption | refine Below.alloc ?_ ?_ _ | refine below_drewN ?_ _ | refine below_drew ?_ | refine below_ext ?_ ?_ _ _ | refine Below.setCell ?_ ?_ _) | (simp; done) | (simp; omega) | omega))) _⟩
        · go_wp2_with fail
          go_quiet (fail)
          go_wp2_with fail
          go_quiet (fail)
          go_wp2
          go_roundw
          case rel => exact ⟨2, _, by omega, by omega, rfl, by show w3 a = w3 b; omega, rfl⟩
          case measure => simp [intOf]
    · by_cases h1 : w2 a < w2 b
      · go_wp2_with fail
        go_quiet (fail)
        go_wp2
        go_returns
        exact ⟨by rw [cmpv_lt (F2.out HS.out h1)]; rfl, below_drewN (by (repeat' (first | (with_reducible first | exact Below.refl _ _ | assumption | refine Below.alloc ?_ ?_ _ | refine below_drewN ?_ _ | refine below_drew ?_ | refine below_ext ?_ ?_ _ _ | refine Below.setCell ?_ ?_ _) | (simp; done) | (simp; omega) | omega))) _⟩
      · by_cases h2 : w2 b < w2 a
        · go_wp2_with fail
          go_quiet (fail)
          go_wp2_with fail
          go_quiet (fail)
          go_wp2
          go_returns
          exact ⟨by rw [cmpv_gt (G2.out HS.out.symm h2)]; rfl, below_drewN (by (repeat' (first | (with_reducible first | exact Below.refl _ _ | assumption | refine Below.alloc ?_ ?_ _ | refine below_drewN ?_ _ | refine below_drew ?_ | refine below_ext ?_ ?_ _ _ | refine Below.setCell ?_ ?_ _) | (simp; done) | (simp; omega) | omega))) _⟩
        · go_wp2_with fail
          go_quiet (fail)
          go_wp2_with fail
          go_quiet (fail)
          go_wp2
          go_roundw
          case rel => exact ⟨1, _, by omega, by omega, rfl, by exact ⟨HS.out, by omega⟩, rfl⟩
          case measure => simp [intOf]
    · by_cases h1 : w1 a < w1 b
      · go_wp2_with fail
        go_quiet (fail)
        go_wp2
        go_returns
        exact ⟨by rw [cmpv_lt (F1.out HS.out.1 HS.out.2 h1)]; rfl, below_drewN (by (repeat' (first | (with_reducible first | exact Below.refl _ _ | assumption | refine Below.alloc ?_ ?_ _ | refine below_drewN ?_ _ | refine below_drew ?_ | refine below_ext ?_ ?_ _ _ | refine Below.setCell ?_ ?_ _) | (simp; done) | (simp; omega) | omega))) _⟩
      · by_cases h2 : w1 b < w1 a
        · go_wp2_with fail
          go_quiet (fail)
          go_wp2_with fail
          go_quiet (fail)
          go_wp2
          go_returns
          exact ⟨by rw [cmpv_gt (G1.out HS.out.1.symm HS.out.2.symm h2)]; rfl, below_drewN (by (repeat' (first | (with_reducible first | exact Below.refl _ _ | assumption | refine Below.alloc ?_ ?_ _ | refine below_drewN ?_ _ | refine below_drew ?_ | refine below_ext ?_ ?_ _ _ | refine Below.setCell ?_ ?_ _) | (simp; done) | (simp; omega) | omega))) _⟩
        · go_wp2_with fail
          go_quiet (fail)
          go_wp2_with fail
          go_quiet (fail)
          go_wp2
          go_roundw
          case rel => exact ⟨0, _, by omega, by omega, rfl, by exact ⟨HS.out.1, HS.out.2, by omega⟩, rfl⟩
          case measure => simp [intOf]
    · by_cases h1 : w0 a < w0 b
      · go_wp2_with fail
        go_quiet (fail)
        go_wp2
        go_returns
        exact ⟨by rw [cmpv_lt (F0.out HS.out.1 HS.out.2.1 HS.out.2.2 h1)]; rfl, below_drewN (by (repeat' (first | (with_reducible first | exact Below.refl _ _ | assumption | refine Below.alloc ?_ ?_ _ | refine below_drewN ?_ _ | refine below_drew ?_ | refine below_ext ?_ ?_ _ _ | refine Below.setCell ?_ ?_ _) | (simp; done) | (simp; omega) | omega))) _⟩
      · by_cases h2 : w0 b < w0 a
        · go_wp2_with fail
          go_quiet (fail)
          go_wp2_with fail
          go_quiet (fail)
          go_wp2
          go_returns
          exact ⟨by rw [cmpv_gt (G0.out HS.out.1.symm HS.out.2.1.symm HS.out.2.2.symm h2)]; rfl, below_drewN (by (repeat' (first | (with_reducible first | exact Below.refl _ _ | assumption | refine Below.alloc ?_ ?_ _ | refine below_drewN ?_ _ | refine below_drew ?_ | refine below_ext ?_ ?_ _ _ | refine Below.setCell ?_ ?_ _) | (simp; done) | (simp; omega) | omega))) _⟩
        · go_wp2_with fail
          go_quiet (fail)
          go_wp2_with fail
          go_quiet (fail)
          go_wp2
          go_roundw
          case rel => exact ⟨-1, _, by omega, by omega, rfl, by exact ⟨HS.out.1, HS.out.2.1, HS.out.2.2, by omega⟩, rfl⟩
          case measure => simp [intOf]
    · go_wp2
      go_returns
      obtain ⟨e3, e2, e1, e0⟩ := HS.out
      have he := FE.out e3 e2 e1 e0
      subst he
      exact ⟨by rw [cmpv_eq]; rfl, below_drewN (by (repeat' (first | (with_reducible first | exact Below.refl _ _ | assumption | refine Below.alloc ?_ ?_ _ | refine below_drewN ?_ _ | refine below_drew ?_ | refine below_ext ?_ ?_ _ _ | refine Below.setCell ?_ ?_ _) | (simp; done) | (simp; omega) | omega))) _⟩
end Go.Proofs.YtalahkincccffaaGreatDoor
