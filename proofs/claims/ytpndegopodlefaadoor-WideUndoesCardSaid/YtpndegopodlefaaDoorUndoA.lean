/-
  The statement that a difference undoes a sum: one of its ways.
-/
import Derived.Test.YtpndegopodlefaaDoorUndoBase
namespace Go.Proofs.YtpndegopodlefaaDoor
open Go.RowKit Word
attribute [local go_sem] setCell_drewN cell?_ext frozen?_ext shape?_ext setCell_ext lt_1' ne_1' en_1' le_1' lt_2' ne_2' en_2' le_2' lt_3' ne_3' en_3' le_3' lt_4' ne_4' en_4' le_4' lt_5' ne_5' en_5' le_5' lt_6' ne_6' en_6' le_6' lt_7' ne_7' en_7' le_7' lt_8' ne_8' en_8' le_8' lt_9' ne_9' en_9' le_9' lt_10' ne_10' en_10' le_10' lt_11' ne_11' en_11' le_11' lt_12' ne_12' en_12' le_12'
attribute [local go_sem] long_eqIn lt_13' ne_13' en_13' le_13' lt_14' ne_14' en_14' le_14' lt_15' ne_15' en_15' le_15' lt_16' ne_16' en_16' le_16' lt_17' ne_17' en_17' le_17' lt_18' ne_18' en_18' le_18' lt_19' ne_19' en_19' le_19' lt_20' ne_20' en_20' le_20' lt_21' ne_21' en_21' le_21' lt_22' ne_22' en_22' le_22' lt_23' ne_23' en_23' le_23' lt_24' ne_24' en_24' le_24' lt_25' ne_25' en_25' le_25' lt_26' ne_26' en_26' le_26' lt_27' ne_27' en_27' le_27' lt_28' ne_28' en_28' le_28'

set_option maxHeartbeats 8000000 in
theorem undoes_ok_nz (a b : Nat) (ha : a < top2) (hb : b < top2) (hs : a + b < top2) (h0 : 0 < b) (w : World) (ht : Tens w) :
    Calls Tryd.prog 8 #[W a, W b] w fun e w' => e = .returned (.bool true) ∧ Below w.heap.size w w' := by
  obtain ⟨P, hP⟩ : ∃ P, P = a * b := ⟨_, rfl⟩
  have hP' : P = b * a := by rw [hP, Nat.mul_comm]
  have hPl : P < top4 := by rw [hP]; exact mul_lt ha hb
  obtain ⟨S, hS⟩ : ∃ S, S = a + b := ⟨_, rfl⟩
  have hS' : S = b + a := by rw [hS, Nat.add_comm]
  have hSB : S < top2 := by rw [hS]; exact hs
  have hbk : a = S - b := by omega
  have hle : b ≤ S := by omega
  obtain ⟨c, hc⟩ : ∃ c, cmpv S a = c := ⟨_, rfl⟩
  have hc0 : ¬ c < (0 : Int) := by
    rw [← hc]; unfold cmpv; split
    · omega
    · split <;> decide
  have HS := Lib.hid hS; have HS' := Lib.hid hS'; have HK := Lib.hid hbk
  clear hS hS' hbk hs
  have hHT := Lib.hid (fun w' (hb : Below w.heap.size w w') => ht.below hb)
  obtain ⟨u1, u2⟩ := undo_plain (a := a) h0
  rw [← hP] at u1 u2
  obtain ⟨r, hr⟩ : ∃ r, r = 0 := ⟨(0 : Nat), rfl⟩
  rw [← hr] at u2
  have t1 : ((hi r : Int) == 0) = true := by rw [hr]; rfl
  have t2 : ((lo r : Int) == 0) = true := by rw [hr]; rfl
  have U1 := Lib.hid u1; have U2 := Lib.hid u2
  clear u1 u2 hr
  have HP := Lib.hid hP; have HP' := Lib.hid hP'
  clear ht hP hP'
  rcases zero_test b with ⟨z, _⟩ | z | ⟨z, z'⟩
  · exact absurd z (by omega)
  all_goals
    go_enter Tryd.func8, Tryd.ntmps8
    go_wp2_with (first
      | (go_at_call 18; ((with_reducible refine (known_any _ (hHT.out _ (by (repeat' (first | (with_reducible exact Below.refl _ _) | (with_reducible assumption) | (with_reducible refine Below.alloc ?_ ?_ _) | (with_reducible refine below_drewN ?_ _) | (with_reducible refine below_drew ?_) | (with_reducible refine below_ext ?_ ?_ _ _) | (with_reducible refine Below.setCell ?_ ?_ _) | (simp; done) | (simp; omega) | omega))))).mono ?_); rintro e w1 ⟨rfl, hb1⟩; obtain ⟨osA, dA, rfl⟩ := ext_of_below hb1; clear hb1))
      | (go_at_call 20; ((with_reducible refine (add_is a b S HS.out ha hb hSB _).mono ?_); rintro e w1 ⟨rfl, hb1⟩; obtain ⟨osB, dB, rfl⟩ := ext_of_below hb1; clear hb1))
      | (go_at_call 20; ((with_reducible refine (add_is b a S HS'.out hb ha hSB _).mono ?_); rintro e w1 ⟨rfl, hb1⟩; obtain ⟨osC, dC, rfl⟩ := ext_of_below hb1; clear hb1))
      | (go_at_call 22; ((with_reducible refine (sub_is S b a HK.out hSB hb hle _).mono ?_); rintro e w1 ⟨rfl, hb1⟩; obtain ⟨osD, dD, rfl⟩ := ext_of_below hb1; clear hb1))
      | (go_at_call 23; ((with_reducible refine (cmp_any S a hSB ha _).mono ?_); rintro e w1 ⟨rfl, hb1⟩; obtain ⟨osE, dE, rfl⟩ := ext_of_below hb1; clear hb1)))
    go_region_held3 (fun w' => w'.cell? ⟨w.heap.size, 0, none⟩ = some (.int .u64 (hi a : Int)) ∧ w'.cell? ⟨w.heap.size, 1, none⟩ = some (.int .u64 (lo a : Int)) ∧ w'.cell? ⟨w.heap.size + 1, 0, none⟩ = some (.int .u64 (hi b : Int)) ∧ w'.cell? ⟨w.heap.size + 1, 1, none⟩ = some (.int .u64 (lo b : Int))) (simp [go_sem]) (first
      | (go_at_call 25; ((with_reducible refine (mul_is a b P HP.out ha hb _).mono ?_); rintro e w1 ⟨rfl, hb1⟩; obtain ⟨osF, dF, rfl⟩ := ext_of_below hb1; clear hb1))
      | (go_at_call 25; ((with_reducible refine (mul_is b a P HP'.out hb ha _).mono ?_); rintro e w1 ⟨rfl, hb1⟩; obtain ⟨osG, dG, rfl⟩ := ext_of_below hb1; clear hb1)))
    go_wp2_with fail
    go_region_held3 (fun w' => w'.cell? ⟨w.heap.size, 0, none⟩ = some (.int .u64 (hi a : Int)) ∧ w'.cell? ⟨w.heap.size, 1, none⟩ = some (.int .u64 (lo a : Int)) ∧ w'.cell? ⟨w.heap.size + 1, 0, none⟩ = some (.int .u64 (hi b : Int)) ∧ w'.cell? ⟨w.heap.size + 1, 1, none⟩ = some (.int .u64 (lo b : Int))) (first | (simp [go_sem]; done) | go_keep) (first
      | (go_at_call 25; ((with_reducible refine (mul_is a b P HP.out ha hb _).mono ?_); rintro e w1 ⟨rfl, hb1⟩; obtain ⟨osF, dF, rfl⟩ := ext_of_below hb1; clear hb1))
      | (go_at_call 36; ((with_reducible refine (div_q P b a r U1.out U2.out hPl h0 hb _).mono ?_); rintro e w1 ⟨rfl, hb1⟩; obtain ⟨osH, dH, rfl⟩ := ext_of_below hb1; clear hb1)))
    all_goals
      go_wp2_with (go_at_call 28; ((with_reducible refine (narrow_ok a ha _).mono ?_); rintro e w1 ⟨rfl, hb1⟩; obtain ⟨osJ, dJ, rfl⟩ := ext_of_below hb1; clear hb1))
      go_ret
      exact ⟨rfl, by (repeat' (first | (with_reducible exact Below.refl _ _) | (with_reducible assumption) | (with_reducible refine Below.alloc ?_ ?_ _) | (with_reducible refine below_drewN ?_ _) | (with_reducible refine below_drew ?_) | (with_reducible refine below_ext ?_ ?_ _ _) | (with_reducible refine Below.setCell ?_ ?_ _) | (simp; done) | (simp; omega) | omega))⟩
end Go.Proofs.YtpndegopodlefaaDoor
