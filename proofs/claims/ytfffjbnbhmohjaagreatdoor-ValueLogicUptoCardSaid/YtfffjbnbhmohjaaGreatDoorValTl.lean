/-
  The statement on And, Or, Not: ValueTruths.
-/
import Derived.Test.YtfffjbnbhmohjaaGreatDoorValKn
namespace Go.Proofs.YtfffjbnbhmohjaaGreatDoor
open Go.RowKit Word Txt
attribute [local go_sem] setCell_drewN cell?_ext frozen?_ext shape?_ext setCell_ext lt_1' ne_1' en_1' le_1' lt_2' ne_2' en_2' le_2' lt_3' ne_3' en_3' le_3' lt_4' ne_4' en_4' le_4' lt_5' ne_5' en_5' le_5' lt_6' ne_6' en_6' le_6' lt_7' ne_7' en_7' le_7' lt_8' ne_8' en_8' le_8' lt_9' ne_9' en_9' le_9' lt_10' ne_10' en_10' le_10' lt_11' ne_11' en_11' le_11' lt_12' ne_12' en_12' le_12'

theorem lsame_tv (k : Int) (y : Bool) (w : World) : Calls Tryz.prog 16 #[TV k y, TV k y] w fun e w' => e = .returned (.bool true) ∧ Below w.heap.size w w' := by
  have h := lsame_any (tvV (k, y)) (tvV (k, y)) 0 w _ _ (tv_at (k, y) 0 w) (tv_at (k, y) 0 w) (Nat.zero_le _) (by rw [tv_count]; omega) (by rw [tv_count]; omega)
  rw [eqb_refl] at h
  exact h
set_option maxHeartbeats 16000000 in
theorem valueTruths_law (v v' : V) (w : World) (x : Value) (hx : v.At w.heap.size w x) (x' : Value) (hx' : v'.At w.heap.size w x') (hT : Tens w) (hU : Tabs w) :
    Calls Tryz.prog 5 #[x, x'] w fun e w' => e = .returned (.bool true) ∧ Below w.heap.size w w' := by
  have HK := Lib.hid (fun w' (hb : Below w.heap.size w w') => vknown_any w' (hT.below hb) (hU.below hb))
  have HA1 := Lib.hid (fun w' (hb : Below w.heap.size w w') => docAnd_any v v' w.heap.size w' x x' (hx.below hb) (hx'.below hb) hb.size)
  have HA2 := Lib.hid (fun w' (hb : Below w.heap.size w w') => vAnd_any v v' w.heap.size w' x x' (hx.below hb) (hx'.below hb) hb.size (hT.below hb) (hU.below hb))
  have HO1 := Lib.hid (fun w' (hb : Below w.heap.size w w') => docOr_any v v' w.heap.size w' x x' (hx.below hb) (hx'.below hb) hb.size)
  have HO2 := Lib.hid (fun w' (hb : Below w.heap.size w w') => vOr_any v v' w.heap.size w' x x' (hx.below hb) (hx'.below hb) hb.size (hT.below hb) (hU.below hb))
  have HN1 := Lib.hid (fun w' (hb : Below w.heap.size w w') => docNot_any v w.heap.size w' x (hx.below hb) hb.size)
  have HN2 := Lib.hid (fun w' (hb : Below w.heap.size w w') => vNot_any v w.heap.size w' x (hx.below hb) hb.size (hT.below hb) (hU.below hb))
  have HS := Lib.hid (fun k y w => lsame_tv k y w)
  obtain ⟨k, yes, neg, c, s, t, day, pl, nl, cl, pn, nn, cn, rfl, -, -⟩ := at_shape hx
  obtain ⟨k', yes', neg', c', s', t', day', pl', nl', cl', pn', nn', cn', rfl, -, -⟩ := at_shape hx'
  unfold V.tri at HA1 HO1 HN1
  generalize res3 (code2 v v') (and3 (v.kind, v.yes) (v'.kind, v'.yes)) = q1 at *
  generalize res3 (code2 v v') (or3 (v.kind, v.yes) (v'.kind, v'.yes)) = q2 at *
  generalize res3 v.code (not3 (v.kind, v.yes)) = q3 at *
  generalize code2 v v' = a at *
  generalize v.code = b at *
  obtain ⟨k1, y1⟩ := q1
  obtain ⟨k2, y2⟩ := q2
  obtain ⟨k3, y3⟩ := q3
  clear hx hx' hT hU
  go_enter Tryz.func5, Tryz.ntmps5
  go_wp2_with (first
    | (go_at_call 7; ((with_reducible refine (HK.out _ (by (repeat' (first | (with_reducible exact Below.refl _ _) | (with_reducible assumption) | (with_reducible refine Below.alloc ?_ ?_ _) | (with_reducible refine below_drewN ?_ _) | (with_reducible refine below_drew ?_) | (with_reducible refine below_ext ?_ ?_ _ _) | (with_reducible refine Below.setCell ?_ ?_ _) | (simp; done) | (simp; omega) | omega)))).mono ?_); rintro e w1 ⟨rfl, hb1⟩; obtain ⟨osA, dA, rfl⟩ := ext_of_below hb1; clear hb1))
    | (go_at_call 17; ((with_reducible refine (HA1.out _ (by (repeat' (first | (with_reducible exact Below.refl _ _) | (with_reducible assumption) | (with_reducible refine Below.alloc ?_ ?_ _) | (with_reducible refine below_drewN ?_ _) | (with_reducible refine below_drew ?_) | (with_reducible refine below_ext ?_ ?_ _ _) | (with_reducible refine Below.setCell ?_ ?_ _) | (simp; done) | (simp; omega) | omega)))).mono ?_); rintro e w1 ⟨rfl, hb1⟩; obtain ⟨osB, dB, rfl⟩ := ext_of_below hb1; clear hb1))
    | (go_at_call 18; ((with_reducible refine (HA2.out _ (by (repeat' (first | (with_reducible exact Below.refl _ _) | (with_reducible assumption) | (with_reducible refine Below.alloc ?_ ?_ _) | (with_reducible refine below_drewN ?_ _) | (with_reducible refine below_drew ?_) | (with_reducible refine below_ext ?_ ?_ _ _) | (with_reducible refine Below.setCell ?_ ?_ _) | (simp; done) | (simp; omega) | omega)))).mono ?_); rintro e w1 ⟨rfl, hb1⟩; obtain ⟨osC, dC, rfl⟩ := ext_of_below hb1; clear hb1))
    | (go_at_call 16; ((with_reducible refine (HS.out _ _ _).mono ?_); rintro e w1 ⟨rfl, hb1⟩; obtain ⟨osD, dD, rfl⟩ := ext_of_below hb1; clear hb1))
    | (go_at_call 19; ((with_reducible refine (HO1.out _ (by (repeat' (first | (with_reducible exact Below.refl _ _) | (with_reducible assumption) | (with_reducible refine Below.alloc ?_ ?_ _) | (with_reducible refine below_drewN ?_ _) | (with_reducible refine below_drew ?_) | (with_reducible refine below_ext ?_ ?_ _ _) | (with_reducible refine Below.setCell ?_ ?_ _) | (simp; done) | (simp; omega) | omega)))).mono ?_); rintro e w1 ⟨rfl, hb1⟩; obtain ⟨osE, dE, rfl⟩ := ext_of_below hb1; clear hb1))
    | (go_at_call 20; ((with_reducible refine (HO2.out _ (by (repeat' (first | (with_reducible exact Below.refl _ _) | (with_reducible assumption) | (with_reducible refine Below.alloc ?_ ?_ _) | (with_reducible refine below_drewN ?_ _) | (with_reducible refine below_drew ?_) | (with_reducible refine below_ext ?_ ?_ _ _) | (with_reducible refine Below.setCell ?_ ?_ _) | (simp; done) | (simp; omega) | omega)))).mono ?_); rintro e w1 ⟨rfl, hb1⟩; obtain ⟨osF, dF, rfl⟩ := ext_of_below hb1; clear hb1))
    | (go_at_call 21; ((with_reducible refine (HN1.out _ (by (repeat' (first | (with_reducible exact Below.refl _ _) | (with_reducible assumption) | (with_reducible refine Below.alloc ?_ ?_ _) | (with_reducible refine below_drewN ?_ _) | (with_reducible refine below_drew ?_) | (with_reducible refine below_ext ?_ ?_ _ _) | (with_reducible refine Below.setCell ?_ ?_ _) | (simp; done) | (simp; omega) | omega)))).mono ?_); rintro e w1 ⟨rfl, hb1⟩; obtain ⟨osG, dG, rfl⟩ := ext_of_below hb1; clear hb1))
    | (go_at_call 22; ((with_reducible refine (HN2.out _ (by (repeat' (first | (with_reducible exact Below.refl _ _) | (with_reducible assumption) | (with_reducible refine Below.alloc ?_ ?_ _) | (with_reducible refine below_drewN ?_ _) | (with_reducible refine below_drew ?_) | (with_reducible refine below_ext ?_ ?_ _ _) | (with_reducible refine Below.setCell ?_ ?_ _) | (simp; done) | (simp; omega) | omega)))).mono ?_); rintro e w1 ⟨rfl, hb1⟩; obtain ⟨osH, dH, rfl⟩ := ext_of_below hb1; clear hb1)))
  all_goals
    go_ret
    exact ⟨rfl, by (repeat' (first | (with_reducible exact Below.refl _ _) | (with_reducible assumption) | (with_reducible refine Below.alloc ?_ ?_ _) | (with_reducible refine below_drewN ?_ _) | (with_reducible refine below_drew ?_) | (with_reducible refine below_ext ?_ ?_ _ _) | (with_reducible refine Below.setCell ?_ ?_ _) | (simp; done) | (simp; omega) | omega))⟩
end Go.Proofs.YtfffjbnbhmohjaaGreatDoor
