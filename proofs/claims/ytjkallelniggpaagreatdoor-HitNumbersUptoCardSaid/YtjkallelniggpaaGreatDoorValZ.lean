/-
  Equality of two values, Equal, And, Or, Not: the program's calls.
-/
import Derived.Test.YtjkallelniggpaaGreatDoorValY
namespace Go.Proofs.YtjkallelniggpaaGreatDoor
open Go.RowKit Word Txt
attribute [local go_sem] setCell_drewN cell?_ext frozen?_ext shape?_ext setCell_ext lt_1' ne_1' en_1' le_1' lt_2' ne_2' en_2' le_2' lt_3' ne_3' en_3' le_3' lt_4' ne_4' en_4' le_4' lt_5' ne_5' en_5' le_5' lt_6' ne_6' en_6' le_6' lt_7' ne_7' en_7' le_7' lt_8' ne_8' en_8' le_8' lt_9' ne_9' en_9' le_9' lt_10' ne_10' en_10' le_10' lt_11' ne_11' en_11' le_11' lt_12' ne_12' en_12' le_12'

theorem eq3_two (k : Int) (yes neg : Bool) (c : Nat) (s : Int) (t : ByteArray) (day : Int) (l : List V) (ns : List ByteArray) (k2 : Int) (yes2 neg2 : Bool) (c2 : Nat) (s2 : Int) (t2 : ByteArray) (day2 : Int) (l2 : List V) (ns2 : List ByteArray) :
    (V.mk k yes neg c s t day l ns).eq3 (V.mk k2 yes2 neg2 c2 s2 t2 day2 l2 ns2) = if k = 0 ∨ k2 = 0 then (1, k == k2) else if k ≠ k2 then (0, false) else if k = 5 then (if l.length = l2.length then eqL (1, true) l l2 else (1, false))
    else if k = 6 then (if ns.length = ns2.length then eqE (1, true) l ns l2 ns2 else (1, false)) else (1, (V.mk k yes neg c s t day l ns).eqb (V.mk k2 yes2 neg2 c2 s2 t2 day2 l2 ns2)) := by
  rw [eq3_mk]; rfl
/-- the error of two values -/
noncomputable def code2 (v v' : V) : Int := if v.code = 0 then v'.code else v.code
/-- a truth, where there is no error -/
def res3 (e : Int) (p : P3) : P3 := if e = 0 then p else (0, false)
/-- a value's shape, as an argument -/
theorem at_shape {v : V} {n : Nat} {w : World} {x : Value} (h : v.At n w x) : ∃ k yes neg c s t day pl nl cl pn nn cn, x = VC k yes neg c s t day (.slice pl nl cl) (.slice pn nn cn) ∧ v.kind = k ∧ v.yes = yes := by
  cases v
  obtain ⟨lv, nv, rfl, _, hL, hN, _⟩ := at_mk h
  obtain ⟨pl, cl, rfl⟩ := hL.shape
  obtain ⟨pn, cn, rfl⟩ := hN.shape
  exact ⟨_, _, _, _, _, _, _, _, _, _, _, _, _, rfl, rfl, rfl⟩
theorem checkBoth_any (v v' : V) (n : Nat) (w : World) (x x' : Value) (hx : v.At n w x) (hx' : v'.At n w x') (hnw : n ≤ w.heap.size) (hT : Tens w) (hU : Tabs w) :
    Calls Tryz.prog 12 #[x, x'] w fun e w' => e = .returned (.int .i64 (code2 v v')) ∧ Below w.heap.size w w' := by
  have HA := Lib.hid (fun w' (hb : Below w.heap.size w w') => vcheck_any v n w' x (hx.below (hb.mono hnw)) (Nat.le_trans hnw hb.size) (hT.below hb) (hU.below hb))
  have HB := Lib.hid (fun w' (hb : Below w.heap.size w w') => vcheck_any v' n w' x' (hx'.below (hb.mono hnw)) (Nat.le_trans hnw hb.size) (hT.below hb) (hU.below hb))
  obtain ⟨k, yes, neg, c, s, t, day, pl, nl, cl, pn, nn, cn, rfl, -, -⟩ := at_shape hx
  obtain ⟨k', yes', neg', c', s', t', day', pl', nl', cl', pn', nn', cn', rfl, -, -⟩ := at_shape hx'
  unfold code2
  generalize v.code = a at *
  generalize v'.code = b at *
  clear hx hx' hT hU
  by_cases h0 : a = 0
  · subst h0
    rw [if_pos rfl]
    go_enter Tryz.func12, Tryz.ntmps12
    go_wp2_with (first
      | (go_at_call 18; ((with_reducible refine (HA.out _ (by (repeat' (first | (with_reducible exact Below.refl _ _) | (with_reducible assumption) | (with_reducible refine Below.alloc ?_ ?_ _) | (with_reducible refine below_drewN ?_ _) | (with_reducible refine below_drew ?_) | (with_reducible refine below_ext ?_ ?_ _ _) | (with_reducible refine Below.setCell ?_ ?_ _) | (simp; done) | (simp; omega) | omega)))).mono ?_); rintro e w1 ⟨rfl, hb1⟩; obtain ⟨osA, dA, rfl⟩ := ext_of_below hb1; clear hb1))
      | (go_at_call 18; ((with_reducible refine (HB.out _ (by (repeat' (first | (with_reducible exact Below.refl _ _) | (with_reducible assumption) | (with_reducible refine Below.alloc ?_ ?_ _) | (with_reducible refine below_drewN ?_ _) | (with_reducible refine below_drew ?_) | (with_reducible refine below_ext ?_ ?_ _ _) | (with_reducible refine Below.setCell ?_ ?_ _) | (simp; done) | (simp; omega) | omega)))).mono ?_); rintro e w1 ⟨rfl, hb1⟩; obtain ⟨osB, dB, rfl⟩ := ext_of_below hb1; clear hb1)))
    go_ret
    exact ⟨rfl, by (repeat' (first | (with_reducible exact Below.refl _ _) | (with_reducible assumption) | (with_reducible refine Below.alloc ?_ ?_ _) | (with_reducible refine below_drewN ?_ _) | (with_reducible refine below_drew ?_) | (with_reducible refine below_ext ?_ ?_ _ _) | (with_reducible refine Below.setCell ?_ ?_ _) | (simp; done) | (simp; omega) | omega))⟩
  · rw [if_neg h0]
    have h2 := bneF (beq_eq_false_iff_ne.2 h0)
    go_enter Tryz.func12, Tryz.ntmps12
    go_wp2_with (first
      | (go_at_call 18; ((with_reducible refine (HA.out _ (by (repeat' (first | (with_reducible exact Below.refl _ _) | (with_reducible assumption) | (with_reducible refine Below.alloc ?_ ?_ _) | (with_reducible refine below_drewN ?_ _) | (with_reducible refine below_drew ?_) | (with_reducible refine below_ext ?_ ?_ _ _) | (with_reducible refine Below.setCell ?_ ?_ _) | (simp; done) | (simp; omega) | omega)))).mono ?_); rintro e w1 ⟨rfl, hb1⟩; obtain ⟨osA, dA, rfl⟩ := ext_of_below hb1; clear hb1)))
    go_ret
    exact ⟨rfl, by (repeat' (first | (with_reducible exact Below.refl _ _) | (with_reducible assumption) | (with_reducible refine Below.alloc ?_ ?_ _) | (with_reducible refine below_drewN ?_ _) | (with_reducible refine below_drew ?_) | (with_reducible refine below_ext ?_ ?_ _ _) | (with_reducible refine Below.setCell ?_ ?_ _) | (simp; done) | (simp; omega) | omega))⟩
end Go.Proofs.YtjkallelniggpaaGreatDoor
