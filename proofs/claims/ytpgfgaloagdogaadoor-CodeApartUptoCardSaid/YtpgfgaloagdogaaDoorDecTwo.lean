/-
  Contracts of package dec: negated, Neg, Abs, Add, Sub, Cmp.
  Contracts of package dec: Neg, Abs, Make, Sub, Mul.
  Contracts of package dec: Cmp, Sub; the statements' own first question.
-/
import Derived.Test.YtpgfgaloagdogaaDoorDecOne
namespace Go.Proofs.YtpgfgaloagdogaaDoor
open Go.RowKit Word
attribute [local go_sem] setCell_drewN cell?_ext frozen?_ext shape?_ext setCell_ext lt_1' ne_1' en_1' le_1' lt_2' ne_2' en_2' le_2' lt_3' ne_3' en_3' le_3' lt_4' ne_4' en_4' le_4' lt_5' ne_5' en_5' le_5' lt_6' ne_6' en_6' le_6' lt_7' ne_7' en_7' le_7' lt_8' ne_8' en_8' le_8' lt_9' ne_9' en_9' le_9' lt_10' ne_10' en_10' le_10' lt_11' ne_11' en_11' le_11' lt_12' ne_12' en_12' le_12'

theorem add_units (na nb : Bool) (ca SA cb SB m : Nat) (h1 : SA ≤ m) (h2 : SB ≤ m) (h3 : m ≤ 18) :
    (Fit.sumN na (Fit.uni ca SA) nb (Fit.uni cb SB)).1 = (Fit.sumN na (ca * 10 ^ (m - SA)) nb (cb * 10 ^ (m - SB))).1 ∧
    Fit.fit (Fit.sumN na (Fit.uni ca SA) nb (Fit.uni cb SB)).2 (10 ^ 18) 19 = Fit.fit (Fit.sumN na (ca * 10 ^ (m - SA)) nb (cb * 10 ^ (m - SB))).2 (10 ^ m) 19 := by
  rw [Fit.uni_raised ca SA m h1 h3, Fit.uni_raised cb SB m h2 h3, Fit.sumN_scale _ _ _ _ _ (Fit.pp _)]
  exact ⟨rfl, (Fit.fit_uni _ m h3 19).symm⟩
theorem raised_lt {c S m : Nat} (hc : c < 10 ^ 34) (h : m ≤ 18) : c * 10 ^ (m - S) < 10 ^ 52 := by
  have h1 : 10 ^ (m - S) ≤ 10 ^ 18 := Nat.pow_le_pow_right (by decide) (by omega)
  have h2 : c * 10 ^ (m - S) ≤ c * 10 ^ 18 := Nat.mul_le_mul_left _ h1
  have h3 : c * 10 ^ 18 < 10 ^ 34 * 10 ^ 18 := Nat.mul_lt_mul_of_pos_right hc (Fit.pp _)
  have h4 : 10 ^ 34 * 10 ^ 18 = 10 ^ 52 := rfl
  omega
theorem form_c {neg : Bool} {c : Nat} {s : Int} (h : formB neg c s = true) : c < top2 := by
  obtain ⟨_, _, _, h, _⟩ := form_open h
  exact lt34_top2 h
/-- what is handed in is in form: said ahead -/
theorem form_yes {neg : Bool} {c : Nat} {s : Int} (h : formB neg c s = true) (w : World) (ht : Tens w) :
    Calls Tryd.prog 73 #[D neg c s] w fun e w' => e = .returned (.bool true) ∧ Below w.heap.size w w' := by
  have := form_any neg c s (form_c h) w ht
  rwa [h] at this
theorem form_no {neg : Bool} {c : Nat} {s : Int} (hc : c < top2) (h : formB neg c s = false) (w : World) (ht : Tens w) :
    Calls Tryd.prog 73 #[D neg c s] w fun e w' => e = .returned (.bool false) ∧ Below w.heap.size w w' := by
  have := form_any neg c s hc w ht
  rwa [h] at this
/-- four words in a block -/
def LBox (w : World) (b n : Nat) : Prop := b < w.heap.size ∧ w.cell? ⟨b, 0, none⟩ = some (.int .u64 (w0 n : Int)) ∧ w.cell? ⟨b, 1, none⟩ = some (.int .u64 (w1 n : Int)) ∧ w.cell? ⟨b, 2, none⟩ = some (.int .u64 (w2 n : Int)) ∧ w.cell? ⟨b, 3, none⟩ = some (.int .u64 (w3 n : Int))
theorem meet_two {Wb X : World} {b c x y : Nat} (hb : Below Wb.heap.size Wb X) (h1 : LBox X b x) (h2 : LBox X c y) (g1 : Wb.heap.size ≤ b) (g2 : Wb.heap.size ≤ c) :
    ∃ (os : Array Obj) (d' b' c' : Nat), Value.pointer (some ⟨b, 0, none⟩) = .pointer (some ⟨b', 0, none⟩) ∧ Value.pointer (some ⟨c, 0, none⟩) = .pointer (some ⟨c', 0, none⟩) ∧ X = ext Wb os d' ∧ LBox X b' x ∧ LBox X c' y ∧ Wb.heap.size ≤ b' ∧ Wb.heap.size ≤ c' := by
  obtain ⟨os, d', he⟩ := ext_of_below hb
  exact ⟨os, d', b, c, rfl, rfl, he, h1, h2, g1, g2⟩
/-- a new block's cells hang on the new blocks alone -/
theorem ext_new {Wb : World} {os : Array Obj} {d b k : Nat} {v : Value} (hb : Wb.heap.size ≤ b) (h : (ext Wb os d).cell? ⟨b, k, none⟩ = some v) (N : Nat) (hN : Wb.heap.size = N) :
    ∀ (W' : World) (d' : Nat), W'.heap.size = N → (ext W' os d').cell? ⟨b, k, none⟩ = some v := by
  intro W' d' hs
  rw [← h]
  refine World.cell?_of_block ?_
  unfold ext
  simp only [Array.getElem?_append]
  rw [hs, ← hN]
  rw [if_neg (by omega), if_neg (by omega)]
/-- the other sign, where there is one -/
def flip (neg : Bool) (c : Nat) : Bool := !neg && !decide (c = 0)
theorem flip_form {neg : Bool} {c : Nat} {s : Int} (h : formB neg c s = true) : formB (flip neg c) c s = true := by
  unfold formB at h ⊢
  obtain ⟨h1, h2, h3, _, h5⟩ := of_decide_eq_true h
  refine decide_eq_true ⟨h1, h2, h3, fun _ hf h0 => ?_, h5⟩
  unfold flip at hf
  rw [decide_eq_true h0] at hf
  cases neg <;> cases hf
end Go.Proofs.YtpgfgaloagdogaaDoor
namespace Go.Proofs.YtpgfgaloagdogaaDoor
open Go.RowKit Word
attribute [local go_sem] setCell_drewN cell?_ext frozen?_ext shape?_ext setCell_ext lt_1' ne_1' en_1' le_1' lt_2' ne_2' en_2' le_2' lt_3' ne_3' en_3' le_3' lt_4' ne_4' en_4' le_4' lt_5' ne_5' en_5' le_5' lt_6' ne_6' en_6' le_6' lt_7' ne_7' en_7' le_7' lt_8' ne_8' en_8' le_8' lt_9' ne_9' en_9' le_9' lt_10' ne_10' en_10' le_10' lt_11' ne_11' en_11' le_11' lt_12' ne_12' en_12' le_12'

theorem dbad_D : (Value.agg #[.bool false, .int .u64 0, .int .u64 0, .int .i64 0]) = D false 0 0 := rfl
end Go.Proofs.YtpgfgaloagdogaaDoor
namespace Go.Proofs.YtpgfgaloagdogaaDoor
open Go.RowKit Word
attribute [local go_sem] setCell_drewN cell?_ext frozen?_ext shape?_ext setCell_ext lt_1' ne_1' en_1' le_1' lt_2' ne_2' en_2' le_2' lt_3' ne_3' en_3' le_3' lt_4' ne_4' en_4' le_4' lt_5' ne_5' en_5' le_5' lt_6' ne_6' en_6' le_6' lt_7' ne_7' en_7' le_7' lt_8' ne_8' en_8' le_8' lt_9' ne_9' en_9' le_9' lt_10' ne_10' en_10' le_10' lt_11' ne_11' en_11' le_11' lt_12' ne_12' en_12' le_12'

/-- the order of signed sizes, as the program tells it -/
def ordV (an : Bool) (x : Nat) (bn : Bool) (y : Nat) : Int := if an = bn then (if an = true then -cmpv x y else cmpv x y) else if an = true then -1 else 1
theorem cmpv_range (x y : Nat) : -1 ≤ cmpv x y ∧ cmpv x y ≤ 1 := by
  unfold cmpv
  split
  · omega
  · split <;> omega
theorem uni_small {c S : Nat} (hc : c < 10 ^ 34) : Fit.uni c S < top4 := by
  have := raised_lt (S := S) hc (show 18 ≤ 18 by omega)
  exact Nat.lt_trans this (by decide)
theorem known_fit : Fit.fit (Fit.sumN false (Fit.uni 1 1) false (Fit.uni 2 1)).2 (10 ^ 18) 19 = some (3, 1) := by
  have e : (Fit.sumN false (Fit.uni 1 1) false (Fit.uni 2 1)).2 = 3 * 10 ^ (18 - 1) := by decide
  rw [e, ← Fit.fit_uni 3 1 (by omega), Fit.fit_exact (by decide) (by omega)]
  rfl
end Go.Proofs.YtpgfgaloagdogaaDoor
