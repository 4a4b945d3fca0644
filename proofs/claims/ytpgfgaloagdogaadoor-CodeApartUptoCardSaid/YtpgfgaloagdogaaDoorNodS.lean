/-
  Check: are they an expression, or unary tests?
-/
import Derived.Test.YtpgfgaloagdogaaDoorNodR
namespace Go.Proofs.YtpgfgaloagdogaaDoor
open Go.RowKit Go.Maps Go.WideMaps Word Txt
attribute [local go_sem] setCell_drewN cell?_ext frozen?_ext shape?_ext setCell_ext lt_1' ne_1' en_1' le_1' lt_2' ne_2' en_2' le_2' lt_3' ne_3' en_3' le_3' lt_4' ne_4' en_4' le_4' lt_5' ne_5' en_5' le_5' lt_6' ne_6' en_6' le_6' lt_7' ne_7' en_7' le_7' lt_8' ne_8' en_8' le_8' lt_9' ne_9' en_9' le_9' lt_10' ne_10' en_10' le_10' lt_11' ne_11' en_11' le_11' lt_12' ne_12' en_12' le_12'

/-- may a node be the last one? -/
def wholeB (op : Int) (tests : Bool) : Bool := if roleN op = 0 then !tests else if roleN op = 3 ∨ roleN op = 4 then tests else false
theorem role_le (op : Int) : roleN op = 0 ∨ roleN op = 1 ∨ roleN op = 2 ∨ roleN op = 3 ∨ roleN op = 4 := by
  unfold roleN
  split
  · simp
  split
  · simp
  split
  · simp
  split <;> simp
theorem whole_any (op : Int) (tests : Bool) (w : World) : Calls Tryd.prog 33 #[.int .i64 op, .bool tests] w fun e w' => e = .returned (.bool (wholeB op tests)) ∧ w' = w := by
  have HR := Lib.hid (fun w => role_any op w)
  have hb : wholeB op tests = if roleN op = 0 then !tests else if roleN op = 3 ∨ roleN op = 4 then tests else false := rfl
  rw [hb]
  have hl := role_le op
  generalize roleN op = r at HR hl ⊢
  clear hb
  rcases hl with rfl | rfl | rfl | rfl | rfl
  all_goals
    go_enter Tryd.func33, Tryd.ntmps33
    go_wp2_with (first
      | (go_at_call 50; ((with_reducible refine (HR.out _).mono ?_); rintro e w' ⟨rfl, rfl⟩)))
    go_ret
    exact ⟨by simp, rfl⟩
/-- what Check answers -/
noncomputable def chkE (l : List NdD) (tests : Bool) : Int :=
  if 300 < l.length then 6 else if measO (measM l 0 l [] 0) = true ∧ wholeB (opA l (l.length - 1)) tests = true then (if 40 < measD (measM l 0 l [] 0) then 7 else 0) else 2
theorem meas_ne {l : List NdD} (h : measO (measM l 0 l [] 0) = true) : 0 < l.length := by
  cases l with
  | nil => exact absurd h (by simp [measM, measO])
  | cons _ _ => simp
set_option maxRecDepth 100000 in
theorem check_any (l : List NdD) (tests : Bool) (n : Nat) (w : World) (v : Value) (hv : RL 8 ndE n w v l) (hn : n ≤ w.heap.size) (hwf : ∀ x ∈ l, x.Wf) (hT : Tens w) (hU : Tabs w) :
    Calls Tryd.prog 19 #[v, .bool tests] w fun e w' => e = .returned (.int .i64 (chkE l tests)) ∧ Below w.heap.size w w' := by
  obtain ⟨R, hR⟩ : ∃ R, R = measM l 0 l [] 0 := ⟨_, rfl⟩
  have HM := Lib.hid (fun (hl : l.length ≤ 300) w' (hb : Below w.heap.size w w') => measure_any l n w' v (hv.keep (hb.mono hn)) (Nat.le_trans hn hb.size) (by omega) hwf (hT.below hb) (hU.below hb))
  have hC : chkE l tests = if 300 < l.length then 6 else if measO R = true ∧ wholeB (opA l (l.length - 1)) tests = true then (if 40 < measD R then 7 else 0) else 2 := by rw [hR]; rfl
  have hne : measO R = true → 0 < l.length := by rw [hR]; exact meas_ne
  rw [← hR] at HM
  rw [hC]
  clear hC hR
  have HW := Lib.hid (fun w => whole_any (opA l (l.length - 1)) tests w)
  obtain ⟨wh, hwh⟩ : ∃ wh, wh = wholeB (opA l (l.length - 1)) tests := ⟨_, rfl⟩
  rw [← hwh] at HW ⊢
  clear hwh
  obtain ⟨p, c, rfl, h2⟩ := hv
  have H2 := Lib.hid h2
  obtain ⟨len, hlen⟩ : ∃ len, len = l.length := ⟨_, rfl⟩
  have HL := Lib.hid hlen
  rw [← hlen] at HM HW hne ⊢
  clear h2 hlen hwf hT hU
  by_cases h300 : 300 < len
  · rw [if_pos h300]
    have h3 : (300 : Int) < (len : Int) := by omega
    go_enter Tryd.func19, Tryd.ntmps19
    go_wp2
    go_ret
    exact ⟨rfl, by (repeat' (first | (with_reducible exact Below.refl _ _) | (with_reducible assumption) | (with_reducible refine Below.alloc ?_ ?_ _) | (with_reducible refine below_drewN ?_ _) | (with_reducible refine below_drew ?_) | (with_reducible refine below_ext ?_ ?_ _ _) | (with_reducible refine Below.setCell ?_ ?_ _) | (simp; done) | (simp; omega) | omega))⟩
  rw [if_neg h300]
  have h3 : ¬ (300 : Int) < (len : Int) := by omega
  have HM2 := Lib.hid (HM.out (by omega))
  have hd0 : 0 ≤ measD R := by unfold measD; omega
  generalize measD R = d at HM2 hd0 ⊢
  generalize measO R = ok at HM2 hne ⊢
  clear HM
  cases ok with
  | false =>
    rw [if_neg (by simp)]
    go_enter Tryd.func19, Tryd.ntmps19
    go_wp2_with (first
      | (go_at_call 32; ((with_reducible refine (HM2.out _ (by (repeat' (first | (with_reducible exact Below.refl _ _) | (with_reducible assumption) | (with_reducible refine Below.alloc ?_ ?_ _) | (with_reducible refine below_drewN ?_ _) | (with_reducible refine below_drew ?_) | (with_reducible refine below_ext ?_ ?_ _ _) | (with_reducible refine Below.setCell ?_ ?_ _) | (simp; done) | (simp; omega) | omega)))).mono ?_); rintro e w1 ⟨rfl, hb1⟩; obtain ⟨osA, dA, rfl⟩ := ext_of_below hb1; clear hb1)))
    go_ret
    exact ⟨rfl, by (repeat' (first | (with_reducible exact Below.refl _ _) | (with_reducible assumption) | (with_reducible refine Below.alloc ?_ ?_ _) | (with_reducible refine below_drewN ?_ _) | (with_reducible refine below_drew ?_) | (with_reducible refine below_ext ?_ ?_ _ _) | (with_reducible refine Below.setCell ?_ ?_ _) | (simp; done) | (simp; omega) | omega))⟩
  | true =>
    have h0 := hne rfl
    obtain ⟨g, o, rfl, hg, hc⟩ := H2.out (by rw [← HL.out]; exact h0)
    obtain ⟨m, rfl⟩ : ∃ m, len = m + 1 := ⟨len - 1, by omega⟩
    have hm2 : m < l.length := by rw [← HL.out]; omega
    obtain ⟨oa, ka, ta, na, ca, sa, da, he, x0, -⟩ := nd_cells hc m hm2
    have hoa : opA l (m + 1 - 1) = oa := by unfold opA; rw [Nat.add_sub_cancel, List.getElem?_eq_getElem hm2, he]; rfl
    have HW2 := Lib.hid (show ∀ w, Calls Tryd.prog 33 #[.int .i64 oa, .bool tests] w fun e w' => e = .returned (.bool wh) ∧ w' = w from fun w => by rw [← hoa]; exact HW.out w)
    have hgw : g < w.heap.size := Nat.lt_of_lt_of_le hg hn
    have E1 : ((m + 1 : Nat) : Int) - 1 = (m : Int) := by omega
    have h5 : (m : Int) < ((m + 1 : Nat) : Int) := by omega
    clear hne hc he hoa HW HL hm2 H2
    cases wh with
    | false =>
      rw [if_neg (by simp)]
      go_enter Tryd.func19, Tryd.ntmps19
      go_wp2_with (first
        | (go_at_call 32; ((with_reducible refine (HM2.out _ (by (repeat' (first | (with_reducible exact Below.refl _ _) | (with_reducible assumption) | (with_reducible refine Below.alloc ?_ ?_ _) | (with_reducible refine below_drewN ?_ _) | (with_reducible refine below_drew ?_) | (with_reducible refine below_ext ?_ ?_ _ _) | (with_reducible refine Below.setCell ?_ ?_ _) | (simp; done) | (simp; omega) | omega)))).mono ?_); rintro e w1 ⟨rfl, hb1⟩; obtain ⟨osA, dA, rfl⟩ := ext_of_below hb1; clear hb1))
        | (go_at_call 33; ((with_reducible refine (HW2.out _).mono ?_); rintro e w' ⟨rfl, rfl⟩)))
      go_ret
      exact ⟨rfl, by (repeat' (first | (with_reducible exact Below.refl _ _) | (with_reducible assumption) | (with_reducible refine Below.alloc ?_ ?_ _) | (with_reducible refine below_drewN ?_ _) | (with_reducible refine below_drew ?_) | (with_reducible refine below_ext ?_ ?_ _ _) | (with_reducible refine Below.setCell ?_ ?_ _) | (simp; done) | (simp; omega) | omega))⟩
    | true =>
      rw [if_pos ⟨rfl, rfl⟩]
      by_cases h40 : 40 < d
      · rw [if_pos h40]
        go_enter Tryd.func19, Tryd.ntmps19
        go_wp2_with (first
          | (go_at_call 32; ((with_reducible refine (HM2.out _ (by (repeat' (first | (with_reducible exact Below.refl _ _) | (with_reducible assumption) | (with_reducible refine Below.alloc ?_ ?_ _) | (with_reducible refine below_drewN ?_ _) | (with_reducible refine below_drew ?_) | (with_reducible refine below_ext ?_ ?_ _ _) | (with_reducible refine Below.setCell ?_ ?_ _) | (simp; done) | (simp; omega) | omega)))).mono ?_); rintro e w1 ⟨rfl, hb1⟩; obtain ⟨osA, dA, rfl⟩ := ext_of_below hb1; clear hb1))
          | (go_at_call 33; ((with_reducible refine (HW2.out _).mono ?_); rintro e w' ⟨rfl, rfl⟩)))
        go_ret
        exact ⟨rfl, by (repeat' (first | (with_reducible exact Below.refl _ _) | (with_reducible assumption) | (with_reducible refine Below.alloc ?_ ?_ _) | (with_reducible refine below_drewN ?_ _) | (with_reducible refine below_drew ?_) | (with_reducible refine below_ext ?_ ?_ _ _) | (with_reducible refine Below.setCell ?_ ?_ _) | (simp; done) | (simp; omega) | omega))⟩
      · rw [if_neg h40]
        go_enter Tryd.func19, Tryd.ntmps19
        go_wp2_with (first
          | (go_at_call 32; ((with_reducible refine (HM2.out _ (by (repeat' (first | (with_reducible exact Below.refl _ _) | (with_reducible assumption) | (with_reducible refine Below.alloc ?_ ?_ _) | (with_reducible refine below_drewN ?_ _) | (with_reducible refine below_drew ?_) | (with_reducible refine below_ext ?_ ?_ _ _) | (with_reducible refine Below.setCell ?_ ?_ _) | (simp; done) | (simp; omega) | omega)))).mono ?_); rintro e w1 ⟨rfl, hb1⟩; obtain ⟨osA, dA, rfl⟩ := ext_of_below hb1; clear hb1))
          | (go_at_call 33; ((with_reducible refine (HW2.out _).mono ?_); rintro e w' ⟨rfl, rfl⟩)))
        go_ret
        exact ⟨rfl, by (repeat' (first | (with_reducible exact Below.refl _ _) | (with_reducible assumption) | (with_reducible refine Below.alloc ?_ ?_ _) | (with_reducible refine below_drewN ?_ _) | (with_reducible refine below_drew ?_) | (with_reducible refine below_ext ?_ ?_ _ _) | (with_reducible refine Below.setCell ?_ ?_ _) | (simp; done) | (simp; omega) | omega))⟩
end Go.Proofs.YtpgfgaloagdogaaDoor
