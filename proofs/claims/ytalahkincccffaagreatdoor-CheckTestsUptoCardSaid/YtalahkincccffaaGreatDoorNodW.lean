/-
  The document's Check, step by step: the fields of a node, twice, Check.
-/
import Derived.Test.YtalahkincccffaaGreatDoorNodV
namespace Go.Proofs.YtalahkincccffaaGreatDoor
open Go.RowKit Num Word Txt
attribute [local go_sem] setCell_drewN cell?_ext frozen?_ext shape?_ext setCell_ext lt_1' ne_1' en_1' le_1' lt_2' ne_2' en_2' le_2' lt_3' ne_3' en_3' le_3' lt_4' ne_4' en_4' le_4' lt_5' ne_5' en_5' le_5' lt_6' ne_6' en_6' le_6' lt_7' ne_7' en_7' le_7' lt_8' ne_8' en_8' le_8' lt_9' ne_9' en_9' le_9' lt_10' ne_10' en_10' le_10' lt_11' ne_11' en_11' le_11' lt_12' ne_12' en_12' le_12'

set_option maxRecDepth 100000 in
set_option maxHeartbeats 4000000 in
theorem rfields_any (op k : Int) (t : ByteArray) (neg : Bool) (c : Nat) (s day : Int) (ht : t.size ≤ 1048576) (hc : c < top2) (w : World) :
    Calls Tryz.prog 21 #[NodV op k t neg (hi c : Int) (lo c : Int) s day] w fun e w' => e = .returned (.bool (filledB op t neg c s day)) ∧ Below w.heap.size w w' := by
  have hmg : Tryz.prog.eqGuardType Tryz.prog.depth 37 = false := by kernel_rfl
  have hz0 : ∀ w, (Op.equalIn 10000 37 (.agg #[.bool false, .int .u64 0, .int .u64 0, .int .i64 0]) (.agg #[.bool false, .int .u64 0, .int .u64 0, .int .i64 0])).run Tryz.prog w = .ok true w := fun w => by
    have := dzero_eq false 0 0 0 w
    rwa [decide_eq_true ⟨rfl, ⟨rfl, rfl⟩, rfl⟩] at this
  have hz := fun w => dzero_eq neg (hi c : Int) (lo c : Int) s w
  rw [show decide (neg = false ∧ ((hi c : Int) = 0 ∧ (lo c : Int) = 0) ∧ s = 0) = decide (neg = false ∧ c = 0 ∧ s = 0) from decide_eq_decide.2 (by rw [c_zero])] at hz
  have hr : filledB op t neg c s day = (textB op t && (numB op neg c s && dayB op day)) := rfl
  have q0 : (day == 0) = decide (day = 0) := beq_dec _ _
  rw [hr]
  by_cases c4 : op = 4
  · subst c4
    have HF := Lib.hid (fun w' (hb : Below w.heap.size w w') => rform_any neg c s hc w')
    rw [show textB 4 t = decide (t.size = 0) from rfl, show numB 4 neg c s = (formB neg c s && !neg) from rfl, show dayB 4 day = decide (day = 0) from rfl]
    generalize formB neg c s = fb at HF ⊢
    generalize decide (day = 0) = rd at q0 ⊢
    clear hr hc hz
    cases fb <;> cases neg
    all_goals
      by_cases h0 : t.size = 0
      · rw [decide_eq_true h0]
        have ht0 := empty_of h0
        subst ht0
        clear h0 ht
        go_enter Tryz.func21, Tryz.ntmps21
        go_upto_region 1 with fail
        go_region
        go_wp2_with (first
          | fail
          | (go_at_call 38; ((with_reducible refine (HF.out _ (by (repeat' (first | (with_reducible first | exact Below.refl _ _ | assumption | refine Below.alloc ?_ ?_ _ | refine below_drewN ?_ _ | refine below_drew ?_ | refine below_ext ?_ ?_ _ _ | refine Below.setCell ?_ ?_ _) | (simp; done) | (simp; omega) | omega)))).mono ?_); rintro e w1 ⟨rfl, hb1⟩; obtain ⟨os1, d1, rfl⟩ := ext_of_below hb1; clear hb1)))
        all_goals
          go_ret
          exact ⟨rfl, by (repeat' (first | (with_reducible first | exact Below.refl _ _ | assumption | refine Below.alloc ?_ ?_ _ | refine below_drewN ?_ _ | refine below_drew ?_ | refine below_ext ?_ ?_ _ _ | refine Below.setCell ?_ ?_ _) | (simp; done) | (simp; omega) | omega))⟩
      · rw [decide_eq_false h0]
        have he := not_empty (s := t) (by omega)
        clear h0 ht
        go_enter Tryz.func21, Tryz.ntmps21
        go_upto_region 1 with fail
        go_region
        go_wp2_with (first
          | fail
          | (go_at_call 38; ((with_reducible refine (HF.out _ (by (repeat' (first | (with_reducible first | exact Below.refl _ _ | assumption | refine Below.alloc ?_ ?_ _ | refine below_drewN ?_ _ | refine below_drew ?_ | refine below_ext ?_ ?_ _ _ | refine Below.setCell ?_ ?_ _) | (simp; done) | (simp; omega) | omega)))).mono ?_); rintro e w1 ⟨rfl, hb1⟩; obtain ⟨os1, d1, rfl⟩ := ext_of_below hb1; clear hb1)))
        all_goals
          go_ret
          exact ⟨rfl, by (repeat' (first | (with_reducible first | exact Below.refl _ _ | assumption | refine Below.alloc ?_ ?_ _ | refine below_drewN ?_ _ | refine below_drew ?_ | refine below_ext ?_ ?_ _ _ | refine Below.setCell ?_ ?_ _) | (simp; done) | (simp; omega) | omega))⟩
  have hn : numB op neg c s = decide (neg = false ∧ c = 0 ∧ s = 0) := by unfold numB; rw [if_neg c4]
  rw [hn]
  by_cases c5 : op = 5
  · subst c5
    have HV := Lib.hid (fun w => rvalid_any t ht w)
    rw [show textB 5 t = (decide (t.size ≤ 1000) && isText t) from rfl, show dayB 5 day = decide (day = 0) from rfl]
    generalize isText t = it at HV ⊢
    generalize decide (day = 0) = rd at q0 ⊢
    generalize decide (neg = false ∧ c = 0 ∧ s = 0) = rz at hz ⊢
    generalize (hi c : Int) = a at hz ⊢
    generalize (lo c : Int) = b at hz ⊢
    clear hr hc hn ht c4 hz0
    by_cases c1 : t.size ≤ 1000
    all_goals
      first
        | rw [decide_eq_true c1]
          have c2 : ¬ (t.size : Int) > 1000 := by omega
        | rw [decide_eq_false c1]
          have c2 : (t.size : Int) > 1000 := by omega
      cases it <;> cases rz
      all_goals
        go_enter Tryz.func21, Tryz.ntmps21
        go_upto_region 1 with fail
        go_region
        go_wp2_with (first
          | fail
          | (go_at_call 39; ((with_reducible refine (HV.out _).mono ?_); rintro e w1 ⟨rfl, hb1⟩; obtain ⟨os1, d1, rfl⟩ := ext_of_below hb1; clear hb1)))
        all_goals
          go_ret
          exact ⟨rfl, by (repeat' (first | (with_reducible first | exact Below.refl _ _ | assumption | refine Below.alloc ?_ ?_ _ | refine below_drewN ?_ _ | refine below_drew ?_ | refine below_ext ?_ ?_ _ _ | refine Below.setCell ?_ ?_ _) | (simp; done) | (simp; omega) | omega))⟩
  by_cases c6 : op = 6
  · subst c6
    have HV := Lib.hid (fun w => ris_any day w)
    rw [show textB 6 t = decide (t.size = 0) from rfl, show dayB 6 day = decide (1 ≤ day ∧ day ≤ 3652059) from rfl]
    generalize decide (1 ≤ day ∧ day ≤ 3652059) = rd at HV ⊢
    generalize decide (neg = false ∧ c = 0 ∧ s = 0) = rz at hz ⊢
    generalize (hi c : Int) = a at hz ⊢
    generalize (lo c : Int) = b at hz ⊢
    clear hr hc hn c4 c5 hz0 q0
    by_cases h0 : t.size = 0
    · rw [decide_eq_true h0]
      have ht0 := empty_of h0
      subst ht0
      clear h0 ht
      cases rd <;> cases rz
      all_goals
        go_enter Tryz.func21, Tryz.ntmps21
        go_upto_region 1 with fail
        go_region
        go_wp2_with (first
          | fail
          | (go_at_call 40; ((with_reducible refine (HV.out _).mono ?_); rintro e w' ⟨rfl, rfl⟩)))
        all_goals
          go_ret
          exact ⟨rfl, by (repeat' (first | (with_reducible first | exact Below.refl _ _ | assumption | refine Below.alloc ?_ ?_ _ | refine below_drewN ?_ _ | refine below_drew ?_ | refine below_ext ?_ ?_ _ _ | refine Below.setCell ?_ ?_ _) | (simp; done) | (simp; omega) | omega))⟩
    · rw [decide_eq_false h0]
      have he := not_empty (s := t) (by omega)
      clear h0 ht
      cases rd <;> cases rz
      all_goals
        go_enter Tryz.func21, Tryz.ntmps21
        go_upto_region 1 with fail
        go_region
        go_wp2_with (first
          | fail
          | (go_at_call 40; ((with_reducible refine (HV.out _).mono ?_); rintro e w' ⟨rfl, rfl⟩)))
        all_goals
          go_ret
          exact ⟨rfl, by (repeat' (first | (with_reducible first | exact Below.refl _ _ | assumption | refine Below.alloc ?_ ?_ _ | refine below_drewN ?_ _ | refine below_drew ?_ | refine below_ext ?_ ?_ _ _ | refine Below.setCell ?_ ?_ _) | (simp; done) | (simp; omega) | omega))⟩
  have hd : dayB op day = decide (day = 0) := by unfold dayB; rw [if_neg c6]
  rw [hd]
  generalize decide (day = 0) = rd at q0 ⊢
  generalize decide (neg = false ∧ c = 0 ∧ s = 0) = rz at hz ⊢
  generalize (hi c : Int) = a at hz ⊢
  generalize (lo c : Int) = b at hz ⊢
  by_cases c7 : op = 7 ∨ op = 24 ∨ op = 25 ∨ op = 28
  · rw [show textB op t = nmB t by unfold textB; rw [if_neg c5, if_pos c7]]
    have HV := Lib.hid (fun w => rnm_is t w)
    generalize nmB t = it at HV ⊢
    clear hr hc hn hd ht c4 c5 c6 hz0
    rcases c7 with rfl | rfl | rfl | rfl
    all_goals
      cases it <;> cases rz
      all_goals
        go_enter Tryz.func21, Tryz.ntmps21
        go_upto_region 1 with fail
        go_region
        go_wp2_with (first
          | fail
          | (go_at_call 25; ((with_reducible refine (HV.out _).mono ?_); rintro e w' ⟨rfl, rfl⟩)))
        all_goals
          go_ret
          exact ⟨rfl, by (repeat' (first | (with_reducible first | exact Below.refl _ _ | assumption | refine Below.alloc ?_ ?_ _ | refine below_drewN ?_ _ | refine below_drew ?_ | refine below_ext ?_ ?_ _ _ | refine Below.setCell ?_ ?_ _) | (simp; done) | (simp; omega) | omega))⟩
  have c7' := not_or.1 c7
  have c24' := not_or.1 c7'.2
  have c25' := not_or.1 c24'.2
  by_cases c35 : op = 35
  · subst c35
    rw [show textB 35 t = spanB t from rfl]
    rcases span_split t with ⟨hw, hc⟩ | ⟨hw, hno⟩
    · rw [hw]
      clear hw hr hn hd ht c4 c5 c6 c7 c7' c24' c25' hz0
      rcases hc with rfl | rfl | rfl | rfl
      all_goals
        cases rz
        all_goals
          go_enter Tryz.func21, Tryz.ntmps21
          go_upto_region 1 with fail
          go_region
          go_wp2_with (first
            | fail)
          all_goals
            go_ret
            exact ⟨rfl, by (repeat' (first | (with_reducible first | exact Below.refl _ _ | assumption | refine Below.alloc ?_ ?_ _ | refine below_drewN ?_ _ | refine below_drew ?_ | refine below_ext ?_ ?_ _ _ | refine Below.setCell ?_ ?_ _) | (simp; done) | (simp; omega) | omega))⟩
    · rw [hw]
      have e0 : (t.toList == [91, 93]) = false := by rw [ByteArray.toList_eq]; exact hno _ (by simp)
      have e1 : (t.toList == [91, 41]) = false := by rw [ByteArray.toList_eq]; exact hno _ (by simp)
      have e2 : (t.toList == [40, 93]) = false := by rw [ByteArray.toList_eq]; exact hno _ (by simp)
      have e3 : (t.toList == [40, 41]) = false := by rw [ByteArray.toList_eq]; exact hno _ (by simp)
      clear hw hno hr hn hd ht hc c4 c5 c6 c7 c7' c24' c25' hz0
      go_enter Tryz.func21, Tryz.ntmps21
      go_upto_region 1 with fail
      go_region
      go_wp2_with (first
        | fail)
      all_goals
        go_ret
        exact ⟨rfl, by (repeat' (first | (with_reducible first | exact Below.refl _ _ | assumption | refine Below.alloc ?_ ?_ _ | refine below_drewN ?_ _ | refine below_drew ?_ | refine below_ext ?_ ?_ _ _ | refine Below.setCell ?_ ?_ _) | (simp; done) | (simp; omega) | omega))⟩
  rw [show textB op t = decide (t.size = 0) by unfold textB; rw [if_neg c5, if_neg c7, if_neg c35]]
  have q4 : (op == 4) = false := beq_eq_false_iff_ne.2 c4
  have q5 : (op == 5) = false := beq_eq_false_iff_ne.2 c5
  have q6 : (op == 6) = false := beq_eq_false_iff_ne.2 c6
  have q7 : (op == 7) = false := beq_eq_false_iff_ne.2 c7'.1
  have q24 : (op == 24) = false := beq_eq_false_iff_ne.2 c24'.1
  have q25 : (op == 25) = false := beq_eq_false_iff_ne.2 c25'.1
  have q28 : (op == 28) = false := beq_eq_false_iff_ne.2 c25'.2
  have q35 : (op == 35) = false := beq_eq_false_iff_ne.2 c35
  by_cases h0 : t.size = 0
  · rw [decide_eq_true h0]
    have ht0 := empty_of h0
    subst ht0
    clear hr hn hd hc ht c4 c5 c6 c7 c7' c24' c25' c35 h0 hz0
    cases rz
    all_goals
      go_enter Tryz.func21, Tryz.ntmps21
      go_upto_region 1 with fail
      go_region
      go_wp2_with (first
        | fail)
      all_goals
        go_ret
        exact ⟨rfl, by (repeat' (first | (with_reducible first | exact Below.refl _ _ | assumption | refine Below.alloc ?_ ?_ _ | refine below_drewN ?_ _ | refine below_drew ?_ | refine below_ext ?_ ?_ _ _ | refine Below.setCell ?_ ?_ _) | (simp; done) | (simp; omega) | omega))⟩
  · rw [decide_eq_false h0]
    have he := not_empty (s := t) (by omega)
    clear hr hn hd hc ht c4 c5 c6 c7 c7' c24' c25' c35 h0 hz0
    go_enter Tryz.func21, Tryz.ntmps21
    go_upto_region 1 with fail
    go_region
    go_wp2_with (first
      | fail)
    all_goals
      go_ret
      exact ⟨rfl, by (repeat' (first | (with_reducible first | exact Below.refl _ _ | assumption | refine Below.alloc ?_ ?_ _ | refine below_drewN ?_ _ | refine below_drew ?_ | refine below_ext ?_ ?_ _ _ | refine Below.setCell ?_ ?_ _) | (simp; done) | (simp; omega) | omega))⟩
end Go.Proofs.YtalahkincccffaaGreatDoor
