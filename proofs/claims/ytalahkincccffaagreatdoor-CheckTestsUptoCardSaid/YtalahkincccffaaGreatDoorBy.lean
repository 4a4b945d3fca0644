/-
  A node, and what it must be filled with: its text, its number, its day.
  suited: may an operation have these items as its parts?
-/
import Derived.Test.YtalahkincccffaaGreatDoorNodA
import Derived.Test.YtalahkincccffaaGreatDoorDecOne
import Derived.Test.YtalahkincccffaaGreatDoorNames
import Derived.Test.YtalahkincccffaaGreatDoorValid
import Derived.Test.YtalahkincccffaaGreatDoorOl
import Derived.Test.YtalahkincccffaaGreatDoorRl
import Derived.Maps.OwnSet
import Derived.Maps.OwnOps
import Derived.Maps.Views
import Derived.StringKeys
import Derived.BigRegion
namespace Go.Proofs.YtalahkincccffaaGreatDoor
open Go.RowKit Word Txt
attribute [local go_sem] setCell_drewN cell?_ext frozen?_ext shape?_ext setCell_ext lt_1' ne_1' en_1' le_1' lt_2' ne_2' en_2' le_2' lt_3' ne_3' en_3' le_3' lt_4' ne_4' en_4' le_4' lt_5' ne_5' en_5' le_5' lt_6' ne_6' en_6' le_6' lt_7' ne_7' en_7' le_7' lt_8' ne_8' en_8' le_8' lt_9' ne_9' en_9' le_9' lt_10' ne_10' en_10' le_10' lt_11' ne_11' en_11' le_11' lt_12' ne_12' en_12' le_12'

structure NdD where
  op : Int
  k : Int
  t : ByteArray
  neg : Bool
  c : Nat
  s : Int
  day : Int
def ndE (x : NdD) : List Value := [.int .i64 x.op, .int .i64 x.k, .string x.t, .bool x.neg, .int .u64 (hi x.c : Int), .int .u64 (lo x.c : Int), .int .i64 x.s, .int .i64 x.day]
abbrev NdV (x : NdD) : Value := NodV x.op x.k x.t x.neg (hi x.c : Int) (lo x.c : Int) x.s x.day
structure NdD.Wf (x : NdD) : Prop where
  t : x.t.size ≤ maxLen
  c : x.c < top2
  k : -9223372036854775808 ≤ x.k ∧ x.k < 9223372036854775808
theorem nd_cells {g o : Nat} {w : World} {l : List NdD} (h : ∀ j (h : j < l.length) i u, (ndE l[j])[i]? = some u → w.cell? ⟨g, o + j * 8 + i, none⟩ = some u) (j : Nat) (hj : j < l.length) : ∃ op k t neg c s day, l[j] = ⟨op, k, t, neg, c, s, day⟩ ∧
    w.cell? ⟨g, o + j * 8, none⟩ = some (.int .i64 op) ∧ w.cell? ⟨g, o + j * 8 + 1, none⟩ = some (.int .i64 k) ∧ w.cell? ⟨g, o + j * 8 + 2, none⟩ = some (.string t) ∧ w.cell? ⟨g, o + j * 8 + 3, none⟩ = some (.bool neg) ∧ w.cell? ⟨g, o + j * 8 + 4, none⟩ = some (.int .u64 (hi c : Int)) ∧
    w.cell? ⟨g, o + j * 8 + 5, none⟩ = some (.int .u64 (lo c : Int)) ∧ w.cell? ⟨g, o + j * 8 + 6, none⟩ = some (.int .i64 s) ∧ w.cell? ⟨g, o + j * 8 + 7, none⟩ = some (.int .i64 day) := by
  obtain ⟨op, k, t, neg, c, s, day, e⟩ : ∃ op k t neg c s day, l[j] = ⟨op, k, t, neg, c, s, day⟩ := ⟨_, _, _, _, _, _, _, rfl⟩
  have h2 := h j hj
  rw [e] at h2
  exact ⟨op, k, t, neg, c, s, day, e, h2 0 _ rfl, h2 1 _ rfl, h2 2 _ rfl, h2 3 _ rfl, h2 4 _ rfl, h2 5 _ rfl, h2 6 _ rfl, h2 7 _ rfl⟩
open Classical in
noncomputable def nmB (s : ByteArray) : Bool := decide (IsName s)
open Classical in
theorem nm_is (s : ByteArray) (w : World) : Calls Tryz.prog 29 #[.string s] w fun e w' => e = .returned (.bool (nmB s)) ∧ w' = w := by
  unfold nmB
  by_cases h : IsName s
  · rw [decide_eq_true h]; exact (name_yes s h w).mono fun _ _ ⟨a, b⟩ => ⟨a, b.symm⟩
  · rw [decide_eq_false h]; exact (name_no s h w).mono fun _ _ ⟨a, b⟩ => ⟨a, b.symm⟩
def spanB (t : ByteArray) : Bool := ([[91, 93], [91, 41], [40, 93], [40, 41]] : List (List UInt8)).contains t.data.toList
noncomputable def textB (op : Int) (t : ByteArray) : Bool := if op = 5 then decide (t.size ≤ 1000) && isText t else if op = 7 ∨ op = 24 ∨ op = 25 ∨ op = 28 then nmB t else if op = 35 then spanB t else decide (t.size = 0)
def numB (op : Int) (neg : Bool) (c : Nat) (s : Int) : Bool := if op = 4 then formB neg c s && !neg else decide (neg = false ∧ c = 0 ∧ s = 0)
def dayB (op day : Int) : Bool := if op = 6 then decide (1 ≤ day ∧ day ≤ 3652059) else decide (day = 0)
noncomputable def filledB (op : Int) (t : ByteArray) (neg : Bool) (c : Nat) (s day : Int) : Bool := textB op t && (numB op neg c s && dayB op day)
theorem span_split (s : ByteArray) : (spanB s = true ∧ (s = mkb [91, 93] ∨ s = mkb [91, 41] ∨ s = mkb [40, 93] ∨ s = mkb [40, 41])) ∨ (spanB s = false ∧ ∀ l ∈ ([[91, 93], [91, 41], [40, 93], [40, 41]] : List (List UInt8)), (s.data.toList == l) = false) := by
  cases h : spanB s with
  | true =>
    refine .inl ⟨rfl, ?_⟩
    unfold spanB at h
    have h2 := List.contains_iff_mem.1 h
    have key : ∀ l : List UInt8, s.data.toList = l → s = mkb l := fun l e => by cases s with | mk d => subst e; rfl
    simp only [List.mem_cons, List.mem_nil_iff, or_false] at h2
    rcases h2 with h2 | h2 | h2 | h2
    · exact .inl (key _ h2)
    · exact .inr (.inl (key _ h2))
    · exact .inr (.inr (.inl (key _ h2)))
    · exact .inr (.inr (.inr (key _ h2)))
  | false =>
    refine .inr ⟨rfl, fun l hl => ?_⟩
    unfold spanB at h
    by_cases e : s.data.toList = l
    · rw [e] at h
      rw [List.contains_iff_mem.2 hl] at h
      cases h
    · simpa using e
set_option maxRecDepth 100000 in
set_option maxHeartbeats 4000000 in
theorem ftext_any (op k : Int) (t : ByteArray) (neg : Bool) (h l s day : Int) (ht : t.size ≤ maxLen) (w : World) (hT : Tabs w) :
    Calls Tryz.prog 72 #[NodV op k t neg h l s day] w fun e w' => e = .returned (.bool (textB op t)) ∧ Below w.heap.size w w' := by
  by_cases c5 : op = 5
  · subst c5
    have HV := Lib.hid (fun w' (hb : Below w.heap.size w w') => valid_any t ht w' (hT.below hb))
    have hr : textB 5 t = (decide (t.size ≤ 1000) && isText t) := rfl
    rw [hr]
    generalize isText t = it at HV ⊢
    clear hr hT ht
    by_cases c1 : t.size ≤ 1000
    · rw [decide_eq_true c1]
      have c2 : (t.size : Int) ≤ 1000 := by omega
      go_enter Tryz.func72, Tryz.ntmps72
      go_wp2_with (first | (go_at_call 89; ((with_reducible refine (HV.out _ (by (repeat' (first | (with_reducible first | exact Below.refl _ _ | assumption | refine Below.alloc ?_ ?_ _ | refine below_drewN ?_ _ | refine below_drew ?_ | refine below_ext ?_ ?_ _ _ | refine Below.setCell ?_ ?_ _) | (simp; done) | (simp; omega) | omega)))).mono ?_); rintro e w1 ⟨rfl, hb1⟩; obtain ⟨os1, d1, rfl⟩ := ext_of_below hb1; clear hb1)))
      go_ret
      exact ⟨rfl, by (repeat' (first | (with_reducible first | exact Below.refl _ _ | assumption | refine Below.alloc ?_ ?_ _ | refine below_drewN ?_ _ | refine below_drew ?_ | refine below_ext ?_ ?_ _ _ | refine Below.setCell ?_ ?_ _) | (simp; done) | (simp; omega) | omega))⟩
    · rw [decide_eq_false c1]
      have c2 : ¬ (t.size : Int) ≤ 1000 := by omega
      go_enter Tryz.func72, Tryz.ntmps72
      go_wp2
      go_ret
      exact ⟨rfl, by (repeat' (first | (with_reducible first | exact Below.refl _ _ | assumption | refine Below.alloc ?_ ?_ _ | refine below_drewN ?_ _ | refine below_drew ?_ | refine below_ext ?_ ?_ _ _ | refine Below.setCell ?_ ?_ _) | (simp; done) | (simp; omega) | omega))⟩
  by_cases c7 : op = 7 ∨ op = 24 ∨ op = 25 ∨ op = 28
  · have hr : textB op t = nmB t := by unfold textB; rw [if_neg c5, if_pos c7]
    rw [hr]
    have HV := Lib.hid (fun w => nm_is t w)
    generalize nmB t = it at HV ⊢
    clear hr hT ht c5
    rcases c7 with rfl | rfl | rfl | rfl
    all_goals
      go_enter Tryz.func72, Tryz.ntmps72
      go_wp2_with (first | (go_at_call 29; ((with_reducible refine (HV.out _).mono ?_); rintro e w' ⟨rfl, rfl⟩)))
      go_ret
      exact ⟨rfl, by (repeat' (first | (with_reducible first | exact Below.refl _ _ | assumption | refine Below.alloc ?_ ?_ _ | refine below_drewN ?_ _ | refine below_drew ?_ | refine below_ext ?_ ?_ _ _ | refine Below.setCell ?_ ?_ _) | (simp; done) | (simp; omega) | omega))⟩
  have c7' := not_or.1 c7
  have c24' := not_or.1 c7'.2
  have c25' := not_or.1 c24'.2
  by_cases c35 : op = 35
  · subst c35
    have hr : textB 35 t = spanB t := rfl
    rw [hr]
    rcases span_split t with ⟨hw, hc⟩ | ⟨hw, hno⟩
    · rw [hw]
      clear hw hr hT ht c5 c7 c7' c24' c25'
      rcases hc with rfl | rfl | rfl | rfl
      all_goals
        go_enter Tryz.func72, Tryz.ntmps72
        go_wp2
        go_ret
        exact ⟨rfl, by (repeat' (first | (with_reducible first | exact Below.refl _ _ | assumption | refine Below.alloc ?_ ?_ _ | refine below_drewN ?_ _ | refine below_drew ?_ | refine below_ext ?_ ?_ _ _ | refine Below.setCell ?_ ?_ _) | (simp; done) | (simp; omega) | omega))⟩
    · rw [hw]
      have e0 : (t.toList == [91, 93]) = false := by rw [ByteArray.toList_eq]; exact hno _ (by simp)
      have e1 : (t.toList == [91, 41]) = false := by rw [ByteArray.toList_eq]; exact hno _ (by simp)
      have e2 : (t.toList == [40, 93]) = false := by rw [ByteArray.toList_eq]; exact hno _ (by simp)
      have e3 : (t.toList == [40, 41]) = false := by rw [ByteArray.toList_eq]; exact hno _ (by simp)
      clear hw hno hr hT ht c5 c7 c7' c24' c25'
      go_enter Tryz.func72, Tryz.ntmps72
      go_wp2
      go_ret
      exact ⟨rfl, by (repeat' (first | (with_reducible first | exact Below.refl _ _ | assumption | refine Below.alloc ?_ ?_ _ | refine below_drewN ?_ _ | refine below_drew ?_ | refine below_ext ?_ ?_ _ _ | refine Below.setCell ?_ ?_ _) | (simp; done) | (simp; omega) | omega))⟩
  have hr : textB op t = decide (t.size = 0) := by unfold textB; rw [if_neg c5, if_neg c7, if_neg c35]
  rw [hr]
  have q5 : (op == 5) = false := beq_eq_false_iff_ne.2 c5
  have q7 : (op == 7) = false := beq_eq_false_iff_ne.2 c7'.1
  have q24 : (op == 24) = false := beq_eq_false_iff_ne.2 c24'.1
  have q25 : (op == 25) = false := beq_eq_false_iff_ne.2 c25'.1
  have q28 : (op == 28) = false := beq_eq_false_iff_ne.2 c25'.2
  have q35 : (op == 35) = false := beq_eq_false_iff_ne.2 c35
  by_cases h0 : t.size = 0
  · rw [decide_eq_true h0]
    have ht0 := empty_of h0
    subst ht0
    clear hr hT ht c5 c7 c7' c24' c25' c35 h0
    go_enter Tryz.func72, Tryz.ntmps72
    go_wp2
    go_ret
    exact ⟨rfl, by (repeat' (first | (with_reducible first | exact Below.refl _ _ | assumption | refine Below.alloc ?_ ?_ _ | refine below_drewN ?_ _ | refine below_drew ?_ | refine below_ext ?_ ?_ _ _ | refine Below.setCell ?_ ?_ _) | (simp; done) | (simp; omega) | omega))⟩
  · rw [decide_eq_false h0]
    have he := not_empty (s := t) (by omega)
    clear hr hT ht c5 c7 c7' c24' c25' c35 h0
    go_enter Tryz.func72, Tryz.ntmps72
    go_wp2
    go_ret
    exact ⟨rfl, by (repeat' (first | (with_reducible first | exact Below.refl _ _ | assumption | refine Below.alloc ?_ ?_ _ | refine below_drewN ?_ _ | refine below_drew ?_ | refine below_ext ?_ ?_ _ _ | refine Below.setCell ?_ ?_ _) | (simp; done) | (simp; omega) | omega))⟩
theorem dzero_eq (neg : Bool) (a b s : Int) (w : World) : (Op.equalIn 10000 37 (.agg #[.bool neg, .int .u64 a, .int .u64 b, .int .i64 s]) (.agg #[.bool false, .int .u64 0, .int .u64 0, .int .i64 0])).run Tryz.prog w = .ok (decide (neg = false ∧ (a = 0 ∧ b = 0) ∧ s = 0)) w := by
  have u1 := Tryz.underlying4
  have a1 := Tryz.isAgg4
  have z1 := Tryz.sizeOf4
  have u2 := Tryz.underlying3
  have a2 := Tryz.isAgg3
  have z2 := Tryz.sizeOf3
  have a3 := Tryz.isAgg35
  have z3 := Tryz.sizeOf35
  have e := wide_eq a b 0 0
  have hS : Tryz.prog.underlying 37 = some (.struct (Tryz.prog.fieldsOf 37)) := by kernel_rfl
  have hp : Tryz.prog.stoodInHeld 37 = false := by kernel_rfl
  obtain ⟨r, hr⟩ : ∃ r, r = decide (neg = false ∧ (a = 0 ∧ b = 0) ∧ s = 0) := ⟨_, rfl⟩
  rw [← hr]
  obtain ⟨m, hm⟩ : ∃ m, m = (a == 0 && b == 0) := ⟨_, rfl⟩
  rw [← hm] at e
  have hm2 : decide (a = 0 ∧ b = 0) = m := by rw [hm]; simp [Bool.decide_and, beq_dec]
  have hr2 : r = (!neg && (m && decide (s = 0))) := by rw [hr, ← hm2]; cases neg <;> simp [Bool.decide_and]
  clear hr hm hm2
  rw [show (10000 : Nat) = 9999 + 1 from rfl, run_equalIn_agg w 9999 37 _ _ hS hp]
  simp only [Program.fieldsOf, Tryz.underlying37]
  by_cases hs : s = 0
  · subst hs
    cases neg <;> cases m <;> subst hr2 <;> go_simp
  · have hs2 : (s == 0) = false := beq_eq_false_iff_ne.2 hs
    rw [decide_eq_false hs] at hr2
    cases neg <;> cases m <;> subst hr2 <;> go_simp
theorem c_zero (c : Nat) : ((hi c : Int) = 0 ∧ (lo c : Int) = 0) ↔ c = 0 := by
  have := hilo c
  constructor
  · intro ⟨a, b⟩; omega
  · intro a; subst a; exact ⟨rfl, rfl⟩
set_option maxRecDepth 100000 in
set_option maxHeartbeats 4000000 in
theorem fnum_any (op k : Int) (t : ByteArray) (neg : Bool) (c : Nat) (s day : Int) (hc : c < top2) (w : World) (hT : Tens w) :
    Calls Tryz.prog 73 #[NodV op k t neg (hi c : Int) (lo c : Int) s day] w fun e w' => e = .returned (.bool (numB op neg c s)) ∧ Below w.heap.size w w' := by
  by_cases c4 : op = 4
  · subst c4
    have HF := Lib.hid (fun w' (hb : Below w.heap.size w w') => form_any neg c s hc w' (hT.below hb))
    have hr : numB 4 neg c s = (formB neg c s && !neg) := rfl
    rw [hr]
    generalize formB neg c s = fb at HF ⊢
    clear hr hT hc
    cases fb <;> cases neg
    all_goals
      go_enter Tryz.func73, Tryz.ntmps73
      go_wp2_with (first | (go_at_call 90; ((with_reducible refine (HF.out _ (by (repeat' (first | (with_reducible first | exact Below.refl _ _ | assumption | refine Below.alloc ?_ ?_ _ | refine below_drewN ?_ _ | refine below_drew ?_ | refine below_ext ?_ ?_ _ _ | refine Below.setCell ?_ ?_ _) | (simp; done) | (simp; omega) | omega)))).mono ?_); rintro e w1 ⟨rfl, hb1⟩; obtain ⟨os1, d1, rfl⟩ := ext_of_below hb1; clear hb1)))
      go_ret
      exact ⟨rfl, by (repeat' (first | (with_reducible first | exact Below.refl _ _ | assumption | refine Below.alloc ?_ ?_ _ | refine below_drewN ?_ _ | refine below_drew ?_ | refine below_ext ?_ ?_ _ _ | refine Below.setCell ?_ ?_ _) | (simp; done) | (simp; omega) | omega))⟩
  · have hr : numB op neg c s = decide (neg = false ∧ c = 0 ∧ s = 0) := by unfold numB; rw [if_neg c4]
    rw [hr]
    have q4 : (op == 4) = false := beq_eq_false_iff_ne.2 c4
    have hz := fun w => dzero_eq neg (hi c : Int) (lo c : Int) s w
    have hmg : Tryz.prog.eqGuardType Tryz.prog.depth 37 = false := by kernel_rfl
    rw [show decide (neg = false ∧ ((hi c : Int) = 0 ∧ (lo c : Int) = 0) ∧ s = 0) = decide (neg = false ∧ c = 0 ∧ s = 0) from decide_eq_decide.2 (by rw [c_zero])] at hz
    generalize decide (neg = false ∧ c = 0 ∧ s = 0) = r at hz ⊢
    generalize (hi c : Int) = a at hz ⊢
    generalize (lo c : Int) = b at hz ⊢
    clear hr hT hc c4
    go_enter Tryz.func73, Tryz.ntmps73
    go_wp2
    go_ret
    exact ⟨rfl, by (repeat' (first | (with_reducible first | exact Below.refl _ _ | assumption | refine Below.alloc ?_ ?_ _ | refine below_drewN ?_ _ | refine below_drew ?_ | refine below_ext ?_ ?_ _ _ | refine Below.setCell ?_ ?_ _) | (simp; done) | (simp; omega) | omega))⟩
set_option maxRecDepth 100000 in
theorem fday_any (op k : Int) (t : ByteArray) (neg : Bool) (h l s day : Int) (w : World) :
    Calls Tryz.prog 74 #[NodV op k t neg h l s day] w fun e w' => e = .returned (.bool (dayB op day)) ∧ Below w.heap.size w w' := by
  by_cases c6 : op = 6
  · subst c6
    have hr : dayB 6 day = decide (1 ≤ day ∧ day ≤ 3652059) := rfl
    rw [hr]
    by_cases h1 : 1 ≤ day
    · by_cases h2 : day ≤ 3652059
      · rw [decide_eq_true ⟨h1, h2⟩]
        go_enter Tryz.func74, Tryz.ntmps74
        go_wp2
        go_ret
        exact ⟨rfl, by (repeat' (first | (with_reducible first | exact Below.refl _ _ | assumption | refine Below.alloc ?_ ?_ _ | refine below_drewN ?_ _ | refine below_drew ?_ | refine below_ext ?_ ?_ _ _ | refine Below.setCell ?_ ?_ _) | (simp; done) | (simp; omega) | omega))⟩
      · rw [decide_eq_false fun e => h2 e.2]
        go_enter Tryz.func74, Tryz.ntmps74
        go_wp2
        go_ret
        exact ⟨rfl, by (repeat' (first | (with_reducible first | exact Below.refl _ _ | assumption | refine Below.alloc ?_ ?_ _ | refine below_drewN ?_ _ | refine below_drew ?_ | refine below_ext ?_ ?_ _ _ | refine Below.setCell ?_ ?_ _) | (simp; done) | (simp; omega) | omega))⟩
    · rw [decide_eq_false fun e => h1 e.1]
      go_enter Tryz.func74, Tryz.ntmps74
      go_wp2
      go_ret
      exact ⟨rfl, by (repeat' (first | (with_reducible first | exact Below.refl _ _ | assumption | refine Below.alloc ?_ ?_ _ | refine below_drewN ?_ _ | refine below_drew ?_ | refine below_ext ?_ ?_ _ _ | refine Below.setCell ?_ ?_ _) | (simp; done) | (simp; omega) | omega))⟩
  · have hr : dayB op day = decide (day = 0) := by unfold dayB; rw [if_neg c6]
    have q6 : (op == 6) = false := beq_eq_false_iff_ne.2 c6
    rw [hr]
    have q0 : (day == 0) = decide (day = 0) := beq_dec _ _
    generalize decide (day = 0) = r at q0 ⊢
    clear hr c6
    go_enter Tryz.func74, Tryz.ntmps74
    go_wp2
    go_ret
    exact ⟨rfl, by (repeat' (first | (with_reducible first | exact Below.refl _ _ | assumption | refine Below.alloc ?_ ?_ _ | refine below_drewN ?_ _ | refine below_drew ?_ | refine below_ext ?_ ?_ _ _ | refine Below.setCell ?_ ?_ _) | (simp; done) | (simp; omega) | omega))⟩
set_option maxRecDepth 100000 in
set_option maxHeartbeats 4000000 in
theorem filled_any (op k : Int) (t : ByteArray) (neg : Bool) (c : Nat) (s day : Int) (ht : t.size ≤ maxLen) (hc : c < top2) (w : World) (hT : Tens w) (hU : Tabs w) :
    Calls Tryz.prog 47 #[NodV op k t neg (hi c : Int) (lo c : Int) s day] w fun e w' => e = .returned (.bool (filledB op t neg c s day)) ∧ Below w.heap.size w w' := by
  have HX := Lib.hid (fun w' (hb : Below w.heap.size w w') => ftext_any op k t neg (hi c : Int) (lo c : Int) s day ht w' (hU.below hb))
  have HN := Lib.hid (fun w' (hb : Below w.heap.size w w') => fnum_any op k t neg c s day hc w' (hT.below hb))
  have HD := Lib.hid (fun w' => fday_any op k t neg (hi c : Int) (lo c : Int) s day w')
  have hr : filledB op t neg c s day = (textB op t && (numB op neg c s && dayB op day)) := rfl
  rw [hr]
  generalize textB op t = r1 at HX ⊢
  generalize numB op neg c s = r2 at HN ⊢
  generalize dayB op day = r3 at HD ⊢
  generalize (hi c : Int) = a at HX HN HD ⊢
  generalize (lo c : Int) = b at HX HN HD ⊢
  clear hr hT hU ht hc
  cases r1 <;> cases r2
  all_goals
    go_enter Tryz.func47, Tryz.ntmps47
    go_wp2_with (first
      | (go_at_call 72; ((with_reducible refine (HX.out _ (by (repeat' (first | (with_reducible first | exact Below.refl _ _ | assumption | refine Below.alloc ?_ ?_ _ | refine below_drewN ?_ _ | refine below_drew ?_ | refine below_ext ?_ ?_ _ _ | refine Below.setCell ?_ ?_ _) | (simp; done) | (simp; omega) | omega)))).mono ?_); rintro e w1 ⟨rfl, hb1⟩; obtain ⟨osA, dA, rfl⟩ := ext_of_below hb1; clear hb1))
      | (go_at_call 73; ((with_reducible refine (HN.out _ (by (repeat' (first | (with_reducible first | exact Below.refl _ _ | assumption | refine Below.alloc ?_ ?_ _ | refine below_drewN ?_ _ | refine below_drew ?_ | refine below_ext ?_ ?_ _ _ | refine Below.setCell ?_ ?_ _) | (simp; done) | (simp; omega) | omega)))).mono ?_); rintro e w1 ⟨rfl, hb1⟩; obtain ⟨osB, dB, rfl⟩ := ext_of_below hb1; clear hb1))
      | (go_at_call 74; ((with_reducible refine (HD.out _).mono ?_); rintro e w1 ⟨rfl, hb1⟩; obtain ⟨osC, dC, rfl⟩ := ext_of_below hb1; clear hb1)))
    go_ret
    exact ⟨rfl, by (repeat' (first | (with_reducible first | exact Below.refl _ _ | assumption | refine Below.alloc ?_ ?_ _ | refine below_drewN ?_ _ | refine below_drew ?_ | refine below_ext ?_ ?_ _ _ | refine Below.setCell ?_ ?_ _) | (simp; done) | (simp; omega) | omega))⟩
end Go.Proofs.YtalahkincccffaaGreatDoor
namespace Go.Proofs.YtalahkincccffaaGreatDoor
open Go.RowKit Go.Maps Go.WideMaps Word Txt
attribute [local go_sem] setCell_drewN cell?_ext frozen?_ext shape?_ext setCell_ext lt_1' ne_1' en_1' le_1' lt_2' ne_2' en_2' le_2' lt_3' ne_3' en_3' le_3' lt_4' ne_4' en_4' le_4' lt_5' ne_5' en_5' le_5' lt_6' ne_6' en_6' le_6' lt_7' ne_7' en_7' le_7' lt_8' ne_8' en_8' le_8' lt_9' ne_9' en_9' le_9' lt_10' ne_10' en_10' le_10' lt_11' ne_11' en_11' le_11' lt_12' ne_12' en_12' le_12'

def itmK : El := { T := 88, S := 85, size := 2, bytes := 16, zero := .agg #[.int .i64 0, .int .i64 0] }
theorem itmK_ok : itmK.Ok Tryz.prog := ⟨Tryz.underlying85, by kernel_rfl, by rfl, by decide, by decide, by decide⟩
def itmE (s : Nat × Nat) : List Value := [.int .i64 s.1, .int .i64 s.2]
theorem itmE_cells : Cells itmK itmE := fun s => ⟨rfl, fun u hu => by
  unfold itmE at hu
  simp at hu
  rcases hu with rfl | rfl <;> rfl⟩
theorem sKeyN : Keyed Tryz.prog 9 := string_keyed Tryz.underlying9
theorem zIntN (w : World) : (zeroValue 3).run Tryz.prog w = .ok (.int .i64 0) w := by kernel_rfl
theorem strKeyN (l : List UInt8) : WideAt.IsKeyLit (Lit.string l) := by first | trivial | exact ⟨_, rfl⟩ | simp [WideAt.IsKeyLit]
theorem dataN_inj {x y : ByteArray} (h : x.data.toList = y.data.toList) : x = y := by
  obtain ⟨⟨a⟩⟩ := x
  obtain ⟨⟨b⟩⟩ := y
  simp at h
  rw [h]
def CntM (w : World) (b k : Nat) (L : List ByteArray) : Prop := ∃ D : DataW Unit, w.ownsMap Tryz.prog 9 (plainElem Tryz.prog 3) b k D ∧ Tidy D ∧ (∀ x : ByteArray, Maps.has D (.string x.data.toList) = true ↔ x ∈ L) ∧
  (∀ x : ByteArray, ∃ z : Nat, z ≤ k ∧ D.atKey (.string x.data.toList) (.lit (.int .i64 0)) = .lit (.int .i64 (z : Int))) ∧ Maps.size D ≤ L.length ∧ (Maps.size D = L.length ↔ L.Nodup)
theorem CntM.new {w w' : World} {b k : Nat} {L : List ByteArray} (h : CntM w b k L) (hb : Below w.heap.size w w') : CntM w' b k L :=
  h.elim fun D h => ⟨D, h.1.kept (row := none) ⟨hb.os, hb.tape, hb.output, hb.size, fun k hk _ => hb.block k hk⟩ (by simp), h.2⟩
theorem keyN {x : ByteArray} (h : x.size ≤ maxLen) : keyOf Tryz.prog 9 (.string x) = some (.string x.data.toList) := keyOf_string_mk Tryz.underlying9 h
theorem cnt_made (w : World) : CntM (w.alloc (.map #[] 0)) w.heap.size 0 [] :=
  ⟨.map [], World.ownsMap_made _ _ _ _, tidy_empty, fun x => by simp [has_eq], fun x => ⟨0, Nat.le_refl _, rfl⟩, Nat.le_refl _, by simp [size_eq]⟩
theorem cnt_step {D : DataW Unit} {L : List ByteArray} {k : Nat} (hT : Tidy D) (hh : ∀ x : ByteArray, Maps.has D (.string x.data.toList) = true ↔ x ∈ L)
    (ha : ∀ x : ByteArray, ∃ z : Nat, z ≤ k ∧ D.atKey (.string x.data.toList) (.lit (.int .i64 0)) = .lit (.int .i64 (z : Int))) (hs : Maps.size D ≤ L.length) (hn : Maps.size D = L.length ↔ L.Nodup) (x : ByteArray) (z : Nat) (hz : z ≤ k + 1) :
    Tidy (D.put (.string x.data.toList) (.lit (.int .i64 (z : Int)))) ∧ (∀ y : ByteArray, Maps.has (D.put (.string x.data.toList) (.lit (.int .i64 (z : Int)))) (.string y.data.toList) = true ↔ y ∈ L ++ [x]) ∧
    (∀ y : ByteArray, ∃ u : Nat, u ≤ k + 1 ∧ (D.put (.string x.data.toList) (.lit (.int .i64 (z : Int)))).atKey (.string y.data.toList) (.lit (.int .i64 0)) = .lit (.int .i64 (u : Int))) ∧
    Maps.size (D.put (.string x.data.toList) (.lit (.int .i64 (z : Int)))) ≤ (L ++ [x]).length ∧ (Maps.size (D.put (.string x.data.toList) (.lit (.int .i64 (z : Int)))) = (L ++ [x]).length ↔ (L ++ [x]).Nodup) := by
  have hne : ∀ y : ByteArray, y ≠ x → (Lit.string y.data.toList) ≠ Lit.string x.data.toList := fun y e h => e (dataN_inj (by simpa using h))
  refine ⟨hT.put (strKeyN _) _, fun y => ?_, fun y => ?_, ?_⟩
  · by_cases e : y = x
    · subst e
      rw [has_put_same hT.isMap (strKeyN _)]; simp
    · rw [has_put_other (hne y e), hh y]; simp [e]
  · by_cases e : y = x
    · subst e
      exact ⟨z, hz, atKey_put_same hT.isMap (strKeyN _) _ _⟩
    · obtain ⟨u, hu, hat⟩ := ha y
      exact ⟨u, by omega, by rw [atKey_put_other (hne y e)]; exact hat⟩
  · have hsz := size_put (k := .string x.data.toList) hT (.lit (.int .i64 (z : Int)))
    rw [hsz]
    by_cases hin : x ∈ L
    · rw [if_pos ((hh x).2 hin), List.length_append, List.length_singleton]
      refine ⟨by omega, fun h => by omega, fun h => ?_⟩
      exact ((List.nodup_append.1 h).2.2 _ hin _ (by simp) rfl).elim
    · rw [if_neg fun h => hin ((hh x).1 h), List.length_append, List.length_singleton]
      refine ⟨by omega, fun h => ?_, fun h => ?_⟩
      · refine List.nodup_append.2 ⟨hn.1 (by omega), by simp, fun a ha b hb e => ?_⟩
        simp at hb
        subst hb e
        exact hin ha
      · have := hn.2 (List.nodup_append.1 h).1
        omega
section
variable (w : World) {ops : Array Oper} {rest : List Oper} {o : Oper} {a : Act} {Q : Exit → Act → World → Prop}
theorem lookw_cnt (hg : o.guard = none) (mo x : Operand) (hop : o.op = Op.lookup 102 mo x false) {b k : Nat} {L : List ByteArray} (hm : a.eval mo = .map (some b)) (hown : CntM w b k L) {t : ByteArray} (ht : t.size ≤ maxLen) (hx : a.eval x = .string t)
    (hK : ∀ z : Nat, z ≤ k → wpList Tryz.prog ops Q rest (a.put o.dst (.int .i64 (z : Int))) w) : wpList Tryz.prog ops Q (o :: rest) a w := by
  obtain ⟨D, hD, hT, hh, ha, hs, hn⟩ := hown
  obtain ⟨c, hrun, hc, hwc⟩ := hD.lookup_int (t := 102) sKeyN Tryz.underlying102 Tryz.underlying3 (zIntN w) (keyN ht)
  obtain ⟨z, hz, hat⟩ := ha t
  rw [hat] at hc
  have h3 : (z : Int) = c := (Lit.int.inj (DataW.lit.inj hc)).2
  subst h3
  refine wpList_plain hg fun K' hK' => ?_
  unfold Oper.wp
  simp [execOp, hop, hm, hx, hrun, Result.andThen]
  exact hK' _ _ (hK z hz)
theorem put_cnt (hg : o.guard = none) (mo x v : Operand) (hop : o.op = Op.mapUpdate 102 mo x v) {b k : Nat} {L : List ByteArray} (hm : a.eval mo = .map (some b)) (hown : CntM w b k L) (hn : k ≤ 1000000) {t : ByteArray} (ht : t.size ≤ maxLen) (hx : a.eval x = .string t) {z : Int} (u : Nat) (hz : z = (u : Int) + 1) (hu : u ≤ k) (hv : a.eval v = .int .i64 z)
    (hK : ∀ w', CntM w' b (k + 1) (L ++ [t]) → w.grownBy w' (some b) → wpList Tryz.prog ops Q rest (a.put o.dst undef) w') : wpList Tryz.prog ops Q (o :: rest) a w := by
  subst hz
  obtain ⟨D, hD, hT, hh, ha, hs, hnd⟩ := hown
  exact wpList_mapUpdate_in w hg mo x v _ hop 9 3 sKeyN Tryz.underlying102 _ b k D hm hD (by unfold maxLen; omega) _ _ _ hx hv (keyN ht) _ [] (plainElem_int Tryz.underlying3 (WalkArith.wf_i64 (by omega))) fun w' h1 h2 => hK w' ⟨_, h1, by
    have := cnt_step hT hh ha hs hnd t (u + 1) (by omega)
    rwa [Int.natCast_succ] at this⟩ h2.grown
theorem len_cnt (hw : Region.wanted o (yielded ops a.tmps) = true) (x : Operand) (hop : o.op = .call { callee := .builtin .len, args := #[x], argTypes := #[102] }) {b k : Nat} {L : List ByteArray} (hm : a.eval x = .map (some b)) (hown : CntM w b k L)
    (hK : ∀ sz : Nat, sz ≤ L.length → Hid (sz = L.length ↔ L.Nodup) → wpList Tryz.prog ops Q rest (a.put o.dst (.int .i64 (sz : Int))) w) : wpList Tryz.prog ops Q (o :: rest) a w := by
  obtain ⟨D, hD, hT, hh, ha, hs, hnd⟩ := hown
  refine wpList_step fun K' hK' => ?_
  rw [if_pos hw]
  unfold Oper.wp
  simp [execOp, hop, resolve, invoke, builtin, hm, hD.len Tryz.underlying102 o.type, Result.andThen]
  exact hK' _ _ (hK _ hs (Lib.hid hnd))
end
theorem run_mmN (w : World) : (Instr.makeMap 102 none).run Tryz.prog w = .ok (.map (some w.heap.size)) (w.alloc (.map #[] 0)) := by
  simp [Instr.makeMap, go_sem]
def opA (l : List NdD) (i : Nat) : Int := (l[i]?.map (·.op)).getD 0
def txA (l : List NdD) (i : Nat) : ByteArray := (l[i]?.map (·.t)).getD ⟨#[]⟩
def rolesB (l : List NdD) (op : Int) : Nat → List (Nat × Nat) → Bool
  | _, [] => true
  | j, p :: ps => decide (roleN (opA l p.1) = wantN op j) && rolesB l op (j + 1) ps
def nodupB (L : List ByteArray) : Bool := decide ((L.map fun x => x.data.toList).Nodup)
theorem nodup_iff (L : List ByteArray) : nodupB L = true ↔ L.Nodup := by
  unfold nodupB
  rw [decide_eq_true_iff]
  induction L with
  | nil => simp
  | cons x r ih =>
    rw [List.map_cons, List.nodup_cons, List.nodup_cons, ih]
    refine and_congr_left fun _ => not_congr ?_
    rw [List.mem_map]
    exact ⟨fun ⟨y, hy, e⟩ => dataN_inj e ▸ hy, fun h => ⟨x, h, rfl⟩⟩
def suitedB (l : List NdD) (op : Int) (ps : List (Nat × Nat)) : Bool := rolesB l op 0 ps && (decide (op ≠ 27) || nodupB (ps.map fun p => txA l p.1))
set_option maxRecDepth 100000 in
set_option maxHeartbeats 4000000 in
theorem suited_any (l : List NdD) (op : Int) (ps : List (Nat × Nat)) (n m : Nat) (w : World) (v pv : Value) (hv : RL 8 ndE n w v l) (hp : RL 2 itmE m w pv ps) (hn : n ≤ w.heap.size) (hm : m ≤ w.heap.size) (hps : ps.length ≤ 1000) (hin : ∀ p ∈ ps, p.1 < l.length) (hwf : ∀ x ∈ l, x.Wf) :
    Calls Tryz.prog 48 #[v, .int .i64 op, pv] w fun e w' => e = .returned (.bool (suitedB l op ps)) ∧ Below w.heap.size w w' := by
  have hmm := run_mmN
  have HE0 := Lib.hid (cnt_made w)
  have HB0 := Lib.hid ((Below.refl w.heap.size w).alloc (Nat.le_refl _) (.map #[] 0))
  obtain ⟨p, c, rfl, h2⟩ := hv
  obtain ⟨pp, pc, rfl, h3⟩ := hp
  have H2 := Lib.hid h2
  have H3 := Lib.hid h3
  have HI := Lib.hid hin
  have HWF := Lib.hid hwf
  obtain ⟨len, hlen⟩ : ∃ len, len = l.length := ⟨_, rfl⟩
  obtain ⟨kn, hkn⟩ : ∃ kn, kn = ps.length := ⟨_, rfl⟩
  have HL := Lib.hid hlen
  have HKN := Lib.hid hkn
  rw [← hlen]
  rw [← hkn] at hps ⊢
  have HR := Lib.hid role_any
  have HW := Lib.hid wanted_any
  obtain ⟨R, hR⟩ : ∃ R, R = rolesB l op 0 ps := ⟨_, rfl⟩
  obtain ⟨S, hS⟩ : ∃ S, S = suitedB l op ps := ⟨_, rfl⟩
  have HS := Lib.hid (show S = (R && (decide (op ≠ 27) || nodupB (ps.map fun p => txA l p.1))) by rw [hS, hR]; rfl)
  have HR0 := Lib.hid hR
  rw [← hS]
  clear h2 h3 hin hwf hlen hkn hR hS
  go_enter Tryz.func48, Tryz.ntmps48
  go_wp2
  go_loopw [14] (fun z wr => ∃ k : Nat, z = .int .i64 k ∧ k ≤ kn ∧ Hid (CntM wr w.heap.size k ((ps.take k).map fun p => txA l p.1)) ∧ Hid (Below w.heap.size w wr) ∧ w.heap.size < wr.heap.size ∧ Hid (rolesB l op k (ps.drop k) = R)) (fun z _ => kn - (intOf z).toNat)
  case atStart => exact ⟨0, rfl, Nat.zero_le _, HE0, HB0, by simp, Lib.hid HR0.out.symm⟩
  case round =>
    obtain ⟨k, rfl, hk, hem, hbe, hlt, hro⟩ := hrel
    clear HE0 HB0 hmm HR0
    have HEM := Lib.hid (fun w' (hb : Below wr.heap.size wr w') => hem.out.new hb)
    have HBE := Lib.hid hbe.out
    have hk6 : k ≤ 1000000 := by omega
    have hswr : w.heap.size ≤ wr.heap.size := by omega
    by_cases hkl : k < kn
    · have hki : (k : Int) < (kn : Int) := by omega
      have hk2 : k < ps.length := by rw [← HKN.out]; exact hkl
      obtain ⟨gd, od, rfl, hgd, hcd⟩ := H3.out (by omega)
      obtain ⟨a, d, had⟩ : ∃ a d, ps[k] = (a, d) := ⟨_, _, rfl⟩
      have ha2 : a < l.length := by have := HI.out _ (List.getElem_mem hk2); rw [had] at this; exact this
      have ha3 : a < len := by rw [HL.out]; exact ha2
      have ha4 : (a : Int) < (len : Int) := by omega
      have i0 : wr.cell? ⟨gd, od + k * 2, none⟩ = some (.int .i64 (a : Int)) := by
        rw [hbe.out.cell (p := ⟨gd, _, none⟩) (Nat.lt_of_lt_of_le hgd hm)]
        exact hcd k hk2 0 _ (by rw [had]; rfl)
      have i1 : wr.cell? ⟨gd, od + k * 2 + 1, none⟩ = some (.int .i64 (d : Int)) := by
        rw [hbe.out.cell (p := ⟨gd, _, none⟩) (Nat.lt_of_lt_of_le hgd hm)]
        exact hcd k hk2 1 _ (by rw [had]; rfl)
      obtain ⟨g, o, rfl, hg, hc⟩ := H2.out (by omega)
      have hc2 : ∀ j (h : j < l.length) i u, (ndE l[j])[i]? = some u → wr.cell? ⟨g, o + j * 8 + i, none⟩ = some u := fun j hj i u hu => by
        rw [hbe.out.cell (p := ⟨g, _, none⟩) (Nat.lt_of_lt_of_le hg hn)]; exact hc j hj i u hu
      have hgr : g < wr.heap.size := by omega
      have hgdr : gd < wr.heap.size := by omega
      obtain ⟨oa, ka, ta, na, ca, sa, da, he, x0, x1, x2, x3, x4, x5, x6, x7⟩ := nd_cells hc2 a ha2
      have hta : ta.size ≤ maxLen := by have := (HWF.out _ (List.getElem_mem ha2)).t; rw [he] at this; exact this
      have hoa : opA l a = oa := by unfold opA; rw [List.getElem?_eq_getElem ha2, he]; rfl
      have htx : txA l a = ta := by unfold txA; rw [List.getElem?_eq_getElem ha2, he]; rfl
      have hdr : ps.drop k = (a, d) :: ps.drop (k + 1) := by rw [List.drop_eq_getElem_cons hk2, had]
      have htk : ((ps.take (k + 1)).map fun p => txA l p.1) = ((ps.take k).map fun p => txA l p.1) ++ [ta] := by
        rw [List.take_add_one, List.getElem?_eq_getElem hk2, had]; simp [htx]
      have HTK := Lib.hid htk
      have HRO := Lib.hid (show R = (decide (roleN oa = wantN op k) && rolesB l op (k + 1) (ps.drop (k + 1))) by rw [← hro.out, hdr]; show (decide (roleN (opA l a) = wantN op k) && _) = _; rw [hoa])
      have HR1 := Lib.hid (fun w => HR.out oa w)
      have HW1 := Lib.hid (fun w => HW.out op k w)
      generalize roleN oa = ro at HR1 HRO
      generalize wantN op k = wo at HW1 HRO
      clear hc hc2 hcd he hoa htx hdr htk hro had hem hbe HR HW H2 H3 HI HWF ha2 hk2
      by_cases hrw : ro = wo
      · subst hrw
        have HRO2 := Lib.hid (show rolesB l op (k + 1) (ps.drop (k + 1)) = R by rw [HRO.out]; simp)
        go_wp2_with (first
          | (go_at_call 49; ((with_reducible refine (HR1.out _).mono ?_); rintro e w' ⟨rfl, rfl⟩))
          | (go_at_call 75; ((with_reducible refine (HW1.out _).mono ?_); rintro e w' ⟨rfl, rfl⟩))
          | (at_lookup; refine lookw_cnt _ rfl _ _ rfl rfl (HEM.out _ (by (repeat' (first | (with_reducible first | exact Below.refl _ _ | assumption | refine Below.alloc ?_ ?_ _ | refine below_drewN ?_ _ | refine below_drew ?_ | refine below_ext ?_ ?_ _ _ | refine Below.setCell ?_ ?_ _) | (simp; done) | (simp; omega) | omega)))) hta rfl ?_; intro cz hcz; have hcz6 : cz ≤ 1000000 := by omega)
          | (at_mapUpdate; refine put_cnt _ rfl _ _ _ rfl rfl (HEM.out _ (by (repeat' (first | (with_reducible first | exact Below.refl _ _ | assumption | refine Below.alloc ?_ ?_ _ | refine below_drewN ?_ _ | refine below_drew ?_ | refine below_ext ?_ ?_ _ _ | refine Below.setCell ?_ ?_ _) | (simp; done) | (simp; omega) | omega)))) hk6 hta rfl cz rfl hcz rfl ?_; intro w3 hm3 hg3; have HB3 := Lib.hid (((HBE.out.trans (by (repeat' (first | (with_reducible first | exact Below.refl _ _ | assumption | refine Below.alloc ?_ ?_ _ | refine below_drewN ?_ _ | refine below_drew ?_ | refine below_ext ?_ ?_ _ _ | refine Below.setCell ?_ ?_ _) | (simp; done) | (simp; omega) | omega)))).grown hg3 (by simp; omega) (fun j hj => by cases hj; exact Nat.le_refl _)))))
        have hs3 : w.heap.size < w3.heap.size := Nat.lt_of_lt_of_le hlt (Nat.le_trans (by simp; omega) hg3.size)
        have HM3 := Lib.hid (HTK.out.symm ▸ hm3)
        clear hg3 hm3
        go_roundw
        case rel => exact ⟨k + 1, by go_num, by omega, HM3, HB3, hs3, HRO2⟩
        case measure => simp [intOf]; omega
      · have hrw2 : (ro == wo) = false := beq_eq_false_iff_ne.2 hrw
        have hrw3 : (ro != wo) = true := by unfold bne; rw [hrw2]; rfl
        have HF := Lib.hid (show S = false by rw [HS.out, HRO.out, decide_eq_false hrw]; rfl)
        go_wp2_with (first
          | (go_at_call 49; ((with_reducible refine (HR1.out _).mono ?_); rintro e w' ⟨rfl, rfl⟩))
          | (go_at_call 75; ((with_reducible refine (HW1.out _).mono ?_); rintro e w' ⟨rfl, rfl⟩)))
        go_ret
        exact ⟨by rw [HF.out]; rfl, HBE.out.trans (by (repeat' (first | (with_reducible first | exact Below.refl _ _ | assumption | refine Below.alloc ?_ ?_ _ | refine below_drewN ?_ _ | refine below_drew ?_ | refine below_ext ?_ ?_ _ _ | refine Below.setCell ?_ ?_ _) | (simp; done) | (simp; omega) | omega)))⟩
    · obtain rfl : k = kn := by omega
      have hki : ¬ (k : Int) < k := by omega
      have hpk : ps.take k = ps := List.take_of_length_le (by rw [← HKN.out]; exact Nat.le_refl _)
      have hRt : R = true := by rw [← hro.out, List.drop_eq_nil_of_le (by rw [← HKN.out]; exact Nat.le_refl _)]; rfl
      have HS2 := Lib.hid (show S = (decide (op ≠ 27) || nodupB (ps.map fun p => txA l p.1)) by rw [HS.out, hRt]; rfl)
      have HEK := Lib.hid (show CntM wr w.heap.size k (ps.map fun p => txA l p.1) by have := hem.out; rwa [hpk] at this)
      have HLN := Lib.hid (show (ps.map fun p => txA l p.1).length = k by rw [List.length_map, HKN.out])
      clear hpk hRt hem hro hbe HEM
      by_cases h27 : op = 27
      · subst h27
        go_wp2_with (first
          | (at_len; refine len_cnt _ (by first | rfl | (simp [Region.wanted, yielded]; done) | (go_simp; done)) _ rfl rfl (HEK.out.new (by (repeat' (first | (with_reducible first | exact Below.refl _ _ | assumption | refine Below.alloc ?_ ?_ _ | refine below_drewN ?_ _ | refine below_drew ?_ | refine below_ext ?_ ?_ _ _ | refine Below.setCell ?_ ?_ _) | (simp; done) | (simp; omega) | omega)))) ?_; intro sz hsz hnd))
        go_ret
        refine ⟨?_, HBE.out.trans (by (repeat' (first | (with_reducible first | exact Below.refl _ _ | assumption | refine Below.alloc ?_ ?_ _ | refine below_drewN ?_ _ | refine below_drew ?_ | refine below_ext ?_ ?_ _ _ | refine Below.setCell ?_ ?_ _) | (simp; done) | (simp; omega) | omega)))⟩
        rw [HS2.out]
        have h1 := hnd.out
        rw [HLN.out, ← nodup_iff] at h1
        by_cases hz : sz = k
        · rw [h1.1 hz, hz]; simp
        · have h4 : nodupB (ps.map fun p => txA l p.1) = false := by
            cases h5 : nodupB (ps.map fun p => txA l p.1) with
            | false => rfl
            | true => exact absurd (h1.2 h5) hz
          rw [h4]
          simp
          omega
      · have n27 : (op != 27) = true := by unfold bne; rw [beq_eq_false_iff_ne.2 h27]; rfl
        have HF := Lib.hid (show S = true by rw [HS2.out, decide_eq_true h27]; rfl)
        go_wp2
        go_ret
        exact ⟨by rw [HF.out]; rfl, HBE.out.trans (by (repeat' (first | (with_reducible first | exact Below.refl _ _ | assumption | refine Below.alloc ?_ ?_ _ | refine below_drewN ?_ _ | refine below_drew ?_ | refine below_ext ?_ ?_ _ _ | refine Below.setCell ?_ ?_ _) | (simp; done) | (simp; omega) | omega)))⟩
end Go.Proofs.YtalahkincccffaaGreatDoor
