/-
  A node, and what it must be filled with: its text, its number, its day.
-/
import Derived.Test.YtpgfgaloagdogaaDoorNodA
import Derived.Test.YtpgfgaloagdogaaDoorDecOne
import Derived.Test.YtpgfgaloagdogaaDoorNames
import Derived.Test.YtpgfgaloagdogaaDoorValid
namespace Go.Proofs.YtpgfgaloagdogaaDoor
open Go.RowKit Word Txt
attribute [local go_sem] setCell_drewN cell?_ext frozen?_ext shape?_ext setCell_ext lt_1' ne_1' en_1' le_1' lt_2' ne_2' en_2' le_2' lt_3' ne_3' en_3' le_3' lt_4' ne_4' en_4' le_4' lt_5' ne_5' en_5' le_5' lt_6' ne_6' en_6' le_6' lt_7' ne_7' en_7' le_7' lt_8' ne_8' en_8' le_8' lt_9' ne_9' en_9' le_9' lt_10' ne_10' en_10' le_10' lt_11' ne_11' en_11' le_11' lt_12' ne_12' en_12' le_12'

/-- a node -/
structure NdD where
  op : Int
  k : Int
  t : ByteArray
  neg : Bool
  c : Nat
  s : Int
  day : Int
def ndE (x : NdD) : List Value := [.int .i64 x.op, .int .i64 x.k, .string x.t, .bool x.neg, .int .u64 (hi x.c : Int), .int .u64 (lo x.c : Int), .int .i64 x.s, .int .i64 x.day]
abbrev NdV (x : NdD) : Value := NodV x.op x.k x.t x.neg (hi x.c : Int) (lo x.c : Int) x.s x.day
/-- a node that a program may hold -/
structure NdD.Wf (x : NdD) : Prop where
  t : x.t.size ≤ maxLen
  c : x.c < top2
  k : -9223372036854775808 ≤ x.k ∧ x.k < 9223372036854775808
theorem nd_cells {g o : Nat} {w : World} {l : List NdD} (h : ∀ j (h : j < l.length) i u, (ndE l[j])[i]? = some u → w.cell? ⟨g, o + j * 8 + i, none⟩ = some u) (j : Nat) (hj : j < l.length) : ∃ op k t neg c s day, l[j] = ⟨op, k, t, neg, c, s, day⟩ ∧
    w.cell? ⟨g, o + j * 8, none⟩ = some (.int .i64 op) ∧ w.cell? ⟨g, o + j * 8 + 1, none⟩ = some (.int .i64 k) ∧ w.cell? ⟨g, o + j * 8 + 2, none⟩ = some (.string t) ∧ w.cell? ⟨g, o + j * 8 + 3, none⟩ = some (.bool neg) ∧ w.cell? ⟨g, o + j * 8 + 4, none⟩ = some (.int .u64 (hi c : Int)) ∧
    w.cell? ⟨g, o + j * 8 + 5, none⟩ = some (.int .u64 (lo c : Int)) ∧ w.cell? ⟨g, o + j * 8 + 6, none⟩ = some (.int .i64 s) ∧ w.cell? ⟨g, o + j * 8 + 7, none⟩ = some (.int .i64 day) := by
  obtain ⟨op, k, t, neg, c, s, day, e⟩ : ∃ op k t neg c s day, l[j] = ⟨op, k, t, neg, c, s, day⟩ := ⟨_, _, _, _, _, _, _, rfl⟩
  have h2 := h j hj
  rw [e] at h2
  exact ⟨op, k, t, neg, c, s, day, e, h2 0 _ rfl, h2 1 _ rfl, h2 2 _ rfl, h2 3 _ rfl, h2 4 _ rfl, h2 5 _ rfl, h2 6 _ rfl, h2 7 _ rfl⟩
open Classical in
/-- is it a name? -/
noncomputable def nmB (s : ByteArray) : Bool := decide (IsName s)
open Classical in
theorem nm_is (s : ByteArray) (w : World) : Calls Tryd.prog 72 #[.string s] w fun e w' => e = .returned (.bool (nmB s)) ∧ w' = w := by
  unfold nmB
  by_cases h : IsName s
  · rw [decide_eq_true h]; exact (name_yes s h w).mono fun _ _ ⟨a, b⟩ => ⟨a, b.symm⟩
  · rw [decide_eq_false h]; exact (name_no s h w).mono fun _ _ ⟨a, b⟩ => ⟨a, b.symm⟩
/-- how a span is written -/
def spanB (t : ByteArray) : Bool := ([[91, 93], [91, 41], [40, 93], [40, 41]] : List (List UInt8)).contains t.data.toList
/-- is its text allowed? -/
noncomputable def textB (op : Int) (t : ByteArray) : Bool := if op = 5 then decide (t.size ≤ 1000) && isText t else if op = 7 ∨ op = 24 ∨ op = 25 ∨ op = 28 then nmB t else if op = 35 then spanB t else decide (t.size = 0)
/-- .. its number? -/
def numB (op : Int) (neg : Bool) (c : Nat) (s : Int) : Bool := if op = 4 then formB neg c s && !neg else decide (neg = false ∧ c = 0 ∧ s = 0)
/-- .. its day? -/
def dayB (op day : Int) : Bool := if op = 6 then decide (1 ≤ day ∧ day ≤ 3652059) else decide (day = 0)
noncomputable def filledB (op : Int) (t : ByteArray) (neg : Bool) (c : Nat) (s day : Int) : Bool := textB op t && (numB op neg c s && dayB op day)
theorem span_split (s : ByteArray) : (spanB s = true ∧ (s = mkb [91, 93] ∨ s = mkb [91, 41] ∨ s = mkb [40, 93] ∨ s = mkb [40, 41])) ∨ (spanB s = false ∧ ∀ l ∈ ([[91, 93], [91, 41], [40, 93], [40, 41]] : List (List UInt8)), (s.data.toList == l) = false) := by
  cases h : spanB s with
  | true =>
    refine .inl ⟨rfl, ?_⟩
    unfold spanB at h
    have h2 := List.contains_iff_mem.1 h
    have key : ∀ l : List UInt8, s.data.toList = l → s = mkb l := fun l e => by cases s with | mk d => subst e; rfl
    simp only [List.mem_cons, List.mem_nil_iff, or_false] at h2
    rcases h2 with h2 | h2 | h2 | h2
    · exact .inl (key _ h2)
    · exact .inr (.inl (key _ h2))
    · exact .inr (.inr (.inl (key _ h2)))
    · exact .inr (.inr (.inr (key _ h2)))
  | false =>
    refine .inr ⟨rfl, fun l hl => ?_⟩
    unfold spanB at h
    by_cases e : s.data.toList = l
    · rw [e] at h
      rw [List.contains_iff_mem.2 hl] at h
      cases h
    · simpa using e
set_option maxRecDepth 100000 in
set_option maxHeartbeats 4000000 in
theorem ftext_any (op k : Int) (t : ByteArray) (neg : Bool) (h l s day : Int) (ht : t.size ≤ maxLen) (w : World) (hT : Tabs w) :
    Calls Tryd.prog 62 #[NodV op k t neg h l s day] w fun e w' => e = .returned (.bool (textB op t)) ∧ Below w.heap.size w w' := by
  by_cases c5 : op = 5
  · subst c5
    have HV := Lib.hid (fun w' (hb : Below w.heap.size w w') => valid_any t ht w' (hT.below hb))
    have hr : textB 5 t = (decide (t.size ≤ 1000) && isText t) := rfl
    rw [hr]
    generalize isText t = it at HV ⊢
    clear hr hT ht
    by_cases c1 : t.size ≤ 1000
    · rw [decide_eq_true c1]
      have c2 : (t.size : Int) ≤ 1000 := by omega
      go_enter Tryd.func62, Tryd.ntmps62
      go_wp2_with (first | (go_at_call 71; ((with_reducible refine (HV.out _ (by (repeat' (first | (with_reducible exact Below.refl _ _) | (with_reducible assumption) | (with_reducible refine Below.alloc ?_ ?_ _) | (with_reducible refine below_drewN ?_ _) | (with_reducible refine below_drew ?_) | (with_reducible refine below_ext ?_ ?_ _ _) | (with_reducible refine Below.setCell ?_ ?_ _) | (simp; done) | (simp; omega) | omega)))).mono ?_); rintro e w1 ⟨rfl, hb1⟩; obtain ⟨os1, d1, rfl⟩ := ext_of_below hb1; clear hb1)))
      go_ret
      exact ⟨rfl, by (repeat' (first | (with_reducible exact Below.refl _ _) | (with_reducible assumption) | (with_reducible refine Below.alloc ?_ ?_ _) | (with_reducible refine below_drewN ?_ _) | (with_reducible refine below_drew ?_) | (with_reducible refine below_ext ?_ ?_ _ _) | (with_reducible refine Below.setCell ?_ ?_ _) | (simp; done) | (simp; omega) | omega))⟩
    · rw [decide_eq_false c1]
      have c2 : ¬ (t.size : Int) ≤ 1000 := by omega
      go_enter Tryd.func62, Tryd.ntmps62
      go_wp2
      go_ret
      exact ⟨rfl, by (repeat' (first | (with_reducible exact Below.refl _ _) | (with_reducible assumption) | (with_reducible refine Below.alloc ?_ ?_ _) | (with_reducible refine below_drewN ?_ _) | (with_reducible refine below_drew ?_) | (with_reducible refine below_ext ?_ ?_ _ _) | (with_reducible refine Below.setCell ?_ ?_ _) | (simp; done) | (simp; omega) | omega))⟩
  by_cases c7 : op = 7 ∨ op = 24 ∨ op = 25 ∨ op = 28
  · have hr : textB op t = nmB t := by unfold textB; rw [if_neg c5, if_pos c7]
    rw [hr]
    have HV := Lib.hid (fun w => nm_is t w)
    generalize nmB t = it at HV ⊢
    clear hr hT ht c5
    rcases c7 with rfl | rfl | rfl | rfl
    all_goals
      go_enter Tryd.func62, Tryd.ntmps62
      go_wp2_with (first | (go_at_call 72; ((with_reducible refine (HV.out _).mono ?_); rintro e w' ⟨rfl, rfl⟩)))
      go_ret
      exact ⟨rfl, by (repeat' (first | (with_reducible exact Below.refl _ _) | (with_reducible assumption) | (with_reducible refine Below.alloc ?_ ?_ _) | (with_reducible refine below_drewN ?_ _) | (with_reducible refine below_drew ?_) | (with_reducible refine below_ext ?_ ?_ _ _) | (with_reducible refine Below.setCell ?_ ?_ _) | (simp; done) | (simp; omega) | omega))⟩
  have c7' := not_or.1 c7
  have c24' := not_or.1 c7'.2
  have c25' := not_or.1 c24'.2
  by_cases c35 : op = 35
  · subst c35
    have hr : textB 35 t = spanB t := rfl
    rw [hr]
    rcases span_split t with ⟨hw, hc⟩ | ⟨hw, hno⟩
    · rw [hw]
      clear hw hr hT ht c5 c7 c7' c24' c25'
      rcases hc with rfl | rfl | rfl | rfl
      all_goals
        go_enter Tryd.func62, Tryd.ntmps62
        go_wp2
        go_ret
        exact ⟨rfl, by (repeat' (first | (with_reducible exact Below.refl _ _) | (with_reducible assumption) | (with_reducible refine Below.alloc ?_ ?_ _) | (with_reducible refine below_drewN ?_ _) | (with_reducible refine below_drew ?_) | (with_reducible refine below_ext ?_ ?_ _ _) | (with_reducible refine Below.setCell ?_ ?_ _) | (simp; done) | (simp; omega) | omega))⟩
    · rw [hw]
      have e0 : (t.toList == [91, 93]) = false := by rw [ByteArray.toList_eq]; exact hno _ (by simp)
      have e1 : (t.toList == [91, 41]) = false := by rw [ByteArray.toList_eq]; exact hno _ (by simp)
      have e2 : (t.toList == [40, 93]) = false := by rw [ByteArray.toList_eq]; exact hno _ (by simp)
      have e3 : (t.toList == [40, 41]) = false := by rw [ByteArray.toList_eq]; exact hno _ (by simp)
      clear hw hno hr hT ht c5 c7 c7' c24' c25'
      go_enter Tryd.func62, Tryd.ntmps62
      go_wp2
      go_ret
      exact ⟨rfl, by (repeat' (first | (with_reducible exact Below.refl _ _) | (with_reducible assumption) | (with_reducible refine Below.alloc ?_ ?_ _) | (with_reducible refine below_drewN ?_ _) | (with_reducible refine below_drew ?_) | (with_reducible refine below_ext ?_ ?_ _ _) | (with_reducible refine Below.setCell ?_ ?_ _) | (simp; done) | (simp; omega) | omega))⟩
  have hr : textB op t = decide (t.size = 0) := by unfold textB; rw [if_neg c5, if_neg c7, if_neg c35]
  rw [hr]
  have q5 : (op == 5) = false := beq_eq_false_iff_ne.2 c5
  have q7 : (op == 7) = false := beq_eq_false_iff_ne.2 c7'.1
  have q24 : (op == 24) = false := beq_eq_false_iff_ne.2 c24'.1
  have q25 : (op == 25) = false := beq_eq_false_iff_ne.2 c25'.1
  have q28 : (op == 28) = false := beq_eq_false_iff_ne.2 c25'.2
  have q35 : (op == 35) = false := beq_eq_false_iff_ne.2 c35
  by_cases h0 : t.size = 0
  · rw [decide_eq_true h0]
    have ht0 := empty_of h0
    subst ht0
    clear hr hT ht c5 c7 c7' c24' c25' c35 h0
    go_enter Tryd.func62, Tryd.ntmps62
    go_wp2
    go_ret
    exact ⟨rfl, by (repeat' (first | (with_reducible exact Below.refl _ _) | (with_reducible assumption) | (with_reducible refine Below.alloc ?_ ?_ _) | (with_reducible refine below_drewN ?_ _) | (with_reducible refine below_drew ?_) | (with_reducible refine below_ext ?_ ?_ _ _) | (with_reducible refine Below.setCell ?_ ?_ _) | (simp; done) | (simp; omega) | omega))⟩
  · rw [decide_eq_false h0]
    have he := not_empty (s := t) (by omega)
    clear hr hT ht c5 c7 c7' c24' c25' c35 h0
    go_enter Tryd.func62, Tryd.ntmps62
    go_wp2
    go_ret
    exact ⟨rfl, by (repeat' (first | (with_reducible exact Below.refl _ _) | (with_reducible assumption) | (with_reducible refine Below.alloc ?_ ?_ _) | (with_reducible refine below_drewN ?_ _) | (with_reducible refine below_drew ?_) | (with_reducible refine below_ext ?_ ?_ _ _) | (with_reducible refine Below.setCell ?_ ?_ _) | (simp; done) | (simp; omega) | omega))⟩
theorem dzero_eq (neg : Bool) (a b s : Int) (w : World) : (Op.equalIn 10000 41 (.agg #[.bool neg, .int .u64 a, .int .u64 b, .int .i64 s]) (.agg #[.bool false, .int .u64 0, .int .u64 0, .int .i64 0])).run Tryd.prog w = .ok (decide (neg = false ∧ (a = 0 ∧ b = 0) ∧ s = 0)) w := by
  have u1 := Tryd.underlying4
  have a1 := Tryd.isAgg4
  have z1 := Tryd.sizeOf4
  have u2 := Tryd.underlying3
  have a2 := Tryd.isAgg3
  have z2 := Tryd.sizeOf3
  have a3 := Tryd.isAgg39
  have z3 := Tryd.sizeOf39
  have e := wide_eq a b 0 0
  have hS : Tryd.prog.underlying 41 = some (.struct (Tryd.prog.fieldsOf 41)) := by kernel_rfl
  have hp : Tryd.prog.stoodInHeld 41 = false := by kernel_rfl
  obtain ⟨r, hr⟩ : ∃ r, r = decide (neg = false ∧ (a = 0 ∧ b = 0) ∧ s = 0) := ⟨_, rfl⟩
  rw [← hr]
  obtain ⟨m, hm⟩ : ∃ m, m = (a == 0 && b == 0) := ⟨_, rfl⟩
  rw [← hm] at e
  have hm2 : decide (a = 0 ∧ b = 0) = m := by rw [hm]; simp [Bool.decide_and, beq_dec]
  have hr2 : r = (!neg && (m && decide (s = 0))) := by rw [hr, ← hm2]; cases neg <;> simp [Bool.decide_and]
  clear hr hm hm2
  rw [show (10000 : Nat) = 9999 + 1 from rfl, run_equalIn_agg w 9999 41 _ _ hS hp]
  simp only [Program.fieldsOf, Tryd.underlying41]
  by_cases hs : s = 0
  · subst hs
    cases neg <;> cases m <;> subst hr2 <;> go_simp
  · have hs2 : (s == 0) = false := beq_eq_false_iff_ne.2 hs
    rw [decide_eq_false hs] at hr2
    cases neg <;> cases m <;> subst hr2 <;> go_simp
theorem c_zero (c : Nat) : ((hi c : Int) = 0 ∧ (lo c : Int) = 0) ↔ c = 0 := by
  have := hilo c
  constructor
  · intro ⟨a, b⟩; omega
  · intro a; subst a; exact ⟨rfl, rfl⟩
set_option maxRecDepth 100000 in
set_option maxHeartbeats 4000000 in
theorem fnum_any (op k : Int) (t : ByteArray) (neg : Bool) (c : Nat) (s day : Int) (hc : c < top2) (w : World) (hT : Tens w) :
    Calls Tryd.prog 63 #[NodV op k t neg (hi c : Int) (lo c : Int) s day] w fun e w' => e = .returned (.bool (numB op neg c s)) ∧ Below w.heap.size w w' := by
  by_cases c4 : op = 4
  · subst c4
    have HF := Lib.hid (fun w' (hb : Below w.heap.size w w') => form_any neg c s hc w' (hT.below hb))
    have hr : numB 4 neg c s = (formB neg c s && !neg) := rfl
    rw [hr]
    generalize formB neg c s = fb at HF ⊢
    clear hr hT hc
    cases fb <;> cases neg
    all_goals
      go_enter Tryd.func63, Tryd.ntmps63
      go_wp2_with (first | (go_at_call 73; ((with_reducible refine (HF.out _ (by (repeat' (first | (with_reducible exact Below.refl _ _) | (with_reducible assumption) | (with_reducible refine Below.alloc ?_ ?_ _) | (with_reducible refine below_drewN ?_ _) | (with_reducible refine below_drew ?_) | (with_reducible refine below_ext ?_ ?_ _ _) | (with_reducible refine Below.setCell ?_ ?_ _) | (simp; done) | (simp; omega) | omega)))).mono ?_); rintro e w1 ⟨rfl, hb1⟩; obtain ⟨os1, d1, rfl⟩ := ext_of_below hb1; clear hb1)))
      go_ret
      exact ⟨rfl, by (repeat' (first | (with_reducible exact Below.refl _ _) | (with_reducible assumption) | (with_reducible refine Below.alloc ?_ ?_ _) | (with_reducible refine below_drewN ?_ _) | (with_reducible refine below_drew ?_) | (with_reducible refine below_ext ?_ ?_ _ _) | (with_reducible refine Below.setCell ?_ ?_ _) | (simp; done) | (simp; omega) | omega))⟩
  · have hr : numB op neg c s = decide (neg = false ∧ c = 0 ∧ s = 0) := by unfold numB; rw [if_neg c4]
    rw [hr]
    have q4 : (op == 4) = false := beq_eq_false_iff_ne.2 c4
    have hz := fun w => dzero_eq neg (hi c : Int) (lo c : Int) s w
    have hmg : Tryd.prog.eqGuardType Tryd.prog.depth 41 = false := by kernel_rfl
    rw [show decide (neg = false ∧ ((hi c : Int) = 0 ∧ (lo c : Int) = 0) ∧ s = 0) = decide (neg = false ∧ c = 0 ∧ s = 0) from decide_eq_decide.2 (by rw [c_zero])] at hz
    generalize decide (neg = false ∧ c = 0 ∧ s = 0) = r at hz ⊢
    generalize (hi c : Int) = a at hz ⊢
    generalize (lo c : Int) = b at hz ⊢
    clear hr hT hc c4
    go_enter Tryd.func63, Tryd.ntmps63
    go_wp2
    go_ret
    exact ⟨rfl, by (repeat' (first | (with_reducible exact Below.refl _ _) | (with_reducible assumption) | (with_reducible refine Below.alloc ?_ ?_ _) | (with_reducible refine below_drewN ?_ _) | (with_reducible refine below_drew ?_) | (with_reducible refine below_ext ?_ ?_ _ _) | (with_reducible refine Below.setCell ?_ ?_ _) | (simp; done) | (simp; omega) | omega))⟩
set_option maxRecDepth 100000 in
theorem fday_any (op k : Int) (t : ByteArray) (neg : Bool) (h l s day : Int) (w : World) :
    Calls Tryd.prog 64 #[NodV op k t neg h l s day] w fun e w' => e = .returned (.bool (dayB op day)) ∧ Below w.heap.size w w' := by
  by_cases c6 : op = 6
  · subst c6
    have hr : dayB 6 day = decide (1 ≤ day ∧ day ≤ 3652059) := rfl
    rw [hr]
    by_cases h1 : 1 ≤ day
    · by_cases h2 : day ≤ 3652059
      · rw [decide_eq_true ⟨h1, h2⟩]
        go_enter Tryd.func64, Tryd.ntmps64
        go_wp2
        go_ret
        exact ⟨rfl, by (repeat' (first | (with_reducible exact Below.refl _ _) | (with_reducible assumption) | (with_reducible refine Below.alloc ?_ ?_ _) | (with_reducible refine below_drewN ?_ _) | (with_reducible refine below_drew ?_) | (with_reducible refine below_ext ?_ ?_ _ _) | (with_reducible refine Below.setCell ?_ ?_ _) | (simp; done) | (simp; omega) | omega))⟩
      · rw [decide_eq_false fun e => h2 e.2]
        go_enter Tryd.func64, Tryd.ntmps64
        go_wp2
        go_ret
        exact ⟨rfl, by (repeat' (first | (with_reducible exact Below.refl _ _) | (with_reducible assumption) | (with_reducible refine Below.alloc ?_ ?_ _) | (with_reducible refine below_drewN ?_ _) | (with_reducible refine below_drew ?_) | (with_reducible refine below_ext ?_ ?_ _ _) | (with_reducible refine Below.setCell ?_ ?_ _) | (simp; done) | (simp; omega) | omega))⟩
    · rw [decide_eq_false fun e => h1 e.1]
      go_enter Tryd.func64, Tryd.ntmps64
      go_wp2
      go_ret
      exact ⟨rfl, by (repeat' (first | (with_reducible exact Below.refl _ _) | (with_reducible assumption) | (with_reducible refine Below.alloc ?_ ?_ _) | (with_reducible refine below_drewN ?_ _) | (with_reducible refine below_drew ?_) | (with_reducible refine below_ext ?_ ?_ _ _) | (with_reducible refine Below.setCell ?_ ?_ _) | (simp; done) | (simp; omega) | omega))⟩
  · have hr : dayB op day = decide (day = 0) := by unfold dayB; rw [if_neg c6]
    have q6 : (op == 6) = false := beq_eq_false_iff_ne.2 c6
    rw [hr]
    have q0 : (day == 0) = decide (day = 0) := beq_dec _ _
    generalize decide (day = 0) = r at q0 ⊢
    clear hr c6
    go_enter Tryd.func64, Tryd.ntmps64
    go_wp2
    go_ret
    exact ⟨rfl, by (repeat' (first | (with_reducible exact Below.refl _ _) | (with_reducible assumption) | (with_reducible refine Below.alloc ?_ ?_ _) | (with_reducible refine below_drewN ?_ _) | (with_reducible refine below_drew ?_) | (with_reducible refine below_ext ?_ ?_ _ _) | (with_reducible refine Below.setCell ?_ ?_ _) | (simp; done) | (simp; omega) | omega))⟩
set_option maxRecDepth 100000 in
set_option maxHeartbeats 4000000 in
theorem filled_any (op k : Int) (t : ByteArray) (neg : Bool) (c : Nat) (s day : Int) (ht : t.size ≤ maxLen) (hc : c < top2) (w : World) (hT : Tens w) (hU : Tabs w) :
    Calls Tryd.prog 48 #[NodV op k t neg (hi c : Int) (lo c : Int) s day] w fun e w' => e = .returned (.bool (filledB op t neg c s day)) ∧ Below w.heap.size w w' := by
  have HX := Lib.hid (fun w' (hb : Below w.heap.size w w') => ftext_any op k t neg (hi c : Int) (lo c : Int) s day ht w' (hU.below hb))
  have HN := Lib.hid (fun w' (hb : Below w.heap.size w w') => fnum_any op k t neg c s day hc w' (hT.below hb))
  have HD := Lib.hid (fun w' => fday_any op k t neg (hi c : Int) (lo c : Int) s day w')
  have hr : filledB op t neg c s day = (textB op t && (numB op neg c s && dayB op day)) := rfl
  rw [hr]
  generalize textB op t = r1 at HX ⊢
  generalize numB op neg c s = r2 at HN ⊢
  generalize dayB op day = r3 at HD ⊢
  generalize (hi c : Int) = a at HX HN HD ⊢
  generalize (lo c : Int) = b at HX HN HD ⊢
  clear hr hT hU ht hc
  cases r1 <;> cases r2
  all_goals
    go_enter Tryd.func48, Tryd.ntmps48
    go_wp2_with (first
      | (go_at_call 62; ((with_reducible refine (HX.out _ (by (repeat' (first | (with_reducible exact Below.refl _ _) | (with_reducible assumption) | (with_reducible refine Below.alloc ?_ ?_ _) | (with_reducible refine below_drewN ?_ _) | (with_reducible refine below_drew ?_) | (with_reducible refine below_ext ?_ ?_ _ _) | (with_reducible refine Below.setCell ?_ ?_ _) | (simp; done) | (simp; omega) | omega)))).mono ?_); rintro e w1 ⟨rfl, hb1⟩; obtain ⟨osA, dA, rfl⟩ := ext_of_below hb1; clear hb1))
      | (go_at_call 63; ((with_reducible refine (HN.out _ (by (repeat' (first | (with_reducible exact Below.refl _ _) | (with_reducible assumption) | (with_reducible refine Below.alloc ?_ ?_ _) | (with_reducible refine below_drewN ?_ _) | (with_reducible refine below_drew ?_) | (with_reducible refine below_ext ?_ ?_ _ _) | (with_reducible refine Below.setCell ?_ ?_ _) | (simp; done) | (simp; omega) | omega)))).mono ?_); rintro e w1 ⟨rfl, hb1⟩; obtain ⟨osB, dB, rfl⟩ := ext_of_below hb1; clear hb1))
      | (go_at_call 64; ((with_reducible refine (HD.out _).mono ?_); rintro e w1 ⟨rfl, hb1⟩; obtain ⟨osC, dC, rfl⟩ := ext_of_below hb1; clear hb1)))
    go_ret
    exact ⟨rfl, by (repeat' (first | (with_reducible exact Below.refl _ _) | (with_reducible assumption) | (with_reducible refine Below.alloc ?_ ?_ _) | (with_reducible refine below_drewN ?_ _) | (with_reducible refine below_drew ?_) | (with_reducible refine below_ext ?_ ?_ _ _) | (with_reducible refine Below.setCell ?_ ?_ _) | (simp; done) | (simp; omega) | omega))⟩
end Go.Proofs.YtpgfgaloagdogaaDoor
