/-
  What an instruction takes off, puts on, asks: the document's way.
-/
import Derived.Test.YtpgfgaloagdogaaDoorCodB
namespace Go.Proofs.YtpgfgaloagdogaaDoor
open Go.RowKit Vm
attribute [local go_sem] setCell_drewN cell?_ext frozen?_ext shape?_ext setCell_ext lt_1' ne_1' en_1' le_1' lt_2' ne_2' en_2' le_2' lt_3' ne_3' en_3' le_3' lt_4' ne_4' en_4' le_4' lt_5' ne_5' en_5' le_5' lt_6' ne_6' en_6' le_6' lt_7' ne_7' en_7' le_7' lt_8' ne_8' en_8' le_8' lt_9' ne_9' en_9' le_9' lt_10' ne_10' en_10' le_10' lt_11' ne_11' en_11' le_11' lt_12' ne_12' en_12' le_12'

theorem results_tmp5 {fn : Func} {t u v x y : Tmp} (h : fn.results = #[.tmp t, .tmp u, .tmp v, .tmp x, .tmp y]) (tmps : Array Value) (P : Program) (w : World) :
    (results fn tmps).run P w = .ok (.tuple #[tmps.getD t undef, tmps.getD u undef, tmps.getD v undef, tmps.getD x undef, tmps.getD y undef]) w := by
  simp [results, h]
theorem counted_any (op : Int) (w : World) : Calls Tryd.prog 61 #[.int .i64 op] w fun e w' => e = .returned (.bool (decide (cnt op))) ∧ w' = w := by
  obtain ⟨r, hr⟩ : ∃ r, r = decide (cnt op) := ⟨_, rfl⟩
  have HR := Lib.hid hr
  rw [← hr]
  clear hr
  go_enter Tryd.func61, Tryd.ntmps61
  go_wp2
  all_goals
    go_ret
    refine ⟨?_, rfl⟩
    rw [HR.out]
    clear HR
    first
      | (simp_all [cnt]; done)
      | (congr 1; rw [Bool.eq_iff_iff]; simp [cnt]; omega)
      | (simp_all [cnt]; rw [Bool.eq_iff_iff]; simp; omega)
/-- how takes ends -/
def TkQ (r : Option (Int × Int × Int × Int)) (w : World) (e : Ending) (w' : World) : Prop :=
  e = .returned (.tuple #[.int .i64 (r.getD (0, 0, 0, 0)).1, .int .i64 (r.getD (0, 0, 0, 0)).2.1, .int .i64 (r.getD (0, 0, 0, 0)).2.2.1, .int .i64 (r.getD (0, 0, 0, 0)).2.2.2, .bool r.isSome]) ∧ Below w.heap.size w w'
set_option maxRecDepth 100000 in
theorem tk_neg (op a : Int) (t : ByteArray) (neg : Bool) (hh l s day : Int) (w : World) (h0 : a < 0) :
    Calls Tryd.prog 53 #[InsV op a t neg hh l s day] w fun e w' => TkQ (takes op a) w e w' := by
  obtain ⟨r, hr⟩ : ∃ r, r = takes op a := ⟨_, rfl⟩
  have HR := Lib.hid hr
  rw [← hr]
  clear hr
  obtain ⟨cb, hcb0⟩ : ∃ cb, cb = decide (cnt op) := ⟨_, rfl⟩
  have HC := Lib.hid (fun w => counted_any op w)
  rw [← hcb0] at HC
  unfold TkQ
  have HR2 := Lib.hid (show r = none by
    rw [HR.out]; unfold takes cnt jmp
    rw [if_pos (by omega)])
  clear HR hcb0
  go_enter Tryd.func53, Tryd.ntmps53
  go_wp2_with (go_at_call 61; ((with_reducible refine (HC.out _).mono ?_); rintro e w' ⟨rfl, rfl⟩))
  refine bodyPost_ret (results_tmp5 rfl _ _ _) rfl ?_
  exact ⟨by rw [HR2.out]; rfl, by (repeat' (first | (with_reducible exact Below.refl _ _) | (with_reducible assumption) | (with_reducible refine Below.alloc ?_ ?_ _) | (with_reducible refine below_drewN ?_ _) | (with_reducible refine below_drew ?_) | (with_reducible refine below_ext ?_ ?_ _ _) | (with_reducible refine Below.setCell ?_ ?_ _) | (simp; done) | (simp; omega) | omega))⟩
set_option maxRecDepth 100000 in
theorem tk_f25 (op a : Int) (t : ByteArray) (neg : Bool) (hh l s day : Int) (w : World) (h0 : 8 < a) (ho : op = 25) :
    Calls Tryd.prog 53 #[InsV op a t neg hh l s day] w fun e w' => TkQ (takes op a) w e w' := by
  obtain ⟨r, hr⟩ : ∃ r, r = takes op a := ⟨_, rfl⟩
  have HR := Lib.hid hr
  rw [← hr]
  clear hr
  obtain ⟨cb, hcb0⟩ : ∃ cb, cb = decide (cnt op) := ⟨_, rfl⟩
  have HC := Lib.hid (fun w => counted_any op w)
  rw [← hcb0] at HC
  unfold TkQ
  have HR2 := Lib.hid (show r = none by
    rw [HR.out]; unfold takes cnt jmp
    rw [if_pos (by omega)])
  have a0 : ¬ a < 0 := by omega
  have q36 : (op == 36) = false := beq_eq_false_iff_ne.2 (by omega)
  have q25 : (op == 25) = true := beq_iff_eq.2 ho
  clear HR hcb0
  clear ho
  go_enter Tryd.func53, Tryd.ntmps53
  go_wp2_with (go_at_call 61; ((with_reducible refine (HC.out _).mono ?_); rintro e w' ⟨rfl, rfl⟩))
  refine bodyPost_ret (results_tmp5 rfl _ _ _) rfl ?_
  exact ⟨by rw [HR2.out]; rfl, by (repeat' (first | (with_reducible exact Below.refl _ _) | (with_reducible assumption) | (with_reducible refine Below.alloc ?_ ?_ _) | (with_reducible refine below_drewN ?_ _) | (with_reducible refine below_drew ?_) | (with_reducible refine below_ext ?_ ?_ _ _) | (with_reducible refine Below.setCell ?_ ?_ _) | (simp; done) | (simp; omega) | omega))⟩
set_option maxRecDepth 100000 in
theorem tk_f36 (op a : Int) (t : ByteArray) (neg : Bool) (hh l s day : Int) (w : World) (h0 : a = 0) (ho : op = 36) :
    Calls Tryd.prog 53 #[InsV op a t neg hh l s day] w fun e w' => TkQ (takes op a) w e w' := by
  obtain ⟨r, hr⟩ : ∃ r, r = takes op a := ⟨_, rfl⟩
  have HR := Lib.hid hr
  rw [← hr]
  clear hr
  obtain ⟨cb, hcb0⟩ : ∃ cb, cb = decide (cnt op) := ⟨_, rfl⟩
  have HC := Lib.hid (fun w => counted_any op w)
  rw [← hcb0] at HC
  unfold TkQ
  have HR2 := Lib.hid (show r = none by
    rw [HR.out]; unfold takes cnt jmp
    rw [if_pos (by omega)])
  have a0 : ¬ a < 0 := by omega
  have a1 : a < 1 := by omega
  have q36 : (op == 36) = true := beq_iff_eq.2 ho
  clear HR hcb0
  clear ho h0
  go_enter Tryd.func53, Tryd.ntmps53
  go_wp2_with (go_at_call 61; ((with_reducible refine (HC.out _).mono ?_); rintro e w' ⟨rfl, rfl⟩))
  refine bodyPost_ret (results_tmp5 rfl _ _ _) rfl ?_
  exact ⟨by rw [HR2.out]; rfl, by (repeat' (first | (with_reducible exact Below.refl _ _) | (with_reducible assumption) | (with_reducible refine Below.alloc ?_ ?_ _) | (with_reducible refine below_drewN ?_ _) | (with_reducible refine below_drew ?_) | (with_reducible refine below_ext ?_ ?_ _ _) | (with_reducible refine Below.setCell ?_ ?_ _) | (simp; done) | (simp; omega) | omega))⟩
set_option maxRecDepth 100000 in
theorem tk_nz (op a : Int) (t : ByteArray) (neg : Bool) (hh l s day : Int) (w : World) (h0 : 0 < a) (hc : ¬ cnt op) (hj : ¬ jmp op) :
    Calls Tryd.prog 53 #[InsV op a t neg hh l s day] w fun e w' => TkQ (takes op a) w e w' := by
  obtain ⟨r, hr⟩ : ∃ r, r = takes op a := ⟨_, rfl⟩
  have HR := Lib.hid hr
  rw [← hr]
  clear hr
  obtain ⟨cb, hcb0⟩ : ∃ cb, cb = decide (cnt op) := ⟨_, rfl⟩
  have HC := Lib.hid (fun w => counted_any op w)
  rw [← hcb0] at HC
  unfold TkQ
  have HR2 := Lib.hid (show r = none by
    rw [HR.out]; unfold takes cnt jmp
    rw [if_neg (by unfold cnt at hc; omega), if_pos (by unfold cnt at hc; unfold jmp at hj; omega)])
  have hcb : cb = false := by rw [hcb0]; exact decide_eq_false hc
  rw [hcb] at HC
  unfold cnt at hc
  unfold jmp at hj
  have a0 : ¬ a < 0 := by omega
  have q36 : (op == 36) = false := beq_eq_false_iff_ne.2 (by omega)
  have q25 : (op == 25) = false := beq_eq_false_iff_ne.2 (by omega)
  have n101 : (op != 101) = true := by unfold bne; rw [beq_eq_false_iff_ne.2 (by omega)]; rfl
  have n102 : (op != 102) = true := by unfold bne; rw [beq_eq_false_iff_ne.2 (by omega)]; rfl
  have na : (a != 0) = true := by unfold bne; rw [beq_eq_false_iff_ne.2 (by omega)]; rfl
  clear HR hcb0 hcb
  clear hc hj h0
  go_enter Tryd.func53, Tryd.ntmps53
  go_wp2_with (go_at_call 61; ((with_reducible refine (HC.out _).mono ?_); rintro e w' ⟨rfl, rfl⟩))
  refine bodyPost_ret (results_tmp5 rfl _ _ _) rfl ?_
  exact ⟨by rw [HR2.out]; rfl, by (repeat' (first | (with_reducible exact Below.refl _ _) | (with_reducible assumption) | (with_reducible refine Below.alloc ?_ ?_ _) | (with_reducible refine below_drewN ?_ _) | (with_reducible refine below_drew ?_) | (with_reducible refine below_ext ?_ ?_ _ _) | (with_reducible refine Below.setCell ?_ ?_ _) | (simp; done) | (simp; omega) | omega))⟩
set_option maxRecDepth 100000 in
theorem tk_c25 (op a : Int) (t : ByteArray) (neg : Bool) (hh l s day : Int) (w : World) (ho : op = 25) (h0 : 0 ≤ a) (h1 : a ≤ 8) :
    Calls Tryd.prog 53 #[InsV op a t neg hh l s day] w fun e w' => TkQ (takes op a) w e w' := by
  obtain ⟨r, hr⟩ : ∃ r, r = takes op a := ⟨_, rfl⟩
  have HR := Lib.hid hr
  rw [← hr]
  clear hr
  obtain ⟨cb, hcb0⟩ : ∃ cb, cb = decide (cnt op) := ⟨_, rfl⟩
  have HC := Lib.hid (fun w => counted_any op w)
  rw [← hcb0] at HC
  unfold TkQ
  have HR2 := Lib.hid (show r = some (a, 1, 0, 0) by
    rw [HR.out]; unfold takes cnt jmp
    rw [if_neg (by omega), if_neg (by omega), if_pos (by omega)])
  have hcb : cb = true := by rw [hcb0]; exact decide_eq_true (by unfold cnt; omega)
  rw [hcb] at HC
  have a0 : ¬ a < 0 := by omega
  have a8 : ¬ 8 < a := by omega
  have q36 : (op == 36) = false := beq_eq_false_iff_ne.2 (by omega)
  have q25 : (op == 25) = true := beq_iff_eq.2 (by omega)
  have q29 : (op == 29) = false := beq_eq_false_iff_ne.2 (by omega)
  have q8 : (op == 8) = false := beq_eq_false_iff_ne.2 (by omega)
  have q24 : (op == 24) = false := beq_eq_false_iff_ne.2 (by omega)
  have q28 : (op == 28) = false := beq_eq_false_iff_ne.2 (by omega)
  have q37 : (op == 37) = false := beq_eq_false_iff_ne.2 (by omega)
  have q22 : (op == 22) = false := beq_eq_false_iff_ne.2 (by omega)
  have q35 : (op == 35) = false := beq_eq_false_iff_ne.2 (by omega)
  have q101 : (op == 101) = false := beq_eq_false_iff_ne.2 (by omega)
  have q102 : (op == 102) = false := beq_eq_false_iff_ne.2 (by omega)
  have q103 : (op == 103) = false := beq_eq_false_iff_ne.2 (by omega)
  have q104 : (op == 104) = false := beq_eq_false_iff_ne.2 (by omega)
  have n101 : (op != 101) = true := by unfold bne; rw [q101]; rfl
  have n102 : (op != 102) = true := by unfold bne; rw [q102]; rfl
  have g1 : 1 ≤ op := by omega
  have g9 : 9 ≤ op := by omega
  have g30 : ¬ 30 ≤ op := by omega
  have l7 : ¬ op ≤ 7 := by omega
  have l20 : ¬ op ≤ 20 := by omega
  have l34 : op ≤ 34 := by omega
  clear HR hcb0 hcb
  clear ho
  go_enter Tryd.func53, Tryd.ntmps53
  go_wp2_with (go_at_call 61; ((with_reducible refine (HC.out _).mono ?_); rintro e w' ⟨rfl, rfl⟩))
  refine bodyPost_ret (results_tmp5 rfl _ _ _) rfl ?_
  exact ⟨by rw [HR2.out]; rfl, by (repeat' (first | (with_reducible exact Below.refl _ _) | (with_reducible assumption) | (with_reducible refine Below.alloc ?_ ?_ _) | (with_reducible refine below_drewN ?_ _) | (with_reducible refine below_drew ?_) | (with_reducible refine below_ext ?_ ?_ _ _) | (with_reducible refine Below.setCell ?_ ?_ _) | (simp; done) | (simp; omega) | omega))⟩
set_option maxRecDepth 100000 in
theorem tk_c26 (op a : Int) (t : ByteArray) (neg : Bool) (hh l s day : Int) (w : World) (h2 : 26 ≤ op) (h3 : op ≤ 27) (h0 : 0 ≤ a) :
    Calls Tryd.prog 53 #[InsV op a t neg hh l s day] w fun e w' => TkQ (takes op a) w e w' := by
  obtain ⟨r, hr⟩ : ∃ r, r = takes op a := ⟨_, rfl⟩
  have HR := Lib.hid hr
  rw [← hr]
  clear hr
  obtain ⟨cb, hcb0⟩ : ∃ cb, cb = decide (cnt op) := ⟨_, rfl⟩
  have HC := Lib.hid (fun w => counted_any op w)
  rw [← hcb0] at HC
  unfold TkQ
  have HR2 := Lib.hid (show r = some (a, 1, 0, 0) by
    rw [HR.out]; unfold takes cnt jmp
    rw [if_neg (by omega), if_neg (by omega), if_pos (by omega)])
  have hcb : cb = true := by rw [hcb0]; exact decide_eq_true (by unfold cnt; omega)
  rw [hcb] at HC
  have a0 : ¬ a < 0 := by omega
  have q36 : (op == 36) = false := beq_eq_false_iff_ne.2 (by omega)
  have q25 : (op == 25) = false := beq_eq_false_iff_ne.2 (by omega)
  have q29 : (op == 29) = false := beq_eq_false_iff_ne.2 (by omega)
  have q8 : (op == 8) = false := beq_eq_false_iff_ne.2 (by omega)
  have q24 : (op == 24) = false := beq_eq_false_iff_ne.2 (by omega)
  have q28 : (op == 28) = false := beq_eq_false_iff_ne.2 (by omega)
  have q37 : (op == 37) = false := beq_eq_false_iff_ne.2 (by omega)
  have q22 : (op == 22) = false := beq_eq_false_iff_ne.2 (by omega)
  have q35 : (op == 35) = false := beq_eq_false_iff_ne.2 (by omega)
  have q101 : (op == 101) = false := beq_eq_false_iff_ne.2 (by omega)
  have q102 : (op == 102) = false := beq_eq_false_iff_ne.2 (by omega)
  have q103 : (op == 103) = false := beq_eq_false_iff_ne.2 (by omega)
  have q104 : (op == 104) = false := beq_eq_false_iff_ne.2 (by omega)
  have n101 : (op != 101) = true := by unfold bne; rw [q101]; rfl
  have n102 : (op != 102) = true := by unfold bne; rw [q102]; rfl
  have g1 : 1 ≤ op := by omega
  have g9 : 9 ≤ op := by omega
  have g30 : ¬ 30 ≤ op := by omega
  have l7 : ¬ op ≤ 7 := by omega
  have l20 : ¬ op ≤ 20 := by omega
  have l34 : op ≤ 34 := by omega
  clear HR hcb0 hcb
  clear h2 h3
  go_enter Tryd.func53, Tryd.ntmps53
  go_wp2_with (go_at_call 61; ((with_reducible refine (HC.out _).mono ?_); rintro e w' ⟨rfl, rfl⟩))
  refine bodyPost_ret (results_tmp5 rfl _ _ _) rfl ?_
  exact ⟨by rw [HR2.out]; rfl, by (repeat' (first | (with_reducible exact Below.refl _ _) | (with_reducible assumption) | (with_reducible refine Below.alloc ?_ ?_ _) | (with_reducible refine below_drewN ?_ _) | (with_reducible refine below_drew ?_) | (with_reducible refine below_ext ?_ ?_ _ _) | (with_reducible refine Below.setCell ?_ ?_ _) | (simp; done) | (simp; omega) | omega))⟩
set_option maxRecDepth 100000 in
theorem tk_c36 (op a : Int) (t : ByteArray) (neg : Bool) (hh l s day : Int) (w : World) (ho : op = 36) (h0 : 1 ≤ a) :
    Calls Tryd.prog 53 #[InsV op a t neg hh l s day] w fun e w' => TkQ (takes op a) w e w' := by
  obtain ⟨r, hr⟩ : ∃ r, r = takes op a := ⟨_, rfl⟩
  have HR := Lib.hid hr
  rw [← hr]
  clear hr
  obtain ⟨cb, hcb0⟩ : ∃ cb, cb = decide (cnt op) := ⟨_, rfl⟩
  have HC := Lib.hid (fun w => counted_any op w)
  rw [← hcb0] at HC
  unfold TkQ
  have HR2 := Lib.hid (show r = some (a, 1, 0, 0) by
    rw [HR.out]; unfold takes cnt jmp
    rw [if_neg (by omega), if_neg (by omega), if_pos (by omega)])
  have hcb : cb = true := by rw [hcb0]; exact decide_eq_true (by unfold cnt; omega)
  rw [hcb] at HC
  have a0 : ¬ a < 0 := by omega
  have a1 : ¬ a < 1 := by omega
  have q36 : (op == 36) = true := beq_iff_eq.2 (by omega)
  have q25 : (op == 25) = false := beq_eq_false_iff_ne.2 (by omega)
  have q29 : (op == 29) = false := beq_eq_false_iff_ne.2 (by omega)
  have q8 : (op == 8) = false := beq_eq_false_iff_ne.2 (by omega)
  have q24 : (op == 24) = false := beq_eq_false_iff_ne.2 (by omega)
  have q28 : (op == 28) = false := beq_eq_false_iff_ne.2 (by omega)
  have q37 : (op == 37) = false := beq_eq_false_iff_ne.2 (by omega)
  have q22 : (op == 22) = false := beq_eq_false_iff_ne.2 (by omega)
  have q35 : (op == 35) = false := beq_eq_false_iff_ne.2 (by omega)
  have q101 : (op == 101) = false := beq_eq_false_iff_ne.2 (by omega)
  have q102 : (op == 102) = false := beq_eq_false_iff_ne.2 (by omega)
  have q103 : (op == 103) = false := beq_eq_false_iff_ne.2 (by omega)
  have q104 : (op == 104) = false := beq_eq_false_iff_ne.2 (by omega)
  have n101 : (op != 101) = true := by unfold bne; rw [q101]; rfl
  have n102 : (op != 102) = true := by unfold bne; rw [q102]; rfl
  have g1 : 1 ≤ op := by omega
  have g9 : 9 ≤ op := by omega
  have g30 : 30 ≤ op := by omega
  have l7 : ¬ op ≤ 7 := by omega
  have l20 : ¬ op ≤ 20 := by omega
  have l34 : ¬ op ≤ 34 := by omega
  clear HR hcb0 hcb
  clear ho
  go_enter Tryd.func53, Tryd.ntmps53
  go_wp2_with (go_at_call 61; ((with_reducible refine (HC.out _).mono ?_); rintro e w' ⟨rfl, rfl⟩))
  refine bodyPost_ret (results_tmp5 rfl _ _ _) rfl ?_
  exact ⟨by rw [HR2.out]; rfl, by (repeat' (first | (with_reducible exact Below.refl _ _) | (with_reducible assumption) | (with_reducible refine Below.alloc ?_ ?_ _) | (with_reducible refine below_drewN ?_ _) | (with_reducible refine below_drew ?_) | (with_reducible refine below_ext ?_ ?_ _ _) | (with_reducible refine Below.setCell ?_ ?_ _) | (simp; done) | (simp; omega) | omega))⟩
set_option maxRecDepth 100000 in
theorem tk_c101 (op a : Int) (t : ByteArray) (neg : Bool) (hh l s day : Int) (w : World) (ho : op = 101) (h0 : 0 ≤ a) :
    Calls Tryd.prog 53 #[InsV op a t neg hh l s day] w fun e w' => TkQ (takes op a) w e w' := by
  obtain ⟨r, hr⟩ : ∃ r, r = takes op a := ⟨_, rfl⟩
  have HR := Lib.hid hr
  rw [← hr]
  clear hr
  obtain ⟨cb, hcb0⟩ : ∃ cb, cb = decide (cnt op) := ⟨_, rfl⟩
  have HC := Lib.hid (fun w => counted_any op w)
  rw [← hcb0] at HC
  unfold TkQ
  have HR2 := Lib.hid (show r = some (0, 0, 0, 0) by
    rw [HR.out]; unfold takes cnt jmp
    rw [if_neg (by omega), if_neg (by omega), if_neg (by omega), if_neg (by omega), if_neg (by omega), if_neg (by omega), if_neg (by omega), if_neg (by omega), if_neg (by omega), if_pos (by omega)])
  have hcb : cb = false := by rw [hcb0]; exact decide_eq_false (by unfold cnt; omega)
  rw [hcb] at HC
  have a0 : ¬ a < 0 := by omega
  have q36 : (op == 36) = false := beq_eq_false_iff_ne.2 (by omega)
  have q25 : (op == 25) = false := beq_eq_false_iff_ne.2 (by omega)
  have q29 : (op == 29) = false := beq_eq_false_iff_ne.2 (by omega)
  have q8 : (op == 8) = false := beq_eq_false_iff_ne.2 (by omega)
  have q24 : (op == 24) = false := beq_eq_false_iff_ne.2 (by omega)
  have q28 : (op == 28) = false := beq_eq_false_iff_ne.2 (by omega)
  have q37 : (op == 37) = false := beq_eq_false_iff_ne.2 (by omega)
  have q22 : (op == 22) = false := beq_eq_false_iff_ne.2 (by omega)
  have q35 : (op == 35) = false := beq_eq_false_iff_ne.2 (by omega)
  have q101 : (op == 101) = true := beq_iff_eq.2 (by omega)
  have q102 : (op == 102) = false := beq_eq_false_iff_ne.2 (by omega)
  have q103 : (op == 103) = false := beq_eq_false_iff_ne.2 (by omega)
  have q104 : (op == 104) = false := beq_eq_false_iff_ne.2 (by omega)
  have n101 : (op != 101) = false := by unfold bne; rw [q101]; rfl
  have n102 : (op != 102) = true := by unfold bne; rw [q102]; rfl
  have g1 : 1 ≤ op := by omega
  have g9 : 9 ≤ op := by omega
  have g30 : 30 ≤ op := by omega
  have l7 : ¬ op ≤ 7 := by omega
  have l20 : ¬ op ≤ 20 := by omega
  have l34 : ¬ op ≤ 34 := by omega
  clear HR hcb0 hcb
  clear ho
  go_enter Tryd.func53, Tryd.ntmps53
  go_wp2_with (go_at_call 61; ((with_reducible refine (HC.out _).mono ?_); rintro e w' ⟨rfl, rfl⟩))
  refine bodyPost_ret (results_tmp5 rfl _ _ _) rfl ?_
  exact ⟨by rw [HR2.out]; rfl, by (repeat' (first | (with_reducible exact Below.refl _ _) | (with_reducible assumption) | (with_reducible refine Below.alloc ?_ ?_ _) | (with_reducible refine below_drewN ?_ _) | (with_reducible refine below_drew ?_) | (with_reducible refine below_ext ?_ ?_ _ _) | (with_reducible refine Below.setCell ?_ ?_ _) | (simp; done) | (simp; omega) | omega))⟩
set_option maxRecDepth 100000 in
theorem tk_c102 (op a : Int) (t : ByteArray) (neg : Bool) (hh l s day : Int) (w : World) (ho : op = 102) (h0 : 0 ≤ a) :
    Calls Tryd.prog 53 #[InsV op a t neg hh l s day] w fun e w' => TkQ (takes op a) w e w' := by
  obtain ⟨r, hr⟩ : ∃ r, r = takes op a := ⟨_, rfl⟩
  have HR := Lib.hid hr
  rw [← hr]
  clear hr
  obtain ⟨cb, hcb0⟩ : ∃ cb, cb = decide (cnt op) := ⟨_, rfl⟩
  have HC := Lib.hid (fun w => counted_any op w)
  rw [← hcb0] at HC
  unfold TkQ
  have HR2 := Lib.hid (show r = some (1, 0, 0, 0) by
    rw [HR.out]; unfold takes cnt jmp
    rw [if_neg (by omega), if_neg (by omega), if_neg (by omega), if_neg (by omega), if_neg (by omega), if_neg (by omega), if_neg (by omega), if_neg (by omega), if_neg (by omega), if_neg (by omega), if_pos (by omega)])
  have hcb : cb = false := by rw [hcb0]; exact decide_eq_false (by unfold cnt; omega)
  rw [hcb] at HC
  have a0 : ¬ a < 0 := by omega
  have q36 : (op == 36) = false := beq_eq_false_iff_ne.2 (by omega)
  have q25 : (op == 25) = false := beq_eq_false_iff_ne.2 (by omega)
  have q29 : (op == 29) = false := beq_eq_false_iff_ne.2 (by omega)
  have q8 : (op == 8) = false := beq_eq_false_iff_ne.2 (by omega)
  have q24 : (op == 24) = false := beq_eq_false_iff_ne.2 (by omega)
  have q28 : (op == 28) = false := beq_eq_false_iff_ne.2 (by omega)
  have q37 : (op == 37) = false := beq_eq_false_iff_ne.2 (by omega)
  have q22 : (op == 22) = false := beq_eq_false_iff_ne.2 (by omega)
  have q35 : (op == 35) = false := beq_eq_false_iff_ne.2 (by omega)
  have q101 : (op == 101) = false := beq_eq_false_iff_ne.2 (by omega)
  have q102 : (op == 102) = true := beq_iff_eq.2 (by omega)
  have q103 : (op == 103) = false := beq_eq_false_iff_ne.2 (by omega)
  have q104 : (op == 104) = false := beq_eq_false_iff_ne.2 (by omega)
  have n101 : (op != 101) = true := by unfold bne; rw [q101]; rfl
  have n102 : (op != 102) = false := by unfold bne; rw [q102]; rfl
  have g1 : 1 ≤ op := by omega
  have g9 : 9 ≤ op := by omega
  have g30 : 30 ≤ op := by omega
  have l7 : ¬ op ≤ 7 := by omega
  have l20 : ¬ op ≤ 20 := by omega
  have l34 : ¬ op ≤ 34 := by omega
  clear HR hcb0 hcb
  clear ho
  go_enter Tryd.func53, Tryd.ntmps53
  go_wp2_with (go_at_call 61; ((with_reducible refine (HC.out _).mono ?_); rintro e w' ⟨rfl, rfl⟩))
  refine bodyPost_ret (results_tmp5 rfl _ _ _) rfl ?_
  exact ⟨by rw [HR2.out]; rfl, by (repeat' (first | (with_reducible exact Below.refl _ _) | (with_reducible assumption) | (with_reducible refine Below.alloc ?_ ?_ _) | (with_reducible refine below_drewN ?_ _) | (with_reducible refine below_drew ?_) | (with_reducible refine below_ext ?_ ?_ _ _) | (with_reducible refine Below.setCell ?_ ?_ _) | (simp; done) | (simp; omega) | omega))⟩
set_option maxRecDepth 100000 in
theorem tk_z0 (op a : Int) (t : ByteArray) (neg : Bool) (hh l s day : Int) (w : World) (h3 : op ≤ 0) (h0 : a = 0) :
    Calls Tryd.prog 53 #[InsV op a t neg hh l s day] w fun e w' => TkQ (takes op a) w e w' := by
  obtain ⟨r, hr⟩ : ∃ r, r = takes op a := ⟨_, rfl⟩
  have HR := Lib.hid hr
  rw [← hr]
  clear hr
  obtain ⟨cb, hcb0⟩ : ∃ cb, cb = decide (cnt op) := ⟨_, rfl⟩
  have HC := Lib.hid (fun w => counted_any op w)
  rw [← hcb0] at HC
  unfold TkQ
  have HR2 := Lib.hid (show r = none by
    rw [HR.out]; unfold takes cnt jmp
    rw [if_neg (by omega), if_neg (by omega), if_neg (by omega), if_neg (by omega), if_neg (by omega), if_neg (by omega), if_neg (by omega), if_neg (by omega), if_neg (by omega), if_neg (by omega), if_neg (by omega), if_neg (by omega), if_neg (by omega)])
  have hcb : cb = false := by rw [hcb0]; exact decide_eq_false (by unfold cnt; omega)
  rw [hcb] at HC
  have a0 : ¬ a < 0 := by omega
  have na : (a != 0) = false := by unfold bne; rw [beq_iff_eq.2 h0]; rfl
  have q36 : (op == 36) = false := beq_eq_false_iff_ne.2 (by omega)
  have q25 : (op == 25) = false := beq_eq_false_iff_ne.2 (by omega)
  have q29 : (op == 29) = false := beq_eq_false_iff_ne.2 (by omega)
  have q8 : (op == 8) = false := beq_eq_false_iff_ne.2 (by omega)
  have q24 : (op == 24) = false := beq_eq_false_iff_ne.2 (by omega)
  have q28 : (op == 28) = false := beq_eq_false_iff_ne.2 (by omega)
  have q37 : (op == 37) = false := beq_eq_false_iff_ne.2 (by omega)
  have q22 : (op == 22) = false := beq_eq_false_iff_ne.2 (by omega)
  have q35 : (op == 35) = false := beq_eq_false_iff_ne.2 (by omega)
  have q101 : (op == 101) = false := beq_eq_false_iff_ne.2 (by omega)
  have q102 : (op == 102) = false := beq_eq_false_iff_ne.2 (by omega)
  have q103 : (op == 103) = false := beq_eq_false_iff_ne.2 (by omega)
  have q104 : (op == 104) = false := beq_eq_false_iff_ne.2 (by omega)
  have n101 : (op != 101) = true := by unfold bne; rw [q101]; rfl
  have n102 : (op != 102) = true := by unfold bne; rw [q102]; rfl
  have g1 : ¬ 1 ≤ op := by omega
  have g9 : ¬ 9 ≤ op := by omega
  have g30 : ¬ 30 ≤ op := by omega
  have l7 : op ≤ 7 := by omega
  have l20 : op ≤ 20 := by omega
  have l34 : op ≤ 34 := by omega
  clear HR hcb0 hcb
  clear h3 h0
  go_enter Tryd.func53, Tryd.ntmps53
  go_wp2_with (go_at_call 61; ((with_reducible refine (HC.out _).mono ?_); rintro e w' ⟨rfl, rfl⟩))
  refine bodyPost_ret (results_tmp5 rfl _ _ _) rfl ?_
  exact ⟨by rw [HR2.out]; rfl, by (repeat' (first | (with_reducible exact Below.refl _ _) | (with_reducible assumption) | (with_reducible refine Below.alloc ?_ ?_ _) | (with_reducible refine below_drewN ?_ _) | (with_reducible refine below_drew ?_) | (with_reducible refine below_ext ?_ ?_ _ _) | (with_reducible refine Below.setCell ?_ ?_ _) | (simp; done) | (simp; omega) | omega))⟩
set_option maxRecDepth 100000 in
theorem tk_z1 (op a : Int) (t : ByteArray) (neg : Bool) (hh l s day : Int) (w : World) (h2 : 1 ≤ op) (h3 : op ≤ 7) (h0 : a = 0) :
    Calls Tryd.prog 53 #[InsV op a t neg hh l s day] w fun e w' => TkQ (takes op a) w e w' := by
  obtain ⟨r, hr⟩ : ∃ r, r = takes op a := ⟨_, rfl⟩
  have HR := Lib.hid hr
  rw [← hr]
  clear hr
  obtain ⟨cb, hcb0⟩ : ∃ cb, cb = decide (cnt op) := ⟨_, rfl⟩
  have HC := Lib.hid (fun w => counted_any op w)
  rw [← hcb0] at HC
  unfold TkQ
  have HR2 := Lib.hid (show r = some (0, 1, 0, 0) by
    rw [HR.out]; unfold takes cnt jmp
    rw [if_neg (by omega), if_neg (by omega), if_neg (by omega), if_pos (by omega)])
  have hcb : cb = false := by rw [hcb0]; exact decide_eq_false (by unfold cnt; omega)
  rw [hcb] at HC
  have a0 : ¬ a < 0 := by omega
  have na : (a != 0) = false := by unfold bne; rw [beq_iff_eq.2 h0]; rfl
  have q36 : (op == 36) = false := beq_eq_false_iff_ne.2 (by omega)
  have q25 : (op == 25) = false := beq_eq_false_iff_ne.2 (by omega)
  have q29 : (op == 29) = false := beq_eq_false_iff_ne.2 (by omega)
  have q8 : (op == 8) = false := beq_eq_false_iff_ne.2 (by omega)
  have q24 : (op == 24) = false := beq_eq_false_iff_ne.2 (by omega)
  have q28 : (op == 28) = false := beq_eq_false_iff_ne.2 (by omega)
  have q37 : (op == 37) = false := beq_eq_false_iff_ne.2 (by omega)
  have q22 : (op == 22) = false := beq_eq_false_iff_ne.2 (by omega)
  have q35 : (op == 35) = false := beq_eq_false_iff_ne.2 (by omega)
  have q101 : (op == 101) = false := beq_eq_false_iff_ne.2 (by omega)
  have q102 : (op == 102) = false := beq_eq_false_iff_ne.2 (by omega)
  have q103 : (op == 103) = false := beq_eq_false_iff_ne.2 (by omega)
  have q104 : (op == 104) = false := beq_eq_false_iff_ne.2 (by omega)
  have n101 : (op != 101) = true := by unfold bne; rw [q101]; rfl
  have n102 : (op != 102) = true := by unfold bne; rw [q102]; rfl
  have g1 : 1 ≤ op := by omega
  have g9 : ¬ 9 ≤ op := by omega
  have g30 : ¬ 30 ≤ op := by omega
  have l7 : op ≤ 7 := by omega
  have l20 : op ≤ 20 := by omega
  have l34 : op ≤ 34 := by omega
  clear HR hcb0 hcb
  clear h2 h3 h0
  go_enter Tryd.func53, Tryd.ntmps53
  go_wp2_with (go_at_call 61; ((with_reducible refine (HC.out _).mono ?_); rintro e w' ⟨rfl, rfl⟩))
  refine bodyPost_ret (results_tmp5 rfl _ _ _) rfl ?_
  exact ⟨by rw [HR2.out]; rfl, by (repeat' (first | (with_reducible exact Below.refl _ _) | (with_reducible assumption) | (with_reducible refine Below.alloc ?_ ?_ _) | (with_reducible refine below_drewN ?_ _) | (with_reducible refine below_drew ?_) | (with_reducible refine below_ext ?_ ?_ _ _) | (with_reducible refine Below.setCell ?_ ?_ _) | (simp; done) | (simp; omega) | omega))⟩
set_option maxRecDepth 100000 in
theorem tk_z8 (op a : Int) (t : ByteArray) (neg : Bool) (hh l s day : Int) (w : World) (h2 : 8 ≤ op) (h3 : op ≤ 8) (h0 : a = 0) :
    Calls Tryd.prog 53 #[InsV op a t neg hh l s day] w fun e w' => TkQ (takes op a) w e w' := by
  obtain ⟨r, hr⟩ : ∃ r, r = takes op a := ⟨_, rfl⟩
  have HR := Lib.hid hr
  rw [← hr]
  clear hr
  obtain ⟨cb, hcb0⟩ : ∃ cb, cb = decide (cnt op) := ⟨_, rfl⟩
  have HC := Lib.hid (fun w => counted_any op w)
  rw [← hcb0] at HC
  unfold TkQ
  have HR2 := Lib.hid (show r = some (1, 1, 0, 0) by
    rw [HR.out]; unfold takes cnt jmp
    rw [if_neg (by omega), if_neg (by omega), if_neg (by omega), if_neg (by omega), if_pos (by omega)])
  have hcb : cb = false := by rw [hcb0]; exact decide_eq_false (by unfold cnt; omega)
  rw [hcb] at HC
  have a0 : ¬ a < 0 := by omega
  have na : (a != 0) = false := by unfold bne; rw [beq_iff_eq.2 h0]; rfl
  have q36 : (op == 36) = false := beq_eq_false_iff_ne.2 (by omega)
  have q25 : (op == 25) = false := beq_eq_false_iff_ne.2 (by omega)
  have q29 : (op == 29) = false := beq_eq_false_iff_ne.2 (by omega)
  have q8 : (op == 8) = true := beq_iff_eq.2 (by omega)
  have q24 : (op == 24) = false := beq_eq_false_iff_ne.2 (by omega)
  have q28 : (op == 28) = false := beq_eq_false_iff_ne.2 (by omega)
  have q37 : (op == 37) = false := beq_eq_false_iff_ne.2 (by omega)
  have q22 : (op == 22) = false := beq_eq_false_iff_ne.2 (by omega)
  have q35 : (op == 35) = false := beq_eq_false_iff_ne.2 (by omega)
  have q101 : (op == 101) = false := beq_eq_false_iff_ne.2 (by omega)
  have q102 : (op == 102) = false := beq_eq_false_iff_ne.2 (by omega)
  have q103 : (op == 103) = false := beq_eq_false_iff_ne.2 (by omega)
  have q104 : (op == 104) = false := beq_eq_false_iff_ne.2 (by omega)
  have n101 : (op != 101) = true := by unfold bne; rw [q101]; rfl
  have n102 : (op != 102) = true := by unfold bne; rw [q102]; rfl
  have g1 : 1 ≤ op := by omega
  have g9 : ¬ 9 ≤ op := by omega
  have g30 : ¬ 30 ≤ op := by omega
  have l7 : ¬ op ≤ 7 := by omega
  have l20 : op ≤ 20 := by omega
  have l34 : op ≤ 34 := by omega
  clear HR hcb0 hcb
  clear h2 h3 h0
  go_enter Tryd.func53, Tryd.ntmps53
  go_wp2_with (go_at_call 61; ((with_reducible refine (HC.out _).mono ?_); rintro e w' ⟨rfl, rfl⟩))
  refine bodyPost_ret (results_tmp5 rfl _ _ _) rfl ?_
  exact ⟨by rw [HR2.out]; rfl, by (repeat' (first | (with_reducible exact Below.refl _ _) | (with_reducible assumption) | (with_reducible refine Below.alloc ?_ ?_ _) | (with_reducible refine below_drewN ?_ _) | (with_reducible refine below_drew ?_) | (with_reducible refine below_ext ?_ ?_ _ _) | (with_reducible refine Below.setCell ?_ ?_ _) | (simp; done) | (simp; omega) | omega))⟩
set_option maxRecDepth 100000 in
theorem tk_z9 (op a : Int) (t : ByteArray) (neg : Bool) (hh l s day : Int) (w : World) (h2 : 9 ≤ op) (h3 : op ≤ 20) (h0 : a = 0) :
    Calls Tryd.prog 53 #[InsV op a t neg hh l s day] w fun e w' => TkQ (takes op a) w e w' := by
  obtain ⟨r, hr⟩ : ∃ r, r = takes op a := ⟨_, rfl⟩
  have HR := Lib.hid hr
  rw [← hr]
  clear hr
  obtain ⟨cb, hcb0⟩ : ∃ cb, cb = decide (cnt op) := ⟨_, rfl⟩
  have HC := Lib.hid (fun w => counted_any op w)
  rw [← hcb0] at HC
  unfold TkQ
  have HR2 := Lib.hid (show r = some (2, 1, 0, 0) by
    rw [HR.out]; unfold takes cnt jmp
    rw [if_neg (by omega), if_neg (by omega), if_neg (by omega), if_neg (by omega), if_neg (by omega), if_pos (by omega)])
  have hcb : cb = false := by rw [hcb0]; exact decide_eq_false (by unfold cnt; omega)
  rw [hcb] at HC
  have a0 : ¬ a < 0 := by omega
  have na : (a != 0) = false := by unfold bne; rw [beq_iff_eq.2 h0]; rfl
  have q36 : (op == 36) = false := beq_eq_false_iff_ne.2 (by omega)
  have q25 : (op == 25) = false := beq_eq_false_iff_ne.2 (by omega)
  have q29 : (op == 29) = false := beq_eq_false_iff_ne.2 (by omega)
  have q8 : (op == 8) = false := beq_eq_false_iff_ne.2 (by omega)
  have q24 : (op == 24) = false := beq_eq_false_iff_ne.2 (by omega)
  have q28 : (op == 28) = false := beq_eq_false_iff_ne.2 (by omega)
  have q37 : (op == 37) = false := beq_eq_false_iff_ne.2 (by omega)
  have q22 : (op == 22) = false := beq_eq_false_iff_ne.2 (by omega)
  have q35 : (op == 35) = false := beq_eq_false_iff_ne.2 (by omega)
  have q101 : (op == 101) = false := beq_eq_false_iff_ne.2 (by omega)
  have q102 : (op == 102) = false := beq_eq_false_iff_ne.2 (by omega)
  have q103 : (op == 103) = false := beq_eq_false_iff_ne.2 (by omega)
  have q104 : (op == 104) = false := beq_eq_false_iff_ne.2 (by omega)
  have n101 : (op != 101) = true := by unfold bne; rw [q101]; rfl
  have n102 : (op != 102) = true := by unfold bne; rw [q102]; rfl
  have g1 : 1 ≤ op := by omega
  have g9 : 9 ≤ op := by omega
  have g30 : ¬ 30 ≤ op := by omega
  have l7 : ¬ op ≤ 7 := by omega
  have l20 : op ≤ 20 := by omega
  have l34 : op ≤ 34 := by omega
  clear HR hcb0 hcb
  clear h2 h3 h0
  go_enter Tryd.func53, Tryd.ntmps53
  go_wp2_with (go_at_call 61; ((with_reducible refine (HC.out _).mono ?_); rintro e w' ⟨rfl, rfl⟩))
  refine bodyPost_ret (results_tmp5 rfl _ _ _) rfl ?_
  exact ⟨by rw [HR2.out]; rfl, by (repeat' (first | (with_reducible exact Below.refl _ _) | (with_reducible assumption) | (with_reducible refine Below.alloc ?_ ?_ _) | (with_reducible refine below_drewN ?_ _) | (with_reducible refine below_drew ?_) | (with_reducible refine below_ext ?_ ?_ _ _) | (with_reducible refine Below.setCell ?_ ?_ _) | (simp; done) | (simp; omega) | omega))⟩
set_option maxRecDepth 100000 in
theorem tk_z21 (op a : Int) (t : ByteArray) (neg : Bool) (hh l s day : Int) (w : World) (h2 : 21 ≤ op) (h3 : op ≤ 21) (h0 : a = 0) :
    Calls Tryd.prog 53 #[InsV op a t neg hh l s day] w fun e w' => TkQ (takes op a) w e w' := by
  obtain ⟨r, hr⟩ : ∃ r, r = takes op a := ⟨_, rfl⟩
  have HR := Lib.hid hr
  rw [← hr]
  clear hr
  obtain ⟨cb, hcb0⟩ : ∃ cb, cb = decide (cnt op) := ⟨_, rfl⟩
  have HC := Lib.hid (fun w => counted_any op w)
  rw [← hcb0] at HC
  unfold TkQ
  have HR2 := Lib.hid (show r = none by
    rw [HR.out]; unfold takes cnt jmp
    rw [if_neg (by omega), if_neg (by omega), if_neg (by omega), if_neg (by omega), if_neg (by omega), if_neg (by omega), if_neg (by omega), if_neg (by omega), if_neg (by omega), if_neg (by omega), if_neg (by omega), if_neg (by omega), if_neg (by omega)])
  have hcb : cb = false := by rw [hcb0]; exact decide_eq_false (by unfold cnt; omega)
  rw [hcb] at HC
  have a0 : ¬ a < 0 := by omega
  have na : (a != 0) = false := by unfold bne; rw [beq_iff_eq.2 h0]; rfl
  have q36 : (op == 36) = false := beq_eq_false_iff_ne.2 (by omega)
  have q25 : (op == 25) = false := beq_eq_false_iff_ne.2 (by omega)
  have q29 : (op == 29) = false := beq_eq_false_iff_ne.2 (by omega)
  have q8 : (op == 8) = false := beq_eq_false_iff_ne.2 (by omega)
  have q24 : (op == 24) = false := beq_eq_false_iff_ne.2 (by omega)
  have q28 : (op == 28) = false := beq_eq_false_iff_ne.2 (by omega)
  have q37 : (op == 37) = false := beq_eq_false_iff_ne.2 (by omega)
  have q22 : (op == 22) = false := beq_eq_false_iff_ne.2 (by omega)
  have q35 : (op == 35) = false := beq_eq_false_iff_ne.2 (by omega)
  have q101 : (op == 101) = false := beq_eq_false_iff_ne.2 (by omega)
  have q102 : (op == 102) = false := beq_eq_false_iff_ne.2 (by omega)
  have q103 : (op == 103) = false := beq_eq_false_iff_ne.2 (by omega)
  have q104 : (op == 104) = false := beq_eq_false_iff_ne.2 (by omega)
  have n101 : (op != 101) = true := by unfold bne; rw [q101]; rfl
  have n102 : (op != 102) = true := by unfold bne; rw [q102]; rfl
  have g1 : 1 ≤ op := by omega
  have g9 : 9 ≤ op := by omega
  have g30 : ¬ 30 ≤ op := by omega
  have l7 : ¬ op ≤ 7 := by omega
  have l20 : ¬ op ≤ 20 := by omega
  have l34 : op ≤ 34 := by omega
  clear HR hcb0 hcb
  clear h2 h3 h0
  go_enter Tryd.func53, Tryd.ntmps53
  go_wp2_with (go_at_call 61; ((with_reducible refine (HC.out _).mono ?_); rintro e w' ⟨rfl, rfl⟩))
  refine bodyPost_ret (results_tmp5 rfl _ _ _) rfl ?_
  exact ⟨by rw [HR2.out]; rfl, by (repeat' (first | (with_reducible exact Below.refl _ _) | (with_reducible assumption) | (with_reducible refine Below.alloc ?_ ?_ _) | (with_reducible refine below_drewN ?_ _) | (with_reducible refine below_drew ?_) | (with_reducible refine below_ext ?_ ?_ _ _) | (with_reducible refine Below.setCell ?_ ?_ _) | (simp; done) | (simp; omega) | omega))⟩
set_option maxRecDepth 100000 in
theorem tk_z22 (op a : Int) (t : ByteArray) (neg : Bool) (hh l s day : Int) (w : World) (h2 : 22 ≤ op) (h3 : op ≤ 22) (h0 : a = 0) :
    Calls Tryd.prog 53 #[InsV op a t neg hh l s day] w fun e w' => TkQ (takes op a) w e w' := by
  obtain ⟨r, hr⟩ : ∃ r, r = takes op a := ⟨_, rfl⟩
  have HR := Lib.hid hr
  rw [← hr]
  clear hr
  obtain ⟨cb, hcb0⟩ : ∃ cb, cb = decide (cnt op) := ⟨_, rfl⟩
  have HC := Lib.hid (fun w => counted_any op w)
  rw [← hcb0] at HC
  unfold TkQ
  have HR2 := Lib.hid (show r = some (3, 1, 0, 0) by
    rw [HR.out]; unfold takes cnt jmp
    rw [if_neg (by omega), if_neg (by omega), if_neg (by omega), if_neg (by omega), if_neg (by omega), if_neg (by omega), if_pos (by omega)])
  have hcb : cb = false := by rw [hcb0]; exact decide_eq_false (by unfold cnt; omega)
  rw [hcb] at HC
  have a0 : ¬ a < 0 := by omega
  have na : (a != 0) = false := by unfold bne; rw [beq_iff_eq.2 h0]; rfl
  have q36 : (op == 36) = false := beq_eq_false_iff_ne.2 (by omega)
  have q25 : (op == 25) = false := beq_eq_false_iff_ne.2 (by omega)
  have q29 : (op == 29) = false := beq_eq_false_iff_ne.2 (by omega)
  have q8 : (op == 8) = false := beq_eq_false_iff_ne.2 (by omega)
  have q24 : (op == 24) = false := beq_eq_false_iff_ne.2 (by omega)
  have q28 : (op == 28) = false := beq_eq_false_iff_ne.2 (by omega)
  have q37 : (op == 37) = false := beq_eq_false_iff_ne.2 (by omega)
  have q22 : (op == 22) = true := beq_iff_eq.2 (by omega)
  have q35 : (op == 35) = false := beq_eq_false_iff_ne.2 (by omega)
  have q101 : (op == 101) = false := beq_eq_false_iff_ne.2 (by omega)
  have q102 : (op == 102) = false := beq_eq_false_iff_ne.2 (by omega)
  have q103 : (op == 103) = false := beq_eq_false_iff_ne.2 (by omega)
  have q104 : (op == 104) = false := beq_eq_false_iff_ne.2 (by omega)
  have n101 : (op != 101) = true := by unfold bne; rw [q101]; rfl
  have n102 : (op != 102) = true := by unfold bne; rw [q102]; rfl
  have g1 : 1 ≤ op := by omega
  have g9 : 9 ≤ op := by omega
  have g30 : ¬ 30 ≤ op := by omega
  have l7 : ¬ op ≤ 7 := by omega
  have l20 : ¬ op ≤ 20 := by omega
  have l34 : op ≤ 34 := by omega
  clear HR hcb0 hcb
  clear h2 h3 h0
  go_enter Tryd.func53, Tryd.ntmps53
  go_wp2_with (go_at_call 61; ((with_reducible refine (HC.out _).mono ?_); rintro e w' ⟨rfl, rfl⟩))
  refine bodyPost_ret (results_tmp5 rfl _ _ _) rfl ?_
  exact ⟨by rw [HR2.out]; rfl, by (repeat' (first | (with_reducible exact Below.refl _ _) | (with_reducible assumption) | (with_reducible refine Below.alloc ?_ ?_ _) | (with_reducible refine below_drewN ?_ _) | (with_reducible refine below_drew ?_) | (with_reducible refine below_ext ?_ ?_ _ _) | (with_reducible refine Below.setCell ?_ ?_ _) | (simp; done) | (simp; omega) | omega))⟩
set_option maxRecDepth 100000 in
theorem tk_z23 (op a : Int) (t : ByteArray) (neg : Bool) (hh l s day : Int) (w : World) (h2 : 23 ≤ op) (h3 : op ≤ 23) (h0 : a = 0) :
    Calls Tryd.prog 53 #[InsV op a t neg hh l s day] w fun e w' => TkQ (takes op a) w e w' := by
  obtain ⟨r, hr⟩ : ∃ r, r = takes op a := ⟨_, rfl⟩
  have HR := Lib.hid hr
  rw [← hr]
  clear hr
  obtain ⟨cb, hcb0⟩ : ∃ cb, cb = decide (cnt op) := ⟨_, rfl⟩
  have HC := Lib.hid (fun w => counted_any op w)
  rw [← hcb0] at HC
  unfold TkQ
  have HR2 := Lib.hid (show r = none by
    rw [HR.out]; unfold takes cnt jmp
    rw [if_neg (by omega), if_neg (by omega), if_neg (by omega), if_neg (by omega), if_neg (by omega), if_neg (by omega), if_neg (by omega), if_neg (by omega), if_neg (by omega), if_neg (by omega), if_neg (by omega), if_neg (by omega), if_neg (by omega)])
  have hcb : cb = false := by rw [hcb0]; exact decide_eq_false (by unfold cnt; omega)
  rw [hcb] at HC
  have a0 : ¬ a < 0 := by omega
  have na : (a != 0) = false := by unfold bne; rw [beq_iff_eq.2 h0]; rfl
  have q36 : (op == 36) = false := beq_eq_false_iff_ne.2 (by omega)
  have q25 : (op == 25) = false := beq_eq_false_iff_ne.2 (by omega)
  have q29 : (op == 29) = false := beq_eq_false_iff_ne.2 (by omega)
  have q8 : (op == 8) = false := beq_eq_false_iff_ne.2 (by omega)
  have q24 : (op == 24) = false := beq_eq_false_iff_ne.2 (by omega)
  have q28 : (op == 28) = false := beq_eq_false_iff_ne.2 (by omega)
  have q37 : (op == 37) = false := beq_eq_false_iff_ne.2 (by omega)
  have q22 : (op == 22) = false := beq_eq_false_iff_ne.2 (by omega)
  have q35 : (op == 35) = false := beq_eq_false_iff_ne.2 (by omega)
  have q101 : (op == 101) = false := beq_eq_false_iff_ne.2 (by omega)
  have q102 : (op == 102) = false := beq_eq_false_iff_ne.2 (by omega)
  have q103 : (op == 103) = false := beq_eq_false_iff_ne.2 (by omega)
  have q104 : (op == 104) = false := beq_eq_false_iff_ne.2 (by omega)
  have n101 : (op != 101) = true := by unfold bne; rw [q101]; rfl
  have n102 : (op != 102) = true := by unfold bne; rw [q102]; rfl
  have g1 : 1 ≤ op := by omega
  have g9 : 9 ≤ op := by omega
  have g30 : ¬ 30 ≤ op := by omega
  have l7 : ¬ op ≤ 7 := by omega
  have l20 : ¬ op ≤ 20 := by omega
  have l34 : op ≤ 34 := by omega
  clear HR hcb0 hcb
  clear h2 h3 h0
  go_enter Tryd.func53, Tryd.ntmps53
  go_wp2_with (go_at_call 61; ((with_reducible refine (HC.out _).mono ?_); rintro e w' ⟨rfl, rfl⟩))
  refine bodyPost_ret (results_tmp5 rfl _ _ _) rfl ?_
  exact ⟨by rw [HR2.out]; rfl, by (repeat' (first | (with_reducible exact Below.refl _ _) | (with_reducible assumption) | (with_reducible refine Below.alloc ?_ ?_ _) | (with_reducible refine below_drewN ?_ _) | (with_reducible refine below_drew ?_) | (with_reducible refine below_ext ?_ ?_ _ _) | (with_reducible refine Below.setCell ?_ ?_ _) | (simp; done) | (simp; omega) | omega))⟩
set_option maxRecDepth 100000 in
theorem tk_z24 (op a : Int) (t : ByteArray) (neg : Bool) (hh l s day : Int) (w : World) (h2 : 24 ≤ op) (h3 : op ≤ 24) (h0 : a = 0) :
    Calls Tryd.prog 53 #[InsV op a t neg hh l s day] w fun e w' => TkQ (takes op a) w e w' := by
  obtain ⟨r, hr⟩ : ∃ r, r = takes op a := ⟨_, rfl⟩
  have HR := Lib.hid hr
  rw [← hr]
  clear hr
  obtain ⟨cb, hcb0⟩ : ∃ cb, cb = decide (cnt op) := ⟨_, rfl⟩
  have HC := Lib.hid (fun w => counted_any op w)
  rw [← hcb0] at HC
  unfold TkQ
  have HR2 := Lib.hid (show r = some (1, 1, 0, 0) by
    rw [HR.out]; unfold takes cnt jmp
    rw [if_neg (by omega), if_neg (by omega), if_neg (by omega), if_neg (by omega), if_pos (by omega)])
  have hcb : cb = false := by rw [hcb0]; exact decide_eq_false (by unfold cnt; omega)
  rw [hcb] at HC
  have a0 : ¬ a < 0 := by omega
  have na : (a != 0) = false := by unfold bne; rw [beq_iff_eq.2 h0]; rfl
  have q36 : (op == 36) = false := beq_eq_false_iff_ne.2 (by omega)
  have q25 : (op == 25) = false := beq_eq_false_iff_ne.2 (by omega)
  have q29 : (op == 29) = false := beq_eq_false_iff_ne.2 (by omega)
  have q8 : (op == 8) = false := beq_eq_false_iff_ne.2 (by omega)
  have q24 : (op == 24) = true := beq_iff_eq.2 (by omega)
  have q28 : (op == 28) = false := beq_eq_false_iff_ne.2 (by omega)
  have q37 : (op == 37) = false := beq_eq_false_iff_ne.2 (by omega)
  have q22 : (op == 22) = false := beq_eq_false_iff_ne.2 (by omega)
  have q35 : (op == 35) = false := beq_eq_false_iff_ne.2 (by omega)
  have q101 : (op == 101) = false := beq_eq_false_iff_ne.2 (by omega)
  have q102 : (op == 102) = false := beq_eq_false_iff_ne.2 (by omega)
  have q103 : (op == 103) = false := beq_eq_false_iff_ne.2 (by omega)
  have q104 : (op == 104) = false := beq_eq_false_iff_ne.2 (by omega)
  have n101 : (op != 101) = true := by unfold bne; rw [q101]; rfl
  have n102 : (op != 102) = true := by unfold bne; rw [q102]; rfl
  have g1 : 1 ≤ op := by omega
  have g9 : 9 ≤ op := by omega
  have g30 : ¬ 30 ≤ op := by omega
  have l7 : ¬ op ≤ 7 := by omega
  have l20 : ¬ op ≤ 20 := by omega
  have l34 : op ≤ 34 := by omega
  clear HR hcb0 hcb
  clear h2 h3 h0
  go_enter Tryd.func53, Tryd.ntmps53
  go_wp2_with (go_at_call 61; ((with_reducible refine (HC.out _).mono ?_); rintro e w' ⟨rfl, rfl⟩))
  refine bodyPost_ret (results_tmp5 rfl _ _ _) rfl ?_
  exact ⟨by rw [HR2.out]; rfl, by (repeat' (first | (with_reducible exact Below.refl _ _) | (with_reducible assumption) | (with_reducible refine Below.alloc ?_ ?_ _) | (with_reducible refine below_drewN ?_ _) | (with_reducible refine below_drew ?_) | (with_reducible refine below_ext ?_ ?_ _ _) | (with_reducible refine Below.setCell ?_ ?_ _) | (simp; done) | (simp; omega) | omega))⟩
set_option maxRecDepth 100000 in
theorem tk_z28 (op a : Int) (t : ByteArray) (neg : Bool) (hh l s day : Int) (w : World) (h2 : 28 ≤ op) (h3 : op ≤ 28) (h0 : a = 0) :
    Calls Tryd.prog 53 #[InsV op a t neg hh l s day] w fun e w' => TkQ (takes op a) w e w' := by
  obtain ⟨r, hr⟩ : ∃ r, r = takes op a := ⟨_, rfl⟩
  have HR := Lib.hid hr
  rw [← hr]
  clear hr
  obtain ⟨cb, hcb0⟩ : ∃ cb, cb = decide (cnt op) := ⟨_, rfl⟩
  have HC := Lib.hid (fun w => counted_any op w)
  rw [← hcb0] at HC
  unfold TkQ
  have HR2 := Lib.hid (show r = some (1, 1, 0, 0) by
    rw [HR.out]; unfold takes cnt jmp
    rw [if_neg (by omega), if_neg (by omega), if_neg (by omega), if_neg (by omega), if_pos (by omega)])
  have hcb : cb = false := by rw [hcb0]; exact decide_eq_false (by unfold cnt; omega)
  rw [hcb] at HC
  have a0 : ¬ a < 0 := by omega
  have na : (a != 0) = false := by unfold bne; rw [beq_iff_eq.2 h0]; rfl
  have q36 : (op == 36) = false := beq_eq_false_iff_ne.2 (by omega)
  have q25 : (op == 25) = false := beq_eq_false_iff_ne.2 (by omega)
  have q29 : (op == 29) = false := beq_eq_false_iff_ne.2 (by omega)
  have q8 : (op == 8) = false := beq_eq_false_iff_ne.2 (by omega)
  have q24 : (op == 24) = false := beq_eq_false_iff_ne.2 (by omega)
  have q28 : (op == 28) = true := beq_iff_eq.2 (by omega)
  have q37 : (op == 37) = false := beq_eq_false_iff_ne.2 (by omega)
  have q22 : (op == 22) = false := beq_eq_false_iff_ne.2 (by omega)
  have q35 : (op == 35) = false := beq_eq_false_iff_ne.2 (by omega)
  have q101 : (op == 101) = false := beq_eq_false_iff_ne.2 (by omega)
  have q102 : (op == 102) = false := beq_eq_false_iff_ne.2 (by omega)
  have q103 : (op == 103) = false := beq_eq_false_iff_ne.2 (by omega)
  have q104 : (op == 104) = false := beq_eq_false_iff_ne.2 (by omega)
  have n101 : (op != 101) = true := by unfold bne; rw [q101]; rfl
  have n102 : (op != 102) = true := by unfold bne; rw [q102]; rfl
  have g1 : 1 ≤ op := by omega
  have g9 : 9 ≤ op := by omega
  have g30 : ¬ 30 ≤ op := by omega
  have l7 : ¬ op ≤ 7 := by omega
  have l20 : ¬ op ≤ 20 := by omega
  have l34 : op ≤ 34 := by omega
  clear HR hcb0 hcb
  clear h2 h3 h0
  go_enter Tryd.func53, Tryd.ntmps53
  go_wp2_with (go_at_call 61; ((with_reducible refine (HC.out _).mono ?_); rintro e w' ⟨rfl, rfl⟩))
  refine bodyPost_ret (results_tmp5 rfl _ _ _) rfl ?_
  exact ⟨by rw [HR2.out]; rfl, by (repeat' (first | (with_reducible exact Below.refl _ _) | (with_reducible assumption) | (with_reducible refine Below.alloc ?_ ?_ _) | (with_reducible refine below_drewN ?_ _) | (with_reducible refine below_drew ?_) | (with_reducible refine below_ext ?_ ?_ _ _) | (with_reducible refine Below.setCell ?_ ?_ _) | (simp; done) | (simp; omega) | omega))⟩
set_option maxRecDepth 100000 in
theorem tk_z29 (op a : Int) (t : ByteArray) (neg : Bool) (hh l s day : Int) (w : World) (h2 : 29 ≤ op) (h3 : op ≤ 29) (h0 : a = 0) :
    Calls Tryd.prog 53 #[InsV op a t neg hh l s day] w fun e w' => TkQ (takes op a) w e w' := by
  obtain ⟨r, hr⟩ : ∃ r, r = takes op a := ⟨_, rfl⟩
  have HR := Lib.hid hr
  rw [← hr]
  clear hr
  obtain ⟨cb, hcb0⟩ : ∃ cb, cb = decide (cnt op) := ⟨_, rfl⟩
  have HC := Lib.hid (fun w => counted_any op w)
  rw [← hcb0] at HC
  unfold TkQ
  have HR2 := Lib.hid (show r = some (0, 1, 0, 0) by
    rw [HR.out]; unfold takes cnt jmp
    rw [if_neg (by omega), if_neg (by omega), if_neg (by omega), if_pos (by omega)])
  have hcb : cb = false := by rw [hcb0]; exact decide_eq_false (by unfold cnt; omega)
  rw [hcb] at HC
  have a0 : ¬ a < 0 := by omega
  have na : (a != 0) = false := by unfold bne; rw [beq_iff_eq.2 h0]; rfl
  have q36 : (op == 36) = false := beq_eq_false_iff_ne.2 (by omega)
  have q25 : (op == 25) = false := beq_eq_false_iff_ne.2 (by omega)
  have q29 : (op == 29) = true := beq_iff_eq.2 (by omega)
  have q8 : (op == 8) = false := beq_eq_false_iff_ne.2 (by omega)
  have q24 : (op == 24) = false := beq_eq_false_iff_ne.2 (by omega)
  have q28 : (op == 28) = false := beq_eq_false_iff_ne.2 (by omega)
  have q37 : (op == 37) = false := beq_eq_false_iff_ne.2 (by omega)
  have q22 : (op == 22) = false := beq_eq_false_iff_ne.2 (by omega)
  have q35 : (op == 35) = false := beq_eq_false_iff_ne.2 (by omega)
  have q101 : (op == 101) = false := beq_eq_false_iff_ne.2 (by omega)
  have q102 : (op == 102) = false := beq_eq_false_iff_ne.2 (by omega)
  have q103 : (op == 103) = false := beq_eq_false_iff_ne.2 (by omega)
  have q104 : (op == 104) = false := beq_eq_false_iff_ne.2 (by omega)
  have n101 : (op != 101) = true := by unfold bne; rw [q101]; rfl
  have n102 : (op != 102) = true := by unfold bne; rw [q102]; rfl
  have g1 : 1 ≤ op := by omega
  have g9 : 9 ≤ op := by omega
  have g30 : ¬ 30 ≤ op := by omega
  have l7 : ¬ op ≤ 7 := by omega
  have l20 : ¬ op ≤ 20 := by omega
  have l34 : op ≤ 34 := by omega
  clear HR hcb0 hcb
  clear h2 h3 h0
  go_enter Tryd.func53, Tryd.ntmps53
  go_wp2_with (go_at_call 61; ((with_reducible refine (HC.out _).mono ?_); rintro e w' ⟨rfl, rfl⟩))
  refine bodyPost_ret (results_tmp5 rfl _ _ _) rfl ?_
  exact ⟨by rw [HR2.out]; rfl, by (repeat' (first | (with_reducible exact Below.refl _ _) | (with_reducible assumption) | (with_reducible refine Below.alloc ?_ ?_ _) | (with_reducible refine below_drewN ?_ _) | (with_reducible refine below_drew ?_) | (with_reducible refine below_ext ?_ ?_ _ _) | (with_reducible refine Below.setCell ?_ ?_ _) | (simp; done) | (simp; omega) | omega))⟩
set_option maxRecDepth 100000 in
theorem tk_z30 (op a : Int) (t : ByteArray) (neg : Bool) (hh l s day : Int) (w : World) (h2 : 30 ≤ op) (h3 : op ≤ 34) (h0 : a = 0) :
    Calls Tryd.prog 53 #[InsV op a t neg hh l s day] w fun e w' => TkQ (takes op a) w e w' := by
  obtain ⟨r, hr⟩ : ∃ r, r = takes op a := ⟨_, rfl⟩
  have HR := Lib.hid hr
  rw [← hr]
  clear hr
  obtain ⟨cb, hcb0⟩ : ∃ cb, cb = decide (cnt op) := ⟨_, rfl⟩
  have HC := Lib.hid (fun w => counted_any op w)
  rw [← hcb0] at HC
  unfold TkQ
  have HR2 := Lib.hid (show r = some (1, 1, 0, 1) by
    rw [HR.out]; unfold takes cnt jmp
    rw [if_neg (by omega), if_neg (by omega), if_neg (by omega), if_neg (by omega), if_neg (by omega), if_neg (by omega), if_neg (by omega), if_pos (by omega)])
  have hcb : cb = false := by rw [hcb0]; exact decide_eq_false (by unfold cnt; omega)
  rw [hcb] at HC
  have a0 : ¬ a < 0 := by omega
  have na : (a != 0) = false := by unfold bne; rw [beq_iff_eq.2 h0]; rfl
  have q36 : (op == 36) = false := beq_eq_false_iff_ne.2 (by omega)
  have q25 : (op == 25) = false := beq_eq_false_iff_ne.2 (by omega)
  have q29 : (op == 29) = false := beq_eq_false_iff_ne.2 (by omega)
  have q8 : (op == 8) = false := beq_eq_false_iff_ne.2 (by omega)
  have q24 : (op == 24) = false := beq_eq_false_iff_ne.2 (by omega)
  have q28 : (op == 28) = false := beq_eq_false_iff_ne.2 (by omega)
  have q37 : (op == 37) = false := beq_eq_false_iff_ne.2 (by omega)
  have q22 : (op == 22) = false := beq_eq_false_iff_ne.2 (by omega)
  have q35 : (op == 35) = false := beq_eq_false_iff_ne.2 (by omega)
  have q101 : (op == 101) = false := beq_eq_false_iff_ne.2 (by omega)
  have q102 : (op == 102) = false := beq_eq_false_iff_ne.2 (by omega)
  have q103 : (op == 103) = false := beq_eq_false_iff_ne.2 (by omega)
  have q104 : (op == 104) = false := beq_eq_false_iff_ne.2 (by omega)
  have n101 : (op != 101) = true := by unfold bne; rw [q101]; rfl
  have n102 : (op != 102) = true := by unfold bne; rw [q102]; rfl
  have g1 : 1 ≤ op := by omega
  have g9 : 9 ≤ op := by omega
  have g30 : 30 ≤ op := by omega
  have l7 : ¬ op ≤ 7 := by omega
  have l20 : ¬ op ≤ 20 := by omega
  have l34 : op ≤ 34 := by omega
  clear HR hcb0 hcb
  clear h2 h3 h0
  go_enter Tryd.func53, Tryd.ntmps53
  go_wp2_with (go_at_call 61; ((with_reducible refine (HC.out _).mono ?_); rintro e w' ⟨rfl, rfl⟩))
  refine bodyPost_ret (results_tmp5 rfl _ _ _) rfl ?_
  exact ⟨by rw [HR2.out]; rfl, by (repeat' (first | (with_reducible exact Below.refl _ _) | (with_reducible assumption) | (with_reducible refine Below.alloc ?_ ?_ _) | (with_reducible refine below_drewN ?_ _) | (with_reducible refine below_drew ?_) | (with_reducible refine below_ext ?_ ?_ _ _) | (with_reducible refine Below.setCell ?_ ?_ _) | (simp; done) | (simp; omega) | omega))⟩
set_option maxRecDepth 100000 in
theorem tk_z35 (op a : Int) (t : ByteArray) (neg : Bool) (hh l s day : Int) (w : World) (h2 : 35 ≤ op) (h3 : op ≤ 35) (h0 : a = 0) :
    Calls Tryd.prog 53 #[InsV op a t neg hh l s day] w fun e w' => TkQ (takes op a) w e w' := by
  obtain ⟨r, hr⟩ : ∃ r, r = takes op a := ⟨_, rfl⟩
  have HR := Lib.hid hr
  rw [← hr]
  clear hr
  obtain ⟨cb, hcb0⟩ : ∃ cb, cb = decide (cnt op) := ⟨_, rfl⟩
  have HC := Lib.hid (fun w => counted_any op w)
  rw [← hcb0] at HC
  unfold TkQ
  have HR2 := Lib.hid (show r = some (2, 1, 0, 1) by
    rw [HR.out]; unfold takes cnt jmp
    rw [if_neg (by omega), if_neg (by omega), if_neg (by omega), if_neg (by omega), if_neg (by omega), if_neg (by omega), if_neg (by omega), if_neg (by omega), if_pos (by omega)])
  have hcb : cb = false := by rw [hcb0]; exact decide_eq_false (by unfold cnt; omega)
  rw [hcb] at HC
  have a0 : ¬ a < 0 := by omega
  have na : (a != 0) = false := by unfold bne; rw [beq_iff_eq.2 h0]; rfl
  have q36 : (op == 36) = false := beq_eq_false_iff_ne.2 (by omega)
  have q25 : (op == 25) = false := beq_eq_false_iff_ne.2 (by omega)
  have q29 : (op == 29) = false := beq_eq_false_iff_ne.2 (by omega)
  have q8 : (op == 8) = false := beq_eq_false_iff_ne.2 (by omega)
  have q24 : (op == 24) = false := beq_eq_false_iff_ne.2 (by omega)
  have q28 : (op == 28) = false := beq_eq_false_iff_ne.2 (by omega)
  have q37 : (op == 37) = false := beq_eq_false_iff_ne.2 (by omega)
  have q22 : (op == 22) = false := beq_eq_false_iff_ne.2 (by omega)
  have q35 : (op == 35) = true := beq_iff_eq.2 (by omega)
  have q101 : (op == 101) = false := beq_eq_false_iff_ne.2 (by omega)
  have q102 : (op == 102) = false := beq_eq_false_iff_ne.2 (by omega)
  have q103 : (op == 103) = false := beq_eq_false_iff_ne.2 (by omega)
  have q104 : (op == 104) = false := beq_eq_false_iff_ne.2 (by omega)
  have n101 : (op != 101) = true := by unfold bne; rw [q101]; rfl
  have n102 : (op != 102) = true := by unfold bne; rw [q102]; rfl
  have g1 : 1 ≤ op := by omega
  have g9 : 9 ≤ op := by omega
  have g30 : 30 ≤ op := by omega
  have l7 : ¬ op ≤ 7 := by omega
  have l20 : ¬ op ≤ 20 := by omega
  have l34 : ¬ op ≤ 34 := by omega
  clear HR hcb0 hcb
  clear h2 h3 h0
  go_enter Tryd.func53, Tryd.ntmps53
  go_wp2_with (go_at_call 61; ((with_reducible refine (HC.out _).mono ?_); rintro e w' ⟨rfl, rfl⟩))
  refine bodyPost_ret (results_tmp5 rfl _ _ _) rfl ?_
  exact ⟨by rw [HR2.out]; rfl, by (repeat' (first | (with_reducible exact Below.refl _ _) | (with_reducible assumption) | (with_reducible refine Below.alloc ?_ ?_ _) | (with_reducible refine below_drewN ?_ _) | (with_reducible refine below_drew ?_) | (with_reducible refine below_ext ?_ ?_ _ _) | (with_reducible refine Below.setCell ?_ ?_ _) | (simp; done) | (simp; omega) | omega))⟩
set_option maxRecDepth 100000 in
theorem tk_z37 (op a : Int) (t : ByteArray) (neg : Bool) (hh l s day : Int) (w : World) (h2 : 37 ≤ op) (h3 : op ≤ 37) (h0 : a = 0) :
    Calls Tryd.prog 53 #[InsV op a t neg hh l s day] w fun e w' => TkQ (takes op a) w e w' := by
  obtain ⟨r, hr⟩ : ∃ r, r = takes op a := ⟨_, rfl⟩
  have HR := Lib.hid hr
  rw [← hr]
  clear hr
  obtain ⟨cb, hcb0⟩ : ∃ cb, cb = decide (cnt op) := ⟨_, rfl⟩
  have HC := Lib.hid (fun w => counted_any op w)
  rw [← hcb0] at HC
  unfold TkQ
  have HR2 := Lib.hid (show r = some (1, 1, 0, 0) by
    rw [HR.out]; unfold takes cnt jmp
    rw [if_neg (by omega), if_neg (by omega), if_neg (by omega), if_neg (by omega), if_pos (by omega)])
  have hcb : cb = false := by rw [hcb0]; exact decide_eq_false (by unfold cnt; omega)
  rw [hcb] at HC
  have a0 : ¬ a < 0 := by omega
  have na : (a != 0) = false := by unfold bne; rw [beq_iff_eq.2 h0]; rfl
  have q36 : (op == 36) = false := beq_eq_false_iff_ne.2 (by omega)
  have q25 : (op == 25) = false := beq_eq_false_iff_ne.2 (by omega)
  have q29 : (op == 29) = false := beq_eq_false_iff_ne.2 (by omega)
  have q8 : (op == 8) = false := beq_eq_false_iff_ne.2 (by omega)
  have q24 : (op == 24) = false := beq_eq_false_iff_ne.2 (by omega)
  have q28 : (op == 28) = false := beq_eq_false_iff_ne.2 (by omega)
  have q37 : (op == 37) = true := beq_iff_eq.2 (by omega)
  have q22 : (op == 22) = false := beq_eq_false_iff_ne.2 (by omega)
  have q35 : (op == 35) = false := beq_eq_false_iff_ne.2 (by omega)
  have q101 : (op == 101) = false := beq_eq_false_iff_ne.2 (by omega)
  have q102 : (op == 102) = false := beq_eq_false_iff_ne.2 (by omega)
  have q103 : (op == 103) = false := beq_eq_false_iff_ne.2 (by omega)
  have q104 : (op == 104) = false := beq_eq_false_iff_ne.2 (by omega)
  have n101 : (op != 101) = true := by unfold bne; rw [q101]; rfl
  have n102 : (op != 102) = true := by unfold bne; rw [q102]; rfl
  have g1 : 1 ≤ op := by omega
  have g9 : 9 ≤ op := by omega
  have g30 : 30 ≤ op := by omega
  have l7 : ¬ op ≤ 7 := by omega
  have l20 : ¬ op ≤ 20 := by omega
  have l34 : ¬ op ≤ 34 := by omega
  clear HR hcb0 hcb
  clear h2 h3 h0
  go_enter Tryd.func53, Tryd.ntmps53
  go_wp2_with (go_at_call 61; ((with_reducible refine (HC.out _).mono ?_); rintro e w' ⟨rfl, rfl⟩))
  refine bodyPost_ret (results_tmp5 rfl _ _ _) rfl ?_
  exact ⟨by rw [HR2.out]; rfl, by (repeat' (first | (with_reducible exact Below.refl _ _) | (with_reducible assumption) | (with_reducible refine Below.alloc ?_ ?_ _) | (with_reducible refine below_drewN ?_ _) | (with_reducible refine below_drew ?_) | (with_reducible refine below_ext ?_ ?_ _ _) | (with_reducible refine Below.setCell ?_ ?_ _) | (simp; done) | (simp; omega) | omega))⟩
set_option maxRecDepth 100000 in
theorem tk_z38 (op a : Int) (t : ByteArray) (neg : Bool) (hh l s day : Int) (w : World) (h2 : 38 ≤ op) (h3 : op ≤ 100) (h0 : a = 0) :
    Calls Tryd.prog 53 #[InsV op a t neg hh l s day] w fun e w' => TkQ (takes op a) w e w' := by
  obtain ⟨r, hr⟩ : ∃ r, r = takes op a := ⟨_, rfl⟩
  have HR := Lib.hid hr
  rw [← hr]
  clear hr
  obtain ⟨cb, hcb0⟩ : ∃ cb, cb = decide (cnt op) := ⟨_, rfl⟩
  have HC := Lib.hid (fun w => counted_any op w)
  rw [← hcb0] at HC
  unfold TkQ
  have HR2 := Lib.hid (show r = none by
    rw [HR.out]; unfold takes cnt jmp
    rw [if_neg (by omega), if_neg (by omega), if_neg (by omega), if_neg (by omega), if_neg (by omega), if_neg (by omega), if_neg (by omega), if_neg (by omega), if_neg (by omega), if_neg (by omega), if_neg (by omega), if_neg (by omega), if_neg (by omega)])
  have hcb : cb = false := by rw [hcb0]; exact decide_eq_false (by unfold cnt; omega)
  rw [hcb] at HC
  have a0 : ¬ a < 0 := by omega
  have na : (a != 0) = false := by unfold bne; rw [beq_iff_eq.2 h0]; rfl
  have q36 : (op == 36) = false := beq_eq_false_iff_ne.2 (by omega)
  have q25 : (op == 25) = false := beq_eq_false_iff_ne.2 (by omega)
  have q29 : (op == 29) = false := beq_eq_false_iff_ne.2 (by omega)
  have q8 : (op == 8) = false := beq_eq_false_iff_ne.2 (by omega)
  have q24 : (op == 24) = false := beq_eq_false_iff_ne.2 (by omega)
  have q28 : (op == 28) = false := beq_eq_false_iff_ne.2 (by omega)
  have q37 : (op == 37) = false := beq_eq_false_iff_ne.2 (by omega)
  have q22 : (op == 22) = false := beq_eq_false_iff_ne.2 (by omega)
  have q35 : (op == 35) = false := beq_eq_false_iff_ne.2 (by omega)
  have q101 : (op == 101) = false := beq_eq_false_iff_ne.2 (by omega)
  have q102 : (op == 102) = false := beq_eq_false_iff_ne.2 (by omega)
  have q103 : (op == 103) = false := beq_eq_false_iff_ne.2 (by omega)
  have q104 : (op == 104) = false := beq_eq_false_iff_ne.2 (by omega)
  have n101 : (op != 101) = true := by unfold bne; rw [q101]; rfl
  have n102 : (op != 102) = true := by unfold bne; rw [q102]; rfl
  have g1 : 1 ≤ op := by omega
  have g9 : 9 ≤ op := by omega
  have g30 : 30 ≤ op := by omega
  have l7 : ¬ op ≤ 7 := by omega
  have l20 : ¬ op ≤ 20 := by omega
  have l34 : ¬ op ≤ 34 := by omega
  clear HR hcb0 hcb
  clear h2 h3 h0
  go_enter Tryd.func53, Tryd.ntmps53
  go_wp2_with (go_at_call 61; ((with_reducible refine (HC.out _).mono ?_); rintro e w' ⟨rfl, rfl⟩))
  refine bodyPost_ret (results_tmp5 rfl _ _ _) rfl ?_
  exact ⟨by rw [HR2.out]; rfl, by (repeat' (first | (with_reducible exact Below.refl _ _) | (with_reducible assumption) | (with_reducible refine Below.alloc ?_ ?_ _) | (with_reducible refine below_drewN ?_ _) | (with_reducible refine below_drew ?_) | (with_reducible refine below_ext ?_ ?_ _ _) | (with_reducible refine Below.setCell ?_ ?_ _) | (simp; done) | (simp; omega) | omega))⟩
set_option maxRecDepth 100000 in
theorem tk_z103 (op a : Int) (t : ByteArray) (neg : Bool) (hh l s day : Int) (w : World) (h2 : 103 ≤ op) (h3 : op ≤ 103) (h0 : a = 0) :
    Calls Tryd.prog 53 #[InsV op a t neg hh l s day] w fun e w' => TkQ (takes op a) w e w' := by
  obtain ⟨r, hr⟩ : ∃ r, r = takes op a := ⟨_, rfl⟩
  have HR := Lib.hid hr
  rw [← hr]
  clear hr
  obtain ⟨cb, hcb0⟩ : ∃ cb, cb = decide (cnt op) := ⟨_, rfl⟩
  have HC := Lib.hid (fun w => counted_any op w)
  rw [← hcb0] at HC
  unfold TkQ
  have HR2 := Lib.hid (show r = some (1, 0, 1, 0) by
    rw [HR.out]; unfold takes cnt jmp
    rw [if_neg (by omega), if_neg (by omega), if_neg (by omega), if_neg (by omega), if_neg (by omega), if_neg (by omega), if_neg (by omega), if_neg (by omega), if_neg (by omega), if_neg (by omega), if_neg (by omega), if_pos (by omega)])
  have hcb : cb = false := by rw [hcb0]; exact decide_eq_false (by unfold cnt; omega)
  rw [hcb] at HC
  have a0 : ¬ a < 0 := by omega
  have na : (a != 0) = false := by unfold bne; rw [beq_iff_eq.2 h0]; rfl
  have q36 : (op == 36) = false := beq_eq_false_iff_ne.2 (by omega)
  have q25 : (op == 25) = false := beq_eq_false_iff_ne.2 (by omega)
  have q29 : (op == 29) = false := beq_eq_false_iff_ne.2 (by omega)
  have q8 : (op == 8) = false := beq_eq_false_iff_ne.2 (by omega)
  have q24 : (op == 24) = false := beq_eq_false_iff_ne.2 (by omega)
  have q28 : (op == 28) = false := beq_eq_false_iff_ne.2 (by omega)
  have q37 : (op == 37) = false := beq_eq_false_iff_ne.2 (by omega)
  have q22 : (op == 22) = false := beq_eq_false_iff_ne.2 (by omega)
  have q35 : (op == 35) = false := beq_eq_false_iff_ne.2 (by omega)
  have q101 : (op == 101) = false := beq_eq_false_iff_ne.2 (by omega)
  have q102 : (op == 102) = false := beq_eq_false_iff_ne.2 (by omega)
  have q103 : (op == 103) = true := beq_iff_eq.2 (by omega)
  have q104 : (op == 104) = false := beq_eq_false_iff_ne.2 (by omega)
  have n101 : (op != 101) = true := by unfold bne; rw [q101]; rfl
  have n102 : (op != 102) = true := by unfold bne; rw [q102]; rfl
  have g1 : 1 ≤ op := by omega
  have g9 : 9 ≤ op := by omega
  have g30 : 30 ≤ op := by omega
  have l7 : ¬ op ≤ 7 := by omega
  have l20 : ¬ op ≤ 20 := by omega
  have l34 : ¬ op ≤ 34 := by omega
  clear HR hcb0 hcb
  clear h2 h3 h0
  go_enter Tryd.func53, Tryd.ntmps53
  go_wp2_with (go_at_call 61; ((with_reducible refine (HC.out _).mono ?_); rintro e w' ⟨rfl, rfl⟩))
  refine bodyPost_ret (results_tmp5 rfl _ _ _) rfl ?_
  exact ⟨by rw [HR2.out]; rfl, by (repeat' (first | (with_reducible exact Below.refl _ _) | (with_reducible assumption) | (with_reducible refine Below.alloc ?_ ?_ _) | (with_reducible refine below_drewN ?_ _) | (with_reducible refine below_drew ?_) | (with_reducible refine below_ext ?_ ?_ _ _) | (with_reducible refine Below.setCell ?_ ?_ _) | (simp; done) | (simp; omega) | omega))⟩
set_option maxRecDepth 100000 in
theorem tk_z104 (op a : Int) (t : ByteArray) (neg : Bool) (hh l s day : Int) (w : World) (h2 : 104 ≤ op) (h3 : op ≤ 104) (h0 : a = 0) :
    Calls Tryd.prog 53 #[InsV op a t neg hh l s day] w fun e w' => TkQ (takes op a) w e w' := by
  obtain ⟨r, hr⟩ : ∃ r, r = takes op a := ⟨_, rfl⟩
  have HR := Lib.hid hr
  rw [← hr]
  clear hr
  obtain ⟨cb, hcb0⟩ : ∃ cb, cb = decide (cnt op) := ⟨_, rfl⟩
  have HC := Lib.hid (fun w => counted_any op w)
  rw [← hcb0] at HC
  unfold TkQ
  have HR2 := Lib.hid (show r = some (0, 0, -1, 1) by
    rw [HR.out]; unfold takes cnt jmp
    rw [if_neg (by omega), if_neg (by omega), if_neg (by omega), if_neg (by omega), if_neg (by omega), if_neg (by omega), if_neg (by omega), if_neg (by omega), if_neg (by omega), if_neg (by omega), if_neg (by omega), if_neg (by omega), if_pos (by omega)])
  have hcb : cb = false := by rw [hcb0]; exact decide_eq_false (by unfold cnt; omega)
  rw [hcb] at HC
  have a0 : ¬ a < 0 := by omega
  have na : (a != 0) = false := by unfold bne; rw [beq_iff_eq.2 h0]; rfl
  have q36 : (op == 36) = false := beq_eq_false_iff_ne.2 (by omega)
  have q25 : (op == 25) = false := beq_eq_false_iff_ne.2 (by omega)
  have q29 : (op == 29) = false := beq_eq_false_iff_ne.2 (by omega)
  have q8 : (op == 8) = false := beq_eq_false_iff_ne.2 (by omega)
  have q24 : (op == 24) = false := beq_eq_false_iff_ne.2 (by omega)
  have q28 : (op == 28) = false := beq_eq_false_iff_ne.2 (by omega)
  have q37 : (op == 37) = false := beq_eq_false_iff_ne.2 (by omega)
  have q22 : (op == 22) = false := beq_eq_false_iff_ne.2 (by omega)
  have q35 : (op == 35) = false := beq_eq_false_iff_ne.2 (by omega)
  have q101 : (op == 101) = false := beq_eq_false_iff_ne.2 (by omega)
  have q102 : (op == 102) = false := beq_eq_false_iff_ne.2 (by omega)
  have q103 : (op == 103) = false := beq_eq_false_iff_ne.2 (by omega)
  have q104 : (op == 104) = true := beq_iff_eq.2 (by omega)
  have n101 : (op != 101) = true := by unfold bne; rw [q101]; rfl
  have n102 : (op != 102) = true := by unfold bne; rw [q102]; rfl
  have g1 : 1 ≤ op := by omega
  have g9 : 9 ≤ op := by omega
  have g30 : 30 ≤ op := by omega
  have l7 : ¬ op ≤ 7 := by omega
  have l20 : ¬ op ≤ 20 := by omega
  have l34 : ¬ op ≤ 34 := by omega
  clear HR hcb0 hcb
  clear h2 h3 h0
  go_enter Tryd.func53, Tryd.ntmps53
  go_wp2_with (go_at_call 61; ((with_reducible refine (HC.out _).mono ?_); rintro e w' ⟨rfl, rfl⟩))
  refine bodyPost_ret (results_tmp5 rfl _ _ _) rfl ?_
  exact ⟨by rw [HR2.out]; rfl, by (repeat' (first | (with_reducible exact Below.refl _ _) | (with_reducible assumption) | (with_reducible refine Below.alloc ?_ ?_ _) | (with_reducible refine below_drewN ?_ _) | (with_reducible refine below_drew ?_) | (with_reducible refine below_ext ?_ ?_ _ _) | (with_reducible refine Below.setCell ?_ ?_ _) | (simp; done) | (simp; omega) | omega))⟩
set_option maxRecDepth 100000 in
theorem tk_z105 (op a : Int) (t : ByteArray) (neg : Bool) (hh l s day : Int) (w : World) (h2 : 105 ≤ op) (h0 : a = 0) :
    Calls Tryd.prog 53 #[InsV op a t neg hh l s day] w fun e w' => TkQ (takes op a) w e w' := by
  obtain ⟨r, hr⟩ : ∃ r, r = takes op a := ⟨_, rfl⟩
  have HR := Lib.hid hr
  rw [← hr]
  clear hr
  obtain ⟨cb, hcb0⟩ : ∃ cb, cb = decide (cnt op) := ⟨_, rfl⟩
  have HC := Lib.hid (fun w => counted_any op w)
  rw [← hcb0] at HC
  unfold TkQ
  have HR2 := Lib.hid (show r = none by
    rw [HR.out]; unfold takes cnt jmp
    rw [if_neg (by omega), if_neg (by omega), if_neg (by omega), if_neg (by omega), if_neg (by omega), if_neg (by omega), if_neg (by omega), if_neg (by omega), if_neg (by omega), if_neg (by omega), if_neg (by omega), if_neg (by omega), if_neg (by omega)])
  have hcb : cb = false := by rw [hcb0]; exact decide_eq_false (by unfold cnt; omega)
  rw [hcb] at HC
  have a0 : ¬ a < 0 := by omega
  have na : (a != 0) = false := by unfold bne; rw [beq_iff_eq.2 h0]; rfl
  have q36 : (op == 36) = false := beq_eq_false_iff_ne.2 (by omega)
  have q25 : (op == 25) = false := beq_eq_false_iff_ne.2 (by omega)
  have q29 : (op == 29) = false := beq_eq_false_iff_ne.2 (by omega)
  have q8 : (op == 8) = false := beq_eq_false_iff_ne.2 (by omega)
  have q24 : (op == 24) = false := beq_eq_false_iff_ne.2 (by omega)
  have q28 : (op == 28) = false := beq_eq_false_iff_ne.2 (by omega)
  have q37 : (op == 37) = false := beq_eq_false_iff_ne.2 (by omega)
  have q22 : (op == 22) = false := beq_eq_false_iff_ne.2 (by omega)
  have q35 : (op == 35) = false := beq_eq_false_iff_ne.2 (by omega)
  have q101 : (op == 101) = false := beq_eq_false_iff_ne.2 (by omega)
  have q102 : (op == 102) = false := beq_eq_false_iff_ne.2 (by omega)
  have q103 : (op == 103) = false := beq_eq_false_iff_ne.2 (by omega)
  have q104 : (op == 104) = false := beq_eq_false_iff_ne.2 (by omega)
  have n101 : (op != 101) = true := by unfold bne; rw [q101]; rfl
  have n102 : (op != 102) = true := by unfold bne; rw [q102]; rfl
  have g1 : 1 ≤ op := by omega
  have g9 : 9 ≤ op := by omega
  have g30 : 30 ≤ op := by omega
  have l7 : ¬ op ≤ 7 := by omega
  have l20 : ¬ op ≤ 20 := by omega
  have l34 : ¬ op ≤ 34 := by omega
  clear HR hcb0 hcb
  clear h2 h0
  go_enter Tryd.func53, Tryd.ntmps53
  go_wp2_with (go_at_call 61; ((with_reducible refine (HC.out _).mono ?_); rintro e w' ⟨rfl, rfl⟩))
  refine bodyPost_ret (results_tmp5 rfl _ _ _) rfl ?_
  exact ⟨by rw [HR2.out]; rfl, by (repeat' (first | (with_reducible exact Below.refl _ _) | (with_reducible assumption) | (with_reducible refine Below.alloc ?_ ?_ _) | (with_reducible refine below_drewN ?_ _) | (with_reducible refine below_drew ?_) | (with_reducible refine below_ext ?_ ?_ _ _) | (with_reducible refine Below.setCell ?_ ?_ _) | (simp; done) | (simp; omega) | omega))⟩
theorem takes_any (op a : Int) (t : ByteArray) (neg : Bool) (hh l s day : Int) (w : World) :
    Calls Tryd.prog 53 #[InsV op a t neg hh l s day] w fun e w' => TkQ (takes op a) w e w' := by
  by_cases h0 : a < 0
  · exact tk_neg op a t neg hh l s day w h0
  by_cases h25 : op = 25
  · by_cases h8 : 8 < a
    · exact tk_f25 op a t neg hh l s day w h8 h25
    · exact tk_c25 op a t neg hh l s day w h25 (by omega) (by omega)
  by_cases h26 : 26 ≤ op ∧ op ≤ 27
  · exact tk_c26 op a t neg hh l s day w h26.1 h26.2 (by omega)
  by_cases h36 : op = 36
  · by_cases h8 : a = 0
    · exact tk_f36 op a t neg hh l s day w h8 h36
    · exact tk_c36 op a t neg hh l s day w h36 (by omega)
  by_cases h101 : op = 101
  · exact tk_c101 op a t neg hh l s day w h101 (by omega)
  by_cases h102 : op = 102
  · exact tk_c102 op a t neg hh l s day w h102 (by omega)
  by_cases hz : a = 0
  · by_cases h_z0 : op ≤ 0
    · exact tk_z0 op a t neg hh l s day w (by omega) hz
    by_cases h_z1 : 1 ≤ op ∧ op ≤ 7
    · exact tk_z1 op a t neg hh l s day w (by omega) (by omega) hz
    by_cases h_z8 : 8 ≤ op ∧ op ≤ 8
    · exact tk_z8 op a t neg hh l s day w (by omega) (by omega) hz
    by_cases h_z9 : 9 ≤ op ∧ op ≤ 20
    · exact tk_z9 op a t neg hh l s day w (by omega) (by omega) hz
    by_cases h_z21 : 21 ≤ op ∧ op ≤ 21
    · exact tk_z21 op a t neg hh l s day w (by omega) (by omega) hz
    by_cases h_z22 : 22 ≤ op ∧ op ≤ 22
    · exact tk_z22 op a t neg hh l s day w (by omega) (by omega) hz
    by_cases h_z23 : 23 ≤ op ∧ op ≤ 23
    · exact tk_z23 op a t neg hh l s day w (by omega) (by omega) hz
    by_cases h_z24 : 24 ≤ op ∧ op ≤ 24
    · exact tk_z24 op a t neg hh l s day w (by omega) (by omega) hz
    by_cases h_z28 : 28 ≤ op ∧ op ≤ 28
    · exact tk_z28 op a t neg hh l s day w (by omega) (by omega) hz
    by_cases h_z29 : 29 ≤ op ∧ op ≤ 29
    · exact tk_z29 op a t neg hh l s day w (by omega) (by omega) hz
    by_cases h_z30 : 30 ≤ op ∧ op ≤ 34
    · exact tk_z30 op a t neg hh l s day w (by omega) (by omega) hz
    by_cases h_z35 : 35 ≤ op ∧ op ≤ 35
    · exact tk_z35 op a t neg hh l s day w (by omega) (by omega) hz
    by_cases h_z37 : 37 ≤ op ∧ op ≤ 37
    · exact tk_z37 op a t neg hh l s day w (by omega) (by omega) hz
    by_cases h_z38 : 38 ≤ op ∧ op ≤ 100
    · exact tk_z38 op a t neg hh l s day w (by omega) (by omega) hz
    by_cases h_z103 : 103 ≤ op ∧ op ≤ 103
    · exact tk_z103 op a t neg hh l s day w (by omega) (by omega) hz
    by_cases h_z104 : 104 ≤ op ∧ op ≤ 104
    · exact tk_z104 op a t neg hh l s day w (by omega) (by omega) hz
    by_cases h_z105 : 105 ≤ op
    · exact tk_z105 op a t neg hh l s day w (by omega) hz
    omega
  · exact tk_nz op a t neg hh l s day w (by omega) (by unfold cnt; omega) (by unfold jmp; omega)
end Go.Proofs.YtpgfgaloagdogaaDoor
