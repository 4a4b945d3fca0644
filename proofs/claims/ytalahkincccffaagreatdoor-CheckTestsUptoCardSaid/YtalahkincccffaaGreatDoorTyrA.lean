/-
  The document's types: do two meet, are two ordered, the type of a name, do all meet one.
-/
import Derived.Test.YtalahkincccffaaGreatDoorTypD
import Derived.Test.YtalahkincccffaaGreatDoorTypR
import Derived.Test.YtalahkincccffaaGreatDoorBt
namespace Go.Proofs.YtalahkincccffaaGreatDoor
open Go.RowKit Word Txt
attribute [local go_sem] setCell_drewN cell?_ext frozen?_ext shape?_ext setCell_ext lt_1' ne_1' en_1' le_1' lt_2' ne_2' en_2' le_2' lt_3' ne_3' en_3' le_3' lt_4' ne_4' en_4' le_4' lt_5' ne_5' en_5' le_5' lt_6' ne_6' en_6' le_6' lt_7' ne_7' en_7' le_7' lt_8' ne_8' en_8' le_8' lt_9' ne_9' en_9' le_9' lt_10' ne_10' en_10' le_10' lt_11' ne_11' en_11' le_11' lt_12' ne_12' en_12' le_12'

theorem meet_un (a b : Ty) : meetB a b = (unB a.1 a.2 b.1 b.2 || unB b.1 b.2 a.1 a.2) := by
  obtain ⟨a1, a2⟩ := a
  obtain ⟨b1, b2⟩ := b
  rw [Bool.eq_iff_iff]
  simp only [meetB, unB, Bool.or_eq_true, Bool.and_eq_true, decide_eq_true_eq, beq_iff_eq, Prod.mk.injEq]
  omega
set_option maxRecDepth 100000 in
theorem rMeet_any (a b : Ty) (ha : FmT a) (hb : FmT b) (w : World) : Calls Tryz.prog 62 #[TyV a, TyV b] w fun e w' => e = .returned (.bool (meetB a b)) ∧ Below w.heap.size w w' := by
  rw [meet_un]
  have H1 := Lib.hid (fun w => rUnder_any a.1 a.2 b.1 b.2 ha hb w)
  have H2 := Lib.hid (fun w => rUnder_any b.1 b.2 a.1 a.2 hb ha w)
  generalize unB a.1 a.2 b.1 b.2 = m1 at H1 ⊢
  generalize unB b.1 b.2 a.1 a.2 = m2 at H2 ⊢
  obtain ⟨a1, a2⟩ := a
  obtain ⟨b1, b2⟩ := b
  simp only at H1 H2
  clear ha hb
  cases m1
  all_goals
    go_enter Tryz.func62, Tryz.ntmps62
    go_wp2_with (first
      | (go_at_call 82; ((with_reducible refine (H1.out _).mono ?_); rintro e w1 ⟨rfl, hb1⟩; obtain ⟨osA, dA, rfl⟩ := ext_of_below hb1; clear hb1))
      | (go_at_call 82; ((with_reducible refine (H2.out _).mono ?_); rintro e w1 ⟨rfl, hb1⟩; obtain ⟨osB, dB, rfl⟩ := ext_of_below hb1; clear hb1)))
    go_ret
    exact ⟨by simp, by (repeat' (first | (with_reducible first | exact Below.refl _ _ | assumption | refine Below.alloc ?_ ?_ _ | refine below_drewN ?_ _ | refine below_drew ?_ | refine below_ext ?_ ?_ _ _ | refine Below.setCell ?_ ?_ _) | (simp; done) | (simp; omega) | omega))⟩
theorem rof_any (k : Int) (w : World) : Calls Tryz.prog 66 #[.int .i64 k] w fun e w' => e = .returned (TyV (k, 0)) ∧ Below w.heap.size w w' := cof_any k w
set_option maxRecDepth 100000 in
theorem rlist_any (k : Int) (w : World) : Calls Tryz.prog 88 #[.int .i64 k] w fun e w' => e = .returned (TyV (5, k)) ∧ Below w.heap.size w w' := by
  go_enter Tryz.func88, Tryz.ntmps88
  go_wp2
  go_returns
  exact ⟨rfl, by (repeat' (first | (with_reducible first | exact Below.refl _ _ | assumption | refine Below.alloc ?_ ?_ _ | refine below_drewN ?_ _ | refine below_drew ?_ | refine below_ext ?_ ?_ _ _ | refine Below.setCell ?_ ?_ _) | (simp; done) | (simp; omega) | omega))⟩
set_option maxRecDepth 100000 in
theorem rmust_any (b : Bool) (k : Int) (w : World) : Calls Tryz.prog 44 #[.bool b, .int .i64 k] w fun e w' => e = .returned (.tuple #[TyV (mustM b k).1, .int .i64 (mustM b k).2]) ∧ Below w.heap.size w w' := by
  have HO := Lib.hid (fun w => rof_any k w)
  cases b
  all_goals
    go_enter Tryz.func44, Tryz.ntmps44
    go_wp2_with (first
      | (go_at_call 66; ((with_reducible refine (HO.out _).mono ?_); rintro e w1 ⟨rfl, hb1⟩; obtain ⟨osA, dA, rfl⟩ := ext_of_below hb1; clear hb1)))
    go_returns
    exact ⟨by simp [mustM], by (repeat' (first | (with_reducible first | exact Below.refl _ _ | assumption | refine Below.alloc ?_ ?_ _ | refine below_drewN ?_ _ | refine below_drew ?_ | refine below_ext ?_ ?_ _ _ | refine Below.setCell ?_ ?_ _) | (simp; done) | (simp; omega) | omega))⟩
def ordR (a b : Ty) (j : Nat) : Bool := (decide (j ≤ 2) && (meetB a (2, 0) && meetB b (2, 0))) || ((decide (j ≤ 3) && (meetB a (3, 0) && meetB b (3, 0))) || (decide (j ≤ 4) && (meetB a (4, 0) && meetB b (4, 0))))
theorem ordR_two (a b : Ty) : ordR a b 2 = ordB a b := by simp [ordR, ordB]
theorem ordR_step (a b : Ty) (j : Nat) (h : 2 ≤ j ∧ j ≤ 4) : ordR a b j = ((meetB a ((j : Int), 0) && meetB b ((j : Int), 0)) || ordR a b (j + 1)) := by
  have h3 : j = 2 ∨ j = 3 ∨ j = 4 := by omega
  rcases h3 with rfl | rfl | rfl <;> simp [ordR]
theorem ordR_end (a b : Ty) : ordR a b 5 = false := by simp [ordR]
set_option maxRecDepth 100000 in
set_option maxHeartbeats 4000000 in
theorem rordered_any (a b : Ty) (ha : FmT a) (hb : FmT b) (w : World) : Calls Tryz.prog 63 #[TyV a, TyV b] w fun e w' => e = .returned (.bool (ordB a b)) ∧ Below w.heap.size w w' := by
  rw [← ordR_two]
  have HM1 := Lib.hid (fun (k : Int) (hk : 0 ≤ k ∧ k ≤ 4) w => rMeet_any a (k, 0) ha (fmT_k hk) w)
  have HM2 := Lib.hid (fun (k : Int) (hk : 0 ≤ k ∧ k ≤ 4) w => rMeet_any b (k, 0) hb (fmT_k hk) w)
  have HO := Lib.hid (fun k w => rof_any k w)
  have HST := Lib.hid (fun j h => ordR_step a b j h)
  have HEN := Lib.hid (ordR_end a b)
  obtain ⟨R, hR⟩ : ∃ R, R = ordR a b 2 := ⟨_, rfl⟩
  have HR := Lib.hid hR
  rw [← hR]
  obtain ⟨a1, a2⟩ := a
  obtain ⟨b1, b2⟩ := b
  clear hR ha hb
  go_enter Tryz.func63, Tryz.ntmps63
  go_wp2
  go_loopw [5] (fun z wr => ∃ j : Nat, z = .int .i64 j ∧ 2 ≤ j ∧ j ≤ 5 ∧ Hid (Below w.heap.size w wr) ∧ w.heap.size + 1 < wr.heap.size ∧ Hid (wr.cell? ⟨w.heap.size, 0, none⟩ = some (.int .i64 a1) ∧ wr.cell? ⟨w.heap.size, 1, none⟩ = some (.int .i64 a2) ∧ wr.cell? ⟨w.heap.size + 1, 0, none⟩ = some (.int .i64 b1) ∧ wr.cell? ⟨w.heap.size + 1, 1, none⟩ = some (.int .i64 b2)) ∧ Hid (ordR (a1, a2) (b1, b2) j = R)) (fun z _ => 5 - (intOf z).toNat)
  case atStart => exact ⟨2, rfl, Nat.le_refl _, by omega, Lib.hid (by (repeat' (first | (with_reducible first | exact Below.refl _ _ | assumption | refine Below.alloc ?_ ?_ _ | refine below_drewN ?_ _ | refine below_drew ?_ | refine below_ext ?_ ?_ _ _ | refine Below.setCell ?_ ?_ _) | (simp; done) | (simp; omega) | omega))), by simp, Lib.hid ⟨by simp [go_sem], by simp [go_sem], by simp [go_sem], by simp [go_sem]⟩, Lib.hid HR.out.symm⟩
  case round =>
    obtain ⟨j, rfl, hj2, hj5, hbe, hlt, hcs, hro⟩ := hrel
    have hsw := hbe.out.size
    have hlt0 : w.heap.size < wr.heap.size := by omega
    have HK := Lib.hid (show ∀ w', Below wr.heap.size wr w' → w'.cell? ⟨w.heap.size, 0, none⟩ = some (.int .i64 a1) ∧ w'.cell? ⟨w.heap.size, 1, none⟩ = some (.int .i64 a2) ∧ w'.cell? ⟨w.heap.size + 1, 0, none⟩ = some (.int .i64 b1) ∧ w'.cell? ⟨w.heap.size + 1, 1, none⟩ = some (.int .i64 b2) from fun w' h => ⟨(h.cell (p := ⟨_, _, none⟩) hlt0).trans hcs.out.1, (h.cell (p := ⟨_, _, none⟩) hlt0).trans hcs.out.2.1, (h.cell (p := ⟨_, _, none⟩) hlt).trans hcs.out.2.2.1, (h.cell (p := ⟨_, _, none⟩) hlt).trans hcs.out.2.2.2⟩)
    by_cases hjl : j ≤ 4
    · have hji : (j : Int) ≤ 4 := by omega
      have H1 := Lib.hid (show ∀ w, Calls Tryz.prog 62 #[.agg #[.int .i64 a1, .int .i64 a2], .agg #[.int .i64 (j : Int), .int .i64 0]] w fun e w' => e = .returned (.bool (meetB (a1, a2) ((j : Int), 0))) ∧ Below w.heap.size w w' from fun w => HM1.out (j : Int) ⟨by omega, by omega⟩ w)
      have H2 := Lib.hid (show ∀ w, Calls Tryz.prog 62 #[.agg #[.int .i64 b1, .int .i64 b2], .agg #[.int .i64 (j : Int), .int .i64 0]] w fun e w' => e = .returned (.bool (meetB (b1, b2) ((j : Int), 0))) ∧ Below w.heap.size w w' from fun w => HM2.out (j : Int) ⟨by omega, by omega⟩ w)
      have HRO := Lib.hid (show R = ((meetB (a1, a2) ((j : Int), 0) && meetB (b1, b2) ((j : Int), 0)) || ordR (a1, a2) (b1, b2) (j + 1)) by rw [← hro.out, HST.out j ⟨hj2, hjl⟩])
      generalize meetB (a1, a2) ((j : Int), 0) = m1 at H1 HRO
      generalize meetB (b1, b2) ((j : Int), 0) = m2 at H2 HRO
      clear hro hcs HM1 HM2
      cases m1 with
      | false =>
        have HF := Lib.hid (show ordR (a1, a2) (b1, b2) (j + 1) = R by rw [HRO.out]; rfl)
        go_upto_region 4 with fail
        refine wp_region_held_drew (S := fun w' => w'.cell? ⟨w.heap.size, 0, none⟩ = some (.int .i64 a1) ∧ w'.cell? ⟨w.heap.size, 1, none⟩ = some (.int .i64 a2) ∧ w'.cell? ⟨w.heap.size + 1, 0, none⟩ = some (.int .i64 b1) ∧ w'.cell? ⟨w.heap.size + 1, 1, none⟩ = some (.int .i64 b2)) (by kernel_rfl) ?r4ahSa (fun hHeld => ?r4aresta)
        case r4ahSa => ((try dsimp only); exact HK.out _ (by (repeat' (first | (with_reducible first | exact Below.refl _ _ | assumption | refine Below.alloc ?_ ?_ _ | refine below_drewN ?_ _ | refine below_drew ?_ | refine below_ext ?_ ?_ _ _ | refine Below.setCell ?_ ?_ _) | (simp; done) | (simp; omega) | omega))))
        refine wpAnyH_take (i := 0) (oi := ({ dst := some 10, op := Op.load 26 (Operand.tmp 2), type := 26, pos := "ref.go:77", after := #[], guard := none } : Oper)) (v := ?r4av1) rfl (by kernel_rfl) (by kernel_rfl) (by kernel_rfl) (fun _ _ _ h => h) (Or.inl ⟨by rfl, ?r4ahy1⟩) (by assumption) ?r4are1
        case r4ahy1 => (intro w hSw; (try dsimp only at hSw); go_simp; try with_reducible rfl)
        (try simp only [Act.put, List.setIfInBounds_toArray, List.set_cons_zero, List.set_cons_succ])
        refine wpAnyH_take (i := 1) (oi := ({ dst := some 11, op := Op.move (Operand.tmp 5), type := 3, pos := "ref.go:77", after := #[], guard := none } : Oper)) (v := ?r4av2) rfl (by kernel_rfl) (by kernel_rfl) (by kernel_rfl) (fun _ _ _ h => h) (Or.inl ⟨by rfl, ?r4ahy2⟩) (by assumption) ?r4are2
        case r4ahy2 => (intro w hSw; (try dsimp only at hSw); go_simp; try with_reducible rfl)
        (try simp only [Act.put, List.setIfInBounds_toArray, List.set_cons_zero, List.set_cons_succ])
        refine wpAnyH_ready (rs := [2]) (by kernel_rfl) (by simp) ?_
        refine AllReadyH.cons (o := ({ dst := some 12, op := Op.call { callee := Callee.value (Operand.func 66), args := #[Operand.tmp 11], argTypes := #[3] }, type := 26, pos := "ref.go:77", after := #[{ on := 1, ground := Ground.data }], guard := none } : Oper)) rfl (fun K hK => ?_) AllReadyH.nil
        go_simp
        (go_at_call 66; (with_reducible refine (HO.out _ _).mono ?_); rintro e9 w1 ⟨rfl, hb1⟩; obtain ⟨osA, dA, rfl⟩ := ext_of_below hb1; clear hb1)
        refine hK.out _ _ ?r4ahS3 (fun hHeldN => ?r4arst3)
        case r4ahS3 => ((try dsimp only); exact HK.out _ (by (repeat' (first | (with_reducible first | exact Below.refl _ _ | assumption | refine Below.alloc ?_ ?_ _ | refine below_drewN ?_ _ | refine below_drew ?_ | refine below_ext ?_ ?_ _ _ | refine Below.setCell ?_ ?_ _) | (simp; done) | (simp; omega) | omega))))
        clear hHeld hK K
        have hHeld := hHeldN
        clear hHeldN
        refine wpAnyH_ready (rs := [3]) (by kernel_rfl) (by simp) ?_
        refine AllReadyH.cons (o := ({ dst := some 13, op := Op.call { callee := Callee.value (Operand.func 62), args := #[Operand.tmp 10, Operand.tmp 12], argTypes := #[26, 26] }, type := 4, pos := "ref.go:77", after := #[{ on := 0, ground := Ground.data }, { on := 2, ground := Ground.data }, { on := 2, ground := Ground.chain }], guard := none } : Oper)) rfl (fun K hK => ?_) AllReadyH.nil
        go_simp
        (go_at_call 62; (with_reducible refine (H1.out _).mono ?_); rintro e9 w1 ⟨rfl, hb1⟩; obtain ⟨osB, dB, rfl⟩ := ext_of_below hb1; clear hb1)
        refine hK.out _ _ ?r4ahS4 (fun hHeldN => ?r4arst4)
        case r4ahS4 => ((try dsimp only); exact HK.out _ (by (repeat' (first | (with_reducible first | exact Below.refl _ _ | assumption | refine Below.alloc ?_ ?_ _ | refine below_drewN ?_ _ | refine below_drew ?_ | refine below_ext ?_ ?_ _ _ | refine Below.setCell ?_ ?_ _) | (simp; done) | (simp; omega) | omega))))
        clear hHeld hK K
        have hHeld := hHeldN
        clear hHeldN
        refine wpAnyH_take (i := 4) (oi := ({ dst := some 14, op := Op.move (Operand.tmp 13), type := 4, pos := "ref.go:77", after := #[{ on := 3, ground := Ground.data }, { on := 3, ground := Ground.chain }], guard := none } : Oper)) (v := ?r4av5) rfl (by kernel_rfl) (by kernel_rfl) (by kernel_rfl) (fun _ _ _ h => h) (Or.inl ⟨by rfl, ?r4ahy5⟩) (by assumption) ?r4are5
        case r4ahy5 => (intro w hSw; (try dsimp only at hSw); go_simp; try with_reducible rfl)
        (try simp only [Act.put, List.setIfInBounds_toArray, List.set_cons_zero, List.set_cons_succ])
        refine wpAnyH_take (i := 5) (oi := ({ dst := some 15, op := Op.load 26 (Operand.tmp 3), type := 26, pos := "ref.go:77", after := #[{ on := 4, ground := Ground.guard }], guard := some (4, true) } : Oper)) (v := undef) rfl (by kernel_rfl) (by kernel_rfl) (by kernel_rfl) (fun _ _ _ h => h) (Or.inr ⟨by rfl, rfl⟩) (by assumption) ?r4are6
        (try simp only [Act.put, List.setIfInBounds_toArray, List.set_cons_zero, List.set_cons_succ])
        refine wpAnyH_take (i := 6) (oi := ({ dst := some 16, op := Op.move (Operand.tmp 5), type := 3, pos := "ref.go:77", after := #[{ on := 4, ground := Ground.guard }], guard := some (4, true) } : Oper)) (v := undef) rfl (by kernel_rfl) (by kernel_rfl) (by kernel_rfl) (fun _ _ _ h => h) (Or.inr ⟨by rfl, rfl⟩) (by assumption) ?r4are7
        (try simp only [Act.put, List.setIfInBounds_toArray, List.set_cons_zero, List.set_cons_succ])
        refine wpAnyH_take (i := 7) (oi := ({ dst := some 17, op := Op.call { callee := Callee.value (Operand.func 66), args := #[Operand.tmp 16], argTypes := #[3] }, type := 26, pos := "ref.go:77", after := #[{ on := 6, ground := Ground.data }, { on := 4, ground := Ground.chain }, { on := 4, ground := Ground.guard }], guard := some (4, true) } : Oper)) (v := undef) rfl (by kernel_rfl) (by kernel_rfl) (by kernel_rfl) (fun _ _ _ h => h) (Or.inr ⟨by rfl, rfl⟩) (by assumption) ?r4are8
        (try simp only [Act.put, List.setIfInBounds_toArray, List.set_cons_zero, List.set_cons_succ])
        refine wpAnyH_take (i := 8) (oi := ({ dst := some 18, op := Op.call { callee := Callee.value (Operand.func 62), args := #[Operand.tmp 15, Operand.tmp 17], argTypes := #[26, 26] }, type := 4, pos := "ref.go:77", after := #[{ on := 5, ground := Ground.data }, { on := 7, ground := Ground.data }, { on := 7, ground := Ground.chain }, { on := 4, ground := Ground.guard }], guard := some (4, true) } : Oper)) (v := undef) rfl (by kernel_rfl) (by kernel_rfl) (by kernel_rfl) (fun _ _ _ h => h) (Or.inr ⟨by rfl, rfl⟩) (by assumption) ?r4are9
        (try simp only [Act.put, List.setIfInBounds_toArray, List.set_cons_zero, List.set_cons_succ])
        refine wpAnyH_take (i := 9) (oi := ({ dst := some 19, op := Op.pick (Operand.tmp 14) (Operand.tmp 18) (Operand.const (Value.bool false)), type := 4, pos := "ref.go:77", after := #[{ on := 4, ground := Ground.data }, { on := 8, ground := Ground.data }], guard := none } : Oper)) (v := ?r4av10) rfl (by kernel_rfl) (by kernel_rfl) (by kernel_rfl) (fun _ _ _ h => h) (Or.inl ⟨by rfl, ?r4ahy10⟩) (by assumption) ?r4are10
        case r4ahy10 => (intro w hSw; (try dsimp only at hSw); go_simp; try with_reducible rfl)
        (try simp only [Act.put, List.setIfInBounds_toArray, List.set_cons_zero, List.set_cons_succ])
        refine wpAnyH_done (by kernel_rfl) ?_ _
        clear hHeld
        go_wp2
        go_roundw
        case rel => exact ⟨j + 1, by go_num, by omega, by omega, Lib.hid (hbe.out.trans (show Below w.heap.size wr _ by (repeat' (first | (with_reducible first | exact Below.refl _ _ | assumption | refine Below.alloc ?_ ?_ _ | refine below_drewN ?_ _ | refine below_drew ?_ | refine below_ext ?_ ?_ _ _ | refine Below.setCell ?_ ?_ _) | (simp; done) | (simp; omega) | omega)))), by (first | (simp; done) | (simp; omega)), Lib.hid (HK.out _ (by (repeat' (first | (with_reducible first | exact Below.refl _ _ | assumption | refine Below.alloc ?_ ?_ _ | refine below_drewN ?_ _ | refine below_drew ?_ | refine below_ext ?_ ?_ _ _ | refine Below.setCell ?_ ?_ _) | (simp; done) | (simp; omega) | omega)))), HF⟩
        case measure => simp [intOf]; omega
      | true =>
        cases m2 with
        | false =>
          have HF := Lib.hid (show ordR (a1, a2) (b1, b2) (j + 1) = R by rw [HRO.out]; rfl)
          go_upto_region 4 with fail
          refine wp_region_held_drew (S := fun w' => w'.cell? ⟨w.heap.size, 0, none⟩ = some (.int .i64 a1) ∧ w'.cell? ⟨w.heap.size, 1, none⟩ = some (.int .i64 a2) ∧ w'.cell? ⟨w.heap.size + 1, 0, none⟩ = some (.int .i64 b1) ∧ w'.cell? ⟨w.heap.size + 1, 1, none⟩ = some (.int .i64 b2)) (by kernel_rfl) ?r4bhSa (fun hHeld => ?r4bresta)
          case r4bhSa => ((try dsimp only); exact HK.out _ (by (repeat' (first | (with_reducible first | exact Below.refl _ _ | assumption | refine Below.alloc ?_ ?_ _ | refine below_drewN ?_ _ | refine below_drew ?_ | refine below_ext ?_ ?_ _ _ | refine Below.setCell ?_ ?_ _) | (simp; done) | (simp; omega) | omega))))
          refine wpAnyH_take (i := 0) (oi := ({ dst := some 10, op := Op.load 26 (Operand.tmp 2), type := 26, pos := "ref.go:77", after := #[], guard := none } : Oper)) (v := ?r4bv1) rfl (by kernel_rfl) (by kernel_rfl) (by kernel_rfl) (fun _ _ _ h => h) (Or.inl ⟨by rfl, ?r4bhy1⟩) (by assumption) ?r4bre1
          case r4bhy1 => (intro w hSw; (try dsimp only at hSw); go_simp; try with_reducible rfl)
          (try simp only [Act.put, List.setIfInBounds_toArray, List.set_cons_zero, List.set_cons_succ])
          refine wpAnyH_take (i := 1) (oi := ({ dst := some 11, op := Op.move (Operand.tmp 5), type := 3, pos := "ref.go:77", after := #[], guard := none } : Oper)) (v := ?r4bv2) rfl (by kernel_rfl) (by kernel_rfl) (by kernel_rfl) (fun _ _ _ h => h) (Or.inl ⟨by rfl, ?r4bhy2⟩) (by assumption) ?r4bre2
          case r4bhy2 => (intro w hSw; (try dsimp only at hSw); go_simp; try with_reducible rfl)
          (try simp only [Act.put, List.setIfInBounds_toArray, List.set_cons_zero, List.set_cons_succ])
          refine wpAnyH_ready (rs := [2]) (by kernel_rfl) (by simp) ?_
          refine AllReadyH.cons (o := ({ dst := some 12, op := Op.call { callee := Callee.value (Operand.func 66), args := #[Operand.tmp 11], argTypes := #[3] }, type := 26, pos := "ref.go:77", after := #[{ on := 1, ground := Ground.data }], guard := none } : Oper)) rfl (fun K hK => ?_) AllReadyH.nil
          go_simp
          (go_at_call 66; (with_reducible refine (HO.out _ _).mono ?_); rintro e9 w1 ⟨rfl, hb1⟩; obtain ⟨osA, dA, rfl⟩ := ext_of_below hb1; clear hb1)
          refine hK.out _ _ ?r4bhS3 (fun hHeldN => ?r4brst3)
          case r4bhS3 => ((try dsimp only); exact HK.out _ (by (repeat' (first | (with_reducible first | exact Below.refl _ _ | assumption | refine Below.alloc ?_ ?_ _ | refine below_drewN ?_ _ | refine below_drew ?_ | refine below_ext ?_ ?_ _ _ | refine Below.setCell ?_ ?_ _) | (simp; done) | (simp; omega) | omega))))
          clear hHeld hK K
          have hHeld := hHeldN
          clear hHeldN
          refine wpAnyH_ready (rs := [3]) (by kernel_rfl) (by simp) ?_
          refine AllReadyH.cons (o := ({ dst := some 13, op := Op.call { callee := Callee.value (Operand.func 62), args := #[Operand.tmp 10, Operand.tmp 12], argTypes := #[26, 26] }, type := 4, pos := "ref.go:77", after := #[{ on := 0, ground := Ground.data }, { on := 2, ground := Ground.data }, { on := 2, ground := Ground.chain }], guard := none } : Oper)) rfl (fun K hK => ?_) AllReadyH.nil
          go_simp
          (go_at_call 62; (with_reducible refine (H1.out _).mono ?_); rintro e9 w1 ⟨rfl, hb1⟩; obtain ⟨osB, dB, rfl⟩ := ext_of_below hb1; clear hb1)
          refine hK.out _ _ ?r4bhS4 (fun hHeldN => ?r4brst4)
          case r4bhS4 => ((try dsimp only); exact HK.out _ (by (repeat' (first | (with_reducible first | exact Below.refl _ _ | assumption | refine Below.alloc ?_ ?_ _ | refine below_drewN ?_ _ | refine below_drew ?_ | refine below_ext ?_ ?_ _ _ | refine Below.setCell ?_ ?_ _) | (simp; done) | (simp; omega) | omega))))
          clear hHeld hK K
          have hHeld := hHeldN
          clear hHeldN
          refine wpAnyH_take (i := 4) (oi := ({ dst := some 14, op := Op.move (Operand.tmp 13), type := 4, pos := "ref.go:77", after := #[{ on := 3, ground := Ground.data }, { on := 3, ground := Ground.chain }], guard := none } : Oper)) (v := ?r4bv5) rfl (by kernel_rfl) (by kernel_rfl) (by kernel_rfl) (fun _ _ _ h => h) (Or.inl ⟨by rfl, ?r4bhy5⟩) (by assumption) ?r4bre5
          case r4bhy5 => (intro w hSw; (try dsimp only at hSw); go_simp; try with_reducible rfl)
          (try simp only [Act.put, List.setIfInBounds_toArray, List.set_cons_zero, List.set_cons_succ])
          refine wpAnyH_take (i := 5) (oi := ({ dst := some 15, op := Op.load 26 (Operand.tmp 3), type := 26, pos := "ref.go:77", after := #[{ on := 4, ground := Ground.guard }], guard := some (4, true) } : Oper)) (v := ?r4bv6) rfl (by kernel_rfl) (by kernel_rfl) (by kernel_rfl) (fun _ _ _ h => h) (Or.inl ⟨by rfl, ?r4bhy6⟩) (by assumption) ?r4bre6
          case r4bhy6 => (intro w hSw; (try dsimp only at hSw); go_simp; try with_reducible rfl)
          (try simp only [Act.put, List.setIfInBounds_toArray, List.set_cons_zero, List.set_cons_succ])
          refine wpAnyH_take (i := 6) (oi := ({ dst := some 16, op := Op.move (Operand.tmp 5), type := 3, pos := "ref.go:77", after := #[{ on := 4, ground := Ground.guard }], guard := some (4, true) } : Oper)) (v := ?r4bv7) rfl (by kernel_rfl) (by kernel_rfl) (by kernel_rfl) (fun _ _ _ h => h) (Or.inl ⟨by rfl, ?r4bhy7⟩) (by assumption) ?r4bre7
          case r4bhy7 => (intro w hSw; (try dsimp only at hSw); go_simp; try with_reducible rfl)
          (try simp only [Act.put, List.setIfInBounds_toArray, List.set_cons_zero, List.set_cons_succ])
          refine wpAnyH_ready (rs := [7]) (by kernel_rfl) (by simp) ?_
          refine AllReadyH.cons (o := ({ dst := some 17, op := Op.call { callee := Callee.value (Operand.func 66), args := #[Operand.tmp 16], argTypes := #[3] }, type := 26, pos := "ref.go:77", after := #[{ on := 6, ground := Ground.data }, { on := 4, ground := Ground.chain }, { on := 4, ground := Ground.guard }], guard := some (4, true) } : Oper)) rfl (fun K hK => ?_) AllReadyH.nil
          go_simp
          (go_at_call 66; (with_reducible refine (HO.out _ _).mono ?_); rintro e9 w1 ⟨rfl, hb1⟩; obtain ⟨osC, dC, rfl⟩ := ext_of_below hb1; clear hb1)
          refine hK.out _ _ ?r4bhS8 (fun hHeldN => ?r4brst8)
          case r4bhS8 => ((try dsimp only); exact HK.out _ (by (repeat' (first | (with_reducible first | exact Below.refl _ _ | assumption | refine Below.alloc ?_ ?_ _ | refine below_drewN ?_ _ | refine below_drew ?_ | refine below_ext ?_ ?_ _ _ | refine Below.setCell ?_ ?_ _) | (simp; done) | (simp; omega) | omega))))
          clear hHeld hK K
          have hHeld := hHeldN
          clear hHeldN
          refine wpAnyH_ready (rs := [8]) (by kernel_rfl) (by simp) ?_
          refine AllReadyH.cons (o := ({ dst := some 18, op := Op.call { callee := Callee.value (Operand.func 62), args := #[Operand.tmp 15, Operand.tmp 17], argTypes := #[26, 26] }, type := 4, pos := "ref.go:77", after := #[{ on := 5, ground := Ground.data }, { on := 7, ground := Ground.data }, { on := 7, ground := Ground.chain }, { on := 4, ground := Ground.guard }], guard := some (4, true) } : Oper)) rfl (fun K hK => ?_) AllReadyH.nil
          go_simp
          (go_at_call 62; (with_reducible refine (H2.out _).mono ?_); rintro e9 w1 ⟨rfl, hb1⟩; obtain ⟨osD, dD, rfl⟩ := ext_of_below hb1; clear hb1)
          refine hK.out _ _ ?r4bhS9 (fun hHeldN => ?r4brst9)
          case r4bhS9 => ((try dsimp only); exact HK.out _ (by (repeat' (first | (with_reducible first | exact Below.refl _ _ | assumption | refine Below.alloc ?_ ?_ _ | refine below_drewN ?_ _ | refine below_drew ?_ | refine below_ext ?_ ?_ _ _ | refine Below.setCell ?_ ?_ _) | (simp; done) | (simp; omega) | omega))))
          clear hHeld hK K
          have hHeld := hHeldN
          clear hHeldN
          refine wpAnyH_take (i := 9) (oi := ({ dst := some 19, op := Op.pick (Operand.tmp 14) (Operand.tmp 18) (Operand.const (Value.bool false)), type := 4, pos := "ref.go:77", after := #[{ on := 4, ground := Ground.data }, { on := 8, ground := Ground.data }], guard := none } : Oper)) (v := ?r4bv10) rfl (by kernel_rfl) (by kernel_rfl) (by kernel_rfl) (fun _ _ _ h => h) (Or.inl ⟨by rfl, ?r4bhy10⟩) (by assumption) ?r4bre10
          case r4bhy10 => (intro w hSw; (try dsimp only at hSw); go_simp; try with_reducible rfl)
          (try simp only [Act.put, List.setIfInBounds_toArray, List.set_cons_zero, List.set_cons_succ])
          refine wpAnyH_done (by kernel_rfl) ?_ _
          clear hHeld
          go_wp2
          go_roundw
          case rel => exact ⟨j + 1, by go_num, by omega, by omega, Lib.hid (hbe.out.trans (show Below w.heap.size wr _ by (repeat' (first | (with_reducible first | exact Below.refl _ _ | assumption | refine Below.alloc ?_ ?_ _ | refine below_drewN ?_ _ | refine below_drew ?_ | refine below_ext ?_ ?_ _ _ | refine Below.setCell ?_ ?_ _) | (simp; done) | (simp; omega) | omega)))), by (first | (simp; done) | (simp; omega)), Lib.hid (HK.out _ (by (repeat' (first | (with_reducible first | exact Below.refl _ _ | assumption | refine Below.alloc ?_ ?_ _ | refine below_drewN ?_ _ | refine below_drew ?_ | refine below_ext ?_ ?_ _ _ | refine Below.setCell ?_ ?_ _) | (simp; done) | (simp; omega) | omega)))), HF⟩
          case measure => simp [intOf]; omega
        | true =>
          have HF := Lib.hid (show R = true by rw [HRO.out]; rfl)
          go_upto_region 4 with fail
          refine wp_region_held_drew (S := fun w' => w'.cell? ⟨w.heap.size, 0, none⟩ = some (.int .i64 a1) ∧ w'.cell? ⟨w.heap.size, 1, none⟩ = some (.int .i64 a2) ∧ w'.cell? ⟨w.heap.size + 1, 0, none⟩ = some (.int .i64 b1) ∧ w'.cell? ⟨w.heap.size + 1, 1, none⟩ = some (.int .i64 b2)) (by kernel_rfl) ?r4chSa (fun hHeld => ?r4cresta)
          case r4chSa => ((try dsimp only); exact HK.out _ (by (repeat' (first | (with_reducible first | exact Below.refl _ _ | assumption | refine Below.alloc ?_ ?_ _ | refine below_drewN ?_ _ | refine below_drew ?_ | refine below_ext ?_ ?_ _ _ | refine Below.setCell ?_ ?_ _) | (simp; done) | (simp; omega) | omega))))
          refine wpAnyH_take (i := 0) (oi := ({ dst := some 10, op := Op.load 26 (Operand.tmp 2), type := 26, pos := "ref.go:77", after := #[], guard := none } : Oper)) (v := ?r4cv1) rfl (by kernel_rfl) (by kernel_rfl) (by kernel_rfl) (fun _ _ _ h => h) (Or.inl ⟨by rfl, ?r4chy1⟩) (by assumption) ?r4cre1
          case r4chy1 => (intro w hSw; (try dsimp only at hSw); go_simp; try with_reducible rfl)
          (try simp only [Act.put, List.setIfInBounds_toArray, List.set_cons_zero, List.set_cons_succ])
          refine wpAnyH_take (i := 1) (oi := ({ dst := some 11, op := Op.move (Operand.tmp 5), type := 3, pos := "ref.go:77", after := #[], guard := none } : Oper)) (v := ?r4cv2) rfl (by kernel_rfl) (by kernel_rfl) (by kernel_rfl) (fun _ _ _ h => h) (Or.inl ⟨by rfl, ?r4chy2⟩) (by assumption) ?r4cre2
          case r4chy2 => (intro w hSw; (try dsimp only at hSw); go_simp; try with_reducible rfl)
          (try simp only [Act.put, List.setIfInBounds_toArray, List.set_cons_zero, List.set_cons_succ])
          refine wpAnyH_ready (rs := [2]) (by kernel_rfl) (by simp) ?_
          refine AllReadyH.cons (o := ({ dst := some 12, op := Op.call { callee := Callee.value (Operand.func 66), args := #[Operand.tmp 11], argTypes := #[3] }, type := 26, pos := "ref.go:77", after := #[{ on := 1, ground := Ground.data }], guard := none } : Oper)) rfl (fun K hK => ?_) AllReadyH.nil
          go_simp
          (go_at_call 66; (with_reducible refine (HO.out _ _).mono ?_); rintro e9 w1 ⟨rfl, hb1⟩; obtain ⟨osA, dA, rfl⟩ := ext_of_below hb1; clear hb1)
          refine hK.out _ _ ?r4chS3 (fun hHeldN => ?r4crst3)
          case r4chS3 => ((try dsimp only); exact HK.out _ (by (repeat' (first | (with_reducible first | exact Below.refl _ _ | assumption | refine Below.alloc ?_ ?_ _ | refine below_drewN ?_ _ | refine below_drew ?_ | refine below_ext ?_ ?_ _ _ | refine Below.setCell ?_ ?_ _) | (simp; done) | (simp; omega) | omega))))
          clear hHeld hK K
          have hHeld := hHeldN
          clear hHeldN
          refine wpAnyH_ready (rs := [3]) (by kernel_rfl) (by simp) ?_
          refine AllReadyH.cons (o := ({ dst := some 13, op := Op.call { callee := Callee.value (Operand.func 62), args := #[Operand.tmp 10, Operand.tmp 12], argTypes := #[26, 26] }, type := 4, pos := "ref.go:77", after := #[{ on := 0, ground := Ground.data }, { on := 2, ground := Ground.data }, { on := 2, ground := Ground.chain }], guard := none } : Oper)) rfl (fun K hK => ?_) AllReadyH.nil
          go_simp
          (go_at_call 62; (with_reducible refine (H1.out _).mono ?_); rintro e9 w1 ⟨rfl, hb1⟩; obtain ⟨osB, dB, rfl⟩ := ext_of_below hb1; clear hb1)
          refine hK.out _ _ ?r4chS4 (fun hHeldN => ?r4crst4)
          case r4chS4 => ((try dsimp only); exact HK.out _ (by (repeat' (first | (with_reducible first | exact Below.refl _ _ | assumption | refine Below.alloc ?_ ?_ _ | refine below_drewN ?_ _ | refine below_drew ?_ | refine below_ext ?_ ?_ _ _ | refine Below.setCell ?_ ?_ _) | (simp; done) | (simp; omega) | omega))))
          clear hHeld hK K
          have hHeld := hHeldN
          clear hHeldN
          refine wpAnyH_take (i := 4) (oi := ({ dst := some 14, op := Op.move (Operand.tmp 13), type := 4, pos := "ref.go:77", after := #[{ on := 3, ground := Ground.data }, { on := 3, ground := Ground.chain }], guard := none } : Oper)) (v := ?r4cv5) rfl (by kernel_rfl) (by kernel_rfl) (by kernel_rfl) (fun _ _ _ h => h) (Or.inl ⟨by rfl, ?r4chy5⟩) (by assumption) ?r4cre5
          case r4chy5 => (intro w hSw; (try dsimp only at hSw); go_simp; try with_reducible rfl)
          (try simp only [Act.put, List.setIfInBounds_toArray, List.set_cons_zero, List.set_cons_succ])
          refine wpAnyH_take (i := 5) (oi := ({ dst := some 15, op := Op.load 26 (Operand.tmp 3), type := 26, pos := "ref.go:77", after := #[{ on := 4, ground := Ground.guard }], guard := some (4, true) } : Oper)) (v := ?r4cv6) rfl (by kernel_rfl) (by kernel_rfl) (by kernel_rfl) (fun _ _ _ h => h) (Or.inl ⟨by rfl, ?r4chy6⟩) (by assumption) ?r4cre6
          case r4chy6 => (intro w hSw; (try dsimp only at hSw); go_simp; try with_reducible rfl)
          (try simp only [Act.put, List.setIfInBounds_toArray, List.set_cons_zero, List.set_cons_succ])
          refine wpAnyH_take (i := 6) (oi := ({ dst := some 16, op := Op.move (Operand.tmp 5), type := 3, pos := "ref.go:77", after := #[{ on := 4, ground := Ground.guard }], guard := some (4, true) } : Oper)) (v := ?r4cv7) rfl (by kernel_rfl) (by kernel_rfl) (by kernel_rfl) (fun _ _ _ h => h) (Or.inl ⟨by rfl, ?r4chy7⟩) (by assumption) ?r4cre7
          case r4chy7 => (intro w hSw; (try dsimp only at hSw); go_simp; try with_reducible rfl)
          (try simp only [Act.put, List.setIfInBounds_toArray, List.set_cons_zero, List.set_cons_succ])
          refine wpAnyH_ready (rs := [7]) (by kernel_rfl) (by simp) ?_
          refine AllReadyH.cons (o := ({ dst := some 17, op := Op.call { callee := Callee.value (Operand.func 66), args := #[Operand.tmp 16], argTypes := #[3] }, type := 26, pos := "ref.go:77", after := #[{ on := 6, ground := Ground.data }, { on := 4, ground := Ground.chain }, { on := 4, ground := Ground.guard }], guard := some (4, true) } : Oper)) rfl (fun K hK => ?_) AllReadyH.nil
          go_simp
          (go_at_call 66; (with_reducible refine (HO.out _ _).mono ?_); rintro e9 w1 ⟨rfl, hb1⟩; obtain ⟨osC, dC, rfl⟩ := ext_of_below hb1; clear hb1)
          refine hK.out _ _ ?r4chS8 (fun hHeldN => ?r4crst8)
          case r4chS8 => ((try dsimp only); exact HK.out _ (by (repeat' (first | (with_reducible first | exact Below.refl _ _ | assumption | refine Below.alloc ?_ ?_ _ | refine below_drewN ?_ _ | refine below_drew ?_ | refine below_ext ?_ ?_ _ _ | refine Below.setCell ?_ ?_ _) | (simp; done) | (simp; omega) | omega))))
          clear hHeld hK K
          have hHeld := hHeldN
          clear hHeldN
          refine wpAnyH_ready (rs := [8]) (by kernel_rfl) (by simp) ?_
          refine AllReadyH.cons (o := ({ dst := some 18, op := Op.call { callee := Callee.value (Operand.func 62), args := #[Operand.tmp 15, Operand.tmp 17], argTypes := #[26, 26] }, type := 4, pos := "ref.go:77", after := #[{ on := 5, ground := Ground.data }, { on := 7, ground := Ground.data }, { on := 7, ground := Ground.chain }, { on := 4, ground := Ground.guard }], guard := some (4, true) } : Oper)) rfl (fun K hK => ?_) AllReadyH.nil
          go_simp
          (go_at_call 62; (with_reducible refine (H2.out _).mono ?_); rintro e9 w1 ⟨rfl, hb1⟩; obtain ⟨osD, dD, rfl⟩ := ext_of_below hb1; clear hb1)
          refine hK.out _ _ ?r4chS9 (fun hHeldN => ?r4crst9)
          case r4chS9 => ((try dsimp only); exact HK.out _ (by (repeat' (first | (with_reducible first | exact Below.refl _ _ | assumption | refine Below.alloc ?_ ?_ _ | refine below_drewN ?_ _ | refine below_drew ?_ | refine below_ext ?_ ?_ _ _ | refine Below.setCell ?_ ?_ _) | (simp; done) | (simp; omega) | omega))))
          clear hHeld hK K
          have hHeld := hHeldN
          clear hHeldN
          refine wpAnyH_take (i := 9) (oi := ({ dst := some 19, op := Op.pick (Operand.tmp 14) (Operand.tmp 18) (Operand.const (Value.bool false)), type := 4, pos := "ref.go:77", after := #[{ on := 4, ground := Ground.data }, { on := 8, ground := Ground.data }], guard := none } : Oper)) (v := ?r4cv10) rfl (by kernel_rfl) (by kernel_rfl) (by kernel_rfl) (fun _ _ _ h => h) (Or.inl ⟨by rfl, ?r4chy10⟩) (by assumption) ?r4cre10
          case r4chy10 => (intro w hSw; (try dsimp only at hSw); go_simp; try with_reducible rfl)
          (try simp only [Act.put, List.setIfInBounds_toArray, List.set_cons_zero, List.set_cons_succ])
          refine wpAnyH_done (by kernel_rfl) ?_ _
          clear hHeld
          go_wp2
          go_ret
          exact ⟨by rw [HF.out]; rfl, hbe.out.trans (show Below w.heap.size wr _ by (repeat' (first | (with_reducible first | exact Below.refl _ _ | assumption | refine Below.alloc ?_ ?_ _ | refine below_drewN ?_ _ | refine below_drew ?_ | refine below_ext ?_ ?_ _ _ | refine Below.setCell ?_ ?_ _) | (simp; done) | (simp; omega) | omega)))⟩
    · obtain rfl : j = 5 := by omega
      have hji : ¬ ((5 : Nat) : Int) ≤ 4 := by omega
      have HF := Lib.hid (show R = false by rw [← hro.out, HEN.out])
      go_wp2
      go_ret
      exact ⟨by rw [HF.out]; rfl, hbe.out.trans (show Below w.heap.size wr _ by (repeat' (first | (with_reducible first | exact Below.refl _ _ | assumption | refine Below.alloc ?_ ?_ _ | refine below_drewN ?_ _ | refine below_drew ?_ | refine below_ext ?_ ?_ _ _ | refine Below.setCell ?_ ?_ _) | (simp; done) | (simp; omega) | omega)))⟩
set_option maxRecDepth 100000 in
set_option maxHeartbeats 4000000 in
theorem rfind_any (sy : List SyD) (s : ByteArray) (n : Nat) (w : World) (v : Value) (hv : RL 3 syE n w v sy) (hn : n ≤ w.heap.size) (hl : sy.length ≤ 1000) :
    Calls Tryz.prog 67 #[v, .string s] w fun e w' => e = .returned (.tuple #[TyV (match findS sy s with | some t => t | none => (0, 0)), .int .i64 (match findS sy s with | some _ => 0 | none => 8)]) ∧ Below w.heap.size w w' := by
  obtain ⟨p, c, rfl, h2⟩ := hv
  have H2 := Lib.hid h2
  obtain ⟨len, hlen⟩ : ∃ len, len = sy.length := ⟨_, rfl⟩
  have HL := Lib.hid hlen
  rw [← hlen] at hl ⊢
  obtain ⟨T, hT⟩ : ∃ T : Ty, T = (match findS sy s with | some t => t | none => (0, 0)) := ⟨_, rfl⟩
  obtain ⟨E, hE⟩ : ∃ E : Int, E = (match findS sy s with | some _ => 0 | none => 8) := ⟨_, rfl⟩
  rw [← hT, ← hE]
  have HT := Lib.hid hT
  have HE := Lib.hid hE
  obtain ⟨T1, T2⟩ := T
  clear h2 hlen hT hE
  go_enter Tryz.func67, Tryz.ntmps67
  go_wp2
  go_loopw [6] (fun z wr => ∃ k : Nat, z = .int .i64 k ∧ k ≤ len ∧ Hid (Below w.heap.size w wr) ∧ wr = w.alloc (.cells #[.int .i64 0, .int .i64 0] 26) ∧ Hid (findS (sy.drop k) s = findS sy s)) (fun z _ => len - (intOf z).toNat)
  case atStart => exact ⟨0, rfl, Nat.zero_le _, Lib.hid (by (repeat' (first | (with_reducible first | exact Below.refl _ _ | assumption | refine Below.alloc ?_ ?_ _ | refine below_drewN ?_ _ | refine below_drew ?_ | refine below_ext ?_ ?_ _ _ | refine Below.setCell ?_ ?_ _) | (simp; done) | (simp; omega) | omega))), by first | rfl | trivial, Lib.hid (by first | rfl | trivial)⟩
  case round =>
    obtain ⟨k, rfl, hk, hbe, rfl, hro⟩ := hrel
    by_cases hkl : k < len
    · have hki : (k : Int) < (len : Int) := by omega
      have hk2 : k < sy.length := by rw [← HL.out]; exact hkl
      obtain ⟨g, o, rfl, hg, hc⟩ := H2.out (by omega)
      obtain ⟨s2, t1, t2, hxy⟩ : ∃ s t1 t2, sy[k] = ⟨s, (t1, t2)⟩ := ⟨_, _, _, rfl⟩
      have hgr : g < w.heap.size := by omega
      have c0 : w.cell? ⟨g, o + k * 3, none⟩ = some (.string s2) := hc k hk2 0 _ (by rw [hxy]; rfl)
      have c1 : w.cell? ⟨g, o + k * 3 + 1, none⟩ = some (.int .i64 t1) := hc k hk2 1 _ (by rw [hxy]; rfl)
      have c2 : w.cell? ⟨g, o + k * 3 + 2, none⟩ = some (.int .i64 t2) := hc k hk2 2 _ (by rw [hxy]; rfl)
      have hdr : findS (sy.drop k) s = if s2 = s then some (t1, t2) else findS (sy.drop (k + 1)) s := by rw [List.drop_eq_getElem_cons hk2, hxy]; rfl
      by_cases hss : s2 = s
      · subst hss
        have hf : findS sy s2 = some (t1, t2) := by rw [← hro.out, hdr, if_pos rfl]
        have HTE := Lib.hid (show (T1, T2) = (t1, t2) by rw [HT.out, hf])
        have HEE := Lib.hid (show E = 0 by rw [HE.out, hf])
        have hsq : (s2.toList == s2.toList) = true := by simp
        clear hc hxy hdr hf hro hk2
        go_wp2
        go_returns
        exact ⟨by rw [HTE.out, HEE.out], by (repeat' (first | (with_reducible first | exact Below.refl _ _ | assumption | refine Below.alloc ?_ ?_ _ | refine below_drewN ?_ _ | refine below_drew ?_ | refine below_ext ?_ ?_ _ _ | refine Below.setCell ?_ ?_ _) | (simp; done) | (simp; omega) | omega))⟩
      · have HF := Lib.hid (show findS (sy.drop (k + 1)) s = findS sy s by rw [← hro.out, hdr, if_neg hss])
        have hsq : (s2.toList == s.toList) = false := by
          rw [beq_eq_false_iff_ne]
          intro e
          rw [ByteArray.toList_eq, ByteArray.toList_eq] at e
          exact hss (dataN_inj e)
        clear hc hxy hdr hro hk2 hss
        go_wp2
        go_roundw
        case rel => exact ⟨k + 1, by go_num, by omega, hbe, by first | rfl | trivial, HF⟩
        case measure => simp [intOf]; omega
    · obtain rfl : k = len := by omega
      have hki : ¬ (k : Int) < k := by omega
      have hf : findS sy s = none := by rw [← hro.out, List.drop_eq_nil_of_le (by rw [← HL.out]; exact Nat.le_refl _)]; rfl
      have HTE := Lib.hid (show (T1, T2) = (0, 0) by rw [HT.out, hf])
      have HEE := Lib.hid (show E = 8 by rw [HE.out, hf])
      clear hf hro
      go_wp2
      go_returns
      exact ⟨by rw [HTE.out, HEE.out], by (repeat' (first | (with_reducible first | exact Below.refl _ _ | assumption | refine Below.alloc ?_ ?_ _ | refine below_drewN ?_ _ | refine below_drew ?_ | refine below_ext ?_ ?_ _ _ | refine Below.setCell ?_ ?_ _) | (simp; done) | (simp; omega) | omega))⟩
set_option maxRecDepth 100000 in
set_option maxHeartbeats 4000000 in
theorem rall_any (ts : List Ty) (k : Int) (hk : 0 ≤ k ∧ k ≤ 4) (n : Nat) (w : World) (v : Value) (hv : RL 2 tpE n w v ts) (hn : n ≤ w.heap.size) (hl : ts.length ≤ 1000) (hf : ∀ t ∈ ts, FmT t) :
    Calls Tryz.prog 68 #[v, .int .i64 k] w fun e w' => e = .returned (.bool (numA ts (k, 0))) ∧ Below w.heap.size w w' := by
  obtain ⟨p, c, rfl, -⟩ := id hv
  have HX := Lib.hid (fun w' (hb : Below w.heap.size w w') i (hi : i < ts.length) => rl_ty hv (hb.mono hn) hi)
  have HM := Lib.hid (fun t (ht : t ∈ ts) w => rMeet_any t (k, 0) (hf t ht) (fmT_k hk) w)
  have HO := Lib.hid (fun w => rof_any k w)
  obtain ⟨len, hlen⟩ : ∃ len, len = ts.length := ⟨_, rfl⟩
  have HL := Lib.hid hlen
  rw [← hlen] at hl ⊢
  obtain ⟨R, hR⟩ : ∃ R, R = numA ts (k, 0) := ⟨_, rfl⟩
  have HR := Lib.hid hR
  rw [← hR]
  clear hR hf hv hlen
  go_enter Tryz.func68, Tryz.ntmps68
  go_wp2
  go_loopw [5] (fun z wr => ∃ j : Nat, z = .int .i64 j ∧ j ≤ len ∧ Hid (Below w.heap.size w wr) ∧ Hid (numA (ts.drop j) (k, 0) = R)) (fun z _ => len - (intOf z).toNat)
  case atStart => exact ⟨0, rfl, Nat.zero_le _, Lib.hid (by (repeat' (first | (with_reducible first | exact Below.refl _ _ | assumption | refine Below.alloc ?_ ?_ _ | refine below_drewN ?_ _ | refine below_drew ?_ | refine below_ext ?_ ?_ _ _ | refine Below.setCell ?_ ?_ _) | (simp; done) | (simp; omega) | omega))), Lib.hid HR.out.symm⟩
  case round =>
    obtain ⟨j, rfl, hj, hbe, hro⟩ := hrel
    have hsw := hbe.out.size
    by_cases hjl : j < len
    · have hji : (j : Int) < (len : Int) := by omega
      have hj2 : j < ts.length := by rw [← HL.out]; exact hjl
      obtain ⟨g, o, x1, x2, rfl, hg, hax, c0, c1⟩ := HX.out wr hbe.out j hj2
      have hgr : g < wr.heap.size := by omega
      have H1 := Lib.hid (show ∀ w, Calls Tryz.prog 62 #[.agg #[.int .i64 x1, .int .i64 x2], .agg #[.int .i64 k, .int .i64 0]] w fun e w' => e = .returned (.bool (meetB (x1, x2) (k, 0))) ∧ Below w.heap.size w w' from fun w => HM.out (x1, x2) (by rw [← hax]; exact List.getElem_mem hj2) w)
      have HRO := Lib.hid (show R = (meetB (x1, x2) (k, 0) && numA (ts.drop (j + 1)) (k, 0)) by rw [← hro.out, List.drop_eq_getElem_cons hj2, hax]; rfl)
      have HK := Lib.hid (show ∀ w', Below wr.heap.size wr w' → w'.cell? ⟨g, o + j * 2, none⟩ = some (.int .i64 x1) ∧ w'.cell? ⟨g, o + j * 2 + 1, none⟩ = some (.int .i64 x2) from fun w' h => ⟨(h.cell (p := ⟨g, _, none⟩) hgr).trans c0, (h.cell (p := ⟨g, _, none⟩) hgr).trans c1⟩)
      generalize meetB (x1, x2) (k, 0) = m at H1 HRO
      clear hax hro HX HM c0 c1
      cases m with
      | false =>
        have HF := Lib.hid (show R = false by rw [HRO.out]; rfl)
        go_upto_region 4 with fail
        go_region_held3 (fun w' => w'.cell? ⟨g, o + j * 2, none⟩ = some (.int .i64 x1) ∧ w'.cell? ⟨g, o + j * 2 + 1, none⟩ = some (.int .i64 x2)) (exact HK.out _ (by (repeat' (first | (with_reducible first | exact Below.refl _ _ | assumption | refine Below.alloc ?_ ?_ _ | refine below_drewN ?_ _ | refine below_drew ?_ | refine below_ext ?_ ?_ _ _ | refine Below.setCell ?_ ?_ _) | (simp; done) | (simp; omega) | omega)))) (first
          | (go_at_call 66; ((with_reducible refine (HO.out _).mono ?_); rintro e w1 ⟨rfl, hb1⟩; obtain ⟨osA, dA, rfl⟩ := ext_of_below hb1; clear hb1))
          | (go_at_call 62; ((with_reducible refine (H1.out _).mono ?_); rintro e w1 ⟨rfl, hb1⟩; obtain ⟨osB, dB, rfl⟩ := ext_of_below hb1; clear hb1)))
        all_goals
          go_wp2
          go_ret
          exact ⟨by rw [HF.out]; rfl, hbe.out.trans (show Below w.heap.size wr _ by (repeat' (first | (with_reducible first | exact Below.refl _ _ | assumption | refine Below.alloc ?_ ?_ _ | refine below_drewN ?_ _ | refine below_drew ?_ | refine below_ext ?_ ?_ _ _ | refine Below.setCell ?_ ?_ _) | (simp; done) | (simp; omega) | omega)))⟩
      | true =>
        have HF := Lib.hid (show numA (ts.drop (j + 1)) (k, 0) = R by rw [HRO.out]; rfl)
        go_upto_region 4 with fail
        go_region_held3 (fun w' => w'.cell? ⟨g, o + j * 2, none⟩ = some (.int .i64 x1) ∧ w'.cell? ⟨g, o + j * 2 + 1, none⟩ = some (.int .i64 x2)) (exact HK.out _ (by (repeat' (first | (with_reducible first | exact Below.refl _ _ | assumption | refine Below.alloc ?_ ?_ _ | refine below_drewN ?_ _ | refine below_drew ?_ | refine below_ext ?_ ?_ _ _ | refine Below.setCell ?_ ?_ _) | (simp; done) | (simp; omega) | omega)))) (first
          | (go_at_call 66; ((with_reducible refine (HO.out _).mono ?_); rintro e w1 ⟨rfl, hb1⟩; obtain ⟨osA, dA, rfl⟩ := ext_of_below hb1; clear hb1))
          | (go_at_call 62; ((with_reducible refine (H1.out _).mono ?_); rintro e w1 ⟨rfl, hb1⟩; obtain ⟨osB, dB, rfl⟩ := ext_of_below hb1; clear hb1)))
        all_goals
          go_wp2
          go_roundw
          case rel => exact ⟨j + 1, by go_num, by omega, Lib.hid (hbe.out.trans (show Below w.heap.size wr _ by (repeat' (first | (with_reducible first | exact Below.refl _ _ | assumption | refine Below.alloc ?_ ?_ _ | refine below_drewN ?_ _ | refine below_drew ?_ | refine below_ext ?_ ?_ _ _ | refine Below.setCell ?_ ?_ _) | (simp; done) | (simp; omega) | omega)))), HF⟩
          case measure => simp [intOf]; omega
    · obtain rfl : j = len := by omega
      have hji : ¬ (j : Int) < j := by omega
      have HF := Lib.hid (show R = true by rw [← hro.out, List.drop_eq_nil_of_le (by rw [← HL.out]; exact Nat.le_refl _)]; rfl)
      go_wp2
      go_ret
      exact ⟨by rw [HF.out]; rfl, hbe.out.trans (show Below w.heap.size wr _ by (repeat' (first | (with_reducible first | exact Below.refl _ _ | assumption | refine Below.alloc ?_ ?_ _ | refine below_drewN ?_ _ | refine below_drew ?_ | refine below_ext ?_ ?_ _ _ | refine Below.setCell ?_ ?_ _) | (simp; done) | (simp; omega) | omega)))⟩
end Go.Proofs.YtalahkincccffaaGreatDoor
