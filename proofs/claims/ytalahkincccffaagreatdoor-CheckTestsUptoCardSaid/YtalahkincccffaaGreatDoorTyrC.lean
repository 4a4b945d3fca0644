/-
  The document's types: of a list; of a node that is no test.
-/
import Derived.Test.YtalahkincccffaaGreatDoorTyrB
namespace Go.Proofs.YtalahkincccffaaGreatDoor
open Go.RowKit Word Txt
attribute [local go_sem] setCell_drewN cell?_ext frozen?_ext shape?_ext setCell_ext lt_1' ne_1' en_1' le_1' lt_2' ne_2' en_2' le_2' lt_3' ne_3' en_3' le_3' lt_4' ne_4' en_4' le_4' lt_5' ne_5' en_5' le_5' lt_6' ne_6' en_6' le_6' lt_7' ne_7' en_7' le_7' lt_8' ne_8' en_8' le_8' lt_9' ne_9' en_9' le_9' lt_10' ne_10' en_10' le_10' lt_11' ne_11' en_11' le_11' lt_12' ne_12' en_12' le_12'

theorem form5 {a : Int} (h : 0 ≤ a ∧ a ≤ 4) : tform 5 a = true := by simp [tform, h.1, h.2]
theorem form5_no {a : Int} (h : ¬ (0 ≤ a ∧ a ≤ 4)) : tform 5 a = false := by
  cases hf : tform 5 a
  · rfl
  · simp [tform] at hf
    exact absurd hf h
set_option maxRecDepth 100000 in
set_option maxHeartbeats 8000000 in
theorem ritems_any (ts : List Ty) (n : Nat) (w : World) (v : Value) (hv : RL 2 tpE n w v ts) (hn : n ≤ w.heap.size) (hl : ts.length ≤ 1000) :
    Calls Tryz.prog 71 #[v] w fun en w' => en = .returned (TyV (lstM ts)) ∧ Below w.heap.size w w' := by
  have HLI := Lib.hid (fun k w => rlist_any k w)
  obtain ⟨p, c, rfl, h2⟩ := id hv
  cases ts with
  | nil =>
    clear h2 hv
    go_enter Tryz.func71, Tryz.ntmps71
    go_wp2_with (first | (go_at_call 88; ((with_reducible refine (HLI.out _ _).mono ?_); rintro e w1 ⟨rfl, hb1⟩; obtain ⟨osA, dA, rfl⟩ := ext_of_below hb1; clear hb1)))
    go_returns
    exact ⟨rfl, by (repeat' (first | (with_reducible first | exact Below.refl _ _ | assumption | refine Below.alloc ?_ ?_ _ | refine below_drewN ?_ _ | refine below_drew ?_ | refine below_ext ?_ ?_ _ _ | refine Below.setCell ?_ ?_ _) | (simp; done) | (simp; omega) | omega))⟩
  | cons a r =>
    obtain ⟨g, o, rfl, hgn, hc⟩ := h2 (by simp)
    obtain ⟨a1, a2⟩ := a
    have hgw : g < w.heap.size := Nat.lt_of_lt_of_le hgn hn
    have hmg : Tryz.prog.eqGuardType Tryz.prog.depth 26 = false := by kernel_rfl
    have c0 : w.cell? ⟨g, o, none⟩ = some (.int .i64 a1) := hc 0 (by simp) 0 _ rfl
    have c1 : w.cell? ⟨g, o + 1, none⟩ = some (.int .i64 a2) := hc 0 (by simp) 1 _ rfl
    have HX := Lib.hid (fun i (hi : i < ((a1, a2) :: r).length) => rl_ty hv (Below.refl n w) hi)
    obtain ⟨T, hT⟩ : ∃ T, T = lstM ((a1, a2) :: r) := ⟨_, rfl⟩
    have HT := Lib.hid hT
    rw [← hT]
    have HNO := Lib.hid (show ¬ (1 ≤ a1 ∧ a1 ≤ 4) → lstM ((a1, a2) :: r) = (5, 0) from fun h => by
      show (if (r.all fun t => decide (t = (a1, a2))) = true ∧ tform 5 a1 = true then (5, a1) else (5, 0)) = _
      by_cases h0 : 0 ≤ a1 ∧ a1 ≤ 4
      · obtain rfl : a1 = 0 := by omega
        split <;> rfl
      · rw [form5_no h0, if_neg (by simp)])
    have HDF := Lib.hid (show ∀ i (h : i < ((a1, a2) :: r).length), ((a1, a2) :: r)[i] ≠ (a1, a2) → lstM ((a1, a2) :: r) = (5, 0) from fun i h hne => by
      show (if (r.all fun t => decide (t = (a1, a2))) = true ∧ tform 5 a1 = true then (5, a1) else (5, 0)) = _
      rw [if_neg]
      intro h9
      have h1 := h9.1
      cases i with
      | zero => exact hne rfl
      | succ i =>
        have h3 := List.all_eq_true.1 h1 (r[i]'(by simpa using h)) (List.getElem_mem _)
        exact hne (of_decide_eq_true h3))
    have HEQ := Lib.hid (show (1 ≤ a1 ∧ a1 ≤ 4) → (∀ i (h : i < ((a1, a2) :: r).length), ((a1, a2) :: r)[i] = (a1, a2)) → lstM ((a1, a2) :: r) = (5, a1) from fun h he => by
      show (if (r.all fun t => decide (t = (a1, a2))) = true ∧ tform 5 a1 = true then (5, a1) else (5, 0)) = _
      have hal : (r.all fun t => decide (t = (a1, a2))) = true := List.all_eq_true.2 fun t ht => by
        obtain ⟨i, hi, rfl⟩ := List.getElem_of_mem ht
        exact decide_eq_true (he (i + 1) (by simpa using hi))
      exact if_pos ⟨hal, form5 ⟨by omega, by omega⟩⟩)
    obtain ⟨L, hL⟩ : ∃ L, L = (a1, a2) :: r := ⟨_, rfl⟩
    have hL0 : 0 < L.length := by rw [hL]; simp
    rw [← hL] at HX HT HNO HDF HEQ hl ⊢
    obtain ⟨len, hlen⟩ : ∃ len, len = L.length := ⟨_, rfl⟩
    have HL := Lib.hid hlen
    rw [← hlen] at hl hL0 ⊢
    have hlq : ((len : Int) == 0) = false := beq_eq_false_iff_ne.2 (by omega)
    have hlp : (0 : Int) < (len : Int) := by omega
    have hgw1 : g < w.heap.size + 1 := by omega
    obtain ⟨T1, T2⟩ := T
    clear h2 hv hc hT hL hlen
    go_enter Tryz.func71, Tryz.ntmps71
    go_wp2
    go_loopw [3] (fun z wr => ∃ j : Nat, z = .int .i64 j ∧ j ≤ len ∧ (∃ d, wr = (w.alloc (.cells #[.int .i64 0, .int .i64 0] 26)).drewN d) ∧ Hid (∀ i (h : i < L.length), i < j → L[i] = (a1, a2)) ∧ (0 < j → 1 ≤ a1 ∧ a1 ≤ 4)) (fun z _ => len - (intOf z).toNat)
    case atStart => exact ⟨0, rfl, Nat.zero_le _, ⟨0, rfl⟩, Lib.hid (fun i _ h => absurd h (Nat.not_lt_zero i)), fun h => absurd h (Nat.lt_irrefl 0)⟩
    case round =>
      obtain ⟨j, rfl, hj, ⟨dd, rfl⟩, hro, h14⟩ := hrel
      by_cases hjl : j < len
      · have hji : (j : Int) < (len : Int) := by omega
        have h1 : j < L.length := by rw [← HL.out]; exact hjl
        obtain ⟨g2, o2, x1, x2, hgg, -, hax, d0, d1⟩ := HX.out j h1
        injection hgg with hgg
        injection hgg with hg1 ho1 _
        subst hg1 ho1
        have e1 := fun w => ty_eq (x1, x2) (a1, a2) w
        by_cases hne : (x1, x2) = (a1, a2)
        · rw [decide_eq_true hne] at e1
          have HJ := Lib.hid (show ∀ i (h : i < L.length), i < j + 1 → L[i] = (a1, a2) from fun i h hi => by
            by_cases e : i = j
            · subst e; rw [hax]; exact hne
            · exact hro.out i h (by omega))
          by_cases hlo : a1 < 1
          · have HTE := Lib.hid (show (T1, T2) = (5, 0) by rw [HT.out]; exact HNO.out (by omega))
            have hq1 : decide (a1 < 1) = true := decide_eq_true hlo
            clear hax hro hne
            go_upto_region 6 with fail
            go_region
            go_wp2_with (first | (go_at_call 88; ((with_reducible refine (HLI.out _ _).mono ?_); rintro e w1 ⟨rfl, hb1⟩; obtain ⟨osA, dA, rfl⟩ := ext_of_below hb1; clear hb1)))
            go_returns
            exact ⟨by rw [HTE.out], by (repeat' (first | (with_reducible first | exact Below.refl _ _ | assumption | refine Below.alloc ?_ ?_ _ | refine below_drewN ?_ _ | refine below_drew ?_ | refine below_ext ?_ ?_ _ _ | refine Below.setCell ?_ ?_ _) | (simp; done) | (simp; omega) | omega))⟩
          · by_cases hhi : 4 < a1
            · have HTE := Lib.hid (show (T1, T2) = (5, 0) by rw [HT.out]; exact HNO.out (by omega))
              clear hax hro hne
              go_upto_region 6 with fail
              go_region
              go_wp2_with (first | (go_at_call 88; ((with_reducible refine (HLI.out _ _).mono ?_); rintro e w1 ⟨rfl, hb1⟩; obtain ⟨osA, dA, rfl⟩ := ext_of_below hb1; clear hb1)))
              go_returns
              exact ⟨by rw [HTE.out], by (repeat' (first | (with_reducible first | exact Below.refl _ _ | assumption | refine Below.alloc ?_ ?_ _ | refine below_drewN ?_ _ | refine below_drew ?_ | refine below_ext ?_ ?_ _ _ | refine Below.setCell ?_ ?_ _) | (simp; done) | (simp; omega) | omega))⟩
            · clear hax hro hne
              go_upto_region 6 with fail
              go_region
              go_wp2
              go_roundw
              case rel => exact ⟨j + 1, by go_num, by omega, ⟨_, rfl⟩, HJ, fun _ => ⟨by omega, by omega⟩⟩
              case measure => simp [intOf]; omega
        · rw [decide_eq_false hne] at e1
          have HTE := Lib.hid (show (T1, T2) = (5, 0) by rw [HT.out]; exact HDF.out j h1 (by rw [hax]; exact hne))
          clear hax hro hne
          go_upto_region 6 with fail
          go_region
          go_wp2_with (first | (go_at_call 88; ((with_reducible refine (HLI.out _ _).mono ?_); rintro e w1 ⟨rfl, hb1⟩; obtain ⟨osA, dA, rfl⟩ := ext_of_below hb1; clear hb1)))
          go_returns
          exact ⟨by rw [HTE.out], by (repeat' (first | (with_reducible first | exact Below.refl _ _ | assumption | refine Below.alloc ?_ ?_ _ | refine below_drewN ?_ _ | refine below_drew ?_ | refine below_ext ?_ ?_ _ _ | refine Below.setCell ?_ ?_ _) | (simp; done) | (simp; omega) | omega))⟩
      · obtain rfl : j = len := by omega
        have hji : ¬ (j : Int) < j := by omega
        have h14' := h14 hL0
        have HTE := Lib.hid (show (T1, T2) = (5, a1) by rw [HT.out]; exact HEQ.out h14' (fun i h => hro.out i h (by rw [HL.out]; exact h)))
        clear hro h14 h14'
        go_wp2_with (first | (go_at_call 88; ((with_reducible refine (HLI.out _ _).mono ?_); rintro e w1 ⟨rfl, hb1⟩; obtain ⟨osA, dA, rfl⟩ := ext_of_below hb1; clear hb1)))
        go_returns
        exact ⟨by rw [HTE.out], by (repeat' (first | (with_reducible first | exact Below.refl _ _ | assumption | refine Below.alloc ?_ ?_ _ | refine below_drewN ?_ _ | refine below_drew ?_ | refine below_ext ?_ ?_ _ _ | refine Below.setCell ?_ ?_ _) | (simp; done) | (simp; omega) | omega))⟩
end Go.Proofs.YtalahkincccffaaGreatDoor
