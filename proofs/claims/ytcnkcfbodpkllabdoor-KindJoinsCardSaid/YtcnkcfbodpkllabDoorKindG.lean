/-
  The document's join.
-/
import Derived.Test.YtcnkcfbodpkllabDoorKindF
namespace Go.Proofs.YtcnkcfbodpkllabDoor
open Go.RowKit
attribute [local go_sem] setCell_drewN cell?_ext frozen?_ext shape?_ext setCell_ext lt_1' ne_1' en_1' le_1' lt_2' ne_2' en_2' le_2' lt_3' ne_3' en_3' le_3' lt_4' ne_4' en_4' le_4' lt_5' ne_5' en_5' le_5' lt_6' ne_6' en_6' le_6' lt_7' ne_7' en_7' le_7' lt_8' ne_8' en_8' le_8' lt_9' ne_9' en_9' le_9' lt_10' ne_10' en_10' le_10' lt_11' ne_11' en_11' le_11' lt_12' ne_12' en_12' le_12'

/-- the i-th of the ten -/
def tK (n : Nat) : Int := if n < 5 then (n : Int) else 5
def tO (n : Nat) : Int := if n < 5 then 0 else (n : Int) - 5
theorem of_any (n : Nat) (hn : n < 10) (w : World) : Calls Tryd.prog 19 #[.int .i64 (n : Int)] w fun e w' => e = .returned (T (tK n) (tO n)) ∧ Below w.heap.size w w' := by
  unfold tK tO
  by_cases h : n < 5
  · rw [if_pos h, if_pos h]
    have hi : (n : Int) < 5 := by omega
    clear hn h
    go_enter Tryd.func19, Tryd.ntmps19
    go_wp2
    go_returns
    exact ⟨rfl, by (repeat' (first | (with_reducible exact Below.refl _ _) | (with_reducible assumption) | (with_reducible refine Below.alloc ?_ ?_ _) | (with_reducible refine below_drewN ?_ _) | (with_reducible refine below_drew ?_) | (with_reducible refine below_ext ?_ ?_ _ _) | (with_reducible refine Below.setCell ?_ ?_ _) | (simp; done) | (simp; omega) | omega))⟩
  · rw [if_neg h, if_neg h]
    have hi : ¬ (n : Int) < 5 := by omega
    have hw : IntKind.i64.wrap ((n : Int) - 5) = (n : Int) - 5 := IntWalk.i64_in _ (by omega)
    clear hn h
    go_enter Tryd.func19, Tryd.ntmps19
    go_wp2
    go_returns
    exact ⟨rfl, by (repeat' (first | (with_reducible exact Below.refl _ _) | (with_reducible assumption) | (with_reducible refine Below.alloc ?_ ?_ _) | (with_reducible refine below_drewN ?_ _) | (with_reducible refine below_drew ?_) | (with_reducible refine below_ext ?_ ?_ _ _) | (with_reducible refine Below.setCell ?_ ?_ _) | (simp; done) | (simp; omega) | omega))⟩
theorem of_form (n : Nat) (hn : n < 10) : tform (tK n) (tO n) = true := by
  have h : ∀ n : Fin 10, tform (tK n) (tO n) = true := by decide
  exact h ⟨n, hn⟩
/-- what stands in the join after n of the ten -/
def jn (k1 o1 k2 o2 : Int) : Nat → Int × Int
  | 0 => (0, 0)
  | n + 1 => let p := jn k1 o1 k2 o2 n; if (unB k1 o1 (tK n) (tO n) && (unB k2 o2 (tK n) (tO n) && unB (tK n) (tO n) p.1 p.2)) = true then (tK n, tO n) else p
theorem jn_form (k1 o1 k2 o2 : Int) : ∀ n, n ≤ 10 → tform (jn k1 o1 k2 o2 n).1 (jn k1 o1 k2 o2 n).2 = true
  | 0, _ => rfl
  | n + 1, h => by
    unfold jn
    have ih := jn_form k1 o1 k2 o2 n (by omega)
    by_cases hc : (unB k1 o1 (tK n) (tO n) && (unB k2 o2 (tK n) (tO n) && unB (tK n) (tO n) (jn k1 o1 k2 o2 n).1 (jn k1 o1 k2 o2 n).2)) = true
    · simp only [hc, if_true]; exact of_form n (by omega)
    · simp only [hc]; exact ih
theorem jn_join (k1 o1 k2 o2 : Int) (fa : tform k1 o1 = true) (fb : tform k2 o2 = true) : jn k1 o1 k2 o2 10 = (joinK k1 o1 k2 o2, joinO k1 o1 k2 o2) := by
  rcases tform_ten fa with ⟨rfl, rfl⟩ | ⟨rfl, rfl⟩ | ⟨rfl, rfl⟩ | ⟨rfl, rfl⟩ | ⟨rfl, rfl⟩ | ⟨rfl, rfl⟩ | ⟨rfl, rfl⟩ | ⟨rfl, rfl⟩ | ⟨rfl, rfl⟩ | ⟨rfl, rfl⟩ <;>
  rcases tform_ten fb with ⟨rfl, rfl⟩ | ⟨rfl, rfl⟩ | ⟨rfl, rfl⟩ | ⟨rfl, rfl⟩ | ⟨rfl, rfl⟩ | ⟨rfl, rfl⟩ | ⟨rfl, rfl⟩ | ⟨rfl, rfl⟩ | ⟨rfl, rfl⟩ | ⟨rfl, rfl⟩ <;> decide
set_option maxHeartbeats 8000000 in
theorem rJoin_any (k1 o1 k2 o2 : Int) (fa : tform k1 o1 = true) (fb : tform k2 o2 = true) (w : World) :
    Calls Tryd.prog 22 #[T k1 o1, T k2 o2] w fun e w' => e = .returned (T (joinK k1 o1 k2 o2) (joinO k1 o1 k2 o2)) ∧ Below w.heap.size w w' := by
  have HJ := Lib.hid (jn_join k1 o1 k2 o2 fa fb)
  have HA := Lib.hid fa; have HB := Lib.hid fb
  clear fa fb
  go_enter Tryd.func22, Tryd.ntmps22
  go_wp2_with fail
  go_loopw [6] (fun i wr => ∃ n : Nat, n ≤ 10 ∧ i = .int .i64 n ∧ Below ((((w.alloc (.cells #[.int .i64 k1, .int .i64 o1] 23)).alloc (.cells #[.int .i64 k2, .int .i64 o2] 23)).alloc (.cells #[.int .i64 0, .int .i64 0] 23)).alloc (.cells #[.int .i64 (jn k1 o1 k2 o2 n).1, .int .i64 (jn k1 o1 k2 o2 n).2] 23)).heap.size ((((w.alloc (.cells #[.int .i64 k1, .int .i64 o1] 23)).alloc (.cells #[.int .i64 k2, .int .i64 o2] 23)).alloc (.cells #[.int .i64 0, .int .i64 0] 23)).alloc (.cells #[.int .i64 (jn k1 o1 k2 o2 n).1, .int .i64 (jn k1 o1 k2 o2 n).2] 23)) wr) (fun i _ => (10 - intOf i).toNat)
  case atStart => exact ⟨0, by omega, rfl, Below.refl _ _⟩
  case round =>
    obtain ⟨n, hn, rfl, hbw⟩ := hrel
    obtain ⟨os, d', rfl⟩ := ext_of_below hbw
    clear hbw
    by_cases h10 : n < 10
    · have hi : (n : Int) < 10 := by omega
      have hf := of_form n h10
      have hjf := jn_form k1 o1 k2 o2 n hn
      have h1 := fun w => of_any n h10 w
      have h2 := fun w => rUnder_any k1 o1 (tK n) (tO n) HA.out hf w
      have h3 := fun w => rUnder_any k2 o2 (tK n) (tO n) HB.out hf w
      have h4 := fun w => rUnder_any (tK n) (tO n) (jn k1 o1 k2 o2 n).1 (jn k1 o1 k2 o2 n).2 hf hjf w
      have hnx : jn k1 o1 k2 o2 (n + 1) = if (unB k1 o1 (tK n) (tO n) && (unB k2 o2 (tK n) (tO n) && unB (tK n) (tO n) (jn k1 o1 k2 o2 n).1 (jn k1 o1 k2 o2 n).2)) = true then (tK n, tO n) else ((jn k1 o1 k2 o2 n).1, (jn k1 o1 k2 o2 n).2) := rfl
      obtain ⟨ck, hck⟩ : ∃ x, x = tK n := ⟨_, rfl⟩
      obtain ⟨co, hco⟩ : ∃ x, x = tO n := ⟨_, rfl⟩
      rw [← hck, ← hco] at h1 h2 h3 h4 hnx
      generalize (jn k1 o1 k2 o2 n).1 = pk at *
      generalize (jn k1 o1 k2 o2 n).2 = po at *
      obtain ⟨u1, e1⟩ : ∃ u, u = unB k1 o1 ck co := ⟨_, rfl⟩
      obtain ⟨u2, e2⟩ : ∃ u, u = unB k2 o2 ck co := ⟨_, rfl⟩
      obtain ⟨u3, e3⟩ : ∃ u, u = unB ck co pk po := ⟨_, rfl⟩
      rw [← e1, ← e2, ← e3] at hnx
      rw [← e1] at h2
      rw [← e2] at h3
      rw [← e3] at h4
      have H1 := Lib.hid h1; have H2 := Lib.hid h2; have H3 := Lib.hid h3; have H4 := Lib.hid h4
      have HX := Lib.hid hnx
      have hwr : IntKind.i64.wrap ((n : Int) + 1) = (n : Int) + 1 := IntWalk.i64_in _ (by omega)
      clear h1 h2 h3 h4 hf hjf e1 e2 e3 hck hco hnx HJ HA HB
      cases u1
      · have HN := Lib.hid (show jn k1 o1 k2 o2 (n + 1) = (pk, po) from HX.out)
        clear HX
        go_wp2_with (first
          | (go_at_call 19; ((with_reducible refine (H1.out _).mono ?_); rintro e w1 ⟨rfl, hb1⟩; obtain ⟨osA, dA, rfl⟩ := ext_of_below hb1; clear hb1))
          | (go_at_call 20; ((with_reducible refine (H2.out _).mono ?_); rintro e w1 ⟨rfl, hb1⟩; obtain ⟨osB, dB, rfl⟩ := ext_of_below hb1; clear hb1)))
        go_roundw
        case rel => exact ⟨n + 1, by omega, by go_num, by rw [HN.out]; (repeat' (first | (with_reducible exact Below.refl _ _) | (with_reducible assumption) | (with_reducible refine Below.alloc ?_ ?_ _) | (with_reducible refine below_drewN ?_ _) | (with_reducible refine below_drew ?_) | (with_reducible refine below_ext ?_ ?_ _ _) | (with_reducible refine Below.setCell ?_ ?_ _) | (simp; done) | (simp; omega) | omega))⟩
        case measure => simp [intOf]; omega
      · cases u2
        · have HN := Lib.hid (show jn k1 o1 k2 o2 (n + 1) = (pk, po) from HX.out)
          clear HX
          go_wp2_with (first
            | (go_at_call 19; ((with_reducible refine (H1.out _).mono ?_); rintro e w1 ⟨rfl, hb1⟩; obtain ⟨osA, dA, rfl⟩ := ext_of_below hb1; clear hb1))
            | (go_at_call 20; ((with_reducible refine (H2.out _).mono ?_); rintro e w1 ⟨rfl, hb1⟩; obtain ⟨osB, dB, rfl⟩ := ext_of_below hb1; clear hb1))
            | (go_at_call 20; ((with_reducible refine (H3.out _).mono ?_); rintro e w1 ⟨rfl, hb1⟩; obtain ⟨osC, dC, rfl⟩ := ext_of_below hb1; clear hb1)))
          go_roundw
          case rel => exact ⟨n + 1, by omega, by go_num, by rw [HN.out]; (repeat' (first | (with_reducible exact Below.refl _ _) | (with_reducible assumption) | (with_reducible refine Below.alloc ?_ ?_ _) | (with_reducible refine below_drewN ?_ _) | (with_reducible refine below_drew ?_) | (with_reducible refine below_ext ?_ ?_ _ _) | (with_reducible refine Below.setCell ?_ ?_ _) | (simp; done) | (simp; omega) | omega))⟩
          case measure => simp [intOf]; omega
        · cases u3
          · have HN := Lib.hid (show jn k1 o1 k2 o2 (n + 1) = (pk, po) from HX.out)
            clear HX
            go_wp2_with (first
              | (go_at_call 19; ((with_reducible refine (H1.out _).mono ?_); rintro e w1 ⟨rfl, hb1⟩; obtain ⟨osA, dA, rfl⟩ := ext_of_below hb1; clear hb1))
              | (go_at_call 20; ((with_reducible refine (H2.out _).mono ?_); rintro e w1 ⟨rfl, hb1⟩; obtain ⟨osB, dB, rfl⟩ := ext_of_below hb1; clear hb1))
              | (go_at_call 20; ((with_reducible refine (H3.out _).mono ?_); rintro e w1 ⟨rfl, hb1⟩; obtain ⟨osC, dC, rfl⟩ := ext_of_below hb1; clear hb1))
              | (go_at_call 20; ((with_reducible refine (H4.out _).mono ?_); rintro e w1 ⟨rfl, hb1⟩; obtain ⟨osD, dD, rfl⟩ := ext_of_below hb1; clear hb1)))
            go_roundw
            case rel => exact ⟨n + 1, by omega, by go_num, by rw [HN.out]; (repeat' (first | (with_reducible exact Below.refl _ _) | (with_reducible assumption) | (with_reducible refine Below.alloc ?_ ?_ _) | (with_reducible refine below_drewN ?_ _) | (with_reducible refine below_drew ?_) | (with_reducible refine below_ext ?_ ?_ _ _) | (with_reducible refine Below.setCell ?_ ?_ _) | (simp; done) | (simp; omega) | omega))⟩
            case measure => simp [intOf]; omega
          · have HN := Lib.hid (show jn k1 o1 k2 o2 (n + 1) = (ck, co) from HX.out)
            clear HX
            go_wp2_with (first
              | (go_at_call 19; ((with_reducible refine (H1.out _).mono ?_); rintro e w1 ⟨rfl, hb1⟩; obtain ⟨osA, dA, rfl⟩ := ext_of_below hb1; clear hb1))
              | (go_at_call 20; ((with_reducible refine (H2.out _).mono ?_); rintro e w1 ⟨rfl, hb1⟩; obtain ⟨osB, dB, rfl⟩ := ext_of_below hb1; clear hb1))
              | (go_at_call 20; ((with_reducible refine (H3.out _).mono ?_); rintro e w1 ⟨rfl, hb1⟩; obtain ⟨osC, dC, rfl⟩ := ext_of_below hb1; clear hb1))
              | (go_at_call 20; ((with_reducible refine (H4.out _).mono ?_); rintro e w1 ⟨rfl, hb1⟩; obtain ⟨osD, dD, rfl⟩ := ext_of_below hb1; clear hb1)))
            go_roundw
            case rel => exact ⟨n + 1, by omega, by go_num, by rw [HN.out]; (repeat' (first | (with_reducible exact Below.refl _ _) | (with_reducible assumption) | (with_reducible refine Below.alloc ?_ ?_ _) | (with_reducible refine below_drewN ?_ _) | (with_reducible refine below_drew ?_) | (with_reducible refine below_ext ?_ ?_ _ _) | (with_reducible refine Below.setCell ?_ ?_ _) | (simp; done) | (simp; omega) | omega))⟩
            case measure => simp [intOf]; omega
    · obtain rfl : n = 10 := by omega
      have hj := HJ.out
      have j1 : (jn k1 o1 k2 o2 10).1 = joinK k1 o1 k2 o2 := by rw [hj]
      have j2 : (jn k1 o1 k2 o2 10).2 = joinO k1 o1 k2 o2 := by rw [hj]
      rw [j1, j2]
      obtain ⟨jk, hjk⟩ : ∃ x, x = joinK k1 o1 k2 o2 := ⟨_, rfl⟩
      obtain ⟨jo, hjo⟩ : ∃ x, x = joinO k1 o1 k2 o2 := ⟨_, rfl⟩
      rw [← hjk, ← hjo]
      have HE := Lib.hid (And.intro hjk hjo)
      clear hj j1 j2 hjk hjo HJ HA HB hn h10
      go_wp2
      go_returns
      exact ⟨by rw [← HE.out.1, ← HE.out.2], by (repeat' (first | (with_reducible exact Below.refl _ _) | (with_reducible assumption) | (with_reducible refine Below.alloc ?_ ?_ _) | (with_reducible refine below_drewN ?_ _) | (with_reducible refine below_drew ?_) | (with_reducible refine below_ext ?_ ?_ _ _) | (with_reducible refine Below.setCell ?_ ?_ _) | (simp; done) | (simp; omega) | omega))⟩
end Go.Proofs.YtcnkcfbodpkllabDoor
