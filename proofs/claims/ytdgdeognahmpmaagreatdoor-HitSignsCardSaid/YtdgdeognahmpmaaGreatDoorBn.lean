/-
  What the laws ask first.
  The signs of the policies: Sign, Policy, and the document's.
  The law of the signs; from the row's condition to the walks' words.
-/
import Derived.Test.YtdgdeognahmpmaaGreatDoorHitK
import Derived.Test.YtdgdeognahmpmaaGreatDoorValL
import Derived.Test.YtdgdeognahmpmaaGreatDoorWideC
import Derived.Test.YtdgdeognahmpmaaGreatDoorValid
import Derived.Stop.LaidErr
import Derived.Lib.LaidU8T
import Derived.PinnedBridge
import Derived.Lay
import Derived.LaidOnce
import Derived.SizedLaws
import Derived.Deep.DeepHandedRow
namespace Go.Proofs.YtdgdeognahmpmaaGreatDoor
open Go.RowKit Word Txt
attribute [local go_sem] setCell_drewN cell?_ext frozen?_ext shape?_ext setCell_ext lt_1' ne_1' en_1' le_1' lt_2' ne_2' en_2' le_2' lt_3' ne_3' en_3' le_3' lt_4' ne_4' en_4' le_4' lt_5' ne_5' en_5' le_5' lt_6' ne_6' en_6' le_6' lt_7' ne_7' en_7' le_7' lt_8' ne_8' en_8' le_8' lt_9' ne_9' en_9' le_9' lt_10' ne_10' en_10' le_10' lt_11' ne_11' en_11' le_11' lt_12' ne_12' en_12' le_12'

theorem three_form : formN (false, 3, 0) = true := by
  show formB false 3 ((0 : Nat) : Int) = true
  exact form_mk (by omega) (by omega) (fun _ h => by cases h) (fun h => absurd rfl h)
theorem same_three (pl : Option Addr) (cl : Nat) (pn : Option Addr) (cn : Nat) (W : World) : Calls Tryz.prog 12 #[NC (false, 3, 0) pl cl pn cn, NumC 3] W fun e w' => e = .returned (.bool true) ∧ Below W.heap.size W w' := by
  have := hsame_any (numW (false, 3, 0)) (NumV 3) W.heap.size W _ _ (numW_at three_form _ _ pl cl pn cn) (numV_at 3 (by omega) _ W) (Nat.le_refl _) (numW_count _) (numV_count _)
  have e : (numW (false, 3, 0)).eqb (NumV 3) = true := by
    show (NumV 3).eqb (NumV 3) = true
    exact eqb_refl _
  rw [e] at this
  exact this
set_option maxRecDepth 100000 in
set_option maxHeartbeats 8000000 in
theorem hknown_any (w : World) (hT : Tens w) (hU : Tabs w) : Calls Tryz.prog 9 #[] w fun e w' => e = .returned (.bool true) ∧ Below w.heap.size w w' := by
  have HN1 := Lib.hid (fun w => hnum_any 1 w)
  have HN2 := Lib.hid (fun w => hnum_any 2 w)
  have HN := Lib.hid (fun w => hnum_any 3 w)
  have HTU := Lib.hid (show ∀ w', Below w.heap.size w w' → Tens w' ∧ Tabs w' from fun w' hb => ⟨hT.below hb, hU.below hb⟩)
  have HSM := Lib.hid (fun pl cl pn cn W => same_three pl cl pn cn W)
  clear hT hU
  go_enter Tryz.func9, Tryz.ntmps9
  go_wp2_with (first
    | (go_at_call 20; ((with_reducible refine (HN1.out _).mono ?_); rintro e w1 ⟨rfl, hb1⟩; have HB1 := Lib.hid hb1; have hs1 := hb1.size; clear hb1))
    | (go_at_call 20; ((with_reducible refine (HN2.out _).mono ?_); rintro e w2 ⟨rfl, hb2⟩; have HB2 := Lib.hid hb2; have HK := Lib.hid (km_of hb2); have HBW2 := Lib.hid (HB1.out.trans ((((Below.refl w1.heap.size w1).alloc (Nat.le_refl _) _).trans (hb2.mono (by simp))).mono hs1)); have hs2 : w.heap.size ≤ w2.heap.size := HBW2.out.size; clear hb2))
    | (go_at_call 22; ((with_reducible refine (HK.out.sum (HTU.out _ (by have := HBW2.out; (repeat' (first | (with_reducible exact Below.refl _ _) | (with_reducible assumption) | (with_reducible refine Below.alloc ?_ ?_ _) | (with_reducible refine below_drewN ?_ _) | (with_reducible refine below_drew ?_) | (with_reducible refine below_ext ?_ ?_ _ _) | (with_reducible refine Below.setCell ?_ ?_ _) | (simp; done) | (simp; omega) | omega)))).1 (HTU.out _ (by have := HBW2.out; (repeat' (first | (with_reducible exact Below.refl _ _) | (with_reducible assumption) | (with_reducible refine Below.alloc ?_ ?_ _) | (with_reducible refine below_drewN ?_ _) | (with_reducible refine below_drew ?_) | (with_reducible refine below_ext ?_ ?_ _ _) | (with_reducible refine Below.setCell ?_ ?_ _) | (simp; done) | (simp; omega) | omega)))).2).mono ?_); rintro e w3 ⟨x, rfl, hb3, hx⟩; obtain ⟨pl, cl, pn, cn, rfl⟩ := (show ∃ pl cl pn cn, x = NC (false, 3, 0) pl cl pn cn from hx); have HB3 := Lib.hid hb3; have HK3 := Lib.hid (fun z => km_more (z := z) HK.out hb3); have HBW3 := Lib.hid (Below.trans (show Below w.heap.size w _ by have := HBW2.out; (repeat' (first | (with_reducible exact Below.refl _ _) | (with_reducible assumption) | (with_reducible refine Below.alloc ?_ ?_ _) | (with_reducible refine below_drewN ?_ _) | (with_reducible refine below_drew ?_) | (with_reducible refine below_ext ?_ ?_ _ _) | (with_reducible refine Below.setCell ?_ ?_ _) | (simp; done) | (simp; omega) | omega))) (hb3.mono (by simp; omega))); have hs3 : w.heap.size ≤ w3.heap.size := HBW3.out.size; clear hb3 hx))
    | (go_at_call 22; ((with_reducible refine ((HK3.out _).two (HTU.out _ (by have := HBW3.out; (repeat' (first | (with_reducible exact Below.refl _ _) | (with_reducible assumption) | (with_reducible refine Below.alloc ?_ ?_ _) | (with_reducible refine below_drewN ?_ _) | (with_reducible refine below_drew ?_) | (with_reducible refine below_ext ?_ ?_ _ _) | (with_reducible refine Below.setCell ?_ ?_ _) | (simp; done) | (simp; omega) | omega)))).1 (HTU.out _ (by have := HBW3.out; (repeat' (first | (with_reducible exact Below.refl _ _) | (with_reducible assumption) | (with_reducible refine Below.alloc ?_ ?_ _) | (with_reducible refine below_drewN ?_ _) | (with_reducible refine below_drew ?_) | (with_reducible refine below_ext ?_ ?_ _ _) | (with_reducible refine Below.setCell ?_ ?_ _) | (simp; done) | (simp; omega) | omega)))).2).mono ?_); rintro e w4 ⟨rfl, hb4⟩; obtain ⟨osD, dD, rfl⟩ := ext_of_below hb4; clear hb4)))
  go_region_with (first
    | (go_at_call 20; ((with_reducible refine (HN.out _).mono ?_); rintro e w1 ⟨rfl, hb1⟩; obtain ⟨osE, dE, rfl⟩ := ext_of_below hb1; clear hb1))
    | (go_at_call 12; ((with_reducible refine (HSM.out _ _ _ _ _).mono ?_); rintro e w1 ⟨rfl, hb1⟩; obtain ⟨osF, dF, rfl⟩ := ext_of_below hb1; clear hb1)))
  all_goals
    (try go_wp2)
    go_returns
    exact ⟨rfl, by have := HBW3.out; (repeat' (first | (with_reducible exact Below.refl _ _) | (with_reducible assumption) | (with_reducible refine Below.alloc ?_ ?_ _) | (with_reducible refine below_drewN ?_ _) | (with_reducible refine below_drew ?_) | (with_reducible refine below_ext ?_ ?_ _ _) | (with_reducible refine Below.setCell ?_ ?_ _) | (simp; done) | (simp; omega) | omega))⟩
end Go.Proofs.YtdgdeognahmpmaaGreatDoor
namespace Go.Proofs.YtdgdeognahmpmaaGreatDoor
open Go.RowKit Word Txt
attribute [local go_sem] setCell_drewN cell?_ext frozen?_ext shape?_ext setCell_ext lt_1' ne_1' en_1' le_1' lt_2' ne_2' en_2' le_2' lt_3' ne_3' en_3' le_3' lt_4' ne_4' en_4' le_4' lt_5' ne_5' en_5' le_5' lt_6' ne_6' en_6' le_6' lt_7' ne_7' en_7' le_7' lt_8' ne_8' en_8' le_8' lt_9' ne_9' en_9' le_9' lt_10' ne_10' en_10' le_10' lt_11' ne_11' en_11' le_11' lt_12' ne_12' en_12' le_12'

def sgList : List ByteArray := [⟨#[]⟩, ⟨#[85]⟩, ⟨#[65]⟩, ⟨#[80]⟩, ⟨#[70]⟩, ⟨#[82]⟩, ⟨#[79]⟩, ⟨#[67]⟩, ⟨#[67, 43]⟩, ⟨#[67, 60]⟩, ⟨#[67, 62]⟩, ⟨#[67, 35]⟩]
def sgAt (k : Nat) : ByteArray := sgList.getD k ⟨#[]⟩
/-- the program's signs lie as its text lays them -/
def Sgns (w : World) : Prop := 0 < w.heap.size ∧ ∀ j, j < 12 → w.cell? ⟨0, j, none⟩ = some (.string (sgAt j))
theorem Sgns.below {w w' : World} (h : Sgns w) (hb : Below w.heap.size w w') : Sgns w' := by
  obtain ⟨h0, h1⟩ := h
  have hc := fun j => (bcell hb).1 0 j h0
  exact ⟨Nat.lt_of_lt_of_le h0 hb.size, fun j hj => by rw [hc]; exact h1 j hj⟩
def sgP (p : Int) : ByteArray × Int := if polB p = true then (sgAt p.toNat, 0) else (⟨#[]⟩, 1)
theorem sign_any (p : Int) (w : World) (hw : Sgns w) : Calls Tryz.prog 16 #[.int .i64 p] w fun e w' => e = .returned (.tuple #[.string (sgP p).1, .int .i64 (sgP p).2]) ∧ Below w.heap.size w w' := by
  have HI := Lib.hid (fun w => isPolicy_any p w)
  obtain ⟨h0, h1⟩ := hw
  cases hb : polB p with
  | false =>
    have hs : sgP p = (⟨#[]⟩, 1) := by unfold sgP; rw [hb]; rfl
    rw [hs]
    rw [hb] at HI
    clear hb hs
    go_enter Tryz.func16, Tryz.ntmps16
    go_wp2_with (go_at_call 32; ((with_reducible refine (HI.out _).mono ?_); rintro e w1 ⟨rfl, rfl⟩))
    go_returns
    exact ⟨rfl, by (repeat' (first | (with_reducible exact Below.refl _ _) | (with_reducible assumption) | (with_reducible refine Below.alloc ?_ ?_ _) | (with_reducible refine below_drewN ?_ _) | (with_reducible refine below_drew ?_) | (with_reducible refine below_ext ?_ ?_ _ _) | (with_reducible refine Below.setCell ?_ ?_ _) | (simp; done) | (simp; omega) | omega))⟩
  | true =>
    have hs : sgP p = (sgAt p.toNat, 0) := by unfold sgP; rw [hb]; rfl
    have hp : 0 ≤ p ∧ p < 12 := by
      unfold polB at hb
      simp only [Bool.and_eq_true, decide_eq_true_eq] at hb
      omega
    rw [hs]
    rw [hb] at HI
    clear hb hs
    go_enter Tryz.func16, Tryz.ntmps16
    go_wp2_with (go_at_call 32; ((with_reducible refine (HI.out _).mono ?_); rintro e w1 ⟨rfl, rfl⟩))
    go_returns
    exact ⟨rfl, by (repeat' (first | (with_reducible exact Below.refl _ _) | (with_reducible assumption) | (with_reducible refine Below.alloc ?_ ?_ _) | (with_reducible refine below_drewN ?_ _) | (with_reducible refine below_drew ?_) | (with_reducible refine below_ext ?_ ?_ _ _) | (with_reducible refine Below.setCell ?_ ?_ _) | (simp; done) | (simp; omega) | omega))⟩
theorem signs_any (w : World) : Calls Tryz.prog 31 #[] w fun e w' => ∃ b, e = .returned (.slice (some ⟨b, 0, none⟩) 12 12) ∧ Below w.heap.size w w' ∧ ∀ j, j < 12 → w'.cell? ⟨b, j, none⟩ = some (.string (sgAt j)) := by
  go_enter Tryz.func31, Tryz.ntmps31
  go_wp2
  go_returns
  refine ⟨_, rfl, by (repeat' (first | (with_reducible exact Below.refl _ _) | (with_reducible assumption) | (with_reducible refine Below.alloc ?_ ?_ _) | (with_reducible refine below_drewN ?_ _) | (with_reducible refine below_drew ?_) | (with_reducible refine below_ext ?_ ?_ _ _) | (with_reducible refine Below.setCell ?_ ?_ _) | (simp; done) | (simp; omega) | omega)), fun j hj => ?_⟩
  rw [cell_of_row _ _ _ _ _ _ (heap_new _ _)]
  match j, hj with
  | 0, _ | 1, _ | 2, _ | 3, _ | 4, _ | 5, _ | 6, _ | 7, _ | 8, _ | 9, _ | 10, _ | 11, _ => rfl
theorem dsign_any (p : Int) (w : World) : Calls Tryz.prog 15 #[.int .i64 p] w fun e w' => e = .returned (.tuple #[.string (sgP p).1, .int .i64 (sgP p).2]) ∧ Below w.heap.size w w' := by
  have HS := Lib.hid (fun w => signs_any w)
  by_cases h1 : p < 1
  · have hs : sgP p = (⟨#[]⟩, 1) := by unfold sgP; rw [if_neg (by unfold polB; simp; omega)]
    rw [hs]
    clear hs
    go_enter Tryz.func15, Tryz.ntmps15
    go_wp2
    go_returns
    exact ⟨rfl, by (repeat' (first | (with_reducible exact Below.refl _ _) | (with_reducible assumption) | (with_reducible refine Below.alloc ?_ ?_ _) | (with_reducible refine below_drewN ?_ _) | (with_reducible refine below_drew ?_) | (with_reducible refine below_ext ?_ ?_ _ _) | (with_reducible refine Below.setCell ?_ ?_ _) | (simp; done) | (simp; omega) | omega))⟩
  by_cases h2 : 11 < p
  · have hs : sgP p = (⟨#[]⟩, 1) := by unfold sgP; rw [if_neg (by unfold polB; simp; omega)]
    rw [hs]
    clear hs
    go_enter Tryz.func15, Tryz.ntmps15
    go_wp2
    go_returns
    exact ⟨rfl, by (repeat' (first | (with_reducible exact Below.refl _ _) | (with_reducible assumption) | (with_reducible refine Below.alloc ?_ ?_ _) | (with_reducible refine below_drewN ?_ _) | (with_reducible refine below_drew ?_) | (with_reducible refine below_ext ?_ ?_ _ _) | (with_reducible refine Below.setCell ?_ ?_ _) | (simp; done) | (simp; omega) | omega))⟩
  have hs : sgP p = (sgAt p.toNat, 0) := by unfold sgP; rw [if_pos (by unfold polB; simp; omega)]
  have hp : 0 ≤ p ∧ p < 12 := by omega
  rw [hs]
  clear hs
  go_enter Tryz.func15, Tryz.ntmps15
  go_wp2_with (go_at_call 31; ((with_reducible refine (HS.out _).mono ?_); rintro e w1 ⟨b, rfl, hb1, hc⟩; obtain ⟨osA, dA, rfl⟩ := ext_of_below hb1; clear hb1))
  go_returns
  exact ⟨rfl, by (repeat' (first | (with_reducible exact Below.refl _ _) | (with_reducible assumption) | (with_reducible refine Below.alloc ?_ ?_ _) | (with_reducible refine below_drewN ?_ _) | (with_reducible refine below_drew ?_) | (with_reducible refine below_ext ?_ ?_ _ _) | (with_reducible refine Below.setCell ?_ ?_ _) | (simp; done) | (simp; omega) | omega))⟩
/-- the policy of a sign, or the error -/
def PolQ (s : ByteArray) (c e : Int) : Prop := (∃ n : Nat, 1 ≤ n ∧ n < 12 ∧ sgAt n = s ∧ (∀ j, 1 ≤ j → j < n → sgAt j ≠ s) ∧ c = n ∧ e = 0) ∨ ((∀ j, 1 ≤ j → j < 12 → sgAt j ≠ s) ∧ c = 0 ∧ e = 5)
theorem PolQ.one {s : ByteArray} {c e c' e' : Int} (h : PolQ s c e) (h' : PolQ s c' e') : c = c' ∧ e = e' := by
  rcases h with ⟨n, h1, h2, h3, h4, rfl, rfl⟩ | ⟨h4, rfl, rfl⟩ <;> rcases h' with ⟨m, g1, g2, g3, g4, rfl, rfl⟩ | ⟨g4, rfl, rfl⟩
  · rcases Nat.lt_trichotomy n m with h | h | h
    · exact absurd h3 (g4 n h1 h)
    · rw [h]; exact ⟨rfl, rfl⟩
    · exact absurd g3 (h4 m g1 h)
  · exact absurd h3 (g4 n h1 h2)
  · exact absurd g3 (h4 m g1 g2)
  · exact ⟨rfl, rfl⟩
theorem dpolicy_any (s : ByteArray) (w : World) : Calls Tryz.prog 17 #[.string s] w fun e w' => ∃ c x, e = .returned (.tuple #[.int .i64 c, .int .i64 x]) ∧ Below w.heap.size w w' ∧ PolQ s c x := by
  have HS := Lib.hid (fun w => signs_any w)
  go_enter Tryz.func17, Tryz.ntmps17
  go_wp2_with (go_at_call 31; ((with_reducible refine (HS.out _).mono ?_); rintro e w1 ⟨b, rfl, hb1, hc⟩; obtain ⟨osA, dA, rfl⟩ := ext_of_below hb1; clear hb1))
  have HC := Lib.hid hc
  clear hc
  go_loop [5] (fun i => ∃ m : Nat, 1 ≤ m ∧ m ≤ 12 ∧ i = .int .i64 m ∧ Hid (∀ j, 1 ≤ j → j < m → sgAt j ≠ s)) (fun i => 12 - (intOf i).toNat)
  case atStart => exact ⟨1, by omega, by omega, rfl, Lib.hid (fun j h1 h2 => by omega)⟩
  case round =>
    obtain ⟨m, hm0, hm, rfl, hs0⟩ := hrel
    by_cases hml : m < 12
    · have hi : (m : Int) < 12 := by omega
      have hci := HC.out m hml
      obtain ⟨y, hy⟩ : ∃ y, y = sgAt m := ⟨_, rfl⟩
      have HY := Lib.hid hy
      rw [← hy] at hci
      clear hy
      by_cases hxy : y = s
      · have HR := Lib.hid (show PolQ s m 0 from .inl ⟨m, hm0, hml, by rw [← HY.out]; exact hxy, hs0.out, rfl, rfl⟩)
        have hv : (y.toList == s.toList) = true := (Lib.bytes_beq_iff _ _).2 hxy
        clear hxy hs0
        go_wp2
        go_returns
        exact ⟨_, _, rfl, by (repeat' (first | (with_reducible exact Below.refl _ _) | (with_reducible assumption) | (with_reducible refine Below.alloc ?_ ?_ _) | (with_reducible refine below_drewN ?_ _) | (with_reducible refine below_drew ?_) | (with_reducible refine below_ext ?_ ?_ _ _) | (with_reducible refine Below.setCell ?_ ?_ _) | (simp; done) | (simp; omega) | omega)), HR.out⟩
      · have HN := Lib.hid (show ∀ j, 1 ≤ j → j < m + 1 → sgAt j ≠ s from fun j h1 h2 => by
          by_cases e : j = m
          · subst e; rw [← HY.out]; exact hxy
          · exact hs0.out j h1 (by omega))
        have hv : (y.toList == s.toList) = false := by
          cases h : (y.toList == s.toList) with
          | false => rfl
          | true => exact absurd ((Lib.bytes_beq_iff _ _).1 h) hxy
        clear hxy hs0
        go_wp2
        go_round
        case rel => exact ⟨m + 1, by omega, by omega, by simp, HN⟩
        case measure => simp [intOf]; omega
    · have hme : m = 12 := by omega
      subst hme
      have HR := Lib.hid (show PolQ s 0 5 from .inr ⟨hs0.out, rfl, rfl⟩)
      clear hs0
      go_wp2
      go_returns
      exact ⟨_, _, rfl, by (repeat' (first | (with_reducible exact Below.refl _ _) | (with_reducible assumption) | (with_reducible refine Below.alloc ?_ ?_ _) | (with_reducible refine below_drewN ?_ _) | (with_reducible refine below_drew ?_) | (with_reducible refine below_ext ?_ ?_ _ _) | (with_reducible refine Below.setCell ?_ ?_ _) | (simp; done) | (simp; omega) | omega)), HR.out⟩
theorem ix_sg (m : Nat) (hm : m < 12) (w : World) : (Instr.index 60 (.agg #[.string ⟨#[]⟩, .string ⟨#[85]⟩, .string ⟨#[65]⟩, .string ⟨#[80]⟩, .string ⟨#[70]⟩, .string ⟨#[82]⟩, .string ⟨#[79]⟩, .string ⟨#[67]⟩, .string ⟨#[67, 43]⟩, .string ⟨#[67, 60]⟩, .string ⟨#[67, 62]⟩, .string ⟨#[67, 35]⟩]) (.int .i64 (m : Int))).run Tryz.prog w = .ok (.string (sgAt m)) w := by
  match m, hm with
  | 0, _ | 1, _ | 2, _ | 3, _ | 4, _ | 5, _ | 6, _ | 7, _ | 8, _ | 9, _ | 10, _ | 11, _ => (simp [Instr.index, run_underlying Tryz.underlying60, asIntOf, go_sem, part]; try rfl)
attribute [local go_sem] ix_sg
set_option maxRecDepth 100000 in
theorem policy_any (s : ByteArray) (w : World) (hw : Sgns w) : Calls Tryz.prog 18 #[.string s] w fun e w' => ∃ c x, e = .returned (.tuple #[.int .i64 c, .int .i64 x]) ∧ Below w.heap.size w w' ∧ PolQ s c x := by
  have HI := Lib.hid (fun p w => isPolicy_any p w)
  obtain ⟨h0, h1⟩ := hw
  have c0 : w.cell? ⟨0, 0, none⟩ = some (.string ⟨#[]⟩) := h1 0 (by omega)
  have c1 : w.cell? ⟨0, 1, none⟩ = some (.string ⟨#[85]⟩) := h1 1 (by omega)
  have c2 : w.cell? ⟨0, 2, none⟩ = some (.string ⟨#[65]⟩) := h1 2 (by omega)
  have c3 : w.cell? ⟨0, 3, none⟩ = some (.string ⟨#[80]⟩) := h1 3 (by omega)
  have c4 : w.cell? ⟨0, 4, none⟩ = some (.string ⟨#[70]⟩) := h1 4 (by omega)
  have c5 : w.cell? ⟨0, 5, none⟩ = some (.string ⟨#[82]⟩) := h1 5 (by omega)
  have c6 : w.cell? ⟨0, 6, none⟩ = some (.string ⟨#[79]⟩) := h1 6 (by omega)
  have c7 : w.cell? ⟨0, 7, none⟩ = some (.string ⟨#[67]⟩) := h1 7 (by omega)
  have c8 : w.cell? ⟨0, 8, none⟩ = some (.string ⟨#[67, 43]⟩) := h1 8 (by omega)
  have c9 : w.cell? ⟨0, 9, none⟩ = some (.string ⟨#[67, 60]⟩) := h1 9 (by omega)
  have c10 : w.cell? ⟨0, 10, none⟩ = some (.string ⟨#[67, 62]⟩) := h1 10 (by omega)
  have c11 : w.cell? ⟨0, 11, none⟩ = some (.string ⟨#[67, 35]⟩) := h1 11 (by omega)
  clear h1
  go_enter Tryz.func18, Tryz.ntmps18
  go_wp2
  go_loop [4, 5, 7] (fun x y i => ∃ m : Nat, m ≤ 12 ∧ i = .int .i64 m ∧ Hid (∀ j, 1 ≤ j → j < m → sgAt j ≠ s)) (fun _ _ i => 12 - (intOf i).toNat)
  case atStart => exact ⟨0, by omega, rfl, Lib.hid (fun j h1 h2 => by omega)⟩
  case round =>
    obtain ⟨m, hm, rfl, hs0⟩ := hrel
    by_cases hml : m < 12
    · have hi : (m : Int) < 12 := by omega
      by_cases hxy : sgAt m = s
      · have hv2 : (sgAt m).toList = s.toList := by rw [hxy]
        have hv : ((sgAt m).toList == s.toList) = true := (Lib.bytes_beq_iff _ _).2 hxy
        by_cases hm0 : m = 0
        · have HN := Lib.hid (show ∀ j, 1 ≤ j → j < m + 1 → sgAt j ≠ s from fun j h1 h2 => by omega)
          have HI0 := Lib.hid (fun w => HI.out (m : Int) w)
          rw [show polB (m : Int) = false from by unfold polB; simp; omega] at HI0
          clear hxy hs0 HI hm0
          go_wp2_with (go_at_call 32; ((with_reducible refine (HI0.out _).mono ?_); rintro e w1 ⟨rfl, rfl⟩))
          go_round
          case rel => exact ⟨m + 1, by omega, by go_num, HN⟩
          case measure => simp [intOf]; omega
        · have HR := Lib.hid (show PolQ s m 0 from .inl ⟨m, by omega, hml, hxy, hs0.out, rfl, rfl⟩)
          have HI1 := Lib.hid (fun w => HI.out (m : Int) w)
          rw [show polB (m : Int) = true from by unfold polB; simp; omega] at HI1
          clear hxy hs0 HI
          go_wp2_with (go_at_call 32; ((with_reducible refine (HI1.out _).mono ?_); rintro e w1 ⟨rfl, rfl⟩))
          go_returns
          exact ⟨_, _, rfl, by (repeat' (first | (with_reducible exact Below.refl _ _) | (with_reducible assumption) | (with_reducible refine Below.alloc ?_ ?_ _) | (with_reducible refine below_drewN ?_ _) | (with_reducible refine below_drew ?_) | (with_reducible refine below_ext ?_ ?_ _ _) | (with_reducible refine Below.setCell ?_ ?_ _) | (simp; done) | (simp; omega) | omega)), HR.out⟩
      · have HN := Lib.hid (show ∀ j, 1 ≤ j → j < m + 1 → sgAt j ≠ s from fun j h1 h2 => by
          by_cases e : j = m
          · subst e; exact hxy
          · exact hs0.out j h1 (by omega))
        have hv : ((sgAt m).toList == s.toList) = false := (Lib.bytes_beq_false_iff _ _).2 hxy
        have hv2 : ¬ (sgAt m).toList = s.toList := fun h => hxy ((Lib.bytes_beq_iff _ _).1 (by rw [h]; simp))
        clear hxy hs0
        go_wp2
        go_round
        case rel => exact ⟨m + 1, by omega, by go_num, HN⟩
        case measure => simp [intOf]; omega
    · have hme : m = 12 := by omega
      subst hme
      have HR := Lib.hid (show PolQ s 0 5 from .inr ⟨hs0.out, rfl, rfl⟩)
      clear hs0
      go_wp2
      go_returns
      exact ⟨_, _, rfl, by (repeat' (first | (with_reducible exact Below.refl _ _) | (with_reducible assumption) | (with_reducible refine Below.alloc ?_ ?_ _) | (with_reducible refine below_drewN ?_ _) | (with_reducible refine below_drew ?_) | (with_reducible refine below_ext ?_ ?_ _ _) | (with_reducible refine Below.setCell ?_ ?_ _) | (simp; done) | (simp; omega) | omega)), HR.out⟩
end Go.Proofs.YtdgdeognahmpmaaGreatDoor
namespace Go.Proofs.YtdgdeognahmpmaaGreatDoor
open Go.ChangeShapes Go.WideShapes Go.ChangeAt Go.RowKit Go.Joins Word Txt
section
attribute [local go_sem] setCell_drewN cell?_ext frozen?_ext shape?_ext setCell_ext lt_1' ne_1' en_1' le_1' lt_2' ne_2' en_2' le_2' lt_3' ne_3' en_3' le_3' lt_4' ne_4' en_4' le_4' lt_5' ne_5' en_5' le_5' lt_6' ne_6' en_6' le_6' lt_7' ne_7' en_7' le_7' lt_8' ne_8' en_8' le_8' lt_9' ne_9' en_9' le_9' lt_10' ne_10' en_10' le_10' lt_11' ne_11' en_11' le_11' lt_12' ne_12' en_12' le_12'

set_option maxRecDepth 100000 in
theorem hitSigns_law (p : Int) (s : ByteArray) (w : World) (h : Tens w ∧ Tabs w ∧ Sgns w) : Calls Tryz.prog 5 #[.int .i64 p, .string s] w fun e w' => e = .returned (.bool true) ∧ Below w.heap.size w w' := by
  obtain ⟨hT, hU, hS⟩ := h
  have HK := Lib.hid (hknown_any w hT hU)
  have HSG := Lib.hid (fun w' (hb : Below w.heap.size w w') => sign_any p w' (hS.below hb))
  have HDS := Lib.hid (fun w' => dsign_any p w')
  have HPL := Lib.hid (fun w' (hb : Below w.heap.size w w') => policy_any s w' (hS.below hb))
  have HDP := Lib.hid (fun w' => dpolicy_any s w')
  obtain ⟨a, ha⟩ : ∃ a, a = (sgP p).1 := ⟨_, rfl⟩
  obtain ⟨n, hn⟩ : ∃ n, n = (sgP p).2 := ⟨_, rfl⟩
  rw [← ha, ← hn] at HSG HDS
  clear hT hU hS ha hn
  go_enter Tryz.func5, Tryz.ntmps5
  go_wp2_with (first
    | (go_at_call 9; ((with_reducible refine (HK.out).mono ?_); rintro e w1 ⟨rfl, hb1⟩; obtain ⟨osA, dA, rfl⟩ := ext_of_below hb1; clear hb1))
    | (go_at_call 15; ((with_reducible refine (HDS.out _).mono ?_); rintro e w1 ⟨rfl, hb1⟩; obtain ⟨osB, dB, rfl⟩ := ext_of_below hb1; clear hb1))
    | (go_at_call 16; ((with_reducible refine (HSG.out _ (by (repeat' (first | (with_reducible exact Below.refl _ _) | (with_reducible assumption) | (with_reducible refine Below.alloc ?_ ?_ _) | (with_reducible refine below_drewN ?_ _) | (with_reducible refine below_drew ?_) | (with_reducible refine below_ext ?_ ?_ _ _) | (with_reducible refine Below.setCell ?_ ?_ _) | (simp; done) | (simp; omega) | omega)))).mono ?_); rintro e w1 ⟨rfl, hb1⟩; obtain ⟨osC, dC, rfl⟩ := ext_of_below hb1; clear hb1))
    | (go_at_call 17; (with_reducible refine (HDP.out _).mono ?_); rintro e w1 ⟨c, x, rfl, hb1, hq⟩; have HQ := Lib.hid hq; obtain ⟨osD, dD, rfl⟩ := ext_of_below hb1; clear hb1 hq)
    | (go_at_call 18; (with_reducible refine (HPL.out _ (by (repeat' (first | (with_reducible exact Below.refl _ _) | (with_reducible assumption) | (with_reducible refine Below.alloc ?_ ?_ _) | (with_reducible refine below_drewN ?_ _) | (with_reducible refine below_drew ?_) | (with_reducible refine below_ext ?_ ?_ _ _) | (with_reducible refine Below.setCell ?_ ?_ _) | (simp; done) | (simp; omega) | omega)))).mono ?_); rintro e w1 ⟨c1, x1, rfl, hb1, hq⟩; obtain ⟨rfl, rfl⟩ := hq.one HQ.out; obtain ⟨osE, dE, rfl⟩ := ext_of_below hb1; clear hb1 hq))
  go_ret
  exact ⟨rfl, by (repeat' (first | (with_reducible exact Below.refl _ _) | (with_reducible assumption) | (with_reducible refine Below.alloc ?_ ?_ _) | (with_reducible refine below_drewN ?_ _) | (with_reducible refine below_drew ?_) | (with_reducible refine below_ext ?_ ?_ _ _) | (with_reducible refine Below.setCell ?_ ?_ _) | (simp; done) | (simp; omega) | omega))⟩
end
theorem hownV : ownKnob Tryz.prog.godebug = none := by kernel_rfl
theorem hlaidOutV : laidOutB Tryz.prog = true := by kernel_rfl
def hitLaid : List (String × DataW Unit) := [("unicode/utf8.acceptRanges", Rows.laid_unicode_utf8_acceptRanges), ("tariff/wide.tens", Rows.laid_tariff_wide_tens), ("tariff/hit.signs", Rows.laid_tariff_hit_signs), ("unicode/utf8.first", Rows.laid_unicode_utf8_first)]
theorem hgTens : Tryz.prog.globalNamed "tariff/wide.tens" = some 1 := by kernel_rfl
theorem htTens : (Tryz.prog.globals[1]?).map (·.type) = some 153 := by kernel_rfl
theorem hcWord : Tryz.prog.cellsOf 28 = 1 := by kernel_rfl
theorem hcTens : Tryz.prog.cellsOf 153 = 20 := by kernel_rfl
theorem hgSg : Tryz.prog.globalNamed "tariff/hit.signs" = some 0 := by kernel_rfl
theorem htSg : (Tryz.prog.globals[0]?).map (·.type) = some 60 := by kernel_rfl
theorem hcStr : Tryz.prog.cellsOf 9 = 1 := by kernel_rfl
theorem hcSg : Tryz.prog.cellsOf 60 = 12 := by kernel_rfl
def htensList : List Int := [1, 10, 100, 1000, 10000, 100000, 1000000, 10000000, 100000000, 1000000000, 10000000000, 100000000000, 1000000000000, 10000000000000, 100000000000000, 1000000000000000, 10000000000000000, 100000000000000000, 1000000000000000000, 10000000000000000000]
theorem htens_data : (Rows.laid_tariff_wide_tens : DataW Unit) = Lib.tabData .u64 htensList := rfl
theorem htens_at : ∀ j : Fin 20, htensList.getD j.val 0 = ((10 ^ j.val : Nat) : Int) := by decide
theorem haccept_data : (Rows.laid_unicode_utf8_acceptRanges : DataW Unit) = Lib.acceptData := by kernel_rfl
theorem hfirst_data : Rows.laid_unicode_utf8_first = Lib.firstData := Pinned.utf8First_eq
theorem hxU8 : U8Extra Tryz.prog Tryz.lays196_ren := ⟨by kernel_rfl, by kernel_rfl, by kernel_rfl, by kernel_rfl, by kernel_rfl, by kernel_rfl, by kernel_rfl⟩
def sgWords : List (List UInt8) := [[], [85], [65], [80], [70], [82], [79], [67], [67, 43], [67, 60], [67, 62], [67, 35]]
theorem hsg_data : (Rows.laid_tariff_hit_signs : DataW Unit) = .agg (sgWords.map fun s => .lit (.string s)) := rfl
theorem hcells_of_strs {H : Type} {enc : TypeId × Value → H} {P : Program} {w : World} {base : Nat} {sp : Nat → Bool} {held : Bool} {fuel : Nat} {t e : TypeId} {n : Nat} {cs : List Value} {zs : List (List UInt8)} {p : List MemPlace}
    (ht : P.underlying t = some (.array n e)) (he : P.underlying e = some .string) (hce : P.cellsOf e = 1) (hct : P.cellsOf t = n)
    (h : DataW.trod enc P w base sp held fuel t cs = some (.agg (zs.map fun s => .lit (.string s)), p)) : cs = zs.map fun s => Value.string ⟨s.toArray⟩ := by
  cases fuel with
  | zero => simp [DataW.trod] at h
  | succ fuel =>
    simp only [DataW.trod, ht, hce, hct, Nat.mul_one] at h
    split at h
    · rename_i hl
      obtain ⟨xs, hm, hx⟩ := Option.map_eq_some_iff.1 h
      have hxs : xs.map (·.1) = zs.map fun s => (DataW.lit (.string s) : DataW H) := by
        have := congrArg Prod.fst hx
        simpa using this
      have hxl : xs.length = n := by simpa using Lib.mapM_length hm
      have hzl : zs.length = n := by
        have := congrArg List.length hxs
        simp at this
        omega
      apply List.ext_getElem?
      intro i
      by_cases hi : i < n
      · obtain ⟨b, hb, hf⟩ := Lib.mapM_at hm i i (by simp [hi])
        obtain ⟨z, hc, rfl, _⟩ := DataW.trod_string he hf
        have h1 : cs[i]? = some (.string z) := by
          have := congrArg (·[0]?) hc
          simpa [List.getElem?_take, List.getElem?_drop] using this
        have h2 : (xs.map (·.1))[i]? = some (DataW.lit (.string z.data.toList) : DataW H) := by simp [hb]
        rw [hxs] at h2
        simp only [List.getElem?_map, Option.map_eq_some_iff, DataW.lit.injEq, Lit.string.injEq] at h2
        obtain ⟨z', hz', rfl⟩ := h2
        simp [h1, hz']
      · rw [List.getElem?_eq_none (by omega), List.getElem?_eq_none (by simp; omega)]
    · cases h
/-- all that the walks ask of the start -/
theorem hfacts_of_laid {W : World} (h : laidMetH Tryz.prog hitLaid W) : Tens W ∧ Tabs W ∧ Sgns W := by
  rw [MakeChecks.laidMetH_plain _ _ _ (by kernel_rfl)] at h
  have h2 := Lib.laidMet.reads h (n := "tariff/wide.tens") (d := Rows.laid_tariff_wide_tens) (.tail _ (.head _))
  have h5 := Lib.laidMet.reads h (n := "tariff/hit.signs") (d := Rows.laid_tariff_hit_signs) (.tail _ (.tail _ (.head _)))
  have h3 := Lib.laidMet.reads h (n := "unicode/utf8.first") (d := Rows.laid_unicode_utf8_first) (.tail _ (.tail _ (.tail _ (.head _))))
  have h4 := Lib.laidMet.reads h (n := "unicode/utf8.acceptRanges") (d := Rows.laid_unicode_utf8_acceptRanges) (.head _)
  refine ⟨?_, ?_, ?_⟩
  · rw [htens_data] at h2
    obtain ⟨g', t', cs, fuel, p, hg', ht', hvar, hd⟩ := h2
    obtain rfl := Option.some.inj (hgTens.symm.trans hg')
    obtain rfl := Option.some.inj (htTens.symm.trans ht')
    have hti : Lib.TabIs Tryz.prog W "tariff/wide.tens" .u64 htensList := by
      unfold Lib.TabIs
      rw [hvar, ← Lib.cells_of_tab Tryz.underlying153 Tryz.underlying28 hcWord hcTens hd]
    have hc : ∀ j, j < 20 → W.cell? ⟨1, j, none⟩ = some (.int .u64 (p10 j : Int)) := fun j hj => by
      have := Lib.TabIs.cell hti hgTens j hj
      rw [htens_at ⟨j, hj⟩] at this
      exact this
    exact ⟨World.block_lt_of_cell? W _ (hc 0 (by decide)), hc⟩
  · rw [hfirst_data] at h3
    rw [haccept_data] at h4
    have hT : Lib.Utf8Tabs 2 3 W := utf8Tabs_of_readsT (U8Types.of196 Tryz.lays196) hxU8 h3 h4
    exact ⟨hT, World.block_lt_of_cell? W _ (hT.1 0 (by decide)), World.block_lt_of_cell? W _ (hT.2 0 (by decide)).1⟩
  · rw [hsg_data] at h5
    obtain ⟨g', t', cs, fuel, p, hg', ht', hvar, hd⟩ := h5
    obtain rfl := Option.some.inj (hgSg.symm.trans hg')
    obtain rfl := Option.some.inj (htSg.symm.trans ht')
    have hcs := hcells_of_strs Tryz.underlying60 Tryz.underlying9 hcStr hcSg hd
    obtain rfl : cs = (sgWords.map fun s => Value.string ⟨s.toArray⟩).toArray := by rw [← hcs]
    have hc : ∀ j, W.cell? ⟨0, j, none⟩ = (sgWords.map fun s => Value.string ⟨s.toArray⟩)[j]? := fun j => by
      have := World.var?_cell hgSg hvar j
      simpa using this
    refine ⟨World.block_lt_of_cell? W _ (hc 0), fun j hj => ?_⟩
    rw [hc]
    match j, hj with
    | 0, _ | 1, _ | 2, _ | 3, _ | 4, _ | 5, _ | 6, _ | 7, _ | 8, _ | 9, _ | 10, _ | 11, _ => rfl
end Go.Proofs.YtdgdeognahmpmaaGreatDoor
