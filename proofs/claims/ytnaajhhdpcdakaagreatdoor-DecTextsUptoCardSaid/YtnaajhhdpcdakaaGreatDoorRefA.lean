/-
  The document's Cut, twice and half.
-/
import Derived.Test.YtnaajhhdpcdakaaGreatDoorRd
namespace Go.Proofs.YtnaajhhdpcdakaaGreatDoor
open Go.RowKit Num
attribute [local go_sem] setCell_drewN cell?_ext frozen?_ext shape?_ext setCell_ext lt_1' ne_1' en_1' le_1' lt_2' ne_2' en_2' le_2' lt_3' ne_3' en_3' le_3' lt_4' ne_4' en_4' le_4' lt_5' ne_5' en_5' le_5' lt_6' ne_6' en_6' le_6' lt_7' ne_7' en_7' le_7' lt_8' ne_8' en_8' le_8' lt_9' ne_9' en_9' le_9' lt_10' ne_10' en_10' le_10' lt_11' ne_11' en_11' le_11' lt_12' ne_12' en_12' le_12'

set_option maxRecDepth 100000 in
set_option maxHeartbeats 4000000 in
theorem cut_any {P : Nat → Prop} (v : Value) (l : List Nat) (hd : Dig l) (hl : l.length ≤ 1000000) (w : World) (hr : RdP P w v l) :
    Calls Tryz.prog 29 #[v] w fun e w' => ∃ v', e = .returned v' ∧ RdP P w v' (dg (lv l)) ∧ w = w' := by
  obtain ⟨p, cap, rfl, hcap⟩ := hr.form
  have HR := Lib.hid hr
  have HD := Lib.hid hd
  clear hr hd
  go_enter Tryz.func29, Tryz.ntmps29
  go_wp2
  go_loopw [3] (fun n wr => ∃ m : Nat, n = .int .i64 m ∧ m ≤ l.length ∧ Hid (∀ j (hj : j < l.length), m ≤ j → l[j] = 0) ∧ wr = w) (fun n _ => (intOf n).toNat)
  case atStart => exact ⟨l.length, rfl, Nat.le_refl _, Lib.hid (fun j hj h => by omega), rfl⟩
  case round =>
    obtain ⟨m, rfl, hm, hz, rfl⟩ := hrel
    by_cases h0 : m = 0
    · subst h0
      have HE := Lib.hid (cut_eq l 0 HD.out (Nat.zero_le _) (fun j hj h => hz.out j hj h) (.inl rfl))
      have hT := Lib.hid (HR.out.take 0 (Nat.zero_le _))
      go_wp2
      go_ret
      exact ⟨_, rfl, by rw [← HE.out]; exact hT.out, rfl⟩
    obtain ⟨q, rfl⟩ : ∃ q, m = q + 1 := ⟨m - 1, by omega⟩
    have hq : q < l.length := by omega
    obtain ⟨-, g, off, rfl, hg, hx⟩ := HR.out.cells (by omega)
    have hc := hx q hq
    clear hx h0
    by_cases hz0 : l[q] = 0
    · rw [hz0] at hc
      have HZ := Lib.hid (show ∀ j (hj : j < l.length), q ≤ j → l[j] = 0 from fun j hj h => by
        by_cases e : j = q
        · subst e; exact hz0
        · exact hz.out j hj (by omega))
      clear hz hz0
      go_wp2
      go_roundw
      case rel => exact ⟨q, by go_num, by omega, HZ, trivial⟩
      case measure => simp [intOf]
    · have HE := Lib.hid (cut_eq l (q + 1) HD.out hm (fun j hj h => hz.out j hj h) (.inr ⟨hq, hz0⟩))
      have hT := Lib.hid (HR.out.take (q + 1) hm)
      obtain ⟨x, hxx⟩ : ∃ x, x = l[q] := ⟨_, rfl⟩
      rw [← hxx] at hc hz0
      have hxi : ((x : Int) == 0) = false := by simp; omega
      clear hz hxx hz0
      go_wp2
      go_ret
      exact ⟨_, rfl, by rw [← HE.out]; exact hT.out, rfl⟩
theorem twL_len : ∀ (b : Nat) (l : List Nat), (twL b l).length ≤ l.length + 1
  | b, [] => by unfold twL; split <;> simp
  | b, d :: l => by have := twL_len ((2 * d + b) / 10) l; simp [twL]; omega
set_option maxRecDepth 100000 in
set_option maxHeartbeats 4000000 in
theorem twice_any (v : Value) (l : List Nat) (b : Nat) (hb1 : b ≤ 1) (hd : Dig l) (hl : l.length ≤ 100000) (w : World) (hr : Rd w v l) :
    Calls Tryz.prog 92 #[v, .int .i64 (b : Int)] w fun e w' => ∃ v', e = .returned v' ∧ RdP (fun g => w.heap.size ≤ g) w' v' (twL b l) ∧ Below w.heap.size w w' := by
  obtain ⟨p, cap, rfl, hcap⟩ := hr.form
  obtain ⟨B, hB⟩ : ∃ B, B = w.heap.size := ⟨_, rfl⟩
  have HB := Lib.hid hB
  have HR := Lib.hid hr
  have HD := Lib.hid hd
  clear hr hd hB
  go_enter Tryz.func92, Tryz.ntmps92
  go_wp2
  go_loopw [1, 5, 6] (fun bv v i wr => ∃ (k c : Nat) (acc : List Nat), bv = .int .i64 c ∧ c ≤ 1 ∧ k ≤ l.length ∧ i = .int .i64 k ∧ acc.length = k ∧ Hid (IBuf B v acc w wr) ∧ Hid (twL b l = acc ++ twL c (l.drop k))) (fun _ _ i _ => l.length - (intOf i).toNat)
  case atStart => exact ⟨0, b, [], rfl, hb1, Nat.zero_le _, rfl, rfl, Lib.hid (by rw [HB.out]; exact IBuf.nil w (by (repeat' (first | (with_reducible exact Below.refl _ _) | (with_reducible assumption) | (with_reducible refine Below.alloc ?_ ?_ _) | (with_reducible refine below_drewN ?_ _) | (with_reducible refine below_drew ?_) | (with_reducible refine below_ext ?_ ?_ _ _) | (with_reducible refine Below.setCell ?_ ?_ _) | (simp; done) | (simp; omega) | omega)))), Lib.hid (by rw [List.drop_zero]; rfl)⟩
  case round =>
    obtain ⟨k, c, acc, rfl, hc1, hk, rfl, hal, hb0, hT⟩ := hrel
    have hb := hb0.out
    have hbel := hb.2.1
    rw [HB.out] at hbel
    have HBE := Lib.hid hbel
    clear hbel
    by_cases hlt : k < l.length
    · have hlti : (k : Int) < l.length := by omega
      obtain ⟨-, g, off, rfl, hg, hx⟩ := (HR.out.later HBE.out).cells (by omega)
      have hc := hx k hlt
      have hx9 := HD.out.get hlt
      have hT2 := hT.out
      rw [List.drop_eq_getElem_cons hlt, twL] at hT2
      obtain ⟨x, hxx⟩ : ∃ x, x = l[k] := ⟨_, rfl⟩
      rw [← hxx] at hc hx9 hT2
      have HT2 := Lib.hid hT2
      clear hx hT2 hT hxx
      go_wp2_with (at_builtin; refine append_int rfl _ _ rfl rfl w _ ((2 * x + c) % 10) (by omega) (by assumption) rfl (by omega) ?_; intro _ _ hb)
      go_roundw
      case rel => exact ⟨k + 1, (2 * x + c) / 10, acc ++ [(2 * x + c) % 10], by go_num, by omega, by omega, by go_num, by simp [hal], Lib.hid hb, Lib.hid (by rw [HT2.out, List.append_assoc]; rfl)⟩
      case measure => simp [intOf]; omega
    · obtain rfl : k = l.length := by omega
      have hT2 := hT.out
      rw [List.drop_length, twL] at hT2
      by_cases hc0 : 0 < c
      · rw [if_pos hc0] at hT2
        have HT2 := Lib.hid hT2
        have hci : (0 : Int) < c := by omega
        clear hT2 hT hc0
        go_wp2_with (at_builtin; refine append_int rfl _ _ rfl rfl w _ c rfl (by assumption) rfl (by omega) ?_; intro _ _ hb)
        go_ret
        exact ⟨_, rfl, by rw [HT2.out, ← HB.out]; exact hb.rd, by have := hb.2.1; rw [HB.out] at this; exact this⟩
      · rw [if_neg hc0, List.append_nil] at hT2
        have HT2 := Lib.hid hT2
        obtain rfl : c = 0 := by omega
        clear hT2 hT hc0
        go_wp2
        go_ret
        exact ⟨_, rfl, by rw [HT2.out, ← HB.out]; exact hb.rd, HBE.out⟩
end Go.Proofs.YtnaajhhdpcdakaaGreatDoor
