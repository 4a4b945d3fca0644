/-
  The document's DocTrim.
-/
import Derived.Test.YthfcdlcklcpegaaDoorRefP
import Derived.Test.YthfcdlcklcpegaaDoorTens
namespace Go.Proofs.YthfcdlcklcpegaaDoor
open Go.RowKit Num Word
attribute [local go_sem] setCell_drewN cell?_ext frozen?_ext shape?_ext setCell_ext lt_1' ne_1' en_1' le_1' lt_2' ne_2' en_2' le_2' lt_3' ne_3' en_3' le_3' lt_4' ne_4' en_4' le_4' lt_5' ne_5' en_5' le_5' lt_6' ne_6' en_6' le_6' lt_7' ne_7' en_7' le_7' lt_8' ne_8' en_8' le_8' lt_9' ne_9' en_9' le_9' lt_10' ne_10' en_10' le_10' lt_11' ne_11' en_11' le_11' lt_12' ne_12' en_12' le_12'

theorem RdP.drop {P : Nat → Prop} {w : World} {g off cap : Nat} {l : List Nat} (hcap : l.length ≤ cap) (hg : g < w.heap.size) (hp : P g) (hx : ∀ j (hj : j < l.length), w.cell? ⟨g, off + j, none⟩ = some (.int .i64 (l[j] : Int))) (k : Nat) (hk : k ≤ l.length) :
    RdP P w (.slice (some ⟨g, off + k, none⟩) (l.length - k) (cap - k)) (l.drop k) := by
  refine .inr ⟨g, off + k, cap - k, by rw [List.length_drop], by rw [List.length_drop]; omega, hg, hp, fun j hj => ?_⟩
  rw [List.length_drop] at hj
  rw [Nat.add_assoc, hx (k + j) (by omega), List.getElem_drop]
theorem slice_rest (g off len cap k : Nat) (hk : k ≤ len) (hkc : k < cap) (w : World) :
    (Instr.slice 49 (.slice (some ⟨g, off, none⟩) len cap) (some (.int .i64 (k : Int))) none none).run Tryd.prog w = .ok (.slice (some ⟨g, off + k, none⟩) (len - k) (cap - k)) w := by
  have h := run_slice_l (P := Tryd.prog) w 49 (some ⟨g, off, none⟩) len cap (by kernel_rfl) .i64 (k : Int) (by omega) (by omega)
  rw [h, show Tryd.prog.elem 49 = 3 by kernel_rfl]
  have hne : ¬ cap = k := by omega
  simp [go_sem, sliced, hne]
theorem zero_digit {a t K j : Nat} (h : a = t * 10 ^ K) (hj : j < K) : a / 10 ^ j % 10 = 0 := by
  obtain ⟨i, rfl⟩ : ∃ i, K = j + 1 + i := ⟨K - (j + 1), by omega⟩
  have e : a = (t * 10 ^ i * 10) * 10 ^ j := by
    rw [h]
    simp only [Nat.pow_add, Nat.pow_one, Nat.mul_assoc, Nat.mul_comm, Nat.mul_left_comm]
  rw [e, Nat.mul_div_cancel _ (Nat.pow_pos (by decide)), Nat.mul_mod_left]
theorem last_digit {a t K : Nat} (h : a = t * 10 ^ K) : a / 10 ^ K = t := by
  rw [h, Nat.mul_div_cancel _ (Nat.pow_pos (by decide))]
set_option maxRecDepth 100000 in
set_option maxHeartbeats 8000000 in
theorem docTrim_any (a t K : Nat) (ha : a < top2) (h : a = t * 10 ^ K) (ht : t % 10 ≠ 0) (w : World) :
    Calls Tryd.prog 21 #[W a] w fun e w' => e = .returned (.tuple #[W t, .int .i64 (K : Int)]) ∧ Below w.heap.size w w' := by
  have htl : t < top2 := Nat.lt_of_le_of_lt (by rw [h]; exact Nat.le_mul_of_pos_right _ (Nat.pow_pos (by decide))) ha
  have hlK : K < (dg a).length := dg_len_lt.2 (by rw [h]; exact Nat.le_mul_of_pos_left _ (by omega))
  have hdr : (dg a).drop K = dg t := by rw [dg_drop, last_digit h]
  have hgl := fun j (hj : j < (dg a).length) => dg_get (n := a) hj
  have H1 := Lib.hid (of_any a ha)
  have h5 := fun v => to_any v t (by have := len2 htl; omega)
  rw [Nat.mod_eq_of_lt htl, decide_eq_true htl] at h5
  have hz := fun j (hj : j < K) => zero_digit h hj
  have hl := last_digit h
  obtain ⟨l, hll⟩ : ∃ l, l = dg a := ⟨_, rfl⟩
  rw [← hll] at hlK hdr hgl
  have hl100 : l.length ≤ 100 := by rw [hll]; have := len2 ha; omega
  have HL := Lib.hid hll; have H5 := Lib.hid h5; have HD := Lib.hid hdr; have HG := Lib.hid hgl; have HZ := Lib.hid hz
  have HT := Lib.hid (show a / 10 ^ K % 10 ≠ 0 by rw [hl]; exact ht)
  obtain ⟨o1, ho1⟩ : ∃ o, o = decide (t < top2) := ⟨_, rfl⟩
  clear h5 hz hl hdr hgl hll ha h ht htl ho1
  go_enter Tryd.func21, Tryd.ntmps21
  go_wp2_with (go_at_call 35; ((with_reducible refine (H1.out _).mono ?_); rintro e w1 ⟨v1, rfl, r1, b1⟩; rw [← HL.out] at r1; rcases r1 with ⟨rfl, rfl⟩ | ⟨g, off, cap, rfl, hcap, hg, hp, hx⟩; exact absurd hlK (by simp)))
  have hrd := Lib.hid (RdP.drop (P := fun _ => True) hcap hg trivial hx K (Nat.le_of_lt hlK))
  rw [HD.out] at hrd
  have HC := Lib.hid (fun j (hj : j < l.length) => (hx j hj).trans (by rw [HG.out j hj]))
  have ksl := slice_rest g off l.length cap K (Nat.le_of_lt hlK) (by omega)
  have HB1 := Lib.hid b1
  clear hx b1
  go_loopw [5] (fun i wr => ∃ j : Nat, i = .int .i64 j ∧ j ≤ K ∧ wr = w1) (fun i _ => K - (intOf i).toNat)
  case atStart => exact ⟨0, rfl, Nat.zero_le _, rfl⟩
  case round =>
    obtain ⟨j, rfl, hj, rfl⟩ := hrel
    have hjl : j < l.length := by omega
    have hjli : (j : Int) < l.length := by omega
    have hc := HC.out j hjl
    by_cases hjK : j < K
    · rw [HZ.out j hjK] at hc
      go_wp2
      go_roundw
      case rel => exact ⟨j + 1, by go_num, by omega, trivial⟩
      case measure => simp only [intOf]; omega
    · obtain rfl : j = K := by omega
      obtain ⟨x, hxx⟩ : ∃ x, x = a / 10 ^ j % 10 := ⟨_, rfl⟩
      have hx0 := HT.out
      rw [← hxx] at hc hx0
      have hxi : ((x : Int) == 0) = false := beq_eq_false_iff_ne.2 (by omega)
      clear hxx hx0
      go_wp2_with (go_at_call 49; ((with_reducible refine (H5.out _ _ hrd.out).mono ?_); rintro e w5 ⟨rfl, b5⟩; clear hrd hc HC ksl; obtain ⟨os1, d1, rfl⟩ := ext_of_below HB1.out; clear HB1; obtain ⟨os5, d5, rfl⟩ := ext_of_below b5; clear b5))
      go_returns
      exact ⟨rfl, by (repeat' (first | (with_reducible exact Below.refl _ _) | (with_reducible assumption) | (with_reducible refine Below.alloc ?_ ?_ _) | (with_reducible refine below_drewN ?_ _) | (with_reducible refine below_drew ?_) | (with_reducible refine below_ext ?_ ?_ _ _) | (with_reducible refine Below.setCell ?_ ?_ _) | (simp; done) | (simp; omega) | omega))⟩
set_option maxHeartbeats 8000000 in
theorem docTrim_zero (w : World) :
    Calls Tryd.prog 21 #[W 0] w fun e w' => e = .returned (.tuple #[W 0, .int .i64 0]) ∧ Below w.heap.size w w' := by
  have HW : W 0 = .agg #[.int .u64 0, .int .u64 0] := rfl
  have h1 := of_any 0 (by decide)
  have h5 := fun v => to_any v 0 (by rw [dg_zero]; decide)
  rw [show 0 % top2 = 0 by decide, dg_zero] at h5
  rw [HW] at h1 h5 ⊢
  obtain ⟨o1, ho1⟩ : ∃ o, o = decide (0 < top2) := ⟨_, rfl⟩
  rw [← ho1] at h5
  have H1 := Lib.hid h1; have H5 := Lib.hid h5
  clear h1 h5 HW ho1
  go_enter Tryd.func21, Tryd.ntmps21
  go_wp2_with (go_at_call 35; ((with_reducible refine (H1.out _).mono ?_); rintro e w1 ⟨v1, rfl, r1, b1⟩; rw [dg_zero] at r1; have r0 := Lib.hid r1; obtain ⟨p1, c1, rfl, -⟩ := r1.form))
  have hrd := Lib.hid (show Rd w1 (.slice p1 0 c1) [] from r0.out.rd)
  refine wp_loop_rounds 1 ?_
  rw [rounds_succ]
  go_wp2_with (go_at_call 49; ((with_reducible refine (H5.out _ _ hrd.out).mono ?_); rintro e w5 ⟨rfl, b5⟩; clear hrd r0; obtain ⟨os1, d1, rfl⟩ := ext_of_below b1; clear b1; obtain ⟨os5, d5, rfl⟩ := ext_of_below b5; clear b5))
  go_returns
  exact ⟨rfl, by (repeat' (first | (with_reducible exact Below.refl _ _) | (with_reducible assumption) | (with_reducible refine Below.alloc ?_ ?_ _) | (with_reducible refine below_drewN ?_ _) | (with_reducible refine below_drew ?_) | (with_reducible refine below_ext ?_ ?_ _ _) | (with_reducible refine Below.setCell ?_ ?_ _) | (simp; done) | (simp; omega) | omega))⟩
end Go.Proofs.YthfcdlcklcpegaaDoor
