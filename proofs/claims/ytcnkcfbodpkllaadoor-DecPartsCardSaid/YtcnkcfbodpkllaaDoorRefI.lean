/-
  The document's Times.
-/
import Derived.Test.YtcnkcfbodpkllaaDoorRefH
namespace Go.Proofs.YtcnkcfbodpkllaaDoor
open Go.RowKit Num Word
attribute [local go_sem] setCell_drewN cell?_ext frozen?_ext shape?_ext setCell_ext lt_1' ne_1' en_1' le_1' lt_2' ne_2' en_2' le_2' lt_3' ne_3' en_3' le_3' lt_4' ne_4' en_4' le_4' lt_5' ne_5' en_5' le_5' lt_6' ne_6' en_6' le_6' lt_7' ne_7' en_7' le_7' lt_8' ne_8' en_8' le_8' lt_9' ne_9' en_9' le_9' lt_10' ne_10' en_10' le_10' lt_11' ne_11' en_11' le_11' lt_12' ne_12' en_12' le_12'

theorem times_bound (a b : Nat) : ((a * b : Nat) : Int) < 10 ^ ((dg a).length + (dg b).length) := by
  have h1 := (dg_len_le (n := a) (k := (dg a).length)).1 (Nat.le_refl _)
  have h2 := (dg_len_le (n := b) (k := (dg b).length)).1 (Nat.le_refl _)
  have h3 : a * b < 10 ^ (dg a).length * 10 ^ (dg b).length := Nat.mul_lt_mul'' h1 h2
  rw [← Nat.pow_add] at h3
  have : ((10 ^ ((dg a).length + (dg b).length) : Nat) : Int) = (10 : Int) ^ ((dg a).length + (dg b).length) := by push_cast; rfl
  rw [← this]
  omega
set_option maxRecDepth 100000 in
set_option maxHeartbeats 16000000 in
theorem rtimes_any (va vb : Value) (a b : Nat) (hla : (dg a).length ≤ 1000) (hlb : (dg b).length ≤ 1000) (w : World) (ha : Rd w va (dg a)) (hb : Rd w vb (dg b)) :
    Calls Tryd.prog 32 #[va, vb] w fun e w' => ∃ v', e = .returned v' ∧ RdP (fun g => w.heap.size ≤ g) w' v' (dg (a * b)) ∧ Below w.heap.size w w' := by
  have htb := times_bound a b
  obtain ⟨l, hll⟩ : ∃ l, l = dg a := ⟨_, rfl⟩
  obtain ⟨m, hmm⟩ : ∃ m, m = dg b := ⟨_, rfl⟩
  have hda := dig_dg a
  have hdb := dig_dg b
  have hva := lv_dg a
  have hvb := lv_dg b
  rw [← hll] at hla ha hda hva htb
  rw [← hmm] at hlb hb hdb hvb htb
  clear hll hmm
  obtain ⟨p, cap, rfl, -⟩ := ha.form
  obtain ⟨q, cap2, rfl, -⟩ := hb.form
  obtain ⟨N, hN⟩ : ∃ N, N = l.length + m.length + 1 := ⟨_, rfl⟩
  have hmk : ∀ w, (Instr.makeSlice 40 (.int .i64 ((l.length : Int) + (m.length : Int) + 1)) (.int .i64 ((l.length : Int) + (m.length : Int) + 1))).run Tryd.prog w = .ok (.slice (some ⟨w.heap.size, 0, none⟩) N N) (w.alloc (.cells (madeCells #[.int .i64 0] N) 3)) := by
    rw [show (l.length : Int) + (m.length : Int) + 1 = (N : Int) by omega]
    exact make_int N (by omega)
  have HA := Lib.hid ha; have HB := Lib.hid hb; have HDA := Lib.hid hda; have HDB := Lib.hid hdb
  have HVA := Lib.hid hva; have HVB := Lib.hid hvb; have HTB := Lib.hid htb; have HN := Lib.hid hN
  have HI := Lib.hid (IRow.made (W0 := w) (w := w) (Below.refl _ _) N)
  have hN3 : N ≤ 3000 := by omega
  clear ha hb hda hdb hva hvb htb hN
  go_enter Tryd.func32, Tryd.ntmps32
  go_wp2
  go_loopw [6] (fun i wr => ∃ (j : Nat) (f : Nat → Int), i = .int .i64 j ∧ j ≤ l.length ∧ Hid (TimesA l m j 0 f) ∧ Hid (IRow w wr w.heap.size N f)) (fun i _ => l.length - (intOf i).toNat)
  case atStart => exact ⟨0, fun _ => 0, rfl, Nat.zero_le _, Lib.hid (timesA_start l m _ fun _ => rfl), HI⟩
  case round =>
    obtain ⟨j, f, rfl, hj, hA, hI⟩ := hrel
    by_cases hjl : j < l.length
    · have hjli : (j : Int) < l.length := by omega
      go_wp2
      go_loopw [7] (fun i wr2 => ∃ (k : Nat) (f : Nat → Int), i = .int .i64 k ∧ k ≤ m.length ∧ Hid (TimesA l m j k f) ∧ Hid (IRow w wr2 w.heap.size N f)) (fun i _ => m.length - (intOf i).toNat)
      case atStart => exact ⟨0, f, rfl, Nat.zero_le _, hA, hI⟩
      case round =>
        obtain ⟨k, f2, rfl, hk, hA2, hI2⟩ := hrel
        clear hA hI HI
        by_cases hkl : k < m.length
        · have hkli : (k : Int) < m.length := by omega
          obtain ⟨-, g1, off1, rfl, hg1, hx⟩ := (HA.out.later hI2.out.below).cells (by omega)
          obtain ⟨-, g2, off2, rfl, hg2, hy⟩ := (HB.out.later hI2.out.below).cells (by omega)
          have cx := hx j hjl
          have cy := hy k hkl
          have x9 := HDA.out.get hjl
          have y9 := HDB.out.get hkl
          have hN := HN.out
          obtain ⟨s, hs⟩ : ∃ s, s = j + k := ⟨_, rfl⟩
          have hsN : s < N := by omega
          have hsNi : (s : Int) < N := by omega
          have E1 : (j : Int) + (k : Int) = (s : Int) := by omega
          have cf := hI2.out.cell s hsN
          have fr := hI2.out.free s hsN
          have hbd := hA2.out.2 s (by omega)
          have hstp := timesA_step hA2.out HDA.out HDB.out hjl hkl
          have hst2 := fun v => hI2.out.store s v hsN
          rw [← hs] at hstp
          obtain ⟨x, hxx⟩ : ∃ x, x = l[j] := ⟨_, rfl⟩
          obtain ⟨y, hyy⟩ : ∃ y, y = m[k] := ⟨_, rfl⟩
          obtain ⟨z, hzz⟩ : ∃ z, z = f2 s := ⟨_, rfl⟩
          rw [← hxx] at cx x9 hstp
          rw [← hyy] at cy y9 hstp
          rw [← hzz] at cf hbd hstp
          have hz0 := hbd.1
          have hz1 : z ≤ 100000000 := by omega
          obtain ⟨r, hr⟩ : ∃ r, r = x * y := ⟨_, rfl⟩
          have hr81 : r ≤ 81 := by rw [hr]; exact Nat.le_trans (Nat.mul_le_mul (show x ≤ 9 by omega) (show y ≤ 9 by omega)) (by decide)
          have E2 : (x : Int) * (y : Int) = (r : Int) := by rw [hr]; push_cast; rfl
          rw [E2] at hstp
          have HS := Lib.hid hstp; have HT := Lib.hid hst2
          clear hx hy hxx hyy hzz hr hs hN hstp hst2 hbd hA2 hI2
          go_wp2
          go_region
          go_wp2
          go_roundw
          case rel => exact ⟨k + 1, _, by go_num, by omega, HS, Lib.hid (HT.out _).drew⟩
          case measure => simp only [intOf]; omega
        · obtain rfl : k = m.length := by omega
          have HR := Lib.hid (timesA_row hA2.out hjl hlb)
          clear hA2
          go_wp2
          go_roundw
          case rel => exact ⟨j + 1, f2, by go_num, by omega, HR, hI2⟩
          case measure => simp only [intOf]; omega
    · obtain rfl : j = l.length := by omega
      have hst := timesB_start hA.out rfl (by omega)
      rw [HVA.out, HVB.out, ← HN.out] at hst
      have HS2 := Lib.hid hst
      clear hst hA HI
      go_wp2
      go_loopw [8] (fun i wr2 => ∃ (k : Nat) (f : Nat → Int), i = .int .i64 k ∧ k ≤ N ∧ Hid (TimesB ((a : Int) * (b : Int)) N k f) ∧ Hid (IRow w wr2 w.heap.size N f)) (fun i _ => N - (intOf i).toNat)
      case atStart => exact ⟨0, _, rfl, Nat.zero_le _, HS2, hI⟩
      case round =>
        obtain ⟨k, f2, rfl, hk2, hB2, hI2⟩ := hrel
        clear hI HS2
        by_cases hlt2 : k + 1 < N
        · have hlt2i : (k : Int) + 1 < N := by omega
          have hkl : k < N := by omega
          have hkli : (k : Int) < N := by omega
          have cf := hI2.out.cell k hkl
          have fr := hI2.out.free k hkl
          have cf1 := hI2.out.cell (k + 1) hlt2
          have fr1 := hI2.out.free (k + 1) hlt2
          have hb1 := hB2.out.2.2 k hkl
          have hb2 := hB2.out.2.2 (k + 1) hlt2
          have hstp := timesB_step hB2.out hlt2
          have hst2 := fun v v' => (hI2.out.store (k + 1) v hlt2).drew.store k v' hkl
          obtain ⟨x, hxx⟩ : ∃ x, x = f2 k := ⟨_, rfl⟩
          obtain ⟨y, hyy⟩ : ∃ y, y = f2 (k + 1) := ⟨_, rfl⟩
          rw [← hxx] at cf hb1 hstp
          rw [← hyy] at cf1 hb2 hstp
          have HT := Lib.hid hst2
          have HS := Lib.hid hstp
          clear hxx hyy hstp hst2 hB2 hI2
          have W1 : wrap64 ((k : Int) + 1) = (k : Int) + 1 := by unfold wrap64; omega
          go_wp2
          go_region
          go_wp2
          go_roundw
          case rel => exact ⟨k + 1, _, by go_num, by omega, HS, Lib.hid (HT.out _ _)⟩
          case measure => simp only [intOf]; omega
        · have hlt2i : ¬ (k : Int) + 1 < N := by omega
          have hN := HN.out
          have htb := HTB.out
          obtain ⟨e1, e2⟩ := times_list hB2.out (by omega) (by omega) (by rw [show N - 1 = l.length + m.length by omega, ← Int.natCast_mul]; exact htb)
          have e3 : lv (listOf f2 N) = a * b := by
            rw [← Int.natCast_mul] at e2
            exact Int.ofNat_inj.1 e2
          have hrd := hI2.out.rd (Nat.le_refl _) (listOf f2 N) (listOf_len _ _) (fun j hj => by
            have := (hB2.out.2.2 j (by rw [listOf_len] at hj; exact hj)).1
            rw [listOf_get]; omega)
          have hcut := cut_any _ _ e1 (by rw [listOf_len]; omega) _ hrd
          rw [e3] at hcut
          have HC := Lib.hid hcut
          have HG := Lib.hid hI2.out.own
          have HBB := Lib.hid hI2.out.below
          clear e1 e2 e3 hrd hcut hB2 hI2 hN htb
          go_wp2_with (go_at_call 61; ((with_reducible refine (HC.out).mono ?_); rintro e w' ⟨v', rfl, hrd, rfl⟩))
          go_ret
          exact ⟨_, rfl, hrd.weak (fun g _ h => by rw [h]; exact HG.out), HBB.out⟩
end Go.Proofs.YtcnkcfbodpkllaaDoor
