/-
  Reach and DocReach.
-/
import Derived.Test.YtdgdeognahmpmaaGrT
namespace Go.Proofs.Ytdgdeognahmpmaa
open Go.RowKit
attribute [local go_sem] setCell_drewN cell?_ext frozen?_ext shape?_ext setCell_ext lt_1' ne_1' en_1' le_1' lt_2' ne_2' en_2' le_2' lt_3' ne_3' en_3' le_3' lt_4' ne_4' en_4' le_4' lt_5' ne_5' en_5' le_5' lt_6' ne_6' en_6' le_6' lt_7' ne_7' en_7' le_7' lt_8' ne_8' en_8' le_8' lt_9' ne_9' en_9' le_9' lt_10' ne_10' en_10' le_10' lt_11' ne_11' en_11' le_11' lt_12' ne_12' en_12' le_12'

def reE (L : List (List Int)) (f : Int) : Int := if f < 0 ∨ (L.length : Int) ≤ f then 1 else chkE L
open Classical in
noncomputable def rchB (nd : Nat → List Nat) (s i : Nat) : Bool := decide (Rch nd s i)
open Classical in
theorem rchB_iff {nd : Nat → List Nat} {s i : Nat} : rchB nd s i = true ↔ Rch nd s i := by unfold rchB; exact decide_eq_true_iff
noncomputable def reL (L : List (List Int)) (f : Int) : List Nat := if reE L f = 0 then (List.range L.length).filter (rchB (ndOf L) f.toNat) else []
theorem rp_list {nd : Nat → List Nat} {N s : Nat} {T : Nat → Bool} (h : ∀ i, i < N → (T i = true ↔ Rch nd s i)) : (List.range N).filter T = (List.range N).filter (rchB nd s) := by
  refine List.filter_congr fun i hi => ?_
  rw [List.mem_range] at hi
  rw [Bool.eq_iff_iff, h i hi, rchB_iff]
theorem reL_len (L : List (List Int)) (f : Int) : (reL L f).length ≤ 1000000 := by
  unfold reL
  by_cases h : reE L f = 0
  · rw [if_pos h]
    have h1 : chkE L = 0 := by
      unfold reE at h
      by_cases h2 : f < 0 ∨ (L.length : Int) ≤ f
      · rw [if_pos h2] at h; cases h
      · rw [if_neg h2] at h; exact h
    have := (chk_zero h1).1
    have := filt_len (rchB (ndOf L) f.toNat) L.length
    omega
  · rw [if_neg h]; exact Nat.zero_le _
def RQ (L : List (List Int)) (f : Int) (w : World) (e : Ending) (w' : World) : Prop := ∃ v', e = .returned (.tuple #[v', .int .i64 (reE L f)]) ∧ Below w.heap.size w w' ∧ SRd w'.heap.size w' v' (reL L f) ∧ Fr w.heap.size w' v'
set_option maxRecDepth 100000 in
set_option maxHeartbeats 8000000 in
theorem gReach_any {n w v} {L : List (List Int)} (f : Int) (h : NRd n w v L) (hn : n ≤ w.heap.size) :
    Calls Try.prog 13 #[v, .int .i64 f] w fun e w' => RQ L f w e w' := by
  have hc := gcheck_any h
  obtain ⟨E, hE⟩ : ∃ E, E = chkE L := ⟨_, rfl⟩
  obtain ⟨N, hN⟩ : ∃ N, N = L.length := ⟨_, rfl⟩
  by_cases ho : f < 0 ∨ (L.length : Int) ≤ f
  · have HE2 := Lib.hid (show reE L f = 1 from if_pos ho)
    have HL2 := Lib.hid (show reL L f = [] by unfold reL; rw [HE2.out, if_neg (by decide)])
    obtain ⟨p, c, rfl, -⟩ := h
    rw [← hN] at ho ⊢
    clear hc hE hN
    by_cases h0 : f < 0
    · clear ho
      go_enter Try.func13, Try.ntmps13
      go_wp2
      go_ret2
      exact (show ∃ v', _ from ⟨_, by rw [HE2.out]; rfl, Below.refl _ _, by rw [HL2.out]; exact ⟨SRd.nil _ _, Fr.nil _ _⟩⟩)
    · have h1 : (N : Int) ≤ f := by omega
      clear ho
      go_enter Try.func13, Try.ntmps13
      go_wp2
      go_ret2
      exact (show ∃ v', _ from ⟨_, by rw [HE2.out]; rfl, Below.refl _ _, by rw [HL2.out]; exact ⟨SRd.nil _ _, Fr.nil _ _⟩⟩)
  · have hre : reE L f = E := by unfold reE; rw [if_neg ho, hE]
    have h0 : ¬ f < 0 := fun h => ho (.inl h)
    have h1 : ¬ (N : Int) ≤ f := fun h => ho (.inr (by rw [← hN]; exact h))
    by_cases hz : E = 0
    · have hz' : chkE L = 0 := by rw [← hE, hz]
      have hs : f.toNat < L.length := by omega
      have hfs : ((f.toNat : Nat) : Int) = f := by omega
      have hoo := fun d => greach_any (w := w.drewN d) f.toNat (fm_of hz') ((h.grd hz').keep (bel_drew (Below.refl n w) d)) hn hs
      rw [hfs] at hoo
      have HE2 := Lib.hid (show reE L f = 0 by rw [hre, hz])
      have HL2 := Lib.hid (show reL L f = (List.range L.length).filter (rchB (ndOf L) f.toNat) by unfold reL; rw [HE2.out, if_pos rfl])
      obtain ⟨p, c, rfl, -⟩ := h
      rw [← hE, hz, ← hN] at hc
      have HLL := Lib.hid (show ∀ w e w', RP (ndOf L) L.length f.toNat w e w' → ∃ v', e = .returned v' ∧ Below w.heap.size w w' ∧ (SRd w'.heap.size w' v' (reL L f) ∧ Fr w.heap.size w' v') from fun w e w' ⟨v', T, a, b, cc, d⟩ => ⟨v', a, b, by rw [HL2.out, ← rp_list cc]; exact d⟩)
      rw [← hN] at hoo HLL ⊢
      have HC := Lib.hid hc
      have HO := Lib.hid hoo
      clear hE hz' hN hc hoo hs hfs hre ho
      go_enter Try.func13, Try.ntmps13
      go_wp2_with (first
        | (go_at_call 19; ((with_reducible refine HC.out.mono ?_); rintro e w1 ⟨rfl, d, rfl⟩))
        | (go_at_call 22; ((with_reducible refine (HO.out _).mono ?_); intro e w2 hrp; obtain ⟨v', rfl, hb, hs⟩ := HLL.out _ _ _ hrp; have HS := Lib.hid hs; have HB := Lib.hid hb; clear hb hs hrp)))
      go_ret2
      exact (show ∃ v', _ from ⟨_, by rw [HE2.out]; rfl, bel_undrew HB.out, HS.out⟩)
    · have HE2 := Lib.hid hre
      have HL2 := Lib.hid (show reL L f = [] by unfold reL; rw [hre, if_neg hz])
      obtain ⟨p, c, rfl, -⟩ := h
      rw [← hE, ← hN] at hc
      rw [← hN]
      have HC := Lib.hid hc
      clear hE hN hc hre ho
      go_enter Try.func13, Try.ntmps13
      go_wp2_with (go_at_call 19; ((with_reducible refine HC.out.mono ?_); rintro e w1 ⟨rfl, d, rfl⟩))
      go_ret2
      exact (show ∃ v', _ from ⟨_, by rw [HE2.out]; rfl, bel_drew (Below.refl _ _) d, by rw [HL2.out]; exact ⟨SRd.nil _ _, Fr.nil _ _⟩⟩)
set_option maxRecDepth 100000 in
set_option maxHeartbeats 8000000 in
theorem docReach_any {n w v} {L : List (List Int)} (f : Int) (h : NRd n w v L) (hn : n ≤ w.heap.size) :
    Calls Try.prog 12 #[v, .int .i64 f] w fun e w' => RQ L f w e w' := by
  have hc := rcheck_any h
  obtain ⟨E, hE⟩ : ∃ E, E = chkE L := ⟨_, rfl⟩
  obtain ⟨N, hN⟩ : ∃ N, N = L.length := ⟨_, rfl⟩
  by_cases ho : f < 0 ∨ (L.length : Int) ≤ f
  · have HE2 := Lib.hid (show reE L f = 1 from if_pos ho)
    have HL2 := Lib.hid (show reL L f = [] by unfold reL; rw [HE2.out, if_neg (by decide)])
    obtain ⟨p, c, rfl, -⟩ := h
    rw [← hN] at ho ⊢
    clear hc hE hN
    by_cases h0 : f < 0
    · clear ho
      go_enter Try.func12, Try.ntmps12
      go_wp2
      go_ret2
      exact (show ∃ v', _ from ⟨_, by rw [HE2.out]; rfl, Below.refl _ _, by rw [HL2.out]; exact ⟨SRd.nil _ _, Fr.nil _ _⟩⟩)
    · have h1 : (N : Int) ≤ f := by omega
      clear ho
      go_enter Try.func12, Try.ntmps12
      go_wp2
      go_ret2
      exact (show ∃ v', _ from ⟨_, by rw [HE2.out]; rfl, Below.refl _ _, by rw [HL2.out]; exact ⟨SRd.nil _ _, Fr.nil _ _⟩⟩)
  · have hre : reE L f = E := by unfold reE; rw [if_neg ho, hE]
    have h0 : ¬ f < 0 := fun h => ho (.inl h)
    have h1 : ¬ (N : Int) ≤ f := fun h => ho (.inr (by rw [← hN]; exact h))
    by_cases hz : E = 0
    · have hz' : chkE L = 0 := by rw [← hE, hz]
      have hs : f.toNat < L.length := by omega
      have hfs : ((f.toNat : Nat) : Int) = f := by omega
      have hoo := fun d => rreach_any (w := w.drewN d) f.toNat (fm_of hz') ((h.grd hz').keep (bel_drew (Below.refl n w) d)) hn hs
      rw [hfs] at hoo
      have HE2 := Lib.hid (show reE L f = 0 by rw [hre, hz])
      have HL2 := Lib.hid (show reL L f = (List.range L.length).filter (rchB (ndOf L) f.toNat) by unfold reL; rw [HE2.out, if_pos rfl])
      obtain ⟨p, c, rfl, -⟩ := h
      rw [← hE, hz, ← hN] at hc
      have HLL := Lib.hid (show ∀ w e w', RP (ndOf L) L.length f.toNat w e w' → ∃ v', e = .returned v' ∧ Below w.heap.size w w' ∧ (SRd w'.heap.size w' v' (reL L f) ∧ Fr w.heap.size w' v') from fun w e w' ⟨v', T, a, b, cc, d⟩ => ⟨v', a, b, by rw [HL2.out, ← rp_list cc]; exact d⟩)
      rw [← hN] at hoo HLL ⊢
      have HC := Lib.hid hc
      have HO := Lib.hid hoo
      clear hE hz' hN hc hoo hs hfs hre ho
      go_enter Try.func12, Try.ntmps12
      go_wp2_with (first
        | (go_at_call 17; ((with_reducible refine HC.out.mono ?_); rintro e w1 ⟨rfl, d, rfl⟩))
        | (go_at_call 21; ((with_reducible refine (HO.out _).mono ?_); intro e w2 hrp; obtain ⟨v', rfl, hb, hs⟩ := HLL.out _ _ _ hrp; have HS := Lib.hid hs; have HB := Lib.hid hb; clear hb hs hrp)))
      go_ret2
      exact (show ∃ v', _ from ⟨_, by rw [HE2.out]; rfl, bel_undrew HB.out, HS.out⟩)
    · have HE2 := Lib.hid hre
      have HL2 := Lib.hid (show reL L f = [] by unfold reL; rw [hre, if_neg hz])
      obtain ⟨p, c, rfl, -⟩ := h
      rw [← hE, ← hN] at hc
      rw [← hN]
      have HC := Lib.hid hc
      clear hE hN hc hre ho
      go_enter Try.func12, Try.ntmps12
      go_wp2_with (go_at_call 17; ((with_reducible refine HC.out.mono ?_); rintro e w1 ⟨rfl, d, rfl⟩))
      go_ret2
      exact (show ∃ v', _ from ⟨_, by rw [HE2.out]; rfl, bel_drew (Below.refl _ _) d, by rw [HL2.out]; exact ⟨SRd.nil _ _, Fr.nil _ _⟩⟩)
end Go.Proofs.Ytdgdeognahmpmaa
