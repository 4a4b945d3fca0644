/-
  Order; three things known; GraphOrders.
-/
import Derived.Test.YtdgdeognahmpmaaGrS
namespace Go.Proofs.Ytdgdeognahmpmaa
open Go.RowKit
open Gk (okN okN_iff nxt nxt_some nxt_none ord ord_none ord_some Dn nodup_le)
attribute [local go_sem] setCell_drewN cell?_ext frozen?_ext shape?_ext setCell_ext lt_1' ne_1' en_1' le_1' lt_2' ne_2' en_2' le_2' lt_3' ne_3' en_3' le_3' lt_4' ne_4' en_4' le_4' lt_5' ne_5' en_5' le_5' lt_6' ne_6' en_6' le_6' lt_7' ne_7' en_7' le_7' lt_8' ne_8' en_8' le_8' lt_9' ne_9' en_9' le_9' lt_10' ne_10' en_10' le_10' lt_11' ne_11' en_11' le_11' lt_12' ne_12' en_12' le_12'

theorem ord_len {nd : Nat → List Nat} {N : Nat} : ∀ (n : Nat) {D : List Nat}, Dn nd N D → (ord nd N n D).length ≤ N
  | 0, D, h => nodup_le h.nodup h.lt
  | n + 1, D, h => by
    cases e : nxt nd N D with
    | none => rw [ord_none e]; exact nodup_le h.nodup h.lt
    | some t =>
      rw [ord_some e]
      obtain ⟨h1, h2, -⟩ := nxt_some.1 e
      exact ord_len n (h.snoc h1 h2)
theorem ordL_len (L : List (List Int)) : (ordL L).length ≤ 1000000 := by
  unfold ordL
  by_cases hz : chkE L = 0
  · rw [if_pos hz]
    have h1 := (chk_zero hz).1
    have h2 := ord_len L.length (Dn.nil (ndOf L) L.length)
    by_cases hr : (ord (ndOf L) L.length L.length []).length < L.length
    · rw [if_pos hr]; exact Nat.zero_le _
    · rw [if_neg hr]; omega
  · rw [if_neg hz]; exact Nat.zero_le _
set_option maxRecDepth 100000 in
set_option maxHeartbeats 8000000 in
theorem gorder_any {n w v} {L : List (List Int)} (h : NRd n w v L) (hn : n ≤ w.heap.size) :
    Calls Try.prog 10 #[v] w fun e w' => OrdQ L w e w' := by
  have hc := gcheck_any h
  obtain ⟨E, hE⟩ : ∃ E, E = chkE L := ⟨_, rfl⟩
  obtain ⟨N, hN⟩ : ∃ N, N = L.length := ⟨_, rfl⟩
  by_cases hz : E = 0
  · have hz' : chkE L = 0 := by rw [← hE, hz]
    have ho := fun d => seq_any (w := w.drewN d) (fm_of hz') ((h.grd hz').keep (bel_drew (Below.refl n w) d)) hn
    have hN1 : N ≤ 100 := by rw [hN]; exact (chk_zero hz').1
    obtain ⟨p, c, rfl, -⟩ := h
    rw [← hE, hz, ← hN] at hc
    obtain ⟨R, hR⟩ : ∃ R, R = ord (ndOf L) L.length L.length [] := ⟨_, rfl⟩
    have hRN : R.length ≤ N := by rw [hR, hN]; exact ord_len _ (Dn.nil _ _)
    rw [← hR, ← hN] at ho
    have HE := Lib.hid (show ordE L = (if R.length < N then 11 else 0) by unfold ordE; rw [if_pos hz', ← hR, ← hN])
    have HL := Lib.hid (show ordL L = (if R.length < N then [] else R) by unfold ordL; rw [if_pos hz', ← hR, ← hN])
    rw [← hN]
    have HC := Lib.hid hc
    have HO := Lib.hid ho
    clear hE hz' hR hN hc ho
    obtain ⟨r, hr0⟩ : ∃ r, r = R.length := ⟨_, rfl⟩
    have HR0 := Lib.hid hr0
    rw [← hr0] at hRN HE HL
    clear hr0
    by_cases hr : r < N
    · have hri : (r : Int) < (N : Int) := by omega
      have HE2 := Lib.hid (show ordE L = 11 by rw [HE.out, if_pos hr])
      have HL2 := Lib.hid (show ordL L = [] by rw [HL.out, if_pos hr])
      go_enter Try.func10, Try.ntmps10
      go_wp2_with (first
        | (go_at_call 19; ((with_reducible refine HC.out.mono ?_); rintro e w1 ⟨rfl, d, rfl⟩))
        | (go_at_call 20; ((with_reducible refine (HO.out _).mono ?_); rintro e w2 ⟨v', rfl, hb, ⟨p2, c2, rfl, -⟩, -⟩; rw [← HR0.out]; have HB := Lib.hid hb; clear hb)))
      go_ret2
      exact (show ∃ v', _ from ⟨_, by rw [HE2.out]; rfl, bel_undrew HB.out, by rw [HL2.out]; exact ⟨SRd.nil _ _, Fr.nil _ _⟩⟩)
    · have hri : ¬ (r : Int) < (N : Int) := by omega
      have HE2 := Lib.hid (show ordE L = 0 by rw [HE.out, if_neg hr])
      have HL2 := Lib.hid (show ordL L = R by rw [HL.out, if_neg hr])
      go_enter Try.func10, Try.ntmps10
      go_wp2_with (first
        | (go_at_call 19; ((with_reducible refine HC.out.mono ?_); rintro e w1 ⟨rfl, d, rfl⟩))
        | (go_at_call 20; ((with_reducible refine (HO.out _).mono ?_); rintro e w2 ⟨v', rfl, hb, hs⟩; have HS := Lib.hid (show SRd _ _ _ _ ∧ Fr w.heap.size _ _ from hs); obtain ⟨⟨p2, c2, rfl, -⟩, -⟩ := hs; rw [← HR0.out] at HS ⊢; have HB := Lib.hid hb; clear hb)))
      go_ret2
      exact (show ∃ v', _ from ⟨_, by rw [HE2.out]; rfl, bel_undrew HB.out, by rw [HL2.out]; exact HS.out⟩)
  · have HE2 := Lib.hid (show ordE L = E by unfold ordE; rw [if_neg (by rw [← hE]; exact hz), hE])
    have HL2 := Lib.hid (show ordL L = [] by unfold ordL; rw [if_neg (by rw [← hE]; exact hz)])
    rw [← hE] at hc
    have HC := Lib.hid hc
    clear h hE hc
    go_enter Try.func10, Try.ntmps10
    go_wp2_with (go_at_call 19; ((with_reducible refine HC.out.mono ?_); rintro e w1 ⟨rfl, d, rfl⟩))
    go_ret2
    exact (show ∃ v', _ from ⟨_, by rw [HE2.out]; rfl, bel_drew (Below.refl _ _) d, by rw [HL2.out]; exact ⟨SRd.nil _ _, Fr.nil _ _⟩⟩)
abbrev kw (w : World) : World := ((w.alloc (.cells #[.int .i64 1] 3)).alloc (.cells #[.int .i64 0] 3)).alloc (.cells #[.slice (some ⟨w.heap.size, 0, none⟩) 1 1, .slice none 0 0, .slice (some ⟨w.heap.size + 1, 0, none⟩) 1 1] 24)
theorem kw_nrd (w : World) : NRd (kw w).heap.size (kw w) (.slice (some ⟨w.heap.size + 1 + 1, 0, none⟩) 3 3) [[1], [], [0]] := by
  have hz : (kw w).heap.size = w.heap.size + 1 + 1 + 1 := by simp [kw]
  have b2 : (kw w).heap[w.heap.size + 1 + 1]? = some (.cells #[.slice (some ⟨w.heap.size, 0, none⟩) 1 1, .slice none 0 0, .slice (some ⟨w.heap.size + 1, 0, none⟩) 1 1] 24) := by
    have := one_blk ((w.alloc (.cells #[.int .i64 1] 3)).alloc (.cells #[.int .i64 0] 3)) (.cells #[.slice (some ⟨w.heap.size, 0, none⟩) 1 1, .slice none 0 0, .slice (some ⟨w.heap.size + 1, 0, none⟩) 1 1] 24)
    simpa only [World.size_alloc] using this
  have b1 : (kw w).heap[w.heap.size + 1]? = some (.cells #[.int .i64 0] 3) := by
    unfold kw
    rw [heap_alloc_old _ _ (by simp only [World.size_alloc]; omega)]
    have := one_blk (w.alloc (.cells #[.int .i64 1] 3)) (.cells #[.int .i64 0] 3)
    simpa only [World.size_alloc] using this
  have b0 : (kw w).heap[w.heap.size]? = some (.cells #[.int .i64 1] 3) := by
    unfold kw
    rw [heap_alloc_old _ _ (by simp only [World.size_alloc]; omega), heap_alloc_old _ _ (by simp only [World.size_alloc]; omega)]
    exact one_blk w _
  refine ⟨_, _, rfl, fun _ => ⟨_, 0, rfl, by rw [hz]; omega, fun i hi => ?_⟩⟩
  match i, hi with
  | 0, _ => exact ⟨_, by rw [cell_of_row _ _ _ _ _ _ b2]; rfl, _, _, rfl, fun _ => ⟨_, 0, rfl, by rw [hz]; omega, fun j hj => by
      obtain rfl : j = 0 := by simp at hj; omega
      rw [cell_of_row _ _ _ _ _ _ b0]; rfl⟩⟩
  | 1, _ => exact ⟨_, by rw [cell_of_row _ _ _ _ _ _ b2]; rfl, none, 0, rfl, fun h => by simp at h⟩
  | 2, _ => exact ⟨_, by rw [cell_of_row _ _ _ _ _ _ b2]; rfl, _, _, rfl, fun _ => ⟨_, 0, rfl, by rw [hz]; omega, fun j hj => by
      obtain rfl : j = 0 := by simp at hj; omega
      rw [cell_of_row _ _ _ _ _ _ b1]; rfl⟩⟩
theorem known_e : ordE [[1], [], [0]] = 0 := by decide
theorem known_l : ordL [[1], [], [0]] = [1, 0, 2] := by decide
abbrev sw (w : World) : World := w.alloc (.cells #[.int .i64 1, .int .i64 0, .int .i64 2] 3)
theorem sw_srd (w : World) : SRd (sw w).heap.size (sw w) (.slice (some ⟨w.heap.size, 0, none⟩) 3 3) [1, 0, 2] := by
  refine ⟨_, _, rfl, fun _ => ⟨_, 0, rfl, by simp [sw], fun j hj => ?_⟩⟩
  rw [cell_of_row _ _ _ _ _ _ (one_blk w _)]
  match j, hj with
  | 0, _ => rfl
  | 1, _ => rfl
  | 2, _ => rfl
set_option maxRecDepth 100000 in
set_option maxHeartbeats 8000000 in
theorem gknown_any (w : World) : Calls Try.prog 8 #[] w fun e w' => e = .returned (.bool true) ∧ Below w.heap.size w w' := by
  have HO := Lib.hid (gorder_any (kw_nrd w) (Nat.le_refl _))
  have HK := Lib.hid (show Below w.heap.size w (kw w) from (((Below.refl w.heap.size w).alloc (Nat.le_refl _) _).alloc (by simp only [World.size_alloc]; omega) _).alloc (by simp only [World.size_alloc]; omega) _)
  have HSM := Lib.hid (show ∀ w4 v', SRd w4.heap.size w4 v' [1, 0, 2] → Calls Try.prog 11 #[v', .slice (some ⟨w4.heap.size, 0, none⟩) 3 3] (sw w4) fun e w' => e = .returned (.bool true) ∧ ∃ d, w' = (sw w4).drewN d from fun w4 v' h =>
    rsame_any ((h.keep ((Below.refl _ w4).alloc (Nat.le_refl _) _)).more (by simp [sw])) (sw_srd w4) (by decide) (by decide))
  have HKS := Lib.hid (show w.heap.size ≤ (kw w).heap.size from HK.out.size)
  have HE := Lib.hid known_e
  have HL := Lib.hid known_l
  go_enter Try.func8, Try.ntmps8
  go_wp2_with (first
    | (go_at_call 10; ((with_reducible refine HO.out.mono ?_); rintro e w4 ⟨v', rfl, hb, hs, -⟩; rw [HL.out] at hs; rw [HE.out]; have HB := Lib.hid (HK.out.trans (hb.mono HKS.out)); have HC := Lib.hid (HSM.out w4 v' hs); clear hb hs))
    | (go_at_call 11; ((with_reducible refine HC.out.mono ?_); rintro e w5 ⟨rfl, d, rfl⟩)))
  go_ret
  exact ⟨rfl, bel_drew (HB.out.alloc HB.out.size _) d⟩
set_option maxRecDepth 100000 in
set_option maxHeartbeats 8000000 in
theorem graphOrders_law {n w v} {L : List (List Int)} (h : NRd n w v L) (hn : n ≤ w.heap.size) :
    Calls Try.prog 3 #[v] w fun e w' => e = .returned (.bool true) ∧ Below w.heap.size w w' := by
  have HK := Lib.hid (gknown_any w)
  have HN := Lib.hid hn
  have HD := Lib.hid (show ∀ w1, Below w.heap.size w w1 → Calls Try.prog 9 #[v] w1 fun e w' => OrdQ L w1 e w' from fun w1 hb => docorder_any (h.keep (hb.mono hn)) (Nat.le_trans hn hb.size))
  have HO := Lib.hid (show ∀ w1, Below w.heap.size w w1 → Calls Try.prog 10 #[v] w1 fun e w' => OrdQ L w1 e w' from fun w1 hb => gorder_any (h.keep (hb.mono hn)) (Nat.le_trans hn hb.size))
  have HLN := Lib.hid (ordL_len L)
  clear h hn
  go_enter Try.func3, Try.ntmps3
  go_wp2_with (first
    | (go_at_call 8; ((with_reducible refine HK.out.mono ?_); rintro e w1 ⟨rfl, hb⟩; have HB1 := Lib.hid hb; clear hb))
    | (go_at_call 9; ((with_reducible refine (HD.out _ HB1.out).mono ?_); rintro e w2 ⟨v1, rfl, hb, hs, -⟩; have HB2 := Lib.hid (HB1.out.trans (hb.mono HB1.out.size)); have HS1 := Lib.hid hs; clear hb hs))
    | (go_at_call 10; ((with_reducible refine (HO.out _ HB2.out).mono ?_); rintro e w3 ⟨v2, rfl, hb, hs, -⟩; have HB3 := Lib.hid (HB2.out.trans (hb.mono HB2.out.size)); have HSM := Lib.hid (rsame_any ((HS1.out.keep hb).more hb.size) hs HLN.out HLN.out); clear hb hs))
    | (go_at_call 11; ((with_reducible refine HSM.out.mono ?_); rintro e w4 ⟨rfl, d, rfl⟩)))
  go_ret
  exact ⟨by simp, bel_drew HB3.out d⟩
end Go.Proofs.Ytdgdeognahmpmaa
