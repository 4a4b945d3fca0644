/-
  Lists of needs that came in; whether they are in form: both checks.
-/
import Derived.Test.YtdgdeognahmpmaaGrE
namespace Go.Proofs.Ytdgdeognahmpmaa
open Go.RowKit
attribute [local go_sem] setCell_drewN cell?_ext frozen?_ext shape?_ext setCell_ext lt_1' ne_1' en_1' le_1' lt_2' ne_2' en_2' le_2' lt_3' ne_3' en_3' le_3' lt_4' ne_4' en_4' le_4' lt_5' ne_5' en_5' le_5' lt_6' ne_6' en_6' le_6' lt_7' ne_7' en_7' le_7' lt_8' ne_8' en_8' le_8' lt_9' ne_9' en_9' le_9' lt_10' ne_10' en_10' le_10' lt_11' ne_11' en_11' le_11' lt_12' ne_12' en_12' le_12'

/-- a slice that reads as ints, in blocks below n -/
def IRd (n : Nat) (w : World) (v : Value) (l : List Int) : Prop := ∃ p c, v = .slice p l.length c ∧ (0 < l.length → ∃ g o, p = some ⟨g, o, none⟩ ∧ g < n ∧ ∀ j (h : j < l.length), w.cell? ⟨g, o + j, none⟩ = some (.int .i64 l[j]))
/-- a slice of such -/
def NRd (n : Nat) (w : World) (v : Value) (L : List (List Int)) : Prop := ∃ p c, v = .slice p L.length c ∧ (0 < L.length → ∃ g o, p = some ⟨g, o, none⟩ ∧ g < n ∧ ∀ i (h : i < L.length), ∃ vi, w.cell? ⟨g, o + i, none⟩ = some vi ∧ IRd n w vi L[i])
theorem IRd.keep {n : Nat} {w w' : World} {v : Value} {l : List Int} (h : IRd n w v l) (hb : Below n w w') : IRd n w' v l := by
  obtain ⟨p, c, rfl, h2⟩ := h
  refine ⟨p, c, rfl, fun h0 => ?_⟩
  obtain ⟨g, o, hp, hg, hc⟩ := h2 h0
  exact ⟨g, o, hp, hg, fun j hj => by rw [hb.cell (p := ⟨g, o + j, none⟩) hg]; exact hc j hj⟩
theorem NRd.keep {n : Nat} {w w' : World} {v : Value} {L : List (List Int)} (h : NRd n w v L) (hb : Below n w w') : NRd n w' v L := by
  obtain ⟨p, c, rfl, h2⟩ := h
  refine ⟨p, c, rfl, fun h0 => ?_⟩
  obtain ⟨g, o, hp, hg, hc⟩ := h2 h0
  refine ⟨g, o, hp, hg, fun i hi => ?_⟩
  obtain ⟨vi, h3, h4⟩ := hc i hi
  exact ⟨vi, by rw [hb.cell (p := ⟨g, o + i, none⟩) hg]; exact h3, h4.keep hb⟩
/-- the error of needs that are too many, or of no thing -/
def chkE (L : List (List Int)) : Int :=
  if 100 < L.length then 6 else if L.any (fun l => decide (100 < l.length)) = true then 6 else if L.any (fun l => l.any fun x => decide (x < 0 ∨ (L.length : Int) ≤ x)) = true then 2 else 0
theorem chk_many {L : List (List Int)} (h : 100 < L.length) : chkE L = 6 := if_pos h
theorem chk_long {L : List (List Int)} (h1 : L.length ≤ 100) (i : Nat) (hi : i < L.length) (h2 : 100 < L[i].length) : chkE L = 6 := by
  unfold chkE
  rw [if_neg (by omega), if_pos]
  rw [List.any_eq_true]
  exact ⟨L[i], List.getElem_mem hi, by simpa using h2⟩
theorem chk_few {L : List (List Int)} (h1 : L.length ≤ 100) (h2 : ∀ i (h : i < L.length), L[i].length ≤ 100) : chkE L = if L.any (fun l => l.any fun x => decide (x < 0 ∨ (L.length : Int) ≤ x)) = true then 2 else 0 := by
  unfold chkE
  rw [if_neg (by omega), if_neg]
  rw [List.any_eq_true]
  rintro ⟨l, hl, h⟩
  obtain ⟨i, hi, rfl⟩ := List.getElem_of_mem hl
  have := h2 i hi
  have h3 : 100 < L[i].length := by simpa using h
  omega
theorem chk_form {L : List (List Int)} (h1 : L.length ≤ 100) (h2 : ∀ i (h : i < L.length), L[i].length ≤ 100) (i : Nat) (hi : i < L.length) (j : Nat) (hj : j < L[i].length) (h : L[i][j] < 0 ∨ (L.length : Int) ≤ L[i][j]) : chkE L = 2 := by
  rw [chk_few h1 h2, if_pos]
  rw [List.any_eq_true]
  refine ⟨L[i], List.getElem_mem hi, ?_⟩
  rw [List.any_eq_true]
  exact ⟨L[i][j], List.getElem_mem hj, decide_eq_true h⟩
theorem chk_ok {L : List (List Int)} (h1 : L.length ≤ 100) (h2 : ∀ i (h : i < L.length), L[i].length ≤ 100) (h : ∀ i (hi : i < L.length) j (hj : j < L[i].length), 0 ≤ L[i][j] ∧ L[i][j] < (L.length : Int)) : chkE L = 0 := by
  rw [chk_few h1 h2, if_neg]
  rw [List.any_eq_true]
  rintro ⟨l, hl, ha⟩
  obtain ⟨i, hi, rfl⟩ := List.getElem_of_mem hl
  rw [List.any_eq_true] at ha
  obtain ⟨x, hx, hd⟩ := ha
  obtain ⟨j, hj, rfl⟩ := List.getElem_of_mem hx
  have := h i hi j hj
  have := of_decide_eq_true hd
  omega
/-- what no error means -/
theorem chk_zero {L : List (List Int)} (h : chkE L = 0) : L.length ≤ 100 ∧ (∀ i (h : i < L.length), L[i].length ≤ 100) ∧ ∀ i (hi : i < L.length) j (hj : j < L[i].length), 0 ≤ L[i][j] ∧ L[i][j] < (L.length : Int) := by
  have h1 : L.length ≤ 100 := by
    rcases Nat.lt_or_ge 100 L.length with h9 | h9
    · rw [chk_many h9] at h; cases h
    · exact h9
  have h2 : ∀ i (h : i < L.length), L[i].length ≤ 100 := fun i hi => by
    rcases Nat.lt_or_ge 100 L[i].length with h9 | h9
    · rw [chk_long h1 i hi h9] at h; cases h
    · exact h9
  refine ⟨h1, h2, fun i hi j hj => ?_⟩
  by_cases h9 : L[i][j] < 0 ∨ (L.length : Int) ≤ L[i][j]
  · rw [chk_form h1 h2 i hi j hj h9] at h; cases h
  · omega
set_option maxRecDepth 100000 in
set_option maxHeartbeats 16000000 in
theorem gcheck_any {n : Nat} {w : World} {v : Value} {L : List (List Int)} (h : NRd n w v L) :
    Calls Try.prog 19 #[v] w fun e w' => e = .returned (.int .i64 (chkE L)) ∧ ∃ d, w' = w.drewN d := by
  obtain ⟨p, c, rfl, h2⟩ := h
  have H2 := Lib.hid h2
  obtain ⟨N, hN⟩ : ∃ N, N = L.length := ⟨_, rfl⟩
  have HN := Lib.hid hN
  obtain ⟨E, hE⟩ : ∃ E, E = chkE L := ⟨_, rfl⟩
  have HE := Lib.hid hE
  rw [← hN, ← hE]
  by_cases h1 : N ≤ 100
  · have h1i : (N : Int) ≤ 100 := by omega
    clear h2 hE hN
    go_enter Try.func19, Try.ntmps19
    go_wp2
    go_loopw [14] (fun z wr => ∃ k : Nat, z = .int .i64 k ∧ k ≤ N ∧ (∃ d, wr = w.drewN d) ∧ Hid (∀ i (h : i < L.length), i < k → L[i].length ≤ 100)) (fun z _ => N - (intOf z).toNat)
    case atStart => exact ⟨0, rfl, Nat.zero_le _, ⟨0, rfl⟩, Lib.hid (fun i _ h => absurd h (Nat.not_lt_zero _))⟩
    case round =>
      obtain ⟨k, rfl, hk, ⟨d, rfl⟩, hfew⟩ := hrel
      by_cases hlt : k < N
      · have hkL : k < L.length := by rw [← HN.out]; exact hlt
        obtain ⟨g, o, rfl, hg, hc⟩ := H2.out (by omega)
        obtain ⟨vi, hcv, pi, ci, rfl, hi2⟩ := hc k hkL
        obtain ⟨m, hm⟩ : ∃ m, m = L[k].length := ⟨_, rfl⟩
        have HM := Lib.hid hm
        rw [← hm] at hcv
        by_cases hm1 : m ≤ 100
        · have hm1i : (m : Int) ≤ 100 := by omega
          have HF2 := Lib.hid (show ∀ i (h : i < L.length), i < k + 1 → L[i].length ≤ 100 from fun i hi h => by
            by_cases e : i = k
            · subst e; rw [← HM.out]; exact hm1
            · exact hfew.out i hi (by omega))
          clear hm hi2 hc
          go_wp2
          go_roundw
          case rel => exact ⟨k + 1, by go_num, by omega, ⟨_, rfl⟩, HF2⟩
          case measure => simp [intOf]; omega
        · have hm1i : ¬ (m : Int) ≤ 100 := by omega
          have HE6 := Lib.hid (show E = 6 by rw [HE.out]; exact chk_long (by rw [← HN.out]; exact h1) k hkL (by rw [← HM.out]; omega))
          clear hm hi2 hc
          go_wp2
          go_ret
          exact ⟨by rw [HE6.out]; rfl, _, rfl⟩
      · have HF := Lib.hid (show ∀ i (h : i < L.length), L[i].length ≤ 100 from fun i hi => hfew.out i hi (by rw [← HN.out] at hi; omega))
        clear hfew
        go_wp2
        go_loopw [24] (fun z wr => ∃ k : Nat, z = .int .i64 k ∧ k ≤ N ∧ (∃ d, wr = w.drewN d) ∧ Hid (∀ i (h : i < L.length), i < k → ∀ j (hj : j < L[i].length), 0 ≤ L[i][j] ∧ L[i][j] < (L.length : Int))) (fun z _ => N - (intOf z).toNat)
        case atStart => exact ⟨0, rfl, Nat.zero_le _, ⟨_, rfl⟩, Lib.hid (fun i _ h => absurd h (Nat.not_lt_zero _))⟩
        case round =>
          obtain ⟨k2, rfl, hk2, ⟨d2, rfl⟩, hgood⟩ := hrel
          by_cases hlt2 : k2 < N
          · have hkL : k2 < L.length := by rw [← HN.out]; exact hlt2
            obtain ⟨g, o, rfl, hg, hc⟩ := H2.out (by omega)
            obtain ⟨vi, hcv, pi, ci, rfl, hi2⟩ := hc k2 hkL
            have HI := Lib.hid hi2
            obtain ⟨m, hm⟩ : ∃ m, m = L[k2].length := ⟨_, rfl⟩
            have HM := Lib.hid hm
            have hm1 : m ≤ 100 := by rw [hm]; exact HF.out k2 hkL
            rw [← hm] at hcv
            clear hm hi2 hc
            go_wp2
            go_loopw [30] (fun z wr => ∃ j : Nat, z = .int .i64 j ∧ j ≤ m ∧ (∃ d, wr = w.drewN d) ∧ Hid (∀ i (h : i < L[k2].length), i < j → 0 ≤ L[k2][i] ∧ L[k2][i] < (L.length : Int))) (fun z _ => m - (intOf z).toNat)
            case atStart => exact ⟨0, rfl, Nat.zero_le _, ⟨_, rfl⟩, Lib.hid (fun i _ h => absurd h (Nat.not_lt_zero _))⟩
            case round =>
              obtain ⟨j, rfl, hj, ⟨d3, rfl⟩, hgo⟩ := hrel
              by_cases hlt3 : j < m
              · have hjm : j < L[k2].length := by rw [← HM.out]; exact hlt3
                obtain ⟨g2, o2, rfl, hg2, hc2⟩ := HI.out (by omega)
                have hcx := hc2 j hjm
                obtain ⟨x, hx⟩ : ∃ x, x = L[k2][j] := ⟨_, rfl⟩
                have HX := Lib.hid hx
                rw [← hx] at hcx
                clear hx hc2
                by_cases hx0 : x < 0
                · have HE2 := Lib.hid (show E = 2 by rw [HE.out]; exact chk_form (by rw [← HN.out]; exact h1) HF.out k2 hkL j hjm (.inl (by rw [← HX.out]; exact hx0)))
                  go_wp2
                  go_ret
                  exact ⟨by rw [HE2.out]; rfl, _, rfl⟩
                · by_cases hxN : (N : Int) ≤ x
                  · have HE2 := Lib.hid (show E = 2 by rw [HE.out]; exact chk_form (by rw [← HN.out]; exact h1) HF.out k2 hkL j hjm (.inr (by rw [← HX.out, ← HN.out]; exact hxN)))
                    go_wp2
                    go_ret
                    exact ⟨by rw [HE2.out]; rfl, _, rfl⟩
                  · have HG := Lib.hid (show ∀ i (h : i < L[k2].length), i < j + 1 → 0 ≤ L[k2][i] ∧ L[k2][i] < (L.length : Int) from fun i hi h => by
                      by_cases e : i = j
                      · subst e; rw [← HX.out, ← HN.out]; omega
                      · exact hgo.out i hi (by omega))
                    go_wp2
                    go_roundw
                    case rel => exact ⟨j + 1, by go_num, by omega, ⟨_, rfl⟩, HG⟩
                    case measure => simp [intOf]; omega
              · have HG := Lib.hid (show ∀ i (h : i < L.length), i < k2 + 1 → ∀ j (hj : j < L[i].length), 0 ≤ L[i][j] ∧ L[i][j] < (L.length : Int) from fun i hi h => by
                  by_cases e : i = k2
                  · subst e; exact fun j9 h9 => hgo.out j9 h9 (by rw [← HM.out] at h9; omega)
                  · exact hgood.out i hi (by omega))
                go_wp2
                go_roundw
                case rel => exact ⟨k2 + 1, by go_num, by omega, ⟨_, rfl⟩, HG⟩
                case measure => simp [intOf]; omega
          · have HE0 := Lib.hid (show E = 0 by rw [HE.out]; exact chk_ok (by rw [← HN.out]; exact h1) HF.out (fun i hi => hgood.out i hi (by rw [← HN.out] at hi; omega)))
            go_wp2
            go_ret
            exact ⟨by rw [HE0.out]; rfl, _, rfl⟩
  · have h1i : ¬ (N : Int) ≤ 100 := by omega
    have HE6 := Lib.hid (show E = 6 by rw [HE.out]; exact chk_many (by rw [← HN.out]; omega))
    clear h2 hE hN
    go_enter Try.func19, Try.ntmps19
    go_wp2
    go_ret
    exact ⟨by rw [HE6.out]; rfl, 0, rfl⟩
set_option maxRecDepth 100000 in
set_option maxHeartbeats 16000000 in
theorem rcheck_any {n : Nat} {w : World} {v : Value} {L : List (List Int)} (h : NRd n w v L) :
    Calls Try.prog 17 #[v] w fun e w' => e = .returned (.int .i64 (chkE L)) ∧ ∃ d, w' = w.drewN d := by
  obtain ⟨p, c, rfl, h2⟩ := h
  have H2 := Lib.hid h2
  obtain ⟨N, hN⟩ : ∃ N, N = L.length := ⟨_, rfl⟩
  have HN := Lib.hid hN
  obtain ⟨E, hE⟩ : ∃ E, E = chkE L := ⟨_, rfl⟩
  have HE := Lib.hid hE
  rw [← hN, ← hE]
  by_cases h1 : N ≤ 100
  · have h1i : (N : Int) ≤ 100 := by omega
    clear h2 hE hN
    go_enter Try.func17, Try.ntmps17
    go_wp2
    go_loopw [3] (fun z wr => ∃ k : Nat, z = .int .i64 k ∧ k ≤ N ∧ (∃ d, wr = w.drewN d) ∧ Hid (∀ i (h : i < L.length), i < k → L[i].length ≤ 100)) (fun z _ => N - (intOf z).toNat)
    case atStart => exact ⟨0, rfl, Nat.zero_le _, ⟨0, rfl⟩, Lib.hid (fun i _ h => absurd h (Nat.not_lt_zero _))⟩
    case round =>
      obtain ⟨k, rfl, hk, ⟨d, rfl⟩, hfew⟩ := hrel
      by_cases hlt : k < N
      · have hkL : k < L.length := by rw [← HN.out]; exact hlt
        obtain ⟨g, o, rfl, hg, hc⟩ := H2.out (by omega)
        obtain ⟨vi, hcv, pi, ci, rfl, hi2⟩ := hc k hkL
        obtain ⟨m, hm⟩ : ∃ m, m = L[k].length := ⟨_, rfl⟩
        have HM := Lib.hid hm
        rw [← hm] at hcv
        by_cases hm1 : m ≤ 100
        · have hm1i : (m : Int) ≤ 100 := by omega
          have HF2 := Lib.hid (show ∀ i (h : i < L.length), i < k + 1 → L[i].length ≤ 100 from fun i hi h => by
            by_cases e : i = k
            · subst e; rw [← HM.out]; exact hm1
            · exact hfew.out i hi (by omega))
          clear hm hi2 hc
          go_wp2
          go_roundw
          case rel => exact ⟨k + 1, by go_num, by omega, ⟨_, rfl⟩, HF2⟩
          case measure => simp [intOf]; omega
        · have hm1i : ¬ (m : Int) ≤ 100 := by omega
          have HE6 := Lib.hid (show E = 6 by rw [HE.out]; exact chk_long (by rw [← HN.out]; exact h1) k hkL (by rw [← HM.out]; omega))
          clear hm hi2 hc
          go_wp2
          go_ret
          exact ⟨by rw [HE6.out]; rfl, _, rfl⟩
      · have HF := Lib.hid (show ∀ i (h : i < L.length), L[i].length ≤ 100 from fun i hi => hfew.out i hi (by rw [← HN.out] at hi; omega))
        clear hfew
        go_wp2
        go_loopw [4] (fun z wr => ∃ k : Nat, z = .int .i64 k ∧ k ≤ N ∧ (∃ d, wr = w.drewN d) ∧ Hid (∀ i (h : i < L.length), i < k → ∀ j (hj : j < L[i].length), 0 ≤ L[i][j] ∧ L[i][j] < (L.length : Int))) (fun z _ => N - (intOf z).toNat)
        case atStart => exact ⟨0, rfl, Nat.zero_le _, ⟨_, rfl⟩, Lib.hid (fun i _ h => absurd h (Nat.not_lt_zero _))⟩
        case round =>
          obtain ⟨k2, rfl, hk2, ⟨d2, rfl⟩, hgood⟩ := hrel
          by_cases hlt2 : k2 < N
          · have hkL : k2 < L.length := by rw [← HN.out]; exact hlt2
            obtain ⟨g, o, rfl, hg, hc⟩ := H2.out (by omega)
            obtain ⟨vi, hcv, pi, ci, rfl, hi2⟩ := hc k2 hkL
            have HI := Lib.hid hi2
            obtain ⟨m, hm⟩ : ∃ m, m = L[k2].length := ⟨_, rfl⟩
            have HM := Lib.hid hm
            have hm1 : m ≤ 100 := by rw [hm]; exact HF.out k2 hkL
            rw [← hm] at hcv
            clear hm hi2 hc
            go_wp2
            go_loopw [5] (fun z wr => ∃ j : Nat, z = .int .i64 j ∧ j ≤ m ∧ (∃ d, wr = w.drewN d) ∧ Hid (∀ i (h : i < L[k2].length), i < j → 0 ≤ L[k2][i] ∧ L[k2][i] < (L.length : Int))) (fun z _ => m - (intOf z).toNat)
            case atStart => exact ⟨0, rfl, Nat.zero_le _, ⟨_, rfl⟩, Lib.hid (fun i _ h => absurd h (Nat.not_lt_zero _))⟩
            case round =>
              obtain ⟨j, rfl, hj, ⟨d3, rfl⟩, hgo⟩ := hrel
              by_cases hlt3 : j < m
              · have hjm : j < L[k2].length := by rw [← HM.out]; exact hlt3
                obtain ⟨g2, o2, rfl, hg2, hc2⟩ := HI.out (by omega)
                have hcx := hc2 j hjm
                obtain ⟨x, hx⟩ : ∃ x, x = L[k2][j] := ⟨_, rfl⟩
                have HX := Lib.hid hx
                rw [← hx] at hcx
                clear hx hc2
                by_cases hx0 : x < 0
                · have HE2 := Lib.hid (show E = 2 by rw [HE.out]; exact chk_form (by rw [← HN.out]; exact h1) HF.out k2 hkL j hjm (.inl (by rw [← HX.out]; exact hx0)))
                  go_wp2
                  go_ret
                  exact ⟨by rw [HE2.out]; rfl, _, rfl⟩
                · by_cases hxN : (N : Int) ≤ x
                  · have HE2 := Lib.hid (show E = 2 by rw [HE.out]; exact chk_form (by rw [← HN.out]; exact h1) HF.out k2 hkL j hjm (.inr (by rw [← HX.out, ← HN.out]; exact hxN)))
                    go_wp2
                    go_ret
                    exact ⟨by rw [HE2.out]; rfl, _, rfl⟩
                  · have HG := Lib.hid (show ∀ i (h : i < L[k2].length), i < j + 1 → 0 ≤ L[k2][i] ∧ L[k2][i] < (L.length : Int) from fun i hi h => by
                      by_cases e : i = j
                      · subst e; rw [← HX.out, ← HN.out]; omega
                      · exact hgo.out i hi (by omega))
                    go_wp2
                    go_roundw
                    case rel => exact ⟨j + 1, by go_num, by omega, ⟨_, rfl⟩, HG⟩
                    case measure => simp [intOf]; omega
              · have HG := Lib.hid (show ∀ i (h : i < L.length), i < k2 + 1 → ∀ j (hj : j < L[i].length), 0 ≤ L[i][j] ∧ L[i][j] < (L.length : Int) from fun i hi h => by
                  by_cases e : i = k2
                  · subst e; exact fun j9 h9 => hgo.out j9 h9 (by rw [← HM.out] at h9; omega)
                  · exact hgood.out i hi (by omega))
                go_wp2
                go_roundw
                case rel => exact ⟨k2 + 1, by go_num, by omega, ⟨_, rfl⟩, HG⟩
                case measure => simp [intOf]; omega
          · have HE0 := Lib.hid (show E = 0 by rw [HE.out]; exact chk_ok (by rw [← HN.out]; exact h1) HF.out (fun i hi => hgood.out i hi (by rw [← HN.out] at hi; omega)))
            go_wp2
            go_ret
            exact ⟨by rw [HE0.out]; rfl, _, rfl⟩
  · have h1i : ¬ (N : Int) ≤ 100 := by omega
    have HE6 := Lib.hid (show E = 6 by rw [HE.out]; exact chk_many (by rw [← HN.out]; omega))
    clear h2 hE hN
    go_enter Try.func17, Try.ntmps17
    go_wp2
    go_ret
    exact ⟨by rw [HE6.out]; rfl, 0, rfl⟩
end Go.Proofs.Ytdgdeognahmpmaa
