/-
  DocLevels.
-/
import Derived.Test.YtdgdeognahmpmaaGrV
import Derived.BigRegion
namespace Go.Proofs.Ytdgdeognahmpmaa
open Go.RowKit
attribute [local go_sem] setCell_drewN cell?_ext frozen?_ext shape?_ext setCell_ext lt_1' ne_1' en_1' le_1' lt_2' ne_2' en_2' le_2' lt_3' ne_3' en_3' le_3' lt_4' ne_4' en_4' le_4' lt_5' ne_5' en_5' le_5' lt_6' ne_6' en_6' le_6' lt_7' ne_7' en_7' le_7' lt_8' ne_8' en_8' le_8' lt_9' ne_9' en_9' le_9' lt_10' ne_10' en_10' le_10' lt_11' ne_11' en_11' le_11' lt_12' ne_12' en_12' le_12'

set_option maxRecDepth 100000 in
set_option maxHeartbeats 16000000 in
theorem doclevels_any {n w v} {L : List (List Int)} (h : NRd n w v L) (hn : n ≤ w.heap.size) :
    Calls Try.prog 14 #[v] w fun e w' => LQ L w e w' := by
  have HO := Lib.hid (docorder_any h hn)
  by_cases hz : ordE L = 0
  · obtain ⟨hcz, hlt⟩ := ordE_zero hz
    have hgr := h.grd hcz
    have HFM := Lib.hid (fm_of hcz)
    have hfw := ordL_few hz
    have HN := Lib.hid hn
    have HE2 := Lib.hid hz
    obtain ⟨nd, hnd⟩ : ∃ nd, nd = ndOf L := ⟨_, rfl⟩
    obtain ⟨N, hNN⟩ : ∃ N, N = L.length := ⟨_, rfl⟩
    obtain ⟨O, hO⟩ : ∃ O, O = ordL L := ⟨_, rfl⟩
    obtain ⟨LV, hLV⟩ : ∃ LV, LV = lvT nd O fun _ => 0 := ⟨_, rfl⟩
    have HL2 := Lib.hid (show leL L = (List.range N).map LV by unfold leL; rw [if_pos hz, hLV, hnd, hO, hNN])
    have HLV := Lib.hid hLV
    rw [← hnd, ← hNN] at hgr HFM
    rw [← hO, ← hNN] at hlt
    rw [← hO] at hfw
    have hfew := HFM.out.few
    have hmk := gmake_int N (by omega)
    have ho2 := HO.out
    obtain ⟨mo, hmo⟩ : ∃ mo, mo = O.length := ⟨_, rfl⟩
    have HO2 := Lib.hid (show Calls Try.prog 9 #[v] w fun e w' => ∃ q cq, e = .returned (.tuple #[.slice q mo cq, .int .i64 0]) ∧ Below w.heap.size w w' ∧ (0 < mo → ∃ g o, q = some ⟨g, o, none⟩ ∧ g < w'.heap.size ∧ ∀ j (h : j < O.length), w'.cell? ⟨g, o + j, none⟩ = some (iv O[j])) from HO.out.mono fun e w' ⟨v', a, b, c⟩ => by
      rw [← hO] at c
      obtain ⟨⟨q, cq, rfl, d⟩, -⟩ := c
      exact ⟨q, cq, by rw [a, hz, hmo], b, fun h0 => d (by rw [← hmo]; exact h0)⟩)
    have HMO := Lib.hid hmo
    rw [← hmo] at hfw
    obtain ⟨p, c, rfl, h2⟩ := hgr
    have H2 := Lib.hid h2
    have HLT := Lib.hid hlt
    clear h hn hcz hz hnd hNN hO hLV ho2 HO hmo h2 hlt
    go_enter Try.func14, Try.ntmps14
    go_wp2_with (go_at_call 9; ((with_reducible refine HO2.out.mono ?_); rintro e w1 ⟨q, cq, rfl, hb, hs⟩; have HB := Lib.hid hb; have HS := Lib.hid hs; clear hb hs))
    have HR0 := Lib.hid ((VRow.made w1 3 (.int .i64 0) N).congr (f' := lf fun _ => 0) fun j _ => rfl)
    have HB0 := Lib.hid ((Below.refl w1.heap.size w1).alloc (Nat.le_refl _) (.cells (madeCells #[.int .i64 0] N) 3))
    have hw1 : w.heap.size ≤ w1.heap.size := HB.out.size
    go_loopw [7] (fun z wr => ∃ (k : Nat) (f : Nat → Nat), z = .int .i64 k ∧ k ≤ mo ∧ Hid (lvT nd (O.drop k) f = LV) ∧ Hid (∀ i, f i ≤ 100 * k) ∧ Hid (VRow wr w1.heap.size N (lf f)) ∧ Hid (Below w1.heap.size w1 wr)) (fun z _ => mo - (intOf z).toNat)
    case atStart => exact ⟨0, fun _ => 0, rfl, Nat.zero_le _, Lib.hid (by rw [List.drop_zero]; exact HLV.out.symm), Lib.hid (fun i => Nat.zero_le _), HR0, HB0⟩
    case round =>
      clear HR0 HB0
      obtain ⟨k, f, rfl, hk, hlv, hbd, hrow, hbel⟩ := hrel
      by_cases hlk : k < mo
      · have hkO : k < O.length := by rw [← HMO.out]; exact hlk
        have hki : (k : Int) < (mo : Int) := by omega
        obtain ⟨g, o, rfl, hg, hc⟩ := HS.out (by omega)
        have hct := (hbel.out.cell (p := ⟨g, o + k, none⟩) hg).trans (hc k hkO)
        have htm := HLT.out _ (List.getElem_mem hkO)
        have hdr := List.drop_eq_getElem_cons hkO
        obtain ⟨t, ht⟩ : ∃ t, t = O[k] := ⟨_, rfl⟩
        rw [← ht] at hct htm hdr
        have hti : (t : Int) < (N : Int) := by omega
        have HBW := Lib.hid (HB.out.trans (hbel.out.mono hw1))
        obtain ⟨g2, o2, rfl, hg2, hc2⟩ := H2.out (by omega)
        obtain ⟨vi, hvi, pi, ci, rfl, hi2⟩ := hc2 t htm
        have hvi2 := (HBW.out.cell (p := ⟨g2, o2 + t, none⟩) (Nat.lt_of_lt_of_le hg2 HN.out)).trans hvi
        have HI := Lib.hid hi2
        have HCT := Lib.hid (show ∀ w3, Below w1.heap.size w1 w3 → w3.cell? ⟨g, o + k, none⟩ = some (.int .i64 (t : Int)) from fun w3 hb3 => by rw [hb3.cell (p := ⟨g, o + k, none⟩) hg]; rw [hbel.out.cell (p := ⟨g, o + k, none⟩) hg] at hct; exact hct)
        obtain ⟨mn, hmn⟩ : ∃ mn, mn = (nd t).length := ⟨_, rfl⟩
        have HMN := Lib.hid hmn
        have hmn1 : mn ≤ 100 := by rw [hmn]; exact HFM.out.short t htm
        rw [← hmn] at hvi2 hvi
        have HCV := Lib.hid (show ∀ w3, Below w1.heap.size w1 w3 → w3.cell? ⟨g2, o2 + t, none⟩ = some (.slice pi mn ci) from fun w3 hb3 => by rw [(HB.out.trans (hb3.mono hw1)).cell (p := ⟨g2, o2 + t, none⟩) (Nat.lt_of_lt_of_le hg2 HN.out)]; exact hvi)
        have HLV1 := Lib.hid (show lvT nd (O.drop (k + 1)) (lvR t ((nd t).drop 0) f) = LV by rw [← hlv.out, hdr]; rfl)
        have HBD1 := Lib.hid (show ∀ i, f i ≤ 100 * k + 0 from hbd.out)
        unfold iv at hct
        clear hc hc2 hvi hi2 hmn hdr ht hlv hbd
        go_wp2
        go_loopw [8] (fun z wr => ∃ (j : Nat) (f : Nat → Nat), z = .int .i64 j ∧ j ≤ mn ∧ Hid (lvT nd (O.drop (k + 1)) (lvR t ((nd t).drop j) f) = LV) ∧ Hid (∀ i, f i ≤ 100 * k + j) ∧ Hid (VRow wr w1.heap.size N (lf f)) ∧ Hid (Below w1.heap.size w1 wr)) (fun z _ => mn - (intOf z).toNat)
        case atStart => exact ⟨0, f, rfl, Nat.zero_le _, HLV1, HBD1, hrow, hbel⟩
        case round =>
          clear HLV1 HBD1 hrow hbel HBW
          obtain ⟨j, f, rfl, hj, hlv, hbd, hrow, hbel⟩ := hrel
          have hctx := HCT.out wr hbel.out
          have hcvx := HCV.out wr hbel.out
          by_cases hlj : j < mn
          · have hjl : j < (nd t).length := by rw [← HMN.out]; exact hlj
            have hji : (j : Int) < (mn : Int) := by omega
            obtain ⟨g3, o3, rfl, hg3, hc3⟩ := HI.out (by omega)
            have HBW := HB.out.trans (hbel.out.mono hw1)
            have hcx := (HBW.cell (p := ⟨g3, o3 + j, none⟩) (Nat.lt_of_lt_of_le hg3 HN.out)).trans (hc3 j hjl)
            have hxm := HFM.out.lt t htm _ (List.getElem_mem hjl)
            have hdr := List.drop_eq_getElem_cons hjl
            obtain ⟨x, hx⟩ : ∃ x, x = (nd t)[j] := ⟨_, rfl⟩
            rw [← hx] at hcx hxm hdr
            have hxi : (x : Int) < (N : Int) := by omega
            have cft := hrow.out.cell t htm
            have cfx := hrow.out.cell x hxm
            have fft := hrow.out.free t
            have hbt := hbd.out t
            have hbx := hbd.out x
            have HBD := Lib.hid (show ∀ i, upl t x f i ≤ 100 * k + (j + 1) from fun i => by
              unfold upl
              have := hbd.out i
              split <;> omega)
            have HLV2 := Lib.hid (show lvT nd (O.drop (k + 1)) (lvR t ((nd t).drop (j + 1)) (upl t x f)) = LV by rw [← hlv.out, hdr]; rfl)
            have HRW := Lib.hid (fun z hz => lf_row (z := z) (x := x) hrow.out htm hz)
            have HBL := Lib.hid (show ∀ u, Below w1.heap.size w1 (wr.setCell ⟨w1.heap.size, t, none⟩ u) from fun u => hbel.out.setCell (p := ⟨w1.heap.size, t, none⟩) (Nat.le_refl _) u)
            unfold lf iv at cft cfx
            unfold iv at hcx
            obtain ⟨a, ha⟩ : ∃ a, a = f t := ⟨_, rfl⟩
            obtain ⟨b, hb⟩ : ∃ b, b = f x := ⟨_, rfl⟩
            rw [← ha] at cft hbt HRW
            rw [← hb] at cfx hbx HRW
            have W1 : IntKind.i64.wrap ((b : Int) + 1) = (b : Int) + 1 := IntWalk.i64_in _ (by omega)
            have hbk : 100 * k + j ≤ 100000 := by omega
            clear hc3 hdr hx ha hb hrow hbel hlv hbd HBW
            by_cases hab : (a : Int) < (b : Int) + 1
            · have hmx : max a (b + 1) = b + 1 := by omega
              have HRW2 := Lib.hid (HRW.out ((b : Int) + 1) (by rw [hmx]; rfl))
              clear hmx HRW
              go_wp2
              go_region
              all_goals
                go_wp2
                go_roundw
                case rel => exact ⟨j + 1, upl t x f, by go_num, by omega, HLV2, HBD, Lib.hid (HRW2.out.drew 1), Lib.hid (bel_drew (HBL.out _) 1)⟩
                case measure => simp [intOf]; omega
            · have hmx : max a (b + 1) = a := by omega
              have HRW2 := Lib.hid (HRW.out (a : Int) (by rw [hmx]))
              clear hmx HRW
              go_wp2
              go_region
              all_goals
                go_wp2
                go_roundw
                case rel => exact ⟨j + 1, upl t x f, by go_num, by omega, HLV2, HBD, Lib.hid (HRW2.out.drew 1), Lib.hid (bel_drew (HBL.out _) 1)⟩
                case measure => simp [intOf]; omega
          · have hnil : (nd t).drop j = [] := List.drop_of_length_le (by rw [← HMN.out]; omega)
            have HLV2 := Lib.hid (show lvT nd (O.drop (k + 1)) f = LV by rw [← hlv.out, hnil]; rfl)
            have HBD := Lib.hid (show ∀ i, f i ≤ 100 * (k + 1) from fun i => by have := hbd.out i; omega)
            have hji : ¬ (j : Int) < (mn : Int) := by omega
            clear hnil hlv hbd
            go_wp2
            go_roundw
            case rel => exact ⟨k + 1, f, by go_num, by omega, HLV2, HBD, hrow, hbel⟩
            case measure => simp [intOf]; omega
      · have hki : ¬ (k : Int) < (mo : Int) := by omega
        have HF := Lib.hid (show f = LV by rw [← hlv.out, List.drop_of_length_le (by rw [← HMO.out]; omega)]; rfl)
        go_wp2
        go_ret2
        exact (show ∃ v', _ from ⟨_, by rw [HE2.out]; rfl, HB.out.trans (hbel.out.mono hw1), by rw [HL2.out, ← HF.out]; exact ⟨lf_srd hrow.out, hrow.out.fr HB.out.size⟩⟩)
  · have HE2 := Lib.hid (show ordE L ≠ 0 from hz)
    have HL2 := Lib.hid (show leL L = [] by unfold leL; rw [if_neg hz])
    obtain ⟨E, hE⟩ : ∃ E, E = ordE L := ⟨_, rfl⟩
    have HO2 := Lib.hid (show Calls Try.prog 9 #[v] w fun e w' => ∃ v', e = .returned (.tuple #[v', .int .i64 E]) ∧ Below w.heap.size w w' from HO.out.mono fun e w' ⟨v', a, b, c⟩ => ⟨v', by rw [a, hE], b⟩)
    have HEE := Lib.hid hE
    rw [← hE] at hz
    clear h hn hE HE2 HO
    go_enter Try.func14, Try.ntmps14
    go_wp2_with (go_at_call 9; ((with_reducible refine HO2.out.mono ?_); rintro e w1 ⟨v', rfl, hb⟩; have HB := Lib.hid hb; clear hb))
    go_ret2
    exact (show ∃ v', _ from ⟨_, by rw [HEE.out]; rfl, HB.out, by rw [HL2.out]; exact ⟨SRd.nil _ _, Fr.nil _ _⟩⟩)
end Go.Proofs.Ytdgdeognahmpmaa
