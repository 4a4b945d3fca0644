/-
  The document's Reach; Reach and DocReach.
-/
import Derived.Test.YtdgdeognahmpmaaGrR
namespace Go.Proofs.Ytdgdeognahmpmaa
open Go.RowKit
attribute [local go_sem] setCell_drewN cell?_ext frozen?_ext shape?_ext setCell_ext lt_1' ne_1' en_1' le_1' lt_2' ne_2' en_2' le_2' lt_3' ne_3' en_3' le_3' lt_4' ne_4' en_4' le_4' lt_5' ne_5' en_5' le_5' lt_6' ne_6' en_6' le_6' lt_7' ne_7' en_7' le_7' lt_8' ne_8' en_8' le_8' lt_9' ne_9' en_9' le_9' lt_10' ne_10' en_10' le_10' lt_11' ne_11' en_11' le_11' lt_12' ne_12' en_12' le_12'

def bz : Value → Nat
  | .bool true => 1
  | _ => 0
set_option maxRecDepth 100000 in
set_option maxHeartbeats 16000000 in
theorem rreach_any {n w v N nd} (s : Nat) (hf : Fm N nd) (h : GRd n w v N nd) (hn : n ≤ w.heap.size) (hs : s < N) :
    Calls Try.prog 21 #[v, .int .i64 (s : Int)] w fun e w' => RP nd N s w e w' := by
  obtain ⟨p, c, rfl, h2⟩ := h
  have H2 := Lib.hid h2
  have HFM := Lib.hid hf
  have hfew := hf.few
  have hmk := gmake_bool N (by omega)
  have HN := Lib.hid hn
  have hsi : (s : Int) < (N : Int) := by omega
  have hr0 := VRow.made w 4 (.bool false) N
  have hc0 := hr0.cell s hs
  have hf0 := hr0.free s
  have hrow0 := bf_row (T := fun _ => false) hr0 hs
  have hbel0 := ((Below.refl w.heap.size w).alloc (Nat.le_refl _) (.cells (madeCells #[.bool false] N) 4)).setCell (p := ⟨w.heap.size, s, none⟩) (Nat.le_refl _) (.bool true)
  rw [World.setCell_alloc_new] at hrow0 hbel0
  have HR0 := Lib.hid hrow0
  have HB0 := Lib.hid hbel0
  clear h2 hf hn hr0 hrow0 hbel0
  go_enter Try.func21, Try.ntmps21
  go_wp2
  go_loopw [6] (fun z wr => ∃ (b : Bool) (T : Nat → Bool), z = .bool b ∧ Hid (VRow wr w.heap.size N (bf T)) ∧ Hid (Below w.heap.size w wr) ∧ Hid (RS nd N s T) ∧ Hid (b = false → ∀ i, i < N → T i = true → ∀ x ∈ nd i, T x = true)) (fun z wr => unw wr w.heap.size N + bz z)
  case atStart => exact ⟨true, setT (fun _ => false) s, rfl, HR0, HB0, Lib.hid (RS.start nd N s), Lib.hid (fun h => by cases h)⟩
  case round =>
    obtain ⟨b, T, rfl, hrow, hbel, hrs, hcl⟩ := hrel
    clear HR0 HB0 hc0 hf0
    cases b with
    | false =>
      have HT := Lib.hid (hrs.out.done hs HFM.out.lt (hcl.out rfl))
      have HROW := Lib.hid hrow.out
      have HBEL := Lib.hid hbel.out
      clear hrow hbel hrs hcl
      go_wp2
      go_loopw [9, 10] (fun z y wr => ∃ (k m : Nat) (q : Option Addr) (cc : Nat), y = .int .i64 k ∧ z = .slice q m cc ∧ k ≤ N ∧ Hid (m = ((List.range k).filter T).length) ∧ Hid (OB (w.heap.size + 1) wr z ((List.range k).filter T)) ∧ Hid (VRow wr w.heap.size N (bf T)) ∧ Hid (Below w.heap.size w wr)) (fun _ y _ => N - (intOf y).toNat)
      case atStart => exact ⟨0, 0, none, 0, rfl, rfl, Nat.zero_le _, Lib.hid rfl, Lib.hid (World.ownsRow_nil _ _ _ _), HROW, HBEL⟩
      case round =>
        obtain ⟨k, m, q, cc, rfl, rfl, hk, hm, hob, hrow, hbel⟩ := hrel
        clear HROW HBEL
        by_cases hlt : k < N
        · have hki : (k : Int) < (N : Int) := by omega
          have hcell := hrow.out.cell k hlt
          unfold bf at hcell
          have hst := filt_step T k
          have hln := filt_len T k
          cases hT : T k with
          | true =>
            rw [hT] at hcell
            rw [if_pos hT] at hst
            have HST := Lib.hid hst
            have HLW := Lib.hid (show w.heap.size + 1 ≤ wr.heap.size from hrow.out.lt)
            have hlen : ((List.range k).filter T).length ≤ 1000000 := by omega
            have HKR := Lib.hid (show ∀ w2, Oth (fun k => (Value.slice q m cc).ownBlock = some k) wr w2 → VRow w2 w.heap.size N (bf T) ∧ Below w.heap.size w w2 from fun w2 ho => ⟨hrow.out.kept ho (fun e => hob.out.ne (Nat.lt_succ_self _) _ e rfl), hbel.out.trans (ho.below _ (Nat.le_of_lt hrow.out.lt) (fun k hk e => by have := (World.ownsRow.lt hob.out k e).1; omega))⟩)
            clear hst hT hln hm
            go_wp2_with (at_builtin; refine append_ob rfl _ _ rfl rfl _ k rfl hob.out (by simp [Act.eval]) hlen HLW.out ?_; intro g2 cap2 w2 hob3 hoth hat hg2; have HOB3 := Lib.hid hob3; have HKP := Lib.hid (HKR.out w2 hoth); clear hob3 hoth hat hg2)
            go_roundw
            case rel => exact ⟨k + 1, _, _, _, by go_num, rfl, by omega, Lib.hid (by rw [HST.out, List.length_append]; rfl), Lib.hid (by rw [HST.out]; exact HOB3.out), Lib.hid HKP.out.1, Lib.hid HKP.out.2⟩
            case measure => simp [intOf]; omega
          | false =>
            rw [hT] at hcell
            rw [if_neg (by rw [hT]; exact Bool.false_ne_true)] at hst
            have HST := Lib.hid hst
            clear hst hT hln
            go_wp2
            go_roundw
            case rel => exact ⟨k + 1, m, q, cc, by go_num, rfl, by omega, Lib.hid (by rw [HST.out]; exact hm.out), Lib.hid (by rw [HST.out]; exact hob.out), hrow, hbel⟩
            case measure => simp [intOf]; omega
        · obtain rfl : k = N := by omega
          go_wp2
          go_ret
          exact (show ∃ v' T, _ from ⟨_, T, rfl, hbel.out, HT.out, hob.out.srd, hob.out.fr.more (Nat.le_succ _)⟩)
    | true =>
      obtain ⟨U0, hU0⟩ : ∃ U0, U0 = unw wr w.heap.size N := ⟨_, rfl⟩
      have HU0 := Lib.hid (show un T N ≤ U0 by rw [hU0, unw_row hrow.out]; exact Nat.le_refl _)
      clear hcl
      go_wp2
      go_loopw [6, 7] (fun z y wr => ∃ (b : Bool) (T : Nat → Bool) (i : Nat), z = .bool b ∧ y = .int .i64 i ∧ i ≤ N ∧ Hid (VRow wr w.heap.size N (bf T)) ∧ Hid (Below w.heap.size w wr) ∧ Hid (RS nd N s T) ∧ Hid (b = false → ∀ j, j < i → T j = true → ∀ x ∈ nd j, T x = true) ∧ Hid (un T N + (if b = true then 1 else 0) ≤ U0)) (fun _ y _ => N - (intOf y).toNat)
      case atStart => exact ⟨false, T, 0, rfl, rfl, Nat.zero_le _, hrow, hbel, hrs, Lib.hid (fun _ j h => absurd h (Nat.not_lt_zero _)), Lib.hid HU0.out⟩
      case round =>
        clear HU0 hrow hbel hrs
        obtain ⟨b, T, i, rfl, rfl, hi, hrow, hbel, hrs, hcl, hu⟩ := hrel
        by_cases hlt : i < N
        · have hii : (i : Int) < (N : Int) := by omega
          obtain ⟨g, o, rfl, hg, hc⟩ := H2.out (by omega)
          obtain ⟨vi, hvi, hsrd⟩ := hc i hlt
          obtain ⟨pi, ci, rfl, hi2⟩ := hsrd
          have HI := Lib.hid hi2
          obtain ⟨mn, hmn⟩ : ∃ mn, mn = (nd i).length := ⟨_, rfl⟩
          have HMN := Lib.hid hmn
          have hmn1 : mn ≤ 100 := by rw [hmn]; exact HFM.out.short i hlt
          rw [← hmn] at hvi
          have HVI := Lib.hid (show ∀ w3, Below w.heap.size w w3 → w3.cell? ⟨g, o + i, none⟩ = some (.slice pi mn ci) from fun w3 hb => by rw [hb.cell (p := ⟨g, o + i, none⟩) (Nat.lt_of_lt_of_le hg HN.out)]; exact hvi)
          clear hvi hc hi2 hmn
          go_wp2
          go_loopw [6, 8] (fun z y wr => ∃ (b : Bool) (T : Nat → Bool) (k : Nat), z = .bool b ∧ y = .int .i64 k ∧ k ≤ mn ∧ Hid (VRow wr w.heap.size N (bf T)) ∧ Hid (Below w.heap.size w wr) ∧ Hid (RS nd N s T) ∧ Hid (b = false → ∀ j, j < i → T j = true → ∀ x ∈ nd j, T x = true) ∧ Hid (b = false → ∀ x ∈ (nd i).take k, T x = true) ∧ Hid (un T N + (if b = true then 1 else 0) ≤ U0)) (fun _ y _ => mn - (intOf y).toNat)
          case atStart => exact ⟨b, T, 0, rfl, rfl, Nat.zero_le _, hrow, hbel, hrs, hcl, Lib.hid (fun _ x hx => by rw [List.take_zero] at hx; cases hx), hu⟩
          case round =>
            clear hrow hbel hrs hcl hu
            obtain ⟨b, T, k, rfl, rfl, hk, hrow, hbel, hrs, hcl, htk, hu⟩ := hrel
            have hvi2 := HVI.out wr hbel.out
            have hci := hrow.out.cell i hlt
            unfold bf at hci
            cases hTi : T i with
            | false =>
              rw [hTi] at hci
              have HCL := Lib.hid (show b = false → ∀ j, j < i + 1 → T j = true → ∀ x ∈ nd j, T x = true from fun hb j hj h => by
                by_cases e : j = i
                · subst e; rw [hTi] at h; cases h
                · exact hcl.out hb j (by omega) h)
              clear hTi hcl
              go_wp2
              go_roundw
              case rel => exact ⟨b, T, i + 1, rfl, by go_num, by omega, hrow, hbel, hrs, HCL, hu⟩
              case measure => simp [intOf]; omega
            | true =>
              rw [hTi] at hci
              by_cases hlk : k < mn
              · have hkl : k < (nd i).length := by rw [← HMN.out]; exact hlk
                have hki : (k : Int) < (mn : Int) := by omega
                obtain ⟨g3, o3, rfl, hg3, hc3⟩ := HI.out (by omega)
                have hcx := (hbel.out.cell (p := ⟨g3, o3 + k, none⟩) (Nat.lt_of_lt_of_le hg3 HN.out)).trans (hc3 k hkl)
                have htake := List.take_succ_eq_append_getElem hkl
                have hxm := List.getElem_mem hkl
                obtain ⟨x, hx⟩ : ∃ x, x = (nd i)[k] := ⟨_, rfl⟩
                rw [← hx] at hcx htake hxm
                have hxN := HFM.out.lt i hlt x hxm
                have hxi : (x : Int) < (N : Int) := by omega
                have hcell := hrow.out.cell x hxN
                have hfree := hrow.out.free x
                unfold bf at hcell
                unfold iv at hcx
                cases hT : T x with
                | true =>
                  rw [hT] at hcell
                  have HTK := Lib.hid (show b = false → ∀ y ∈ (nd i).take (k + 1), T y = true from fun hb y hy => by
                    rw [htake] at hy
                    rcases List.mem_append.1 hy with hy | hy
                    · exact htk.out hb y hy
                    · rw [List.mem_singleton] at hy; subst hy; exact hT)
                  clear htake hxm hx hc3 hT hTi
                  go_wp2
                  go_roundw
                  case rel => exact ⟨b, T, k + 1, rfl, by go_num, by omega, hrow, hbel, hrs, hcl, HTK, hu⟩
                  case measure => simp [intOf]; omega
                | false =>
                  rw [hT] at hcell
                  have HRW := Lib.hid (bf_row hrow.out hxN)
                  have HBL := Lib.hid (hbel.out.setCell (p := ⟨w.heap.size, x, none⟩) (Nat.le_refl _) (.bool true))
                  have HRS := Lib.hid (hrs.out.set hlt hTi hxm)
                  have HUU := Lib.hid (show un (setT T x) N + (if true = true then 1 else 0) ≤ U0 by
                    have h1 := un_set hxN hT
                    have h2 := hu.out
                    rw [if_pos rfl]
                    omega)
                  clear htake hxm hx hc3 hT hTi hrow hbel hrs hu hcl htk
                  go_wp2
                  go_roundw
                  case rel => exact ⟨true, setT T x, k + 1, rfl, by go_num, by omega, HRW, HBL, HRS, Lib.hid (fun h => by cases h), Lib.hid (fun h => by cases h), HUU⟩
                  case measure => simp [intOf]; omega
              · have hki : ¬ (k : Int) < (mn : Int) := by omega
                have HCL := Lib.hid (show b = false → ∀ j, j < i + 1 → T j = true → ∀ x ∈ nd j, T x = true from fun hb j hj h => by
                  by_cases e : j = i
                  · subst e
                    intro x hx
                    refine htk.out hb x ?_
                    rw [List.take_of_length_le (by rw [← HMN.out]; omega)]; exact hx
                  · exact hcl.out hb j (by omega) h)
                clear hTi hcl htk
                go_wp2
                go_roundw
                case rel => exact ⟨b, T, i + 1, rfl, by go_num, by omega, hrow, hbel, hrs, HCL, hu⟩
                case measure => simp [intOf]; omega
        · obtain rfl : i = N := by omega
          have HUM := Lib.hid (show unw wr w.heap.size i + bz (.bool b) < unw wr w.heap.size i + bz (.bool b) + 1 from Nat.lt_succ_self _)
          have HUV := Lib.hid (show unw wr w.heap.size i + bz (.bool b) < U0 + 1 by
            rw [unw_row hrow.out]
            have h9 := hu.out
            cases b
            · rw [if_neg Bool.false_ne_true] at h9
              show _ + 0 < _
              omega
            · rw [if_pos rfl] at h9
              show _ + 1 < _
              omega)
          clear HUM hu
          go_wp2
          go_roundw
          case rel => exact ⟨b, T, rfl, hrow, hbel, hrs, hcl⟩
          case measure => rw [← hU0]; exact HUV.out
end Go.Proofs.Ytdgdeognahmpmaa
