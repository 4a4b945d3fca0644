/-
  container/heap's down.
-/
import Derived.Test.YtdgdeognahmpmaaGrB
namespace Go.Proofs.Ytdgdeognahmpmaa
open Go.RowKit
open Hp (at_ swp)
attribute [local go_sem] setCell_drewN cell?_ext frozen?_ext shape?_ext setCell_ext lt_1' ne_1' en_1' le_1' lt_2' ne_2' en_2' le_2' lt_3' ne_3' en_3' le_3' lt_4' ne_4' en_4' le_4' lt_5' ne_5' en_5' le_5' lt_6' ne_6' en_6' le_6' lt_7' ne_7' en_7' le_7' lt_8' ne_8' en_8' le_8' lt_9' ne_9' en_9' le_9' lt_10' ne_10' en_10' le_10' lt_11' ne_11' en_11' le_11' lt_12' ne_12' en_12' le_12'

/-- the children's places -/
theorem par_eq {k i : Nat} (h0 : 0 < k) : Hp.par k = i ↔ k = 2 * i + 1 ∨ k = 2 * i + 2 := by unfold Hp.par; omega
theorem down_stop {l : List Nat} {i n j : Nat} (h : Hp.Down l i n) (hm : ∀ k, 0 < k → k < n → Hp.par k = i → at_ l j ≤ at_ l k) (hs : at_ l i ≤ at_ l j) : Hp.Heap l n := h.stop fun k h0 hk hp => Nat.le_trans hs (hm k h0 hk hp)
theorem down_leaf {l : List Nat} {i n : Nat} (h : Hp.Down l i n) (hn : n ≤ 2 * i + 1) : Hp.Heap l n := h.stop fun k h0 hk hp => by rcases (par_eq h0).1 hp with e | e <;> omega
theorem drewN_add (w : World) (a b : Nat) : w.drewN (a + b) = (w.drewN a).drewN b := by simp only [World.drewN, Nat.add_assoc]
theorem swp_drop {l : List Nat} {i j n : Nat} (hi : i < n) (hj : j < n) : (swp l i j).drop n = l.drop n := by
  unfold swp
  rw [List.drop_set_of_lt hj, List.drop_set_of_lt hi]
theorem swp_take {l : List Nat} {i j n : Nat} (hi : i < n) (hj : j < n) (hn : n ≤ l.length) : ((swp l i j).take n).Perm (l.take n) := by
  have e : (swp l i j).take n = swp (l.take n) i j := by
    have h1 : ∀ k, k < n → at_ (l.take n) k = at_ l k := fun k hk => by
      rw [Hp.at_of (by rw [List.length_take]; omega), Hp.at_of (by omega), List.getElem_take]
    unfold swp
    rw [List.take_set, List.take_set, h1 i hi, h1 j hj]
  rw [e]
  exact Hp.swp_perm (by rw [List.length_take]; omega) (by rw [List.length_take]; omega)
/-- a call that answers a truth, whichever -/
def IsBool (e : Ending) : Prop := ∃ b, e = .returned (.bool b)
set_option maxHeartbeats 16000000 in
theorem down_any {w : World} {p g cap : Nat} {l : List Nat} (h : HC w p g cap l) (n : Nat) (hn : n ≤ l.length) (hd : Hp.Down l 0 n) :
    Calls Try.prog 29 #[.iface 40 (.pointer (some ⟨p, 0, none⟩)), .int .i64 0, .int .i64 (n : Int)] w fun e w' => IsBool e ∧ ∃ l', (l'.take n).Perm (l.take n) ∧ l'.drop n = l.drop n ∧ l'.length = l.length ∧ Hp.Heap l' n ∧ HC w' p g cap l' ∧ Oth (· = g) w w' := by
  have hsm := h.small
  have HH := Lib.hid h
  have HD := Lib.hid hd
  clear h hd
  go_enter Try.func29, Try.ntmps29
  go_wp2
  go_loopw [7] (fun z wr => ∃ (i : Nat) (m : List Nat), z = .int .i64 i ∧ (i < n ∨ i = 0) ∧ Hid (m.length = l.length) ∧ Hid ((m.take n).Perm (l.take n)) ∧ Hid (m.drop n = l.drop n) ∧ Hid (Hp.Down m i n) ∧ Hid (HC wr p g cap m) ∧ Hid (Oth (· = g) w wr)) (fun z _ => n - (intOf z).toNat)
  case atStart => exact ⟨0, l, rfl, .inr rfl, Lib.hid rfl, Lib.hid (List.Perm.refl _), Lib.hid rfl, HD, HH, Lib.hid (Oth.refl _ _)⟩
  case round =>
    obtain ⟨i, m, rfl, hi, hml, hp, hdr, hdn, hc, ho⟩ := hrel
    have hms : m.length ≤ 1000000 := by rw [hml.out]; exact hsm
    have hnm : n ≤ m.length := by rw [hml.out]; exact hn
    obtain ⟨j1, hj1⟩ : ∃ j1, j1 = 2 * i + 1 := ⟨_, rfl⟩
    obtain ⟨j2, hj2⟩ : ∃ j2, j2 = 2 * i + 2 := ⟨_, rfl⟩
    obtain ⟨a2, E0⟩ : ∃ a2 : Int, 2 * (i : Int) = a2 := ⟨_, rfl⟩
    have W0 : IntKind.i64.wrap a2 = a2 := IntWalk.i64_in _ (by omega)
    have E1 : a2 + 1 = (j1 : Int) := by omega
    have W1 : IntKind.i64.wrap (j1 : Int) = (j1 : Int) := IntWalk.i64_in _ (by omega)
    have E2 : (j1 : Int) + 1 = (j2 : Int) := by omega
    have W2 : IntKind.i64.wrap (j2 : Int) = (j2 : Int) := IntWalk.i64_in _ (by omega)
    have hj1n : ¬ (j1 : Int) < 0 := by omega
    have hmv0 := fun n => meth_val rowLess hc.out.hd n
    by_cases h1 : j1 < n
    · have h1i : ¬ (n : Int) ≤ (j1 : Int) := by omega
      by_cases h2 : j2 < n
      · have HLA := Lib.hid (less_any hc.out j2 j1 (by omega) (by omega))
        by_cases h3 : at_ m j2 < at_ m j1
        · have HLB := Lib.hid (by have := HLA.out; rwa [show decide ((at_ m j2 : Int) < (at_ m j1 : Int)) = true from decide_eq_true (by omega)] at this)
          clear HLA
          have hm := (show ∀ k, 0 < k → k < n → Hp.par k = i → at_ m j2 ≤ at_ m k from fun k h0 hk hp => by rcases (par_eq h0).1 hp with e | e; (rw [show k = j1 by omega]; omega); (rw [show k = j2 by omega]; omega))
          have HL2 := Lib.hid (fun d => less_any (hc.out.drew d) j2 i (by omega) (by omega))
          have HMV := Lib.hid (fun d n => meth_val rowLess (hc.out.drew d).hd n)
          have HMS := Lib.hid (fun d n => meth_val rowSwap (hc.out.drew d).hd n)
          by_cases hlt : at_ m j2 < at_ m i
          · have HST := Lib.hid (hdn.out.step (j := j2) (by omega) (by omega) ((par_eq (by omega)).2 (by omega)) hnm hlt hm)
            have HPM := Lib.hid (swp_take (l := m) (i := i) (j := j2) (n := n) (by omega) (by omega) hnm)
            have HDR := Lib.hid (swp_drop (l := m) (i := i) (j := j2) (n := n) (by omega) (by omega))
            have HSW := Lib.hid (fun d => swap_any (hc.out.drew d) i j2 (by omega) (by omega))
            have HJN := Lib.hid (show j2 < n by omega)
            have HIJ := Lib.hid (show i < j2 by omega)
            have HLL := Lib.hid (fun d => by have := HL2.out d; rwa [show decide ((at_ m j2 : Int) < (at_ m i : Int)) = true from decide_eq_true (by omega)] at this)
            clear hm hlt HL2 hj1 hj2
            go_wp2_with (first
            | (go_at_call 46; ((with_reducible refine HLB.out.mono ?_); rintro e w1 ⟨rfl, d8, rfl⟩; have hmV := HMV.out d8))
            | (go_at_call 46; ((with_reducible refine (HLL.out _).mono ?_); rintro e w1 ⟨rfl, d9, rfl⟩; have hmW := HMS.out (d8 + d9); have hmW2 := HMS.out (d8 + d9); rw [drewN_add] at hmW2))
            | (go_at_call 49; ((with_reducible refine (HSW.out _).mono ?_); rintro e w2 ⟨rfl, hc2, ho2⟩; have HC2 := Lib.hid hc2; have HO2 := Lib.hid ((ho.out.drew _).trans ho2); clear hc2 ho2)))
            go_roundw
            case rel => exact ⟨j2, swp m i j2, rfl, .inl HJN.out, Lib.hid (by rw [Hp.swp_len]; exact hml.out), Lib.hid (HPM.out.trans hp.out), Lib.hid (HDR.out.trans hdr.out), HST, HC2, HO2⟩
            case measure => have := HJN.out; have := HIJ.out; simp [intOf]; omega
          · have HST := Lib.hid (down_stop hdn.out hm (Nat.le_of_not_lt hlt))
            have HLL := Lib.hid (fun d => by have := HL2.out d; rwa [show decide ((at_ m j2 : Int) < (at_ m i : Int)) = false from decide_eq_false (by omega)] at this)
            clear hm hlt HL2 hj1 hj2
            go_wp2_with (first
            | (go_at_call 46; ((with_reducible refine HLB.out.mono ?_); rintro e w1 ⟨rfl, d8, rfl⟩; have hmV := HMV.out d8))
            | (go_at_call 46; ((with_reducible refine (HLL.out _).mono ?_); rintro e w1 ⟨rfl, d9, rfl⟩)))
            go_ret
            exact ⟨⟨_, rfl⟩, m, hp.out, hdr.out, hml.out, HST.out, hc.out.drew _, ho.out.drew _⟩
        · have HLB := Lib.hid (by have := HLA.out; rwa [show decide ((at_ m j2 : Int) < (at_ m j1 : Int)) = false from decide_eq_false (by omega)] at this)
          clear HLA
          have hm := (show ∀ k, 0 < k → k < n → Hp.par k = i → at_ m j1 ≤ at_ m k from fun k h0 hk hp => by rcases (par_eq h0).1 hp with e | e; (rw [show k = j1 by omega]; omega); (rw [show k = j2 by omega]; omega))
          have HL2 := Lib.hid (fun d => less_any (hc.out.drew d) j1 i (by omega) (by omega))
          have HMV := Lib.hid (fun d n => meth_val rowLess (hc.out.drew d).hd n)
          have HMS := Lib.hid (fun d n => meth_val rowSwap (hc.out.drew d).hd n)
          by_cases hlt : at_ m j1 < at_ m i
          · have HST := Lib.hid (hdn.out.step (j := j1) (by omega) (by omega) ((par_eq (by omega)).2 (by omega)) hnm hlt hm)
            have HPM := Lib.hid (swp_take (l := m) (i := i) (j := j1) (n := n) (by omega) (by omega) hnm)
            have HDR := Lib.hid (swp_drop (l := m) (i := i) (j := j1) (n := n) (by omega) (by omega))
            have HSW := Lib.hid (fun d => swap_any (hc.out.drew d) i j1 (by omega) (by omega))
            have HJN := Lib.hid (show j1 < n by omega)
            have HIJ := Lib.hid (show i < j1 by omega)
            have HLL := Lib.hid (fun d => by have := HL2.out d; rwa [show decide ((at_ m j1 : Int) < (at_ m i : Int)) = true from decide_eq_true (by omega)] at this)
            clear hm hlt HL2 hj1 hj2
            go_wp2_with (first
            | (go_at_call 46; ((with_reducible refine HLB.out.mono ?_); rintro e w1 ⟨rfl, d8, rfl⟩; have hmV := HMV.out d8))
            | (go_at_call 46; ((with_reducible refine (HLL.out _).mono ?_); rintro e w1 ⟨rfl, d9, rfl⟩; have hmW := HMS.out (d8 + d9); have hmW2 := HMS.out (d8 + d9); rw [drewN_add] at hmW2))
            | (go_at_call 49; ((with_reducible refine (HSW.out _).mono ?_); rintro e w2 ⟨rfl, hc2, ho2⟩; have HC2 := Lib.hid hc2; have HO2 := Lib.hid ((ho.out.drew _).trans ho2); clear hc2 ho2)))
            go_roundw
            case rel => exact ⟨j1, swp m i j1, rfl, .inl HJN.out, Lib.hid (by rw [Hp.swp_len]; exact hml.out), Lib.hid (HPM.out.trans hp.out), Lib.hid (HDR.out.trans hdr.out), HST, HC2, HO2⟩
            case measure => have := HJN.out; have := HIJ.out; simp [intOf]; omega
          · have HST := Lib.hid (down_stop hdn.out hm (Nat.le_of_not_lt hlt))
            have HLL := Lib.hid (fun d => by have := HL2.out d; rwa [show decide ((at_ m j1 : Int) < (at_ m i : Int)) = false from decide_eq_false (by omega)] at this)
            clear hm hlt HL2 hj1 hj2
            go_wp2_with (first
            | (go_at_call 46; ((with_reducible refine HLB.out.mono ?_); rintro e w1 ⟨rfl, d8, rfl⟩; have hmV := HMV.out d8))
            | (go_at_call 46; ((with_reducible refine (HLL.out _).mono ?_); rintro e w1 ⟨rfl, d9, rfl⟩)))
            go_ret
            exact ⟨⟨_, rfl⟩, m, hp.out, hdr.out, hml.out, HST.out, hc.out.drew _, ho.out.drew _⟩
      · have h2i : ¬ (j2 : Int) < (n : Int) := by omega
        have hm := (show ∀ k, 0 < k → k < n → Hp.par k = i → at_ m j1 ≤ at_ m k from fun k h0 hk hp => by rcases (par_eq h0).1 hp with e | e; (rw [show k = j1 by omega]; omega); (exfalso; omega))
        have HL2 := Lib.hid (fun (_ : Unit) => less_any hc.out j1 i (by omega) (by omega))
        have HMV := Lib.hid (fun d n => meth_val rowLess (hc.out.drew d).hd n)
        have HMS := Lib.hid (fun d n => meth_val rowSwap (hc.out.drew d).hd n)
        by_cases hlt : at_ m j1 < at_ m i
        · have HST := Lib.hid (hdn.out.step (j := j1) (by omega) (by omega) ((par_eq (by omega)).2 (by omega)) hnm hlt hm)
          have HPM := Lib.hid (swp_take (l := m) (i := i) (j := j1) (n := n) (by omega) (by omega) hnm)
          have HDR := Lib.hid (swp_drop (l := m) (i := i) (j := j1) (n := n) (by omega) (by omega))
          have HSW := Lib.hid (fun d => swap_any (hc.out.drew d) i j1 (by omega) (by omega))
          have HJN := Lib.hid (show j1 < n by omega)
          have HIJ := Lib.hid (show i < j1 by omega)
          have HLL := Lib.hid (fun d => by have := HL2.out d; rwa [show decide ((at_ m j1 : Int) < (at_ m i : Int)) = true from decide_eq_true (by omega)] at this)
          clear hm hlt HL2 hj1 hj2
          go_wp2_with (first

          | (go_at_call 46; ((with_reducible refine (HLL.out ()).mono ?_); rintro e w1 ⟨rfl, d9, rfl⟩; have hmW := HMS.out d9))
          | (go_at_call 49; ((with_reducible refine (HSW.out _).mono ?_); rintro e w2 ⟨rfl, hc2, ho2⟩; have HC2 := Lib.hid hc2; have HO2 := Lib.hid ((ho.out.drew _).trans ho2); clear hc2 ho2)))
          go_roundw
          case rel => exact ⟨j1, swp m i j1, rfl, .inl HJN.out, Lib.hid (by rw [Hp.swp_len]; exact hml.out), Lib.hid (HPM.out.trans hp.out), Lib.hid (HDR.out.trans hdr.out), HST, HC2, HO2⟩
          case measure => have := HJN.out; have := HIJ.out; simp [intOf]; omega
        · have HST := Lib.hid (down_stop hdn.out hm (Nat.le_of_not_lt hlt))
          have HLL := Lib.hid (fun d => by have := HL2.out d; rwa [show decide ((at_ m j1 : Int) < (at_ m i : Int)) = false from decide_eq_false (by omega)] at this)
          clear hm hlt HL2 hj1 hj2
          go_wp2_with (first

          | (go_at_call 46; ((with_reducible refine (HLL.out ()).mono ?_); rintro e w1 ⟨rfl, d9, rfl⟩)))
          go_ret
          exact ⟨⟨_, rfl⟩, m, hp.out, hdr.out, hml.out, HST.out, hc.out.drew _, ho.out.drew _⟩
    · have h1i : (n : Int) ≤ (j1 : Int) := by omega
      have HST := Lib.hid (down_leaf hdn.out (by omega))
      clear hj1 hj2
      go_wp2
      go_ret
      exact ⟨⟨_, rfl⟩, m, hp.out, hdr.out, hml.out, HST.out, hc.out, ho.out⟩
end Go.Proofs.Ytdgdeognahmpmaa
