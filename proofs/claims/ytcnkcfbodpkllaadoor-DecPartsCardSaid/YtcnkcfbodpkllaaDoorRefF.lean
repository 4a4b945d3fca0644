/-
  The document's Cmp and Plus.
-/
import Derived.Test.YtcnkcfbodpkllaaDoorRefE
import Derived.Test.YtcnkcfbodpkllaaDoorWideC
namespace Go.Proofs.YtcnkcfbodpkllaaDoor
open Go.RowKit Num Word
attribute [local go_sem] setCell_drewN cell?_ext frozen?_ext shape?_ext setCell_ext lt_1' ne_1' en_1' le_1' lt_2' ne_2' en_2' le_2' lt_3' ne_3' en_3' le_3' lt_4' ne_4' en_4' le_4' lt_5' ne_5' en_5' le_5' lt_6' ne_6' en_6' le_6' lt_7' ne_7' en_7' le_7' lt_8' ne_8' en_8' le_8' lt_9' ne_9' en_9' le_9' lt_10' ne_10' en_10' le_10' lt_11' ne_11' en_11' le_11' lt_12' ne_12' en_12' le_12'

theorem cmpv_less {a b : Nat} (h : a < b) : cmpv a b = -1 := if_pos h
theorem cmpv_more {a b : Nat} (h : b < a) : cmpv a b = 1 := by unfold cmpv; rw [if_neg (by omega), if_pos h]
theorem cmpv_same (a : Nat) : cmpv a a = 0 := by unfold cmpv; rw [if_neg (by omega), if_neg (by omega)]
set_option maxRecDepth 100000 in
set_option maxHeartbeats 8000000 in
theorem rcmp_any (va vb : Value) (a b : Nat) (hla : (dg a).length ≤ 100000) (hlb : (dg b).length ≤ 100000) (w : World) (ha : Rd w va (dg a)) (hb : Rd w vb (dg b)) :
    Calls Tryd.prog 68 #[va, vb] w fun e w' => e = .returned (.int .i64 (cmpv a b)) ∧ Below w.heap.size w w' := by
  obtain ⟨l, hll⟩ : ∃ l, l = dg a := ⟨_, rfl⟩
  obtain ⟨m, hmm⟩ : ∃ m, m = dg b := ⟨_, rfl⟩
  have hgl := fun j (hj : j < (dg a).length) => dg_get (n := a) hj
  have hgm := fun j (hj : j < (dg b).length) => dg_get (n := b) hj
  have hcl1 := cmp_len (a := a) (b := b)
  have hcl2 := cmp_len (a := b) (b := a)
  have hst := cmp_start (a := a) (b := b)
  rw [← hll] at hla ha hgl hcl1 hcl2 hst
  rw [← hmm] at hlb hb hgm hcl1 hcl2 hst
  obtain ⟨p, cap, rfl, -⟩ := ha.form
  obtain ⟨q, cap2, rfl, -⟩ := hb.form
  have HA := Lib.hid ha; have HB := Lib.hid hb; have HGL := Lib.hid hgl; have HGM := Lib.hid hgm
  clear ha hb hgl hgm hll hmm
  by_cases hne : l.length = m.length
  · have hST := Lib.hid (hst hne)
    rw [← hne]
    have HNE := Lib.hid hne
    clear hcl1 hcl2 hst hne
    go_enter Tryd.func68, Tryd.ntmps68
    go_wp2
    go_loopw [5] (fun i wr => ∃ (j : Nat) (z : Int), i = .int .i64 z ∧ z = (j : Int) - 1 ∧ j ≤ l.length ∧ Hid (a / 10 ^ j = b / 10 ^ j) ∧ Hid (Below w.heap.size w wr)) (fun i _ => (intOf i + 1).toNat)
    case atStart => exact ⟨l.length, _, rfl, rfl, Nat.le_refl _, hST, Lib.hid (by (repeat' (first | (with_reducible exact Below.refl _ _) | (with_reducible assumption) | (with_reducible refine Below.alloc ?_ ?_ _) | (with_reducible refine below_drewN ?_ _) | (with_reducible refine below_drew ?_) | (with_reducible refine below_ext ?_ ?_ _ _) | (with_reducible refine Below.setCell ?_ ?_ _) | (simp; done) | (simp; omega) | omega)))⟩
    case round =>
      obtain ⟨j, z, rfl, hz, hj, he, hbel⟩ := hrel
      by_cases h0 : j = 0
      · subst h0
        have hzn : ¬ (0 : Int) ≤ z := by omega
        have he2 := he.out
        rw [Nat.pow_zero, Nat.div_one, Nat.div_one] at he2
        subst he2
        have HC := Lib.hid (cmpv_same a)
        clear hz he
        go_wp2
        go_ret
        exact ⟨by rw [HC.out]; rfl, hbel.out⟩
      obtain ⟨k, rfl⟩ : ∃ k, j = k + 1 := ⟨j - 1, by omega⟩
      obtain rfl : z = (k : Int) := by omega
      have hk : k < l.length := by omega
      have hkm : k < m.length := by have := HNE.out; omega
      have hki : (k : Int) < l.length := by omega
      obtain ⟨-, g, off, rfl, hg, hx⟩ := (HA.out.later hbel.out).cells (by omega)
      obtain ⟨-, g2, off2, rfl, hg2, hy⟩ := (HB.out.later hbel.out).cells (by omega)
      have cx := hx k hk
      have cy := hy k hkm
      rw [HGL.out k hk] at cx
      rw [HGM.out k hkm] at cy
      have ht := cmp_top (a := a) (b := b) he.out
      have ht2 := cmp_top (a := b) (b := a) he.out.symm
      have hdn := cmp_down (a := a) (b := b) he.out
      obtain ⟨x, hxx⟩ : ∃ x, x = a / 10 ^ k % 10 := ⟨_, rfl⟩
      obtain ⟨y, hyy⟩ : ∃ y, y = b / 10 ^ k % 10 := ⟨_, rfl⟩
      rw [← hxx] at cx ht ht2 hdn
      rw [← hyy] at cy ht ht2 hdn
      clear hxx hyy hx hy hz h0 he
      by_cases h1 : x < y
      · have h1i : (x : Int) < y := by omega
        have HC := Lib.hid (cmpv_less (ht h1))
        clear ht ht2 hdn h1
        go_wp2
        go_region
        go_wp2
        go_ret
        exact ⟨by rw [HC.out]; rfl, below_drew hbel.out⟩
      have h1i : ¬ (x : Int) < y := by omega
      by_cases h2 : y < x
      · have h2i : (y : Int) < x := by omega
        have HC := Lib.hid (cmpv_more (ht2 h2))
        clear ht ht2 hdn h1 h2
        go_wp2
        go_region
        go_wp2
        go_region
        go_wp2
        go_ret
        exact ⟨by rw [HC.out]; rfl, below_drew (below_drew hbel.out)⟩
      have h2i : ¬ (y : Int) < x := by omega
      have HD := Lib.hid (hdn (by omega))
      clear ht ht2 hdn h1 h2
      go_wp2
      go_region
      go_wp2
      go_region
      go_wp2
      go_roundw
      case rel => exact ⟨k, _, rfl, by omega, by omega, HD, Lib.hid (below_drew (below_drew hbel.out))⟩
      case measure => simp only [intOf]; omega
  · have hnei : ((l.length : Int) != (m.length : Int)) = true := by rw [bne_iff_ne]; omega
    clear hst
    by_cases h1 : l.length < m.length
    · have h1i : (l.length : Int) < m.length := by omega
      have HC := Lib.hid (cmpv_less (hcl1 h1))
      clear hcl1 hcl2 h1 hne
      go_enter Tryd.func68, Tryd.ntmps68
      go_wp2
      go_ret
      exact ⟨by rw [HC.out]; rfl, by (repeat' (first | (with_reducible exact Below.refl _ _) | (with_reducible assumption) | (with_reducible refine Below.alloc ?_ ?_ _) | (with_reducible refine below_drewN ?_ _) | (with_reducible refine below_drew ?_) | (with_reducible refine below_ext ?_ ?_ _ _) | (with_reducible refine Below.setCell ?_ ?_ _) | (simp; done) | (simp; omega) | omega))⟩
    · have h1i : ¬ (l.length : Int) < m.length := by omega
      have HC := Lib.hid (cmpv_more (hcl2 (by omega)))
      clear hcl1 hcl2 h1 hne
      go_enter Tryd.func68, Tryd.ntmps68
      go_wp2
      go_ret
      exact ⟨by rw [HC.out]; rfl, by (repeat' (first | (with_reducible exact Below.refl _ _) | (with_reducible assumption) | (with_reducible refine Below.alloc ?_ ?_ _) | (with_reducible refine below_drewN ?_ _) | (with_reducible refine below_drew ?_) | (with_reducible refine below_ext ?_ ?_ _ _) | (with_reducible refine Below.setCell ?_ ?_ _) | (simp; done) | (simp; omega) | omega))⟩
end Go.Proofs.YtcnkcfbodpkllaaDoor
