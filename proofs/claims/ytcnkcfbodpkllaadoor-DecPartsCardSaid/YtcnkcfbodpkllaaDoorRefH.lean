/-
  The document's Less.
-/
import Derived.Test.YtcnkcfbodpkllaaDoorRefG
namespace Go.Proofs.YtcnkcfbodpkllaaDoor
open Go.RowKit Num Word
attribute [local go_sem] setCell_drewN cell?_ext frozen?_ext shape?_ext setCell_ext lt_1' ne_1' en_1' le_1' lt_2' ne_2' en_2' le_2' lt_3' ne_3' en_3' le_3' lt_4' ne_4' en_4' le_4' lt_5' ne_5' en_5' le_5' lt_6' ne_6' en_6' le_6' lt_7' ne_7' en_7' le_7' lt_8' ne_8' en_8' le_8' lt_9' ne_9' en_9' le_9' lt_10' ne_10' en_10' le_10' lt_11' ne_11' en_11' le_11' lt_12' ne_12' en_12' le_12'

theorem IRow.drew {W0 w : World} {g n : Nat} {f : Nat → Int} (h : IRow W0 w g n f) : IRow W0 w.drew g n f := ⟨h.own, h.lt, below_drew h.below, h.cell, h.free⟩
/-- a copy of a slice in a row of the call's own -/
theorem append_copy {ops : Array Oper} {rest : List Oper} {o : Oper} {a : Act} {Q : Exit → Act → World → Prop} {W0 w : World} (hgd : o.guard = none) (s x : Operand)
    (ho : o.op = .call { callee := .builtin .append, args := #[s, x], argTypes := #[40, 40] })
    (hb : Below W0.heap.size W0 w) (hs : a.eval s = .slice (some ⟨w.heap.size, 0, none⟩) 0 0) {g off cap : Nat} {l : List Nat} (hx : a.eval x = .slice (some ⟨g, off, none⟩) l.length cap)
    (hg : g < w.heap.size) (hc : ∀ j (hj : j < l.length), w.cell? ⟨g, off + j, none⟩ = some (.int .i64 (l[j] : Int))) (hl : 0 < l.length) (hlen : l.length ≤ 1000000)
    (h : ∀ g' cap' w', l.length ≤ cap' → IRow W0 w' g' l.length (fun j => ((l.getD j 0 : Nat) : Int)) → wpList Tryd.prog ops Q rest (a.put o.dst (.slice (some ⟨g', 0, none⟩) l.length cap')) w') :
    wpList Tryd.prog ops Q (o :: rest) a (w.alloc (.cells #[] 3)) := by
  obtain ⟨i0, hi, hz0, hz1, hz2⟩ := info_parts infoInt
  have hown := World.ownsRow_lit (w := w) (base := W0.heap.size) (e := 3) (size := 1) #[] 0 hb.size (by unfold maxLen; omega) rfl
  have hb2 : Below W0.heap.size W0 (w.alloc (.cells #[] 3)) := hb.alloc hb.size _
  have hsz : W0.heap.size ≤ (w.alloc (.cells #[] 3)).heap.size := by rw [World.size_alloc]; have := hb.size; omega
  refine wpList_append_own _ hgd s x 40 ho W0.heap.size 3 i0 (.int .i64 0) 1 8 Tryd.underlying40 hi hz0 hz1 hz2 rfl (by decide) _ 0 [] hs hown ⟨g, off, none⟩ l.length cap (intCellsN l) hx (by simp [intCellsN]) ?_ ?_ (by unfold maxLen; omega) (by omega) hsz ?_
  · intro j u hj
    obtain ⟨hlt, e⟩ : ∃ h : j < l.length, .int .i64 (l[j] : Int) = u := by
      obtain ⟨h1, h2⟩ := List.getElem?_eq_some_iff.1 hj
      have h3 : j < l.length := by simpa [intCellsN] using h1
      exact ⟨h3, by simpa [intCellsN] using h2⟩
    have ead : (⟨g, off, none⟩ : Addr).add j = ⟨g, off + j, none⟩ := by
      by_cases h0 : j = 0
      · subst h0; rfl
      · simp [Addr.add, h0]
    rw [ead, ← e, ← hc j hlt]
    exact World.cell?_alloc_past _ g (off + j) hg
  · intro u hu
    simp only [intCellsN, List.mem_map] at hu
    obtain ⟨c, _, rfl⟩ := hu
    rfl
  · intro v' w' ho' hgr _
    rw [Nat.zero_add, List.nil_append] at ho'
    obtain ⟨hlen2, hv⟩ := ho'
    rcases hv with ⟨-, h0⟩ | ⟨g', cap', cur, rfl, hbase, hheap, hcap, -, hcs, htk⟩
    · omega
    · have hbel := hb2.grown hgr hsz (fun k e => by
        have e2 : k = w.heap.size := by cases e; rfl
        rw [e2]; exact hb.size)
      refine h g' cap' w' hcap ⟨hbase, ?_, hbel, fun j hj => ?_, fun j hj => Joins.unfrozen_of_block hheap j⟩
      · by_cases h0 : g' < w'.heap.size
        · exact h0
        · rw [Array.getElem?_eq_none (by omega)] at hheap; cases hheap
      · have e : (intCellsN l)[j]? = some (.int .i64 ((l.getD j 0 : Nat) : Int)) := by simp [intCellsN, hj, List.getD_eq_getElem?_getD]
        rw [Joins.cell_of_block hheap j, ← e, ← htk, List.getElem?_take, if_pos (by omega), Array.getElem?_toList]
set_option maxRecDepth 100000 in
set_option maxHeartbeats 16000000 in
theorem rless_any (va vb : Value) (a b : Nat) (hba : b ≤ a) (hla : (dg a).length ≤ 100000) (w : World) (ha : Rd w va (dg a)) (hb : Rd w vb (dg b)) :
    Calls Tryd.prog 43 #[va, vb] w fun e w' => ∃ v', e = .returned v' ∧ RdP (fun g => w.heap.size ≤ g) w' v' (dg (a - b)) ∧ Below w.heap.size w w' := by
  have hlb := dg_len_mono hba
  obtain ⟨l, hll⟩ : ∃ l, l = dg a := ⟨_, rfl⟩
  obtain ⟨m, hmm⟩ : ∃ m, m = dg b := ⟨_, rfl⟩
  have hda := dig_dg a
  have hdb := dig_dg b
  have hva := lv_dg a
  have hvb := lv_dg b
  rw [← hll] at hla ha hda hlb hva
  rw [← hmm] at hlb hb hdb hvb
  clear hll hmm
  rcases ha with ⟨rfl, rfl⟩ | ⟨g0, o0, cap, rfl, hcap0, hg0, -, hx0⟩
  · obtain ⟨q, cap2, rfl, -⟩ := hb.form
    obtain rfl : m = [] := List.eq_nil_of_length_eq_zero (by simpa using hlb)
    obtain rfl : a = 0 := hva.symm
    obtain rfl : b = 0 := hvb.symm
    have hcut := cut_any (P := fun g => w.heap.size ≤ g) (.slice (some ⟨w.heap.size, 0, none⟩) 0 0) [] Dig.nil (by decide) (w.alloc (.cells #[] 3)) (.inr ⟨w.heap.size, 0, 0, rfl, Nat.le_refl _, by rw [World.size_alloc]; omega, Nat.le_refl _, fun j hj => by cases hj⟩)
    have HC := Lib.hid hcut
    clear hb hda hdb hva hvb hba hla hlb hcut
    go_enter Tryd.func43, Tryd.ntmps43
    go_wp2
    go_rounds 1
    refine wp_loop_rounds 1 ?_
    rw [rounds_succ]
    go_wp2_with (go_at_call 61; ((with_reducible refine (HC.out).mono ?_); rintro e w' ⟨v', rfl, hrd, rfl⟩))
    go_ret
    exact ⟨_, rfl, hrd, by (repeat' (first | (with_reducible exact Below.refl _ _) | (with_reducible assumption) | (with_reducible refine Below.alloc ?_ ?_ _) | (with_reducible refine below_drewN ?_ _) | (with_reducible refine below_drew ?_) | (with_reducible refine below_ext ?_ ?_ _ _) | (with_reducible refine Below.setCell ?_ ?_ _) | (simp; done) | (simp; omega) | omega))⟩
  by_cases hl0 : l.length = 0
  · obtain rfl : l = [] := List.eq_nil_of_length_eq_zero hl0
    obtain ⟨q, cap2, rfl, -⟩ := hb.form
    obtain rfl : m = [] := List.eq_nil_of_length_eq_zero (by simpa using hlb)
    obtain rfl : a = 0 := hva.symm
    obtain rfl : b = 0 := hvb.symm
    have hcut := cut_any (P := fun g => w.heap.size ≤ g) (.slice (some ⟨w.heap.size, 0, none⟩) 0 0) [] Dig.nil (by decide) (w.alloc (.cells #[] 3)) (.inr ⟨w.heap.size, 0, 0, rfl, Nat.le_refl _, by rw [World.size_alloc]; omega, Nat.le_refl _, fun j hj => by cases hj⟩)
    have HC := Lib.hid hcut
    clear hb hda hdb hva hvb hba hla hlb hcut
    go_enter Tryd.func43, Tryd.ntmps43
    go_wp2
    go_rounds 1
    refine wp_loop_rounds 1 ?_
    rw [rounds_succ]
    go_wp2_with (go_at_call 61; ((with_reducible refine (HC.out).mono ?_); rintro e w' ⟨v', rfl, hrd, rfl⟩))
    go_ret
    exact ⟨_, rfl, hrd, by (repeat' (first | (with_reducible exact Below.refl _ _) | (with_reducible assumption) | (with_reducible refine Below.alloc ?_ ?_ _) | (with_reducible refine below_drewN ?_ _) | (with_reducible refine below_drew ?_) | (with_reducible refine below_ext ?_ ?_ _ _) | (with_reducible refine Below.setCell ?_ ?_ _) | (simp; done) | (simp; omega) | omega))⟩
  obtain ⟨q, cap2, rfl, -⟩ := hb.form
  have hst := lessA_start l m hda
  rw [hva] at hst
  have HB := Lib.hid hb; have HDB := Lib.hid hdb; have HST := Lib.hid hst
  have HX := Lib.hid hx0; have HVB := Lib.hid hvb
  clear hb hda hdb hva hvb hst hx0
  go_enter Tryd.func43, Tryd.ntmps43
  go_wp2_with (at_builtin; refine append_copy rfl _ _ rfl (Below.refl _ _) rfl rfl hg0 HX.out (by omega) (by omega) ?_; intro g' cap' w1 hcap' hrow)
  go_loopw [6] (fun i wr => ∃ (k : Nat) (f : Nat → Int), i = .int .i64 k ∧ k ≤ m.length ∧ Hid (LessA a m l.length k f) ∧ Hid (IRow w wr g' l.length f)) (fun i _ => m.length - (intOf i).toNat)
  case atStart => exact ⟨0, _, rfl, Nat.zero_le _, HST, Lib.hid hrow⟩
  case round =>
    obtain ⟨k, f, rfl, hk, hA, hI⟩ := hrel
    by_cases hlt : k < m.length
    · have hlti : (k : Int) < m.length := by omega
      have hkl : k < l.length := by omega
      have hkli : (k : Int) < l.length := by omega
      obtain ⟨-, g2, off2, rfl, hg2, hy⟩ := (HB.out.later hI.out.below).cells (by omega)
      have cy := hy k hlt
      have y9 := HDB.out.get hlt
      have cf := hI.out.cell k hkl
      have fr := hI.out.free k hkl
      have hstp := lessA_step hA.out HDB.out hlt hkl
      have hbd := hA.out.2.1 k hkl
      have hst2 := fun v => hI.out.store k v hkl
      obtain ⟨y, hyy⟩ : ∃ y, y = m[k] := ⟨_, rfl⟩
      obtain ⟨x, hxx⟩ : ∃ x, x = f k := ⟨_, rfl⟩
      rw [← hyy] at cy y9 hstp
      rw [← hxx] at cf hstp hbd
      have HS := Lib.hid hstp; have HT := Lib.hid hst2
      clear hy hyy hxx hstp hst2 hA hI hrow
      go_wp2
      go_region
      go_wp2
      go_roundw
      case rel => exact ⟨k + 1, _, by go_num, by omega, HS, Lib.hid (HT.out _).drew⟩
      case measure => simp only [intOf]; omega
    · obtain rfl : k = m.length := by omega
      have hst := lessB_start hA.out
      rw [HVB.out] at hst
      have HS2 := Lib.hid hst
      clear hst hA hrow
      go_wp2
      go_loopw [7] (fun i wr2 => ∃ (k : Nat) (f : Nat → Int), i = .int .i64 k ∧ k ≤ l.length ∧ Hid (LessB ((a : Int) - (b : Int)) l.length k f) ∧ Hid (IRow w wr2 g' l.length f)) (fun i _ => l.length - (intOf i).toNat)
      case atStart => exact ⟨0, _, rfl, Nat.zero_le _, HS2, hI⟩
      case round =>
        obtain ⟨k, f2, rfl, hk2, hB2, hI2⟩ := hrel
        clear hI HS2
        by_cases hlt2 : k + 1 < l.length
        · have hlt2i : (k : Int) + 1 < l.length := by omega
          have hkl : k < l.length := by omega
          have hkli : (k : Int) < l.length := by omega
          have cf := hI2.out.cell k hkl
          have fr := hI2.out.free k hkl
          have cf1 := hI2.out.cell (k + 1) hlt2
          have fr1 := hI2.out.free (k + 1) hlt2
          have hb1 := hB2.out.2.2 k hkl
          have hb2 := hB2.out.2.2 (k + 1) hlt2
          have hkeep := lessB_keep hB2.out
          have hstp := lessB_step hB2.out hlt2
          have hst2 := fun v v' => (hI2.out.store k v hkl).store (k + 1) v' hlt2
          obtain ⟨x, hxx⟩ : ∃ x, x = f2 k := ⟨_, rfl⟩
          obtain ⟨y, hyy⟩ : ∃ y, y = f2 (k + 1) := ⟨_, rfl⟩
          rw [← hxx] at cf hb1 hkeep hstp
          rw [← hyy] at cf1 hb2 hstp
          have HT := Lib.hid hst2
          by_cases hneg : x < 0
          · have HS := Lib.hid (hstp hneg)
            clear hxx hyy hstp hst2 hkeep hB2
            go_wp2
            go_roundw
            case rel => exact ⟨k + 1, _, by go_num, by omega, HS, Lib.hid (HT.out _ _)⟩
            case measure => simp only [intOf]; omega
          · have HS := Lib.hid (hkeep (by omega))
            clear hxx hyy hstp hst2 hkeep hB2
            go_wp2
            go_roundw
            case rel => exact ⟨k + 1, _, by go_num, by omega, HS, hI2⟩
            case measure => simp only [intOf]; omega
        · have hlt2i : ¬ (k : Int) + 1 < l.length := by omega
          obtain ⟨e1, e2⟩ := less_list hB2.out (by omega) (by omega)
          have hrd := hI2.out.rd hcap' (listOf f2 l.length) (listOf_len _ _) (fun j hj => by
            have := lessB_end hB2.out (by omega) (by omega) j (by rw [listOf_len] at hj; exact hj)
            rw [listOf_get]; omega)
          have hcut := cut_any _ _ e1 (by rw [listOf_len]; omega) _ hrd
          have e3 : lv (listOf f2 l.length) = a - b := by omega
          rw [e3] at hcut
          have HC := Lib.hid hcut
          have HG := Lib.hid hI2.out.own
          have HBB := Lib.hid hI2.out.below
          clear e1 e2 e3 hrd hcut hB2 hI2
          go_wp2_with (go_at_call 61; ((with_reducible refine (HC.out).mono ?_); rintro e w' ⟨v', rfl, hrd, rfl⟩))
          go_ret
          exact ⟨_, rfl, hrd.weak (fun g _ h => by rw [h]; exact HG.out), HBB.out⟩
end Go.Proofs.YtcnkcfbodpkllaaDoor
