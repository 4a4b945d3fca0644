/-
  The document's Plus.
-/
import Derived.Test.YtcnkcfbodpkllaaDoorRefF
namespace Go.Proofs.YtcnkcfbodpkllaaDoor
open Go.RowKit Num Word
attribute [local go_sem] setCell_drewN cell?_ext frozen?_ext shape?_ext setCell_ext lt_1' ne_1' en_1' le_1' lt_2' ne_2' en_2' le_2' lt_3' ne_3' en_3' le_3' lt_4' ne_4' en_4' le_4' lt_5' ne_5' en_5' le_5' lt_6' ne_6' en_6' le_6' lt_7' ne_7' en_7' le_7' lt_8' ne_8' en_8' le_8' lt_9' ne_9' en_9' le_9' lt_10' ne_10' en_10' le_10' lt_11' ne_11' en_11' le_11' lt_12' ne_12' en_12' le_12'

set_option maxRecDepth 100000 in
set_option maxHeartbeats 16000000 in
theorem rplus_any (va vb : Value) (a b : Nat) (hla : (dg a).length ≤ 100000) (hlb : (dg b).length ≤ 100000) (w : World) (ha : Rd w va (dg a)) (hb : Rd w vb (dg b)) :
    Calls Tryd.prog 71 #[va, vb] w fun e w' => ∃ v', e = .returned v' ∧ RdP (fun g => w.heap.size ≤ g) w' v' (dg (a + b)) ∧ Below w.heap.size w w' := by
  obtain ⟨l, hll⟩ : ∃ l, l = dg a := ⟨_, rfl⟩
  obtain ⟨m, hmm⟩ : ∃ m, m = dg b := ⟨_, rfl⟩
  have hda := dig_dg a
  have hdb := dig_dg b
  have hst := plus_start (dg a) (dg b)
  rw [lv_dg, lv_dg] at hst
  rw [← hll] at hla ha hda hst
  rw [← hmm] at hlb hb hdb hst
  obtain ⟨p, cap, rfl, -⟩ := ha.form
  obtain ⟨q, cap2, rfl, -⟩ := hb.form
  obtain ⟨B, hBB⟩ : ∃ B, B = w.heap.size := ⟨_, rfl⟩
  have HBB := Lib.hid hBB
  have HA := Lib.hid ha; have HB := Lib.hid hb; have HDA := Lib.hid hda; have HDB := Lib.hid hdb; have HST := Lib.hid hst
  clear ha hb hda hdb hll hmm hst hBB
  go_enter Tryd.func71, Tryd.ntmps71
  go_wp2
  go_loopw [5, 6, 7] (fun v cv i wr => ∃ (k c : Nat) (acc : List Nat), cv = .int .i64 c ∧ i = .int .i64 k ∧ k ≤ l.length + m.length + 1 ∧ (0 < c → k ≤ l.length + m.length) ∧ Hid (IBuf B v acc w wr) ∧ Hid (PlusAt (a + b) l m k c acc)) (fun _ _ i _ => l.length + m.length + 2 - (intOf i).toNat)
  case atStart => exact ⟨0, 0, [], rfl, rfl, Nat.zero_le _, fun h => by omega, Lib.hid (by rw [HBB.out]; exact IBuf.nil w (by (repeat' (first | (with_reducible exact Below.refl _ _) | (with_reducible assumption) | (with_reducible refine Below.alloc ?_ ?_ _) | (with_reducible refine below_drewN ?_ _) | (with_reducible refine below_drew ?_) | (with_reducible refine below_ext ?_ ?_ _ _) | (with_reducible refine Below.setCell ?_ ?_ _) | (simp; done) | (simp; omega) | omega)))), HST⟩
  case round =>
    obtain ⟨k, c, acc, rfl, rfl, hk, hck, hb0, hp⟩ := hrel
    have hb := hb0.out
    have hbel := hb.2.1
    rw [HBB.out] at hbel
    have HBE := Lib.hid hbel
    have hc1 : c ≤ 1 := hp.out.2.2.1
    have hal : acc.length = k := hp.out.1
    clear hbel
    by_cases hka : k < l.length
    · have hkai : (k : Int) < l.length := by omega
      obtain ⟨-, g, off, rfl, hg, hx⟩ := (HA.out.later HBE.out).cells (by omega)
      have cx := hx k hka
      have x9 := HDA.out.get hka
      have dx := lv_drop l k hka
      obtain ⟨x, hxx⟩ : ∃ x, x = l[k] := ⟨_, rfl⟩
      rw [← hxx] at cx x9 dx
      clear hx hxx
      by_cases hkb : k < m.length
      · have hkbi : (k : Int) < m.length := by omega
        obtain ⟨-, g2, off2, rfl, hg2, hy⟩ := (HB.out.later HBE.out).cells (by omega)
        have cy := hy k hkb
        have y9 := HDB.out.get hkb
        have dy := lv_drop m k hkb
        obtain ⟨y, hyy⟩ : ∃ y, y = m[k] := ⟨_, rfl⟩
        rw [← hyy] at cy y9 dy
        clear hy hyy
        have HS := Lib.hid (plus_step hp.out (c + x + y) ⟨x, y, rfl, x9, y9, dx, dy⟩)
        clear dx dy hp hb0
        go_wp2_with (at_builtin; refine append_int rfl _ _ rfl rfl w _ ((c + x + y) % 10) (by omega) (by assumption) rfl (by omega) ?_; intro _ _ hb)
        go_roundw
        case rel => exact ⟨k + 1, (c + x + y) / 10, acc ++ [(c + x + y) % 10], by go_num, by go_num, by omega, by omega, Lib.hid hb, HS⟩
        case measure => simp only [intOf]; omega
      · have hkbi : ¬ (k : Int) < m.length := by omega
        have dy := lv_drop_none m k (by omega)
        have HS := Lib.hid (plus_step hp.out (c + x) ⟨x, 0, rfl, x9, by decide, dx, dy⟩)
        clear dx dy hp hb0
        go_wp2_with (at_builtin; refine append_int rfl _ _ rfl rfl w _ ((c + x) % 10) (by omega) (by assumption) rfl (by omega) ?_; intro _ _ hb)
        go_roundw
        case rel => exact ⟨k + 1, (c + x) / 10, acc ++ [(c + x) % 10], by go_num, by go_num, by omega, by omega, Lib.hid hb, HS⟩
        case measure => simp only [intOf]; omega
    · have hkai : ¬ (k : Int) < l.length := by omega
      have dx := lv_drop_none l k (by omega)
      by_cases hkb : k < m.length
      · have hkbi : (k : Int) < m.length := by omega
        obtain ⟨-, g2, off2, rfl, hg2, hy⟩ := (HB.out.later HBE.out).cells (by omega)
        have cy := hy k hkb
        have y9 := HDB.out.get hkb
        have dy := lv_drop m k hkb
        obtain ⟨y, hyy⟩ : ∃ y, y = m[k] := ⟨_, rfl⟩
        rw [← hyy] at cy y9 dy
        clear hy hyy
        have HS := Lib.hid (plus_step hp.out (c + y) ⟨0, y, rfl, by decide, y9, dx, dy⟩)
        clear dx dy hp hb0
        go_wp2_with (at_builtin; refine append_int rfl _ _ rfl rfl w _ ((c + y) % 10) (by omega) (by assumption) rfl (by omega) ?_; intro _ _ hb)
        go_roundw
        case rel => exact ⟨k + 1, (c + y) / 10, acc ++ [(c + y) % 10], by go_num, by go_num, by omega, by omega, Lib.hid hb, HS⟩
        case measure => simp only [intOf]; omega
      · have hkbi : ¬ (k : Int) < m.length := by omega
        have dy := lv_drop_none m k (by omega)
        by_cases hc0 : 0 < c
        · have hc0i : (0 : Int) < c := by omega
          have hk2 := hck hc0
          have HS := Lib.hid (plus_step hp.out (c) ⟨0, 0, rfl, by decide, by decide, dx, dy⟩)
          clear dx dy hp hb0
          go_wp2_with (at_builtin; refine append_int rfl _ _ rfl rfl w _ ((c) % 10) (by omega) (by assumption) rfl (by omega) ?_; intro _ _ hb)
          go_roundw
          case rel => exact ⟨k + 1, (c) / 10, acc ++ [(c) % 10], by go_num, by go_num, by omega, by omega, Lib.hid hb, HS⟩
          case measure => simp only [intOf]; omega
        · obtain rfl : c = 0 := by omega
          obtain ⟨e1, e2⟩ := plus_end hp.out (by omega) (by omega)
          have hcut := cut_any _ acc e1 (by omega) wr hb.rd
          rw [e2] at hcut
          have HC := Lib.hid hcut
          clear e1 e2 hcut dx dy hp hb0 hc0
          go_wp2_with (go_at_call 61; ((with_reducible refine (HC.out).mono ?_); rintro e w' ⟨v', rfl, hrd, rfl⟩))
          go_ret
          exact ⟨_, rfl, hrd.weak (fun g _ h => by rw [← HBB.out]; exact h), HBE.out⟩
end Go.Proofs.YtcnkcfbodpkllaaDoor
