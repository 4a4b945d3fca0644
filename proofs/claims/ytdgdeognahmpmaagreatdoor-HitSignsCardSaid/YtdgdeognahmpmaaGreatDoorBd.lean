/-
  The document's Cut, twice and half.
  The document's half.
  The document's digits of words.
  The document's Of and OfLong.
  The document's ToLong and To.
  The document's Cmp and Plus.
  The document's Plus.
  The document's Less.
  The document's Times.
  The document's told, DocCmp, DocAdd, DocSub, DocMul.
  The document's DocAdd, DocSub, DocMul.
  The document's Shift, and the beginning of Quo.
  The document's Quo.
  The document's DocDiv.
  The document's Near and DocRound.
  The document's DocNarrow, DocTen, DocDigits, DocTrim.
  The document's DocTrim.
-/
import Derived.Test.YtdgdeognahmpmaaGreatDoorBb
import Derived.Deep.OwnRows
import Derived.Lib.SmallJoins
import Derived.Test.YtdgdeognahmpmaaGreatDoorWideC
import Derived.Test.YtdgdeognahmpmaaGreatDoorRound
import Derived.Test.YtdgdeognahmpmaaGreatDoorBa
import Derived.Laws.AppendOwnNone
import Derived.Test.YtdgdeognahmpmaaGreatDoorBc
namespace Go.Proofs.YtdgdeognahmpmaaGreatDoor
open Go.RowKit Num
attribute [local go_sem] setCell_drewN cell?_ext frozen?_ext shape?_ext setCell_ext lt_1' ne_1' en_1' le_1' lt_2' ne_2' en_2' le_2' lt_3' ne_3' en_3' le_3' lt_4' ne_4' en_4' le_4' lt_5' ne_5' en_5' le_5' lt_6' ne_6' en_6' le_6' lt_7' ne_7' en_7' le_7' lt_8' ne_8' en_8' le_8' lt_9' ne_9' en_9' le_9' lt_10' ne_10' en_10' le_10' lt_11' ne_11' en_11' le_11' lt_12' ne_12' en_12' le_12'

set_option maxRecDepth 100000 in
set_option maxHeartbeats 4000000 in
theorem cut_any {P : Nat → Prop} (v : Value) (l : List Nat) (hd : Dig l) (hl : l.length ≤ 1000000) (w : World) (hr : RdP P w v l) :
    Calls Tryz.prog 170 #[v] w fun e w' => ∃ v', e = .returned v' ∧ RdP P w v' (dg (lv l)) ∧ w = w' := by
  obtain ⟨p, cap, rfl, hcap⟩ := hr.form
  have HR := Lib.hid hr
  have HD := Lib.hid hd
  clear hr hd
  go_enter Tryz.func170, Tryz.ntmps170
  go_wp2
  go_loopw [3] (fun n wr => ∃ m : Nat, n = .int .i64 m ∧ m ≤ l.length ∧ Hid (∀ j (hj : j < l.length), m ≤ j → l[j] = 0) ∧ wr = w) (fun n _ => (intOf n).toNat)
  case atStart => exact ⟨l.length, rfl, Nat.le_refl _, Lib.hid (fun j hj h => by omega), rfl⟩
  case round =>
    obtain ⟨m, rfl, hm, hz, rfl⟩ := hrel
    by_cases h0 : m = 0
    · subst h0
      have HE := Lib.hid (cut_eq l 0 HD.out (Nat.zero_le _) (fun j hj h => hz.out j hj h) (.inl rfl))
      have hT := Lib.hid (HR.out.take 0 (Nat.zero_le _))
      go_wp2
      go_ret
      exact ⟨_, rfl, by rw [← HE.out]; exact hT.out, rfl⟩
    obtain ⟨q, rfl⟩ : ∃ q, m = q + 1 := ⟨m - 1, by omega⟩
    have hq : q < l.length := by omega
    obtain ⟨-, g, off, rfl, hg, hx⟩ := HR.out.cells (by omega)
    have hc := hx q hq
    clear hx h0
    by_cases hz0 : l[q] = 0
    · rw [hz0] at hc
      have HZ := Lib.hid (show ∀ j (hj : j < l.length), q ≤ j → l[j] = 0 from fun j hj h => by
        by_cases e : j = q
        · subst e; exact hz0
        · exact hz.out j hj (by omega))
      clear hz hz0
      go_wp2
      go_roundw
      case rel => exact ⟨q, by go_num, by omega, HZ, trivial⟩
      case measure => simp [intOf]
    · have HE := Lib.hid (cut_eq l (q + 1) HD.out hm (fun j hj h => hz.out j hj h) (.inr ⟨hq, hz0⟩))
      have hT := Lib.hid (HR.out.take (q + 1) hm)
      obtain ⟨x, hxx⟩ : ∃ x, x = l[q] := ⟨_, rfl⟩
      rw [← hxx] at hc hz0
      have hxi : ((x : Int) == 0) = false := by simp; omega
      clear hz hxx hz0
      go_wp2
      go_ret
      exact ⟨_, rfl, by rw [← HE.out]; exact hT.out, rfl⟩
theorem twL_len : ∀ (b : Nat) (l : List Nat), (twL b l).length ≤ l.length + 1
  | b, [] => by unfold twL; split <;> simp
  | b, d :: l => by have := twL_len ((2 * d + b) / 10) l; simp [twL]; omega
set_option maxRecDepth 100000 in
set_option maxHeartbeats 4000000 in
theorem twice_any (v : Value) (l : List Nat) (b : Nat) (hb1 : b ≤ 1) (hd : Dig l) (hl : l.length ≤ 100000) (w : World) (hr : Rd w v l) :
    Calls Tryz.prog 153 #[v, .int .i64 (b : Int)] w fun e w' => ∃ v', e = .returned v' ∧ RdP (fun g => w.heap.size ≤ g) w' v' (twL b l) ∧ Below w.heap.size w w' := by
  obtain ⟨p, cap, rfl, hcap⟩ := hr.form
  obtain ⟨B, hB⟩ : ∃ B, B = w.heap.size := ⟨_, rfl⟩
  have HB := Lib.hid hB
  have HR := Lib.hid hr
  have HD := Lib.hid hd
  clear hr hd hB
  go_enter Tryz.func153, Tryz.ntmps153
  go_wp2
  go_loopw [1, 5, 6] (fun bv v i wr => ∃ (k c : Nat) (acc : List Nat), bv = .int .i64 c ∧ c ≤ 1 ∧ k ≤ l.length ∧ i = .int .i64 k ∧ acc.length = k ∧ Hid (IBuf B v acc w wr) ∧ Hid (twL b l = acc ++ twL c (l.drop k))) (fun _ _ i _ => l.length - (intOf i).toNat)
  case atStart => exact ⟨0, b, [], rfl, hb1, Nat.zero_le _, rfl, rfl, Lib.hid (by rw [HB.out]; exact IBuf.nil w (by (repeat' (first | (with_reducible exact Below.refl _ _) | (with_reducible assumption) | (with_reducible refine Below.alloc ?_ ?_ _) | (with_reducible refine below_drewN ?_ _) | (with_reducible refine below_drew ?_) | (with_reducible refine below_ext ?_ ?_ _ _) | (with_reducible refine Below.setCell ?_ ?_ _) | (simp; done) | (simp; omega) | omega)))), Lib.hid (by rw [List.drop_zero]; rfl)⟩
  case round =>
    obtain ⟨k, c, acc, rfl, hc1, hk, rfl, hal, hb0, hT⟩ := hrel
    have hb := hb0.out
    have hbel := hb.2.1
    rw [HB.out] at hbel
    have HBE := Lib.hid hbel
    clear hbel
    by_cases hlt : k < l.length
    · have hlti : (k : Int) < l.length := by omega
      obtain ⟨-, g, off, rfl, hg, hx⟩ := (HR.out.later HBE.out).cells (by omega)
      have hc := hx k hlt
      have hx9 := HD.out.get hlt
      have hT2 := hT.out
      rw [List.drop_eq_getElem_cons hlt, twL] at hT2
      obtain ⟨x, hxx⟩ : ∃ x, x = l[k] := ⟨_, rfl⟩
      rw [← hxx] at hc hx9 hT2
      have HT2 := Lib.hid hT2
      clear hx hT2 hT hxx
      go_wp2_with (at_builtin; refine append_int rfl _ _ rfl rfl w _ ((2 * x + c) % 10) (by omega) (by assumption) rfl (by omega) ?_; intro _ _ hb)
      go_roundw
      case rel => exact ⟨k + 1, (2 * x + c) / 10, acc ++ [(2 * x + c) % 10], by go_num, by omega, by omega, by go_num, by simp [hal], Lib.hid hb, Lib.hid (by rw [HT2.out, List.append_assoc]; rfl)⟩
      case measure => simp [intOf]; omega
    · obtain rfl : k = l.length := by omega
      have hT2 := hT.out
      rw [List.drop_length, twL] at hT2
      by_cases hc0 : 0 < c
      · rw [if_pos hc0] at hT2
        have HT2 := Lib.hid hT2
        have hci : (0 : Int) < c := by omega
        clear hT2 hT hc0
        go_wp2_with (at_builtin; refine append_int rfl _ _ rfl rfl w _ c rfl (by assumption) rfl (by omega) ?_; intro _ _ hb)
        go_ret
        exact ⟨_, rfl, by rw [HT2.out, ← HB.out]; exact hb.rd, by have := hb.2.1; rw [HB.out] at this; exact this⟩
      · rw [if_neg hc0, List.append_nil] at hT2
        have HT2 := Lib.hid hT2
        obtain rfl : c = 0 := by omega
        clear hT2 hT hc0
        go_wp2
        go_ret
        exact ⟨_, rfl, by rw [HT2.out, ← HB.out]; exact hb.rd, HBE.out⟩
end Go.Proofs.YtdgdeognahmpmaaGreatDoor
namespace Go.Proofs.YtdgdeognahmpmaaGreatDoor
open Go.RowKit Num
attribute [local go_sem] setCell_drewN cell?_ext frozen?_ext shape?_ext setCell_ext lt_1' ne_1' en_1' le_1' lt_2' ne_2' en_2' le_2' lt_3' ne_3' en_3' le_3' lt_4' ne_4' en_4' le_4' lt_5' ne_5' en_5' le_5' lt_6' ne_6' en_6' le_6' lt_7' ne_7' en_7' le_7' lt_8' ne_8' en_8' le_8' lt_9' ne_9' en_9' le_9' lt_10' ne_10' en_10' le_10' lt_11' ne_11' en_11' le_11' lt_12' ne_12' en_12' le_12'

theorem IRow.made {W0 w : World} (hb : Below W0.heap.size W0 w) (n : Nat) : IRow W0 (w.alloc (.cells (madeCells #[.int .i64 0] n) 3)) w.heap.size n (fun _ => 0) := by
  refine ⟨hb.size, by rw [World.size_alloc]; omega, hb.alloc hb.size _, fun j hj => ?_, fun j hj => ?_⟩
  · rw [World.cell?_alloc_at _ _ _ _ rfl]
    simp [madeCells, hj, Nat.mod_one]
  · have h1 : (w.alloc (.cells (madeCells #[.int .i64 0] n) 3)).heap[w.heap.size]? = some (.cells (madeCells #[.int .i64 0] n) 3) := by
      show (w.heap.push _)[w.heap.size]? = _
      simp
    unfold World.frozen?
    rw [h1]
    simp
theorem make_int (n : Nat) (hn : n ≤ 1000000) : ∀ w, (Instr.makeSlice 41 (.int .i64 (n : Int)) (.int .i64 (n : Int))).run Tryz.prog w = .ok (.slice (some ⟨w.heap.size, 0, none⟩) n n) (w.alloc (.cells (madeCells #[.int .i64 0] n) 3)) :=
  fun w => run_make_row' 41 3 (.int .i64 0) 8 Tryz.underlying41 infoInt rfl .i64 .i64 n (by omega) (by omega) w
def HalfAt (l : List Nat) (j : Nat) (f : Nat → Int) : Prop := ∀ t, j ≤ t → t < l.length → f t = (((hfL (l.drop j)).1.getD (t - j) 0 : Nat) : Int)
theorem half_step {l : List Nat} {q : Nat} {f : Nat → Int} (h : HalfAt l (q + 1) f) (hq : q < l.length) (v : Int) (hv : v = (((10 * (hfL (l.drop (q + 1))).2 + l[q]) / 2 : Nat) : Int)) : HalfAt l q (upd f q v) := by
  intro t h1 h2
  rw [hfL_drop l q hq]
  unfold upd
  by_cases e : t = q
  · subst e
    rw [if_pos rfl, Nat.sub_self, hv]; rfl
  · rw [if_neg e, h t (by omega) h2]
    obtain ⟨s, rfl⟩ : ∃ s, t = q + 1 + s := ⟨t - (q + 1), by omega⟩
    rw [show q + 1 + s - (q + 1) = s by omega, show q + 1 + s - q = s + 1 by omega, List.getD_cons_succ]
set_option maxRecDepth 100000 in
set_option maxHeartbeats 4000000 in
theorem half_any (v : Value) (n : Nat) (hl : (dg n).length ≤ 100000) (w : World) (hr : Rd w v (dg n)) :
    Calls Tryz.prog 169 #[v] w fun e w' => ∃ v', e = .returned (.tuple #[v', .int .i64 ((n % 2 : Nat) : Int)]) ∧ RdP (fun g => w.heap.size ≤ g) w' v' (dg (n / 2)) ∧ Below w.heap.size w w' := by
  obtain ⟨l, hll⟩ : ∃ l, l = dg n := ⟨_, rfl⟩
  have hfin := hfL_dg n
  have hdd := dig_dg n
  rw [← hll] at hl hr hfin hdd
  obtain ⟨p, cap, rfl, hcap⟩ := hr.form
  obtain ⟨h2n, hm2⟩ := hfin
  have hmk := make_int l.length (by omega)
  have HR := Lib.hid hr
  have HD := Lib.hid hdd
  have H2 := Lib.hid h2n
  have HM := Lib.hid hm2
  have HI := Lib.hid (IRow.made (W0 := w) (w := w) (Below.refl _ _) l.length)
  clear hr hdd h2n hm2 hll
  go_enter Tryz.func169, Tryz.ntmps169
  go_wp2
  go_loopw [5, 6] (fun lv i wr => ∃ (j c : Nat) (z : Int) (f : Nat → Int), i = .int .i64 z ∧ z = (j : Int) - 1 ∧ j ≤ l.length ∧ lv = .int .i64 c ∧ c ≤ 1 ∧ Hid (c = (hfL (l.drop j)).2) ∧ Hid (HalfAt l j f) ∧ Hid (IRow w wr w.heap.size l.length f)) (fun _ i _ => (intOf i + 1).toNat)
  case atStart => exact ⟨l.length, 0, _, fun _ => 0, rfl, rfl, Nat.le_refl _, rfl, Nat.zero_le _, Lib.hid (by rw [List.drop_length]; rfl), Lib.hid (fun t h1 h2 => by omega), HI⟩
  case round =>
    obtain ⟨j, c, z, f, rfl, hz, hj, rfl, hc1, hc, hh, hi⟩ := hrel
    by_cases h0 : j = 0
    · subst h0
      have hzn : ¬ (0 : Int) ≤ z := by omega
      clear hz
      have hrd := fun cap (h : l.length ≤ cap) => hi.out.rd h (hfL l).1 (hfL_len l) (fun t ht => by
        rw [hh.out t (Nat.zero_le _) (by rw [hfL_len] at ht; exact ht), List.drop_zero, Nat.sub_zero, List.getD_eq_getElem?_getD, List.getElem?_eq_getElem ht]; rfl)
      have hcut := fun cap (h : l.length ≤ cap) => cut_any _ (hfL l).1 (hfL_dig HD.out) (by rw [hfL_len]; omega) wr (hrd cap h)
      rw [H2.out] at hcut
      have HC := Lib.hid hcut
      have hc2 := hc.out
      rw [List.drop_zero, HM.out] at hc2
      subst hc2
      have hbel := hi.out.below
      clear hcut hrd
      go_wp2_with (go_at_call 170; ((with_reducible refine (HC.out _ (Nat.le_refl _)).mono ?_); rintro e w' ⟨v', rfl, hrd, rfl⟩))
      go_ret2
      exact ⟨v', rfl, hrd.weak (fun g _ h => by rw [h]; exact Nat.le_refl _), hbel⟩
    obtain ⟨q, rfl⟩ : ∃ q, j = q + 1 := ⟨j - 1, by omega⟩
    obtain rfl : z = (q : Int) := by omega
    have hq : q < l.length := by omega
    have hqi : (q : Int) < l.length := by omega
    obtain ⟨-, g, off, rfl, hg, hx⟩ := (HR.out.later hi.out.below).cells (by omega)
    have hcell := hx q hq
    have hx9 := HD.out.get hq
    have hfree := hi.out.free q hq
    have hown := hi.out.cell q hq
    have hstep := fun v hv => half_step hh.out hq v hv
    have hnext : (10 * c + l[q]) % 2 = (hfL (l.drop q)).2 := by rw [hfL_drop l q hq, hc.out]
    rw [← hc.out] at hstep
    have hst := fun v => hi.out.store q v hq
    obtain ⟨x, hxx⟩ : ∃ x, x = l[q] := ⟨_, rfl⟩
    rw [← hxx] at hcell hx9 hstep hnext
    have HS := Lib.hid hstep; have HN := Lib.hid hnext; have HT := Lib.hid hst
    clear hx hstep hnext hst hxx h0 hc hh hi hz
    go_wp2

    go_roundw
    case rel => exact ⟨q, (10 * c + x) % 2, _, _, rfl, by omega, by omega, by go_num, by omega, HN, Lib.hid (HS.out _ (by omega)), Lib.hid (HT.out _)⟩
    case measure => simp only [intOf]; omega
end Go.Proofs.YtdgdeognahmpmaaGreatDoor
namespace Go.Proofs.YtdgdeognahmpmaaGreatDoor
open Go.RowKit Num
attribute [local go_sem] setCell_drewN cell?_ext frozen?_ext shape?_ext setCell_ext lt_1' ne_1' en_1' le_1' lt_2' ne_2' en_2' le_2' lt_3' ne_3' en_3' le_3' lt_4' ne_4' en_4' le_4' lt_5' ne_5' en_5' le_5' lt_6' ne_6' en_6' le_6' lt_7' ne_7' en_7' le_7' lt_8' ne_8' en_8' le_8' lt_9' ne_9' en_9' le_9' lt_10' ne_10' en_10' le_10' lt_11' ne_11' en_11' le_11' lt_12' ne_12' en_12' le_12'

/-- the slice v reads, in w, as the words of this number -/
def Ws (w : World) (v : Value) (n N : Nat) : Prop := ∃ g cap, v = .slice (some ⟨g, 0, none⟩) n cap ∧ g < w.heap.size ∧ ∀ j, j < n → w.cell? ⟨g, j, none⟩ = some (.int .u64 ((N / 2 ^ (64 * j) % 18446744073709551616 : Nat) : Int))
theorem bit_at (N i k : Nat) (hk : k < 64) : N / 2 ^ (64 * i) % 18446744073709551616 / 2 ^ k % 2 = N / 2 ^ (64 * i + k) % 2 := by
  have e : (18446744073709551616 : Nat) = 2 ^ k * 2 ^ (64 - k) := by rw [← Nat.pow_add, show k + (64 - k) = 64 by omega]
  rw [e, Nat.mod_mul_right_div_self, Nat.pow_add, ← Nat.div_div_eq_div_mul]
  have h2 : 2 ^ (64 - k) = 2 * 2 ^ (63 - k) := by rw [← Nat.pow_succ']; congr 1; omega
  rw [h2, Nat.mod_mul_right_mod]
theorem bit_step (N p : Nat) : N / 2 ^ p = 2 * (N / 2 ^ (p + 1)) + N / 2 ^ p % 2 := by
  rw [Nat.pow_succ, ← Nat.div_div_eq_div_mul]; omega
theorem and_one (a : Nat) (ha : a < 18446744073709551616) : bits .and .u64 (a : Int) 1 = ((a % 2 : Nat) : Int) := by
  have h := bits_and_u64_nat a 1 ha (by omega)
  rw [Nat.and_one_is_mod] at h
  exact h
set_option maxRecDepth 100000 in
set_option maxHeartbeats 4000000 in
theorem words_any (v : Value) (n N : Nat) (hn : n ≤ 4) (hN : N < 2 ^ (64 * n)) (w : World) (hr : Ws w v n N) :
    Calls Tryz.prog 135 #[v] w fun e w' => ∃ v', e = .returned v' ∧ RdP (fun g => w.heap.size ≤ g) w' v' (dg N) ∧ Below w.heap.size w w' := by
  obtain ⟨g, cap, rfl, hg, hx⟩ := hr
  have HX := Lib.hid hx
  clear hx
  go_enter Tryz.func135, Tryz.ntmps135
  go_wp2
  go_loopw [3, 4] (fun d i wr => ∃ (j : Nat) (z : Int), i = .int .i64 z ∧ z = (j : Int) - 1 ∧ j ≤ n ∧ Hid (RdP (fun g => w.heap.size ≤ g) wr d (dg (N / 2 ^ (64 * j)))) ∧ Hid (Below w.heap.size w wr)) (fun _ i _ => (intOf i + 1).toNat)
  case atStart => exact ⟨n, _, rfl, rfl, Nat.le_refl _, Lib.hid (by rw [Nat.div_eq_of_lt hN, dg_zero]; exact RdP.nil w), Lib.hid (by (repeat' (first | (with_reducible exact Below.refl _ _) | (with_reducible assumption) | (with_reducible refine Below.alloc ?_ ?_ _) | (with_reducible refine below_drewN ?_ _) | (with_reducible refine below_drew ?_) | (with_reducible refine below_ext ?_ ?_ _ _) | (with_reducible refine Below.setCell ?_ ?_ _) | (simp; done) | (simp; omega) | omega)))⟩
  case round =>
    obtain ⟨j, z, rfl, hz, hj, hd, hbel⟩ := hrel
    by_cases h0 : j = 0
    · subst h0
      have hzn : ¬ (0 : Int) ≤ z := by omega
      have hd2 := hd.out
      rw [Nat.mul_zero, Nat.pow_zero, Nat.div_one] at hd2
      have HD := Lib.hid hd2
      clear hz hd2 hd
      go_wp2
      go_ret
      exact ⟨_, rfl, HD.out, hbel.out⟩
    obtain ⟨q, rfl⟩ : ∃ q, j = q + 1 := ⟨j - 1, by omega⟩
    obtain rfl : z = (q : Int) := by omega
    have hq : q < n := by omega
    have hqi : (q : Int) < n := by omega
    clear hz h0
    go_wp2
    go_loopw [3, 5] (fun d i wr2 => ∃ (m : Nat) (z : Int), i = .int .i64 z ∧ z = (m : Int) - 1 ∧ m ≤ 64 ∧ Hid (RdP (fun g => w.heap.size ≤ g) wr2 d (dg (N / 2 ^ (64 * q + m)))) ∧ Hid (Below w.heap.size w wr2)) (fun _ i _ => (intOf i + 1).toNat)
    case atStart => exact ⟨64, _, rfl, rfl, Nat.le_refl _, Lib.hid hd.out, hbel⟩
    case round =>
      obtain ⟨m, z, rfl, hz, hm, hd2, hbel2⟩ := hrel
      by_cases h0 : m = 0
      · subst h0
        have hzn : ¬ (0 : Int) ≤ z := by omega
        clear hz hd hbel
        go_wp2
        go_roundw
        case rel => exact ⟨q, _, rfl, rfl, by omega, hd2, hbel2⟩
        case measure => simp only [intOf]; omega
      obtain ⟨k, rfl⟩ : ∃ k, m = k + 1 := ⟨m - 1, by omega⟩
      obtain rfl : z = (k : Int) := by omega
      have hk : k < 64 := by omega
      have hki : (k : Int) < 64 := by omega
      have hcell : _ = _ := (hbel2.out.cell (p := ⟨g, q, none⟩) hg).trans (HX.out q hq)
      have hbit := bit_at N q k hk
      have hst := bit_step N (64 * q + k)
      obtain ⟨x, hxx⟩ : ∃ x, x = N / 2 ^ (64 * q) % 18446744073709551616 := ⟨_, rfl⟩
      rw [← hxx] at hcell hbit
      have hxl : x < 18446744073709551616 := by omega
      obtain ⟨b, hbb⟩ : ∃ b, b = x / 2 ^ k % 2 := ⟨_, rfl⟩
      have hb1 : b ≤ 1 := by omega
      have E1 : bits .and .u64 ((x : Int) / 2 ^ k) 1 = (b : Int) := by
        have h := and_one (x / 2 ^ k) (Nat.lt_of_le_of_lt (Nat.div_le_self _ _) hxl)
        rw [← hbb] at h
        rw [← h, Int.natCast_ediv, Int.natCast_pow]; rfl
      have W1 : wrap64 (b : Int) = (b : Int) := by unfold wrap64; omega
      rw [← hbb] at hbit
      rw [← hbit] at hst
      have hlen : (dg (N / 2 ^ (64 * q + (k + 1)))).length ≤ 100 := dg_len_le.2 (Nat.lt_of_le_of_lt (Nat.div_le_self _ _) (Nat.lt_of_lt_of_le hN (Nat.le_trans (Nat.pow_le_pow_right (by decide) (show 64 * n ≤ 256 by omega)) (by decide))))
      have htw := twice_any _ (dg (N / 2 ^ (64 * q + (k + 1)))) b hb1 (dig_dg _) (by omega) wr hd2.out.rd
      rw [twL_dg _ _ hb1, show 64 * q + (k + 1) = 64 * q + k + 1 by omega, ← hst] at htw
      have HT := Lib.hid htw
      clear hz h0 hd hbel hxx hbb htw hst hlen hd2 hbit
      go_wp2_with (go_at_call 153; ((with_reducible refine (HT.out).mono ?_); rintro e w' ⟨v', rfl, hrd, hb2⟩))
      go_roundw
      case rel => exact ⟨k, _, rfl, by omega, by omega, Lib.hid (hrd.weak fun g _ h => Nat.le_trans hbel2.out.size h), Lib.hid (hbel2.out.trans ⟨hb2.os, hb2.tape, hb2.output, hb2.size, fun k hk => hb2.block k (Nat.lt_of_lt_of_le hk hbel2.out.size)⟩)⟩
      case measure => simp only [intOf]; omega
end Go.Proofs.YtdgdeognahmpmaaGreatDoor
namespace Go.Proofs.YtdgdeognahmpmaaGreatDoor
open Go.RowKit Num Word
attribute [local go_sem] setCell_drewN cell?_ext frozen?_ext shape?_ext setCell_ext lt_1' ne_1' en_1' le_1' lt_2' ne_2' en_2' le_2' lt_3' ne_3' en_3' le_3' lt_4' ne_4' en_4' le_4' lt_5' ne_5' en_5' le_5' lt_6' ne_6' en_6' le_6' lt_7' ne_7' en_7' le_7' lt_8' ne_8' en_8' le_8' lt_9' ne_9' en_9' le_9' lt_10' ne_10' en_10' le_10' lt_11' ne_11' en_11' le_11' lt_12' ne_12' en_12' le_12'

theorem ws_lit (w : World) (n N : Nat) (C : Array Value) (hC : ∀ j, j < n → C[j]? = some (.int .u64 ((N / 2 ^ (64 * j) % 18446744073709551616 : Nat) : Int))) : Ws (w.alloc (.cells C 28)) (.slice (some ⟨w.heap.size, 0, none⟩) n n) n N := by
  refine ⟨w.heap.size, n, rfl, by rw [World.size_alloc]; omega, fun j hj => ?_⟩
  rw [World.cell?_alloc_at _ _ _ _ rfl]
  exact hC j hj
theorem ws_lit2 (w : World) (o : Obj) (n N : Nat) (C : Array Value) (hC : ∀ j, j < n → C[j]? = some (.int .u64 ((N / 2 ^ (64 * j) % 18446744073709551616 : Nat) : Int))) : Ws ((w.alloc o).alloc (.cells C 28)) (.slice (some ⟨w.heap.size + 1, 0, none⟩) n n) n N := by
  have h := ws_lit (w.alloc o) n N C hC
  rw [World.size_alloc] at h
  exact h
theorem more {w w1 w2 : World} (h : Below w.heap.size w w1) (h2 : Below w1.heap.size w1 w2) : Below w.heap.size w w2 :=
  h.trans ⟨h2.os, h2.tape, h2.output, h2.size, fun k hk => h2.block k (Nat.lt_of_lt_of_le hk h.size)⟩
set_option maxHeartbeats 4000000 in
theorem of_any (n : Nat) (hn : n < 340282366920938463463374607431768211456) (w : World) :
    Calls Tryz.prog 107 #[W n] w fun e w' => ∃ v', e = .returned v' ∧ RdP (fun g => w.heap.size ≤ g) w' v' (dg n) ∧ Below w.heap.size w w' := by
  obtain ⟨a, ha⟩ : ∃ a, a = hi n := ⟨_, rfl⟩
  obtain ⟨b, hb⟩ : ∃ b, b = lo n := ⟨_, rfl⟩
  have hws := ws_lit2 w (.cells #[.int .u64 (a : Int), .int .u64 (b : Int)] 30) 2 n #[.int .u64 (b : Int), .int .u64 (a : Int)] (fun j hj => by
    rcases (show j = 0 ∨ j = 1 by omega) with rfl | rfl
    · simp [hb, lo]
    · have e : n / 18446744073709551616 % 18446744073709551616 = hi n := by unfold hi; omega
      show some (Value.int .u64 (a : Int)) = some (.int .u64 ((n / 18446744073709551616 % 18446744073709551616 : Nat) : Int))
      rw [e, ha])
  have hbel : Below w.heap.size w ((w.alloc (.cells #[.int .u64 (a : Int), .int .u64 (b : Int)] 30)).alloc (.cells #[.int .u64 (b : Int), .int .u64 (a : Int)] 28)) := by (repeat' (first | (with_reducible exact Below.refl _ _) | (with_reducible assumption) | (with_reducible refine Below.alloc ?_ ?_ _) | (with_reducible refine below_drewN ?_ _) | (with_reducible refine below_drew ?_) | (with_reducible refine below_ext ?_ ?_ _ _) | (with_reducible refine Below.setCell ?_ ?_ _) | (simp; done) | (simp; omega) | omega))
  have HB := Lib.hid hbel
  have HW := Lib.hid (words_any _ 2 n (by decide) hn _ hws)
  show Calls Tryz.prog 107 #[.agg #[.int .u64 (hi n : Int), .int .u64 (lo n : Int)]] w _
  rw [← ha, ← hb]
  clear hws hbel ha hb
  go_enter Tryz.func107, Tryz.ntmps107
  go_wp2_with (go_at_call 135; ((with_reducible refine (HW.out).mono ?_); rintro e w' ⟨v', rfl, hrd, hb2⟩))
  go_ret
  exact ⟨_, rfl, hrd.weak (fun g _ h => Nat.le_trans HB.out.size h), more HB.out hb2⟩
end Go.Proofs.YtdgdeognahmpmaaGreatDoor
namespace Go.Proofs.YtdgdeognahmpmaaGreatDoor
open Go.RowKit Num Word
attribute [local go_sem] setCell_drewN cell?_ext frozen?_ext shape?_ext setCell_ext lt_1' ne_1' en_1' le_1' lt_2' ne_2' en_2' le_2' lt_3' ne_3' en_3' le_3' lt_4' ne_4' en_4' le_4' lt_5' ne_5' en_5' le_5' lt_6' ne_6' en_6' le_6' lt_7' ne_7' en_7' le_7' lt_8' ne_8' en_8' le_8' lt_9' ne_9' en_9' le_9' lt_10' ne_10' en_10' le_10' lt_11' ne_11' en_11' le_11' lt_12' ne_12' en_12' le_12'

/-- a block of the call's own holds four words, and may be written -/
structure U4 (W0 w : World) (g : Nat) (f : Nat → Nat) : Prop where
  own : W0.heap.size ≤ g
  lt : g < w.heap.size
  cell : ∀ j, j < 4 → w.cell? ⟨g, j, none⟩ = some (.int .u64 (f j : Int))
  free : ∀ j, j < 4 → w.frozen? ⟨g, j, none⟩ = false
theorem U4.later {W0 w w' : World} {g : Nat} {f : Nat → Nat} (h : U4 W0 w g f) (hb : Below w.heap.size w w') : U4 W0 w' g f :=
  ⟨h.own, Nat.lt_of_lt_of_le h.lt hb.size, fun j hj => by rw [← h.cell j hj]; exact (bcell hb).1 g j h.lt, fun j hj => by rw [← h.free j hj]; exact (bcell hb).2 g j h.lt⟩
theorem U4.store {W0 w : World} {g : Nat} {f : Nat → Nat} (h : U4 W0 w g f) (k v : Nat) (hk : k < 4) : U4 W0 (w.setCell ⟨g, k, none⟩ (.int .u64 (v : Int))) g (fun j => if j = k then v else f j) := by
  refine ⟨h.own, by rw [World.size_setCell]; exact h.lt, fun j hj => ?_, fun j hj => by rw [World.frozen?_setCell]; exact h.free j hj⟩
  by_cases e : j = k
  · subst e
    rw [World.cell?_setCell_same w _ _ (h.cell j hj)]
    simp
  · rw [World.cell?_setCell_other w _ _ _ (by intro e2; injection e2 with _ e3 _; exact e e3.symm), h.cell j hj]
    simp [e]
theorem U4.drew {W0 w : World} {g : Nat} {f : Nat → Nat} (h : U4 W0 w g f) : U4 W0 w.drew g f := ⟨h.own, h.lt, h.cell, h.free⟩
theorem U4.congr {W0 w : World} {g : Nat} {f f' : Nat → Nat} (h : U4 W0 w g f) (he : ∀ j, f j = f' j) : U4 W0 w g f' := by
  rw [← show f = f' from funext he]; exact h
theorem U4.other {W0 w : World} {g g' : Nat} {f : Nat → Nat} (h : U4 W0 w g f) (k : Nat) (v : Value) (hg : g ≠ g') : U4 W0 (w.setCell ⟨g', k, none⟩ v) g f := by
  refine ⟨h.own, by rw [World.size_setCell]; exact h.lt, fun j hj => ?_, fun j hj => by rw [World.frozen?_setCell]; exact h.free j hj⟩
  rw [World.cell?_setCell_other w _ _ _ (by intro e2; injection e2 with e3; exact hg e3.symm), h.cell j hj]
theorem two_blocks (w : World) (A B : Obj) : ((w.alloc A).alloc B).heap[w.heap.size]? = some A ∧ ((w.alloc A).alloc B).heap[w.heap.size + 1]? = some B := by
  constructor
  · show ((w.heap.push A).push B)[w.heap.size]? = _
    simp [Array.getElem?_push]
  · show ((w.heap.push A).push B)[w.heap.size + 1]? = _
    rw [show w.heap.size + 1 = (w.heap.push A).size by simp, Array.getElem?_push_size]
/-- the words of a number -/
def wv (X j : Nat) : Nat := X / 2 ^ (64 * j) % 18446744073709551616
theorem wv_zero (j : Nat) : wv 0 j = 0 := by simp [wv]
theorem wv_bound (X j : Nat) : wv X j < 18446744073709551616 := Nat.mod_lt _ (by decide)
theorem or_add (a b r : Nat) (ha : a < 2 ^ r) : a ||| b * 2 ^ r = a + b * 2 ^ r := by
  have h := Nat.two_pow_add_eq_or_of_lt (i := r) (b := a) ha b
  rw [Nat.or_comm, Nat.mul_comm, ← h, Nat.add_comm]
theorem mod_bit (n i : Nat) : n % 2 ^ (i + 1) = n % 2 ^ i + n / 2 ^ i % 2 * 2 ^ i := by
  rw [Nat.pow_succ, Nat.mod_mul, Nat.mul_comm (2 ^ i) (n / 2 ^ i % 2)]
theorem wv_low (n q r : Nat) : wv (n % 2 ^ (64 * q + r)) q < 2 ^ r := by
  unfold wv
  have h1 : n % 2 ^ (64 * q + r) / 2 ^ (64 * q) < 2 ^ r := by
    rw [Nat.div_lt_iff_lt_mul (Nat.pow_pos (by decide)), ← Nat.pow_add, Nat.add_comm r]
    exact Nat.mod_lt _ (Nat.pow_pos (by decide))
  exact Nat.lt_of_le_of_lt (Nat.mod_le _ _) h1
theorem wv_step (n q r j : Nat) (hr : r < 64) : wv (n % 2 ^ (64 * q + r + 1)) j = if j = q then wv (n % 2 ^ (64 * q + r)) q + n / 2 ^ (64 * q + r) % 2 * 2 ^ r else wv (n % 2 ^ (64 * q + r)) j := by
  have hb : n / 2 ^ (64 * q + r) % 2 ≤ 1 := by omega
  have hX := Nat.mod_lt n (show 0 < 2 ^ (64 * q + r) from Nat.pow_pos (by decide))
  have hlow := wv_low n q r
  rw [mod_bit]
  generalize n / 2 ^ (64 * q + r) % 2 = b at *
  generalize n % 2 ^ (64 * q + r) = X at *
  have h64 : (18446744073709551616 : Nat) = 2 ^ 64 := by decide
  by_cases hjq : j = q
  · subst hjq
    rw [if_pos rfl]
    unfold wv at *
    have e1 : X + b * 2 ^ (64 * j + r) = X + (b * 2 ^ r) * 2 ^ (64 * j) := by rw [Nat.pow_add]; congr 1; rw [Nat.mul_comm (2 ^ (64 * j)), Nat.mul_assoc]
    rw [e1, Nat.add_mul_div_right _ _ (Nat.pow_pos (by decide))]
    have h1 : X / 2 ^ (64 * j) < 2 ^ r := by
      rw [Nat.div_lt_iff_lt_mul (Nat.pow_pos (by decide)), ← Nat.pow_add, Nat.add_comm r]; exact hX
    have h2 : 2 ^ r * 2 ≤ 2 ^ 64 := by rw [← Nat.pow_succ]; exact Nat.pow_le_pow_right (by decide) hr
    have h3 : b * 2 ^ r ≤ 1 * 2 ^ r := Nat.mul_le_mul_right _ hb
    rw [← h64] at h2
    generalize b * 2 ^ r = y at *
    generalize 2 ^ r = z at *
    rw [Nat.mod_eq_of_lt (show X / 2 ^ (64 * j) + y < 18446744073709551616 by omega), Nat.mod_eq_of_lt (show X / 2 ^ (64 * j) < 18446744073709551616 by omega)]
  · rw [if_neg hjq]
    unfold wv
    by_cases hlt : j < q
    · have e1 : X + b * 2 ^ (64 * q + r) = X + (b * 2 ^ (64 * q + r - 64 * j - 64) * 2 ^ 64) * 2 ^ (64 * j) := by
        congr 1
        rw [Nat.mul_assoc, Nat.mul_assoc, ← Nat.pow_add, ← Nat.pow_add]
        congr 2; omega
      rw [e1, Nat.add_mul_div_right _ _ (Nat.pow_pos (by decide)), h64, Nat.add_mul_mod_self_right]
    · have h1 : 2 ^ (64 * q + r + 1) ≤ 2 ^ (64 * j) := Nat.pow_le_pow_right (by decide) (by omega)
      have h3 : b * 2 ^ (64 * q + r) ≤ 1 * 2 ^ (64 * q + r) := Nat.mul_le_mul_right _ hb
      rw [Nat.pow_succ] at h1
      generalize b * 2 ^ (64 * q + r) = y at *
      generalize 2 ^ (64 * q + r) = z at *
      rw [Nat.div_eq_of_lt (show X + y < 2 ^ (64 * j) by omega), Nat.div_eq_of_lt (show X < 2 ^ (64 * j) by omega)]
theorem dg_len_mono {m n : Nat} (h : m ≤ n) : (dg m).length ≤ (dg n).length := dg_len_le.2 (Nat.lt_of_le_of_lt h (dg_len_le.1 (Nat.le_refl _)))
theorem or_u64 (a b r : Nat) (ha : a < 2 ^ r) (hb : b ≤ 1) (hr : r < 64) : bits .or .u64 (a : Int) ((b * 2 ^ r : Nat) : Int) = ((a + b * 2 ^ r : Nat) : Int) := by
  have h2 : 2 ^ r * 2 ≤ 2 ^ 64 := by rw [← Nat.pow_succ]; exact Nat.pow_le_pow_right (by decide) hr
  have h3 : b * 2 ^ r ≤ 1 * 2 ^ r := Nat.mul_le_mul_right _ hb
  have h := bits_or_u64_nat a (b * 2 ^ r) (by omega) (by omega)
  rw [or_add a b r ha] at h
  exact h
set_option maxRecDepth 100000 in
set_option maxHeartbeats 8000000 in
theorem toLong_any (v : Value) (n : Nat) (hl : (dg n).length ≤ 100000) (w : World) (hr : Rd w v (dg n)) :
    Calls Tryz.prog 152 #[v] w fun e w' => e = .returned (.tuple #[L (n % top4), .bool (decide (n < top4))]) ∧ Below w.heap.size w w' := by
  obtain ⟨p, cap, rfl, hcap⟩ := hr.form
  have HR := Lib.hid hr
  clear hr
  go_enter Tryz.func152, Tryz.ntmps152
  go_wp2
  go_loopw [0, 5] (fun d i wr => ∃ (k : Nat), i = .int .i64 k ∧ k ≤ 256 ∧ Hid (RdP (fun g => g ≠ w.heap.size + 1) wr d (dg (n / 2 ^ k))) ∧ Hid (U4 w wr w.heap.size (fun _ => 0)) ∧ Hid (U4 w wr (w.heap.size + 1) (wv (n % 2 ^ k))) ∧ Hid (Below w.heap.size w wr)) (fun _ i _ => 256 - (intOf i).toNat)
  case atStart =>
    refine ⟨0, rfl, Nat.zero_le _, Lib.hid ?_, Lib.hid ?_, Lib.hid ?_, Lib.hid (by (repeat' (first | (with_reducible exact Below.refl _ _) | (with_reducible assumption) | (with_reducible refine Below.alloc ?_ ?_ _) | (with_reducible refine below_drewN ?_ _) | (with_reducible refine below_drew ?_) | (with_reducible refine below_ext ?_ ?_ _ _) | (with_reducible refine Below.setCell ?_ ?_ _) | (simp; done) | (simp; omega) | omega)))⟩
    · rw [Nat.pow_zero, Nat.div_one]
      exact ((HR.out.old).weak (fun g _ h => by omega)).later (by (repeat' (first | (with_reducible exact Below.refl _ _) | (with_reducible assumption) | (with_reducible refine Below.alloc ?_ ?_ _) | (with_reducible refine below_drewN ?_ _) | (with_reducible refine below_drew ?_) | (with_reducible refine below_ext ?_ ?_ _ _) | (with_reducible refine Below.setCell ?_ ?_ _) | (simp; done) | (simp; omega) | omega)))
    · refine ⟨Nat.le_refl _, by simp only [World.size_alloc]; omega, fun j hj => ?_, fun j hj => ?_⟩
      · rcases (show j = 0 ∨ j = 1 ∨ j = 2 ∨ j = 3 by omega) with rfl | rfl | rfl | rfl <;> (simp [go_sem])
      · exact Joins.unfrozen_of_block (two_blocks w _ _).1 j
    · refine ⟨by omega, by simp only [World.size_alloc]; omega, fun j hj => ?_, fun j hj => ?_⟩
      · rw [Nat.pow_zero, Nat.mod_one, wv_zero]
        rcases (show j = 0 ∨ j = 1 ∨ j = 2 ∨ j = 3 by omega) with rfl | rfl | rfl | rfl <;> (simp [go_sem])
      · exact Joins.unfrozen_of_block (two_blocks w _ _).2 j
  case round =>
    obtain ⟨k, rfl, hk, hd, h0, h1, hbel⟩ := hrel
    by_cases hlt : k < 256
    · have hlti : (k : Int) < 256 := by omega
      have hlen := Nat.le_trans (dg_len_mono (Nat.div_le_self n (2 ^ k))) hl
      have hhf := half_any _ (n / 2 ^ k) hlen wr hd.out.rd
      obtain ⟨b, hbb⟩ : ∃ b, b = n / 2 ^ k % 2 := ⟨_, rfl⟩
      have hb1 : b ≤ 1 := by omega
      obtain ⟨q, hq⟩ : ∃ q, q = k / 64 := ⟨_, rfl⟩
      obtain ⟨r, hr⟩ : ∃ r, r = k % 64 := ⟨_, rfl⟩
      have hkq : 64 * q + r = k := by omega
      have hq4 : q < 4 := by omega
      have hr64 : r < 64 := by omega
      have E1 : (k : Int) / 64 = (q : Int) := by omega
      have E2 : (k : Int) % 64 = (r : Int) := by omega
      have hlow := wv_low n q r
      have hstep := fun j => wv_step n q r j hr64
      rw [hkq, ← hbb] at hstep
      rw [hkq] at hlow
      obtain ⟨x, hxx⟩ : ∃ x, x = wv (n % 2 ^ k) q := ⟨_, rfl⟩
      have hor := or_u64 x b r (by rw [hxx]; exact hlow) hb1 hr64
      rw [← hbb] at hhf
      have hb2r : b * 2 ^ r < 18446744073709551616 := by
        have h3 : b * 2 ^ r ≤ 1 * 2 ^ r := Nat.mul_le_mul_right _ hb1
        have h4 : 2 ^ r < 2 ^ 64 := Nat.pow_lt_pow_right (by decide) hr64
        have : (2 : Nat) ^ 64 = 18446744073709551616 := by decide
        omega
      have HH := Lib.hid hhf
      have HX := Lib.hid hxx
      have HS := Lib.hid hstep
      have HQ := Lib.hid hkq
      obtain ⟨y, hy⟩ : ∃ y, y = b * 2 ^ r := ⟨_, rfl⟩
      have W1 : IntKind.u64.wrap ((b : Int) * 2 ^ r) = (y : Int) := by
        rw [show ((b : Int) * 2 ^ r) = ((b * 2 ^ r : Nat) : Int) by push_cast; rfl, IntKind.wrap_u64, ← hy]
        rw [← hy] at hb2r
        omega
      rw [← hy] at hor
      have HY := Lib.hid hy
      clear hhf hlen hbb hq hr hkq hlow hstep hxx hb2r hy hd
      go_wp2_with (first
        | (go_at_call 169; ((with_reducible refine (HH.out).mono ?_); rintro e w' ⟨v', rfl, hrd, hb2⟩; have hc := (h1.out.later hb2).cell q hq4; have hf := (h1.out.later hb2).free q hq4; rw [← HX.out] at hc))
        )
      go_region
      go_wp2
      go_roundw
      case rel =>
        refine ⟨k + 1, by go_num, by omega, Lib.hid ?_, Lib.hid ?_, Lib.hid ?_, Lib.hid ?_⟩
        · have h := (hrd.weak (Q := fun g => g ≠ w.heap.size + 1) (fun g _ h => by have := h1.out.lt; omega)).store (w.heap.size + 1) q (.int .u64 ((x : Int) + (y : Int))) (fun g h => h)
          rw [Nat.div_div_eq_div_mul, ← Nat.pow_succ] at h
          exact h
        · exact ((h0.out.later hb2).other q _ (Nat.ne_of_lt (Nat.lt_succ_self _))).drew
        · have h := ((h1.out.later hb2).store q (x + y) hq4).congr (f' := wv (n % 2 ^ (k + 1))) (fun j => by rw [HS.out j, HY.out, HX.out])
          rw [Int.natCast_add] at h
          exact h.drew
        · exact below_drew ((more hbel.out hb2).setCell (p := ⟨w.heap.size + 1, q, none⟩) (by show w.heap.size ≤ w.heap.size + 1; omega) _)
      case measure => simp only [intOf]; omega
    · obtain rfl : k = 256 := by omega
      have hd2 := hd.out
      obtain ⟨m, hm⟩ : ∃ m, m = dg (n / 2 ^ 256) := ⟨_, rfl⟩
      rw [← hm] at hd2
      obtain ⟨p2, cap2, rfl, -⟩ := hd2.form
      have hlenz : ((m.length : Int) == 0) = decide (n < top4) := by
        have e : m.length = 0 ↔ n < top4 := by
          rw [hm, ← Nat.le_zero_eq, dg_len_le, Nat.pow_zero, Nat.lt_one_iff, Nat.div_eq_zero_iff]
          have : (2 : Nat) ^ 256 = top4 := by decide
          rw [this]
          exact ⟨fun h => h.resolve_left (by unfold top4; omega), .inr⟩
        by_cases hc : m.length = 0
        · rw [decide_eq_true (e.1 hc), hc]; rfl
        · rw [decide_eq_false (fun h => hc (e.2 h))]
          exact beq_eq_false_iff_ne.2 (by omega)
      have hX : n % 2 ^ 256 = n % top4 := by rw [show (2 : Nat) ^ 256 = top4 by decide]
      have c0 := h1.out.cell 0 (by decide); have c1 := h1.out.cell 1 (by decide); have c2 := h1.out.cell 2 (by decide); have c3 := h1.out.cell 3 (by decide)
      have z0 := h0.out.cell 0 (by decide); have z1 := h0.out.cell 1 (by decide); have z2 := h0.out.cell 2 (by decide); have z3 := h0.out.cell 3 (by decide)
      have y0 := h0.out.free 0 (by decide); have y1 := h0.out.free 1 (by decide); have y2 := h0.out.free 2 (by decide); have y3 := h0.out.free 3 (by decide)
      rw [hX] at c0 c1 c2 c3
      have e0 : wv (n % top4) 0 = w0 (n % top4) := by simp [wv, w0]
      have e1 : wv (n % top4) 1 = w1 (n % top4) := by simp [wv, w1]
      have e2 : wv (n % top4) 2 = w2 (n % top4) := by simp [wv, w2]
      have e3 : wv (n % top4) 3 = w3 (n % top4) := by simp [wv, w3]
      rw [e0] at c0; rw [e1] at c1; rw [e2] at c2; rw [e3] at c3
      obtain ⟨a0, ha0⟩ : ∃ a, a = w0 (n % top4) := ⟨_, rfl⟩
      obtain ⟨a1, ha1⟩ : ∃ a, a = w1 (n % top4) := ⟨_, rfl⟩
      obtain ⟨a2, ha2⟩ : ∃ a, a = w2 (n % top4) := ⟨_, rfl⟩
      obtain ⟨a3, ha3⟩ : ∃ a, a = w3 (n % top4) := ⟨_, rfl⟩
      obtain ⟨ok, hok⟩ : ∃ a, a = decide (n < top4) := ⟨_, rfl⟩
      rw [← ha0] at c0; rw [← ha1] at c1; rw [← ha2] at c2; rw [← ha3] at c3
      rw [← hok] at hlenz
      have hfin : Hid ((.tuple #[L (n % top4), .bool (decide (n < top4))] : Value) = .tuple #[.agg #[.int .u64 (a0 : Int), .int .u64 (a1 : Int), .int .u64 (a2 : Int), .int .u64 (a3 : Int)], .bool ok]) := Lib.hid (by rw [ha0, ha1, ha2, ha3, hok])
      have s0 : (wr.setCell ⟨w.heap.size, 0, none⟩ (.int .u64 (a0 : Int))).cell? ⟨w.heap.size, 0, none⟩ = some (.int .u64 (a0 : Int)) := World.cell?_setCell_same _ _ _ z0
      have s1 : ((wr.setCell ⟨w.heap.size, 0, none⟩ (.int .u64 (a0 : Int))).setCell ⟨w.heap.size, 1, none⟩ (.int .u64 (a1 : Int))).cell? ⟨w.heap.size, 1, none⟩ = some (.int .u64 (a1 : Int)) := World.cell?_setCell_same _ _ _ ((World.cell?_setCell_other _ _ _ _ (by intro e2; injection e2 with _ e3; exact absurd e3 (by decide))).trans z1)
      have s2 : (((wr.setCell ⟨w.heap.size, 0, none⟩ (.int .u64 (a0 : Int))).setCell ⟨w.heap.size, 1, none⟩ (.int .u64 (a1 : Int))).setCell ⟨w.heap.size, 2, none⟩ (.int .u64 (a2 : Int))).cell? ⟨w.heap.size, 2, none⟩ = some (.int .u64 (a2 : Int)) := World.cell?_setCell_same _ _ _ ((World.cell?_setCell_other _ _ _ _ (by intro e2; injection e2 with _ e3; exact absurd e3 (by decide))).trans ((World.cell?_setCell_other _ _ _ _ (by intro e2; injection e2 with _ e3; exact absurd e3 (by decide))).trans z2))
      have s3 : ((((wr.setCell ⟨w.heap.size, 0, none⟩ (.int .u64 (a0 : Int))).setCell ⟨w.heap.size, 1, none⟩ (.int .u64 (a1 : Int))).setCell ⟨w.heap.size, 2, none⟩ (.int .u64 (a2 : Int))).setCell ⟨w.heap.size, 3, none⟩ (.int .u64 (a3 : Int))).cell? ⟨w.heap.size, 3, none⟩ = some (.int .u64 (a3 : Int)) := World.cell?_setCell_same _ _ _ ((World.cell?_setCell_other _ _ _ _ (by intro e2; injection e2 with _ e3; exact absurd e3 (by decide))).trans ((World.cell?_setCell_other _ _ _ _ (by intro e2; injection e2 with _ e3; exact absurd e3 (by decide))).trans ((World.cell?_setCell_other _ _ _ _ (by intro e2; injection e2 with _ e3; exact absurd e3 (by decide))).trans z3)))
      clear e0 e1 e2 e3 ha0 ha1 ha2 ha3 hok hX hm hd hd2
      go_wp2
      refine bodyPost_ret (by simp [results, Tryz.results152, go_sem, s0, s1, s2, s3]; try rfl) rfl ?_
      refine ⟨by rw [hfin.out], ?_⟩
      have hb := hbel.out
      exact (((hb.setCell (p := ⟨w.heap.size, 0, none⟩) (Nat.le_refl _) _).setCell (p := ⟨w.heap.size, 1, none⟩) (Nat.le_refl _) _).setCell (p := ⟨w.heap.size, 2, none⟩) (Nat.le_refl _) _).setCell (p := ⟨w.heap.size, 3, none⟩) (Nat.le_refl _) _
theorem to_hi (n : Nat) : hi (n % top2) = w1 (n % top4) := by unfold hi w1 top2 top4; omega
theorem to_lo (n : Nat) : lo (n % top2) = w0 (n % top4) := by unfold lo w0 top2 top4; omega
set_option maxRecDepth 100000 in
set_option maxHeartbeats 8000000 in
theorem to_walk (v : Value) (a0 a1 a2 a3 : Nat) (ok : Bool) (w : World) (hk : ∀ w1, Below w.heap.size w w1 → Calls Tryz.prog 152 #[v] w1 fun e w' => e = .returned (.tuple #[.agg #[.int .u64 (a0 : Int), .int .u64 (a1 : Int), .int .u64 (a2 : Int), .int .u64 (a3 : Int)], .bool ok]) ∧ Below w1.heap.size w1 w') :
    Calls Tryz.prog 134 #[v] w fun e w' => e = .returned (.tuple #[.agg #[.int .u64 (a1 : Int), .int .u64 (a0 : Int)], .bool (ok && decide (a2 = 0) && decide (a3 = 0))]) ∧ Below w.heap.size w w' := by
  have HK := Lib.hid hk
  clear hk
  cases ok with
  | false =>
    go_enter Tryz.func134, Tryz.ntmps134
    go_wp2_with (go_at_call 152; ((with_reducible refine (HK.out _ (by (repeat' (first | (with_reducible exact Below.refl _ _) | (with_reducible assumption) | (with_reducible refine Below.alloc ?_ ?_ _) | (with_reducible refine below_drewN ?_ _) | (with_reducible refine below_drew ?_) | (with_reducible refine below_ext ?_ ?_ _ _) | (with_reducible refine Below.setCell ?_ ?_ _) | (simp; done) | (simp; omega) | omega)))).mono ?_); rintro e w1 ⟨rfl, hb1⟩; obtain ⟨osA, dA, rfl⟩ := ext_of_below hb1; clear hb1))
    go_region
    all_goals
      go_wp2
      go_returns
      exact ⟨by simp, by (repeat' (first | (with_reducible exact Below.refl _ _) | (with_reducible assumption) | (with_reducible refine Below.alloc ?_ ?_ _) | (with_reducible refine below_drewN ?_ _) | (with_reducible refine below_drew ?_) | (with_reducible refine below_ext ?_ ?_ _ _) | (with_reducible refine Below.setCell ?_ ?_ _) | (simp; done) | (simp; omega) | omega))⟩
  | true =>
    by_cases h2 : a2 = 0
    · subst h2
      by_cases h3 : a3 = 0
      · subst h3
        go_enter Tryz.func134, Tryz.ntmps134
        go_wp2_with (go_at_call 152; ((with_reducible refine (HK.out _ (by (repeat' (first | (with_reducible exact Below.refl _ _) | (with_reducible assumption) | (with_reducible refine Below.alloc ?_ ?_ _) | (with_reducible refine below_drewN ?_ _) | (with_reducible refine below_drew ?_) | (with_reducible refine below_ext ?_ ?_ _ _) | (with_reducible refine Below.setCell ?_ ?_ _) | (simp; done) | (simp; omega) | omega)))).mono ?_); rintro e w1 ⟨rfl, hb1⟩; obtain ⟨osA, dA, rfl⟩ := ext_of_below hb1; clear hb1))
        go_region
        all_goals
          go_wp2
          go_returns
          exact ⟨by simp, by (repeat' (first | (with_reducible exact Below.refl _ _) | (with_reducible assumption) | (with_reducible refine Below.alloc ?_ ?_ _) | (with_reducible refine below_drewN ?_ _) | (with_reducible refine below_drew ?_) | (with_reducible refine below_ext ?_ ?_ _ _) | (with_reducible refine Below.setCell ?_ ?_ _) | (simp; done) | (simp; omega) | omega))⟩
      · have h3i : ((a3 : Int) == 0) = false := beq_eq_false_iff_ne.2 (by omega)
        have HD := Lib.hid (show decide (a3 = 0) = false from decide_eq_false h3)
        clear h3
        go_enter Tryz.func134, Tryz.ntmps134
        go_wp2_with (go_at_call 152; ((with_reducible refine (HK.out _ (by (repeat' (first | (with_reducible exact Below.refl _ _) | (with_reducible assumption) | (with_reducible refine Below.alloc ?_ ?_ _) | (with_reducible refine below_drewN ?_ _) | (with_reducible refine below_drew ?_) | (with_reducible refine below_ext ?_ ?_ _ _) | (with_reducible refine Below.setCell ?_ ?_ _) | (simp; done) | (simp; omega) | omega)))).mono ?_); rintro e w1 ⟨rfl, hb1⟩; obtain ⟨osA, dA, rfl⟩ := ext_of_below hb1; clear hb1))
        go_region
        all_goals
          go_wp2
          go_returns
          exact ⟨by rw [HD.out]; simp, by (repeat' (first | (with_reducible exact Below.refl _ _) | (with_reducible assumption) | (with_reducible refine Below.alloc ?_ ?_ _) | (with_reducible refine below_drewN ?_ _) | (with_reducible refine below_drew ?_) | (with_reducible refine below_ext ?_ ?_ _ _) | (with_reducible refine Below.setCell ?_ ?_ _) | (simp; done) | (simp; omega) | omega))⟩
    · have h2i : ((a2 : Int) == 0) = false := beq_eq_false_iff_ne.2 (by omega)
      have HD := Lib.hid (show decide (a2 = 0) = false from decide_eq_false h2)
      clear h2
      go_enter Tryz.func134, Tryz.ntmps134
      go_wp2_with (go_at_call 152; ((with_reducible refine (HK.out _ (by (repeat' (first | (with_reducible exact Below.refl _ _) | (with_reducible assumption) | (with_reducible refine Below.alloc ?_ ?_ _) | (with_reducible refine below_drewN ?_ _) | (with_reducible refine below_drew ?_) | (with_reducible refine below_ext ?_ ?_ _ _) | (with_reducible refine Below.setCell ?_ ?_ _) | (simp; done) | (simp; omega) | omega)))).mono ?_); rintro e w1 ⟨rfl, hb1⟩; obtain ⟨osA, dA, rfl⟩ := ext_of_below hb1; clear hb1))
      go_region
      all_goals
        go_wp2
        go_returns
        exact ⟨by rw [HD.out]; simp, by (repeat' (first | (with_reducible exact Below.refl _ _) | (with_reducible assumption) | (with_reducible refine Below.alloc ?_ ?_ _) | (with_reducible refine below_drewN ?_ _) | (with_reducible refine below_drew ?_) | (with_reducible refine below_ext ?_ ?_ _ _) | (with_reducible refine Below.setCell ?_ ?_ _) | (simp; done) | (simp; omega) | omega))⟩
theorem to_any (v : Value) (n : Nat) (hl : (dg n).length ≤ 100000) (w : World) (hr : Rd w v (dg n)) :
    Calls Tryz.prog 134 #[v] w fun e w' => e = .returned (.tuple #[W (n % top2), .bool (decide (n < top2))]) ∧ Below w.heap.size w w' := by
  have h := to_walk v (w0 (n % top4)) (w1 (n % top4)) (w2 (n % top4)) (w3 (n % top4)) (decide (n < top4)) w (fun w1 hb => toLong_any v n hl w1 (hr.later hb))
  have hok : (decide (n < top4) && decide (w2 (n % top4) = 0) && decide (w3 (n % top4) = 0)) = decide (n < top2) := by
    by_cases h4 : n < top4
    · have hn := narrow_words h4
      rw [Nat.mod_eq_of_lt h4]
      by_cases h2 : n < top2
      · obtain ⟨e1, e2⟩ := hn.1.2 h2
        simp [h4, h2, e1, e2]
      · have h3 : ¬ (w2 n = 0 ∧ w3 n = 0) := fun h => h2 (hn.1.1 h)
        simp only [h4, h2, decide_true, decide_false, Bool.true_and, Bool.and_eq_false_iff, decide_eq_false_iff_not]
        by_cases e : w2 n = 0
        · exact .inr fun e2 => h3 ⟨e, e2⟩
        · exact .inl e
    · have h2 : ¬ n < top2 := fun h => h4 (Nat.lt_trans h (by decide))
      simp [h4, h2]
  rw [hok, ← to_hi, ← to_lo] at h
  exact h
end Go.Proofs.YtdgdeognahmpmaaGreatDoor
namespace Go.Proofs.YtdgdeognahmpmaaGreatDoor
open Go.RowKit Num Word
attribute [local go_sem] setCell_drewN cell?_ext frozen?_ext shape?_ext setCell_ext lt_1' ne_1' en_1' le_1' lt_2' ne_2' en_2' le_2' lt_3' ne_3' en_3' le_3' lt_4' ne_4' en_4' le_4' lt_5' ne_5' en_5' le_5' lt_6' ne_6' en_6' le_6' lt_7' ne_7' en_7' le_7' lt_8' ne_8' en_8' le_8' lt_9' ne_9' en_9' le_9' lt_10' ne_10' en_10' le_10' lt_11' ne_11' en_11' le_11' lt_12' ne_12' en_12' le_12'

theorem cmpv_less {a b : Nat} (h : a < b) : cmpv a b = -1 := if_pos h
theorem cmpv_more {a b : Nat} (h : b < a) : cmpv a b = 1 := by unfold cmpv; rw [if_neg (by omega), if_pos h]
theorem cmpv_same (a : Nat) : cmpv a a = 0 := by unfold cmpv; rw [if_neg (by omega), if_neg (by omega)]
set_option maxRecDepth 100000 in
set_option maxHeartbeats 8000000 in
theorem rcmp_any (va vb : Value) (a b : Nat) (hla : (dg a).length ≤ 100000) (hlb : (dg b).length ≤ 100000) (w : World) (ha : Rd w va (dg a)) (hb : Rd w vb (dg b)) :
    Calls Tryz.prog 156 #[va, vb] w fun e w' => e = .returned (.int .i64 (cmpv a b)) ∧ Below w.heap.size w w' := by
  obtain ⟨l, hll⟩ : ∃ l, l = dg a := ⟨_, rfl⟩
  obtain ⟨m, hmm⟩ : ∃ m, m = dg b := ⟨_, rfl⟩
  have hgl := fun j (hj : j < (dg a).length) => dg_get (n := a) hj
  have hgm := fun j (hj : j < (dg b).length) => dg_get (n := b) hj
  have hcl1 := cmp_len (a := a) (b := b)
  have hcl2 := cmp_len (a := b) (b := a)
  have hst := cmp_start (a := a) (b := b)
  rw [← hll] at hla ha hgl hcl1 hcl2 hst
  rw [← hmm] at hlb hb hgm hcl1 hcl2 hst
  obtain ⟨p, cap, rfl, -⟩ := ha.form
  obtain ⟨q, cap2, rfl, -⟩ := hb.form
  have HA := Lib.hid ha; have HB := Lib.hid hb; have HGL := Lib.hid hgl; have HGM := Lib.hid hgm
  clear ha hb hgl hgm hll hmm
  by_cases hne : l.length = m.length
  · have hST := Lib.hid (hst hne)
    rw [← hne]
    have HNE := Lib.hid hne
    clear hcl1 hcl2 hst hne
    go_enter Tryz.func156, Tryz.ntmps156
    go_wp2
    go_loopw [5] (fun i wr => ∃ (j : Nat) (z : Int), i = .int .i64 z ∧ z = (j : Int) - 1 ∧ j ≤ l.length ∧ Hid (a / 10 ^ j = b / 10 ^ j) ∧ Hid (Below w.heap.size w wr)) (fun i _ => (intOf i + 1).toNat)
    case atStart => exact ⟨l.length, _, rfl, rfl, Nat.le_refl _, hST, Lib.hid (by (repeat' (first | (with_reducible exact Below.refl _ _) | (with_reducible assumption) | (with_reducible refine Below.alloc ?_ ?_ _) | (with_reducible refine below_drewN ?_ _) | (with_reducible refine below_drew ?_) | (with_reducible refine below_ext ?_ ?_ _ _) | (with_reducible refine Below.setCell ?_ ?_ _) | (simp; done) | (simp; omega) | omega)))⟩
    case round =>
      obtain ⟨j, z, rfl, hz, hj, he, hbel⟩ := hrel
      by_cases h0 : j = 0
      · subst h0
        have hzn : ¬ (0 : Int) ≤ z := by omega
        have he2 := he.out
        rw [Nat.pow_zero, Nat.div_one, Nat.div_one] at he2
        subst he2
        have HC := Lib.hid (cmpv_same a)
        clear hz he
        go_wp2
        go_ret
        exact ⟨by rw [HC.out]; rfl, hbel.out⟩
      obtain ⟨k, rfl⟩ : ∃ k, j = k + 1 := ⟨j - 1, by omega⟩
      obtain rfl : z = (k : Int) := by omega
      have hk : k < l.length := by omega
      have hkm : k < m.length := by have := HNE.out; omega
      have hki : (k : Int) < l.length := by omega
      obtain ⟨-, g, off, rfl, hg, hx⟩ := (HA.out.later hbel.out).cells (by omega)
      obtain ⟨-, g2, off2, rfl, hg2, hy⟩ := (HB.out.later hbel.out).cells (by omega)
      have cx := hx k hk
      have cy := hy k hkm
      rw [HGL.out k hk] at cx
      rw [HGM.out k hkm] at cy
      have ht := cmp_top (a := a) (b := b) he.out
      have ht2 := cmp_top (a := b) (b := a) he.out.symm
      have hdn := cmp_down (a := a) (b := b) he.out
      obtain ⟨x, hxx⟩ : ∃ x, x = a / 10 ^ k % 10 := ⟨_, rfl⟩
      obtain ⟨y, hyy⟩ : ∃ y, y = b / 10 ^ k % 10 := ⟨_, rfl⟩
      rw [← hxx] at cx ht ht2 hdn
      rw [← hyy] at cy ht ht2 hdn
      clear hxx hyy hx hy hz h0 he
      by_cases h1 : x < y
      · have h1i : (x : Int) < y := by omega
        have HC := Lib.hid (cmpv_less (ht h1))
        clear ht ht2 hdn h1
        go_wp2
        go_region
        go_wp2
        go_ret
        exact ⟨by rw [HC.out]; rfl, below_drew hbel.out⟩
      have h1i : ¬ (x : Int) < y := by omega
      by_cases h2 : y < x
      · have h2i : (y : Int) < x := by omega
        have HC := Lib.hid (cmpv_more (ht2 h2))
        clear ht ht2 hdn h1 h2
        go_wp2
        go_region
        go_wp2
        go_region
        go_wp2
        go_ret
        exact ⟨by rw [HC.out]; rfl, below_drew (below_drew hbel.out)⟩
      have h2i : ¬ (y : Int) < x := by omega
      have HD := Lib.hid (hdn (by omega))
      clear ht ht2 hdn h1 h2
      go_wp2
      go_region
      go_wp2
      go_region
      go_wp2
      go_roundw
      case rel => exact ⟨k, _, rfl, by omega, by omega, HD, Lib.hid (below_drew (below_drew hbel.out))⟩
      case measure => simp only [intOf]; omega
  · have hnei : ((l.length : Int) != (m.length : Int)) = true := by rw [bne_iff_ne]; omega
    clear hst
    by_cases h1 : l.length < m.length
    · have h1i : (l.length : Int) < m.length := by omega
      have HC := Lib.hid (cmpv_less (hcl1 h1))
      clear hcl1 hcl2 h1 hne
      go_enter Tryz.func156, Tryz.ntmps156
      go_wp2
      go_ret
      exact ⟨by rw [HC.out]; rfl, by (repeat' (first | (with_reducible exact Below.refl _ _) | (with_reducible assumption) | (with_reducible refine Below.alloc ?_ ?_ _) | (with_reducible refine below_drewN ?_ _) | (with_reducible refine below_drew ?_) | (with_reducible refine below_ext ?_ ?_ _ _) | (with_reducible refine Below.setCell ?_ ?_ _) | (simp; done) | (simp; omega) | omega))⟩
    · have h1i : ¬ (l.length : Int) < m.length := by omega
      have HC := Lib.hid (cmpv_more (hcl2 (by omega)))
      clear hcl1 hcl2 h1 hne
      go_enter Tryz.func156, Tryz.ntmps156
      go_wp2
      go_ret
      exact ⟨by rw [HC.out]; rfl, by (repeat' (first | (with_reducible exact Below.refl _ _) | (with_reducible assumption) | (with_reducible refine Below.alloc ?_ ?_ _) | (with_reducible refine below_drewN ?_ _) | (with_reducible refine below_drew ?_) | (with_reducible refine below_ext ?_ ?_ _ _) | (with_reducible refine Below.setCell ?_ ?_ _) | (simp; done) | (simp; omega) | omega))⟩
end Go.Proofs.YtdgdeognahmpmaaGreatDoor
namespace Go.Proofs.YtdgdeognahmpmaaGreatDoor
open Go.RowKit Num Word
attribute [local go_sem] setCell_drewN cell?_ext frozen?_ext shape?_ext setCell_ext lt_1' ne_1' en_1' le_1' lt_2' ne_2' en_2' le_2' lt_3' ne_3' en_3' le_3' lt_4' ne_4' en_4' le_4' lt_5' ne_5' en_5' le_5' lt_6' ne_6' en_6' le_6' lt_7' ne_7' en_7' le_7' lt_8' ne_8' en_8' le_8' lt_9' ne_9' en_9' le_9' lt_10' ne_10' en_10' le_10' lt_11' ne_11' en_11' le_11' lt_12' ne_12' en_12' le_12'

set_option maxRecDepth 100000 in
set_option maxHeartbeats 16000000 in
theorem rplus_any (va vb : Value) (a b : Nat) (hla : (dg a).length ≤ 100000) (hlb : (dg b).length ≤ 100000) (w : World) (ha : Rd w va (dg a)) (hb : Rd w vb (dg b)) :
    Calls Tryz.prog 155 #[va, vb] w fun e w' => ∃ v', e = .returned v' ∧ RdP (fun g => w.heap.size ≤ g) w' v' (dg (a + b)) ∧ Below w.heap.size w w' := by
  obtain ⟨l, hll⟩ : ∃ l, l = dg a := ⟨_, rfl⟩
  obtain ⟨m, hmm⟩ : ∃ m, m = dg b := ⟨_, rfl⟩
  have hda := dig_dg a
  have hdb := dig_dg b
  have hst := plus_start (dg a) (dg b)
  rw [lv_dg, lv_dg] at hst
  rw [← hll] at hla ha hda hst
  rw [← hmm] at hlb hb hdb hst
  obtain ⟨p, cap, rfl, -⟩ := ha.form
  obtain ⟨q, cap2, rfl, -⟩ := hb.form
  obtain ⟨B, hBB⟩ : ∃ B, B = w.heap.size := ⟨_, rfl⟩
  have HBB := Lib.hid hBB
  have HA := Lib.hid ha; have HB := Lib.hid hb; have HDA := Lib.hid hda; have HDB := Lib.hid hdb; have HST := Lib.hid hst
  clear ha hb hda hdb hll hmm hst hBB
  go_enter Tryz.func155, Tryz.ntmps155
  go_wp2
  go_loopw [5, 6, 7] (fun v cv i wr => ∃ (k c : Nat) (acc : List Nat), cv = .int .i64 c ∧ i = .int .i64 k ∧ k ≤ l.length + m.length + 1 ∧ (0 < c → k ≤ l.length + m.length) ∧ Hid (IBuf B v acc w wr) ∧ Hid (PlusAt (a + b) l m k c acc)) (fun _ _ i _ => l.length + m.length + 2 - (intOf i).toNat)
  case atStart => exact ⟨0, 0, [], rfl, rfl, Nat.zero_le _, fun h => by omega, Lib.hid (by rw [HBB.out]; exact IBuf.nil w (by (repeat' (first | (with_reducible exact Below.refl _ _) | (with_reducible assumption) | (with_reducible refine Below.alloc ?_ ?_ _) | (with_reducible refine below_drewN ?_ _) | (with_reducible refine below_drew ?_) | (with_reducible refine below_ext ?_ ?_ _ _) | (with_reducible refine Below.setCell ?_ ?_ _) | (simp; done) | (simp; omega) | omega)))), HST⟩
  case round =>
    obtain ⟨k, c, acc, rfl, rfl, hk, hck, hb0, hp⟩ := hrel
    have hb := hb0.out
    have hbel := hb.2.1
    rw [HBB.out] at hbel
    have HBE := Lib.hid hbel
    have hc1 : c ≤ 1 := hp.out.2.2.1
    have hal : acc.length = k := hp.out.1
    clear hbel
    by_cases hka : k < l.length
    · have hkai : (k : Int) < l.length := by omega
      obtain ⟨-, g, off, rfl, hg, hx⟩ := (HA.out.later HBE.out).cells (by omega)
      have cx := hx k hka
      have x9 := HDA.out.get hka
      have dx := lv_drop l k hka
      obtain ⟨x, hxx⟩ : ∃ x, x = l[k] := ⟨_, rfl⟩
      rw [← hxx] at cx x9 dx
      clear hx hxx
      by_cases hkb : k < m.length
      · have hkbi : (k : Int) < m.length := by omega
        obtain ⟨-, g2, off2, rfl, hg2, hy⟩ := (HB.out.later HBE.out).cells (by omega)
        have cy := hy k hkb
        have y9 := HDB.out.get hkb
        have dy := lv_drop m k hkb
        obtain ⟨y, hyy⟩ : ∃ y, y = m[k] := ⟨_, rfl⟩
        rw [← hyy] at cy y9 dy
        clear hy hyy
        have HS := Lib.hid (plus_step hp.out (c + x + y) ⟨x, y, rfl, x9, y9, dx, dy⟩)
        clear dx dy hp hb0
        go_wp2_with (at_builtin; refine append_int rfl _ _ rfl rfl w _ ((c + x + y) % 10) (by omega) (by assumption) rfl (by omega) ?_; intro _ _ hb)
        go_roundw
        case rel => exact ⟨k + 1, (c + x + y) / 10, acc ++ [(c + x + y) % 10], by go_num, by go_num, by omega, by omega, Lib.hid hb, HS⟩
        case measure => simp only [intOf]; omega
      · have hkbi : ¬ (k : Int) < m.length := by omega
        have dy := lv_drop_none m k (by omega)
        have HS := Lib.hid (plus_step hp.out (c + x) ⟨x, 0, rfl, x9, by decide, dx, dy⟩)
        clear dx dy hp hb0
        go_wp2_with (at_builtin; refine append_int rfl _ _ rfl rfl w _ ((c + x) % 10) (by omega) (by assumption) rfl (by omega) ?_; intro _ _ hb)
        go_roundw
        case rel => exact ⟨k + 1, (c + x) / 10, acc ++ [(c + x) % 10], by go_num, by go_num, by omega, by omega, Lib.hid hb, HS⟩
        case measure => simp only [intOf]; omega
    · have hkai : ¬ (k : Int) < l.length := by omega
      have dx := lv_drop_none l k (by omega)
      by_cases hkb : k < m.length
      · have hkbi : (k : Int) < m.length := by omega
        obtain ⟨-, g2, off2, rfl, hg2, hy⟩ := (HB.out.later HBE.out).cells (by omega)
        have cy := hy k hkb
        have y9 := HDB.out.get hkb
        have dy := lv_drop m k hkb
        obtain ⟨y, hyy⟩ : ∃ y, y = m[k] := ⟨_, rfl⟩
        rw [← hyy] at cy y9 dy
        clear hy hyy
        have HS := Lib.hid (plus_step hp.out (c + y) ⟨0, y, rfl, by decide, y9, dx, dy⟩)
        clear dx dy hp hb0
        go_wp2_with (at_builtin; refine append_int rfl _ _ rfl rfl w _ ((c + y) % 10) (by omega) (by assumption) rfl (by omega) ?_; intro _ _ hb)
        go_roundw
        case rel => exact ⟨k + 1, (c + y) / 10, acc ++ [(c + y) % 10], by go_num, by go_num, by omega, by omega, Lib.hid hb, HS⟩
        case measure => simp only [intOf]; omega
      · have hkbi : ¬ (k : Int) < m.length := by omega
        have dy := lv_drop_none m k (by omega)
        by_cases hc0 : 0 < c
        · have hc0i : (0 : Int) < c := by omega
          have hk2 := hck hc0
          have HS := Lib.hid (plus_step hp.out (c) ⟨0, 0, rfl, by decide, by decide, dx, dy⟩)
          clear dx dy hp hb0
          go_wp2_with (at_builtin; refine append_int rfl _ _ rfl rfl w _ ((c) % 10) (by omega) (by assumption) rfl (by omega) ?_; intro _ _ hb)
          go_roundw
          case rel => exact ⟨k + 1, (c) / 10, acc ++ [(c) % 10], by go_num, by go_num, by omega, by omega, Lib.hid hb, HS⟩
          case measure => simp only [intOf]; omega
        · obtain rfl : c = 0 := by omega
          obtain ⟨e1, e2⟩ := plus_end hp.out (by omega) (by omega)
          have hcut := cut_any _ acc e1 (by omega) wr hb.rd
          rw [e2] at hcut
          have HC := Lib.hid hcut
          clear e1 e2 hcut dx dy hp hb0 hc0
          go_wp2_with (go_at_call 170; ((with_reducible refine (HC.out).mono ?_); rintro e w' ⟨v', rfl, hrd, rfl⟩))
          go_ret
          exact ⟨_, rfl, hrd.weak (fun g _ h => by rw [← HBB.out]; exact h), HBE.out⟩
end Go.Proofs.YtdgdeognahmpmaaGreatDoor
namespace Go.Proofs.YtdgdeognahmpmaaGreatDoor
open Go.RowKit Num Word
attribute [local go_sem] setCell_drewN cell?_ext frozen?_ext shape?_ext setCell_ext lt_1' ne_1' en_1' le_1' lt_2' ne_2' en_2' le_2' lt_3' ne_3' en_3' le_3' lt_4' ne_4' en_4' le_4' lt_5' ne_5' en_5' le_5' lt_6' ne_6' en_6' le_6' lt_7' ne_7' en_7' le_7' lt_8' ne_8' en_8' le_8' lt_9' ne_9' en_9' le_9' lt_10' ne_10' en_10' le_10' lt_11' ne_11' en_11' le_11' lt_12' ne_12' en_12' le_12'

theorem IRow.drew {W0 w : World} {g n : Nat} {f : Nat → Int} (h : IRow W0 w g n f) : IRow W0 w.drew g n f := ⟨h.own, h.lt, below_drew h.below, h.cell, h.free⟩
/-- a copy of a slice in a row of the call's own -/
theorem append_copy {ops : Array Oper} {rest : List Oper} {o : Oper} {a : Act} {Q : Exit → Act → World → Prop} {W0 w : World} (hgd : o.guard = none) (s x : Operand)
    (ho : o.op = .call { callee := .builtin .append, args := #[s, x], argTypes := #[41, 41] })
    (hb : Below W0.heap.size W0 w) (hs : a.eval s = .slice (some ⟨w.heap.size, 0, none⟩) 0 0) {g off cap : Nat} {l : List Nat} (hx : a.eval x = .slice (some ⟨g, off, none⟩) l.length cap)
    (hg : g < w.heap.size) (hc : ∀ j (hj : j < l.length), w.cell? ⟨g, off + j, none⟩ = some (.int .i64 (l[j] : Int))) (hl : 0 < l.length) (hlen : l.length ≤ 1000000)
    (h : ∀ g' cap' w', l.length ≤ cap' → IRow W0 w' g' l.length (fun j => ((l.getD j 0 : Nat) : Int)) → wpList Tryz.prog ops Q rest (a.put o.dst (.slice (some ⟨g', 0, none⟩) l.length cap')) w') :
    wpList Tryz.prog ops Q (o :: rest) a (w.alloc (.cells #[] 3)) := by
  obtain ⟨i0, hi, hz0, hz1, hz2⟩ := info_parts infoInt
  have hown := World.ownsRow_lit (w := w) (base := W0.heap.size) (e := 3) (size := 1) #[] 0 hb.size (by unfold maxLen; omega) rfl
  have hb2 : Below W0.heap.size W0 (w.alloc (.cells #[] 3)) := hb.alloc hb.size _
  have hsz : W0.heap.size ≤ (w.alloc (.cells #[] 3)).heap.size := by rw [World.size_alloc]; have := hb.size; omega
  refine wpList_append_own _ hgd s x 41 ho W0.heap.size 3 i0 (.int .i64 0) 1 8 Tryz.underlying41 hi hz0 hz1 hz2 rfl (by decide) _ 0 [] hs hown ⟨g, off, none⟩ l.length cap (intCellsN l) hx (by simp [intCellsN]) ?_ ?_ (by unfold maxLen; omega) (by omega) hsz ?_
  · intro j u hj
    obtain ⟨hlt, e⟩ : ∃ h : j < l.length, .int .i64 (l[j] : Int) = u := by
      obtain ⟨h1, h2⟩ := List.getElem?_eq_some_iff.1 hj
      have h3 : j < l.length := by simpa [intCellsN] using h1
      exact ⟨h3, by simpa [intCellsN] using h2⟩
    have ead : (⟨g, off, none⟩ : Addr).add j = ⟨g, off + j, none⟩ := by
      by_cases h0 : j = 0
      · subst h0; rfl
      · simp [Addr.add, h0]
    rw [ead, ← e, ← hc j hlt]
    exact World.cell?_alloc_past _ g (off + j) hg
  · intro u hu
    simp only [intCellsN, List.mem_map] at hu
    obtain ⟨c, _, rfl⟩ := hu
    rfl
  · intro v' w' ho' hgr _
    rw [Nat.zero_add, List.nil_append] at ho'
    obtain ⟨hlen2, hv⟩ := ho'
    rcases hv with ⟨-, h0⟩ | ⟨g', cap', cur, rfl, hbase, hheap, hcap, -, hcs, htk⟩
    · omega
    · have hbel := hb2.grown hgr hsz (fun k e => by
        have e2 : k = w.heap.size := by cases e; rfl
        rw [e2]; exact hb.size)
      refine h g' cap' w' hcap ⟨hbase, ?_, hbel, fun j hj => ?_, fun j hj => Joins.unfrozen_of_block hheap j⟩
      · by_cases h0 : g' < w'.heap.size
        · exact h0
        · rw [Array.getElem?_eq_none (by omega)] at hheap; cases hheap
      · have e : (intCellsN l)[j]? = some (.int .i64 ((l.getD j 0 : Nat) : Int)) := by simp [intCellsN, hj, List.getD_eq_getElem?_getD]
        rw [Joins.cell_of_block hheap j, ← e, ← htk, List.getElem?_take, if_pos (by omega), Array.getElem?_toList]
set_option maxRecDepth 100000 in
set_option maxHeartbeats 16000000 in
theorem rless_any (va vb : Value) (a b : Nat) (hba : b ≤ a) (hla : (dg a).length ≤ 100000) (w : World) (ha : Rd w va (dg a)) (hb : Rd w vb (dg b)) :
    Calls Tryz.prog 157 #[va, vb] w fun e w' => ∃ v', e = .returned v' ∧ RdP (fun g => w.heap.size ≤ g) w' v' (dg (a - b)) ∧ Below w.heap.size w w' := by
  have hlb := dg_len_mono hba
  obtain ⟨l, hll⟩ : ∃ l, l = dg a := ⟨_, rfl⟩
  obtain ⟨m, hmm⟩ : ∃ m, m = dg b := ⟨_, rfl⟩
  have hda := dig_dg a
  have hdb := dig_dg b
  have hva := lv_dg a
  have hvb := lv_dg b
  rw [← hll] at hla ha hda hlb hva
  rw [← hmm] at hlb hb hdb hvb
  clear hll hmm
  rcases ha with ⟨rfl, rfl⟩ | ⟨g0, o0, cap, rfl, hcap0, hg0, -, hx0⟩
  · obtain ⟨q, cap2, rfl, -⟩ := hb.form
    obtain rfl : m = [] := List.eq_nil_of_length_eq_zero (by simpa using hlb)
    obtain rfl : a = 0 := hva.symm
    obtain rfl : b = 0 := hvb.symm
    have hcut := cut_any (P := fun g => w.heap.size ≤ g) (.slice (some ⟨w.heap.size, 0, none⟩) 0 0) [] Dig.nil (by decide) (w.alloc (.cells #[] 3)) (.inr ⟨w.heap.size, 0, 0, rfl, Nat.le_refl _, by rw [World.size_alloc]; omega, Nat.le_refl _, fun j hj => by cases hj⟩)
    have HC := Lib.hid hcut
    clear hb hda hdb hva hvb hba hla hlb hcut
    go_enter Tryz.func157, Tryz.ntmps157
    go_wp2
    go_rounds 1
    refine wp_loop_rounds 1 ?_
    rw [rounds_succ]
    go_wp2_with (go_at_call 170; ((with_reducible refine (HC.out).mono ?_); rintro e w' ⟨v', rfl, hrd, rfl⟩))
    go_ret
    exact ⟨_, rfl, hrd, by (repeat' (first | (with_reducible exact Below.refl _ _) | (with_reducible assumption) | (with_reducible refine Below.alloc ?_ ?_ _) | (with_reducible refine below_drewN ?_ _) | (with_reducible refine below_drew ?_) | (with_reducible refine below_ext ?_ ?_ _ _) | (with_reducible refine Below.setCell ?_ ?_ _) | (simp; done) | (simp; omega) | omega))⟩
  by_cases hl0 : l.length = 0
  · obtain rfl : l = [] := List.eq_nil_of_length_eq_zero hl0
    obtain ⟨q, cap2, rfl, -⟩ := hb.form
    obtain rfl : m = [] := List.eq_nil_of_length_eq_zero (by simpa using hlb)
    obtain rfl : a = 0 := hva.symm
    obtain rfl : b = 0 := hvb.symm
    have hcut := cut_any (P := fun g => w.heap.size ≤ g) (.slice (some ⟨w.heap.size, 0, none⟩) 0 0) [] Dig.nil (by decide) (w.alloc (.cells #[] 3)) (.inr ⟨w.heap.size, 0, 0, rfl, Nat.le_refl _, by rw [World.size_alloc]; omega, Nat.le_refl _, fun j hj => by cases hj⟩)
    have HC := Lib.hid hcut
    clear hb hda hdb hva hvb hba hla hlb hcut
    go_enter Tryz.func157, Tryz.ntmps157
    go_wp2
    go_rounds 1
    refine wp_loop_rounds 1 ?_
    rw [rounds_succ]
    go_wp2_with (go_at_call 170; ((with_reducible refine (HC.out).mono ?_); rintro e w' ⟨v', rfl, hrd, rfl⟩))
    go_ret
    exact ⟨_, rfl, hrd, by (repeat' (first | (with_reducible exact Below.refl _ _) | (with_reducible assumption) | (with_reducible refine Below.alloc ?_ ?_ _) | (with_reducible refine below_drewN ?_ _) | (with_reducible refine below_drew ?_) | (with_reducible refine below_ext ?_ ?_ _ _) | (with_reducible refine Below.setCell ?_ ?_ _) | (simp; done) | (simp; omega) | omega))⟩
  obtain ⟨q, cap2, rfl, -⟩ := hb.form
  have hst := lessA_start l m hda
  rw [hva] at hst
  have HB := Lib.hid hb; have HDB := Lib.hid hdb; have HST := Lib.hid hst
  have HX := Lib.hid hx0; have HVB := Lib.hid hvb
  clear hb hda hdb hva hvb hst hx0
  go_enter Tryz.func157, Tryz.ntmps157
  go_wp2_with (at_builtin; refine append_copy rfl _ _ rfl (Below.refl _ _) rfl rfl hg0 HX.out (by omega) (by omega) ?_; intro g' cap' w1 hcap' hrow)
  go_loopw [6] (fun i wr => ∃ (k : Nat) (f : Nat → Int), i = .int .i64 k ∧ k ≤ m.length ∧ Hid (LessA a m l.length k f) ∧ Hid (IRow w wr g' l.length f)) (fun i _ => m.length - (intOf i).toNat)
  case atStart => exact ⟨0, _, rfl, Nat.zero_le _, HST, Lib.hid hrow⟩
  case round =>
    obtain ⟨k, f, rfl, hk, hA, hI⟩ := hrel
    by_cases hlt : k < m.length
    · have hlti : (k : Int) < m.length := by omega
      have hkl : k < l.length := by omega
      have hkli : (k : Int) < l.length := by omega
      obtain ⟨-, g2, off2, rfl, hg2, hy⟩ := (HB.out.later hI.out.below).cells (by omega)
      have cy := hy k hlt
      have y9 := HDB.out.get hlt
      have cf := hI.out.cell k hkl
      have fr := hI.out.free k hkl
      have hstp := lessA_step hA.out HDB.out hlt hkl
      have hbd := hA.out.2.1 k hkl
      have hst2 := fun v => hI.out.store k v hkl
      obtain ⟨y, hyy⟩ : ∃ y, y = m[k] := ⟨_, rfl⟩
      obtain ⟨x, hxx⟩ : ∃ x, x = f k := ⟨_, rfl⟩
      rw [← hyy] at cy y9 hstp
      rw [← hxx] at cf hstp hbd
      have HS := Lib.hid hstp; have HT := Lib.hid hst2
      clear hy hyy hxx hstp hst2 hA hI hrow
      go_wp2
      go_region
      go_wp2
      go_roundw
      case rel => exact ⟨k + 1, _, by go_num, by omega, HS, Lib.hid (HT.out _).drew⟩
      case measure => simp only [intOf]; omega
    · obtain rfl : k = m.length := by omega
      have hst := lessB_start hA.out
      rw [HVB.out] at hst
      have HS2 := Lib.hid hst
      clear hst hA hrow
      go_wp2
      go_loopw [7] (fun i wr2 => ∃ (k : Nat) (f : Nat → Int), i = .int .i64 k ∧ k ≤ l.length ∧ Hid (LessB ((a : Int) - (b : Int)) l.length k f) ∧ Hid (IRow w wr2 g' l.length f)) (fun i _ => l.length - (intOf i).toNat)
      case atStart => exact ⟨0, _, rfl, Nat.zero_le _, HS2, hI⟩
      case round =>
        obtain ⟨k, f2, rfl, hk2, hB2, hI2⟩ := hrel
        clear hI HS2
        by_cases hlt2 : k + 1 < l.length
        · have hlt2i : (k : Int) + 1 < l.length := by omega
          have hkl : k < l.length := by omega
          have hkli : (k : Int) < l.length := by omega
          have cf := hI2.out.cell k hkl
          have fr := hI2.out.free k hkl
          have cf1 := hI2.out.cell (k + 1) hlt2
          have fr1 := hI2.out.free (k + 1) hlt2
          have hb1 := hB2.out.2.2 k hkl
          have hb2 := hB2.out.2.2 (k + 1) hlt2
          have hkeep := lessB_keep hB2.out
          have hstp := lessB_step hB2.out hlt2
          have hst2 := fun v v' => (hI2.out.store k v hkl).store (k + 1) v' hlt2
          obtain ⟨x, hxx⟩ : ∃ x, x = f2 k := ⟨_, rfl⟩
          obtain ⟨y, hyy⟩ : ∃ y, y = f2 (k + 1) := ⟨_, rfl⟩
          rw [← hxx] at cf hb1 hkeep hstp
          rw [← hyy] at cf1 hb2 hstp
          have HT := Lib.hid hst2
          by_cases hneg : x < 0
          · have HS := Lib.hid (hstp hneg)
            clear hxx hyy hstp hst2 hkeep hB2
            go_wp2
            go_roundw
            case rel => exact ⟨k + 1, _, by go_num, by omega, HS, Lib.hid (HT.out _ _)⟩
            case measure => simp only [intOf]; omega
          · have HS := Lib.hid (hkeep (by omega))
            clear hxx hyy hstp hst2 hkeep hB2
            go_wp2
            go_roundw
            case rel => exact ⟨k + 1, _, by go_num, by omega, HS, hI2⟩
            case measure => simp only [intOf]; omega
        · have hlt2i : ¬ (k : Int) + 1 < l.length := by omega
          obtain ⟨e1, e2⟩ := less_list hB2.out (by omega) (by omega)
          have hrd := hI2.out.rd hcap' (listOf f2 l.length) (listOf_len _ _) (fun j hj => by
            have := lessB_end hB2.out (by omega) (by omega) j (by rw [listOf_len] at hj; exact hj)
            rw [listOf_get]; omega)
          have hcut := cut_any _ _ e1 (by rw [listOf_len]; omega) _ hrd
          have e3 : lv (listOf f2 l.length) = a - b := by omega
          rw [e3] at hcut
          have HC := Lib.hid hcut
          have HG := Lib.hid hI2.out.own
          have HBB := Lib.hid hI2.out.below
          clear e1 e2 e3 hrd hcut hB2 hI2
          go_wp2_with (go_at_call 170; ((with_reducible refine (HC.out).mono ?_); rintro e w' ⟨v', rfl, hrd, rfl⟩))
          go_ret
          exact ⟨_, rfl, hrd.weak (fun g _ h => by rw [h]; exact HG.out), HBB.out⟩
end Go.Proofs.YtdgdeognahmpmaaGreatDoor
namespace Go.Proofs.YtdgdeognahmpmaaGreatDoor
open Go.RowKit Num Word
attribute [local go_sem] setCell_drewN cell?_ext frozen?_ext shape?_ext setCell_ext lt_1' ne_1' en_1' le_1' lt_2' ne_2' en_2' le_2' lt_3' ne_3' en_3' le_3' lt_4' ne_4' en_4' le_4' lt_5' ne_5' en_5' le_5' lt_6' ne_6' en_6' le_6' lt_7' ne_7' en_7' le_7' lt_8' ne_8' en_8' le_8' lt_9' ne_9' en_9' le_9' lt_10' ne_10' en_10' le_10' lt_11' ne_11' en_11' le_11' lt_12' ne_12' en_12' le_12'

theorem times_bound (a b : Nat) : ((a * b : Nat) : Int) < 10 ^ ((dg a).length + (dg b).length) := by
  have h1 := (dg_len_le (n := a) (k := (dg a).length)).1 (Nat.le_refl _)
  have h2 := (dg_len_le (n := b) (k := (dg b).length)).1 (Nat.le_refl _)
  have h3 : a * b < 10 ^ (dg a).length * 10 ^ (dg b).length := Nat.mul_lt_mul'' h1 h2
  rw [← Nat.pow_add] at h3
  have : ((10 ^ ((dg a).length + (dg b).length) : Nat) : Int) = (10 : Int) ^ ((dg a).length + (dg b).length) := by push_cast; rfl
  rw [← this]
  omega
end Go.Proofs.YtdgdeognahmpmaaGreatDoor
namespace Go.Proofs.YtdgdeognahmpmaaGreatDoor
open Go.RowKit Num Word
attribute [local go_sem] setCell_drewN cell?_ext frozen?_ext shape?_ext setCell_ext lt_1' ne_1' en_1' le_1' lt_2' ne_2' en_2' le_2' lt_3' ne_3' en_3' le_3' lt_4' ne_4' en_4' le_4' lt_5' ne_5' en_5' le_5' lt_6' ne_6' en_6' le_6' lt_7' ne_7' en_7' le_7' lt_8' ne_8' en_8' le_8' lt_9' ne_9' en_9' le_9' lt_10' ne_10' en_10' le_10' lt_11' ne_11' en_11' le_11' lt_12' ne_12' en_12' le_12'

theorem len2 {a : Nat} (h : a < top2) : (dg a).length ≤ 39 := dg_len_le.2 (Nat.lt_trans h (by decide))
theorem len4 {a : Nat} (h : a < top4) : (dg a).length ≤ 78 := dg_len_le.2 (Nat.lt_trans h (by decide))
end Go.Proofs.YtdgdeognahmpmaaGreatDoor
namespace Go.Proofs.YtdgdeognahmpmaaGreatDoor
open Go.RowKit Num Word
attribute [local go_sem] setCell_drewN cell?_ext frozen?_ext shape?_ext setCell_ext lt_1' ne_1' en_1' le_1' lt_2' ne_2' en_2' le_2' lt_3' ne_3' en_3' le_3' lt_4' ne_4' en_4' le_4' lt_5' ne_5' en_5' le_5' lt_6' ne_6' en_6' le_6' lt_7' ne_7' en_7' le_7' lt_8' ne_8' en_8' le_8' lt_9' ne_9' en_9' le_9' lt_10' ne_10' en_10' le_10' lt_11' ne_11' en_11' le_11' lt_12' ne_12' en_12' le_12'

end Go.Proofs.YtdgdeognahmpmaaGreatDoor
namespace Go.Proofs.YtdgdeognahmpmaaGreatDoor
open Go.RowKit Num Word
attribute [local go_sem] setCell_drewN cell?_ext frozen?_ext shape?_ext setCell_ext lt_1' ne_1' en_1' le_1' lt_2' ne_2' en_2' le_2' lt_3' ne_3' en_3' le_3' lt_4' ne_4' en_4' le_4' lt_5' ne_5' en_5' le_5' lt_6' ne_6' en_6' le_6' lt_7' ne_7' en_7' le_7' lt_8' ne_8' en_8' le_8' lt_9' ne_9' en_9' le_9' lt_10' ne_10' en_10' le_10' lt_11' ne_11' en_11' le_11' lt_12' ne_12' en_12' le_12'

/-- a slice put behind a row of the call's own -/
theorem append_rd {ops : Array Oper} {rest : List Oper} {o : Oper} {a : Act} {Q : Exit → Act → World → Prop} {w : World} (hgd : o.guard = none) (s x : Operand)
    (ho : o.op = .call { callee := .builtin .append, args := #[s, x], argTypes := #[41, 41] })
    {B : Nat} {v : Value} {l : List Nat} {W0 : World} (hs : a.eval s = v) (hb : IBuf B v l W0 w) {g off cap : Nat} {m : List Nat} (hx : a.eval x = .slice (some ⟨g, off, none⟩) m.length cap)
    (hc : ∀ j (hj : j < m.length), w.cell? ⟨g, off + j, none⟩ = some (.int .i64 (m[j] : Int))) (hlen : l.length + m.length ≤ 1000000)
    (h : ∀ v' w', IBuf B v' (l ++ m) W0 w' → wpList Tryz.prog ops Q rest (a.put o.dst v') w') : wpList Tryz.prog ops Q (o :: rest) a w := by
  obtain ⟨i0, hi, hz0, hz1, hz2⟩ := info_parts infoInt
  refine wpList_append_ownF _ hgd s x 41 ho B 3 i0 (.int .i64 0) 1 8 Tryz.underlying41 hi hz0 hz1 hz2 rfl (by decide) v l.length (intCellsN l) hs hb.1 ⟨g, off, none⟩ m.length cap (intCellsN m) hx (by simp [intCellsN]) ?_ ?_ (by unfold maxLen; omega) (by omega) hb.2.2 ?_
  · intro j u hj
    obtain ⟨hlt, e⟩ : ∃ h : j < m.length, .int .i64 (m[j] : Int) = u := by
      obtain ⟨h1, h2⟩ := List.getElem?_eq_some_iff.1 hj
      have h3 : j < m.length := by simpa [intCellsN] using h1
      exact ⟨h3, by simpa [intCellsN] using h2⟩
    have ead : (⟨g, off, none⟩ : Addr).add j = ⟨g, off + j, none⟩ := by
      by_cases h0 : j = 0
      · subst h0; rfl
      · simp [Addr.add, h0]
    rw [ead, ← e, ← hc j hlt]
  · intro u hu
    simp only [intCellsN, List.mem_map] at hu
    obtain ⟨c, _, rfl⟩ := hu
    rfl
  · intro v' w' ho' hg _
    exact h v' w' (IBuf.congr (hb.grown ho' hg) (by rw [List.length_append]) (by simp [intCellsN]))
theorem IBuf.lit {W0 W : World} (hb : Below W0.heap.size W0 W) (C : Array Value) (l : List Nat) (hC : C.toList = intCellsN l) (hl : l.length ≤ 1000000) : IBuf W0.heap.size (.slice (some ⟨W.heap.size, 0, none⟩) l.length l.length) l W0 (W.alloc (.cells C 3)) := by
  have h := World.ownsRow_lit (w := W) (base := W0.heap.size) (e := 3) (size := 1) C l.length hb.size (by unfold maxLen; omega) (by rw [← Array.length_toList, hC]; simp [intCellsN])
  rw [hC] at h
  exact ⟨World.ownsRowF_of h, hb.alloc hb.size _, by rw [World.size_alloc]; have := hb.size; omega⟩
set_option maxRecDepth 100000 in
set_option maxHeartbeats 8000000 in
theorem rshift_any (va : Value) (n k : Nat) (hn : 0 < n) (hk : k ≤ 1000) (hl : (dg n).length ≤ 100000) (w : World) (ha : Rd w va (dg n)) :
    Calls Tryz.prog 154 #[va, .int .i64 (k : Int)] w fun e w' => ∃ v', e = .returned v' ∧ RdP (fun g => w.heap.size ≤ g) w' v' (dg (n * 10 ^ k)) ∧ Below w.heap.size w w' := by
  have hsh := dg_shift hn k
  have hne : 0 < (dg n).length := by rw [dg_pos hn]; simp
  obtain ⟨l, hll⟩ : ∃ l, l = dg n := ⟨_, rfl⟩
  rw [← hll] at hl ha hsh hne
  have hmk := make_int k (by omega)
  rcases ha with ⟨-, rfl⟩ | ⟨g, off, cap, rfl, -, hg, -, hx⟩
  · cases hne
  have hbuf := IBuf.lit (W0 := w) (W := w) (Below.refl _ _) (madeCells #[.int .i64 0] k) (List.replicate k 0) (by
    apply List.ext_getElem?
    intro j
    by_cases hj : j < k
    · simp [madeCells, intCellsN, hj, Nat.mod_one]
    · simp [madeCells, intCellsN, hj]) (by simp; omega)
  rw [List.length_replicate] at hbuf
  have hcell : ∀ j (hj : j < l.length), (w.alloc (.cells (madeCells #[.int .i64 0] k) 3)).cell? ⟨g, off + j, none⟩ = some (.int .i64 (l[j] : Int)) := fun j hj => by
    rw [← hx j hj]; exact World.cell?_alloc_past _ g (off + j) hg
  have hl0 : ((l.length : Int) == 0) = false := beq_eq_false_iff_ne.2 (by omega)
  have HB := Lib.hid hbuf; have HC := Lib.hid hcell; have HS := Lib.hid hsh
  clear hbuf hcell hsh hx hll
  go_enter Tryz.func154, Tryz.ntmps154
  go_wp2_with (at_builtin; refine append_rd rfl _ _ rfl rfl HB.out rfl HC.out (by rw [List.length_replicate]; omega) ?_; intro v' w' hb)
  go_ret
  exact ⟨_, rfl, by rw [← HS.out]; exact hb.rd, hb.2.1⟩
end Go.Proofs.YtdgdeognahmpmaaGreatDoor
namespace Go.Proofs.YtdgdeognahmpmaaGreatDoor
open Go.RowKit Num Word
attribute [local go_sem] setCell_drewN cell?_ext frozen?_ext shape?_ext setCell_ext lt_1' ne_1' en_1' le_1' lt_2' ne_2' en_2' le_2' lt_3' ne_3' en_3' le_3' lt_4' ne_4' en_4' le_4' lt_5' ne_5' en_5' le_5' lt_6' ne_6' en_6' le_6' lt_7' ne_7' en_7' le_7' lt_8' ne_8' en_8' le_8' lt_9' ne_9' en_9' le_9' lt_10' ne_10' en_10' le_10' lt_11' ne_11' en_11' le_11' lt_12' ne_12' en_12' le_12'

def cellN (w : World) (g i : Nat) : Nat := match w.cell? ⟨g, i, none⟩ with
  | some (.int _ z) => z.toNat
  | _ => 0
/-- a digit ahead of a slice, in a row of the call's own -/
theorem append_one {ops : Array Oper} {rest : List Oper} {o : Oper} {a : Act} {Q : Exit → Act → World → Prop} {w : World} (hgd : o.guard = none) (s x : Operand)
    (ho : o.op = .call { callee := .builtin .append, args := #[s, x], argTypes := #[41, 41] })
    (d : Nat) {z : Int} (hz : z = (d : Int)) (hs : a.eval s = .slice (some ⟨w.heap.size, 0, none⟩) 1 1) {P : Nat → Prop} {v : Value} {m : List Nat} (hx : a.eval x = v) (hr : RdP P w v m) (hlen : m.length ≤ 100000)
    (h : ∀ v' w', IBuf w.heap.size v' (d :: m) w w' → wpList Tryz.prog ops Q rest (a.put o.dst v') w') : wpList Tryz.prog ops Q (o :: rest) a (w.alloc (.cells #[.int .i64 z] 3)) := by
  subst hz
  have hb := IBuf.lit (W0 := w) (W := w) (Below.refl _ _) #[.int .i64 (d : Int)] [d] rfl (by simp)
  rcases hr with ⟨rfl, rfl⟩ | ⟨g, off, cap, rfl, -, hg, -, hc⟩
  · obtain ⟨i0, hi, hz0, hz1, hz2⟩ := info_parts infoInt
    have hown := World.ownsRow_lit (w := w) (base := w.heap.size) (e := 3) (size := 1) #[.int .i64 (d : Int)] 1 (Nat.le_refl _) (by unfold maxLen; omega) rfl
    exact wpList_append_own_none hgd s x 41 ho w.heap.size 3 i0 1 Tryz.underlying41 hi _ 1 _ hs hown hx (h _ _ hb)
  · exact append_rd hgd s x ho hs hb hx (fun j hj => by rw [← hc j hj]; exact World.cell?_alloc_past _ g (off + j) hg) (by simp; omega) h
/-- the quotient's part so far, from one place on -/
theorem quo_more {A B n q : Nat} {f : Nat → Int} (h : QuoAt A B n (q + 1) f) (c : Nat) (hc : c = A / 10 ^ q / B % 10) (v : Int) (hv : v = (c : Int)) : QuoAt A B n q (upd f q v) := by
  intro t h1 h2
  unfold upd
  by_cases e : t = q
  · subst e; rw [if_pos rfl, hv, hc]
  · rw [if_neg e]; exact h t (by omega) h2
theorem upd_upd (f : Nat → Int) (k : Nat) (x y : Int) : upd (upd f k x) k y = upd f k y := by
  funext j; unfold upd; split <;> rfl
theorem cellN_row {W0 w : World} {g n q : Nat} {f : Nat → Int} (h : IRow W0 w g n f) (hq : q < n) : cellN w g q = (f q).toNat := by
  unfold cellN; rw [h.cell q hq]
theorem cellN_drew (w : World) (g q : Nat) : cellN w.drew g q = cellN w g q := rfl
theorem upd_self (f : Nat → Int) (k : Nat) : upd f k (f k) = f := by
  funext j; unfold upd; split
  · rename_i h; rw [h]
  · rfl
set_option maxRecDepth 100000 in
set_option maxHeartbeats 16000000 in
theorem rquo_any (va vb : Value) (a b : Nat) (hb0 : 0 < b) (hla : (dg a).length ≤ 1000) (hlb : (dg b).length ≤ 1000) (w : World) (ha : Rd w va (dg a)) (hb : Rd w vb (dg b)) :
    Calls Tryz.prog 171 #[va, vb] w fun e w' => ∃ v1 v2, e = .returned (.tuple #[v1, v2]) ∧ RdP (fun g => w.heap.size ≤ g) w' v1 (dg (a / b)) ∧ RdP (fun g => w.heap.size ≤ g) w' v2 (dg (a % b)) ∧ Below w.heap.size w w' := by
  obtain ⟨l, hll⟩ : ∃ l, l = dg a := ⟨_, rfl⟩
  have hgl := fun j (hj : j < (dg a).length) => dg_get (n := a) hj
  have hfin := quo_fin a b (dg a).length rfl
  have ha10 := (dg_len_le (n := a) (k := (dg a).length)).1 (Nat.le_refl _)
  rw [← hll] at hla ha hgl hfin ha10
  obtain ⟨p, cap, rfl, -⟩ := ha.form
  obtain ⟨N, hN⟩ : ∃ N, N = l.length := ⟨_, rfl⟩
  have hmk := make_int l.length (by omega)
  have HA := Lib.hid ha; have HB := Lib.hid hb; have HGL := Lib.hid hgl; have HF := Lib.hid hfin
  have HI := Lib.hid (IRow.made (W0 := w) (w := w) (Below.refl _ _) l.length)
  have H10 := Lib.hid ha10; have HLL := Lib.hid hll
  clear ha hb hgl hfin ha10 hN hll
  go_enter Tryz.func171, Tryz.ntmps171
  go_wp2
  go_loopw [7, 8] (fun lv i wr => ∃ (j : Nat) (z : Int) (f : Nat → Int), i = .int .i64 z ∧ z = (j : Int) - 1 ∧ j ≤ l.length ∧ Hid (RdP (fun g => w.heap.size < g) wr lv (dg (a / 10 ^ j % b))) ∧ Hid (QuoAt a b l.length j f) ∧ Hid (∀ t, t < j → f t = 0) ∧ Hid (IRow w wr w.heap.size l.length f)) (fun _ i _ => (intOf i + 1).toNat)
  case atStart => exact ⟨l.length, _, fun _ => 0, rfl, rfl, Nat.le_refl _, Lib.hid (by rw [Nat.div_eq_of_lt H10.out, Nat.zero_mod, dg_zero]; exact RdP.nil _), Lib.hid (fun t h1 h2 => by omega), Lib.hid (fun _ _ => rfl), HI⟩
  case round =>
    obtain ⟨j, z, f, rfl, hz, hj, hL, hQ, hZ, hI⟩ := hrel
    by_cases h0 : j = 0
    · subst h0
      have hzn : ¬ (0 : Int) ≤ z := by omega
      obtain ⟨e1, e2⟩ := HF.out f hQ.out
      have hnn : ∀ t, t < l.length → 0 ≤ f t := fun t ht => by rw [hQ.out t (Nat.zero_le _) ht]; exact Int.natCast_nonneg _
      have hrd := hI.out.rd (Nat.le_refl _) (listOf f l.length) (listOf_len _ _) (fun t ht => by
        have := hnn t (by rw [listOf_len] at ht; exact ht)
        rw [listOf_get]; omega)
      have hcut := cut_any _ _ e1 (by rw [listOf_len]; omega) _ hrd
      rw [e2] at hcut
      have hL2 := hL.out
      rw [Nat.pow_zero, Nat.div_one] at hL2
      have HC := Lib.hid hcut
      have HL2 := Lib.hid hL2
      have HBB := Lib.hid hI.out.below
      clear e1 e2 hnn hrd hcut hL hL2 hQ hI hZ hz
      go_wp2_with (go_at_call 170; ((with_reducible refine (HC.out).mono ?_); rintro e w' ⟨v', rfl, hrd, rfl⟩))
      go_ret2
      exact ⟨_, _, rfl, hrd.weak (fun g _ h => by rw [h]; exact Nat.le_refl _), HL2.out.weak (fun g _ h => Nat.le_of_lt h), HBB.out⟩
    obtain ⟨q, rfl⟩ : ∃ q, j = q + 1 := ⟨j - 1, by omega⟩
    obtain rfl : z = (q : Int) := by omega
    have hq : q < l.length := by omega
    have hqi : (q : Int) < l.length := by omega
    obtain ⟨-, g, off, rfl, hg, hx⟩ := (HA.out.later hI.out.below).cells (by omega)
    have hcell := hx q hq
    rw [HGL.out q hq] at hcell
    obtain ⟨R, hR⟩ : ∃ R, R = a / 10 ^ (q + 1) % b := ⟨_, rfl⟩
    obtain ⟨d, hd⟩ : ∃ d, d = a / 10 ^ q % 10 := ⟨_, rfl⟩
    have hL2 := hL.out
    rw [← hR] at hL2
    rw [← hd] at hcell
    have hd9 : d < 10 := by omega
    have hRb : R < b := by rw [hR]; exact Nat.mod_lt _ hb0
    have hq1 := quo_digit' a b q hb0
    have hq2 := quo_left a b q
    have hq3 := quo_nines a b q hb0
    rw [← hR, ← hd] at hq1 hq2 hq3
    have hRl : (dg R).length ≤ 1000 := Nat.le_trans (dg_len_mono (Nat.le_of_lt hRb)) hlb
    have hcut := fun (v : Value) (W : World) (h : IBuf wr.heap.size v (d :: dg R) wr W) => cut_any v (d :: dg R) (Dig.cons (dig_dg R) hd9) (by simp only [List.length_cons]; omega) W h.rd
    rw [lv_cons, lv_dg] at hcut
    obtain ⟨T, hT⟩ : ∃ T, T = 10 * R + d := ⟨_, rfl⟩
    rw [show d + 10 * R = T by omega] at hcut
    rw [← hT] at hq1 hq2 hq3
    have hTb : T < 10 * b := by omega
    have hTl : (dg T).length ≤ 2000 := by
      have h1 := (dg_len_le (n := b) (k := (dg b).length)).1 (Nat.le_refl _)
      have h2 : (dg T).length ≤ (dg b).length + 1 := dg_len_le.2 (by rw [Nat.pow_succ]; omega)
      omega
    have hfree := fun (W : World) f (h : IRow w W w.heap.size l.length f) => h.free q hq
    have HC := Lib.hid hcut; have HL2 := Lib.hid hL2; have HRL := Lib.hid hRl
    have HQ1 := Lib.hid hq1; have HQ2 := Lib.hid hq2; have HQ3 := Lib.hid hq3; have HTL := Lib.hid hTl
    clear hx hz h0 hL hcut hL2 hRl hR hd hq1 hq2 hq3 hT hTl hRb
    go_wp2_with (first
      | (at_builtin; refine append_one rfl _ _ rfl d rfl rfl rfl HL2.out (by have := HRL.out; omega) ?_; intro v1 w1 hb1)
      | (go_at_call 170; ((with_reducible refine (HC.out _ _ hb1).mono ?_); rintro e w2 ⟨v2, rfl, hrd, rfl⟩)))
    have hI1 := Lib.hid (hI.out.later hb1.2.1)
    have hr1 := Lib.hid (hrd.weak (Q := fun g => w.heap.size < g) (fun g _ h => Nat.lt_of_lt_of_le hI.out.lt h))
    clear hrd hb1 hI
    go_loopw [7] (fun lv wr2 => ∃ (R c : Nat), c ≤ 9 ∧ Hid (RdP (fun g => w.heap.size < g) wr2 lv (dg R)) ∧ Hid (R + c * b = T) ∧ Hid (IRow w wr2 w.heap.size l.length (upd f q (c : Int)))) (fun _ wr2 => 10 - cellN wr2 w.heap.size q)
    case atStart => exact ⟨T, 0, by decide, hr1, Lib.hid (by rw [Nat.zero_mul, Nat.add_zero]), Lib.hid (hI1.out.congr (fun t _ => by unfold upd; split; rename_i e; subst e; exact hZ.out t (Nat.lt_succ_self _); rfl))⟩
    case round =>
      obtain ⟨R2, c, hc9, hr2, hRT, hI2⟩ := hrel
      clear hI1 hr1
      have hR2 := hRT.out
      have hRl2 : (dg R2).length ≤ 2000 := Nat.le_trans (dg_len_mono (by omega)) HTL.out
      have h5 := fun va vb => rcmp_any va vb R2 b (by omega) (by omega)
      by_cases hge : b ≤ R2
      · have hc8 : c + 1 ≤ 9 := by
          have h1 : (c + 1) * b < 10 * b := by rw [Nat.succ_mul]; omega
          have := Nat.lt_of_mul_lt_mul_right h1
          omega
        have hnn : (0 : Int) ≤ cmpv R2 b := by unfold cmpv; rw [if_neg (by omega)]; split <;> decide
        obtain ⟨z, hz⟩ : ∃ z, z = cmpv R2 b := ⟨_, rfl⟩
        rw [← hz] at h5 hnn
        have H5 := Lib.hid h5
        have H6 := Lib.hid (fun va vb => rless_any va vb R2 b hge (by omega))
        have HNEW := Lib.hid (show R2 - b + (c + 1) * b = T by rw [Nat.succ_mul]; omega)
        have hme := Lib.hid (cellN_row hI2.out hq)
        clear h5 hz hR2 hge
        go_wp2_with (first
          | (go_at_call 156; ((with_reducible refine (H5.out _ _ _ hr2.out.rd (HB.out.later (hI2.out.below))).mono ?_); rintro e w3 ⟨rfl, b3⟩))
          | (go_at_call 157; ((with_reducible refine (H6.out _ _ _ (hr2.out.rd.later b3) (HB.out.later ((hI2.out.later b3).below))).mono ?_); rintro e w4 ⟨v4, rfl, r4, b4⟩; have cf := ((hI2.out.later b3).later b4).cell q hq; have cfr := ((hI2.out.later b3).later b4).free q hq; rw [show upd f q (c : Int) q = (c : Int) from if_pos rfl] at cf)))
        go_roundw
        case rel =>
          refine ⟨R2 - b, c + 1, hc8, Lib.hid ?_, HNEW, Lib.hid ?_⟩
          · exact (r4.weak (Q := fun g => w.heap.size < g) (fun g _ h => Nat.lt_of_lt_of_le (hI2.out.later b3).lt h)).store _ _ _ (fun g h => by omega)
          · have h := ((hI2.out.later b3).later b4).store q ((c : Int) + 1) hq
            rw [upd_upd] at h
            rw [Int.natCast_add]
            exact h
        case measure =>
          have h := ((hI2.out.later b3).later b4).store q ((c : Int) + 1) hq
          have h2 := cellN_row h hq
          rw [show upd (upd f q (c : Int)) q ((c : Int) + 1) q = (c : Int) + 1 from if_pos rfl] at h2
          have h3 := hme.out
          rw [show upd f q (c : Int) q = (c : Int) from if_pos rfl] at h3
          omega
      · have hlt : R2 < b := by omega
        have hz : cmpv R2 b = -1 := cmpv_less hlt
        rw [hz] at h5
        have H5 := Lib.hid h5
        have hcT : c = T / b := by rw [← hR2, Nat.add_mul_div_right _ _ hb0, Nat.div_eq_of_lt hlt, Nat.zero_add]
        have hRT2 : R2 = T % b := by rw [← hR2, Nat.add_mul_mod_self_right, Nat.mod_eq_of_lt hlt]
        have HA2 := Lib.hid (quo_more hQ.out c (by rw [HQ1.out]; exact hcT) (c : Int) rfl)
        have HR2 := Lib.hid (show a / 10 ^ q % b = R2 by rw [HQ2.out]; exact hRT2.symm)
        clear h5 hz hR2 hge hlt hcT hRT2
        go_wp2_with (go_at_call 156; ((with_reducible refine (H5.out _ _ _ hr2.out.rd (HB.out.later (hI2.out.below))).mono ?_); rintro e w3 ⟨rfl, b3⟩))
        go_roundw
        case rel => exact ⟨q, _, _, rfl, by omega, by omega, Lib.hid (by rw [HR2.out]; exact hr2.out.later b3), HA2, Lib.hid (fun t ht => by unfold upd; rw [if_neg (by omega)]; exact hZ.out t (by omega)), Lib.hid (hI2.out.later b3)⟩
        case measure => simp only [intOf]; omega
end Go.Proofs.YtdgdeognahmpmaaGreatDoor
namespace Go.Proofs.YtdgdeognahmpmaaGreatDoor
open Go.RowKit Num Word
attribute [local go_sem] setCell_drewN cell?_ext frozen?_ext shape?_ext setCell_ext lt_1' ne_1' en_1' le_1' lt_2' ne_2' en_2' le_2' lt_3' ne_3' en_3' le_3' lt_4' ne_4' en_4' le_4' lt_5' ne_5' en_5' le_5' lt_6' ne_6' en_6' le_6' lt_7' ne_7' en_7' le_7' lt_8' ne_8' en_8' le_8' lt_9' ne_9' en_9' le_9' lt_10' ne_10' en_10' le_10' lt_11' ne_11' en_11' le_11' lt_12' ne_12' en_12' le_12'

end Go.Proofs.YtdgdeognahmpmaaGreatDoor
namespace Go.Proofs.YtdgdeognahmpmaaGreatDoor
open Go.RowKit Num Word
attribute [local go_sem] setCell_drewN cell?_ext frozen?_ext shape?_ext setCell_ext lt_1' ne_1' en_1' le_1' lt_2' ne_2' en_2' le_2' lt_3' ne_3' en_3' le_3' lt_4' ne_4' en_4' le_4' lt_5' ne_5' en_5' le_5' lt_6' ne_6' en_6' le_6' lt_7' ne_7' en_7' le_7' lt_8' ne_8' en_8' le_8' lt_9' ne_9' en_9' le_9' lt_10' ne_10' en_10' le_10' lt_11' ne_11' en_11' le_11' lt_12' ne_12' en_12' le_12'

theorem dg_one : dg 1 = [1] := by rw [dg_pos (by decide), show 1 / 10 = 0 from rfl, dg_zero]
theorem lit_one (W : World) : RdP (fun g => W.heap.size ≤ g) (W.alloc (.cells #[.int .i64 1] 3)) (.slice (some ⟨W.heap.size, 0, none⟩) 1 1) (dg 1) := by
  rw [dg_one]
  exact (IBuf.lit (W0 := W) (W := W) (Below.refl _ _) #[.int .i64 1] [1] rfl (by decide)).rd
set_option maxRecDepth 100000 in
set_option maxHeartbeats 16000000 in
theorem rnear_any (va vb : Value) (n t m : Nat) (ht0 : 0 < t) (hm : NearIs n t m) (hla : (dg n).length ≤ 1000) (hlb : (dg t).length ≤ 1000) (w : World) (ha : Rd w va (dg n)) (hb : Rd w vb (dg t)) :
    Calls Tryz.prog 158 #[va, vb] w fun e w' => ∃ v', e = .returned v' ∧ RdP (fun g => w.heap.size ≤ g) w' v' (dg m) ∧ Below w.heap.size w w' := by
  have HB := Lib.hid hb
  obtain ⟨q, hq⟩ : ∃ q, q = n / t := ⟨_, rfl⟩
  obtain ⟨r, hr⟩ : ∃ r, r = n % t := ⟨_, rfl⟩
  have hrt : r < t := by rw [hr]; exact Nat.mod_lt _ ht0
  have h1 := fun (W : World) => rquo_any va vb n t ht0 hla hlb w ha hb
  have hlq : (dg q).length ≤ 1000 := Nat.le_trans (dg_len_mono (by rw [hq]; exact Nat.div_le_self _ _)) hla
  have hlr : (dg r).length ≤ 1000 := Nat.le_trans (dg_len_mono (Nat.le_of_lt hrt)) hlb
  have h2 := fun va vb => rplus_any va vb r r (by omega) (by omega)
  have hl2 : (dg (r + r)).length ≤ 2000 := by
    have h5 := (dg_len_le (n := t) (k := (dg t).length)).1 (Nat.le_refl _)
    have h6 : (dg (r + r)).length ≤ (dg t).length + 1 := dg_len_le.2 (by rw [Nat.pow_succ]; omega)
    omega
  have h3 := fun va vb => rcmp_any va vb (r + r) t (by omega) (by omega)
  have h4 := fun va vb => rplus_any va vb q 1 (by omega) (by rw [dg_one]; decide)
  unfold NearIs at hm
  rw [← hq, ← hr] at h1 hm
  have H1 := Lib.hid h1; have H2 := Lib.hid h2; have H4 := Lib.hid h4
  have hgq : ∀ h : 0 < (dg q).length, (dg q)[0] = q % 10 := fun h => by rw [dg_get h, Nat.pow_zero, Nat.div_one]
  rcases hm with ⟨hc, hmq⟩ | ⟨hc, ho, hmq⟩ | ⟨hc, ho, hmq⟩ | ⟨hc, hmq⟩
  · rw [hmq]
    rw [cmpv_more hc] at h3
    have H3 := Lib.hid h3
    clear h1 h2 h3 h4 ha hb hq hr hrt hc hgq ht0 hla hlb hlq hlr hl2 hmq
    go_enter Tryz.func158, Tryz.ntmps158
    go_wp2_with (first
      | (go_at_call 171; ((with_reducible refine (H1.out w).mono ?_); rintro e w1 ⟨v1, v2, rfl, r1, r2, b1⟩; obtain ⟨p1, c1, rfl, -⟩ := r1.form))
      | (go_at_call 155; ((with_reducible refine (H2.out _ _ _ r2.rd r2.rd).mono ?_); rintro e w2 ⟨v3, rfl, r3, b2⟩))
      | (go_at_call 156; ((with_reducible refine (H3.out _ _ _ r3.rd (HB.out.later (more b1 b2))).mono ?_); rintro e w3 ⟨rfl, b3⟩; skip))
      | (go_at_call 155; ((with_reducible refine (H4.out _ _ _ ((r1.rd.later (more b2 b3)).later (by (repeat' (first | (with_reducible exact Below.refl _ _) | (with_reducible assumption) | (with_reducible refine Below.alloc ?_ ?_ _) | (with_reducible refine below_drewN ?_ _) | (with_reducible refine below_drew ?_) | (with_reducible refine below_ext ?_ ?_ _ _) | (with_reducible refine Below.setCell ?_ ?_ _) | (simp; done) | (simp; omega) | omega)))) ((lit_one w3).rd)).mono ?_); rintro e w4 ⟨v4, rfl, r4, b4⟩)))
    go_ret
    have b5 : Below w3.heap.size w3 (w3.alloc (.cells #[.int .i64 1] 3)) := by (repeat' (first | (with_reducible exact Below.refl _ _) | (with_reducible assumption) | (with_reducible refine Below.alloc ?_ ?_ _) | (with_reducible refine below_drewN ?_ _) | (with_reducible refine below_drew ?_) | (with_reducible refine below_ext ?_ ?_ _ _) | (with_reducible refine Below.setCell ?_ ?_ _) | (simp; done) | (simp; omega) | omega))
    exact ⟨_, rfl, r4.weak (fun g _ h => Nat.le_trans (more (more b1 b2) b3).size (Nat.le_trans b5.size h)), more (more (more (more b1 b2) b3) b5) b4⟩
  · rw [hmq]
    rw [show cmpv (r + r) t = 0 by rw [hc]; exact cmpv_same t] at h3
    have hp : 0 < (dg q).length := by rw [dg_pos (by omega)]; simp
    have H3 := Lib.hid h3
    have HG := Lib.hid (hgq hp)
    obtain ⟨l, hl⟩ : ∃ l, l = (dg q).length := ⟨_, rfl⟩
    have hlp : (0 : Int) < (dg q).length := by omega
    have hod : ((q % 10 : Nat) : Int) % 2 = 1 := by omega
    obtain ⟨x, hx⟩ : ∃ x, x = q % 10 := ⟨_, rfl⟩
    rw [← hx] at hod HG
    have hx9 : x ≤ 9 := by omega
    clear h1 h2 h3 h4 ha hb hq hr hrt hc hgq ht0 hla hlb hlq hlr hl2 hl hx ho hmq
    go_enter Tryz.func158, Tryz.ntmps158
    go_wp2_with (first
      | (go_at_call 171; ((with_reducible refine (H1.out w).mono ?_); rintro e w1 ⟨v1, v2, rfl, r1, r2, b1⟩; obtain ⟨p1, c1, rfl, -⟩ := r1.form))
      | (go_at_call 155; ((with_reducible refine (H2.out _ _ _ r2.rd r2.rd).mono ?_); rintro e w2 ⟨v3, rfl, r3, b2⟩))
      | (go_at_call 156; ((with_reducible refine (H3.out _ _ _ r3.rd (HB.out.later (more b1 b2))).mono ?_); rintro e w3 ⟨rfl, b3⟩; obtain ⟨-, g, off, rfl, hg, hx⟩ := (r1.later (more b2 b3)).cells hp; have cq := hx 0 hp; rw [HG.out, Nat.add_zero] at cq; clear hx))
      | (go_at_call 155; ((with_reducible refine (H4.out _ _ _ ((r1.rd.later (more b2 b3)).later (by (repeat' (first | (with_reducible exact Below.refl _ _) | (with_reducible assumption) | (with_reducible refine Below.alloc ?_ ?_ _) | (with_reducible refine below_drewN ?_ _) | (with_reducible refine below_drew ?_) | (with_reducible refine below_ext ?_ ?_ _ _) | (with_reducible refine Below.setCell ?_ ?_ _) | (simp; done) | (simp; omega) | omega)))) ((lit_one w3).rd)).mono ?_); rintro e w4 ⟨v4, rfl, r4, b4⟩)))
    go_ret
    have b5 : Below w3.heap.size w3 (w3.alloc (.cells #[.int .i64 1] 3)) := by (repeat' (first | (with_reducible exact Below.refl _ _) | (with_reducible assumption) | (with_reducible refine Below.alloc ?_ ?_ _) | (with_reducible refine below_drewN ?_ _) | (with_reducible refine below_drew ?_) | (with_reducible refine below_ext ?_ ?_ _ _) | (with_reducible refine Below.setCell ?_ ?_ _) | (simp; done) | (simp; omega) | omega))
    exact ⟨_, rfl, r4.weak (fun g _ h => Nat.le_trans (more (more b1 b2) b3).size (Nat.le_trans b5.size h)), more (more (more (more b1 b2) b3) b5) b4⟩
  · rw [hmq]
    rw [show cmpv (r + r) t = 0 by rw [hc]; exact cmpv_same t] at h3
    have H3 := Lib.hid h3
    by_cases hp : 0 < (dg q).length
    · have HPOS := Lib.hid hp
      have HG := Lib.hid (hgq hp)
      have hlp : (0 : Int) < (dg q).length := by omega
      have hod : ((q % 10 : Nat) : Int) % 2 = 0 := by omega
      obtain ⟨x, hx⟩ : ∃ x, x = q % 10 := ⟨_, rfl⟩
      rw [← hx] at hod HG
      have hx9 : x ≤ 9 := by omega
      clear h1 h2 h3 h4 ha hb hq hr hrt hc hgq ht0 hla hlb hlq hlr hl2 hx ho hmq
      go_enter Tryz.func158, Tryz.ntmps158
      go_wp2_with (first
        | (go_at_call 171; ((with_reducible refine (H1.out w).mono ?_); rintro e w1 ⟨v1, v2, rfl, r1, r2, b1⟩; obtain ⟨p1, c1, rfl, -⟩ := r1.form))
        | (go_at_call 155; ((with_reducible refine (H2.out _ _ _ r2.rd r2.rd).mono ?_); rintro e w2 ⟨v3, rfl, r3, b2⟩))
        | (go_at_call 156; ((with_reducible refine (H3.out _ _ _ r3.rd (HB.out.later (more b1 b2))).mono ?_); rintro e w3 ⟨rfl, b3⟩; obtain ⟨-, g, off, rfl, hg, hx⟩ := (r1.later (more b2 b3)).cells hp; have cq := hx 0 hp; rw [HG.out, Nat.add_zero] at cq; clear hx)))
      go_ret
      exact ⟨_, rfl, r1.later (more b2 b3), more (more b1 b2) b3⟩
    · have hlp : ¬ (0 : Int) < (dg q).length := by omega
      clear h1 h2 h3 h4 ha hb hq hr hrt hc hgq ht0 hla hlb hlq hlr hl2 hp ho hmq
      go_enter Tryz.func158, Tryz.ntmps158
      go_wp2_with (first
        | (go_at_call 171; ((with_reducible refine (H1.out w).mono ?_); rintro e w1 ⟨v1, v2, rfl, r1, r2, b1⟩; obtain ⟨p1, c1, rfl, -⟩ := r1.form))
        | (go_at_call 155; ((with_reducible refine (H2.out _ _ _ r2.rd r2.rd).mono ?_); rintro e w2 ⟨v3, rfl, r3, b2⟩))
        | (go_at_call 156; ((with_reducible refine (H3.out _ _ _ r3.rd (HB.out.later (more b1 b2))).mono ?_); rintro e w3 ⟨rfl, b3⟩; skip)))
      go_ret
      exact ⟨_, rfl, r1.later (more b2 b3), more (more b1 b2) b3⟩
  · rw [hmq]
    rw [cmpv_less hc] at h3
    have H3 := Lib.hid h3
    clear h1 h2 h3 h4 ha hb hq hr hrt hc hgq ht0 hla hlb hlq hlr hl2 hmq
    go_enter Tryz.func158, Tryz.ntmps158
    go_wp2_with (first
      | (go_at_call 171; ((with_reducible refine (H1.out w).mono ?_); rintro e w1 ⟨v1, v2, rfl, r1, r2, b1⟩; obtain ⟨p1, c1, rfl, -⟩ := r1.form))
      | (go_at_call 155; ((with_reducible refine (H2.out _ _ _ r2.rd r2.rd).mono ?_); rintro e w2 ⟨v3, rfl, r3, b2⟩))
      | (go_at_call 156; ((with_reducible refine (H3.out _ _ _ r3.rd (HB.out.later (more b1 b2))).mono ?_); rintro e w3 ⟨rfl, b3⟩; skip)))
    go_ret
    exact ⟨_, rfl, r1.later (more b2 b3), more (more b1 b2) b3⟩
end Go.Proofs.YtdgdeognahmpmaaGreatDoor
namespace Go.Proofs.YtdgdeognahmpmaaGreatDoor
open Go.RowKit Num Word
attribute [local go_sem] setCell_drewN cell?_ext frozen?_ext shape?_ext setCell_ext lt_1' ne_1' en_1' le_1' lt_2' ne_2' en_2' le_2' lt_3' ne_3' en_3' le_3' lt_4' ne_4' en_4' le_4' lt_5' ne_5' en_5' le_5' lt_6' ne_6' en_6' le_6' lt_7' ne_7' en_7' le_7' lt_8' ne_8' en_8' le_8' lt_9' ne_9' en_9' le_9' lt_10' ne_10' en_10' le_10' lt_11' ne_11' en_11' le_11' lt_12' ne_12' en_12' le_12'

theorem lit_two (w : World) (o : Obj) : RdP (fun g => w.heap.size ≤ g) ((w.alloc o).alloc (.cells #[.int .i64 1] 3)) (.slice (some ⟨w.heap.size + 1, 0, none⟩) 1 1) (dg 1) := by
  have h := lit_one (w.alloc o)
  rw [World.size_alloc] at h
  exact h.weak fun g _ h => by omega
theorem below_lit (W : World) : Below W.heap.size W (W.alloc (.cells #[.int .i64 1] 3)) := by (repeat' (first | (with_reducible exact Below.refl _ _) | (with_reducible assumption) | (with_reducible refine Below.alloc ?_ ?_ _) | (with_reducible refine below_drewN ?_ _) | (with_reducible refine below_drew ?_) | (with_reducible refine below_ext ?_ ?_ _ _) | (with_reducible refine Below.setCell ?_ ?_ _) | (simp; done) | (simp; omega) | omega))
end Go.Proofs.YtdgdeognahmpmaaGreatDoor
namespace Go.Proofs.YtdgdeognahmpmaaGreatDoor
open Go.RowKit Num Word
attribute [local go_sem] setCell_drewN cell?_ext frozen?_ext shape?_ext setCell_ext lt_1' ne_1' en_1' le_1' lt_2' ne_2' en_2' le_2' lt_3' ne_3' en_3' le_3' lt_4' ne_4' en_4' le_4' lt_5' ne_5' en_5' le_5' lt_6' ne_6' en_6' le_6' lt_7' ne_7' en_7' le_7' lt_8' ne_8' en_8' le_8' lt_9' ne_9' en_9' le_9' lt_10' ne_10' en_10' le_10' lt_11' ne_11' en_11' le_11' lt_12' ne_12' en_12' le_12'

theorem RdP.drop {P : Nat → Prop} {w : World} {g off cap : Nat} {l : List Nat} (hcap : l.length ≤ cap) (hg : g < w.heap.size) (hp : P g) (hx : ∀ j (hj : j < l.length), w.cell? ⟨g, off + j, none⟩ = some (.int .i64 (l[j] : Int))) (k : Nat) (hk : k ≤ l.length) :
    RdP P w (.slice (some ⟨g, off + k, none⟩) (l.length - k) (cap - k)) (l.drop k) := by
  refine .inr ⟨g, off + k, cap - k, by rw [List.length_drop], by rw [List.length_drop]; omega, hg, hp, fun j hj => ?_⟩
  rw [List.length_drop] at hj
  rw [Nat.add_assoc, hx (k + j) (by omega), List.getElem_drop]
theorem slice_rest (g off len cap k : Nat) (hk : k ≤ len) (hkc : k < cap) (w : World) :
    (Instr.slice 41 (.slice (some ⟨g, off, none⟩) len cap) (some (.int .i64 (k : Int))) none none).run Tryz.prog w = .ok (.slice (some ⟨g, off + k, none⟩) (len - k) (cap - k)) w := by
  have h := run_slice_l (P := Tryz.prog) w 41 (some ⟨g, off, none⟩) len cap (by kernel_rfl) .i64 (k : Int) (by omega) (by omega)
  rw [h, show Tryz.prog.elem 41 = 3 by kernel_rfl]
  have hne : ¬ cap = k := by omega
  simp [go_sem, sliced, hne]
theorem zero_digit {a t K j : Nat} (h : a = t * 10 ^ K) (hj : j < K) : a / 10 ^ j % 10 = 0 := by
  obtain ⟨i, rfl⟩ : ∃ i, K = j + 1 + i := ⟨K - (j + 1), by omega⟩
  have e : a = (t * 10 ^ i * 10) * 10 ^ j := by
    rw [h]
    simp only [Nat.pow_add, Nat.pow_one, Nat.mul_assoc, Nat.mul_comm, Nat.mul_left_comm]
  rw [e, Nat.mul_div_cancel _ (Nat.pow_pos (by decide)), Nat.mul_mod_left]
theorem last_digit {a t K : Nat} (h : a = t * 10 ^ K) : a / 10 ^ K = t := by
  rw [h, Nat.mul_div_cancel _ (Nat.pow_pos (by decide))]
end Go.Proofs.YtdgdeognahmpmaaGreatDoor
