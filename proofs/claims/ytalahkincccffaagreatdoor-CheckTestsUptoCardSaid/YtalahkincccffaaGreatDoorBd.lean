/-
  The document's Cut, twice and half.
  The document's half.
  The document's digits of words.
  The document's Of and OfLong.
  The document's ToLong and To.
  The document's Cmp and Plus.
  The document's Plus.
  The document's Less.
  The document's Times.
  The document's told, DocCmp, DocAdd, DocSub, DocMul.
  The document's DocAdd, DocSub, DocMul.
  The document's Shift, and the beginning of Quo.
  The document's Quo.
  The document's DocDiv.
  The document's Near and DocRound.
  The document's DocNarrow, DocTen, DocDigits, DocTrim.
  The document's DocTrim.
-/
import Derived.Test.YtalahkincccffaaGreatDoorBb
import Derived.Deep.OwnRows
import Derived.Lib.SmallJoins
import Derived.Test.YtalahkincccffaaGreatDoorWideC
import Derived.Test.YtalahkincccffaaGreatDoorRound
import Derived.Test.YtalahkincccffaaGreatDoorBa
import Derived.Laws.AppendOwnNone
import Derived.Test.YtalahkincccffaaGreatDoorBc
namespace Go.Proofs.YtalahkincccffaaGreatDoor
open Go.RowKit Num
attribute [local go_sem] setCell_drewN cell?_ext frozen?_ext shape?_ext setCell_ext lt_1' ne_1' en_1' le_1' lt_2' ne_2' en_2' le_2' lt_3' ne_3' en_3' le_3' lt_4' ne_4' en_4' le_4' lt_5' ne_5' en_5' le_5' lt_6' ne_6' en_6' le_6' lt_7' ne_7' en_7' le_7' lt_8' ne_8' en_8' le_8' lt_9' ne_9' en_9' le_9' lt_10' ne_10' en_10' le_10' lt_11' ne_11' en_11' le_11' lt_12' ne_12' en_12' le_12'

set_option maxRecDepth 100000 in
set_option maxHeartbeats 4000000 in
theorem twice_any (v : Value) (l : List Nat) (b : Nat) (hb1 : b ≤ 1) (hd : Dig l) (hl : l.length ≤ 100000) (w : World) (hr : Rd w v l) :
    Calls Tryz.prog 94 #[v, .int .i64 (b : Int)] w fun e w' => ∃ v', e = .returned v' ∧ RdP (fun g => w.heap.size ≤ g) w' v' (twL b l) ∧ Below w.heap.size w w' := by
  obtain ⟨p, cap, rfl, hcap⟩ := hr.form
  obtain ⟨B, hB⟩ : ∃ B, B = w.heap.size := ⟨_, rfl⟩
  have HB := Lib.hid hB
  have HR := Lib.hid hr
  have HD := Lib.hid hd
  clear hr hd hB
  go_enter Tryz.func94, Tryz.ntmps94
  go_wp2
  go_loopw [1, 5, 6] (fun bv v i wr => ∃ (k c : Nat) (acc : List Nat), bv = .int .i64 c ∧ c ≤ 1 ∧ k ≤ l.length ∧ i = .int .i64 k ∧ acc.length = k ∧ Hid (IBuf B v acc w wr) ∧ Hid (twL b l = acc ++ twL c (l.drop k))) (fun _ _ i _ => l.length - (intOf i).toNat)
  case atStart => exact ⟨0, b, [], rfl, hb1, Nat.zero_le _, rfl, rfl, Lib.hid (by rw [HB.out]; exact IBuf.nil w (by (repeat' (first | (with_reducible first | exact Below.refl _ _ | assumption | refine Below.alloc ?_ ?_ _ | refine below_drewN ?_ _ | refine below_drew ?_ | refine below_ext ?_ ?_ _ _ | refine Below.setCell ?_ ?_ _) | (simp; done) | (simp; omega) | omega)))), Lib.hid (by rw [List.drop_zero]; rfl)⟩
  case round =>
    obtain ⟨k, c, acc, rfl, hc1, hk, rfl, hal, hb0, hT⟩ := hrel
    have hb := hb0.out
    have hbel := hb.2.1
    rw [HB.out] at hbel
    have HBE := Lib.hid hbel
    clear hbel
    by_cases hlt : k < l.length
    · have hlti : (k : Int) < l.length := by omega
      obtain ⟨-, g, off, rfl, hg, hx⟩ := (HR.out.later HBE.out).cells (by omega)
      have hc := hx k hlt
      have hx9 := HD.out.get hlt
      have hT2 := hT.out
      rw [List.drop_eq_getElem_cons hlt, twL] at hT2
      obtain ⟨x, hxx⟩ : ∃ x, x = l[k] := ⟨_, rfl⟩
      rw [← hxx] at hc hx9 hT2
      have HT2 := Lib.hid hT2
      clear hx hT2 hT hxx
      go_wp2_with (at_builtin; refine append_int rfl _ _ rfl rfl w _ ((2 * x + c) % 10) (by omega) (by assumption) rfl (by omega) ?_; intro _ _ hb)
      go_roundw
      case rel => exact ⟨k + 1, (2 * x + c) / 10, acc ++ [(2 * x + c) % 10], by go_num, by omega, by omega, by go_num, by simp [hal], Lib.hid hb, Lib.hid (by rw [HT2.out, List.append_assoc]; rfl)⟩
      case measure => simp [intOf]; omega
    · obtain rfl : k = l.length := by omega
      have hT2 := hT.out
      rw [List.drop_length, twL] at hT2
      by_cases hc0 : 0 < c
      · rw [if_pos hc0] at hT2
        have HT2 := Lib.hid hT2
        have hci : (0 : Int) < c := by omega
        clear hT2 hT hc0
        go_wp2_with (at_builtin; refine append_int rfl _ _ rfl rfl w _ c rfl (by assumption) rfl (by omega) ?_; intro _ _ hb)
        go_ret
        exact ⟨_, rfl, by rw [HT2.out, ← HB.out]; exact hb.rd, by have := hb.2.1; rw [HB.out] at this; exact this⟩
      · rw [if_neg hc0, List.append_nil] at hT2
        have HT2 := Lib.hid hT2
        obtain rfl : c = 0 := by omega
        clear hT2 hT hc0
        go_wp2
        go_ret
        exact ⟨_, rfl, by rw [HT2.out, ← HB.out]; exact hb.rd, HBE.out⟩
end Go.Proofs.YtalahkincccffaaGreatDoor
namespace Go.Proofs.YtalahkincccffaaGreatDoor
open Go.RowKit Num
attribute [local go_sem] setCell_drewN cell?_ext frozen?_ext shape?_ext setCell_ext lt_1' ne_1' en_1' le_1' lt_2' ne_2' en_2' le_2' lt_3' ne_3' en_3' le_3' lt_4' ne_4' en_4' le_4' lt_5' ne_5' en_5' le_5' lt_6' ne_6' en_6' le_6' lt_7' ne_7' en_7' le_7' lt_8' ne_8' en_8' le_8' lt_9' ne_9' en_9' le_9' lt_10' ne_10' en_10' le_10' lt_11' ne_11' en_11' le_11' lt_12' ne_12' en_12' le_12'

theorem IRow.made {W0 w : World} (hb : Below W0.heap.size W0 w) (n : Nat) : IRow W0 (w.alloc (.cells (madeCells #[.int .i64 0] n) 3)) w.heap.size n (fun _ => 0) := by
  refine ⟨hb.size, by rw [World.size_alloc]; omega, hb.alloc hb.size _, fun j hj => ?_, fun j hj => ?_⟩
  · rw [World.cell?_alloc_at _ _ _ _ rfl]
    simp [madeCells, hj, Nat.mod_one]
  · have h1 : (w.alloc (.cells (madeCells #[.int .i64 0] n) 3)).heap[w.heap.size]? = some (.cells (madeCells #[.int .i64 0] n) 3) := by
      show (w.heap.push _)[w.heap.size]? = _
      simp
    unfold World.frozen?
    rw [h1]
    simp
end Go.Proofs.YtalahkincccffaaGreatDoor
namespace Go.Proofs.YtalahkincccffaaGreatDoor
open Go.RowKit Num
attribute [local go_sem] setCell_drewN cell?_ext frozen?_ext shape?_ext setCell_ext lt_1' ne_1' en_1' le_1' lt_2' ne_2' en_2' le_2' lt_3' ne_3' en_3' le_3' lt_4' ne_4' en_4' le_4' lt_5' ne_5' en_5' le_5' lt_6' ne_6' en_6' le_6' lt_7' ne_7' en_7' le_7' lt_8' ne_8' en_8' le_8' lt_9' ne_9' en_9' le_9' lt_10' ne_10' en_10' le_10' lt_11' ne_11' en_11' le_11' lt_12' ne_12' en_12' le_12'

def Ws (w : World) (v : Value) (n N : Nat) : Prop := ∃ g cap, v = .slice (some ⟨g, 0, none⟩) n cap ∧ g < w.heap.size ∧ ∀ j, j < n → w.cell? ⟨g, j, none⟩ = some (.int .u64 ((N / 2 ^ (64 * j) % 18446744073709551616 : Nat) : Int))
theorem bit_at (N i k : Nat) (hk : k < 64) : N / 2 ^ (64 * i) % 18446744073709551616 / 2 ^ k % 2 = N / 2 ^ (64 * i + k) % 2 := by
  have e : (18446744073709551616 : Nat) = 2 ^ k * 2 ^ (64 - k) := by rw [← Nat.pow_add, show k + (64 - k) = 64 by omega]
  rw [e, Nat.mod_mul_right_div_self, Nat.pow_add, ← Nat.div_div_eq_div_mul]
  have h2 : 2 ^ (64 - k) = 2 * 2 ^ (63 - k) := by rw [← Nat.pow_succ']; congr 1; omega
  rw [h2, Nat.mod_mul_right_mod]
theorem bit_step (N p : Nat) : N / 2 ^ p = 2 * (N / 2 ^ (p + 1)) + N / 2 ^ p % 2 := by
  rw [Nat.pow_succ, ← Nat.div_div_eq_div_mul]; omega
theorem and_one (a : Nat) (ha : a < 18446744073709551616) : bits .and .u64 (a : Int) 1 = ((a % 2 : Nat) : Int) := by
  have h := bits_and_u64_nat a 1 ha (by omega)
  rw [Nat.and_one_is_mod] at h
  exact h
set_option maxRecDepth 100000 in
set_option maxHeartbeats 4000000 in
theorem words_any (v : Value) (n N : Nat) (hn : n ≤ 4) (hN : N < 2 ^ (64 * n)) (w : World) (hr : Ws w v n N) :
    Calls Tryz.prog 83 #[v] w fun e w' => ∃ v', e = .returned v' ∧ RdP (fun g => w.heap.size ≤ g) w' v' (dg N) ∧ Below w.heap.size w w' := by
  obtain ⟨g, cap, rfl, hg, hx⟩ := hr
  have HX := Lib.hid hx
  clear hx
  go_enter Tryz.func83, Tryz.ntmps83
  go_wp2
  go_loopw [3, 4] (fun d i wr => ∃ (j : Nat) (z : Int), i = .int .i64 z ∧ z = (j : Int) - 1 ∧ j ≤ n ∧ Hid (RdP (fun g => w.heap.size ≤ g) wr d (dg (N / 2 ^ (64 * j)))) ∧ Hid (Below w.heap.size w wr)) (fun _ i _ => (intOf i + 1).toNat)
  case atStart => exact ⟨n, _, rfl, rfl, Nat.le_refl _, Lib.hid (by rw [Nat.div_eq_of_lt hN, dg_zero]; exact RdP.nil w), Lib.hid (by (repeat' (first | (with_reducible first | exact Below.refl _ _ | assumption | refine Below.alloc ?_ ?_ _ | refine below_drewN ?_ _ | refine below_drew ?_ | refine below_ext ?_ ?_ _ _ | refine Below.setCell ?_ ?_ _) | (simp; done) | (simp; omega) | omega)))⟩
  case round =>
    obtain ⟨j, z, rfl, hz, hj, hd, hbel⟩ := hrel
    by_cases h0 : j = 0
    · subst h0
      have hzn : ¬ (0 : Int) ≤ z := by omega
      have hd2 := hd.out
      rw [Nat.mul_zero, Nat.pow_zero, Nat.div_one] at hd2
      have HD := Lib.hid hd2
      clear hz hd2 hd
      go_wp2
      go_ret
      exact ⟨_, rfl, HD.out, hbel.out⟩
    obtain ⟨q, rfl⟩ : ∃ q, j = q + 1 := ⟨j - 1, by omega⟩
    obtain rfl : z = (q : Int) := by omega
    have hq : q < n := by omega
    have hqi : (q : Int) < n := by omega
    clear hz h0
    go_wp2
    go_loopw [3, 5] (fun d i wr2 => ∃ (m : Nat) (z : Int), i = .int .i64 z ∧ z = (m : Int) - 1 ∧ m ≤ 64 ∧ Hid (RdP (fun g => w.heap.size ≤ g) wr2 d (dg (N / 2 ^ (64 * q + m)))) ∧ Hid (Below w.heap.size w wr2)) (fun _ i _ => (intOf i + 1).toNat)
    case atStart => exact ⟨64, _, rfl, rfl, Nat.le_refl _, Lib.hid hd.out, hbel⟩
    case round =>
      obtain ⟨m, z, rfl, hz, hm, hd2, hbel2⟩ := hrel
      by_cases h0 : m = 0
      · subst h0
        have hzn : ¬ (0 : Int) ≤ z := by omega
        clear hz hd hbel
        go_wp2
        go_roundw
        case rel => exact ⟨q, _, rfl, rfl, by omega, hd2, hbel2⟩
        case measure => simp only [intOf]; omega
      obtain ⟨k, rfl⟩ : ∃ k, m = k + 1 := ⟨m - 1, by omega⟩
      obtain rfl : z = (k : Int) := by omega
      have hk : k < 64 := by omega
      have hki : (k : Int) < 64 := by omega
      have hcell : _ = _ := (hbel2.out.cell (p := ⟨g, q, none⟩) hg).trans (HX.out q hq)
      have hbit := bit_at N q k hk
      have hst := bit_step N (64 * q + k)
      obtain ⟨x, hxx⟩ : ∃ x, x = N / 2 ^ (64 * q) % 18446744073709551616 := ⟨_, rfl⟩
      rw [← hxx] at hcell hbit
      have hxl : x < 18446744073709551616 := by omega
      obtain ⟨b, hbb⟩ : ∃ b, b = x / 2 ^ k % 2 := ⟨_, rfl⟩
      have hb1 : b ≤ 1 := by omega
      have E1 : bits .and .u64 ((x : Int) / 2 ^ k) 1 = (b : Int) := by
        have h := and_one (x / 2 ^ k) (Nat.lt_of_le_of_lt (Nat.div_le_self _ _) hxl)
        rw [← hbb] at h
        rw [← h, Int.natCast_ediv, Int.natCast_pow]; rfl
      have W1 : wrap64 (b : Int) = (b : Int) := by unfold wrap64; omega
      rw [← hbb] at hbit
      rw [← hbit] at hst
      have hlen : (dg (N / 2 ^ (64 * q + (k + 1)))).length ≤ 100 := dg_len_le.2 (Nat.lt_of_le_of_lt (Nat.div_le_self _ _) (Nat.lt_of_lt_of_le hN (Nat.le_trans (Nat.pow_le_pow_right (by decide) (show 64 * n ≤ 256 by omega)) (by decide))))
      have htw := twice_any _ (dg (N / 2 ^ (64 * q + (k + 1)))) b hb1 (dig_dg _) (by omega) wr hd2.out.rd
      rw [twL_dg _ _ hb1, show 64 * q + (k + 1) = 64 * q + k + 1 by omega, ← hst] at htw
      have HT := Lib.hid htw
      clear hz h0 hd hbel hxx hbb htw hst hlen hd2 hbit
      go_wp2_with (go_at_call 94; ((with_reducible refine (HT.out).mono ?_); rintro e w' ⟨v', rfl, hrd, hb2⟩))
      go_roundw
      case rel => exact ⟨k, _, rfl, by omega, by omega, Lib.hid (hrd.weak fun g _ h => Nat.le_trans hbel2.out.size h), Lib.hid (hbel2.out.trans ⟨hb2.os, hb2.tape, hb2.output, hb2.size, fun k hk => hb2.block k (Nat.lt_of_lt_of_le hk hbel2.out.size)⟩)⟩
      case measure => simp only [intOf]; omega
end Go.Proofs.YtalahkincccffaaGreatDoor
namespace Go.Proofs.YtalahkincccffaaGreatDoor
open Go.RowKit Num Word
attribute [local go_sem] setCell_drewN cell?_ext frozen?_ext shape?_ext setCell_ext lt_1' ne_1' en_1' le_1' lt_2' ne_2' en_2' le_2' lt_3' ne_3' en_3' le_3' lt_4' ne_4' en_4' le_4' lt_5' ne_5' en_5' le_5' lt_6' ne_6' en_6' le_6' lt_7' ne_7' en_7' le_7' lt_8' ne_8' en_8' le_8' lt_9' ne_9' en_9' le_9' lt_10' ne_10' en_10' le_10' lt_11' ne_11' en_11' le_11' lt_12' ne_12' en_12' le_12'

theorem ws_lit (w : World) (n N : Nat) (C : Array Value) (hC : ∀ j, j < n → C[j]? = some (.int .u64 ((N / 2 ^ (64 * j) % 18446744073709551616 : Nat) : Int))) : Ws (w.alloc (.cells C 33)) (.slice (some ⟨w.heap.size, 0, none⟩) n n) n N := by
  refine ⟨w.heap.size, n, rfl, by rw [World.size_alloc]; omega, fun j hj => ?_⟩
  rw [World.cell?_alloc_at _ _ _ _ rfl]
  exact hC j hj
theorem ws_lit2 (w : World) (o : Obj) (n N : Nat) (C : Array Value) (hC : ∀ j, j < n → C[j]? = some (.int .u64 ((N / 2 ^ (64 * j) % 18446744073709551616 : Nat) : Int))) : Ws ((w.alloc o).alloc (.cells C 33)) (.slice (some ⟨w.heap.size + 1, 0, none⟩) n n) n N := by
  have h := ws_lit (w.alloc o) n N C hC
  rw [World.size_alloc] at h
  exact h
theorem more {w w1 w2 : World} (h : Below w.heap.size w w1) (h2 : Below w1.heap.size w1 w2) : Below w.heap.size w w2 :=
  h.trans ⟨h2.os, h2.tape, h2.output, h2.size, fun k hk => h2.block k (Nat.lt_of_lt_of_le hk h.size)⟩
set_option maxHeartbeats 4000000 in
theorem of_any (n : Nat) (hn : n < 340282366920938463463374607431768211456) (w : World) :
    Calls Tryz.prog 64 #[W n] w fun e w' => ∃ v', e = .returned v' ∧ RdP (fun g => w.heap.size ≤ g) w' v' (dg n) ∧ Below w.heap.size w w' := by
  obtain ⟨a, ha⟩ : ∃ a, a = hi n := ⟨_, rfl⟩
  obtain ⟨b, hb⟩ : ∃ b, b = lo n := ⟨_, rfl⟩
  have hws := ws_lit2 w (.cells #[.int .u64 (a : Int), .int .u64 (b : Int)] 35) 2 n #[.int .u64 (b : Int), .int .u64 (a : Int)] (fun j hj => by
    rcases (show j = 0 ∨ j = 1 by omega) with rfl | rfl
    · simp [hb, lo]
    · have e : n / 18446744073709551616 % 18446744073709551616 = hi n := by unfold hi; omega
      show some (Value.int .u64 (a : Int)) = some (.int .u64 ((n / 18446744073709551616 % 18446744073709551616 : Nat) : Int))
      rw [e, ha])
  have hbel : Below w.heap.size w ((w.alloc (.cells #[.int .u64 (a : Int), .int .u64 (b : Int)] 35)).alloc (.cells #[.int .u64 (b : Int), .int .u64 (a : Int)] 33)) := by (repeat' (first | (with_reducible first | exact Below.refl _ _ | assumption | refine Below.alloc ?_ ?_ _ | refine below_drewN ?_ _ | refine below_drew ?_ | refine below_ext ?_ ?_ _ _ | refine Below.setCell ?_ ?_ _) | (simp; done) | (simp; omega) | omega))
  have HB := Lib.hid hbel
  have HW := Lib.hid (words_any _ 2 n (by decide) hn _ hws)
  show Calls Tryz.prog 64 #[.agg #[.int .u64 (hi n : Int), .int .u64 (lo n : Int)]] w _
  rw [← ha, ← hb]
  clear hws hbel ha hb
  go_enter Tryz.func64, Tryz.ntmps64
  go_wp2_with (go_at_call 83; ((with_reducible refine (HW.out).mono ?_); rintro e w' ⟨v', rfl, hrd, hb2⟩))
  go_ret
  exact ⟨_, rfl, hrd.weak (fun g _ h => Nat.le_trans HB.out.size h), more HB.out hb2⟩
end Go.Proofs.YtalahkincccffaaGreatDoor
namespace Go.Proofs.YtalahkincccffaaGreatDoor
open Go.RowKit Num Word
attribute [local go_sem] setCell_drewN cell?_ext frozen?_ext shape?_ext setCell_ext lt_1' ne_1' en_1' le_1' lt_2' ne_2' en_2' le_2' lt_3' ne_3' en_3' le_3' lt_4' ne_4' en_4' le_4' lt_5' ne_5' en_5' le_5' lt_6' ne_6' en_6' le_6' lt_7' ne_7' en_7' le_7' lt_8' ne_8' en_8' le_8' lt_9' ne_9' en_9' le_9' lt_10' ne_10' en_10' le_10' lt_11' ne_11' en_11' le_11' lt_12' ne_12' en_12' le_12'

structure U4 (W0 w : World) (g : Nat) (f : Nat → Nat) : Prop where
  own : W0.heap.size ≤ g
  lt : g < w.heap.size
  cell : ∀ j, j < 4 → w.cell? ⟨g, j, none⟩ = some (.int .u64 (f j : Int))
  free : ∀ j, j < 4 → w.frozen? ⟨g, j, none⟩ = false
theorem U4.later {W0 w w' : World} {g : Nat} {f : Nat → Nat} (h : U4 W0 w g f) (hb : Below w.heap.size w w') : U4 W0 w' g f :=
  ⟨h.own, Nat.lt_of_lt_of_le h.lt hb.size, fun j hj => by rw [← h.cell j hj]; exact (bcell hb).1 g j h.lt, fun j hj => by rw [← h.free j hj]; exact (bcell hb).2 g j h.lt⟩
theorem U4.store {W0 w : World} {g : Nat} {f : Nat → Nat} (h : U4 W0 w g f) (k v : Nat) (hk : k < 4) : U4 W0 (w.setCell ⟨g, k, none⟩ (.int .u64 (v : Int))) g (fun j => if j = k then v else f j) := by
  refine ⟨h.own, by rw [World.size_setCell]; exact h.lt, fun j hj => ?_, fun j hj => by rw [World.frozen?_setCell]; exact h.free j hj⟩
  by_cases e : j = k
  · subst e
    rw [World.cell?_setCell_same w _ _ (h.cell j hj)]
    simp
  · rw [World.cell?_setCell_other w _ _ _ (by intro e2; injection e2 with _ e3 _; exact e e3.symm), h.cell j hj]
    simp [e]
theorem U4.drew {W0 w : World} {g : Nat} {f : Nat → Nat} (h : U4 W0 w g f) : U4 W0 w.drew g f := ⟨h.own, h.lt, h.cell, h.free⟩
theorem U4.congr {W0 w : World} {g : Nat} {f f' : Nat → Nat} (h : U4 W0 w g f) (he : ∀ j, f j = f' j) : U4 W0 w g f' := by
  rw [← show f = f' from funext he]; exact h
theorem U4.other {W0 w : World} {g g' : Nat} {f : Nat → Nat} (h : U4 W0 w g f) (k : Nat) (v : Value) (hg : g ≠ g') : U4 W0 (w.setCell ⟨g', k, none⟩ v) g f := by
  refine ⟨h.own, by rw [World.size_setCell]; exact h.lt, fun j hj => ?_, fun j hj => by rw [World.frozen?_setCell]; exact h.free j hj⟩
  rw [World.cell?_setCell_other w _ _ _ (by intro e2; injection e2 with e3; exact hg e3.symm), h.cell j hj]
end Go.Proofs.YtalahkincccffaaGreatDoor
namespace Go.Proofs.YtalahkincccffaaGreatDoor
open Go.RowKit Num Word
attribute [local go_sem] setCell_drewN cell?_ext frozen?_ext shape?_ext setCell_ext lt_1' ne_1' en_1' le_1' lt_2' ne_2' en_2' le_2' lt_3' ne_3' en_3' le_3' lt_4' ne_4' en_4' le_4' lt_5' ne_5' en_5' le_5' lt_6' ne_6' en_6' le_6' lt_7' ne_7' en_7' le_7' lt_8' ne_8' en_8' le_8' lt_9' ne_9' en_9' le_9' lt_10' ne_10' en_10' le_10' lt_11' ne_11' en_11' le_11' lt_12' ne_12' en_12' le_12'

end Go.Proofs.YtalahkincccffaaGreatDoor
namespace Go.Proofs.YtalahkincccffaaGreatDoor
open Go.RowKit Num Word
attribute [local go_sem] setCell_drewN cell?_ext frozen?_ext shape?_ext setCell_ext lt_1' ne_1' en_1' le_1' lt_2' ne_2' en_2' le_2' lt_3' ne_3' en_3' le_3' lt_4' ne_4' en_4' le_4' lt_5' ne_5' en_5' le_5' lt_6' ne_6' en_6' le_6' lt_7' ne_7' en_7' le_7' lt_8' ne_8' en_8' le_8' lt_9' ne_9' en_9' le_9' lt_10' ne_10' en_10' le_10' lt_11' ne_11' en_11' le_11' lt_12' ne_12' en_12' le_12'

end Go.Proofs.YtalahkincccffaaGreatDoor
namespace Go.Proofs.YtalahkincccffaaGreatDoor
open Go.RowKit Num Word
attribute [local go_sem] setCell_drewN cell?_ext frozen?_ext shape?_ext setCell_ext lt_1' ne_1' en_1' le_1' lt_2' ne_2' en_2' le_2' lt_3' ne_3' en_3' le_3' lt_4' ne_4' en_4' le_4' lt_5' ne_5' en_5' le_5' lt_6' ne_6' en_6' le_6' lt_7' ne_7' en_7' le_7' lt_8' ne_8' en_8' le_8' lt_9' ne_9' en_9' le_9' lt_10' ne_10' en_10' le_10' lt_11' ne_11' en_11' le_11' lt_12' ne_12' en_12' le_12'

theorem IRow.drew {W0 w : World} {g n : Nat} {f : Nat → Int} (h : IRow W0 w g n f) : IRow W0 w.drew g n f := ⟨h.own, h.lt, below_drew h.below, h.cell, h.free⟩
end Go.Proofs.YtalahkincccffaaGreatDoor
namespace Go.Proofs.YtalahkincccffaaGreatDoor
open Go.RowKit Num Word
attribute [local go_sem] setCell_drewN cell?_ext frozen?_ext shape?_ext setCell_ext lt_1' ne_1' en_1' le_1' lt_2' ne_2' en_2' le_2' lt_3' ne_3' en_3' le_3' lt_4' ne_4' en_4' le_4' lt_5' ne_5' en_5' le_5' lt_6' ne_6' en_6' le_6' lt_7' ne_7' en_7' le_7' lt_8' ne_8' en_8' le_8' lt_9' ne_9' en_9' le_9' lt_10' ne_10' en_10' le_10' lt_11' ne_11' en_11' le_11' lt_12' ne_12' en_12' le_12'

end Go.Proofs.YtalahkincccffaaGreatDoor
namespace Go.Proofs.YtalahkincccffaaGreatDoor
open Go.RowKit Num Word
attribute [local go_sem] setCell_drewN cell?_ext frozen?_ext shape?_ext setCell_ext lt_1' ne_1' en_1' le_1' lt_2' ne_2' en_2' le_2' lt_3' ne_3' en_3' le_3' lt_4' ne_4' en_4' le_4' lt_5' ne_5' en_5' le_5' lt_6' ne_6' en_6' le_6' lt_7' ne_7' en_7' le_7' lt_8' ne_8' en_8' le_8' lt_9' ne_9' en_9' le_9' lt_10' ne_10' en_10' le_10' lt_11' ne_11' en_11' le_11' lt_12' ne_12' en_12' le_12'

end Go.Proofs.YtalahkincccffaaGreatDoor
namespace Go.Proofs.YtalahkincccffaaGreatDoor
open Go.RowKit Num Word
attribute [local go_sem] setCell_drewN cell?_ext frozen?_ext shape?_ext setCell_ext lt_1' ne_1' en_1' le_1' lt_2' ne_2' en_2' le_2' lt_3' ne_3' en_3' le_3' lt_4' ne_4' en_4' le_4' lt_5' ne_5' en_5' le_5' lt_6' ne_6' en_6' le_6' lt_7' ne_7' en_7' le_7' lt_8' ne_8' en_8' le_8' lt_9' ne_9' en_9' le_9' lt_10' ne_10' en_10' le_10' lt_11' ne_11' en_11' le_11' lt_12' ne_12' en_12' le_12'

end Go.Proofs.YtalahkincccffaaGreatDoor
namespace Go.Proofs.YtalahkincccffaaGreatDoor
open Go.RowKit Num Word
attribute [local go_sem] setCell_drewN cell?_ext frozen?_ext shape?_ext setCell_ext lt_1' ne_1' en_1' le_1' lt_2' ne_2' en_2' le_2' lt_3' ne_3' en_3' le_3' lt_4' ne_4' en_4' le_4' lt_5' ne_5' en_5' le_5' lt_6' ne_6' en_6' le_6' lt_7' ne_7' en_7' le_7' lt_8' ne_8' en_8' le_8' lt_9' ne_9' en_9' le_9' lt_10' ne_10' en_10' le_10' lt_11' ne_11' en_11' le_11' lt_12' ne_12' en_12' le_12'

theorem append_rd {ops : Array Oper} {rest : List Oper} {o : Oper} {a : Act} {Q : Exit → Act → World → Prop} {w : World} (hgd : o.guard = none) (s x : Operand)
    (ho : o.op = .call { callee := .builtin .append, args := #[s, x], argTypes := #[53, 53] })
    {B : Nat} {v : Value} {l : List Nat} {W0 : World} (hs : a.eval s = v) (hb : IBuf B v l W0 w) {g off cap : Nat} {m : List Nat} (hx : a.eval x = .slice (some ⟨g, off, none⟩) m.length cap)
    (hc : ∀ j (hj : j < m.length), w.cell? ⟨g, off + j, none⟩ = some (.int .i64 (m[j] : Int))) (hlen : l.length + m.length ≤ 1000000)
    (h : ∀ v' w', IBuf B v' (l ++ m) W0 w' → wpList Tryz.prog ops Q rest (a.put o.dst v') w') : wpList Tryz.prog ops Q (o :: rest) a w := by
  obtain ⟨i0, hi, hz0, hz1, hz2⟩ := info_parts infoInt
  refine wpList_append_ownF _ hgd s x 53 ho B 3 i0 (.int .i64 0) 1 8 Tryz.underlying53 hi hz0 hz1 hz2 rfl (by decide) v l.length (intCellsN l) hs hb.1 ⟨g, off, none⟩ m.length cap (intCellsN m) hx (by simp [intCellsN]) ?_ ?_ (by unfold maxLen; omega) (by omega) hb.2.2 ?_
  · intro j u hj
    obtain ⟨hlt, e⟩ : ∃ h : j < m.length, .int .i64 (m[j] : Int) = u := by
      obtain ⟨h1, h2⟩ := List.getElem?_eq_some_iff.1 hj
      have h3 : j < m.length := by simpa [intCellsN] using h1
      exact ⟨h3, by simpa [intCellsN] using h2⟩
    have ead : (⟨g, off, none⟩ : Addr).add j = ⟨g, off + j, none⟩ := by
      by_cases h0 : j = 0
      · subst h0; rfl
      · simp [Addr.add, h0]
    rw [ead, ← e, ← hc j hlt]
  · intro u hu
    simp only [intCellsN, List.mem_map] at hu
    obtain ⟨c, _, rfl⟩ := hu
    rfl
  · intro v' w' ho' hg _
    exact h v' w' (IBuf.congr (hb.grown ho' hg) (by rw [List.length_append]) (by simp [intCellsN]))
theorem IBuf.lit {W0 W : World} (hb : Below W0.heap.size W0 W) (C : Array Value) (l : List Nat) (hC : C.toList = intCellsN l) (hl : l.length ≤ 1000000) : IBuf W0.heap.size (.slice (some ⟨W.heap.size, 0, none⟩) l.length l.length) l W0 (W.alloc (.cells C 3)) := by
  have h := World.ownsRow_lit (w := W) (base := W0.heap.size) (e := 3) (size := 1) C l.length hb.size (by unfold maxLen; omega) (by rw [← Array.length_toList, hC]; simp [intCellsN])
  rw [hC] at h
  exact ⟨World.ownsRowF_of h, hb.alloc hb.size _, by rw [World.size_alloc]; have := hb.size; omega⟩
end Go.Proofs.YtalahkincccffaaGreatDoor
namespace Go.Proofs.YtalahkincccffaaGreatDoor
open Go.RowKit Num Word
attribute [local go_sem] setCell_drewN cell?_ext frozen?_ext shape?_ext setCell_ext lt_1' ne_1' en_1' le_1' lt_2' ne_2' en_2' le_2' lt_3' ne_3' en_3' le_3' lt_4' ne_4' en_4' le_4' lt_5' ne_5' en_5' le_5' lt_6' ne_6' en_6' le_6' lt_7' ne_7' en_7' le_7' lt_8' ne_8' en_8' le_8' lt_9' ne_9' en_9' le_9' lt_10' ne_10' en_10' le_10' lt_11' ne_11' en_11' le_11' lt_12' ne_12' en_12' le_12'

end Go.Proofs.YtalahkincccffaaGreatDoor
namespace Go.Proofs.YtalahkincccffaaGreatDoor
open Go.RowKit Num Word
attribute [local go_sem] setCell_drewN cell?_ext frozen?_ext shape?_ext setCell_ext lt_1' ne_1' en_1' le_1' lt_2' ne_2' en_2' le_2' lt_3' ne_3' en_3' le_3' lt_4' ne_4' en_4' le_4' lt_5' ne_5' en_5' le_5' lt_6' ne_6' en_6' le_6' lt_7' ne_7' en_7' le_7' lt_8' ne_8' en_8' le_8' lt_9' ne_9' en_9' le_9' lt_10' ne_10' en_10' le_10' lt_11' ne_11' en_11' le_11' lt_12' ne_12' en_12' le_12'

end Go.Proofs.YtalahkincccffaaGreatDoor
namespace Go.Proofs.YtalahkincccffaaGreatDoor
open Go.RowKit Num Word
attribute [local go_sem] setCell_drewN cell?_ext frozen?_ext shape?_ext setCell_ext lt_1' ne_1' en_1' le_1' lt_2' ne_2' en_2' le_2' lt_3' ne_3' en_3' le_3' lt_4' ne_4' en_4' le_4' lt_5' ne_5' en_5' le_5' lt_6' ne_6' en_6' le_6' lt_7' ne_7' en_7' le_7' lt_8' ne_8' en_8' le_8' lt_9' ne_9' en_9' le_9' lt_10' ne_10' en_10' le_10' lt_11' ne_11' en_11' le_11' lt_12' ne_12' en_12' le_12'

end Go.Proofs.YtalahkincccffaaGreatDoor
namespace Go.Proofs.YtalahkincccffaaGreatDoor
open Go.RowKit Num Word
attribute [local go_sem] setCell_drewN cell?_ext frozen?_ext shape?_ext setCell_ext lt_1' ne_1' en_1' le_1' lt_2' ne_2' en_2' le_2' lt_3' ne_3' en_3' le_3' lt_4' ne_4' en_4' le_4' lt_5' ne_5' en_5' le_5' lt_6' ne_6' en_6' le_6' lt_7' ne_7' en_7' le_7' lt_8' ne_8' en_8' le_8' lt_9' ne_9' en_9' le_9' lt_10' ne_10' en_10' le_10' lt_11' ne_11' en_11' le_11' lt_12' ne_12' en_12' le_12'

end Go.Proofs.YtalahkincccffaaGreatDoor
namespace Go.Proofs.YtalahkincccffaaGreatDoor
open Go.RowKit Num Word
attribute [local go_sem] setCell_drewN cell?_ext frozen?_ext shape?_ext setCell_ext lt_1' ne_1' en_1' le_1' lt_2' ne_2' en_2' le_2' lt_3' ne_3' en_3' le_3' lt_4' ne_4' en_4' le_4' lt_5' ne_5' en_5' le_5' lt_6' ne_6' en_6' le_6' lt_7' ne_7' en_7' le_7' lt_8' ne_8' en_8' le_8' lt_9' ne_9' en_9' le_9' lt_10' ne_10' en_10' le_10' lt_11' ne_11' en_11' le_11' lt_12' ne_12' en_12' le_12'

theorem RdP.drop {P : Nat → Prop} {w : World} {g off cap : Nat} {l : List Nat} (hcap : l.length ≤ cap) (hg : g < w.heap.size) (hp : P g) (hx : ∀ j (hj : j < l.length), w.cell? ⟨g, off + j, none⟩ = some (.int .i64 (l[j] : Int))) (k : Nat) (hk : k ≤ l.length) :
    RdP P w (.slice (some ⟨g, off + k, none⟩) (l.length - k) (cap - k)) (l.drop k) := by
  refine .inr ⟨g, off + k, cap - k, by rw [List.length_drop], by rw [List.length_drop]; omega, hg, hp, fun j hj => ?_⟩
  rw [List.length_drop] at hj
  rw [Nat.add_assoc, hx (k + j) (by omega), List.getElem_drop]
end Go.Proofs.YtalahkincccffaaGreatDoor
