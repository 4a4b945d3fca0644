/-
  The document's ToLong and To.
-/
import Derived.Test.YtnaajhhdpcdakaaGreatDoorRefD
import Derived.Lib.SmallJoins
namespace Go.Proofs.YtnaajhhdpcdakaaGreatDoor
open Go.RowKit Num Word
attribute [local go_sem] setCell_drewN cell?_ext frozen?_ext shape?_ext setCell_ext lt_1' ne_1' en_1' le_1' lt_2' ne_2' en_2' le_2' lt_3' ne_3' en_3' le_3' lt_4' ne_4' en_4' le_4' lt_5' ne_5' en_5' le_5' lt_6' ne_6' en_6' le_6' lt_7' ne_7' en_7' le_7' lt_8' ne_8' en_8' le_8' lt_9' ne_9' en_9' le_9' lt_10' ne_10' en_10' le_10' lt_11' ne_11' en_11' le_11' lt_12' ne_12' en_12' le_12'

/-- a block of the call's own holds four words, and may be written -/
structure U4 (W0 w : World) (g : Nat) (f : Nat → Nat) : Prop where
  own : W0.heap.size ≤ g
  lt : g < w.heap.size
  cell : ∀ j, j < 4 → w.cell? ⟨g, j, none⟩ = some (.int .u64 (f j : Int))
  free : ∀ j, j < 4 → w.frozen? ⟨g, j, none⟩ = false
theorem U4.later {W0 w w' : World} {g : Nat} {f : Nat → Nat} (h : U4 W0 w g f) (hb : Below w.heap.size w w') : U4 W0 w' g f :=
  ⟨h.own, Nat.lt_of_lt_of_le h.lt hb.size, fun j hj => by rw [← h.cell j hj]; exact (bcell hb).1 g j h.lt, fun j hj => by rw [← h.free j hj]; exact (bcell hb).2 g j h.lt⟩
theorem U4.store {W0 w : World} {g : Nat} {f : Nat → Nat} (h : U4 W0 w g f) (k v : Nat) (hk : k < 4) : U4 W0 (w.setCell ⟨g, k, none⟩ (.int .u64 (v : Int))) g (fun j => if j = k then v else f j) := by
  refine ⟨h.own, by rw [World.size_setCell]; exact h.lt, fun j hj => ?_, fun j hj => by rw [World.frozen?_setCell]; exact h.free j hj⟩
  by_cases e : j = k
  · subst e
    rw [World.cell?_setCell_same w _ _ (h.cell j hj)]
    simp
  · rw [World.cell?_setCell_other w _ _ _ (by intro e2; injection e2 with _ e3 _; exact e e3.symm), h.cell j hj]
    simp [e]
theorem U4.drew {W0 w : World} {g : Nat} {f : Nat → Nat} (h : U4 W0 w g f) : U4 W0 w.drew g f := ⟨h.own, h.lt, h.cell, h.free⟩
theorem U4.congr {W0 w : World} {g : Nat} {f f' : Nat → Nat} (h : U4 W0 w g f) (he : ∀ j, f j = f' j) : U4 W0 w g f' := by
  rw [← show f = f' from funext he]; exact h
theorem U4.other {W0 w : World} {g g' : Nat} {f : Nat → Nat} (h : U4 W0 w g f) (k : Nat) (v : Value) (hg : g ≠ g') : U4 W0 (w.setCell ⟨g', k, none⟩ v) g f := by
  refine ⟨h.own, by rw [World.size_setCell]; exact h.lt, fun j hj => ?_, fun j hj => by rw [World.frozen?_setCell]; exact h.free j hj⟩
  rw [World.cell?_setCell_other w _ _ _ (by intro e2; injection e2 with e3; exact hg e3.symm), h.cell j hj]
theorem two_blocks (w : World) (A B : Obj) : ((w.alloc A).alloc B).heap[w.heap.size]? = some A ∧ ((w.alloc A).alloc B).heap[w.heap.size + 1]? = some B := by
  constructor
  · show ((w.heap.push A).push B)[w.heap.size]? = _
    simp [Array.getElem?_push]
  · show ((w.heap.push A).push B)[w.heap.size + 1]? = _
    rw [show w.heap.size + 1 = (w.heap.push A).size by simp, Array.getElem?_push_size]
/-- the words of a number -/
def wv (X j : Nat) : Nat := X / 2 ^ (64 * j) % 18446744073709551616
theorem wv_zero (j : Nat) : wv 0 j = 0 := by simp [wv]
theorem wv_bound (X j : Nat) : wv X j < 18446744073709551616 := Nat.mod_lt _ (by decide)
theorem or_add (a b r : Nat) (ha : a < 2 ^ r) : a ||| b * 2 ^ r = a + b * 2 ^ r := by
  have h := Nat.two_pow_add_eq_or_of_lt (i := r) (b := a) ha b
  rw [Nat.or_comm, Nat.mul_comm, ← h, Nat.add_comm]
theorem mod_bit (n i : Nat) : n % 2 ^ (i + 1) = n % 2 ^ i + n / 2 ^ i % 2 * 2 ^ i := by
  rw [Nat.pow_succ, Nat.mod_mul, Nat.mul_comm (2 ^ i) (n / 2 ^ i % 2)]
theorem wv_low (n q r : Nat) : wv (n % 2 ^ (64 * q + r)) q < 2 ^ r := by
  unfold wv
  have h1 : n % 2 ^ (64 * q + r) / 2 ^ (64 * q) < 2 ^ r := by
    rw [Nat.div_lt_iff_lt_mul (Nat.pow_pos (by decide)), ← Nat.pow_add, Nat.add_comm r]
    exact Nat.mod_lt _ (Nat.pow_pos (by decide))
  exact Nat.lt_of_le_of_lt (Nat.mod_le _ _) h1
theorem wv_step (n q r j : Nat) (hr : r < 64) : wv (n % 2 ^ (64 * q + r + 1)) j = if j = q then wv (n % 2 ^ (64 * q + r)) q + n / 2 ^ (64 * q + r) % 2 * 2 ^ r else wv (n % 2 ^ (64 * q + r)) j := by
  have hb : n / 2 ^ (64 * q + r) % 2 ≤ 1 := by omega
  have hX := Nat.mod_lt n (show 0 < 2 ^ (64 * q + r) from Nat.pow_pos (by decide))
  have hlow := wv_low n q r
  rw [mod_bit]
  generalize n / 2 ^ (64 * q + r) % 2 = b at *
  generalize n % 2 ^ (64 * q + r) = X at *
  have h64 : (18446744073709551616 : Nat) = 2 ^ 64 := by decide
  by_cases hjq : j = q
  · subst hjq
    rw [if_pos rfl]
    unfold wv at *
    have e1 : X + b * 2 ^ (64 * j + r) = X + (b * 2 ^ r) * 2 ^ (64 * j) := by rw [Nat.pow_add]; congr 1; rw [Nat.mul_comm (2 ^ (64 * j)), Nat.mul_assoc]
    rw [e1, Nat.add_mul_div_right _ _ (Nat.pow_pos (by decide))]
    have h1 : X / 2 ^ (64 * j) < 2 ^ r := by
      rw [Nat.div_lt_iff_lt_mul (Nat.pow_pos (by decide)), ← Nat.pow_add, Nat.add_comm r]; exact hX
    have h2 : 2 ^ r * 2 ≤ 2 ^ 64 := by rw [← Nat.pow_succ]; exact Nat.pow_le_pow_right (by decide) hr
    have h3 : b * 2 ^ r ≤ 1 * 2 ^ r := Nat.mul_le_mul_right _ hb
    rw [← h64] at h2
    generalize b * 2 ^ r = y at *
    generalize 2 ^ r = z at *
    rw [Nat.mod_eq_of_lt (show X / 2 ^ (64 * j) + y < 18446744073709551616 by omega), Nat.mod_eq_of_lt (show X / 2 ^ (64 * j) < 18446744073709551616 by omega)]
  · rw [if_neg hjq]
    unfold wv
    by_cases hlt : j < q
    · have e1 : X + b * 2 ^ (64 * q + r) = X + (b * 2 ^ (64 * q + r - 64 * j - 64) * 2 ^ 64) * 2 ^ (64 * j) := by
        congr 1
        rw [Nat.mul_assoc, Nat.mul_assoc, ← Nat.pow_add, ← Nat.pow_add]
        congr 2; omega
      rw [e1, Nat.add_mul_div_right _ _ (Nat.pow_pos (by decide)), h64, Nat.add_mul_mod_self_right]
    · have h1 : 2 ^ (64 * q + r + 1) ≤ 2 ^ (64 * j) := Nat.pow_le_pow_right (by decide) (by omega)
      have h3 : b * 2 ^ (64 * q + r) ≤ 1 * 2 ^ (64 * q + r) := Nat.mul_le_mul_right _ hb
      rw [Nat.pow_succ] at h1
      generalize b * 2 ^ (64 * q + r) = y at *
      generalize 2 ^ (64 * q + r) = z at *
      rw [Nat.div_eq_of_lt (show X + y < 2 ^ (64 * j) by omega), Nat.div_eq_of_lt (show X < 2 ^ (64 * j) by omega)]
theorem dg_len_mono {m n : Nat} (h : m ≤ n) : (dg m).length ≤ (dg n).length := dg_len_le.2 (Nat.lt_of_le_of_lt h (dg_len_le.1 (Nat.le_refl _)))
theorem or_u64 (a b r : Nat) (ha : a < 2 ^ r) (hb : b ≤ 1) (hr : r < 64) : bits .or .u64 (a : Int) ((b * 2 ^ r : Nat) : Int) = ((a + b * 2 ^ r : Nat) : Int) := by
  have h2 : 2 ^ r * 2 ≤ 2 ^ 64 := by rw [← Nat.pow_succ]; exact Nat.pow_le_pow_right (by decide) hr
  have h3 : b * 2 ^ r ≤ 1 * 2 ^ r := Nat.mul_le_mul_right _ hb
  have h := bits_or_u64_nat a (b * 2 ^ r) (by omega) (by omega)
  rw [or_add a b r ha] at h
  exact h
set_option maxRecDepth 100000 in
set_option maxHeartbeats 8000000 in
theorem toLong_any (v : Value) (n : Nat) (hl : (dg n).length ≤ 100000) (w : World) (hr : Rd w v (dg n)) :
    Calls Tryz.prog 66 #[v] w fun e w' => e = .returned (.tuple #[L (n % top4), .bool (decide (n < top4))]) ∧ Below w.heap.size w w' := by
  obtain ⟨p, cap, rfl, hcap⟩ := hr.form
  have HR := Lib.hid hr
  clear hr
  go_enter Tryz.func66, Tryz.ntmps66
  go_wp2
  go_loopw [0, 5] (fun d i wr => ∃ (k : Nat), i = .int .i64 k ∧ k ≤ 256 ∧ Hid (RdP (fun g => g ≠ w.heap.size + 1) wr d (dg (n / 2 ^ k))) ∧ Hid (U4 w wr w.heap.size (fun _ => 0)) ∧ Hid (U4 w wr (w.heap.size + 1) (wv (n % 2 ^ k))) ∧ Hid (Below w.heap.size w wr)) (fun _ i _ => 256 - (intOf i).toNat)
  case atStart =>
    refine ⟨0, rfl, Nat.zero_le _, Lib.hid ?_, Lib.hid ?_, Lib.hid ?_, Lib.hid (by (repeat' (first | (with_reducible exact Below.refl _ _) | (with_reducible assumption) | (with_reducible refine Below.alloc ?_ ?_ _) | (with_reducible refine below_drewN ?_ _) | (with_reducible refine below_drew ?_) | (with_reducible refine below_ext ?_ ?_ _ _) | (with_reducible refine Below.setCell ?_ ?_ _) | (simp; done) | (simp; omega) | omega)))⟩
    · rw [Nat.pow_zero, Nat.div_one]
      exact ((HR.out.old).weak (fun g _ h => by omega)).later (by (repeat' (first | (with_reducible exact Below.refl _ _) | (with_reducible assumption) | (with_reducible refine Below.alloc ?_ ?_ _) | (with_reducible refine below_drewN ?_ _) | (with_reducible refine below_drew ?_) | (with_reducible refine below_ext ?_ ?_ _ _) | (with_reducible refine Below.setCell ?_ ?_ _) | (simp; done) | (simp; omega) | omega)))
    · refine ⟨Nat.le_refl _, by simp only [World.size_alloc]; omega, fun j hj => ?_, fun j hj => ?_⟩
      · rcases (show j = 0 ∨ j = 1 ∨ j = 2 ∨ j = 3 by omega) with rfl | rfl | rfl | rfl <;> (simp [go_sem])
      · exact Joins.unfrozen_of_block (two_blocks w _ _).1 j
    · refine ⟨by omega, by simp only [World.size_alloc]; omega, fun j hj => ?_, fun j hj => ?_⟩
      · rw [Nat.pow_zero, Nat.mod_one, wv_zero]
        rcases (show j = 0 ∨ j = 1 ∨ j = 2 ∨ j = 3 by omega) with rfl | rfl | rfl | rfl <;> (simp [go_sem])
      · exact Joins.unfrozen_of_block (two_blocks w _ _).2 j
  case round =>
    obtain ⟨k, rfl, hk, hd, h0, h1, hbel⟩ := hrel
    by_cases hlt : k < 256
    · have hlti : (k : Int) < 256 := by omega
      have hlen := Nat.le_trans (dg_len_mono (Nat.div_le_self n (2 ^ k))) hl
      have hhf := half_any _ (n / 2 ^ k) hlen wr hd.out.rd
      obtain ⟨b, hbb⟩ : ∃ b, b = n / 2 ^ k % 2 := ⟨_, rfl⟩
      have hb1 : b ≤ 1 := by omega
      obtain ⟨q, hq⟩ : ∃ q, q = k / 64 := ⟨_, rfl⟩
      obtain ⟨r, hr⟩ : ∃ r, r = k % 64 := ⟨_, rfl⟩
      have hkq : 64 * q + r = k := by omega
      have hq4 : q < 4 := by omega
      have hr64 : r < 64 := by omega
      have E1 : (k : Int) / 64 = (q : Int) := by omega
      have E2 : (k : Int) % 64 = (r : Int) := by omega
      have hlow := wv_low n q r
      have hstep := fun j => wv_step n q r j hr64
      rw [hkq, ← hbb] at hstep
      rw [hkq] at hlow
      obtain ⟨x, hxx⟩ : ∃ x, x = wv (n % 2 ^ k) q := ⟨_, rfl⟩
      have hor := or_u64 x b r (by rw [hxx]; exact hlow) hb1 hr64
      rw [← hbb] at hhf
      have hb2r : b * 2 ^ r < 18446744073709551616 := by
        have h3 : b * 2 ^ r ≤ 1 * 2 ^ r := Nat.mul_le_mul_right _ hb1
        have h4 : 2 ^ r < 2 ^ 64 := Nat.pow_lt_pow_right (by decide) hr64
        have : (2 : Nat) ^ 64 = 18446744073709551616 := by decide
        omega
      have HH := Lib.hid hhf
      have HX := Lib.hid hxx
      have HS := Lib.hid hstep
      have HQ := Lib.hid hkq
      obtain ⟨y, hy⟩ : ∃ y, y = b * 2 ^ r := ⟨_, rfl⟩
      have W1 : IntKind.u64.wrap ((b : Int) * 2 ^ r) = (y : Int) := by
        rw [show ((b : Int) * 2 ^ r) = ((b * 2 ^ r : Nat) : Int) by push_cast; rfl, IntKind.wrap_u64, ← hy]
        rw [← hy] at hb2r
        omega
      rw [← hy] at hor
      have HY := Lib.hid hy
      clear hhf hlen hbb hq hr hkq hlow hstep hxx hb2r hy hd
      go_wp2_with (first
        | (go_at_call 84; ((with_reducible refine (HH.out).mono ?_); rintro e w' ⟨v', rfl, hrd, hb2⟩; have hc := (h1.out.later hb2).cell q hq4; have hf := (h1.out.later hb2).free q hq4; rw [← HX.out] at hc))
        )
      go_region
      go_wp2
      go_roundw
      case rel =>
        refine ⟨k + 1, by go_num, by omega, Lib.hid ?_, Lib.hid ?_, Lib.hid ?_, Lib.hid ?_⟩
        · have h := (hrd.weak (Q := fun g => g ≠ w.heap.size + 1) (fun g _ h => by have := h1.out.lt; omega)).store (w.heap.size + 1) q (.int .u64 ((x : Int) + (y : Int))) (fun g h => h)
          rw [Nat.div_div_eq_div_mul, ← Nat.pow_succ] at h
          exact h
        · exact ((h0.out.later hb2).other q _ (Nat.ne_of_lt (Nat.lt_succ_self _))).drew
        · have h := ((h1.out.later hb2).store q (x + y) hq4).congr (f' := wv (n % 2 ^ (k + 1))) (fun j => by rw [HS.out j, HY.out, HX.out])
          rw [Int.natCast_add] at h
          exact h.drew
        · exact below_drew ((more hbel.out hb2).setCell (p := ⟨w.heap.size + 1, q, none⟩) (by show w.heap.size ≤ w.heap.size + 1; omega) _)
      case measure => simp only [intOf]; omega
    · obtain rfl : k = 256 := by omega
      have hd2 := hd.out
      obtain ⟨m, hm⟩ : ∃ m, m = dg (n / 2 ^ 256) := ⟨_, rfl⟩
      rw [← hm] at hd2
      obtain ⟨p2, cap2, rfl, -⟩ := hd2.form
      have hlenz : ((m.length : Int) == 0) = decide (n < top4) := by
        have e : m.length = 0 ↔ n < top4 := by
          rw [hm, ← Nat.le_zero_eq, dg_len_le, Nat.pow_zero, Nat.lt_one_iff, Nat.div_eq_zero_iff]
          have : (2 : Nat) ^ 256 = top4 := by decide
          rw [this]
          exact ⟨fun h => h.resolve_left (by unfold top4; omega), .inr⟩
        by_cases hc : m.length = 0
        · rw [decide_eq_true (e.1 hc), hc]; rfl
        · rw [decide_eq_false (fun h => hc (e.2 h))]
          exact beq_eq_false_iff_ne.2 (by omega)
      have hX : n % 2 ^ 256 = n % top4 := by rw [show (2 : Nat) ^ 256 = top4 by decide]
      have c0 := h1.out.cell 0 (by decide); have c1 := h1.out.cell 1 (by decide); have c2 := h1.out.cell 2 (by decide); have c3 := h1.out.cell 3 (by decide)
      have z0 := h0.out.cell 0 (by decide); have z1 := h0.out.cell 1 (by decide); have z2 := h0.out.cell 2 (by decide); have z3 := h0.out.cell 3 (by decide)
      have y0 := h0.out.free 0 (by decide); have y1 := h0.out.free 1 (by decide); have y2 := h0.out.free 2 (by decide); have y3 := h0.out.free 3 (by decide)
      rw [hX] at c0 c1 c2 c3
      have e0 : wv (n % top4) 0 = w0 (n % top4) := by simp [wv, w0]
      have e1 : wv (n % top4) 1 = w1 (n % top4) := by simp [wv, w1]
      have e2 : wv (n % top4) 2 = w2 (n % top4) := by simp [wv, w2]
      have e3 : wv (n % top4) 3 = w3 (n % top4) := by simp [wv, w3]
      rw [e0] at c0; rw [e1] at c1; rw [e2] at c2; rw [e3] at c3
      obtain ⟨a0, ha0⟩ : ∃ a, a = w0 (n % top4) := ⟨_, rfl⟩
      obtain ⟨a1, ha1⟩ : ∃ a, a = w1 (n % top4) := ⟨_, rfl⟩
      obtain ⟨a2, ha2⟩ : ∃ a, a = w2 (n % top4) := ⟨_, rfl⟩
      obtain ⟨a3, ha3⟩ : ∃ a, a = w3 (n % top4) := ⟨_, rfl⟩
      obtain ⟨ok, hok⟩ : ∃ a, a = decide (n < top4) := ⟨_, rfl⟩
      rw [← ha0] at c0; rw [← ha1] at c1; rw [← ha2] at c2; rw [← ha3] at c3
      rw [← hok] at hlenz
      have hfin : Hid ((.tuple #[L (n % top4), .bool (decide (n < top4))] : Value) = .tuple #[.agg #[.int .u64 (a0 : Int), .int .u64 (a1 : Int), .int .u64 (a2 : Int), .int .u64 (a3 : Int)], .bool ok]) := Lib.hid (by rw [ha0, ha1, ha2, ha3, hok])
      have s0 : (wr.setCell ⟨w.heap.size, 0, none⟩ (.int .u64 (a0 : Int))).cell? ⟨w.heap.size, 0, none⟩ = some (.int .u64 (a0 : Int)) := World.cell?_setCell_same _ _ _ z0
      have s1 : ((wr.setCell ⟨w.heap.size, 0, none⟩ (.int .u64 (a0 : Int))).setCell ⟨w.heap.size, 1, none⟩ (.int .u64 (a1 : Int))).cell? ⟨w.heap.size, 1, none⟩ = some (.int .u64 (a1 : Int)) := World.cell?_setCell_same _ _ _ ((World.cell?_setCell_other _ _ _ _ (by intro e2; injection e2 with _ e3; exact absurd e3 (by decide))).trans z1)
      have s2 : (((wr.setCell ⟨w.heap.size, 0, none⟩ (.int .u64 (a0 : Int))).setCell ⟨w.heap.size, 1, none⟩ (.int .u64 (a1 : Int))).setCell ⟨w.heap.size, 2, none⟩ (.int .u64 (a2 : Int))).cell? ⟨w.heap.size, 2, none⟩ = some (.int .u64 (a2 : Int)) := World.cell?_setCell_same _ _ _ ((World.cell?_setCell_other _ _ _ _ (by intro e2; injection e2 with _ e3; exact absurd e3 (by decide))).trans ((World.cell?_setCell_other _ _ _ _ (by intro e2; injection e2 with _ e3; exact absurd e3 (by decide))).trans z2))
      have s3 : ((((wr.setCell ⟨w.heap.size, 0, none⟩ (.int .u64 (a0 : Int))).setCell ⟨w.heap.size, 1, none⟩ (.int .u64 (a1 : Int))).setCell ⟨w.heap.size, 2, none⟩ (.int .u64 (a2 : Int))).setCell ⟨w.heap.size, 3, none⟩ (.int .u64 (a3 : Int))).cell? ⟨w.heap.size, 3, none⟩ = some (.int .u64 (a3 : Int)) := World.cell?_setCell_same _ _ _ ((World.cell?_setCell_other _ _ _ _ (by intro e2; injection e2 with _ e3; exact absurd e3 (by decide))).trans ((World.cell?_setCell_other _ _ _ _ (by intro e2; injection e2 with _ e3; exact absurd e3 (by decide))).trans ((World.cell?_setCell_other _ _ _ _ (by intro e2; injection e2 with _ e3; exact absurd e3 (by decide))).trans z3)))
      clear e0 e1 e2 e3 ha0 ha1 ha2 ha3 hok hX hm hd hd2
      go_wp2
      refine bodyPost_ret (by simp [results, Tryz.results66, go_sem, s0, s1, s2, s3]; try rfl) rfl ?_
      refine ⟨by rw [hfin.out], ?_⟩
      have hb := hbel.out
      exact (((hb.setCell (p := ⟨w.heap.size, 0, none⟩) (Nat.le_refl _) _).setCell (p := ⟨w.heap.size, 1, none⟩) (Nat.le_refl _) _).setCell (p := ⟨w.heap.size, 2, none⟩) (Nat.le_refl _) _).setCell (p := ⟨w.heap.size, 3, none⟩) (Nat.le_refl _) _
theorem to_hi (n : Nat) : hi (n % top2) = w1 (n % top4) := by unfold hi w1 top2 top4; omega
theorem to_lo (n : Nat) : lo (n % top2) = w0 (n % top4) := by unfold lo w0 top2 top4; omega
set_option maxRecDepth 100000 in
set_option maxHeartbeats 8000000 in
theorem to_walk (v : Value) (a0 a1 a2 a3 : Nat) (ok : Bool) (w : World) (hk : ∀ w1, Below w.heap.size w w1 → Calls Tryz.prog 66 #[v] w1 fun e w' => e = .returned (.tuple #[.agg #[.int .u64 (a0 : Int), .int .u64 (a1 : Int), .int .u64 (a2 : Int), .int .u64 (a3 : Int)], .bool ok]) ∧ Below w1.heap.size w1 w') :
    Calls Tryz.prog 30 #[v] w fun e w' => e = .returned (.tuple #[.agg #[.int .u64 (a1 : Int), .int .u64 (a0 : Int)], .bool (ok && decide (a2 = 0) && decide (a3 = 0))]) ∧ Below w.heap.size w w' := by
  have HK := Lib.hid hk
  clear hk
  cases ok with
  | false =>
    go_enter Tryz.func30, Tryz.ntmps30
    go_wp2_with (go_at_call 66; ((with_reducible refine (HK.out _ (by (repeat' (first | (with_reducible exact Below.refl _ _) | (with_reducible assumption) | (with_reducible refine Below.alloc ?_ ?_ _) | (with_reducible refine below_drewN ?_ _) | (with_reducible refine below_drew ?_) | (with_reducible refine below_ext ?_ ?_ _ _) | (with_reducible refine Below.setCell ?_ ?_ _) | (simp; done) | (simp; omega) | omega)))).mono ?_); rintro e w1 ⟨rfl, hb1⟩; obtain ⟨osA, dA, rfl⟩ := ext_of_below hb1; clear hb1))
    go_region
    all_goals
      go_wp2
      go_returns
      exact ⟨by simp, by (repeat' (first | (with_reducible exact Below.refl _ _) | (with_reducible assumption) | (with_reducible refine Below.alloc ?_ ?_ _) | (with_reducible refine below_drewN ?_ _) | (with_reducible refine below_drew ?_) | (with_reducible refine below_ext ?_ ?_ _ _) | (with_reducible refine Below.setCell ?_ ?_ _) | (simp; done) | (simp; omega) | omega))⟩
  | true =>
    by_cases h2 : a2 = 0
    · subst h2
      by_cases h3 : a3 = 0
      · subst h3
        go_enter Tryz.func30, Tryz.ntmps30
        go_wp2_with (go_at_call 66; ((with_reducible refine (HK.out _ (by (repeat' (first | (with_reducible exact Below.refl _ _) | (with_reducible assumption) | (with_reducible refine Below.alloc ?_ ?_ _) | (with_reducible refine below_drewN ?_ _) | (with_reducible refine below_drew ?_) | (with_reducible refine below_ext ?_ ?_ _ _) | (with_reducible refine Below.setCell ?_ ?_ _) | (simp; done) | (simp; omega) | omega)))).mono ?_); rintro e w1 ⟨rfl, hb1⟩; obtain ⟨osA, dA, rfl⟩ := ext_of_below hb1; clear hb1))
        go_region
        all_goals
          go_wp2
          go_returns
          exact ⟨by simp, by (repeat' (first | (with_reducible exact Below.refl _ _) | (with_reducible assumption) | (with_reducible refine Below.alloc ?_ ?_ _) | (with_reducible refine below_drewN ?_ _) | (with_reducible refine below_drew ?_) | (with_reducible refine below_ext ?_ ?_ _ _) | (with_reducible refine Below.setCell ?_ ?_ _) | (simp; done) | (simp; omega) | omega))⟩
      · have h3i : ((a3 : Int) == 0) = false := beq_eq_false_iff_ne.2 (by omega)
        have HD := Lib.hid (show decide (a3 = 0) = false from decide_eq_false h3)
        clear h3
        go_enter Tryz.func30, Tryz.ntmps30
        go_wp2_with (go_at_call 66; ((with_reducible refine (HK.out _ (by (repeat' (first | (with_reducible exact Below.refl _ _) | (with_reducible assumption) | (with_reducible refine Below.alloc ?_ ?_ _) | (with_reducible refine below_drewN ?_ _) | (with_reducible refine below_drew ?_) | (with_reducible refine below_ext ?_ ?_ _ _) | (with_reducible refine Below.setCell ?_ ?_ _) | (simp; done) | (simp; omega) | omega)))).mono ?_); rintro e w1 ⟨rfl, hb1⟩; obtain ⟨osA, dA, rfl⟩ := ext_of_below hb1; clear hb1))
        go_region
        all_goals
          go_wp2
          go_returns
          exact ⟨by rw [HD.out]; simp, by (repeat' (first | (with_reducible exact Below.refl _ _) | (with_reducible assumption) | (with_reducible refine Below.alloc ?_ ?_ _) | (with_reducible refine below_drewN ?_ _) | (with_reducible refine below_drew ?_) | (with_reducible refine below_ext ?_ ?_ _ _) | (with_reducible refine Below.setCell ?_ ?_ _) | (simp; done) | (simp; omega) | omega))⟩
    · have h2i : ((a2 : Int) == 0) = false := beq_eq_false_iff_ne.2 (by omega)
      have HD := Lib.hid (show decide (a2 = 0) = false from decide_eq_false h2)
      clear h2
      go_enter Tryz.func30, Tryz.ntmps30
      go_wp2_with (go_at_call 66; ((with_reducible refine (HK.out _ (by (repeat' (first | (with_reducible exact Below.refl _ _) | (with_reducible assumption) | (with_reducible refine Below.alloc ?_ ?_ _) | (with_reducible refine below_drewN ?_ _) | (with_reducible refine below_drew ?_) | (with_reducible refine below_ext ?_ ?_ _ _) | (with_reducible refine Below.setCell ?_ ?_ _) | (simp; done) | (simp; omega) | omega)))).mono ?_); rintro e w1 ⟨rfl, hb1⟩; obtain ⟨osA, dA, rfl⟩ := ext_of_below hb1; clear hb1))
      go_region
      all_goals
        go_wp2
        go_returns
        exact ⟨by rw [HD.out]; simp, by (repeat' (first | (with_reducible exact Below.refl _ _) | (with_reducible assumption) | (with_reducible refine Below.alloc ?_ ?_ _) | (with_reducible refine below_drewN ?_ _) | (with_reducible refine below_drew ?_) | (with_reducible refine below_ext ?_ ?_ _ _) | (with_reducible refine Below.setCell ?_ ?_ _) | (simp; done) | (simp; omega) | omega))⟩
theorem to_any (v : Value) (n : Nat) (hl : (dg n).length ≤ 100000) (w : World) (hr : Rd w v (dg n)) :
    Calls Tryz.prog 30 #[v] w fun e w' => e = .returned (.tuple #[W (n % top2), .bool (decide (n < top2))]) ∧ Below w.heap.size w w' := by
  have h := to_walk v (w0 (n % top4)) (w1 (n % top4)) (w2 (n % top4)) (w3 (n % top4)) (decide (n < top4)) w (fun w1 hb => toLong_any v n hl w1 (hr.later hb))
  have hok : (decide (n < top4) && decide (w2 (n % top4) = 0) && decide (w3 (n % top4) = 0)) = decide (n < top2) := by
    by_cases h4 : n < top4
    · have hn := narrow_words h4
      rw [Nat.mod_eq_of_lt h4]
      by_cases h2 : n < top2
      · obtain ⟨e1, e2⟩ := hn.1.2 h2
        simp [h4, h2, e1, e2]
      · have h3 : ¬ (w2 n = 0 ∧ w3 n = 0) := fun h => h2 (hn.1.1 h)
        simp only [h4, h2, decide_true, decide_false, Bool.true_and, Bool.and_eq_false_iff, decide_eq_false_iff_not]
        by_cases e : w2 n = 0
        · exact .inr fun e2 => h3 ⟨e, e2⟩
        · exact .inl e
    · have h2 : ¬ n < top2 := fun h => h4 (Nat.lt_trans h (by decide))
      simp [h4, h2]
  rw [hok, ← to_hi, ← to_lo] at h
  exact h
end Go.Proofs.YtnaajhhdpcdakaaGreatDoor
