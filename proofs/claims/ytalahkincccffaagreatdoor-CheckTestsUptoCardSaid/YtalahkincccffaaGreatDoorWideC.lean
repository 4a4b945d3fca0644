/-
  Contracts of package wide: Sub beyond, Narrow, the powers of ten, Mul, Ten, Cmp.
-/
import Derived.Test.YtalahkincccffaaGreatDoorWideB
namespace Go.Proofs.YtalahkincccffaaGreatDoor
open Go.RowKit Word
attribute [local go_sem] setCell_drewN cell?_ext frozen?_ext shape?_ext setCell_ext lt_1' ne_1' en_1' le_1' lt_2' ne_2' en_2' le_2' lt_3' ne_3' en_3' le_3' lt_4' ne_4' en_4' le_4' lt_5' ne_5' en_5' le_5' lt_6' ne_6' en_6' le_6' lt_7' ne_7' en_7' le_7' lt_8' ne_8' en_8' le_8' lt_9' ne_9' en_9' le_9' lt_10' ne_10' en_10' le_10' lt_11' ne_11' en_11' le_11' lt_12' ne_12' en_12' le_12'

theorem quiet_left' {P : Program} {f : FuncId} {args : Array Value} {w : World} {n : Nat} {v : Value}
    (h : Calls P f args (w.drewN n) fun e w' => e = .returned v ∧ w.drewN n = w') : Calls P f args (w.drewN n) fun e w'' => e = .returned v ∧ ∃ m, w'' = w.drewN m :=
  h.mono fun _ _ hh => ⟨hh.1, n, hh.2.symm⟩
def p10 (k : Nat) : Nat := 10 ^ k
def Tens (w : World) : Prop := 9 < w.heap.size ∧ ∀ j, j < 20 → w.cell? ⟨9, j, none⟩ = some (.int .u64 (p10 j : Int))
theorem Tens.ext {w : World} (h : Tens w) (os : Array Obj) (d : Nat) : Tens (ext w os d) :=
  ⟨by rw [ext_size]; have := h.1; omega, fun j hj => (cell?_ext w os d _ _ (by have := h.1; omega)).trans (h.2 j hj)⟩
theorem power_small (k : Nat) (hk : k ≤ 19) (w : World) (ht : Tens w) :
    Calls Tryz.prog 106 #[.int .i64 k] w fun e w' => e = .returned (W (p10 k)) ∧ Below w.heap.size w w' := by
  have h0 := ht.1
  have h1 := ht.2 k (by omega)
  clear ht
  have hp : p10 k < 18446744073709551616 := by
    have : p10 k ≤ 10 ^ 19 := Nat.pow_le_pow_right (by decide) hk
    omega
  have e1 : hi (p10 k) = 0 := by unfold hi; omega
  have e2 : lo (p10 k) = p10 k := by unfold lo; omega
  have HW : W (p10 k) = .agg #[.int .u64 0, .int .u64 (p10 k : Int)] := by simp only [W, e1, e2]; rfl
  rw [HW]
  clear e1 e2 HW
  go_enter Tryz.func106, Tryz.ntmps106
  go_wp2
  go_returns
  exact ⟨rfl, by (repeat' (first | (with_reducible first | exact Below.refl _ _ | assumption | refine Below.alloc ?_ ?_ _ | refine below_drewN ?_ _ | refine below_drew ?_ | refine below_ext ?_ ?_ _ _ | refine Below.setCell ?_ ?_ _) | (simp; done) | (simp; omega) | omega))⟩
theorem power_big (k : Nat) (hk : 19 < k) (hk2 : k ≤ 38) (w : World) (ht : Tens w) :
    Calls Tryz.prog 106 #[.int .i64 k] w fun e w' => e = .returned (W (p10 k)) ∧ Below w.heap.size w w' := by
  obtain ⟨m, rfl⟩ : ∃ m, k = m + 19 := ⟨k - 19, by omega⟩
  have h0 := ht.1
  have h1 := ht.2 m (by omega)
  have h2 := ht.2 19 (by omega)
  clear ht
  have hp : p10 (m + 19) = p10 19 * p10 m := by unfold p10; rw [Nat.pow_add, Nat.mul_comm]
  have hm : p10 m < 18446744073709551616 := by
    have : p10 m ≤ 10 ^ 19 := Nat.pow_le_pow_right (by decide) (by omega)
    omega
  have h19 : p10 19 < 18446744073709551616 := by decide
  have HW : W (p10 (m + 19)) = .agg #[.int .u64 (mulHi (p10 19) (p10 m) : Int), .int .u64 (mulLo (p10 19) (p10 m) : Int)] := by
    simp only [W, hp]; rfl
  rw [HW]
  clear HW hp
  have hw : IntKind.i64.wrap (m : Int) = m := IntWalk.i64_in _ (by omega)
  go_enter Tryz.func106, Tryz.ntmps106
  go_wp2_with fail
  go_quiet ((go_at_call 111; exact quiet_left' (mul64 _ _ h19 hm _)))
  go_wp2
  go_returns
  exact ⟨rfl, by (repeat' (first | (with_reducible first | exact Below.refl _ _ | assumption | refine Below.alloc ?_ ?_ _ | refine below_drewN ?_ _ | refine below_drew ?_ | refine below_ext ?_ ?_ _ _ | refine Below.setCell ?_ ?_ _) | (simp; done) | (simp; omega) | omega))⟩
theorem power_any (k : Nat) (hk : k ≤ 38) (w : World) (ht : Tens w) :
    Calls Tryz.prog 106 #[.int .i64 k] w fun e w' => e = .returned (W (p10 k)) ∧ Below w.heap.size w w' := by
  by_cases h : k ≤ 19
  · exact power_small k h w ht
  · exact power_big k (by omega) hk w ht
theorem ten_ok (k : Nat) (hk : k ≤ 38) (w : World) (ht : Tens w) :
    Calls Tryz.prog 103 #[.int .i64 k] w fun e w' => e = .returned (.tuple #[W (p10 k), .int .i64 0]) ∧ Below w.heap.size w w' := by
  have ht2 : ∀ o, Tens (w.alloc o) := fun o => ⟨Nat.lt_of_lt_of_le ht.1 (by simp), fun j hj => (World.cell?_alloc_lt w o _ ht.1).trans (ht.2 j hj)⟩
  have HT := Lib.hid ht2
  clear ht2 ht
  go_enter Tryz.func103, Tryz.ntmps103
  go_wp2_with (go_at_call 106; ((with_reducible refine (power_any k hk _ (HT.out _)).mono ?_); rintro e w1 ⟨rfl, hb1⟩; obtain ⟨os1, d1, rfl⟩ := ext_of_below hb1; clear hb1))
  go_returns
  exact ⟨rfl, by (repeat' (first | (with_reducible first | exact Below.refl _ _ | assumption | refine Below.alloc ?_ ?_ _ | refine below_drewN ?_ _ | refine below_drew ?_ | refine below_ext ?_ ?_ _ _ | refine Below.setCell ?_ ?_ _) | (simp; done) | (simp; omega) | omega))⟩
def num4 (a b c d : Nat) : Nat := a + b * 18446744073709551616 + c * 340282366920938463463374607431768211456 + d * 6277101735386680763835789423207666416102355444464034512896
theorem num4_w {n : Nat} (h : n < top4) : num4 (w0 n) (w1 n) (w2 n) (w3 n) = n := words4 h
theorem L_num4 {a b c d : Nat} (ha : a < 18446744073709551616) (hb : b < 18446744073709551616) (hc : c < 18446744073709551616) (hd : d < 18446744073709551616) :
    L (num4 a b c d) = .agg #[.int .u64 (a : Int), .int .u64 (b : Int), .int .u64 (c : Int), .int .u64 (d : Int)] := by
  obtain ⟨h0, h1, h2, h3, _⟩ := of_words4 ha hb hc hd
  simp only [L, num4, h0, h1, h2, h3]
theorem num4_lt {a b c d : Nat} (ha : a < 18446744073709551616) (hb : b < 18446744073709551616) (hc : c < 18446744073709551616) (hd : d < 18446744073709551616) : num4 a b c d < top4 :=
  (of_words4 ha hb hc hd).2.2.2.2
theorem addLong_words (a b c d : Nat) (ha : a < 18446744073709551616) (hb : b < 18446744073709551616) (hc : c < 18446744073709551616) (hd : d < 18446744073709551616)
    (l h : Nat) (hl : l < 18446744073709551616) (hh : h < 18446744073709551616) (hs : num4 a b c d + num4 0 l h 0 < top4) (w : World) :
    Calls Tryz.prog 118 #[.agg #[.int .u64 (a : Int), .int .u64 (b : Int), .int .u64 (c : Int), .int .u64 (d : Int)], .agg #[.int .u64 0, .int .u64 (l : Int), .int .u64 (h : Int), .int .u64 0]] w
      fun e w' => e = .returned (L (num4 a b c d + num4 0 l h 0)) ∧ Below w.heap.size w w' := by
  have e1 := L_num4 ha hb hc hd
  have e2 := L_num4 (a := 0) (b := l) (c := h) (d := 0) (by omega) hl hh (by omega)
  have := addLong_any (num4 a b c d) (num4 0 l h 0) (num4_lt ha hb hc hd) (num4_lt (by omega) hl hh (by omega)) hs w
  rw [e1, e2] at this
  exact this
abbrev mulA (a b : Nat) : Nat := num4 (mulLo (lo a) (lo b)) (mulHi (lo a) (lo b)) (mulLo (hi a) (hi b)) (mulHi (hi a) (hi b))
abbrev mulB (a b : Nat) : Nat := num4 0 (mulLo (hi a) (lo b)) (mulHi (hi a) (lo b)) 0
abbrev mulC (a b : Nat) : Nat := num4 0 (mulLo (lo a) (hi b)) (mulHi (lo a) (hi b)) 0
theorem mul_eq (x y : Nat) : mulLo x y + mulHi x y * 18446744073709551616 = x * y := by unfold mulLo mulHi; omega
theorem mul_lt {a b : Nat} (ha : a < top2) (hb : b < top2) : a * b < top4 := by
  have h1 : a * b ≤ a * top2 := Nat.mul_le_mul_left _ (by omega)
  have h2 : a * top2 < top2 * top2 := Nat.mul_lt_mul_of_pos_right ha (by unfold top2; decide)
  have h3 : top2 * top2 = top4 := by unfold top2 top4; rfl
  omega
theorem mul_sum_aux (m p q r s p0 p1 q0 q1 r0 r1 s0 s1 : Nat) (h1 : m = p + (r + s) * 18446744073709551616 + q * 340282366920938463463374607431768211456)
    (e1 : p0 + p1 * 18446744073709551616 = p) (e2 : q0 + q1 * 18446744073709551616 = q) (e3 : r0 + r1 * 18446744073709551616 = r) (e4 : s0 + s1 * 18446744073709551616 = s) :
    num4 p0 p1 q0 q1 + num4 0 r0 r1 0 + num4 0 s0 s1 0 = m := by
  unfold num4
  omega
theorem mul_sum (a b : Nat) : mulA a b + mulB a b + mulC a b = a * b :=
  mul_sum_aux _ _ _ _ _ _ _ _ _ _ _ _ _ (mul_words a b) (mul_eq (lo a) (lo b)) (mul_eq (hi a) (hi b)) (mul_eq (hi a) (lo b)) (mul_eq (lo a) (hi b))
set_option maxHeartbeats 1000000 in
theorem mul_any (a b : Nat) (ha : a < top2) (hb : b < top2) (w : World) :
    Calls Tryz.prog 116 #[W a, W b] w fun e w' => e = .returned (L (a * b)) ∧ Below w.heap.size w w' := by
  have hsum := mul_sum a b
  have hlt := mul_lt ha hb
  have hla := lo_lt a
  have hlb := lo_lt b
  have hha := hi_lt ha
  have hhb := hi_lt hb
  have i1 := mulLo_lt (lo a) (lo b)
  have i2 := mulHi_lt hla hlb
  have i3 := mulLo_lt (hi a) (hi b)
  have i4 := mulHi_lt hha hhb
  have i5 := mulLo_lt (hi a) (lo b)
  have i6 := mulHi_lt hha hlb
  have i7 := mulLo_lt (lo a) (hi b)
  have i8 := mulHi_lt hla hhb
  have s1 : mulA a b + mulB a b < top4 := by omega
  have S1 : num4 (mulLo (lo a) (lo b)) (mulHi (lo a) (lo b)) (mulLo (hi a) (hi b)) (mulHi (hi a) (hi b)) + num4 0 (mulLo (hi a) (lo b)) (mulHi (hi a) (lo b)) 0 < top4 := s1
  have j0 := w0_lt (mulA a b + mulB a b)
  have j1 := w1_lt (mulA a b + mulB a b)
  have j2 := w2_lt (mulA a b + mulB a b)
  have j3 := w3_lt (mulA a b + mulB a b)
  have e2 : num4 (w0 (mulA a b + mulB a b)) (w1 (mulA a b + mulB a b)) (w2 (mulA a b + mulB a b)) (w3 (mulA a b + mulB a b)) + num4 0 (mulLo (lo a) (hi b)) (mulHi (lo a) (hi b)) 0 = a * b := by
    rw [num4_w s1]; exact hsum
  have S2 : num4 (w0 (mulA a b + mulB a b)) (w1 (mulA a b + mulB a b)) (w2 (mulA a b + mulB a b)) (w3 (mulA a b + mulB a b)) + num4 0 (mulLo (lo a) (hi b)) (mulHi (lo a) (hi b)) 0 < top4 := by rw [e2]; exact hlt
  rw [← e2]
  clear e2 hsum hlt s1
  go_enter Tryz.func116, Tryz.ntmps116
  go_wp2_with (first
    | (go_at_call 111; (with_reducible refine (mul64 (lo a) (lo b) hla hlb _).mono ?_); rintro e w1 ⟨rfl, rfl⟩)
    | (go_at_call 111; (with_reducible refine (mul64 (hi a) (hi b) hha hhb _).mono ?_); rintro e w1 ⟨rfl, rfl⟩)
    | (go_at_call 111; (with_reducible refine (mul64 (hi a) (lo b) hha hlb _).mono ?_); rintro e w1 ⟨rfl, rfl⟩)
    | (go_at_call 111; (with_reducible refine (mul64 (lo a) (hi b) hla hhb _).mono ?_); rintro e w1 ⟨rfl, rfl⟩)
    | (go_at_call 118; ((with_reducible refine (addLong_words _ _ _ _ i1 i2 i3 i4 _ _ i5 i6 S1 _).mono ?_); rintro e w1 ⟨rfl, hb1⟩; obtain ⟨os1, d1, rfl⟩ := ext_of_below hb1; clear hb1))
    | (go_at_call 118; ((with_reducible refine (addLong_words _ _ _ _ j0 j1 j2 j3 _ _ i7 i8 S2 _).mono ?_); rintro e w1 ⟨rfl, hb1⟩; obtain ⟨os1, d1, rfl⟩ := ext_of_below hb1; clear hb1)))
  go_returns
  exact ⟨rfl, by (repeat' (first | (with_reducible first | exact Below.refl _ _ | assumption | refine Below.alloc ?_ ?_ _ | refine below_drewN ?_ _ | refine below_drew ?_ | refine below_ext ?_ ?_ _ _ | refine Below.setCell ?_ ?_ _) | (simp; done) | (simp; omega) | omega))⟩
theorem cmp_any (a b : Nat) (ha : a < top2) (hb : b < top2) (w : World) :
    Calls Tryz.prog 104 #[W a, W b] w fun e w' => e = .returned (.int .i64 (cmpv a b)) ∧ Below w.heap.size w w' := by
  have ha4 : a < top4 := by unfold top2 top4 at *; omega
  have hb4 : b < top4 := by unfold top2 top4 at *; omega
  go_enter Tryz.func104, Tryz.ntmps104
  go_wp2_with fail
  go_region_held3 (fun w' => w'.cell? ⟨w.heap.size, 0, none⟩ = some (.int .u64 (hi a : Int)) ∧ w'.cell? ⟨w.heap.size, 1, none⟩ = some (.int .u64 (lo a : Int)) ∧ w'.cell? ⟨w.heap.size + 1, 0, none⟩ = some (.int .u64 (hi b : Int)) ∧ w'.cell? ⟨w.heap.size + 1, 1, none⟩ = some (.int .u64 (lo b : Int))) (simp [go_sem]) (first
    | (go_at_call 108; ((with_reducible refine (long_any a ha _).mono ?_); rintro e w1 ⟨rfl, hb1⟩; obtain ⟨os1, d1, rfl⟩ := ext_of_below hb1; clear hb1))
    | (go_at_call 108; ((with_reducible refine (long_any b hb _).mono ?_); rintro e w1 ⟨rfl, hb1⟩; obtain ⟨os1, d1, rfl⟩ := ext_of_below hb1; clear hb1))
    | (go_at_call 107; ((with_reducible refine (cmpLong_any a b ha4 hb4 _).mono ?_); rintro e w1 ⟨rfl, hb1⟩; obtain ⟨os1, d1, rfl⟩ := ext_of_below hb1; clear hb1)))
  go_wp2
  go_ret
  exact ⟨rfl, by (repeat' (first | (with_reducible first | exact Below.refl _ _ | assumption | refine Below.alloc ?_ ?_ _ | refine below_drewN ?_ _ | refine below_drew ?_ | refine below_ext ?_ ?_ _ _ | refine Below.setCell ?_ ?_ _) | (simp; done) | (simp; omega) | omega))⟩
end Go.Proofs.YtalahkincccffaaGreatDoor
