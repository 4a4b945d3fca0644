/-
  The document's Cut, twice and half.
  The document's half.
  The document's digits of words.
  The document's Of and OfLong.
  The document's ToLong and To.
  The document's Cmp and Plus.
  The document's Plus.
  The document's Less.
  The document's Times.
  The document's told, DocCmp, DocAdd, DocSub, DocMul.
  The document's DocAdd, DocSub, DocMul.
  The document's Shift, and the beginning of Quo.
  The document's Quo.
  The document's DocDiv.
  The document's Near and DocRound.
  The document's DocNarrow, DocTen, DocDigits, DocTrim.
  The document's DocTrim.
-/
import Derived.Test.YtonajmngchfjeaaGreatDoorBb
import Derived.Deep.OwnRows
import Derived.Lib.SmallJoins
import Derived.Test.YtonajmngchfjeaaGreatDoorBn
import Derived.Test.YtonajmngchfjeaaGreatDoorBh
import Derived.Test.YtonajmngchfjeaaGreatDoorBa
import Derived.Laws.AppendOwnNone
import Derived.Test.YtonajmngchfjeaaGreatDoorBc
namespace Go.Proofs.YtonajmngchfjeaaGreatDoor
open Go.RowKit Num
attribute [local go_sem] setCell_drewN cell?_ext frozen?_ext shape?_ext setCell_ext lt_1' ne_1' en_1' le_1' lt_2' ne_2' en_2' le_2' lt_3' ne_3' en_3' le_3' lt_4' ne_4' en_4' le_4' lt_5' ne_5' en_5' le_5' lt_6' ne_6' en_6' le_6' lt_7' ne_7' en_7' le_7' lt_8' ne_8' en_8' le_8' lt_9' ne_9' en_9' le_9' lt_10' ne_10' en_10' le_10' lt_11' ne_11' en_11' le_11' lt_12' ne_12' en_12' le_12'

set_option maxRecDepth 100000 in
set_option maxHeartbeats 4000000 in
theorem cut_any {P : Nat → Prop} (v : Value) (l : List Nat) (hd : Dig l) (hl : l.length ≤ 1000000) (w : World) (hr : RdP P w v l) :
    Calls Tryz.prog 53 #[v] w fun e w' => ∃ v', e = .returned v' ∧ RdP P w v' (dg (lv l)) ∧ w = w' := by
  obtain ⟨p, cap, rfl, hcap⟩ := hr.form
  have HR := Lib.hid hr
  have HD := Lib.hid hd
  clear hr hd
  go_enter Tryz.func53, Tryz.ntmps53
  go_wp2
  go_loopw [3] (fun n wr => ∃ m : Nat, n = .int .i64 m ∧ m ≤ l.length ∧ Hid (∀ j (hj : j < l.length), m ≤ j → l[j] = 0) ∧ wr = w) (fun n _ => (intOf n).toNat)
  case atStart => exact ⟨l.length, rfl, Nat.le_refl _, Lib.hid (fun j hj h => by omega), rfl⟩
  case round =>
    obtain ⟨m, rfl, hm, hz, rfl⟩ := hrel
    by_cases h0 : m = 0
    · subst h0
      have HE := Lib.hid (cut_eq l 0 HD.out (Nat.zero_le _) (fun j hj h => hz.out j hj h) (.inl rfl))
      have hT := Lib.hid (HR.out.take 0 (Nat.zero_le _))
      go_wp2
      go_ret
      exact ⟨_, rfl, by rw [← HE.out]; exact hT.out, rfl⟩
    obtain ⟨q, rfl⟩ : ∃ q, m = q + 1 := ⟨m - 1, by omega⟩
    have hq : q < l.length := by omega
    obtain ⟨-, g, off, rfl, hg, hx⟩ := HR.out.cells (by omega)
    have hc := hx q hq
    clear hx h0
    by_cases hz0 : l[q] = 0
    · rw [hz0] at hc
      have HZ := Lib.hid (show ∀ j (hj : j < l.length), q ≤ j → l[j] = 0 from fun j hj h => by
        by_cases e : j = q
        · subst e; exact hz0
        · exact hz.out j hj (by omega))
      clear hz hz0
      go_wp2
      go_roundw
      case rel => exact ⟨q, by go_num, by omega, HZ, trivial⟩
      case measure => simp [intOf]
    · have HE := Lib.hid (cut_eq l (q + 1) HD.out hm (fun j hj h => hz.out j hj h) (.inr ⟨hq, hz0⟩))
      have hT := Lib.hid (HR.out.take (q + 1) hm)
      obtain ⟨x, hxx⟩ : ∃ x, x = l[q] := ⟨_, rfl⟩
      rw [← hxx] at hc hz0
      have hxi : ((x : Int) == 0) = false := by simp; omega
      clear hz hxx hz0
      go_wp2
      go_ret
      exact ⟨_, rfl, by rw [← HE.out]; exact hT.out, rfl⟩
theorem twL_len : ∀ (b : Nat) (l : List Nat), (twL b l).length ≤ l.length + 1
  | b, [] => by unfold twL; split <;> simp
  | b, d :: l => by have := twL_len ((2 * d + b) / 10) l; simp [twL]; omega
end Go.Proofs.YtonajmngchfjeaaGreatDoor
namespace Go.Proofs.YtonajmngchfjeaaGreatDoor
open Go.RowKit Num
attribute [local go_sem] setCell_drewN cell?_ext frozen?_ext shape?_ext setCell_ext lt_1' ne_1' en_1' le_1' lt_2' ne_2' en_2' le_2' lt_3' ne_3' en_3' le_3' lt_4' ne_4' en_4' le_4' lt_5' ne_5' en_5' le_5' lt_6' ne_6' en_6' le_6' lt_7' ne_7' en_7' le_7' lt_8' ne_8' en_8' le_8' lt_9' ne_9' en_9' le_9' lt_10' ne_10' en_10' le_10' lt_11' ne_11' en_11' le_11' lt_12' ne_12' en_12' le_12'

theorem IRow.made {W0 w : World} (hb : Below W0.heap.size W0 w) (n : Nat) : IRow W0 (w.alloc (.cells (madeCells #[.int .i64 0] n) 3)) w.heap.size n (fun _ => 0) := by
  refine ⟨hb.size, by rw [World.size_alloc]; omega, hb.alloc hb.size _, fun j hj => ?_, fun j hj => ?_⟩
  · rw [World.cell?_alloc_at _ _ _ _ rfl]
    simp [madeCells, hj, Nat.mod_one]
  · have h1 : (w.alloc (.cells (madeCells #[.int .i64 0] n) 3)).heap[w.heap.size]? = some (.cells (madeCells #[.int .i64 0] n) 3) := by
      show (w.heap.push _)[w.heap.size]? = _
      simp
    unfold World.frozen?
    rw [h1]
    simp
theorem make_int (n : Nat) (hn : n ≤ 1000000) : ∀ w, (Instr.makeSlice 41 (.int .i64 (n : Int)) (.int .i64 (n : Int))).run Tryz.prog w = .ok (.slice (some ⟨w.heap.size, 0, none⟩) n n) (w.alloc (.cells (madeCells #[.int .i64 0] n) 3)) :=
  fun w => run_make_row' 41 3 (.int .i64 0) 8 Tryz.underlying41 infoInt rfl .i64 .i64 n (by omega) (by omega) w
def HalfAt (l : List Nat) (j : Nat) (f : Nat → Int) : Prop := ∀ t, j ≤ t → t < l.length → f t = (((hfL (l.drop j)).1.getD (t - j) 0 : Nat) : Int)
theorem half_step {l : List Nat} {q : Nat} {f : Nat → Int} (h : HalfAt l (q + 1) f) (hq : q < l.length) (v : Int) (hv : v = (((10 * (hfL (l.drop (q + 1))).2 + l[q]) / 2 : Nat) : Int)) : HalfAt l q (upd f q v) := by
  intro t h1 h2
  rw [hfL_drop l q hq]
  unfold upd
  by_cases e : t = q
  · subst e
    rw [if_pos rfl, Nat.sub_self, hv]; rfl
  · rw [if_neg e, h t (by omega) h2]
    obtain ⟨s, rfl⟩ : ∃ s, t = q + 1 + s := ⟨t - (q + 1), by omega⟩
    rw [show q + 1 + s - (q + 1) = s by omega, show q + 1 + s - q = s + 1 by omega, List.getD_cons_succ]
set_option maxRecDepth 100000 in
set_option maxHeartbeats 4000000 in
theorem half_any (v : Value) (n : Nat) (hl : (dg n).length ≤ 100000) (w : World) (hr : Rd w v (dg n)) :
    Calls Tryz.prog 86 #[v] w fun e w' => ∃ v', e = .returned (.tuple #[v', .int .i64 ((n % 2 : Nat) : Int)]) ∧ RdP (fun g => w.heap.size ≤ g) w' v' (dg (n / 2)) ∧ Below w.heap.size w w' := by
  obtain ⟨l, hll⟩ : ∃ l, l = dg n := ⟨_, rfl⟩
  have hfin := hfL_dg n
  have hdd := dig_dg n
  rw [← hll] at hl hr hfin hdd
  obtain ⟨p, cap, rfl, hcap⟩ := hr.form
  obtain ⟨h2n, hm2⟩ := hfin
  have hmk := make_int l.length (by omega)
  have HR := Lib.hid hr
  have HD := Lib.hid hdd
  have H2 := Lib.hid h2n
  have HM := Lib.hid hm2
  have HI := Lib.hid (IRow.made (W0 := w) (w := w) (Below.refl _ _) l.length)
  clear hr hdd h2n hm2 hll
  go_enter Tryz.func86, Tryz.ntmps86
  go_wp2
  go_loopw [5, 6] (fun lv i wr => ∃ (j c : Nat) (z : Int) (f : Nat → Int), i = .int .i64 z ∧ z = (j : Int) - 1 ∧ j ≤ l.length ∧ lv = .int .i64 c ∧ c ≤ 1 ∧ Hid (c = (hfL (l.drop j)).2) ∧ Hid (HalfAt l j f) ∧ Hid (IRow w wr w.heap.size l.length f)) (fun _ i _ => (intOf i + 1).toNat)
  case atStart => exact ⟨l.length, 0, _, fun _ => 0, rfl, rfl, Nat.le_refl _, rfl, Nat.zero_le _, Lib.hid (by rw [List.drop_length]; rfl), Lib.hid (fun t h1 h2 => by omega), HI⟩
  case round =>
    obtain ⟨j, c, z, f, rfl, hz, hj, rfl, hc1, hc, hh, hi⟩ := hrel
    by_cases h0 : j = 0
    · subst h0
      have hzn : ¬ (0 : Int) ≤ z := by omega
      clear hz
      have hrd := fun cap (h : l.length ≤ cap) => hi.out.rd h (hfL l).1 (hfL_len l) (fun t ht => by
        rw [hh.out t (Nat.zero_le _) (by rw [hfL_len] at ht; exact ht), List.drop_zero, Nat.sub_zero, List.getD_eq_getElem?_getD, List.getElem?_eq_getElem ht]; rfl)
      have hcut := fun cap (h : l.length ≤ cap) => cut_any _ (hfL l).1 (hfL_dig HD.out) (by rw [hfL_len]; omega) wr (hrd cap h)
      rw [H2.out] at hcut
      have HC := Lib.hid hcut
      have hc2 := hc.out
      rw [List.drop_zero, HM.out] at hc2
      subst hc2
      have hbel := hi.out.below
      clear hcut hrd
      go_wp2_with (go_at_call 53; ((with_reducible refine (HC.out _ (Nat.le_refl _)).mono ?_); rintro e w' ⟨v', rfl, hrd, rfl⟩))
      go_ret2
      exact ⟨v', rfl, hrd.weak (fun g _ h => by rw [h]; exact Nat.le_refl _), hbel⟩
    obtain ⟨q, rfl⟩ : ∃ q, j = q + 1 := ⟨j - 1, by omega⟩
    obtain rfl : z = (q : Int) := by omega
    have hq : q < l.length := by omega
    have hqi : (q : Int) < l.length := by omega
    obtain ⟨-, g, off, rfl, hg, hx⟩ := (HR.out.later hi.out.below).cells (by omega)
    have hcell := hx q hq
    have hx9 := HD.out.get hq
    have hfree := hi.out.free q hq
    have hown := hi.out.cell q hq
    have hstep := fun v hv => half_step hh.out hq v hv
    have hnext : (10 * c + l[q]) % 2 = (hfL (l.drop q)).2 := by rw [hfL_drop l q hq, hc.out]
    rw [← hc.out] at hstep
    have hst := fun v => hi.out.store q v hq
    obtain ⟨x, hxx⟩ : ∃ x, x = l[q] := ⟨_, rfl⟩
    rw [← hxx] at hcell hx9 hstep hnext
    have HS := Lib.hid hstep; have HN := Lib.hid hnext; have HT := Lib.hid hst
    clear hx hstep hnext hst hxx h0 hc hh hi hz
    go_wp2

    go_roundw
    case rel => exact ⟨q, (10 * c + x) % 2, _, _, rfl, by omega, by omega, by go_num, by omega, HN, Lib.hid (HS.out _ (by omega)), Lib.hid (HT.out _)⟩
    case measure => simp only [intOf]; omega
end Go.Proofs.YtonajmngchfjeaaGreatDoor
namespace Go.Proofs.YtonajmngchfjeaaGreatDoor
open Go.RowKit Num
attribute [local go_sem] setCell_drewN cell?_ext frozen?_ext shape?_ext setCell_ext lt_1' ne_1' en_1' le_1' lt_2' ne_2' en_2' le_2' lt_3' ne_3' en_3' le_3' lt_4' ne_4' en_4' le_4' lt_5' ne_5' en_5' le_5' lt_6' ne_6' en_6' le_6' lt_7' ne_7' en_7' le_7' lt_8' ne_8' en_8' le_8' lt_9' ne_9' en_9' le_9' lt_10' ne_10' en_10' le_10' lt_11' ne_11' en_11' le_11' lt_12' ne_12' en_12' le_12'

/-- the slice v reads, in w, as the words of this number -/
def Ws (w : World) (v : Value) (n N : Nat) : Prop := ∃ g cap, v = .slice (some ⟨g, 0, none⟩) n cap ∧ g < w.heap.size ∧ ∀ j, j < n → w.cell? ⟨g, j, none⟩ = some (.int .u64 ((N / 2 ^ (64 * j) % 18446744073709551616 : Nat) : Int))
theorem bit_at (N i k : Nat) (hk : k < 64) : N / 2 ^ (64 * i) % 18446744073709551616 / 2 ^ k % 2 = N / 2 ^ (64 * i + k) % 2 := by
  have e : (18446744073709551616 : Nat) = 2 ^ k * 2 ^ (64 - k) := by rw [← Nat.pow_add, show k + (64 - k) = 64 by omega]
  rw [e, Nat.mod_mul_right_div_self, Nat.pow_add, ← Nat.div_div_eq_div_mul]
  have h2 : 2 ^ (64 - k) = 2 * 2 ^ (63 - k) := by rw [← Nat.pow_succ']; congr 1; omega
  rw [h2, Nat.mod_mul_right_mod]
theorem bit_step (N p : Nat) : N / 2 ^ p = 2 * (N / 2 ^ (p + 1)) + N / 2 ^ p % 2 := by
  rw [Nat.pow_succ, ← Nat.div_div_eq_div_mul]; omega
theorem and_one (a : Nat) (ha : a < 18446744073709551616) : bits .and .u64 (a : Int) 1 = ((a % 2 : Nat) : Int) := by
  have h := bits_and_u64_nat a 1 ha (by omega)
  rw [Nat.and_one_is_mod] at h
  exact h
end Go.Proofs.YtonajmngchfjeaaGreatDoor
namespace Go.Proofs.YtonajmngchfjeaaGreatDoor
open Go.RowKit Num Word
attribute [local go_sem] setCell_drewN cell?_ext frozen?_ext shape?_ext setCell_ext lt_1' ne_1' en_1' le_1' lt_2' ne_2' en_2' le_2' lt_3' ne_3' en_3' le_3' lt_4' ne_4' en_4' le_4' lt_5' ne_5' en_5' le_5' lt_6' ne_6' en_6' le_6' lt_7' ne_7' en_7' le_7' lt_8' ne_8' en_8' le_8' lt_9' ne_9' en_9' le_9' lt_10' ne_10' en_10' le_10' lt_11' ne_11' en_11' le_11' lt_12' ne_12' en_12' le_12'

theorem ws_lit (w : World) (n N : Nat) (C : Array Value) (hC : ∀ j, j < n → C[j]? = some (.int .u64 ((N / 2 ^ (64 * j) % 18446744073709551616 : Nat) : Int))) : Ws (w.alloc (.cells C 29)) (.slice (some ⟨w.heap.size, 0, none⟩) n n) n N := by
  refine ⟨w.heap.size, n, rfl, by rw [World.size_alloc]; omega, fun j hj => ?_⟩
  rw [World.cell?_alloc_at _ _ _ _ rfl]
  exact hC j hj
theorem ws_lit2 (w : World) (o : Obj) (n N : Nat) (C : Array Value) (hC : ∀ j, j < n → C[j]? = some (.int .u64 ((N / 2 ^ (64 * j) % 18446744073709551616 : Nat) : Int))) : Ws ((w.alloc o).alloc (.cells C 29)) (.slice (some ⟨w.heap.size + 1, 0, none⟩) n n) n N := by
  have h := ws_lit (w.alloc o) n N C hC
  rw [World.size_alloc] at h
  exact h
theorem more {w w1 w2 : World} (h : Below w.heap.size w w1) (h2 : Below w1.heap.size w1 w2) : Below w.heap.size w w2 :=
  h.trans ⟨h2.os, h2.tape, h2.output, h2.size, fun k hk => h2.block k (Nat.lt_of_lt_of_le hk h.size)⟩
end Go.Proofs.YtonajmngchfjeaaGreatDoor
namespace Go.Proofs.YtonajmngchfjeaaGreatDoor
open Go.RowKit Num Word
attribute [local go_sem] setCell_drewN cell?_ext frozen?_ext shape?_ext setCell_ext lt_1' ne_1' en_1' le_1' lt_2' ne_2' en_2' le_2' lt_3' ne_3' en_3' le_3' lt_4' ne_4' en_4' le_4' lt_5' ne_5' en_5' le_5' lt_6' ne_6' en_6' le_6' lt_7' ne_7' en_7' le_7' lt_8' ne_8' en_8' le_8' lt_9' ne_9' en_9' le_9' lt_10' ne_10' en_10' le_10' lt_11' ne_11' en_11' le_11' lt_12' ne_12' en_12' le_12'

/-- a block of the call's own holds four words, and may be written -/
structure U4 (W0 w : World) (g : Nat) (f : Nat → Nat) : Prop where
  own : W0.heap.size ≤ g
  lt : g < w.heap.size
  cell : ∀ j, j < 4 → w.cell? ⟨g, j, none⟩ = some (.int .u64 (f j : Int))
  free : ∀ j, j < 4 → w.frozen? ⟨g, j, none⟩ = false
theorem U4.later {W0 w w' : World} {g : Nat} {f : Nat → Nat} (h : U4 W0 w g f) (hb : Below w.heap.size w w') : U4 W0 w' g f :=
  ⟨h.own, Nat.lt_of_lt_of_le h.lt hb.size, fun j hj => by rw [← h.cell j hj]; exact (bcell hb).1 g j h.lt, fun j hj => by rw [← h.free j hj]; exact (bcell hb).2 g j h.lt⟩
theorem U4.store {W0 w : World} {g : Nat} {f : Nat → Nat} (h : U4 W0 w g f) (k v : Nat) (hk : k < 4) : U4 W0 (w.setCell ⟨g, k, none⟩ (.int .u64 (v : Int))) g (fun j => if j = k then v else f j) := by
  refine ⟨h.own, by rw [World.size_setCell]; exact h.lt, fun j hj => ?_, fun j hj => by rw [World.frozen?_setCell]; exact h.free j hj⟩
  by_cases e : j = k
  · subst e
    rw [World.cell?_setCell_same w _ _ (h.cell j hj)]
    simp
  · rw [World.cell?_setCell_other w _ _ _ (by intro e2; injection e2 with _ e3 _; exact e e3.symm), h.cell j hj]
    simp [e]
theorem U4.drew {W0 w : World} {g : Nat} {f : Nat → Nat} (h : U4 W0 w g f) : U4 W0 w.drew g f := ⟨h.own, h.lt, h.cell, h.free⟩
theorem U4.congr {W0 w : World} {g : Nat} {f f' : Nat → Nat} (h : U4 W0 w g f) (he : ∀ j, f j = f' j) : U4 W0 w g f' := by
  rw [← show f = f' from funext he]; exact h
theorem U4.other {W0 w : World} {g g' : Nat} {f : Nat → Nat} (h : U4 W0 w g f) (k : Nat) (v : Value) (hg : g ≠ g') : U4 W0 (w.setCell ⟨g', k, none⟩ v) g f := by
  refine ⟨h.own, by rw [World.size_setCell]; exact h.lt, fun j hj => ?_, fun j hj => by rw [World.frozen?_setCell]; exact h.free j hj⟩
  rw [World.cell?_setCell_other w _ _ _ (by intro e2; injection e2 with e3; exact hg e3.symm), h.cell j hj]
theorem two_blocks (w : World) (A B : Obj) : ((w.alloc A).alloc B).heap[w.heap.size]? = some A ∧ ((w.alloc A).alloc B).heap[w.heap.size + 1]? = some B := by
  constructor
  · show ((w.heap.push A).push B)[w.heap.size]? = _
    simp [Array.getElem?_push]
  · show ((w.heap.push A).push B)[w.heap.size + 1]? = _
    rw [show w.heap.size + 1 = (w.heap.push A).size by simp, Array.getElem?_push_size]
/-- the words of a number -/
def wv (X j : Nat) : Nat := X / 2 ^ (64 * j) % 18446744073709551616
theorem wv_zero (j : Nat) : wv 0 j = 0 := by simp [wv]
theorem wv_bound (X j : Nat) : wv X j < 18446744073709551616 := Nat.mod_lt _ (by decide)
theorem or_add (a b r : Nat) (ha : a < 2 ^ r) : a ||| b * 2 ^ r = a + b * 2 ^ r := by
  have h := Nat.two_pow_add_eq_or_of_lt (i := r) (b := a) ha b
  rw [Nat.or_comm, Nat.mul_comm, ← h, Nat.add_comm]
theorem mod_bit (n i : Nat) : n % 2 ^ (i + 1) = n % 2 ^ i + n / 2 ^ i % 2 * 2 ^ i := by
  rw [Nat.pow_succ, Nat.mod_mul, Nat.mul_comm (2 ^ i) (n / 2 ^ i % 2)]
theorem wv_low (n q r : Nat) : wv (n % 2 ^ (64 * q + r)) q < 2 ^ r := by
  unfold wv
  have h1 : n % 2 ^ (64 * q + r) / 2 ^ (64 * q) < 2 ^ r := by
    rw [Nat.div_lt_iff_lt_mul (Nat.pow_pos (by decide)), ← Nat.pow_add, Nat.add_comm r]
    exact Nat.mod_lt _ (Nat.pow_pos (by decide))
  exact Nat.lt_of_le_of_lt (Nat.mod_le _ _) h1
theorem wv_step (n q r j : Nat) (hr : r < 64) : wv (n % 2 ^ (64 * q + r + 1)) j = if j = q then wv (n % 2 ^ (64 * q + r)) q + n / 2 ^ (64 * q + r) % 2 * 2 ^ r else wv (n % 2 ^ (64 * q + r)) j := by
  have hb : n / 2 ^ (64 * q + r) % 2 ≤ 1 := by omega
  have hX := Nat.mod_lt n (show 0 < 2 ^ (64 * q + r) from Nat.pow_pos (by decide))
  have hlow := wv_low n q r
  rw [mod_bit]
  generalize n / 2 ^ (64 * q + r) % 2 = b at *
  generalize n % 2 ^ (64 * q + r) = X at *
  have h64 : (18446744073709551616 : Nat) = 2 ^ 64 := by decide
  by_cases hjq : j = q
  · subst hjq
    rw [if_pos rfl]
    unfold wv at *
    have e1 : X + b * 2 ^ (64 * j + r) = X + (b * 2 ^ r) * 2 ^ (64 * j) := by rw [Nat.pow_add]; congr 1; rw [Nat.mul_comm (2 ^ (64 * j)), Nat.mul_assoc]
    rw [e1, Nat.add_mul_div_right _ _ (Nat.pow_pos (by decide))]
    have h1 : X / 2 ^ (64 * j) < 2 ^ r := by
      rw [Nat.div_lt_iff_lt_mul (Nat.pow_pos (by decide)), ← Nat.pow_add, Nat.add_comm r]; exact hX
    have h2 : 2 ^ r * 2 ≤ 2 ^ 64 := by rw [← Nat.pow_succ]; exact Nat.pow_le_pow_right (by decide) hr
    have h3 : b * 2 ^ r ≤ 1 * 2 ^ r := Nat.mul_le_mul_right _ hb
    rw [← h64] at h2
    generalize b * 2 ^ r = y at *
    generalize 2 ^ r = z at *
    rw [Nat.mod_eq_of_lt (show X / 2 ^ (64 * j) + y < 18446744073709551616 by omega), Nat.mod_eq_of_lt (show X / 2 ^ (64 * j) < 18446744073709551616 by omega)]
  · rw [if_neg hjq]
    unfold wv
    by_cases hlt : j < q
    · have e1 : X + b * 2 ^ (64 * q + r) = X + (b * 2 ^ (64 * q + r - 64 * j - 64) * 2 ^ 64) * 2 ^ (64 * j) := by
        congr 1
        rw [Nat.mul_assoc, Nat.mul_assoc, ← Nat.pow_add, ← Nat.pow_add]
        congr 2; omega
      rw [e1, Nat.add_mul_div_right _ _ (Nat.pow_pos (by decide)), h64, Nat.add_mul_mod_self_right]
    · have h1 : 2 ^ (64 * q + r + 1) ≤ 2 ^ (64 * j) := Nat.pow_le_pow_right (by decide) (by omega)
      have h3 : b * 2 ^ (64 * q + r) ≤ 1 * 2 ^ (64 * q + r) := Nat.mul_le_mul_right _ hb
      rw [Nat.pow_succ] at h1
      generalize b * 2 ^ (64 * q + r) = y at *
      generalize 2 ^ (64 * q + r) = z at *
      rw [Nat.div_eq_of_lt (show X + y < 2 ^ (64 * j) by omega), Nat.div_eq_of_lt (show X < 2 ^ (64 * j) by omega)]
theorem dg_len_mono {m n : Nat} (h : m ≤ n) : (dg m).length ≤ (dg n).length := dg_len_le.2 (Nat.lt_of_le_of_lt h (dg_len_le.1 (Nat.le_refl _)))
theorem or_u64 (a b r : Nat) (ha : a < 2 ^ r) (hb : b ≤ 1) (hr : r < 64) : bits .or .u64 (a : Int) ((b * 2 ^ r : Nat) : Int) = ((a + b * 2 ^ r : Nat) : Int) := by
  have h2 : 2 ^ r * 2 ≤ 2 ^ 64 := by rw [← Nat.pow_succ]; exact Nat.pow_le_pow_right (by decide) hr
  have h3 : b * 2 ^ r ≤ 1 * 2 ^ r := Nat.mul_le_mul_right _ hb
  have h := bits_or_u64_nat a (b * 2 ^ r) (by omega) (by omega)
  rw [or_add a b r ha] at h
  exact h
set_option maxRecDepth 100000 in
set_option maxHeartbeats 8000000 in
theorem toLong_any (v : Value) (n : Nat) (hl : (dg n).length ≤ 100000) (w : World) (hr : Rd w v (dg n)) :
    Calls Tryz.prog 66 #[v] w fun e w' => e = .returned (.tuple #[L (n % top4), .bool (decide (n < top4))]) ∧ Below w.heap.size w w' := by
  obtain ⟨p, cap, rfl, hcap⟩ := hr.form
  have HR := Lib.hid hr
  clear hr
  go_enter Tryz.func66, Tryz.ntmps66
  go_wp2
  go_loopw [0, 5] (fun d i wr => ∃ (k : Nat), i = .int .i64 k ∧ k ≤ 256 ∧ Hid (RdP (fun g => g ≠ w.heap.size + 1) wr d (dg (n / 2 ^ k))) ∧ Hid (U4 w wr w.heap.size (fun _ => 0)) ∧ Hid (U4 w wr (w.heap.size + 1) (wv (n % 2 ^ k))) ∧ Hid (Below w.heap.size w wr)) (fun _ i _ => 256 - (intOf i).toNat)
  case atStart =>
    refine ⟨0, rfl, Nat.zero_le _, Lib.hid ?_, Lib.hid ?_, Lib.hid ?_, Lib.hid (by (repeat' (first | (with_reducible exact Below.refl _ _) | (with_reducible assumption) | (with_reducible refine Below.alloc ?_ ?_ _) | (with_reducible refine below_drewN ?_ _) | (with_reducible refine below_drew ?_) | (with_reducible refine below_ext ?_ ?_ _ _) | (with_reducible refine Below.setCell ?_ ?_ _) | (simp; done) | (simp; omega) | omega)))⟩
    · rw [Nat.pow_zero, Nat.div_one]
      exact ((HR.out.old).weak (fun g _ h => by omega)).later (by (repeat' (first | (with_reducible exact Below.refl _ _) | (with_reducible assumption) | (with_reducible refine Below.alloc ?_ ?_ _) | (with_reducible refine below_drewN ?_ _) | (with_reducible refine below_drew ?_) | (with_reducible refine below_ext ?_ ?_ _ _) | (with_reducible refine Below.setCell ?_ ?_ _) | (simp; done) | (simp; omega) | omega)))
    · refine ⟨Nat.le_refl _, by simp only [World.size_alloc]; omega, fun j hj => ?_, fun j hj => ?_⟩
      · rcases (show j = 0 ∨ j = 1 ∨ j = 2 ∨ j = 3 by omega) with rfl | rfl | rfl | rfl <;> (simp [go_sem])
      · exact Joins.unfrozen_of_block (two_blocks w _ _).1 j
    · refine ⟨by omega, by simp only [World.size_alloc]; omega, fun j hj => ?_, fun j hj => ?_⟩
      · rw [Nat.pow_zero, Nat.mod_one, wv_zero]
        rcases (show j = 0 ∨ j = 1 ∨ j = 2 ∨ j = 3 by omega) with rfl | rfl | rfl | rfl <;> (simp [go_sem])
      · exact Joins.unfrozen_of_block (two_blocks w _ _).2 j
  case round =>
    obtain ⟨k, rfl, hk, hd, h0, h1, hbel⟩ := hrel
    by_cases hlt : k < 256
    · have hlti : (k : Int) < 256 := by omega
      have hlen := Nat.le_trans (dg_len_mono (Nat.div_le_self n (2 ^ k))) hl
      have hhf := half_any _ (n / 2 ^ k) hlen wr hd.out.rd
      obtain ⟨b, hbb⟩ : ∃ b, b = n / 2 ^ k % 2 := ⟨_, rfl⟩
      have hb1 : b ≤ 1 := by omega
      obtain ⟨q, hq⟩ : ∃ q, q = k / 64 := ⟨_, rfl⟩
      obtain ⟨r, hr⟩ : ∃ r, r = k % 64 := ⟨_, rfl⟩
      have hkq : 64 * q + r = k := by omega
      have hq4 : q < 4 := by omega
      have hr64 : r < 64 := by omega
      have E1 : (k : Int) / 64 = (q : Int) := by omega
      have E2 : (k : Int) % 64 = (r : Int) := by omega
      have hlow := wv_low n q r
      have hstep := fun j => wv_step n q r j hr64
      rw [hkq, ← hbb] at hstep
      rw [hkq] at hlow
      obtain ⟨x, hxx⟩ : ∃ x, x = wv (n % 2 ^ k) q := ⟨_, rfl⟩
      have hor := or_u64 x b r (by rw [hxx]; exact hlow) hb1 hr64
      rw [← hbb] at hhf
      have hb2r : b * 2 ^ r < 18446744073709551616 := by
        have h3 : b * 2 ^ r ≤ 1 * 2 ^ r := Nat.mul_le_mul_right _ hb1
        have h4 : 2 ^ r < 2 ^ 64 := Nat.pow_lt_pow_right (by decide) hr64
        have : (2 : Nat) ^ 64 = 18446744073709551616 := by decide
        omega
      have HH := Lib.hid hhf
      have HX := Lib.hid hxx
      have HS := Lib.hid hstep
      have HQ := Lib.hid hkq
      obtain ⟨y, hy⟩ : ∃ y, y = b * 2 ^ r := ⟨_, rfl⟩
      have W1 : IntKind.u64.wrap ((b : Int) * 2 ^ r) = (y : Int) := by
        rw [show ((b : Int) * 2 ^ r) = ((b * 2 ^ r : Nat) : Int) by push_cast; rfl, IntKind.wrap_u64, ← hy]
        rw [← hy] at hb2r
        omega
      rw [← hy] at hor
      have HY := Lib.hid hy
      clear hhf hlen hbb hq hr hkq hlow hstep hxx hb2r hy hd
      go_wp2_with (first
        | (go_at_call 86; ((with_reducible refine (HH.out).mono ?_); rintro e w' ⟨v', rfl, hrd, hb2⟩; have hc := (h1.out.later hb2).cell q hq4; have hf := (h1.out.later hb2).free q hq4; rw [← HX.out] at hc))
        )
      go_region
      go_wp2
      go_roundw
      case rel =>
        refine ⟨k + 1, by go_num, by omega, Lib.hid ?_, Lib.hid ?_, Lib.hid ?_, Lib.hid ?_⟩
        · have h := (hrd.weak (Q := fun g => g ≠ w.heap.size + 1) (fun g _ h => by have := h1.out.lt; omega)).store (w.heap.size + 1) q (.int .u64 ((x : Int) + (y : Int))) (fun g h => h)
          rw [Nat.div_div_eq_div_mul, ← Nat.pow_succ] at h
          exact h
        · exact ((h0.out.later hb2).other q _ (Nat.ne_of_lt (Nat.lt_succ_self _))).drew
        · have h := ((h1.out.later hb2).store q (x + y) hq4).congr (f' := wv (n % 2 ^ (k + 1))) (fun j => by rw [HS.out j, HY.out, HX.out])
          rw [Int.natCast_add] at h
          exact h.drew
        · exact below_drew ((more hbel.out hb2).setCell (p := ⟨w.heap.size + 1, q, none⟩) (by show w.heap.size ≤ w.heap.size + 1; omega) _)
      case measure => simp only [intOf]; omega
    · obtain rfl : k = 256 := by omega
      have hd2 := hd.out
      obtain ⟨m, hm⟩ : ∃ m, m = dg (n / 2 ^ 256) := ⟨_, rfl⟩
      rw [← hm] at hd2
      obtain ⟨p2, cap2, rfl, -⟩ := hd2.form
      have hlenz : ((m.length : Int) == 0) = decide (n < top4) := by
        have e : m.length = 0 ↔ n < top4 := by
          rw [hm, ← Nat.le_zero_eq, dg_len_le, Nat.pow_zero, Nat.lt_one_iff, Nat.div_eq_zero_iff]
          have : (2 : Nat) ^ 256 = top4 := by decide
          rw [this]
          exact ⟨fun h => h.resolve_left (by unfold top4; omega), .inr⟩
        by_cases hc : m.length = 0
        · rw [decide_eq_true (e.1 hc), hc]; rfl
        · rw [decide_eq_false (fun h => hc (e.2 h))]
          exact beq_eq_false_iff_ne.2 (by omega)
      have hX : n % 2 ^ 256 = n % top4 := by rw [show (2 : Nat) ^ 256 = top4 by decide]
      have c0 := h1.out.cell 0 (by decide); have c1 := h1.out.cell 1 (by decide); have c2 := h1.out.cell 2 (by decide); have c3 := h1.out.cell 3 (by decide)
      have z0 := h0.out.cell 0 (by decide); have z1 := h0.out.cell 1 (by decide); have z2 := h0.out.cell 2 (by decide); have z3 := h0.out.cell 3 (by decide)
      have y0 := h0.out.free 0 (by decide); have y1 := h0.out.free 1 (by decide); have y2 := h0.out.free 2 (by decide); have y3 := h0.out.free 3 (by decide)
      rw [hX] at c0 c1 c2 c3
      have e0 : wv (n % top4) 0 = w0 (n % top4) := by simp [wv, w0]
      have e1 : wv (n % top4) 1 = w1 (n % top4) := by simp [wv, w1]
      have e2 : wv (n % top4) 2 = w2 (n % top4) := by simp [wv, w2]
      have e3 : wv (n % top4) 3 = w3 (n % top4) := by simp [wv, w3]
      rw [e0] at c0; rw [e1] at c1; rw [e2] at c2; rw [e3] at c3
      obtain ⟨a0, ha0⟩ : ∃ a, a = w0 (n % top4) := ⟨_, rfl⟩
      obtain ⟨a1, ha1⟩ : ∃ a, a = w1 (n % top4) := ⟨_, rfl⟩
      obtain ⟨a2, ha2⟩ : ∃ a, a = w2 (n % top4) := ⟨_, rfl⟩
      obtain ⟨a3, ha3⟩ : ∃ a, a = w3 (n % top4) := ⟨_, rfl⟩
      obtain ⟨ok, hok⟩ : ∃ a, a = decide (n < top4) := ⟨_, rfl⟩
      rw [← ha0] at c0; rw [← ha1] at c1; rw [← ha2] at c2; rw [← ha3] at c3
      rw [← hok] at hlenz
      have hfin : Hid ((.tuple #[L (n % top4), .bool (decide (n < top4))] : Value) = .tuple #[.agg #[.int .u64 (a0 : Int), .int .u64 (a1 : Int), .int .u64 (a2 : Int), .int .u64 (a3 : Int)], .bool ok]) := Lib.hid (by rw [ha0, ha1, ha2, ha3, hok])
      have s0 : (wr.setCell ⟨w.heap.size, 0, none⟩ (.int .u64 (a0 : Int))).cell? ⟨w.heap.size, 0, none⟩ = some (.int .u64 (a0 : Int)) := World.cell?_setCell_same _ _ _ z0
      have s1 : ((wr.setCell ⟨w.heap.size, 0, none⟩ (.int .u64 (a0 : Int))).setCell ⟨w.heap.size, 1, none⟩ (.int .u64 (a1 : Int))).cell? ⟨w.heap.size, 1, none⟩ = some (.int .u64 (a1 : Int)) := World.cell?_setCell_same _ _ _ ((World.cell?_setCell_other _ _ _ _ (by intro e2; injection e2 with _ e3; exact absurd e3 (by decide))).trans z1)
      have s2 : (((wr.setCell ⟨w.heap.size, 0, none⟩ (.int .u64 (a0 : Int))).setCell ⟨w.heap.size, 1, none⟩ (.int .u64 (a1 : Int))).setCell ⟨w.heap.size, 2, none⟩ (.int .u64 (a2 : Int))).cell? ⟨w.heap.size, 2, none⟩ = some (.int .u64 (a2 : Int)) := World.cell?_setCell_same _ _ _ ((World.cell?_setCell_other _ _ _ _ (by intro e2; injection e2 with _ e3; exact absurd e3 (by decide))).trans ((World.cell?_setCell_other _ _ _ _ (by intro e2; injection e2 with _ e3; exact absurd e3 (by decide))).trans z2))
      have s3 : ((((wr.setCell ⟨w.heap.size, 0, none⟩ (.int .u64 (a0 : Int))).setCell ⟨w.heap.size, 1, none⟩ (.int .u64 (a1 : Int))).setCell ⟨w.heap.size, 2, none⟩ (.int .u64 (a2 : Int))).setCell ⟨w.heap.size, 3, none⟩ (.int .u64 (a3 : Int))).cell? ⟨w.heap.size, 3, none⟩ = some (.int .u64 (a3 : Int)) := World.cell?_setCell_same _ _ _ ((World.cell?_setCell_other _ _ _ _ (by intro e2; injection e2 with _ e3; exact absurd e3 (by decide))).trans ((World.cell?_setCell_other _ _ _ _ (by intro e2; injection e2 with _ e3; exact absurd e3 (by decide))).trans ((World.cell?_setCell_other _ _ _ _ (by intro e2; injection e2 with _ e3; exact absurd e3 (by decide))).trans z3)))
      clear e0 e1 e2 e3 ha0 ha1 ha2 ha3 hok hX hm hd hd2
      go_wp2
      refine bodyPost_ret (by simp [results, Tryz.results66, go_sem, s0, s1, s2, s3]; try rfl) rfl ?_
      refine ⟨by rw [hfin.out], ?_⟩
      have hb := hbel.out
      exact (((hb.setCell (p := ⟨w.heap.size, 0, none⟩) (Nat.le_refl _) _).setCell (p := ⟨w.heap.size, 1, none⟩) (Nat.le_refl _) _).setCell (p := ⟨w.heap.size, 2, none⟩) (Nat.le_refl _) _).setCell (p := ⟨w.heap.size, 3, none⟩) (Nat.le_refl _) _
theorem to_hi (n : Nat) : hi (n % top2) = w1 (n % top4) := by unfold hi w1 top2 top4; omega
theorem to_lo (n : Nat) : lo (n % top2) = w0 (n % top4) := by unfold lo w0 top2 top4; omega
set_option maxRecDepth 100000 in
set_option maxHeartbeats 8000000 in
theorem to_walk (v : Value) (a0 a1 a2 a3 : Nat) (ok : Bool) (w : World) (hk : ∀ w1, Below w.heap.size w w1 → Calls Tryz.prog 66 #[v] w1 fun e w' => e = .returned (.tuple #[.agg #[.int .u64 (a0 : Int), .int .u64 (a1 : Int), .int .u64 (a2 : Int), .int .u64 (a3 : Int)], .bool ok]) ∧ Below w1.heap.size w1 w') :
    Calls Tryz.prog 54 #[v] w fun e w' => e = .returned (.tuple #[.agg #[.int .u64 (a1 : Int), .int .u64 (a0 : Int)], .bool (ok && decide (a2 = 0) && decide (a3 = 0))]) ∧ Below w.heap.size w w' := by
  have HK := Lib.hid hk
  clear hk
  cases ok with
  | false =>
    go_enter Tryz.func54, Tryz.ntmps54
    go_wp2_with (go_at_call 66; ((with_reducible refine (HK.out _ (by (repeat' (first | (with_reducible exact Below.refl _ _) | (with_reducible assumption) | (with_reducible refine Below.alloc ?_ ?_ _) | (with_reducible refine below_drewN ?_ _) | (with_reducible refine below_drew ?_) | (with_reducible refine below_ext ?_ ?_ _ _) | (with_reducible refine Below.setCell ?_ ?_ _) | (simp; done) | (simp; omega) | omega)))).mono ?_); rintro e w1 ⟨rfl, hb1⟩; obtain ⟨osA, dA, rfl⟩ := ext_of_below hb1; clear hb1))
    go_region
    all_goals
      go_wp2
      go_returns
      exact ⟨by simp, by (repeat' (first | (with_reducible exact Below.refl _ _) | (with_reducible assumption) | (with_reducible refine Below.alloc ?_ ?_ _) | (with_reducible refine below_drewN ?_ _) | (with_reducible refine below_drew ?_) | (with_reducible refine below_ext ?_ ?_ _ _) | (with_reducible refine Below.setCell ?_ ?_ _) | (simp; done) | (simp; omega) | omega))⟩
  | true =>
    by_cases h2 : a2 = 0
    · subst h2
      by_cases h3 : a3 = 0
      · subst h3
        go_enter Tryz.func54, Tryz.ntmps54
        go_wp2_with (go_at_call 66; ((with_reducible refine (HK.out _ (by (repeat' (first | (with_reducible exact Below.refl _ _) | (with_reducible assumption) | (with_reducible refine Below.alloc ?_ ?_ _) | (with_reducible refine below_drewN ?_ _) | (with_reducible refine below_drew ?_) | (with_reducible refine below_ext ?_ ?_ _ _) | (with_reducible refine Below.setCell ?_ ?_ _) | (simp; done) | (simp; omega) | omega)))).mono ?_); rintro e w1 ⟨rfl, hb1⟩; obtain ⟨osA, dA, rfl⟩ := ext_of_below hb1; clear hb1))
        go_region
        all_goals
          go_wp2
          go_returns
          exact ⟨by simp, by (repeat' (first | (with_reducible exact Below.refl _ _) | (with_reducible assumption) | (with_reducible refine Below.alloc ?_ ?_ _) | (with_reducible refine below_drewN ?_ _) | (with_reducible refine below_drew ?_) | (with_reducible refine below_ext ?_ ?_ _ _) | (with_reducible refine Below.setCell ?_ ?_ _) | (simp; done) | (simp; omega) | omega))⟩
      · have h3i : ((a3 : Int) == 0) = false := beq_eq_false_iff_ne.2 (by omega)
        have HD := Lib.hid (show decide (a3 = 0) = false from decide_eq_false h3)
        clear h3
        go_enter Tryz.func54, Tryz.ntmps54
        go_wp2_with (go_at_call 66; ((with_reducible refine (HK.out _ (by (repeat' (first | (with_reducible exact Below.refl _ _) | (with_reducible assumption) | (with_reducible refine Below.alloc ?_ ?_ _) | (with_reducible refine below_drewN ?_ _) | (with_reducible refine below_drew ?_) | (with_reducible refine below_ext ?_ ?_ _ _) | (with_reducible refine Below.setCell ?_ ?_ _) | (simp; done) | (simp; omega) | omega)))).mono ?_); rintro e w1 ⟨rfl, hb1⟩; obtain ⟨osA, dA, rfl⟩ := ext_of_below hb1; clear hb1))
        go_region
        all_goals
          go_wp2
          go_returns
          exact ⟨by rw [HD.out]; simp, by (repeat' (first | (with_reducible exact Below.refl _ _) | (with_reducible assumption) | (with_reducible refine Below.alloc ?_ ?_ _) | (with_reducible refine below_drewN ?_ _) | (with_reducible refine below_drew ?_) | (with_reducible refine below_ext ?_ ?_ _ _) | (with_reducible refine Below.setCell ?_ ?_ _) | (simp; done) | (simp; omega) | omega))⟩
    · have h2i : ((a2 : Int) == 0) = false := beq_eq_false_iff_ne.2 (by omega)
      have HD := Lib.hid (show decide (a2 = 0) = false from decide_eq_false h2)
      clear h2
      go_enter Tryz.func54, Tryz.ntmps54
      go_wp2_with (go_at_call 66; ((with_reducible refine (HK.out _ (by (repeat' (first | (with_reducible exact Below.refl _ _) | (with_reducible assumption) | (with_reducible refine Below.alloc ?_ ?_ _) | (with_reducible refine below_drewN ?_ _) | (with_reducible refine below_drew ?_) | (with_reducible refine below_ext ?_ ?_ _ _) | (with_reducible refine Below.setCell ?_ ?_ _) | (simp; done) | (simp; omega) | omega)))).mono ?_); rintro e w1 ⟨rfl, hb1⟩; obtain ⟨osA, dA, rfl⟩ := ext_of_below hb1; clear hb1))
      go_region
      all_goals
        go_wp2
        go_returns
        exact ⟨by rw [HD.out]; simp, by (repeat' (first | (with_reducible exact Below.refl _ _) | (with_reducible assumption) | (with_reducible refine Below.alloc ?_ ?_ _) | (with_reducible refine below_drewN ?_ _) | (with_reducible refine below_drew ?_) | (with_reducible refine below_ext ?_ ?_ _ _) | (with_reducible refine Below.setCell ?_ ?_ _) | (simp; done) | (simp; omega) | omega))⟩
theorem to_any (v : Value) (n : Nat) (hl : (dg n).length ≤ 100000) (w : World) (hr : Rd w v (dg n)) :
    Calls Tryz.prog 54 #[v] w fun e w' => e = .returned (.tuple #[W (n % top2), .bool (decide (n < top2))]) ∧ Below w.heap.size w w' := by
  have h := to_walk v (w0 (n % top4)) (w1 (n % top4)) (w2 (n % top4)) (w3 (n % top4)) (decide (n < top4)) w (fun w1 hb => toLong_any v n hl w1 (hr.later hb))
  have hok : (decide (n < top4) && decide (w2 (n % top4) = 0) && decide (w3 (n % top4) = 0)) = decide (n < top2) := by
    by_cases h4 : n < top4
    · have hn := narrow_words h4
      rw [Nat.mod_eq_of_lt h4]
      by_cases h2 : n < top2
      · obtain ⟨e1, e2⟩ := hn.1.2 h2
        simp [h4, h2, e1, e2]
      · have h3 : ¬ (w2 n = 0 ∧ w3 n = 0) := fun h => h2 (hn.1.1 h)
        simp only [h4, h2, decide_true, decide_false, Bool.true_and, Bool.and_eq_false_iff, decide_eq_false_iff_not]
        by_cases e : w2 n = 0
        · exact .inr fun e2 => h3 ⟨e, e2⟩
        · exact .inl e
    · have h2 : ¬ n < top2 := fun h => h4 (Nat.lt_trans h (by decide))
      simp [h4, h2]
  rw [hok, ← to_hi, ← to_lo] at h
  exact h
end Go.Proofs.YtonajmngchfjeaaGreatDoor
namespace Go.Proofs.YtonajmngchfjeaaGreatDoor
open Go.RowKit Num Word
attribute [local go_sem] setCell_drewN cell?_ext frozen?_ext shape?_ext setCell_ext lt_1' ne_1' en_1' le_1' lt_2' ne_2' en_2' le_2' lt_3' ne_3' en_3' le_3' lt_4' ne_4' en_4' le_4' lt_5' ne_5' en_5' le_5' lt_6' ne_6' en_6' le_6' lt_7' ne_7' en_7' le_7' lt_8' ne_8' en_8' le_8' lt_9' ne_9' en_9' le_9' lt_10' ne_10' en_10' le_10' lt_11' ne_11' en_11' le_11' lt_12' ne_12' en_12' le_12'

theorem cmpv_less {a b : Nat} (h : a < b) : cmpv a b = -1 := if_pos h
theorem cmpv_more {a b : Nat} (h : b < a) : cmpv a b = 1 := by unfold cmpv; rw [if_neg (by omega), if_pos h]
theorem cmpv_same (a : Nat) : cmpv a a = 0 := by unfold cmpv; rw [if_neg (by omega), if_neg (by omega)]
end Go.Proofs.YtonajmngchfjeaaGreatDoor
namespace Go.Proofs.YtonajmngchfjeaaGreatDoor
open Go.RowKit Num Word
attribute [local go_sem] setCell_drewN cell?_ext frozen?_ext shape?_ext setCell_ext lt_1' ne_1' en_1' le_1' lt_2' ne_2' en_2' le_2' lt_3' ne_3' en_3' le_3' lt_4' ne_4' en_4' le_4' lt_5' ne_5' en_5' le_5' lt_6' ne_6' en_6' le_6' lt_7' ne_7' en_7' le_7' lt_8' ne_8' en_8' le_8' lt_9' ne_9' en_9' le_9' lt_10' ne_10' en_10' le_10' lt_11' ne_11' en_11' le_11' lt_12' ne_12' en_12' le_12'

end Go.Proofs.YtonajmngchfjeaaGreatDoor
namespace Go.Proofs.YtonajmngchfjeaaGreatDoor
open Go.RowKit Num Word
attribute [local go_sem] setCell_drewN cell?_ext frozen?_ext shape?_ext setCell_ext lt_1' ne_1' en_1' le_1' lt_2' ne_2' en_2' le_2' lt_3' ne_3' en_3' le_3' lt_4' ne_4' en_4' le_4' lt_5' ne_5' en_5' le_5' lt_6' ne_6' en_6' le_6' lt_7' ne_7' en_7' le_7' lt_8' ne_8' en_8' le_8' lt_9' ne_9' en_9' le_9' lt_10' ne_10' en_10' le_10' lt_11' ne_11' en_11' le_11' lt_12' ne_12' en_12' le_12'

theorem IRow.drew {W0 w : World} {g n : Nat} {f : Nat → Int} (h : IRow W0 w g n f) : IRow W0 w.drew g n f := ⟨h.own, h.lt, below_drew h.below, h.cell, h.free⟩
/-- a copy of a slice in a row of the call's own -/
theorem append_copy {ops : Array Oper} {rest : List Oper} {o : Oper} {a : Act} {Q : Exit → Act → World → Prop} {W0 w : World} (hgd : o.guard = none) (s x : Operand)
    (ho : o.op = .call { callee := .builtin .append, args := #[s, x], argTypes := #[41, 41] })
    (hb : Below W0.heap.size W0 w) (hs : a.eval s = .slice (some ⟨w.heap.size, 0, none⟩) 0 0) {g off cap : Nat} {l : List Nat} (hx : a.eval x = .slice (some ⟨g, off, none⟩) l.length cap)
    (hg : g < w.heap.size) (hc : ∀ j (hj : j < l.length), w.cell? ⟨g, off + j, none⟩ = some (.int .i64 (l[j] : Int))) (hl : 0 < l.length) (hlen : l.length ≤ 1000000)
    (h : ∀ g' cap' w', l.length ≤ cap' → IRow W0 w' g' l.length (fun j => ((l.getD j 0 : Nat) : Int)) → wpList Tryz.prog ops Q rest (a.put o.dst (.slice (some ⟨g', 0, none⟩) l.length cap')) w') :
    wpList Tryz.prog ops Q (o :: rest) a (w.alloc (.cells #[] 3)) := by
  obtain ⟨i0, hi, hz0, hz1, hz2⟩ := info_parts infoInt
  have hown := World.ownsRow_lit (w := w) (base := W0.heap.size) (e := 3) (size := 1) #[] 0 hb.size (by unfold maxLen; omega) rfl
  have hb2 : Below W0.heap.size W0 (w.alloc (.cells #[] 3)) := hb.alloc hb.size _
  have hsz : W0.heap.size ≤ (w.alloc (.cells #[] 3)).heap.size := by rw [World.size_alloc]; have := hb.size; omega
  refine wpList_append_own _ hgd s x 41 ho W0.heap.size 3 i0 (.int .i64 0) 1 8 Tryz.underlying41 hi hz0 hz1 hz2 rfl (by decide) _ 0 [] hs hown ⟨g, off, none⟩ l.length cap (intCellsN l) hx (by simp [intCellsN]) ?_ ?_ (by unfold maxLen; omega) (by omega) hsz ?_
  · intro j u hj
    obtain ⟨hlt, e⟩ : ∃ h : j < l.length, .int .i64 (l[j] : Int) = u := by
      obtain ⟨h1, h2⟩ := List.getElem?_eq_some_iff.1 hj
      have h3 : j < l.length := by simpa [intCellsN] using h1
      exact ⟨h3, by simpa [intCellsN] using h2⟩
    have ead : (⟨g, off, none⟩ : Addr).add j = ⟨g, off + j, none⟩ := by
      by_cases h0 : j = 0
      · subst h0; rfl
      · simp [Addr.add, h0]
    rw [ead, ← e, ← hc j hlt]
    exact World.cell?_alloc_past _ g (off + j) hg
  · intro u hu
    simp only [intCellsN, List.mem_map] at hu
    obtain ⟨c, _, rfl⟩ := hu
    rfl
  · intro v' w' ho' hgr _
    rw [Nat.zero_add, List.nil_append] at ho'
    obtain ⟨hlen2, hv⟩ := ho'
    rcases hv with ⟨-, h0⟩ | ⟨g', cap', cur, rfl, hbase, hheap, hcap, -, hcs, htk⟩
    · omega
    · have hbel := hb2.grown hgr hsz (fun k e => by
        have e2 : k = w.heap.size := by cases e; rfl
        rw [e2]; exact hb.size)
      refine h g' cap' w' hcap ⟨hbase, ?_, hbel, fun j hj => ?_, fun j hj => Joins.unfrozen_of_block hheap j⟩
      · by_cases h0 : g' < w'.heap.size
        · exact h0
        · rw [Array.getElem?_eq_none (by omega)] at hheap; cases hheap
      · have e : (intCellsN l)[j]? = some (.int .i64 ((l.getD j 0 : Nat) : Int)) := by simp [intCellsN, hj, List.getD_eq_getElem?_getD]
        rw [Joins.cell_of_block hheap j, ← e, ← htk, List.getElem?_take, if_pos (by omega), Array.getElem?_toList]
end Go.Proofs.YtonajmngchfjeaaGreatDoor
namespace Go.Proofs.YtonajmngchfjeaaGreatDoor
open Go.RowKit Num Word
attribute [local go_sem] setCell_drewN cell?_ext frozen?_ext shape?_ext setCell_ext lt_1' ne_1' en_1' le_1' lt_2' ne_2' en_2' le_2' lt_3' ne_3' en_3' le_3' lt_4' ne_4' en_4' le_4' lt_5' ne_5' en_5' le_5' lt_6' ne_6' en_6' le_6' lt_7' ne_7' en_7' le_7' lt_8' ne_8' en_8' le_8' lt_9' ne_9' en_9' le_9' lt_10' ne_10' en_10' le_10' lt_11' ne_11' en_11' le_11' lt_12' ne_12' en_12' le_12'

theorem times_bound (a b : Nat) : ((a * b : Nat) : Int) < 10 ^ ((dg a).length + (dg b).length) := by
  have h1 := (dg_len_le (n := a) (k := (dg a).length)).1 (Nat.le_refl _)
  have h2 := (dg_len_le (n := b) (k := (dg b).length)).1 (Nat.le_refl _)
  have h3 : a * b < 10 ^ (dg a).length * 10 ^ (dg b).length := Nat.mul_lt_mul'' h1 h2
  rw [← Nat.pow_add] at h3
  have : ((10 ^ ((dg a).length + (dg b).length) : Nat) : Int) = (10 : Int) ^ ((dg a).length + (dg b).length) := by push_cast; rfl
  rw [← this]
  omega
end Go.Proofs.YtonajmngchfjeaaGreatDoor
namespace Go.Proofs.YtonajmngchfjeaaGreatDoor
open Go.RowKit Num Word
attribute [local go_sem] setCell_drewN cell?_ext frozen?_ext shape?_ext setCell_ext lt_1' ne_1' en_1' le_1' lt_2' ne_2' en_2' le_2' lt_3' ne_3' en_3' le_3' lt_4' ne_4' en_4' le_4' lt_5' ne_5' en_5' le_5' lt_6' ne_6' en_6' le_6' lt_7' ne_7' en_7' le_7' lt_8' ne_8' en_8' le_8' lt_9' ne_9' en_9' le_9' lt_10' ne_10' en_10' le_10' lt_11' ne_11' en_11' le_11' lt_12' ne_12' en_12' le_12'

theorem len2 {a : Nat} (h : a < top2) : (dg a).length ≤ 39 := dg_len_le.2 (Nat.lt_trans h (by decide))
theorem len4 {a : Nat} (h : a < top4) : (dg a).length ≤ 78 := dg_len_le.2 (Nat.lt_trans h (by decide))
end Go.Proofs.YtonajmngchfjeaaGreatDoor
namespace Go.Proofs.YtonajmngchfjeaaGreatDoor
open Go.RowKit Num Word
attribute [local go_sem] setCell_drewN cell?_ext frozen?_ext shape?_ext setCell_ext lt_1' ne_1' en_1' le_1' lt_2' ne_2' en_2' le_2' lt_3' ne_3' en_3' le_3' lt_4' ne_4' en_4' le_4' lt_5' ne_5' en_5' le_5' lt_6' ne_6' en_6' le_6' lt_7' ne_7' en_7' le_7' lt_8' ne_8' en_8' le_8' lt_9' ne_9' en_9' le_9' lt_10' ne_10' en_10' le_10' lt_11' ne_11' en_11' le_11' lt_12' ne_12' en_12' le_12'

end Go.Proofs.YtonajmngchfjeaaGreatDoor
namespace Go.Proofs.YtonajmngchfjeaaGreatDoor
open Go.RowKit Num Word
attribute [local go_sem] setCell_drewN cell?_ext frozen?_ext shape?_ext setCell_ext lt_1' ne_1' en_1' le_1' lt_2' ne_2' en_2' le_2' lt_3' ne_3' en_3' le_3' lt_4' ne_4' en_4' le_4' lt_5' ne_5' en_5' le_5' lt_6' ne_6' en_6' le_6' lt_7' ne_7' en_7' le_7' lt_8' ne_8' en_8' le_8' lt_9' ne_9' en_9' le_9' lt_10' ne_10' en_10' le_10' lt_11' ne_11' en_11' le_11' lt_12' ne_12' en_12' le_12'

/-- a slice put behind a row of the call's own -/
theorem append_rd {ops : Array Oper} {rest : List Oper} {o : Oper} {a : Act} {Q : Exit → Act → World → Prop} {w : World} (hgd : o.guard = none) (s x : Operand)
    (ho : o.op = .call { callee := .builtin .append, args := #[s, x], argTypes := #[41, 41] })
    {B : Nat} {v : Value} {l : List Nat} {W0 : World} (hs : a.eval s = v) (hb : IBuf B v l W0 w) {g off cap : Nat} {m : List Nat} (hx : a.eval x = .slice (some ⟨g, off, none⟩) m.length cap)
    (hc : ∀ j (hj : j < m.length), w.cell? ⟨g, off + j, none⟩ = some (.int .i64 (m[j] : Int))) (hlen : l.length + m.length ≤ 1000000)
    (h : ∀ v' w', IBuf B v' (l ++ m) W0 w' → wpList Tryz.prog ops Q rest (a.put o.dst v') w') : wpList Tryz.prog ops Q (o :: rest) a w := by
  obtain ⟨i0, hi, hz0, hz1, hz2⟩ := info_parts infoInt
  refine wpList_append_ownF _ hgd s x 41 ho B 3 i0 (.int .i64 0) 1 8 Tryz.underlying41 hi hz0 hz1 hz2 rfl (by decide) v l.length (intCellsN l) hs hb.1 ⟨g, off, none⟩ m.length cap (intCellsN m) hx (by simp [intCellsN]) ?_ ?_ (by unfold maxLen; omega) (by omega) hb.2.2 ?_
  · intro j u hj
    obtain ⟨hlt, e⟩ : ∃ h : j < m.length, .int .i64 (m[j] : Int) = u := by
      obtain ⟨h1, h2⟩ := List.getElem?_eq_some_iff.1 hj
      have h3 : j < m.length := by simpa [intCellsN] using h1
      exact ⟨h3, by simpa [intCellsN] using h2⟩
    have ead : (⟨g, off, none⟩ : Addr).add j = ⟨g, off + j, none⟩ := by
      by_cases h0 : j = 0
      · subst h0; rfl
      · simp [Addr.add, h0]
    rw [ead, ← e, ← hc j hlt]
  · intro u hu
    simp only [intCellsN, List.mem_map] at hu
    obtain ⟨c, _, rfl⟩ := hu
    rfl
  · intro v' w' ho' hg _
    exact h v' w' (IBuf.congr (hb.grown ho' hg) (by rw [List.length_append]) (by simp [intCellsN]))
theorem IBuf.lit {W0 W : World} (hb : Below W0.heap.size W0 W) (C : Array Value) (l : List Nat) (hC : C.toList = intCellsN l) (hl : l.length ≤ 1000000) : IBuf W0.heap.size (.slice (some ⟨W.heap.size, 0, none⟩) l.length l.length) l W0 (W.alloc (.cells C 3)) := by
  have h := World.ownsRow_lit (w := W) (base := W0.heap.size) (e := 3) (size := 1) C l.length hb.size (by unfold maxLen; omega) (by rw [← Array.length_toList, hC]; simp [intCellsN])
  rw [hC] at h
  exact ⟨World.ownsRowF_of h, hb.alloc hb.size _, by rw [World.size_alloc]; have := hb.size; omega⟩
end Go.Proofs.YtonajmngchfjeaaGreatDoor
namespace Go.Proofs.YtonajmngchfjeaaGreatDoor
open Go.RowKit Num Word
attribute [local go_sem] setCell_drewN cell?_ext frozen?_ext shape?_ext setCell_ext lt_1' ne_1' en_1' le_1' lt_2' ne_2' en_2' le_2' lt_3' ne_3' en_3' le_3' lt_4' ne_4' en_4' le_4' lt_5' ne_5' en_5' le_5' lt_6' ne_6' en_6' le_6' lt_7' ne_7' en_7' le_7' lt_8' ne_8' en_8' le_8' lt_9' ne_9' en_9' le_9' lt_10' ne_10' en_10' le_10' lt_11' ne_11' en_11' le_11' lt_12' ne_12' en_12' le_12'

def cellN (w : World) (g i : Nat) : Nat := match w.cell? ⟨g, i, none⟩ with
  | some (.int _ z) => z.toNat
  | _ => 0
/-- a digit ahead of a slice, in a row of the call's own -/
theorem append_one {ops : Array Oper} {rest : List Oper} {o : Oper} {a : Act} {Q : Exit → Act → World → Prop} {w : World} (hgd : o.guard = none) (s x : Operand)
    (ho : o.op = .call { callee := .builtin .append, args := #[s, x], argTypes := #[41, 41] })
    (d : Nat) {z : Int} (hz : z = (d : Int)) (hs : a.eval s = .slice (some ⟨w.heap.size, 0, none⟩) 1 1) {P : Nat → Prop} {v : Value} {m : List Nat} (hx : a.eval x = v) (hr : RdP P w v m) (hlen : m.length ≤ 100000)
    (h : ∀ v' w', IBuf w.heap.size v' (d :: m) w w' → wpList Tryz.prog ops Q rest (a.put o.dst v') w') : wpList Tryz.prog ops Q (o :: rest) a (w.alloc (.cells #[.int .i64 z] 3)) := by
  subst hz
  have hb := IBuf.lit (W0 := w) (W := w) (Below.refl _ _) #[.int .i64 (d : Int)] [d] rfl (by simp)
  rcases hr with ⟨rfl, rfl⟩ | ⟨g, off, cap, rfl, -, hg, -, hc⟩
  · obtain ⟨i0, hi, hz0, hz1, hz2⟩ := info_parts infoInt
    have hown := World.ownsRow_lit (w := w) (base := w.heap.size) (e := 3) (size := 1) #[.int .i64 (d : Int)] 1 (Nat.le_refl _) (by unfold maxLen; omega) rfl
    exact wpList_append_own_none hgd s x 41 ho w.heap.size 3 i0 1 Tryz.underlying41 hi _ 1 _ hs hown hx (h _ _ hb)
  · exact append_rd hgd s x ho hs hb hx (fun j hj => by rw [← hc j hj]; exact World.cell?_alloc_past _ g (off + j) hg) (by simp; omega) h
/-- the quotient's part so far, from one place on -/
theorem quo_more {A B n q : Nat} {f : Nat → Int} (h : QuoAt A B n (q + 1) f) (c : Nat) (hc : c = A / 10 ^ q / B % 10) (v : Int) (hv : v = (c : Int)) : QuoAt A B n q (upd f q v) := by
  intro t h1 h2
  unfold upd
  by_cases e : t = q
  · subst e; rw [if_pos rfl, hv, hc]
  · rw [if_neg e]; exact h t (by omega) h2
theorem upd_upd (f : Nat → Int) (k : Nat) (x y : Int) : upd (upd f k x) k y = upd f k y := by
  funext j; unfold upd; split <;> rfl
theorem cellN_row {W0 w : World} {g n q : Nat} {f : Nat → Int} (h : IRow W0 w g n f) (hq : q < n) : cellN w g q = (f q).toNat := by
  unfold cellN; rw [h.cell q hq]
theorem cellN_drew (w : World) (g q : Nat) : cellN w.drew g q = cellN w g q := rfl
theorem upd_self (f : Nat → Int) (k : Nat) : upd f k (f k) = f := by
  funext j; unfold upd; split
  · rename_i h; rw [h]
  · rfl
end Go.Proofs.YtonajmngchfjeaaGreatDoor
namespace Go.Proofs.YtonajmngchfjeaaGreatDoor
open Go.RowKit Num Word
attribute [local go_sem] setCell_drewN cell?_ext frozen?_ext shape?_ext setCell_ext lt_1' ne_1' en_1' le_1' lt_2' ne_2' en_2' le_2' lt_3' ne_3' en_3' le_3' lt_4' ne_4' en_4' le_4' lt_5' ne_5' en_5' le_5' lt_6' ne_6' en_6' le_6' lt_7' ne_7' en_7' le_7' lt_8' ne_8' en_8' le_8' lt_9' ne_9' en_9' le_9' lt_10' ne_10' en_10' le_10' lt_11' ne_11' en_11' le_11' lt_12' ne_12' en_12' le_12'

end Go.Proofs.YtonajmngchfjeaaGreatDoor
namespace Go.Proofs.YtonajmngchfjeaaGreatDoor
open Go.RowKit Num Word
attribute [local go_sem] setCell_drewN cell?_ext frozen?_ext shape?_ext setCell_ext lt_1' ne_1' en_1' le_1' lt_2' ne_2' en_2' le_2' lt_3' ne_3' en_3' le_3' lt_4' ne_4' en_4' le_4' lt_5' ne_5' en_5' le_5' lt_6' ne_6' en_6' le_6' lt_7' ne_7' en_7' le_7' lt_8' ne_8' en_8' le_8' lt_9' ne_9' en_9' le_9' lt_10' ne_10' en_10' le_10' lt_11' ne_11' en_11' le_11' lt_12' ne_12' en_12' le_12'

theorem dg_one : dg 1 = [1] := by rw [dg_pos (by decide), show 1 / 10 = 0 from rfl, dg_zero]
theorem lit_one (W : World) : RdP (fun g => W.heap.size ≤ g) (W.alloc (.cells #[.int .i64 1] 3)) (.slice (some ⟨W.heap.size, 0, none⟩) 1 1) (dg 1) := by
  rw [dg_one]
  exact (IBuf.lit (W0 := W) (W := W) (Below.refl _ _) #[.int .i64 1] [1] rfl (by decide)).rd
end Go.Proofs.YtonajmngchfjeaaGreatDoor
namespace Go.Proofs.YtonajmngchfjeaaGreatDoor
open Go.RowKit Num Word
attribute [local go_sem] setCell_drewN cell?_ext frozen?_ext shape?_ext setCell_ext lt_1' ne_1' en_1' le_1' lt_2' ne_2' en_2' le_2' lt_3' ne_3' en_3' le_3' lt_4' ne_4' en_4' le_4' lt_5' ne_5' en_5' le_5' lt_6' ne_6' en_6' le_6' lt_7' ne_7' en_7' le_7' lt_8' ne_8' en_8' le_8' lt_9' ne_9' en_9' le_9' lt_10' ne_10' en_10' le_10' lt_11' ne_11' en_11' le_11' lt_12' ne_12' en_12' le_12'

theorem lit_two (w : World) (o : Obj) : RdP (fun g => w.heap.size ≤ g) ((w.alloc o).alloc (.cells #[.int .i64 1] 3)) (.slice (some ⟨w.heap.size + 1, 0, none⟩) 1 1) (dg 1) := by
  have h := lit_one (w.alloc o)
  rw [World.size_alloc] at h
  exact h.weak fun g _ h => by omega
theorem below_lit (W : World) : Below W.heap.size W (W.alloc (.cells #[.int .i64 1] 3)) := by (repeat' (first | (with_reducible exact Below.refl _ _) | (with_reducible assumption) | (with_reducible refine Below.alloc ?_ ?_ _) | (with_reducible refine below_drewN ?_ _) | (with_reducible refine below_drew ?_) | (with_reducible refine below_ext ?_ ?_ _ _) | (with_reducible refine Below.setCell ?_ ?_ _) | (simp; done) | (simp; omega) | omega))
end Go.Proofs.YtonajmngchfjeaaGreatDoor
namespace Go.Proofs.YtonajmngchfjeaaGreatDoor
open Go.RowKit Num Word
attribute [local go_sem] setCell_drewN cell?_ext frozen?_ext shape?_ext setCell_ext lt_1' ne_1' en_1' le_1' lt_2' ne_2' en_2' le_2' lt_3' ne_3' en_3' le_3' lt_4' ne_4' en_4' le_4' lt_5' ne_5' en_5' le_5' lt_6' ne_6' en_6' le_6' lt_7' ne_7' en_7' le_7' lt_8' ne_8' en_8' le_8' lt_9' ne_9' en_9' le_9' lt_10' ne_10' en_10' le_10' lt_11' ne_11' en_11' le_11' lt_12' ne_12' en_12' le_12'

theorem RdP.drop {P : Nat → Prop} {w : World} {g off cap : Nat} {l : List Nat} (hcap : l.length ≤ cap) (hg : g < w.heap.size) (hp : P g) (hx : ∀ j (hj : j < l.length), w.cell? ⟨g, off + j, none⟩ = some (.int .i64 (l[j] : Int))) (k : Nat) (hk : k ≤ l.length) :
    RdP P w (.slice (some ⟨g, off + k, none⟩) (l.length - k) (cap - k)) (l.drop k) := by
  refine .inr ⟨g, off + k, cap - k, by rw [List.length_drop], by rw [List.length_drop]; omega, hg, hp, fun j hj => ?_⟩
  rw [List.length_drop] at hj
  rw [Nat.add_assoc, hx (k + j) (by omega), List.getElem_drop]
theorem slice_rest (g off len cap k : Nat) (hk : k ≤ len) (hkc : k < cap) (w : World) :
    (Instr.slice 41 (.slice (some ⟨g, off, none⟩) len cap) (some (.int .i64 (k : Int))) none none).run Tryz.prog w = .ok (.slice (some ⟨g, off + k, none⟩) (len - k) (cap - k)) w := by
  have h := run_slice_l (P := Tryz.prog) w 41 (some ⟨g, off, none⟩) len cap (by kernel_rfl) .i64 (k : Int) (by omega) (by omega)
  rw [h, show Tryz.prog.elem 41 = 3 by kernel_rfl]
  have hne : ¬ cap = k := by omega
  simp [go_sem, sliced, hne]
theorem zero_digit {a t K j : Nat} (h : a = t * 10 ^ K) (hj : j < K) : a / 10 ^ j % 10 = 0 := by
  obtain ⟨i, rfl⟩ : ∃ i, K = j + 1 + i := ⟨K - (j + 1), by omega⟩
  have e : a = (t * 10 ^ i * 10) * 10 ^ j := by
    rw [h]
    simp only [Nat.pow_add, Nat.pow_one, Nat.mul_assoc, Nat.mul_comm, Nat.mul_left_comm]
  rw [e, Nat.mul_div_cancel _ (Nat.pow_pos (by decide)), Nat.mul_mod_left]
theorem last_digit {a t K : Nat} (h : a = t * 10 ^ K) : a / 10 ^ K = t := by
  rw [h, Nat.mul_div_cancel _ (Nat.pow_pos (by decide))]
end Go.Proofs.YtonajmngchfjeaaGreatDoor
