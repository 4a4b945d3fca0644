/-
  The document's half.
-/
import Derived.Test.YtnaajhhdpcdakaaGreatDoorRefA
import Derived.Deep.OwnRows
namespace Go.Proofs.YtnaajhhdpcdakaaGreatDoor
open Go.RowKit Num
attribute [local go_sem] setCell_drewN cell?_ext frozen?_ext shape?_ext setCell_ext lt_1' ne_1' en_1' le_1' lt_2' ne_2' en_2' le_2' lt_3' ne_3' en_3' le_3' lt_4' ne_4' en_4' le_4' lt_5' ne_5' en_5' le_5' lt_6' ne_6' en_6' le_6' lt_7' ne_7' en_7' le_7' lt_8' ne_8' en_8' le_8' lt_9' ne_9' en_9' le_9' lt_10' ne_10' en_10' le_10' lt_11' ne_11' en_11' le_11' lt_12' ne_12' en_12' le_12'

theorem IRow.made {W0 w : World} (hb : Below W0.heap.size W0 w) (n : Nat) : IRow W0 (w.alloc (.cells (madeCells #[.int .i64 0] n) 3)) w.heap.size n (fun _ => 0) := by
  refine ⟨hb.size, by rw [World.size_alloc]; omega, hb.alloc hb.size _, fun j hj => ?_, fun j hj => ?_⟩
  · rw [World.cell?_alloc_at _ _ _ _ rfl]
    simp [madeCells, hj, Nat.mod_one]
  · have h1 : (w.alloc (.cells (madeCells #[.int .i64 0] n) 3)).heap[w.heap.size]? = some (.cells (madeCells #[.int .i64 0] n) 3) := by
      show (w.heap.push _)[w.heap.size]? = _
      simp
    unfold World.frozen?
    rw [h1]
    simp
theorem make_int (n : Nat) (hn : n ≤ 1000000) : ∀ w, (Instr.makeSlice 36 (.int .i64 (n : Int)) (.int .i64 (n : Int))).run Tryz.prog w = .ok (.slice (some ⟨w.heap.size, 0, none⟩) n n) (w.alloc (.cells (madeCells #[.int .i64 0] n) 3)) :=
  fun w => run_make_row' 36 3 (.int .i64 0) 8 Tryz.underlying36 infoInt rfl .i64 .i64 n (by omega) (by omega) w
def HalfAt (l : List Nat) (j : Nat) (f : Nat → Int) : Prop := ∀ t, j ≤ t → t < l.length → f t = (((hfL (l.drop j)).1.getD (t - j) 0 : Nat) : Int)
theorem half_step {l : List Nat} {q : Nat} {f : Nat → Int} (h : HalfAt l (q + 1) f) (hq : q < l.length) (v : Int) (hv : v = (((10 * (hfL (l.drop (q + 1))).2 + l[q]) / 2 : Nat) : Int)) : HalfAt l q (upd f q v) := by
  intro t h1 h2
  rw [hfL_drop l q hq]
  unfold upd
  by_cases e : t = q
  · subst e
    rw [if_pos rfl, Nat.sub_self, hv]; rfl
  · rw [if_neg e, h t (by omega) h2]
    obtain ⟨s, rfl⟩ : ∃ s, t = q + 1 + s := ⟨t - (q + 1), by omega⟩
    rw [show q + 1 + s - (q + 1) = s by omega, show q + 1 + s - q = s + 1 by omega, List.getD_cons_succ]
set_option maxRecDepth 100000 in
set_option maxHeartbeats 4000000 in
theorem half_any (v : Value) (n : Nat) (hl : (dg n).length ≤ 100000) (w : World) (hr : Rd w v (dg n)) :
    Calls Tryz.prog 84 #[v] w fun e w' => ∃ v', e = .returned (.tuple #[v', .int .i64 ((n % 2 : Nat) : Int)]) ∧ RdP (fun g => w.heap.size ≤ g) w' v' (dg (n / 2)) ∧ Below w.heap.size w w' := by
  obtain ⟨l, hll⟩ : ∃ l, l = dg n := ⟨_, rfl⟩
  have hfin := hfL_dg n
  have hdd := dig_dg n
  rw [← hll] at hl hr hfin hdd
  obtain ⟨p, cap, rfl, hcap⟩ := hr.form
  obtain ⟨h2n, hm2⟩ := hfin
  have hmk := make_int l.length (by omega)
  have HR := Lib.hid hr
  have HD := Lib.hid hdd
  have H2 := Lib.hid h2n
  have HM := Lib.hid hm2
  have HI := Lib.hid (IRow.made (W0 := w) (w := w) (Below.refl _ _) l.length)
  clear hr hdd h2n hm2 hll
  go_enter Tryz.func84, Tryz.ntmps84
  go_wp2
  go_loopw [5, 6] (fun lv i wr => ∃ (j c : Nat) (z : Int) (f : Nat → Int), i = .int .i64 z ∧ z = (j : Int) - 1 ∧ j ≤ l.length ∧ lv = .int .i64 c ∧ c ≤ 1 ∧ Hid (c = (hfL (l.drop j)).2) ∧ Hid (HalfAt l j f) ∧ Hid (IRow w wr w.heap.size l.length f)) (fun _ i _ => (intOf i + 1).toNat)
  case atStart => exact ⟨l.length, 0, _, fun _ => 0, rfl, rfl, Nat.le_refl _, rfl, Nat.zero_le _, Lib.hid (by rw [List.drop_length]; rfl), Lib.hid (fun t h1 h2 => by omega), HI⟩
  case round =>
    obtain ⟨j, c, z, f, rfl, hz, hj, rfl, hc1, hc, hh, hi⟩ := hrel
    by_cases h0 : j = 0
    · subst h0
      have hzn : ¬ (0 : Int) ≤ z := by omega
      clear hz
      have hrd := fun cap (h : l.length ≤ cap) => hi.out.rd h (hfL l).1 (hfL_len l) (fun t ht => by
        rw [hh.out t (Nat.zero_le _) (by rw [hfL_len] at ht; exact ht), List.drop_zero, Nat.sub_zero, List.getD_eq_getElem?_getD, List.getElem?_eq_getElem ht]; rfl)
      have hcut := fun cap (h : l.length ≤ cap) => cut_any _ (hfL l).1 (hfL_dig HD.out) (by rw [hfL_len]; omega) wr (hrd cap h)
      rw [H2.out] at hcut
      have HC := Lib.hid hcut
      have hc2 := hc.out
      rw [List.drop_zero, HM.out] at hc2
      subst hc2
      have hbel := hi.out.below
      clear hcut hrd
      go_wp2_with (go_at_call 29; ((with_reducible refine (HC.out _ (Nat.le_refl _)).mono ?_); rintro e w' ⟨v', rfl, hrd, rfl⟩))
      go_ret2
      exact ⟨v', rfl, hrd.weak (fun g _ h => by rw [h]; exact Nat.le_refl _), hbel⟩
    obtain ⟨q, rfl⟩ : ∃ q, j = q + 1 := ⟨j - 1, by omega⟩
    obtain rfl : z = (q : Int) := by omega
    have hq : q < l.length := by omega
    have hqi : (q : Int) < l.length := by omega
    obtain ⟨-, g, off, rfl, hg, hx⟩ := (HR.out.later hi.out.below).cells (by omega)
    have hcell := hx q hq
    have hx9 := HD.out.get hq
    have hfree := hi.out.free q hq
    have hown := hi.out.cell q hq
    have hstep := fun v hv => half_step hh.out hq v hv
    have hnext : (10 * c + l[q]) % 2 = (hfL (l.drop q)).2 := by rw [hfL_drop l q hq, hc.out]
    rw [← hc.out] at hstep
    have hst := fun v => hi.out.store q v hq
    obtain ⟨x, hxx⟩ : ∃ x, x = l[q] := ⟨_, rfl⟩
    rw [← hxx] at hcell hx9 hstep hnext
    have HS := Lib.hid hstep; have HN := Lib.hid hnext; have HT := Lib.hid hst
    clear hx hstep hnext hst hxx h0 hc hh hi hz
    go_wp2

    go_roundw
    case rel => exact ⟨q, (10 * c + x) % 2, _, _, rfl, by omega, by omega, by go_num, by omega, HN, Lib.hid (HS.out _ (by omega)), Lib.hid (HT.out _)⟩
    case measure => simp only [intOf]; omega
end Go.Proofs.YtnaajhhdpcdakaaGreatDoor
