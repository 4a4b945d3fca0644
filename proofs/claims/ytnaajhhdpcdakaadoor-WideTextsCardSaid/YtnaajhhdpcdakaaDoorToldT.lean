/-
  The document's telling of a number as a text.
-/
import Derived.Test.YtnaajhhdpcdakaaDoorTextB
namespace Go.Proofs.YtnaajhhdpcdakaaDoor
open Go.RowKit Num Word
open Lib (decDigits)
attribute [local go_sem] setCell_drewN cell?_ext frozen?_ext shape?_ext setCell_ext lt_1' ne_1' en_1' le_1' lt_2' ne_2' en_2' le_2' lt_3' ne_3' en_3' le_3' lt_4' ne_4' en_4' le_4' lt_5' ne_5' en_5' le_5' lt_6' ne_6' en_6' le_6' lt_7' ne_7' en_7' le_7' lt_8' ne_8' en_8' le_8' lt_9' ne_9' en_9' le_9' lt_10' ne_10' en_10' le_10' lt_11' ne_11' en_11' le_11' lt_12' ne_12' en_12' le_12'

/-- a text out of its bytes -/
abbrev mkT (l : List UInt8) : ByteArray := ⟨l.toArray⟩
theorem mkT_append (a b : List UInt8) : mkT a ++ mkT b = mkT (a ++ b) := by apply ByteArray.ext; simp
theorem str_eqT {a b : ByteArray} (h : a = b) : Ending.returned (.string a) = .returned (.string b) := by rw [h]
def digsT : ByteArray := { data := #[48, 49, 50, 51, 52, 53, 54, 55, 56, 57] }
theorem digsT_one : ∀ a : Fin 10, digsT.extract a.val (a.val + 1) = mkT [UInt8.ofNat (48 + a.val)] := by decide +kernel
theorem sliceT_one (a : Nat) (h : a < 10) : ∀ w, (Instr.slice 9 (.string digsT) (some (.int .i64 a)) (some (.int .i64 ((a : Int) + 1))) none).run Tryd.prog w = .ok (.string (mkT [UInt8.ofNat (48 + a)])) w := fun w => by
  have hz : digsT.size = 10 := rfl
  rw [run_slice_string (P := Tryd.prog) (w := w) (t := 9) (s := digsT) (k := .i64) (k' := .i64) (i := a) (j := (a : Int) + 1) (h := Tryd.underlying9) (h0 := by omega) (h1 := by omega) (h2 := by omega)]
  rw [show ((a : Int)).toNat = a by omega, show ((a : Int) + 1).toNat = a + 1 by omega, digsT_one ⟨a, h⟩]
/-- digits as bytes, the greatest first -/
def tdg (l : List Nat) : List UInt8 := l.reverse.map fun d => UInt8.ofNat (48 + d)
theorem tdg_len (l : List Nat) : (tdg l).length = l.length := by simp [tdg]
theorem tdg_drop (l : List Nat) (k : Nat) (h : k < l.length) : tdg (l.drop k) = tdg (l.drop (k + 1)) ++ [UInt8.ofNat (48 + l[k])] := by
  unfold tdg
  rw [List.drop_eq_getElem_cons h, List.reverse_cons, List.map_append]; rfl
set_option maxRecDepth 100000 in
set_option maxHeartbeats 8000000 in
theorem toldT_any (v : Value) (n : Nat) (hl : (dg n).length ≤ 100000) (w : World) (hr : Rd w v (dg n)) :
    Calls Tryd.prog 21 #[v] w fun e w' => e = .returned (.string (mkT (decDigits n))) ∧ Below w.heap.size w w' := by
  rcases Nat.eq_zero_or_pos n with h0 | h0
  · subst h0
    rw [dg_zero] at hr
    obtain ⟨p, cap, rfl, hcap⟩ := hr.form
    have HD := Lib.hid (dd_small (a := 0) (by decide))
    clear hr hl
    go_enter Tryd.func21, Tryd.ntmps21
    go_wp2
    go_ret
    exact ⟨str_eqT (by rw [HD.out]; rfl), by (repeat' (first | (with_reducible exact Below.refl _ _) | (with_reducible assumption) | (with_reducible refine Below.alloc ?_ ?_ _) | (with_reducible refine below_drewN ?_ _) | (with_reducible refine below_drew ?_) | (with_reducible refine below_ext ?_ ?_ _ _) | (with_reducible refine Below.setCell ?_ ?_ _) | (simp; done) | (simp; omega) | omega))⟩
  have hdd := dd_dg n h0
  have hdig := dig_dg n
  have hp : 0 < (dg n).length := dg_len_lt.2 (by rw [Nat.pow_zero]; exact h0)
  obtain ⟨l, hll⟩ : ∃ l, l = dg n := ⟨_, rfl⟩
  rw [← hll] at hl hr hdd hdig hp
  obtain ⟨p, cap, rfl, hcap⟩ := hr.form
  have HE := Lib.hid (show decDigits n = tdg l from hdd)
  have HR := Lib.hid hr
  have HG := Lib.hid hdig
  have hpi : ((l.length : Int) == 0) = false := beq_eq_false_iff_ne.2 (by omega)
  clear hr hdd hdig hll
  go_enter Tryd.func21, Tryd.ntmps21
  go_wp2
  go_loopw [3, 4] (fun sv i wr => ∃ (m : Nat) (z : Int) (x : ByteArray) (nd : Nat), i = .int .i64 z ∧ z + 1 = m ∧ m ≤ l.length ∧ sv = .string x ∧ x.size ≤ l.length ∧ Hid (x = mkT (tdg (l.drop m))) ∧ wr = w.drewN nd) (fun _ i _ => (intOf i + 1).toNat)
  case atStart => exact ⟨l.length, (l.length : Int) - 1, { data := #[] }, 0, rfl, by omega, Nat.le_refl _, rfl, Nat.zero_le _, Lib.hid (by rw [List.drop_eq_nil_of_le (Nat.le_refl _)]; rfl), rfl⟩
  case round =>
    obtain ⟨m, z, x, nd, rfl, hz, hm, rfl, hx, hX, rfl⟩ := hrel
    by_cases hm0 : m = 0
    · subst hm0
      obtain rfl : z = -1 := by omega
      go_wp2
      go_ret
      exact ⟨str_eqT (by rw [hX.out, HE.out, List.drop_zero]), by (repeat' (first | (with_reducible exact Below.refl _ _) | (with_reducible assumption) | (with_reducible refine Below.alloc ?_ ?_ _) | (with_reducible refine below_drewN ?_ _) | (with_reducible refine below_drew ?_) | (with_reducible refine below_ext ?_ ?_ _ _) | (with_reducible refine Below.setCell ?_ ?_ _) | (simp; done) | (simp; omega) | omega))⟩
    obtain ⟨q, rfl⟩ : ∃ q, m = q + 1 := ⟨m - 1, by omega⟩
    obtain rfl : z = (q : Int) := by omega
    have hql : q < l.length := by omega
    have hqi : (q : Int) < l.length := by omega
    obtain ⟨-, g, off, rfl, hg, hcs⟩ := HR.out.cells (by omega)
    have hc := hcs q hql
    have hd9 := HG.out.get hql
    have hdr := tdg_drop l q hql
    obtain ⟨d, hd⟩ : ∃ d, d = l[q] := ⟨_, rfl⟩
    rw [← hd] at hc hd9 hdr
    have W1 : IntKind.i64.wrap ((d : Int) + 1) = (d : Int) + 1 := IntWalk.i64_in _ (by omega)
    have k1 := sliceT_one d hd9
    obtain ⟨y, hy⟩ : ∃ y, y = mkT [UInt8.ofNat (48 + d)] := ⟨_, rfl⟩
    rw [← hy] at k1
    have y1 : y.size = 1 := by rw [hy]; rfl
    have hsz : (x ++ y).size ≤ l.length := by
      rw [ByteArray.size_append, y1, hX.out]
      show (tdg (l.drop (q + 1))).toArray.size + 1 ≤ _
      rw [List.size_toArray, tdg_len, List.length_drop]; omega
    have HSZ := Lib.hid hsz
    have HY := Lib.hid (show x ++ y = mkT (tdg (l.drop q)) by rw [hX.out, hy, mkT_append, ← hdr])
    have Y1 : y.size ≤ 1 := by omega
    unfold digsT at k1
    clear hcs hdr hd hy y1 hsz hX hm0
    go_wp2
    go_quiet (fail)
    go_wp2
    go_roundw
    case rel => exact ⟨q, (q : Int) - 1, _, _, rfl, by omega, by omega, rfl, HSZ.out, HY, rfl⟩
    case measure => simp only [intOf]; omega
theorem docText_any (a : Nat) (ha : a < top2) (w : World) :
    Calls Tryd.prog 8 #[W a] w fun e w' => e = .returned (.string (mkT (decDigits a))) ∧ Below w.heap.size w w' := by
  have H1 := Lib.hid (of_any a ha)
  have H2 := Lib.hid (fun v w1 h => toldT_any v a (by have := len2 ha; omega) w1 h)
  obtain ⟨s, hs⟩ : ∃ s, s = mkT (decDigits a) := ⟨_, rfl⟩
  rw [← hs] at H2 ⊢
  clear hs ha
  go_enter Tryd.func8, Tryd.ntmps8
  go_wp2_with (first
    | (go_at_call 22; ((with_reducible refine (H1.out _).mono ?_); rintro e w1 ⟨v1, rfl, r1, b1⟩; obtain ⟨osA, dA, rfl⟩ := ext_of_below b1; clear b1; have R1 := Lib.hid r1.rd; clear r1))
    | (go_at_call 21; ((with_reducible refine (H2.out _ _ R1.out).mono ?_); rintro e w1 ⟨rfl, hb1⟩; obtain ⟨osB, dB, rfl⟩ := ext_of_below hb1; clear hb1)))
  go_ret
  exact ⟨rfl, by (repeat' (first | (with_reducible exact Below.refl _ _) | (with_reducible assumption) | (with_reducible refine Below.alloc ?_ ?_ _) | (with_reducible refine below_drewN ?_ _) | (with_reducible refine below_drew ?_) | (with_reducible refine below_ext ?_ ?_ _ _) | (with_reducible refine Below.setCell ?_ ?_ _) | (simp; done) | (simp; omega) | omega))⟩
end Go.Proofs.YtnaajhhdpcdakaaDoor
