/-
  The document's Quo.
-/
import Derived.Test.YtcnkcfbodpkllaaDoorRefL
import Derived.Laws.AppendOwnNone
namespace Go.Proofs.YtcnkcfbodpkllaaDoor
open Go.RowKit Num Word
attribute [local go_sem] setCell_drewN cell?_ext frozen?_ext shape?_ext setCell_ext lt_1' ne_1' en_1' le_1' lt_2' ne_2' en_2' le_2' lt_3' ne_3' en_3' le_3' lt_4' ne_4' en_4' le_4' lt_5' ne_5' en_5' le_5' lt_6' ne_6' en_6' le_6' lt_7' ne_7' en_7' le_7' lt_8' ne_8' en_8' le_8' lt_9' ne_9' en_9' le_9' lt_10' ne_10' en_10' le_10' lt_11' ne_11' en_11' le_11' lt_12' ne_12' en_12' le_12'

def cellN (w : World) (g i : Nat) : Nat := match w.cell? ⟨g, i, none⟩ with
  | some (.int _ z) => z.toNat
  | _ => 0
/-- a digit ahead of a slice, in a row of the call's own -/
theorem append_one {ops : Array Oper} {rest : List Oper} {o : Oper} {a : Act} {Q : Exit → Act → World → Prop} {w : World} (hgd : o.guard = none) (s x : Operand)
    (ho : o.op = .call { callee := .builtin .append, args := #[s, x], argTypes := #[40, 40] })
    (d : Nat) {z : Int} (hz : z = (d : Int)) (hs : a.eval s = .slice (some ⟨w.heap.size, 0, none⟩) 1 1) {P : Nat → Prop} {v : Value} {m : List Nat} (hx : a.eval x = v) (hr : RdP P w v m) (hlen : m.length ≤ 100000)
    (h : ∀ v' w', IBuf w.heap.size v' (d :: m) w w' → wpList Tryd.prog ops Q rest (a.put o.dst v') w') : wpList Tryd.prog ops Q (o :: rest) a (w.alloc (.cells #[.int .i64 z] 3)) := by
  subst hz
  have hb := IBuf.lit (W0 := w) (W := w) (Below.refl _ _) #[.int .i64 (d : Int)] [d] rfl (by simp)
  rcases hr with ⟨rfl, rfl⟩ | ⟨g, off, cap, rfl, -, hg, -, hc⟩
  · obtain ⟨i0, hi, hz0, hz1, hz2⟩ := info_parts infoInt
    have hown := World.ownsRow_lit (w := w) (base := w.heap.size) (e := 3) (size := 1) #[.int .i64 (d : Int)] 1 (Nat.le_refl _) (by unfold maxLen; omega) rfl
    exact wpList_append_own_none hgd s x 40 ho w.heap.size 3 i0 1 Tryd.underlying40 hi _ 1 _ hs hown hx (h _ _ hb)
  · exact append_rd hgd s x ho hs hb hx (fun j hj => by rw [← hc j hj]; exact World.cell?_alloc_past _ g (off + j) hg) (by simp; omega) h
/-- the quotient's part so far, from one place on -/
theorem quo_more {A B n q : Nat} {f : Nat → Int} (h : QuoAt A B n (q + 1) f) (c : Nat) (hc : c = A / 10 ^ q / B % 10) (v : Int) (hv : v = (c : Int)) : QuoAt A B n q (upd f q v) := by
  intro t h1 h2
  unfold upd
  by_cases e : t = q
  · subst e; rw [if_pos rfl, hv, hc]
  · rw [if_neg e]; exact h t (by omega) h2
theorem upd_upd (f : Nat → Int) (k : Nat) (x y : Int) : upd (upd f k x) k y = upd f k y := by
  funext j; unfold upd; split <;> rfl
theorem cellN_row {W0 w : World} {g n q : Nat} {f : Nat → Int} (h : IRow W0 w g n f) (hq : q < n) : cellN w g q = (f q).toNat := by
  unfold cellN; rw [h.cell q hq]
theorem cellN_drew (w : World) (g q : Nat) : cellN w.drew g q = cellN w g q := rfl
theorem upd_self (f : Nat → Int) (k : Nat) : upd f k (f k) = f := by
  funext j; unfold upd; split
  · rename_i h; rw [h]
  · rfl
set_option maxRecDepth 100000 in
set_option maxHeartbeats 16000000 in
theorem rquo_any (va vb : Value) (a b : Nat) (hb0 : 0 < b) (hla : (dg a).length ≤ 1000) (hlb : (dg b).length ≤ 1000) (w : World) (ha : Rd w va (dg a)) (hb : Rd w vb (dg b)) :
    Calls Tryd.prog 42 #[va, vb] w fun e w' => ∃ v1 v2, e = .returned (.tuple #[v1, v2]) ∧ RdP (fun g => w.heap.size ≤ g) w' v1 (dg (a / b)) ∧ RdP (fun g => w.heap.size ≤ g) w' v2 (dg (a % b)) ∧ Below w.heap.size w w' := by
  obtain ⟨l, hll⟩ : ∃ l, l = dg a := ⟨_, rfl⟩
  have hgl := fun j (hj : j < (dg a).length) => dg_get (n := a) hj
  have hfin := quo_fin a b (dg a).length rfl
  have ha10 := (dg_len_le (n := a) (k := (dg a).length)).1 (Nat.le_refl _)
  rw [← hll] at hla ha hgl hfin ha10
  obtain ⟨p, cap, rfl, -⟩ := ha.form
  obtain ⟨N, hN⟩ : ∃ N, N = l.length := ⟨_, rfl⟩
  have hmk := make_int l.length (by omega)
  have HA := Lib.hid ha; have HB := Lib.hid hb; have HGL := Lib.hid hgl; have HF := Lib.hid hfin
  have HI := Lib.hid (IRow.made (W0 := w) (w := w) (Below.refl _ _) l.length)
  have H10 := Lib.hid ha10; have HLL := Lib.hid hll
  clear ha hb hgl hfin ha10 hN hll
  go_enter Tryd.func42, Tryd.ntmps42
  go_wp2
  go_loopw [7, 8] (fun lv i wr => ∃ (j : Nat) (z : Int) (f : Nat → Int), i = .int .i64 z ∧ z = (j : Int) - 1 ∧ j ≤ l.length ∧ Hid (RdP (fun g => w.heap.size < g) wr lv (dg (a / 10 ^ j % b))) ∧ Hid (QuoAt a b l.length j f) ∧ Hid (∀ t, t < j → f t = 0) ∧ Hid (IRow w wr w.heap.size l.length f)) (fun _ i _ => (intOf i + 1).toNat)
  case atStart => exact ⟨l.length, _, fun _ => 0, rfl, rfl, Nat.le_refl _, Lib.hid (by rw [Nat.div_eq_of_lt H10.out, Nat.zero_mod, dg_zero]; exact RdP.nil _), Lib.hid (fun t h1 h2 => by omega), Lib.hid (fun _ _ => rfl), HI⟩
  case round =>
    obtain ⟨j, z, f, rfl, hz, hj, hL, hQ, hZ, hI⟩ := hrel
    by_cases h0 : j = 0
    · subst h0
      have hzn : ¬ (0 : Int) ≤ z := by omega
      obtain ⟨e1, e2⟩ := HF.out f hQ.out
      have hnn : ∀ t, t < l.length → 0 ≤ f t := fun t ht => by rw [hQ.out t (Nat.zero_le _) ht]; exact Int.natCast_nonneg _
      have hrd := hI.out.rd (Nat.le_refl _) (listOf f l.length) (listOf_len _ _) (fun t ht => by
        have := hnn t (by rw [listOf_len] at ht; exact ht)
        rw [listOf_get]; omega)
      have hcut := cut_any _ _ e1 (by rw [listOf_len]; omega) _ hrd
      rw [e2] at hcut
      have hL2 := hL.out
      rw [Nat.pow_zero, Nat.div_one] at hL2
      have HC := Lib.hid hcut
      have HL2 := Lib.hid hL2
      have HBB := Lib.hid hI.out.below
      clear e1 e2 hnn hrd hcut hL hL2 hQ hI hZ hz
      go_wp2_with (go_at_call 61; ((with_reducible refine (HC.out).mono ?_); rintro e w' ⟨v', rfl, hrd, rfl⟩))
      go_ret2
      exact ⟨_, _, rfl, hrd.weak (fun g _ h => by rw [h]; exact Nat.le_refl _), HL2.out.weak (fun g _ h => Nat.le_of_lt h), HBB.out⟩
    obtain ⟨q, rfl⟩ : ∃ q, j = q + 1 := ⟨j - 1, by omega⟩
    obtain rfl : z = (q : Int) := by omega
    have hq : q < l.length := by omega
    have hqi : (q : Int) < l.length := by omega
    obtain ⟨-, g, off, rfl, hg, hx⟩ := (HA.out.later hI.out.below).cells (by omega)
    have hcell := hx q hq
    rw [HGL.out q hq] at hcell
    obtain ⟨R, hR⟩ : ∃ R, R = a / 10 ^ (q + 1) % b := ⟨_, rfl⟩
    obtain ⟨d, hd⟩ : ∃ d, d = a / 10 ^ q % 10 := ⟨_, rfl⟩
    have hL2 := hL.out
    rw [← hR] at hL2
    rw [← hd] at hcell
    have hd9 : d < 10 := by omega
    have hRb : R < b := by rw [hR]; exact Nat.mod_lt _ hb0
    have hq1 := quo_digit' a b q hb0
    have hq2 := quo_left a b q
    have hq3 := quo_nines a b q hb0
    rw [← hR, ← hd] at hq1 hq2 hq3
    have hRl : (dg R).length ≤ 1000 := Nat.le_trans (dg_len_mono (Nat.le_of_lt hRb)) hlb
    have hcut := fun (v : Value) (W : World) (h : IBuf wr.heap.size v (d :: dg R) wr W) => cut_any v (d :: dg R) (Dig.cons (dig_dg R) hd9) (by simp only [List.length_cons]; omega) W h.rd
    rw [lv_cons, lv_dg] at hcut
    obtain ⟨T, hT⟩ : ∃ T, T = 10 * R + d := ⟨_, rfl⟩
    rw [show d + 10 * R = T by omega] at hcut
    rw [← hT] at hq1 hq2 hq3
    have hTb : T < 10 * b := by omega
    have hTl : (dg T).length ≤ 2000 := by
      have h1 := (dg_len_le (n := b) (k := (dg b).length)).1 (Nat.le_refl _)
      have h2 : (dg T).length ≤ (dg b).length + 1 := dg_len_le.2 (by rw [Nat.pow_succ]; omega)
      omega
    have hfree := fun (W : World) f (h : IRow w W w.heap.size l.length f) => h.free q hq
    have HC := Lib.hid hcut; have HL2 := Lib.hid hL2; have HRL := Lib.hid hRl
    have HQ1 := Lib.hid hq1; have HQ2 := Lib.hid hq2; have HQ3 := Lib.hid hq3; have HTL := Lib.hid hTl
    clear hx hz h0 hL hcut hL2 hRl hR hd hq1 hq2 hq3 hT hTl hRb
    go_wp2_with (first
      | (at_builtin; refine append_one rfl _ _ rfl d rfl rfl rfl HL2.out (by have := HRL.out; omega) ?_; intro v1 w1 hb1)
      | (go_at_call 61; ((with_reducible refine (HC.out _ _ hb1).mono ?_); rintro e w2 ⟨v2, rfl, hrd, rfl⟩)))
    have hI1 := Lib.hid (hI.out.later hb1.2.1)
    have hr1 := Lib.hid (hrd.weak (Q := fun g => w.heap.size < g) (fun g _ h => Nat.lt_of_lt_of_le hI.out.lt h))
    clear hrd hb1 hI
    go_loopw [7] (fun lv wr2 => ∃ (R c : Nat), c ≤ 9 ∧ Hid (RdP (fun g => w.heap.size < g) wr2 lv (dg R)) ∧ Hid (R + c * b = T) ∧ Hid (IRow w wr2 w.heap.size l.length (upd f q (c : Int)))) (fun _ wr2 => 10 - cellN wr2 w.heap.size q)
    case atStart => exact ⟨T, 0, by decide, hr1, Lib.hid (by rw [Nat.zero_mul, Nat.add_zero]), Lib.hid (hI1.out.congr (fun t _ => by unfold upd; split; rename_i e; subst e; exact hZ.out t (Nat.lt_succ_self _); rfl))⟩
    case round =>
      obtain ⟨R2, c, hc9, hr2, hRT, hI2⟩ := hrel
      clear hI1 hr1
      have hR2 := hRT.out
      have hRl2 : (dg R2).length ≤ 2000 := Nat.le_trans (dg_len_mono (by omega)) HTL.out
      have h5 := fun va vb => rcmp_any va vb R2 b (by omega) (by omega)
      by_cases hge : b ≤ R2
      · have hc8 : c + 1 ≤ 9 := by
          have h1 : (c + 1) * b < 10 * b := by rw [Nat.succ_mul]; omega
          have := Nat.lt_of_mul_lt_mul_right h1
          omega
        have hnn : (0 : Int) ≤ cmpv R2 b := by unfold cmpv; rw [if_neg (by omega)]; split <;> decide
        obtain ⟨z, hz⟩ : ∃ z, z = cmpv R2 b := ⟨_, rfl⟩
        rw [← hz] at h5 hnn
        have H5 := Lib.hid h5
        have H6 := Lib.hid (fun va vb => rless_any va vb R2 b hge (by omega))
        have HNEW := Lib.hid (show R2 - b + (c + 1) * b = T by rw [Nat.succ_mul]; omega)
        have hme := Lib.hid (cellN_row hI2.out hq)
        clear h5 hz hR2 hge
        go_wp2_with (first
          | (go_at_call 68; ((with_reducible refine (H5.out _ _ _ hr2.out.rd (HB.out.later (hI2.out.below))).mono ?_); rintro e w3 ⟨rfl, b3⟩))
          | (go_at_call 43; ((with_reducible refine (H6.out _ _ _ (hr2.out.rd.later b3) (HB.out.later ((hI2.out.later b3).below))).mono ?_); rintro e w4 ⟨v4, rfl, r4, b4⟩; have cf := ((hI2.out.later b3).later b4).cell q hq; have cfr := ((hI2.out.later b3).later b4).free q hq; rw [show upd f q (c : Int) q = (c : Int) from if_pos rfl] at cf)))
        go_roundw
        case rel =>
          refine ⟨R2 - b, c + 1, hc8, Lib.hid ?_, HNEW, Lib.hid ?_⟩
          · exact (r4.weak (Q := fun g => w.heap.size < g) (fun g _ h => Nat.lt_of_lt_of_le (hI2.out.later b3).lt h)).store _ _ _ (fun g h => by omega)
          · have h := ((hI2.out.later b3).later b4).store q ((c : Int) + 1) hq
            rw [upd_upd] at h
            rw [Int.natCast_add]
            exact h
        case measure =>
          have h := ((hI2.out.later b3).later b4).store q ((c : Int) + 1) hq
          have h2 := cellN_row h hq
          rw [show upd (upd f q (c : Int)) q ((c : Int) + 1) q = (c : Int) + 1 from if_pos rfl] at h2
          have h3 := hme.out
          rw [show upd f q (c : Int) q = (c : Int) from if_pos rfl] at h3
          omega
      · have hlt : R2 < b := by omega
        have hz : cmpv R2 b = -1 := cmpv_less hlt
        rw [hz] at h5
        have H5 := Lib.hid h5
        have hcT : c = T / b := by rw [← hR2, Nat.add_mul_div_right _ _ hb0, Nat.div_eq_of_lt hlt, Nat.zero_add]
        have hRT2 : R2 = T % b := by rw [← hR2, Nat.add_mul_mod_self_right, Nat.mod_eq_of_lt hlt]
        have HA2 := Lib.hid (quo_more hQ.out c (by rw [HQ1.out]; exact hcT) (c : Int) rfl)
        have HR2 := Lib.hid (show a / 10 ^ q % b = R2 by rw [HQ2.out]; exact hRT2.symm)
        clear h5 hz hR2 hge hlt hcT hRT2
        go_wp2_with (go_at_call 68; ((with_reducible refine (H5.out _ _ _ hr2.out.rd (HB.out.later (hI2.out.below))).mono ?_); rintro e w3 ⟨rfl, b3⟩))
        go_roundw
        case rel => exact ⟨q, _, _, rfl, by omega, by omega, Lib.hid (by rw [HR2.out]; exact hr2.out.later b3), HA2, Lib.hid (fun t ht => by unfold upd; rw [if_neg (by omega)]; exact hZ.out t (by omega)), Lib.hid (hI2.out.later b3)⟩
        case measure => simp only [intOf]; omega
end Go.Proofs.YtcnkcfbodpkllaaDoor
