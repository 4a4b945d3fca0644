/-
  The document's Near and DocRound.
-/
import Derived.Test.YtcnkcfbodpkllaaDoorRefN
namespace Go.Proofs.YtcnkcfbodpkllaaDoor
open Go.RowKit Num Word
attribute [local go_sem] setCell_drewN cell?_ext frozen?_ext shape?_ext setCell_ext lt_1' ne_1' en_1' le_1' lt_2' ne_2' en_2' le_2' lt_3' ne_3' en_3' le_3' lt_4' ne_4' en_4' le_4' lt_5' ne_5' en_5' le_5' lt_6' ne_6' en_6' le_6' lt_7' ne_7' en_7' le_7' lt_8' ne_8' en_8' le_8' lt_9' ne_9' en_9' le_9' lt_10' ne_10' en_10' le_10' lt_11' ne_11' en_11' le_11' lt_12' ne_12' en_12' le_12'

theorem dg_one : dg 1 = [1] := by rw [dg_pos (by decide), show 1 / 10 = 0 from rfl, dg_zero]
theorem lit_one (W : World) : RdP (fun g => W.heap.size ≤ g) (W.alloc (.cells #[.int .i64 1] 3)) (.slice (some ⟨W.heap.size, 0, none⟩) 1 1) (dg 1) := by
  rw [dg_one]
  exact (IBuf.lit (W0 := W) (W := W) (Below.refl _ _) #[.int .i64 1] [1] rfl (by decide)).rd
set_option maxRecDepth 100000 in
set_option maxHeartbeats 16000000 in
theorem rnear_any (va vb : Value) (n t m : Nat) (ht0 : 0 < t) (hm : NearIs n t m) (hla : (dg n).length ≤ 1000) (hlb : (dg t).length ≤ 1000) (w : World) (ha : Rd w va (dg n)) (hb : Rd w vb (dg t)) :
    Calls Tryd.prog 58 #[va, vb] w fun e w' => ∃ v', e = .returned v' ∧ RdP (fun g => w.heap.size ≤ g) w' v' (dg m) ∧ Below w.heap.size w w' := by
  have HB := Lib.hid hb
  obtain ⟨q, hq⟩ : ∃ q, q = n / t := ⟨_, rfl⟩
  obtain ⟨r, hr⟩ : ∃ r, r = n % t := ⟨_, rfl⟩
  have hrt : r < t := by rw [hr]; exact Nat.mod_lt _ ht0
  have h1 := fun (W : World) => rquo_any va vb n t ht0 hla hlb w ha hb
  have hlq : (dg q).length ≤ 1000 := Nat.le_trans (dg_len_mono (by rw [hq]; exact Nat.div_le_self _ _)) hla
  have hlr : (dg r).length ≤ 1000 := Nat.le_trans (dg_len_mono (Nat.le_of_lt hrt)) hlb
  have h2 := fun va vb => rplus_any va vb r r (by omega) (by omega)
  have hl2 : (dg (r + r)).length ≤ 2000 := by
    have h5 := (dg_len_le (n := t) (k := (dg t).length)).1 (Nat.le_refl _)
    have h6 : (dg (r + r)).length ≤ (dg t).length + 1 := dg_len_le.2 (by rw [Nat.pow_succ]; omega)
    omega
  have h3 := fun va vb => rcmp_any va vb (r + r) t (by omega) (by omega)
  have h4 := fun va vb => rplus_any va vb q 1 (by omega) (by rw [dg_one]; decide)
  unfold NearIs at hm
  rw [← hq, ← hr] at h1 hm
  have H1 := Lib.hid h1; have H2 := Lib.hid h2; have H4 := Lib.hid h4
  have hgq : ∀ h : 0 < (dg q).length, (dg q)[0] = q % 10 := fun h => by rw [dg_get h, Nat.pow_zero, Nat.div_one]
  rcases hm with ⟨hc, hmq⟩ | ⟨hc, ho, hmq⟩ | ⟨hc, ho, hmq⟩ | ⟨hc, hmq⟩
  · rw [hmq]
    rw [cmpv_more hc] at h3
    have H3 := Lib.hid h3
    clear h1 h2 h3 h4 ha hb hq hr hrt hc hgq ht0 hla hlb hlq hlr hl2 hmq
    go_enter Tryd.func58, Tryd.ntmps58
    go_wp2_with (first
      | (go_at_call 42; ((with_reducible refine (H1.out w).mono ?_); rintro e w1 ⟨v1, v2, rfl, r1, r2, b1⟩; obtain ⟨p1, c1, rfl, -⟩ := r1.form))
      | (go_at_call 71; ((with_reducible refine (H2.out _ _ _ r2.rd r2.rd).mono ?_); rintro e w2 ⟨v3, rfl, r3, b2⟩))
      | (go_at_call 68; ((with_reducible refine (H3.out _ _ _ r3.rd (HB.out.later (more b1 b2))).mono ?_); rintro e w3 ⟨rfl, b3⟩; skip))
      | (go_at_call 71; ((with_reducible refine (H4.out _ _ _ ((r1.rd.later (more b2 b3)).later (by (repeat' (first | (with_reducible exact Below.refl _ _) | (with_reducible assumption) | (with_reducible refine Below.alloc ?_ ?_ _) | (with_reducible refine below_drewN ?_ _) | (with_reducible refine below_drew ?_) | (with_reducible refine below_ext ?_ ?_ _ _) | (with_reducible refine Below.setCell ?_ ?_ _) | (simp; done) | (simp; omega) | omega)))) ((lit_one w3).rd)).mono ?_); rintro e w4 ⟨v4, rfl, r4, b4⟩)))
    go_ret
    have b5 : Below w3.heap.size w3 (w3.alloc (.cells #[.int .i64 1] 3)) := by (repeat' (first | (with_reducible exact Below.refl _ _) | (with_reducible assumption) | (with_reducible refine Below.alloc ?_ ?_ _) | (with_reducible refine below_drewN ?_ _) | (with_reducible refine below_drew ?_) | (with_reducible refine below_ext ?_ ?_ _ _) | (with_reducible refine Below.setCell ?_ ?_ _) | (simp; done) | (simp; omega) | omega))
    exact ⟨_, rfl, r4.weak (fun g _ h => Nat.le_trans (more (more b1 b2) b3).size (Nat.le_trans b5.size h)), more (more (more (more b1 b2) b3) b5) b4⟩
  · rw [hmq]
    rw [show cmpv (r + r) t = 0 by rw [hc]; exact cmpv_same t] at h3
    have hp : 0 < (dg q).length := by rw [dg_pos (by omega)]; simp
    have H3 := Lib.hid h3
    have HG := Lib.hid (hgq hp)
    obtain ⟨l, hl⟩ : ∃ l, l = (dg q).length := ⟨_, rfl⟩
    have hlp : (0 : Int) < (dg q).length := by omega
    have hod : ((q % 10 : Nat) : Int) % 2 = 1 := by omega
    obtain ⟨x, hx⟩ : ∃ x, x = q % 10 := ⟨_, rfl⟩
    rw [← hx] at hod HG
    have hx9 : x ≤ 9 := by omega
    clear h1 h2 h3 h4 ha hb hq hr hrt hc hgq ht0 hla hlb hlq hlr hl2 hl hx ho hmq
    go_enter Tryd.func58, Tryd.ntmps58
    go_wp2_with (first
      | (go_at_call 42; ((with_reducible refine (H1.out w).mono ?_); rintro e w1 ⟨v1, v2, rfl, r1, r2, b1⟩; obtain ⟨p1, c1, rfl, -⟩ := r1.form))
      | (go_at_call 71; ((with_reducible refine (H2.out _ _ _ r2.rd r2.rd).mono ?_); rintro e w2 ⟨v3, rfl, r3, b2⟩))
      | (go_at_call 68; ((with_reducible refine (H3.out _ _ _ r3.rd (HB.out.later (more b1 b2))).mono ?_); rintro e w3 ⟨rfl, b3⟩; obtain ⟨-, g, off, rfl, hg, hx⟩ := (r1.later (more b2 b3)).cells hp; have cq := hx 0 hp; rw [HG.out, Nat.add_zero] at cq; clear hx))
      | (go_at_call 71; ((with_reducible refine (H4.out _ _ _ ((r1.rd.later (more b2 b3)).later (by (repeat' (first | (with_reducible exact Below.refl _ _) | (with_reducible assumption) | (with_reducible refine Below.alloc ?_ ?_ _) | (with_reducible refine below_drewN ?_ _) | (with_reducible refine below_drew ?_) | (with_reducible refine below_ext ?_ ?_ _ _) | (with_reducible refine Below.setCell ?_ ?_ _) | (simp; done) | (simp; omega) | omega)))) ((lit_one w3).rd)).mono ?_); rintro e w4 ⟨v4, rfl, r4, b4⟩)))
    go_ret
    have b5 : Below w3.heap.size w3 (w3.alloc (.cells #[.int .i64 1] 3)) := by (repeat' (first | (with_reducible exact Below.refl _ _) | (with_reducible assumption) | (with_reducible refine Below.alloc ?_ ?_ _) | (with_reducible refine below_drewN ?_ _) | (with_reducible refine below_drew ?_) | (with_reducible refine below_ext ?_ ?_ _ _) | (with_reducible refine Below.setCell ?_ ?_ _) | (simp; done) | (simp; omega) | omega))
    exact ⟨_, rfl, r4.weak (fun g _ h => Nat.le_trans (more (more b1 b2) b3).size (Nat.le_trans b5.size h)), more (more (more (more b1 b2) b3) b5) b4⟩
  · rw [hmq]
    rw [show cmpv (r + r) t = 0 by rw [hc]; exact cmpv_same t] at h3
    have H3 := Lib.hid h3
    by_cases hp : 0 < (dg q).length
    · have HPOS := Lib.hid hp
      have HG := Lib.hid (hgq hp)
      have hlp : (0 : Int) < (dg q).length := by omega
      have hod : ((q % 10 : Nat) : Int) % 2 = 0 := by omega
      obtain ⟨x, hx⟩ : ∃ x, x = q % 10 := ⟨_, rfl⟩
      rw [← hx] at hod HG
      have hx9 : x ≤ 9 := by omega
      clear h1 h2 h3 h4 ha hb hq hr hrt hc hgq ht0 hla hlb hlq hlr hl2 hx ho hmq
      go_enter Tryd.func58, Tryd.ntmps58
      go_wp2_with (first
        | (go_at_call 42; ((with_reducible refine (H1.out w).mono ?_); rintro e w1 ⟨v1, v2, rfl, r1, r2, b1⟩; obtain ⟨p1, c1, rfl, -⟩ := r1.form))
        | (go_at_call 71; ((with_reducible refine (H2.out _ _ _ r2.rd r2.rd).mono ?_); rintro e w2 ⟨v3, rfl, r3, b2⟩))
        | (go_at_call 68; ((with_reducible refine (H3.out _ _ _ r3.rd (HB.out.later (more b1 b2))).mono ?_); rintro e w3 ⟨rfl, b3⟩; obtain ⟨-, g, off, rfl, hg, hx⟩ := (r1.later (more b2 b3)).cells hp; have cq := hx 0 hp; rw [HG.out, Nat.add_zero] at cq; clear hx)))
      go_ret
      exact ⟨_, rfl, r1.later (more b2 b3), more (more b1 b2) b3⟩
    · have hlp : ¬ (0 : Int) < (dg q).length := by omega
      clear h1 h2 h3 h4 ha hb hq hr hrt hc hgq ht0 hla hlb hlq hlr hl2 hp ho hmq
      go_enter Tryd.func58, Tryd.ntmps58
      go_wp2_with (first
        | (go_at_call 42; ((with_reducible refine (H1.out w).mono ?_); rintro e w1 ⟨v1, v2, rfl, r1, r2, b1⟩; obtain ⟨p1, c1, rfl, -⟩ := r1.form))
        | (go_at_call 71; ((with_reducible refine (H2.out _ _ _ r2.rd r2.rd).mono ?_); rintro e w2 ⟨v3, rfl, r3, b2⟩))
        | (go_at_call 68; ((with_reducible refine (H3.out _ _ _ r3.rd (HB.out.later (more b1 b2))).mono ?_); rintro e w3 ⟨rfl, b3⟩; skip)))
      go_ret
      exact ⟨_, rfl, r1.later (more b2 b3), more (more b1 b2) b3⟩
  · rw [hmq]
    rw [cmpv_less hc] at h3
    have H3 := Lib.hid h3
    clear h1 h2 h3 h4 ha hb hq hr hrt hc hgq ht0 hla hlb hlq hlr hl2 hmq
    go_enter Tryd.func58, Tryd.ntmps58
    go_wp2_with (first
      | (go_at_call 42; ((with_reducible refine (H1.out w).mono ?_); rintro e w1 ⟨v1, v2, rfl, r1, r2, b1⟩; obtain ⟨p1, c1, rfl, -⟩ := r1.form))
      | (go_at_call 71; ((with_reducible refine (H2.out _ _ _ r2.rd r2.rd).mono ?_); rintro e w2 ⟨v3, rfl, r3, b2⟩))
      | (go_at_call 68; ((with_reducible refine (H3.out _ _ _ r3.rd (HB.out.later (more b1 b2))).mono ?_); rintro e w3 ⟨rfl, b3⟩; skip)))
    go_ret
    exact ⟨_, rfl, r1.later (more b2 b3), more (more b1 b2) b3⟩
end Go.Proofs.YtcnkcfbodpkllaaDoor
