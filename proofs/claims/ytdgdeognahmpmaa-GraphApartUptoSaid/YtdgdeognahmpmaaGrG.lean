/-
  Rings: plain facts; GraphRings.
-/
import Derived.Test.YtdgdeognahmpmaaGrX
namespace Go.Proofs.Ytdgdeognahmpmaa
open Go.RowKit
open Gk (okN okN_iff nxt nxt_some nxt_none ord ord_none ord_some Dn nodup_le)
attribute [local go_sem] setCell_drewN cell?_ext frozen?_ext shape?_ext setCell_ext lt_1' ne_1' en_1' le_1' lt_2' ne_2' en_2' le_2' lt_3' ne_3' en_3' le_3' lt_4' ne_4' en_4' le_4' lt_5' ne_5' en_5' le_5' lt_6' ne_6' en_6' le_6' lt_7' ne_7' en_7' le_7' lt_8' ne_8' en_8' le_8' lt_9' ne_9' en_9' le_9' lt_10' ne_10' en_10' le_10' lt_11' ne_11' en_11' le_11' lt_12' ne_12' en_12' le_12'

theorem Rch.trans {nd : Nat → List Nat} {a b c : Nat} (h : Rch nd a b) (k : Rch nd b c) : Rch nd a c := by
  induction k with
  | refl => exact h
  | step _ hb ih => exact ih.step hb
/-- a rank that falls along needs -/
theorem rank_le {nd : Nat → List Nat} {N : Nat} {r : Nat → Nat} (hlt : ∀ i, i < N → ∀ x ∈ nd i, x < N) (hr : ∀ i, i < N → ∀ x ∈ nd i, r x < r i) {a b : Nat} (ha : a < N) (h : Rch nd a b) : b < N ∧ r b ≤ r a := by
  induction h with
  | refl => exact ⟨ha, Nat.le_refl _⟩
  | step _ hb ih => exact ⟨hlt _ ih.1 _ hb, Nat.le_trans (Nat.le_of_lt (hr _ ih.1 _ hb)) ih.2⟩
/-- what is in order stands behind what it needs -/
def Bh (nd : Nat → List Nat) (D : List Nat) : Prop := ∀ i ∈ D, ∀ x ∈ nd i, D.idxOf x < D.idxOf i
theorem Bh.snoc {nd : Nat → List Nat} {D : List Nat} {t : Nat} (h : Bh nd D) (hc : ∀ i ∈ D, ∀ x ∈ nd i, x ∈ D) (ht : okN nd D t = true) : Bh nd (D ++ [t]) := by
  obtain ⟨h1, h2⟩ := okN_iff.1 ht
  intro i hi x hx
  rcases List.mem_append.1 hi with hi | hi
  · rw [List.idxOf_append, List.idxOf_append, if_pos hi, if_pos (hc i hi x hx)]
    exact h i hi x hx
  · rw [List.mem_singleton] at hi
    subst hi
    rw [List.idxOf_append, List.idxOf_append, if_pos (h2 x hx), if_neg h1]
    have := List.idxOf_lt_length_of_mem (h2 x hx)
    omega
theorem ord_bh {nd : Nat → List Nat} {N : Nat} : ∀ (n : Nat) {D : List Nat}, Dn nd N D → Bh nd D → Bh nd (ord nd N n D)
  | 0, D, _, h => h
  | n + 1, D, hd, h => by
    cases e : nxt nd N D with
    | none => rw [ord_none e]; exact h
    | some t =>
      rw [ord_some e]
      obtain ⟨h1, h2, -⟩ := nxt_some.1 e
      exact ord_bh n (hd.snoc h1 h2) (h.snoc hd.cl h1)
/-- where the order stops -/
theorem ord_stop {nd : Nat → List Nat} {N : Nat} : ∀ (n : Nat) {D : List Nat}, Dn nd N D → N ≤ D.length + n → (ord nd N n D).length < N → nxt nd N (ord nd N n D) = none
  | 0, D, _, hn, h => by
    have h2 : D.length < N := h
    omega
  | n + 1, D, hd, hn, h => by
    cases e : nxt nd N D with
    | none => rw [ord_none e]; exact e
    | some t =>
      rw [ord_some e] at h ⊢
      obtain ⟨h1, h2, -⟩ := nxt_some.1 e
      exact ord_stop n (hd.snoc h1 h2) (by rw [List.length_append]; simp only [List.length_cons, List.length_nil]; omega) h
theorem full_mem {N : Nat} {D : List Nat} (hD : D.Nodup) (hl : ∀ i ∈ D, i < N) (hN : ¬ D.length < N) (i : Nat) (hi : i < N) : i ∈ D := by
  rcases Classical.em (i ∈ D) with h | h
  · exact h
  · have := nodup_le (N := N) (D := i :: D) (List.nodup_cons.2 ⟨h, hD⟩) (fun j hj => by
      rcases List.mem_cons.1 hj with rfl | hj
      · exact hi
      · exact hl j hj)
    rw [List.length_cons] at this
    omega
/-- a step that always goes on comes round -/
theorem comes_round {N : Nat} {nd : Nat → List Nat} {g : Nat → Nat} {P : Nat → Prop} (hg : ∀ i, P i → P (g i) ∧ g i ∈ nd i) (hN : ∀ i, P i → i < N) {a : Nat} (ha : P a) : ∃ i x, P i ∧ x ∈ nd i ∧ Rch nd x i := by
  have hit : ∀ k, P (Nat.repeat g k a) := fun k => by
    induction k with
    | zero => exact ha
    | succ k ih => exact (hg _ ih).1
  have hrc : ∀ k j, Rch nd (Nat.repeat g k a) (Nat.repeat g (k + j) a) := fun k j => by
    induction j with
    | zero => exact .refl
    | succ j ih => exact ih.step (hg _ (hit (k + j))).2
  rcases Classical.em (∃ k j, Nat.repeat g k a = Nat.repeat g (k + 1 + j) a) with ⟨k, j, e⟩ | hno
  · refine ⟨Nat.repeat g k a, Nat.repeat g (k + 1) a, hit k, (hg _ (hit k)).2, ?_⟩
    rw [e]
    exact hrc (k + 1) j
  · exfalso
    have hinj : ∀ i j, i < j → Nat.repeat g i a ≠ Nat.repeat g j a := fun i j h e => hno ⟨i, j - (i + 1), by rw [e]; congr 1; omega⟩
    have hnd : ∀ n, ((List.range n).map fun k => Nat.repeat g k a).Nodup := fun n => by
      induction n with
      | zero => exact List.Pairwise.nil
      | succ n ih =>
        rw [List.range_succ, List.map_append, List.nodup_append]
        refine ⟨ih, List.pairwise_singleton _ _, fun x hx y hy e => ?_⟩
        rw [List.map_singleton, List.mem_singleton] at hy
        rw [List.mem_map] at hx
        obtain ⟨i, hi, rfl⟩ := hx
        rw [List.mem_range] at hi
        exact hinj i n hi (e.trans hy)
    have := nodup_le (N := N) (hnd (N + 1)) (fun x hx => by
      rw [List.mem_map] at hx
      obtain ⟨i, _, rfl⟩ := hx
      exact hN _ (hit i))
    rw [List.length_map, List.length_range] at this
    omega
/-- no order just if there is a ring -/
theorem ring_iff {N : Nat} {nd : Nat → List Nat} (hlt : ∀ i, i < N → ∀ x ∈ nd i, x < N) : (ord nd N N []).length < N ↔ ∃ i, i < N ∧ ∃ x ∈ nd i, Rch nd x i := by
  have hd := ord_dn N (Dn.nil nd N)
  constructor
  · intro h
    have hno := nxt_none.1 (ord_stop N (Dn.nil nd N) (by simp) h)
    obtain ⟨D, hD⟩ : ∃ D, D = ord nd N N [] := ⟨_, rfl⟩
    rw [← hD] at hd h hno
    have hstep : ∀ i, (i < N ∧ i ∉ D) → ∃ x, (x < N ∧ x ∉ D) ∧ x ∈ nd i := fun i hi => by
      have h1 := hno i hi.1
      rcases Classical.em (∀ x ∈ nd i, x ∈ D) with h2 | h2
      · rw [okN_iff.2 ⟨hi.2, h2⟩] at h1; cases h1
      · rw [Classical.not_forall] at h2
        obtain ⟨x, h3⟩ := h2
        rw [Classical.not_imp] at h3
        exact ⟨x, ⟨hlt i hi.1 x h3.1, h3.2⟩, h3.1⟩
    have hex : ∃ a, a < N ∧ a ∉ D := by
      rcases Classical.em (∃ a, a < N ∧ a ∉ D) with h2 | h2
      · exact h2
      · exfalso
        have hall : ∀ i ∈ List.range N, i ∈ D := fun i hi => by
          rcases Classical.em (i ∈ D) with h3 | h3
          · exact h3
          · exact absurd ⟨i, List.mem_range.1 hi, h3⟩ h2
        have hp := ((List.perm_ext_iff_of_nodup hd.nodup List.nodup_range).2 fun a => ⟨fun h => List.mem_range.2 (hd.lt a h), hall a⟩ : D.Perm (List.range N)).length_eq
        rw [List.length_range] at hp
        omega
    obtain ⟨a, ha⟩ := hex
    obtain ⟨i, x, h1, h2, h3⟩ := comes_round (N := N) (nd := nd) (g := fun i => if h : i < N ∧ i ∉ D then Classical.choose (hstep i h) else 0) (P := fun i => i < N ∧ i ∉ D) (fun i hi => by
      rw [dif_pos hi]
      exact Classical.choose_spec (hstep i hi)) (fun i hi => hi.1) ha
    exact ⟨i, h1.1, x, h2, h3⟩
  · rintro ⟨i, hi, x, hx, hr⟩
    rcases Nat.lt_or_ge (ord nd N N []).length N with h | h
    · exact h
    · exfalso
      have hb := ord_bh N (Dn.nil nd N) (fun i hi => by cases hi)
      have hm := full_mem hd.nodup hd.lt (by omega)
      have h1 := rank_le (r := fun j => (ord nd N N []).idxOf j) hlt (fun j hj y hy => hb j (hm j hj) y hy) (hlt i hi x hx) hr
      have h2 := hb i (hm i hi) x hx
      have h3 : (ord nd N N []).idxOf i ≤ (ord nd N N []).idxOf x := h1.2
      omega
theorem ordE_form {L : List (List Int)} : (ordE L = 0 ∨ ordE L = 11) ↔ chkE L = 0 := by
  unfold ordE
  by_cases hz : chkE L = 0
  · rw [if_pos hz]
    refine ⟨fun _ => hz, fun _ => ?_⟩
    by_cases h : (ord (ndOf L) L.length L.length []).length < L.length
    · rw [if_pos h]; exact .inr rfl
    · rw [if_neg h]; exact .inl rfl
  · rw [if_neg hz]
    refine ⟨fun h => ?_, fun h => absurd h hz⟩
    rcases h with h | h
    · exact h
    · exfalso
      unfold chkE at h
      split at h
      · cases h
      · split at h
        · cases h
        · split at h <;> cases h
theorem ordE_ring {L : List (List Int)} (hz : chkE L = 0) : ordE L = 11 ↔ ∃ i, i < L.length ∧ ∃ x ∈ ndOf L i, Rch (ndOf L) x i := by
  rw [← ring_iff (fm_of hz).lt]
  unfold ordE
  rw [if_pos hz]
  by_cases h : (ord (ndOf L) L.length L.length []).length < L.length
  · rw [if_pos h]; exact ⟨fun _ => h, fun _ => rfl⟩
  · rw [if_neg h]; exact ⟨fun h2 => (by cases h2), fun h2 => absurd h2 h⟩
theorem reE_in {L : List (List Int)} (hz : chkE L = 0) {x : Nat} (hx : x < L.length) : reE L (x : Int) = 0 := by
  unfold reE
  rw [if_neg (by omega)]; exact hz
theorem reL_mem {L : List (List Int)} (hz : chkE L = 0) {x : Nat} (hx : x < L.length) (i : Nat) : i ∈ reL L (x : Int) ↔ i < L.length ∧ Rch (ndOf L) x i := by
  unfold reL
  rw [if_pos (reE_in hz hx), List.mem_filter, List.mem_range, rchB_iff]
  rfl
/-- a ring that was met among the first i things, the first k needs of thing i, the first j that the next one reaches -/
def Rg (nd : Nat → List Nat) (i k : Nat) : Prop := ∃ a b, (a < i ∨ a = i) ∧ (a = i → b ∈ (nd i).take k) ∧ b ∈ nd a ∧ Rch nd b a
theorem Rg.zero (nd : Nat → List Nat) : ¬ Rg nd 0 0 := fun ⟨a, b, h1, h2, h3, h4⟩ => by
  have e : a = 0 := by omega
  have := h2 e
  rw [List.take_zero] at this; cases this
theorem Rg.next {nd : Nat → List Nat} {i k : Nat} (hk : (nd i).length ≤ k) : Rg nd i k ↔ Rg nd (i + 1) 0 := by
  constructor
  · rintro ⟨a, b, h1, h2, h3, h4⟩
    exact ⟨a, b, by omega, fun e => by omega, h3, h4⟩
  · rintro ⟨a, b, h1, h2, h3, h4⟩
    have ha : a < i + 1 := by
      rcases h1 with h | h
      · exact h
      · have := h2 h; rw [List.take_zero] at this; cases this
    exact ⟨a, b, by omega, fun e => by rw [List.take_of_length_le hk]; rw [e] at h3; exact h3, h3, h4⟩
theorem Rg.step {nd : Nat → List Nat} {i k : Nat} (hk : k < (nd i).length) : Rg nd i (k + 1) ↔ Rg nd i k ∨ Rch nd (nd i)[k] i := by
  constructor
  · rintro ⟨a, b, h1, h2, h3, h4⟩
    by_cases e : a = i
    · have h5 := h2 e
      rw [List.take_succ_eq_append_getElem hk] at h5
      rcases List.mem_append.1 h5 with h6 | h6
      · exact .inl ⟨a, b, h1, fun _ => h6, h3, h4⟩
      · rw [List.mem_singleton] at h6
        subst h6; subst e
        exact .inr h4
    · exact .inl ⟨a, b, h1, fun h => absurd h e, h3, h4⟩
  · rintro (⟨a, b, h1, h2, h3, h4⟩ | h)
    · exact ⟨a, b, h1, fun e => by rw [List.take_succ_eq_append_getElem hk]; exact List.mem_append_left _ (h2 e), h3, h4⟩
    · exact ⟨i, (nd i)[k], .inr rfl, fun _ => by rw [List.take_succ_eq_append_getElem hk]; exact List.mem_append_right _ (List.mem_singleton_self _), List.getElem_mem hk, h⟩
theorem Rg.all {nd : Nat → List Nat} {N : Nat} : Rg nd N 0 ↔ ∃ i, i < N ∧ ∃ x ∈ nd i, Rch nd x i := by
  constructor
  · rintro ⟨a, b, h1, h2, h3, h4⟩
    rcases h1 with h | h
    · exact ⟨a, h, b, h3, h4⟩
    · have := h2 h; rw [List.take_zero] at this; cases this
  · rintro ⟨i, hi, x, hx, hr⟩
    exact ⟨i, x, .inl hi, fun e => by omega, hx, hr⟩
set_option maxRecDepth 100000 in
set_option maxHeartbeats 16000000 in
theorem graphRings_law {n w v} {L : List (List Int)} (h : NRd n w v L) (hn : n ≤ w.heap.size) :
    Calls Try.prog 6 #[v] w fun e w' => e = .returned (.bool true) ∧ Below w.heap.size w w' := by
  have HK := Lib.hid (gknown_any w)
  have HN := Lib.hid hn
  have HB := Lib.hid (show ∀ w1, Below w.heap.size w w1 → Calls Try.prog 10 #[v] w1 fun e w' => OrdQ L w1 e w' from fun w1 hb => gorder_any (h.keep (hb.mono hn)) (Nat.le_trans hn hb.size))
  have HC := Lib.hid (show ∀ f w1, Below w.heap.size w w1 → Calls Try.prog 13 #[v, .int .i64 f] w1 fun e w' => RQ L f w1 e w' from fun f w1 hb => gReach_any f (h.keep (hb.mono hn)) (Nat.le_trans hn hb.size))
  obtain ⟨E, hE⟩ : ∃ E, E = ordE L := ⟨_, rfl⟩
  have HE := Lib.hid hE
  by_cases hz : chkE L = 0
  · have hgr := h.grd hz
    have HFM := Lib.hid (fm_of hz)
    have HZ := Lib.hid hz
    have hE2 := ordE_form.2 hz
    rw [← hE] at hE2
    have HRI := Lib.hid (ordE_ring hz)
    obtain ⟨nd, hnd⟩ : ∃ nd, nd = ndOf L := ⟨_, rfl⟩
    obtain ⟨N, hNN⟩ : ∃ N, N = L.length := ⟨_, rfl⟩
    rw [← hnd, ← hNN] at hgr HFM
    rw [← hnd, ← hNN, ← hE] at HRI
    have HRE := Lib.hid (show ∀ x, x < N → reE L (x : Int) = 0 ∧ ∀ i, i ∈ reL L (x : Int) ↔ i < N ∧ Rch nd x i from fun x hx => ⟨reE_in hz (by rw [← hNN]; exact hx), fun i => by rw [hNN, hnd]; exact reL_mem hz (by rw [← hNN]; exact hx) i⟩)
    have hfew := HFM.out.few
    obtain ⟨p, c, rfl, h2⟩ := hgr
    have H2 := Lib.hid h2
    clear h hn hE hz hnd hNN h2
    rcases hE2 with hE0 | hE0
    all_goals
      subst hE0
      go_enter Try.func6, Try.ntmps6
      go_wp2_with (first
        | (go_at_call 8; ((with_reducible refine HK.out.mono ?_); rintro e w1 ⟨rfl, hb⟩; have HB1 := Lib.hid hb; clear hb))
        | (go_at_call 10; ((with_reducible refine (HB.out _ HB1.out).mono ?_); rintro e w2 ⟨v1, rfl, hb, -⟩; rw [← HE.out]; have HB2 := Lib.hid (HB1.out.trans (hb.mono HB1.out.size)); clear hb)))
      go_loopw [5, 6] (fun z y wr => ∃ (b : Bool) (i : Nat), z = .bool b ∧ y = .int .i64 i ∧ i ≤ N ∧ Hid (b = true ↔ Rg nd i 0) ∧ Hid (Below w.heap.size w wr)) (fun _ y _ => N - (intOf y).toNat)
      case atStart => exact ⟨false, 0, rfl, rfl, Nat.zero_le _, Lib.hid ⟨fun h => (by cases h), fun h => absurd h (Rg.zero nd)⟩, HB2⟩
      case round =>
        clear HB1 HB2 HB HK
        obtain ⟨b, i, rfl, rfl, hi, hrg, hbel⟩ := hrel
        by_cases hlt : i < N
        · have hii : (i : Int) < (N : Int) := by omega
          obtain ⟨g, o, rfl, hg, hc⟩ := H2.out (by omega)
          obtain ⟨vi, hvi, pi, ci, rfl, hi2⟩ := hc i hlt
          have HI := Lib.hid hi2
          obtain ⟨mn, hmn⟩ : ∃ mn, mn = (nd i).length := ⟨_, rfl⟩
          have HMN := Lib.hid hmn
          have hmn1 : mn ≤ 100 := by rw [hmn]; exact HFM.out.short i hlt
          rw [← hmn] at hvi
          have HVI := Lib.hid (show ∀ w3, Below w.heap.size w w3 → w3.cell? ⟨g, o + i, none⟩ = some (.slice pi mn ci) from fun w3 hb => by rw [hb.cell (p := ⟨g, o + i, none⟩) (Nat.lt_of_lt_of_le hg HN.out)]; exact hvi)
          clear hvi hc hi2 hmn
          go_wp2
          go_loopw [5, 7] (fun z y wr => ∃ (b : Bool) (k : Nat), z = .bool b ∧ y = .int .i64 k ∧ k ≤ mn ∧ Hid (b = true ↔ Rg nd i k) ∧ Hid (Below w.heap.size w wr)) (fun _ y _ => mn - (intOf y).toNat)
          case atStart => exact ⟨b, 0, rfl, rfl, Nat.zero_le _, hrg, hbel⟩
          case round =>
            clear hrg hbel
            obtain ⟨b, k, rfl, rfl, hk, hrg, hbel⟩ := hrel
            have hvi2 := HVI.out wr hbel.out
            by_cases hlk : k < mn
            · have hkl : k < (nd i).length := by rw [← HMN.out]; exact hlk
              have hki : (k : Int) < (mn : Int) := by omega
              obtain ⟨g3, o3, rfl, hg3, hc3⟩ := HI.out (by omega)
              have hcx := (hbel.out.cell (p := ⟨g3, o3 + k, none⟩) (Nat.lt_of_lt_of_le hg3 HN.out)).trans (hc3 k hkl)
              have hxN := HFM.out.lt i hlt _ (List.getElem_mem hkl)
              have hst := Rg.step hkl
              obtain ⟨x, hx⟩ : ∃ x, x = (nd i)[k] := ⟨_, rfl⟩
              rw [← hx] at hcx hxN hst
              obtain ⟨hre, hrm⟩ := HRE.out x hxN
              have HRM := Lib.hid hrm
              have HST := Lib.hid hst
              have HCC := Lib.hid (show Calls Try.prog 13 #[.slice (some ⟨g, o, none⟩) N c, .int .i64 (x : Int)] wr fun e w' => ∃ q cq m, e = .returned (.tuple #[.slice q m cq, .int .i64 0]) ∧ Below w.heap.size w w' ∧ m ≤ 1000000 ∧ m = (reL L (x : Int)).length ∧ (0 < m → ∃ g o, q = some ⟨g, o, none⟩ ∧ ∀ j (h : j < (reL L (x : Int)).length), w'.cell? ⟨g, o + j, none⟩ = some (iv (reL L (x : Int))[j])) from (HC.out (x : Int) wr hbel.out).mono fun e w' ⟨v', a, b, cc⟩ => by
                obtain ⟨⟨q, cq, rfl, d⟩, -⟩ := cc
                exact ⟨q, cq, _, by rw [a, hre], hbel.out.trans (b.mono hbel.out.size), reL_len L _, rfl, fun h0 => by obtain ⟨g9, o9, e9, _, f9⟩ := d h0; exact ⟨g9, o9, e9, f9⟩⟩)
              obtain ⟨RL, hRL⟩ : ∃ RL, RL = reL L (x : Int) := ⟨_, rfl⟩
              rw [← hRL] at HCC HRM
              unfold iv at hcx
              clear hst hrm hre hx hc3 hRL
              go_wp2_with (go_at_call 13; ((with_reducible refine HCC.out.mono ?_); rintro e w4 ⟨q, cq, m, rfl, hb4, hm1, hm2, hq⟩; have HB4 := Lib.hid hb4; have HM2 := Lib.hid hm2; have HQ := Lib.hid hq; clear hb4 hm2 hq))
              go_loopw [5, 10] (fun z y wr => ∃ (b : Bool) (j : Nat), z = .bool b ∧ y = .int .i64 j ∧ j ≤ m ∧ Hid (b = true ↔ (Rg nd i k ∨ i ∈ RL.take j)) ∧ Hid (∃ d, wr = w4.drewN d)) (fun _ y _ => m - (intOf y).toNat)
              case atStart => exact ⟨b, 0, rfl, rfl, Nat.zero_le _, Lib.hid (by rw [List.take_zero]; exact ⟨fun h => .inl (hrg.out.1 h), fun h => by rcases h with h | h; (exact hrg.out.2 h); (cases h)⟩), Lib.hid ⟨0, rfl⟩⟩
              case round =>
                obtain ⟨b2, j, rfl, rfl, hj, hrj, hw⟩ := hrel
                obtain ⟨d, rfl⟩ := hw.out
                by_cases hlj : j < m
                · have hjl : j < RL.length := by rw [← HM2.out]; exact hlj
                  have hji : (j : Int) < (m : Int) := by omega
                  obtain ⟨g9, o9, rfl, hc9⟩ := HQ.out (by omega)
                  have hcy := hc9 j hjl
                  have htk := List.take_succ_eq_append_getElem hjl
                  obtain ⟨y, hy⟩ : ∃ y, y = RL[j] := ⟨_, rfl⟩
                  rw [← hy] at hcy htk
                  unfold iv at hcy
                  have HIF := Lib.hid (show ∀ b3 : Bool, (b3 = true ↔ (b2 = true ∨ y = i)) → (b3 = true ↔ (Rg nd i k ∨ i ∈ RL.take (j + 1))) from fun b3 hb3 => by
                    rw [hb3, htk, List.mem_append, List.mem_singleton, hrj.out]
                    constructor
                    · rintro ((h | h) | h)
                      · exact .inl h
                      · exact .inr (.inl h)
                      · exact .inr (.inr h.symm)
                    · rintro (h | h | h)
                      · exact .inl (.inl h)
                      · exact .inl (.inr h)
                      · exact .inr h.symm)
                  clear hc9 htk hy hrj hrg
                  cases b2 with
                  | true =>
                    have HX := Lib.hid (HIF.out true ⟨fun _ => .inl rfl, fun _ => rfl⟩)
                    go_wp2
                    go_roundw
                    case rel => exact ⟨true, j + 1, rfl, by go_num, by omega, HX, Lib.hid ⟨_, rfl⟩⟩
                    case measure => simp [intOf]; omega
                  | false =>
                    by_cases hyi : y = i
                    · have HX := Lib.hid (HIF.out true ⟨fun _ => .inr hyi, fun _ => rfl⟩)
                      subst hyi
                      go_wp2
                      go_roundw
                      case rel => exact ⟨true, j + 1, rfl, by go_num, by omega, HX, Lib.hid ⟨_, rfl⟩⟩
                      case measure => simp [intOf]; omega
                    · have HX := Lib.hid (HIF.out false ⟨fun h => (by cases h), fun h => by rcases h with h | h; (cases h); (exact absurd h hyi)⟩)
                      have hyii : ((y : Int) == (i : Int)) = false := beq_eq_false_iff_ne.2 (by omega)
                      go_wp2
                      go_roundw
                      case rel => exact ⟨false, j + 1, rfl, by go_num, by omega, HX, Lib.hid ⟨_, rfl⟩⟩
                      case measure => simp [intOf]; omega
                · have HX := Lib.hid (show b2 = true ↔ Rg nd i (k + 1) from by
                    rw [hrj.out, List.take_of_length_le (by rw [← HM2.out]; omega), HRM.out, HST.out]
                    exact ⟨fun h => h.imp id (fun h => h.2), fun h => h.imp id (fun h => ⟨hlt, h⟩)⟩)
                  have hji : ¬ (j : Int) < (m : Int) := by omega
                  clear hrj hrg
                  go_wp2
                  go_roundw
                  case rel => exact ⟨b2, k + 1, rfl, by go_num, by omega, HX, Lib.hid (bel_drew HB4.out d)⟩
                  case measure => simp [intOf]; omega
            · have HX := Lib.hid (show b = true ↔ Rg nd (i + 1) 0 from hrg.out.trans (Rg.next (by rw [← HMN.out]; omega)))
              have hki : ¬ (k : Int) < (mn : Int) := by omega
              clear hrg
              go_wp2
              go_roundw
              case rel => exact ⟨b, i + 1, rfl, by go_num, by omega, HX, hbel⟩
              case measure => simp [intOf]; omega
        · obtain rfl : i = N := by omega
          have HX := Lib.hid (hrg.out.trans (Rg.all.trans HRI.out.symm))
          clear hrg
          cases b with
          | true =>
            have h9 := HX.out.1 rfl
            clear HX HRI
            first
              | (exfalso; revert h9; decide)
              | (clear h9
                 go_wp2
                 go_ret
                 exact ⟨rfl, hbel.out⟩)
          | false =>
            have h9 := HX.out.2
            clear HX HRI
            first
              | (exfalso; exact Bool.false_ne_true (h9 rfl))
              | (exfalso; revert h9; decide)
              | (exfalso; simp at h9; done)
              | (clear h9
                 go_wp2
                 go_ret
                 exact ⟨rfl, hbel.out⟩)
  · have hE2 : E ≠ 0 ∧ E ≠ 11 := by
      refine ⟨fun h => hz (ordE_form.1 (.inl (by rw [← hE]; exact h))), fun h => hz (ordE_form.1 (.inr (by rw [← hE]; exact h)))⟩
    obtain ⟨hE0, hE1⟩ := hE2
    have b1 : (E != 0) = true := by rw [bne_iff_ne]; exact hE0
    have b2 : (E != 11) = true := by rw [bne_iff_ne]; exact hE1
    have b3 : (E == 0) = false := beq_eq_false_iff_ne.2 hE0
    have b4 : (E == 11) = false := beq_eq_false_iff_ne.2 hE1
    clear h hn hE hz HC
    go_enter Try.func6, Try.ntmps6
    go_wp2_with (first
      | (go_at_call 8; ((with_reducible refine HK.out.mono ?_); rintro e w1 ⟨rfl, hb⟩; have HB1 := Lib.hid hb; clear hb))
      | (go_at_call 10; ((with_reducible refine (HB.out _ HB1.out).mono ?_); rintro e w2 ⟨v1, rfl, hb, -⟩; rw [← HE.out]; have HB2 := Lib.hid (HB1.out.trans (hb.mono HB1.out.size)); clear hb)))
    clear b1 b2 b3 b4 hE0 hE1
    go_ret
    exact ⟨rfl, HB2.out⟩
end Go.Proofs.Ytdgdeognahmpmaa
