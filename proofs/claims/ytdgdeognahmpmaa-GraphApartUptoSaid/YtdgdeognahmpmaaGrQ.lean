/-
  DocOrder; who needs a thing.
-/
import Derived.Test.YtdgdeognahmpmaaGrP
namespace Go.Proofs.Ytdgdeognahmpmaa
open Go.RowKit
open Gk (okN okN_iff nxt nxt_some nxt_none ord ord_none ord_some Dn nodup_le users)
attribute [local go_sem] setCell_drewN cell?_ext frozen?_ext shape?_ext setCell_ext lt_1' ne_1' en_1' le_1' lt_2' ne_2' en_2' le_2' lt_3' ne_3' en_3' le_3' lt_4' ne_4' en_4' le_4' lt_5' ne_5' en_5' le_5' lt_6' ne_6' en_6' le_6' lt_7' ne_7' en_7' le_7' lt_8' ne_8' en_8' le_8' lt_9' ne_9' en_9' le_9' lt_10' ne_10' en_10' le_10' lt_11' ne_11' en_11' le_11' lt_12' ne_12' en_12' le_12'

def ordE (L : List (List Int)) : Int := if chkE L = 0 then (if (ord (ndOf L) L.length L.length []).length < L.length then 11 else 0) else chkE L
def ordL (L : List (List Int)) : List Nat := if chkE L = 0 then (if (ord (ndOf L) L.length L.length []).length < L.length then [] else ord (ndOf L) L.length L.length []) else []
/-- how Order ends -/
def OrdQ (L : List (List Int)) (w : World) (e : Ending) (w' : World) : Prop := ∃ v', e = .returned (.tuple #[v', .int .i64 (ordE L)]) ∧ Below w.heap.size w w' ∧ SRd w'.heap.size w' v' (ordL L) ∧ Fr w.heap.size w' v'
theorem bel_undrew {n d : Nat} {a b : World} (h : Below n (a.drewN d) b) : Below n a b := ⟨h.os, h.tape, h.output, h.size, h.block⟩
set_option maxRecDepth 100000 in
set_option maxHeartbeats 8000000 in
theorem docorder_any {n w v} {L : List (List Int)} (h : NRd n w v L) (hn : n ≤ w.heap.size) :
    Calls Try.prog 9 #[v] w fun e w' => OrdQ L w e w' := by
  have HC := Lib.hid (rcheck_any h)
  obtain ⟨E, hE⟩ : ∃ E, E = chkE L := ⟨_, rfl⟩
  by_cases hz : E = 0
  · have hz' : chkE L = 0 := by rw [← hE, hz]
    have HO := Lib.hid (fun d => rorder_any (w := w.drewN d) (fm_of hz') ((h.grd hz').keep (bel_drew (Below.refl n w) d)) hn)
    rw [← hE, hz] at HC
    obtain ⟨R, hR⟩ : ∃ R, R = ord (ndOf L) L.length L.length [] := ⟨_, rfl⟩
    obtain ⟨N, hN⟩ : ∃ N, N = L.length := ⟨_, rfl⟩
    rw [← hR, ← hN] at HO
    have HE := Lib.hid (show ordE L = (if R.length < N then 11 else 0) by unfold ordE; rw [if_pos hz', ← hR, ← hN])
    have HL := Lib.hid (show ordL L = (if R.length < N then [] else R) by unfold ordL; rw [if_pos hz', ← hR, ← hN])
    clear h hE hz' hR hN
    by_cases hr : R.length < N
    · have HF := Lib.hid (show decide (¬ R.length < N) = false from decide_eq_false (fun h => h hr))
      have HE2 := Lib.hid (show ordE L = 11 by rw [HE.out, if_pos hr])
      have HL2 := Lib.hid (show ordL L = [] by rw [HL.out, if_pos hr])
      clear hr
      go_enter Try.func9, Try.ntmps9
      go_wp2_with (first
        | (go_at_call 17; ((with_reducible refine HC.out.mono ?_); rintro e w1 ⟨rfl, d, rfl⟩))
        | (go_at_call 18; ((with_reducible refine (HO.out _).mono ?_); rintro e w2 ⟨v', b, rfl, hb, hbe, hs⟩; rw [HF.out] at hbe; subst hbe; have HB := Lib.hid hb; clear hb hs)))
      go_ret2
      exact (show ∃ v', _ from ⟨_, by rw [HE2.out]; rfl, bel_undrew HB.out, by rw [HL2.out]; exact ⟨SRd.nil _ _, Fr.nil _ _⟩⟩)
    · have HF := Lib.hid (show decide (¬ R.length < N) = true from decide_eq_true hr)
      have HE2 := Lib.hid (show ordE L = 0 by rw [HE.out, if_neg hr])
      have HL2 := Lib.hid (show ordL L = (if R.length < N then [] else R) from HL.out)
      clear hr
      go_enter Try.func9, Try.ntmps9
      go_wp2_with (first
        | (go_at_call 17; ((with_reducible refine HC.out.mono ?_); rintro e w1 ⟨rfl, d, rfl⟩))
        | (go_at_call 18; ((with_reducible refine (HO.out _).mono ?_); rintro e w2 ⟨v', b, rfl, hb, hbe, hs⟩; rw [HF.out] at hbe; subst hbe; have HB := Lib.hid hb; have HS := Lib.hid hs; clear hb hs)))
      go_ret2
      exact (show ∃ v', _ from ⟨_, by rw [HE2.out]; rfl, bel_undrew HB.out, by rw [HL2.out]; exact HS.out⟩)
  · have HE2 := Lib.hid (show ordE L = E by unfold ordE; rw [if_neg (by rw [← hE]; exact hz), hE])
    have HL2 := Lib.hid (show ordL L = [] by unfold ordL; rw [if_neg (by rw [← hE]; exact hz)])
    rw [← hE] at HC
    clear h hE
    go_enter Try.func9, Try.ntmps9
    go_wp2_with (go_at_call 17; ((with_reducible refine HC.out.mono ?_); rintro e w1 ⟨rfl, d, rfl⟩))
    go_ret2
    exact (show ∃ v', _ from ⟨_, by rw [HE2.out]; rfl, bel_drew (Below.refl _ _) d, by rw [HL2.out]; exact ⟨SRd.nil _ _, Fr.nil _ _⟩⟩)
/-- what each list of users is -/
def UR (w : World) (gu N : Nat) (U : Nat → List Nat) : Prop := ∃ f : Nat → Value, VRow w gu N f ∧ (∀ j, j < N → OB (gu + 1) w (f j) (U j)) ∧ ∀ i j, i < N → j < N → i ≠ j → ∀ k, (f i).ownBlock = some k → (f j).ownBlock ≠ some k
theorem UR.congr {w : World} {gu N : Nat} {U U' : Nat → List Nat} (h : UR w gu N U) (he : ∀ j, j < N → U j = U' j) : UR w gu N U' := by
  obtain ⟨f, h1, h2, h3⟩ := h
  exact ⟨f, h1, fun j hj => by rw [← he j hj]; exact h2 j hj, h3⟩
theorem UR.push {w w2 : World} {gu N x c g2 cap2 : Nat} {U : Nat → List Nat} {f : Nat → Value} (hrow : VRow w gu N f) (hob : ∀ j, j < N → OB (gu + 1) w (f j) (U j)) (hdis : ∀ i j, i < N → j < N → i ≠ j → ∀ k, (f i).ownBlock = some k → (f j).ownBlock ≠ some k) (hx : x < N)
    (hob3 : OB (gu + 1) w2 (.slice (some ⟨g2, 0, none⟩) ((U x).length + 1) cap2) (U x ++ [c])) (hoth : Oth (fun k => (f x).ownBlock = some k) w w2) (hat : (f x).ownBlock = some g2 ∨ w.heap.size ≤ g2) :
    UR (w2.setCell ⟨gu, x, none⟩ (.slice (some ⟨g2, 0, none⟩) ((U x).length + 1) cap2)) gu N (fun t => if t = x then U x ++ [c] else U t) := by
  have hrow2 : VRow w2 gu N f := hrow.kept hoth (fun e => (hob x hx).ne (Nat.lt_succ_self gu) gu e rfl)
  have hset : Oth (· = gu) w2 (w2.setCell ⟨gu, x, none⟩ (.slice (some ⟨g2, 0, none⟩) ((U x).length + 1) cap2)) := (Oth.refl (· = gu) w2).set ⟨gu, x, none⟩ rfl _
  refine ⟨updV f x (.slice (some ⟨g2, 0, none⟩) ((U x).length + 1) cap2), hrow2.store x _ hx, fun j hj => ?_, fun i j hi hj hij k hk => ?_⟩
  · show OB (gu + 1) _ (if j = x then _ else f j) (if j = x then U x ++ [c] else U j)
    by_cases e : j = x
    · subst e
      rw [if_pos rfl, if_pos rfl]
      exact OB.kept hob3 hset (OB.ne hob3 (Nat.lt_succ_self gu))
    · rw [if_neg e, if_neg e]
      exact OB.kept (OB.kept (hob j hj) hoth (fun k hk => hdis j x hj hx e k hk)) hset (OB.ne (hob j hj) (Nat.lt_succ_self gu))
  · unfold updV at hk ⊢
    by_cases e : i = x
    · subst e
      rw [if_pos rfl] at hk
      rw [if_neg (fun h => hij h.symm)]
      obtain rfl : g2 = k := Option.some.inj hk
      intro h
      rcases hat with ha | ha
      · exact hdis i j hi hj hij g2 ha h
      · have := (World.ownsRow.lt (hob j hj) g2 h).2; omega
    · rw [if_neg e] at hk
      by_cases e2 : j = x
      · subst e2
        rw [if_pos rfl]
        intro h
        obtain rfl : g2 = k := Option.some.inj h
        rcases hat with ha | ha
        · exact hdis i j hi hj hij g2 hk ha
        · have := (World.ownsRow.lt (hob i hi) g2 hk).2; omega
      · rw [if_neg e2]
        exact hdis i j hi hj hij k hk
/-- the users, while the first j needs of thing k are told -/
def upto (nd : Nat → List Nat) (k j t : Nat) : List Nat := users nd k t ++ List.replicate (((nd k).take j).count t) k
theorem users_succ (nd : Nat → List Nat) (k t : Nat) : users nd (k + 1) t = users nd k t ++ List.replicate ((nd k).count t) k := by
  unfold users; rw [List.range_succ, List.flatMap_append]; simp
theorem upto_zero (nd : Nat → List Nat) (k t : Nat) : upto nd k 0 t = users nd k t := by simp [upto]
theorem upto_all (nd : Nat → List Nat) (k j t : Nat) (h : (nd k).length ≤ j) : upto nd k j t = users nd (k + 1) t := by
  rw [users_succ, upto, List.take_of_length_le h]
theorem upto_step (nd : Nat → List Nat) (k j t : Nat) (h : j < (nd k).length) : upto nd k (j + 1) t = if t = (nd k)[j] then upto nd k j (nd k)[j] ++ [k] else upto nd k j t := by
  unfold upto
  rw [List.take_succ_eq_append_getElem h, List.count_append]
  by_cases e : t = (nd k)[j]
  · subst e
    rw [if_pos rfl, List.count_singleton_self, List.replicate_succ', List.append_assoc]
  · rw [if_neg e]
    have : List.count t [(nd k)[j]] = 0 := by
      rw [List.count_eq_zero]; simpa using e
    rw [this]; rfl
theorem users_len {nd : Nat → List Nat} (k t : Nat) (h : ∀ i, i < k → (nd i).length ≤ 100) : (users nd k t).length ≤ 100 * k := by
  induction k with
  | zero => simp [users]
  | succ k ih =>
    rw [users_succ, List.length_append, List.length_replicate]
    have h1 := ih fun i hi => h i (by omega)
    have h2 := h k (by omega)
    have h3 : (nd k).count t ≤ (nd k).length := List.count_le_length
    omega
theorem upto_len {nd : Nat → List Nat} (k j t : Nat) (h : ∀ i, i < k + 1 → (nd i).length ≤ 100) : (upto nd k j t).length ≤ 100 * k + 100 := by
  unfold upto
  rw [List.length_append, List.length_replicate]
  have h1 := users_len (nd := nd) k t fun i hi => h i (by omega)
  have h2 := h k (by omega)
  have h3 : ((nd k).take j).count t ≤ ((nd k).take j).length := List.count_le_length
  rw [List.length_take] at h3
  omega
set_option maxRecDepth 100000 in
set_option maxHeartbeats 16000000 in
theorem users_any {n w v N nd} (hf : Fm N nd) (h : GRd n w v N nd) (hn : n ≤ w.heap.size) :
    Calls Try.prog 24 #[v] w fun e w' => e = .returned (.slice (some ⟨w.heap.size, 0, none⟩) N N) ∧ UR w' w.heap.size N (users nd N) ∧ Below w.heap.size w w' := by
  obtain ⟨p, c, rfl, h2⟩ := h
  have H2 := Lib.hid h2
  have HFM := Lib.hid hf
  have hfew := hf.few
  have hmk := gmake_sl N (by omega)
  have HN := Lib.hid hn
  have HU := Lib.hid (show UR (w.alloc (.cells (madeCells #[.slice none 0 0] N) 24)) w.heap.size N (users nd 0) from
    ⟨fun _ => .slice none 0 0, VRow.made w 24 (.slice none 0 0) N, fun j _ => World.ownsRow_nil _ _ _ _, fun _ _ _ _ _ k hk => by cases hk⟩)
  have HB := Lib.hid ((Below.refl w.heap.size w).alloc (Nat.le_refl _) (.cells (madeCells #[.slice none 0 0] N) 24))
  clear h2 hf hn
  go_enter Try.func24, Try.ntmps24
  go_wp2
  go_loopw [13] (fun z wr => ∃ k : Nat, z = .int .i64 k ∧ k ≤ N ∧ Hid (UR wr w.heap.size N (users nd k)) ∧ Hid (Below w.heap.size w wr)) (fun z _ => N - (intOf z).toNat)
  case atStart => exact ⟨0, rfl, Nat.zero_le _, HU, HB⟩
  case round =>
    obtain ⟨k, rfl, hk, hu, hb⟩ := hrel
    by_cases hlt : k < N
    · have hlti : (k : Int) < (N : Int) := by omega
      obtain ⟨g, o, rfl, hg, hc⟩ := H2.out (by omega)
      obtain ⟨vi, hvi, hsr⟩ := hc k hlt
      have hvi2 : wr.cell? ⟨g, o + k, none⟩ = some vi := by rw [hb.out.cell (p := ⟨g, o + k, none⟩) (Nat.lt_of_lt_of_le hg HN.out)]; exact hvi
      obtain ⟨pi, ci, rfl, hi2⟩ := hsr
      have HI := Lib.hid hi2
      obtain ⟨m, hm⟩ : ∃ m, m = (nd k).length := ⟨_, rfl⟩
      have HM := Lib.hid hm
      have hm1 : m ≤ 100 := by rw [hm]; exact HFM.out.short k hlt
      rw [← hm] at hvi2
      have HU0 := Lib.hid (hu.out.congr (U' := upto nd k 0) fun t _ => (upto_zero nd k t).symm)
      clear hvi hc hi2 hm hu
      go_wp2
      go_loopw [20] (fun z wr => ∃ j : Nat, z = .int .i64 j ∧ j ≤ m ∧ Hid (UR wr w.heap.size N (upto nd k j)) ∧ Hid (Below w.heap.size w wr)) (fun z _ => m - (intOf z).toNat)
      case atStart => exact ⟨0, rfl, Nat.zero_le _, HU0, hb⟩
      case round =>
        obtain ⟨j, rfl, hj, hu, hb2⟩ := hrel
        clear HU0 hb
        by_cases hlt2 : j < m
        · have hjm : j < (nd k).length := by rw [← HM.out]; exact hlt2
          have hji : (j : Int) < (m : Int) := by omega
          obtain ⟨g3, o3, rfl, hg3, hc3⟩ := HI.out (by omega)
          have hcx0 := hc3 j hjm
          obtain ⟨x, hx⟩ : ∃ x, x = (nd k)[j] := ⟨_, rfl⟩
          have HX := Lib.hid hx
          rw [← hx] at hcx0
          have hxN : x < N := by rw [hx]; exact HFM.out.lt k hlt _ (List.getElem_mem hjm)
          have hxi : (x : Int) < (N : Int) := by omega
          have hcx := (hb2.out.cell (p := ⟨g3, o3 + j, none⟩) (Nat.lt_of_lt_of_le hg3 HN.out)).trans hcx0
          obtain ⟨f, hrow, hob, hdis⟩ := hu.out
          have hlen : (upto nd k j x).length ≤ 1000000 := by
            have := upto_len (nd := nd) k j x (fun i hi => HFM.out.short i (by omega)); omega
          have hcf := hrow.cell x hxN
          have hfz := hrow.free x
          have HOBX := Lib.hid (hob x hxN)
          have HC3 := Lib.hid (show ∀ w2, Oth (fun k => (f x).ownBlock = some k) wr w2 → w2.cell? ⟨w.heap.size, x, none⟩ = some (f x) ∧ w2.frozen? ⟨w.heap.size, x, none⟩ = false from fun w2 ho => by
            have hk2 := hrow.kept ho (fun e => (hob x hxN).ne (Nat.lt_succ_self _) _ e rfl)
            exact ⟨hk2.cell x hxN, hk2.free x⟩)
          have HLW := Lib.hid (show w.heap.size + 1 ≤ wr.heap.size from hrow.lt)
          have HST := Lib.hid (fun g2 cap2 w2 => UR.push (g2 := g2) (cap2 := cap2) (w2 := w2) (c := k) hrow hob hdis hxN)
          have HBB := Lib.hid (show ∀ w2 u, Oth (fun k => (f x).ownBlock = some k) wr w2 → Below w.heap.size w (w2.setCell ⟨w.heap.size, x, none⟩ u) from fun w2 u ho =>
            (hb2.out.trans (ho.below w.heap.size (Nat.le_of_lt hrow.lt) (fun k hk e => by have := (World.ownsRow.lt (hob x hxN) k e).1; omega))).setCell (p := ⟨w.heap.size, x, none⟩) (Nat.le_refl _) u)
          have HUS := Lib.hid (show ∀ t, upto nd k (j + 1) t = if t = x then upto nd k j x ++ [k] else upto nd k j t from fun t => by rw [HX.out]; exact upto_step nd k j t hjm)
          obtain ⟨fx, hfx⟩ : ∃ fx, fx = f x := ⟨_, rfl⟩
          obtain ⟨ux, hux⟩ : ∃ ux, ux = upto nd k j x := ⟨_, rfl⟩
          rw [← hfx] at hcf HOBX HC3 HST HBB
          rw [← hux] at hlen HOBX HST HUS
          clear hx hcx0 hc3 hu hrow hob hdis hfx hux
          go_wp2_with (at_builtin; refine append_ob rfl _ _ rfl rfl _ k rfl HOBX.out (by simp [Act.eval]) hlen HLW.out ?_; intro g2 cap2 w2 hob3 hoth hat hg2; obtain ⟨c3, y3⟩ := HC3.out w2 hoth; have HNU := Lib.hid (HST.out g2 cap2 w2 hob3 hoth hat); have HNB := Lib.hid (HBB.out w2 (.slice (some ⟨g2, 0, none⟩) (ux.length + 1) cap2) hoth); clear hob3 hoth hat hg2)
          go_roundw
          case rel => exact ⟨j + 1, by go_num, by omega, Lib.hid (HNU.out.congr fun t _ => (HUS.out t).symm), HNB⟩
          case measure => simp [intOf]; omega
        · have HU1 := Lib.hid (hu.out.congr (U' := users nd (k + 1)) fun t _ => upto_all nd k j t (by rw [← HM.out]; omega))
          clear hu
          have hji : ¬ (j : Int) < (m : Int) := by omega
          go_wp2
          go_roundw
          case rel => exact ⟨k + 1, by go_num, by omega, HU1, hb2⟩
          case measure => simp [intOf]; omega
    · obtain rfl : k = N := by omega
      go_wp2
      go_ret
      exact ⟨rfl, hu.out, hb.out⟩
end Go.Proofs.Ytdgdeognahmpmaa
