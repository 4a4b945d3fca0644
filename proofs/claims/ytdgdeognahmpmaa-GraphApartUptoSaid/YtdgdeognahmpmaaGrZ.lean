/-
  GraphBehind.
-/
import Derived.Test.YtdgdeognahmpmaaGrY
import Derived.BigQuiet
namespace Go.Proofs.Ytdgdeognahmpmaa
open Go.RowKit
open Gk (okN okN_iff nxt nxt_some nxt_none ord ord_none ord_some Dn nodup_le)
attribute [local go_sem] setCell_drewN cell?_ext frozen?_ext shape?_ext setCell_ext lt_1' ne_1' en_1' le_1' lt_2' ne_2' en_2' le_2' lt_3' ne_3' en_3' le_3' lt_4' ne_4' en_4' le_4' lt_5' ne_5' en_5' le_5' lt_6' ne_6' en_6' le_6' lt_7' ne_7' en_7' le_7' lt_8' ne_8' en_8' le_8' lt_9' ne_9' en_9' le_9' lt_10' ne_10' en_10' le_10' lt_11' ne_11' en_11' le_11' lt_12' ne_12' en_12' le_12'

theorem VRow.other {w : World} {g n : Nat} {f : Nat → Value} (h : VRow w g n f) (p : Addr) (v : Value) (hp : p.block ≠ g) : VRow (w.setCell p v) g n f :=
  ⟨by rw [World.size_setCell]; exact h.lt, fun j hj => by rw [World.cell?_setCell_other w _ _ _ (by intro e; rw [e] at hp; exact hp rfl)]; exact h.cell j hj, fun j => by rw [World.frozen?_setCell]; exact h.free j⟩
theorem idx_ne {O : List Nat} {i j : Nat} (hi : i < O.length) (h : j ≠ O[i]) : O.idxOf j ≠ i := fun e => by
  have h1 : O.idxOf j < O.length := by rw [e]; exact hi
  have h2 := List.getElem_idxOf h1
  simp only [e] at h2
  exact h h2.symm
/-- the places, as far as they are told -/
def atF (O : List Nat) (i : Nat) : Nat → Nat := fun j => if O.idxOf j < i then O.idxOf j else 0
def seenF (O : List Nat) (i : Nat) : Nat → Bool := fun j => decide (O.idxOf j < i)
theorem atF_step {O : List Nat} (hn : O.Nodup) {i : Nat} (hi : i < O.length) (j : Nat) : updV (lf (atF O i)) O[i] (.int .i64 (i : Int)) j = lf (atF O (i + 1)) j := by
  have h1 := hn.idxOf_getElem i hi
  unfold updV lf atF
  by_cases e : j = O[i]
  · rw [if_pos e, e, h1, if_pos (Nat.lt_succ_self i)]
  · have h2 := idx_ne hi e
    rw [if_neg e]
    by_cases h3 : O.idxOf j < i
    · rw [if_pos h3, if_pos (by omega)]
    · rw [if_neg h3, if_neg (by omega)]
theorem seenF_step {O : List Nat} (hn : O.Nodup) {i : Nat} (hi : i < O.length) (j : Nat) : updV (bf (seenF O i)) O[i] (.bool true) j = bf (seenF O (i + 1)) j := by
  have h1 := hn.idxOf_getElem i hi
  unfold updV bf seenF
  by_cases e : j = O[i]
  · rw [if_pos e, e, h1, decide_eq_true (Nat.lt_succ_self i)]
  · have h2 := idx_ne hi e
    rw [if_neg e]
    congr 1
    rw [decide_eq_decide]
    omega
theorem seenF_at {O : List Nat} (hn : O.Nodup) {i : Nat} (hi : i < O.length) : seenF O i O[i] = false := by
  unfold seenF
  rw [hn.idxOf_getElem i hi]
  exact decide_eq_false (Nat.lt_irrefl i)
/-- both rows, one round on -/
theorem rows_step {O : List Nat} (hn : O.Nodup) {w : World} {ga gs N i : Nat} (hi : i < O.length) (hN : O[i] < N) (hne : gs ≠ ga) (ha : VRow w ga N (lf (atF O i))) (hs : VRow w gs N (bf (seenF O i))) :
    VRow ((w.setCell ⟨gs, O[i], none⟩ (.bool true)).setCell ⟨ga, O[i], none⟩ (.int .i64 (i : Int))) ga N (lf (atF O (i + 1))) ∧ VRow ((w.setCell ⟨gs, O[i], none⟩ (.bool true)).setCell ⟨ga, O[i], none⟩ (.int .i64 (i : Int))) gs N (bf (seenF O (i + 1))) :=
  ⟨((ha.other ⟨gs, O[i], none⟩ _ hne).store O[i] _ hN).congr fun j _ => atF_step hn hi j, ((hs.store O[i] _ hN).congr fun j _ => seenF_step hn hi j).other ⟨ga, O[i], none⟩ _ (fun e => hne e.symm)⟩
/-- all that the law asks of an order that there is -/
structure BhF (nd : Nat → List Nat) (N : Nat) (O : List Nat) (LV : Nat → Nat) : Prop where
  nodup : O.Nodup
  lt : ∀ t ∈ O, t < N
  len : O.length = N
  mem : ∀ i, i < N → i ∈ O
  behind : ∀ i, i < N → ∀ x ∈ nd i, O.idxOf x < O.idxOf i
  above : ∀ i, i < N → ∀ x ∈ nd i, LV x < LV i
  less : ∀ i p, (h : p < O.length) → p < O.idxOf i → (∀ x ∈ nd i, O.idxOf x < p) → ¬ i < O[p]
theorem bhf_of {L : List (List Int)} (h : ordE L = 0) : BhF (ndOf L) L.length (ordL L) (lvT (ndOf L) (ordL L) fun _ => 0) := by
  have hz := (ordE_zero h).1
  have hl : ¬ (ord (ndOf L) L.length L.length []).length < L.length := fun hr => by
    unfold ordE at h
    rw [if_pos hz, if_pos hr] at h; cases h
  have hO : ordL L = ord (ndOf L) L.length L.length [] := by unfold ordL; rw [if_pos hz, if_neg hl]
  have hlen := ord_len L.length (Dn.nil (ndOf L) L.length)
  have hd := ord_dn L.length (Dn.nil (ndOf L) L.length)
  have hm := full_mem hd.nodup hd.lt hl
  have hb := ord_bh L.length (Dn.nil (ndOf L) L.length) (fun i hi => by cases hi)
  have hlt := (fm_of hz).lt
  rw [hO]
  refine ⟨hd.nodup, hd.lt, by omega, hm, fun i hi x hx => hb i (hm i hi) x hx, fun i hi x hx => ord_rises (hm i hi) hx, fun i p hp h1 h2 => ?_⟩
  rcases Nat.lt_or_ge i L.length with hi | hi
  · exact ord_less hp h1 fun x hx => ⟨hm x (hlt i hi x hx), h2 x hx⟩
  · intro h3
    have := hd.lt _ (List.getElem_mem hp)
    omega
set_option maxRecDepth 100000 in
set_option maxHeartbeats 32000000 in
theorem graphBehind_law {n w v} {L : List (List Int)} (h : NRd n w v L) (hn : n ≤ w.heap.size) :
    Calls Try.prog 5 #[v] w fun e w' => e = .returned (.bool true) ∧ Below w.heap.size w w' := by
  have HK := Lib.hid (gknown_any w)
  have HN := Lib.hid hn
  have HB := Lib.hid (show ∀ w1, Below w.heap.size w w1 → Calls Try.prog 10 #[v] w1 fun e w' => OrdQ L w1 e w' from fun w1 hb => gorder_any (h.keep (hb.mono hn)) (Nat.le_trans hn hb.size))
  have HC := Lib.hid (show ∀ w1, Below w.heap.size w w1 → Calls Try.prog 15 #[v] w1 fun e w' => LQ L w1 e w' from fun w1 hb => glevels_any (h.keep (hb.mono hn)) (Nat.le_trans hn hb.size))
  by_cases hz : ordE L = 0
  · obtain ⟨hcz, -⟩ := ordE_zero hz
    have hgr := h.grd hcz
    have HFM := Lib.hid (fm_of hcz)
    have HBF := Lib.hid (bhf_of hz)
    obtain ⟨nd, hnd⟩ : ∃ nd, nd = ndOf L := ⟨_, rfl⟩
    obtain ⟨N, hNN⟩ : ∃ N, N = L.length := ⟨_, rfl⟩
    obtain ⟨O, hO⟩ : ∃ O, O = ordL L := ⟨_, rfl⟩
    obtain ⟨LV, hLV⟩ : ∃ LV, LV = lvT nd O fun _ => 0 := ⟨_, rfl⟩
    have hL2 : leL L = (List.range N).map LV := by unfold leL; rw [if_pos hz, hLV, hnd, hO, hNN]
    rw [← hnd, ← hNN] at hgr HFM
    rw [← hnd, ← hNN, ← hO, ← hLV] at HBF
    have hfew := HFM.out.few
    have HLN := Lib.hid HBF.out.len
    have HO2 := Lib.hid (show ∀ w1, Below w.heap.size w w1 → Calls Try.prog 10 #[v] w1 fun e w' => ∃ q cq, e = .returned (.tuple #[.slice q N cq, .int .i64 0]) ∧ Below w1.heap.size w1 w' ∧ (0 < N → ∃ g o, q = some ⟨g, o, none⟩ ∧ g < w'.heap.size ∧ ∀ j (h : j < O.length), w'.cell? ⟨g, o + j, none⟩ = some (.int .i64 (O[j] : Int))) from fun w1 hb => (HB.out w1 hb).mono fun e w' ⟨v', a, b, c⟩ => by
      rw [← hO] at c
      obtain ⟨⟨q, cq, rfl, d⟩, -⟩ := c
      exact ⟨q, cq, by rw [a, hz, HLN.out], b, fun h0 => d (by rw [HLN.out]; exact h0)⟩)
    have HC2 := Lib.hid (show ∀ w1, Below w.heap.size w w1 → Calls Try.prog 15 #[v] w1 fun e w' => ∃ q cq, e = .returned (.tuple #[.slice q N cq, .int .i64 0]) ∧ Below w1.heap.size w1 w' ∧ (0 < N → ∃ g o, q = some ⟨g, o, none⟩ ∧ g < w'.heap.size ∧ ∀ j, j < N → w'.cell? ⟨g, o + j, none⟩ = some (.int .i64 (LV j : Int))) from fun w1 hb => (HC.out w1 hb).mono fun e w' ⟨v', a, b, c⟩ => by
      rw [hL2] at c
      obtain ⟨⟨q, cq, rfl, d⟩, -⟩ := c
      have e9 : ((List.range N).map LV).length = N := by rw [List.length_map, List.length_range]
      refine ⟨q, cq, by rw [a, hz, e9], b, fun h0 => by
        obtain ⟨g, o, h1, h2, h3⟩ := d (by rw [e9]; exact h0)
        exact ⟨g, o, h1, h2, fun j hj => by rw [h3 j (by simpa using hj)]; simp [iv]⟩⟩)
    obtain ⟨p, c, rfl, h2⟩ := hgr
    have H2 := Lib.hid h2
    have hmk1 := gmake_int N (by omega)
    have hmk2 := gmake_bool N (by omega)
    clear h hn hz hcz hnd hNN hO hLV hL2 h2 HB HC
    go_enter Try.func5, Try.ntmps5
    go_wp2_with (first
      | (go_at_call 8; ((with_reducible refine HK.out.mono ?_); rintro e w1 ⟨rfl, hb⟩; have HB1 := Lib.hid hb; clear hb))
      | (go_at_call 10; ((with_reducible refine (HO2.out _ HB1.out).mono ?_); rintro e w2 ⟨ql, cl, rfl, hb, hs⟩; have HB2 := Lib.hid (HB1.out.trans (hb.mono HB1.out.size)); have HS := Lib.hid hs; clear hb hs))
      | (go_at_call 15; ((with_reducible refine (HC2.out _ HB2.out).mono ?_); rintro e w3 ⟨qv, cv, rfl, hb, hs⟩; have HB3 := Lib.hid (HB2.out.trans (hb.mono HB2.out.size)); have HS3 := Lib.hid hb; have HSV := Lib.hid hs; clear hb hs)))
    have HA0 := Lib.hid (((VRow.made w3 3 (.int .i64 0) N).congr (f' := lf (atF O 0)) fun j _ => by simp [lf, atF, iv]).kept ((Oth.refl (fun _ => False) _).alloc (.cells (madeCells #[.bool false] N) 4)) id)
    have HS0 := Lib.hid ((VRow.made (w3.alloc (.cells (madeCells #[.int .i64 0] N) 3)) 4 (.bool false) N).congr (f' := bf (seenF O 0)) fun j _ => by simp [bf, seenF])
    have hsz : (w3.alloc (.cells (madeCells #[.int .i64 0] N) 3)).heap.size = w3.heap.size + 1 := by simp
    rw [hsz] at HS0
    clear hsz
    have HW0 := Lib.hid (((Below.refl w3.heap.size w3).alloc (Nat.le_refl _) (.cells (madeCells #[.int .i64 0] N) 3)).alloc (by simp) (.cells (madeCells #[.bool false] N) 4))
    have hw3 : w.heap.size ≤ w3.heap.size := HB3.out.size
    go_loopw [9] (fun z wr => ∃ (i : Nat), z = .int .i64 i ∧ i ≤ N ∧ Hid (VRow wr w3.heap.size N (lf (atF O i))) ∧ Hid (VRow wr (w3.heap.size + 1) N (bf (seenF O i))) ∧ Hid (Below w3.heap.size w3 wr)) (fun z _ => N - (intOf z).toNat)
    case atStart => exact ⟨0, rfl, Nat.zero_le _, HA0, HS0, HW0⟩
    case round =>
      clear HA0 HS0 HW0 hmk1 hmk2
      obtain ⟨i, rfl, hi, hra, hrs, hbel⟩ := hrel
      by_cases hlt : i < N
      · have hii : (i : Int) < (N : Int) := by omega
        have hiO : i < O.length := by rw [HLN.out]; exact hlt
        obtain ⟨gl, ol, rfl, hgl, hcl⟩ := HS.out (by omega)
        have hct := (hbel.out.cell (p := ⟨gl, ol + i, none⟩) (Nat.lt_of_lt_of_le hgl HS3.out.size)).trans ((HS3.out.cell (p := ⟨gl, ol + i, none⟩) hgl).trans (hcl i hiO))
        have htN := HBF.out.lt _ (List.getElem_mem hiO)
        have hsf := seenF_at HBF.out.nodup hiO
        have hst := rows_step HBF.out.nodup hiO htN (by omega) hra.out hrs.out
        have cs := hrs.out.cell _ htN
        have ca := hra.out.cell _ htN
        unfold bf at cs
        rw [hsf] at cs
        obtain ⟨t, ht⟩ : ∃ t, t = O[i] := ⟨_, rfl⟩
        rw [← ht] at hct htN hst cs ca
        have fs := hrs.out.free t
        have fa := hra.out.free t
        have hti : (t : Int) < (N : Int) := by omega
        have HST := Lib.hid hst
        have HBL := Lib.hid (show ∀ u v, Below w3.heap.size w3 ((wr.setCell ⟨w3.heap.size + 1, t, none⟩ u).setCell ⟨w3.heap.size, t, none⟩ v) from fun u v => (hbel.out.setCell (p := ⟨w3.heap.size + 1, t, none⟩) (Nat.le_succ _) u).setCell (p := ⟨w3.heap.size, t, none⟩) (Nat.le_refl _) v)
        unfold lf iv at ca
        clear hcl ht hsf hst hra hrs hbel hgl
        go_wp2
        go_region
        all_goals
          go_wp2
          go_roundw
          case rel => exact ⟨i + 1, by go_num, by omega, Lib.hid (HST.out.1.drew 1), Lib.hid (HST.out.2.drew 1), Lib.hid (bel_drew (HBL.out _ _) 1)⟩
          case measure => simp [intOf]; omega
      · obtain rfl : N = i := by omega
        have HA := Lib.hid (show VRow wr w3.heap.size N (lf (O.idxOf ·)) from hra.out.congr fun j hj => by
          unfold lf atF
          rw [if_pos (by rw [← HLN.out]; exact List.idxOf_lt_length_of_mem (HBF.out.mem j hj))])
        clear hra hrs
        go_wp2
        go_loopw [10] (fun z wr => ∃ (i : Nat), z = .int .i64 i ∧ i ≤ N ∧ Hid (VRow wr w3.heap.size N (lf (O.idxOf ·))) ∧ Hid (Below w3.heap.size w3 wr)) (fun z _ => N - (intOf z).toNat)
        case atStart => exact ⟨0, rfl, Nat.zero_le _, HA, hbel⟩
        case round =>
          clear HA hbel
          obtain ⟨i, rfl, hi, hra, hbel⟩ := hrel
          by_cases hlt : i < N
          · have hii : (i : Int) < (N : Int) := by omega
            obtain ⟨gl, ol, rfl, hgl, hcl⟩ := HS.out (by omega)
            obtain ⟨gv, ov, rfl, hgv, hcv⟩ := HSV.out (by omega)
            obtain ⟨g, o, rfl, hg, hc⟩ := H2.out (by omega)
            obtain ⟨vi, hvi, pi, ci, rfl, hi2⟩ := hc i hlt
            have HI := Lib.hid hi2
            obtain ⟨mn, hmn⟩ : ∃ mn, mn = (nd i).length := ⟨_, rfl⟩
            have HMN := Lib.hid hmn
            have hmn1 : mn ≤ 100 := by rw [hmn]; exact HFM.out.short i hlt
            rw [← hmn] at hvi
            have HVI := Lib.hid (show ∀ w4, Below w3.heap.size w3 w4 → w4.cell? ⟨g, o + i, none⟩ = some (.slice pi mn ci) from fun w4 hb => by rw [(HB3.out.trans (hb.mono hw3)).cell (p := ⟨g, o + i, none⟩) (Nat.lt_of_lt_of_le hg HN.out)]; exact hvi)
            have HCV := Lib.hid (show ∀ w4, Below w3.heap.size w3 w4 → ∀ j, j < N → w4.cell? ⟨gv, ov + j, none⟩ = some (.int .i64 (LV j : Int)) from fun w4 hb j hj => by rw [hb.cell (p := ⟨gv, ov + j, none⟩) hgv]; exact hcv j hj)
            have HCL := Lib.hid (show ∀ w4, Below w3.heap.size w3 w4 → ∀ j (h : j < O.length), w4.cell? ⟨gl, ol + j, none⟩ = some (.int .i64 (O[j] : Int)) from fun w4 hb j hj => by rw [hb.cell (p := ⟨gl, ol + j, none⟩) (Nat.lt_of_lt_of_le hgl HS3.out.size), HS3.out.cell (p := ⟨gl, ol + j, none⟩) hgl]; exact hcl j hj)
            have hain : O.idxOf i < N := by rw [← HLN.out]; exact List.idxOf_lt_length_of_mem (HBF.out.mem i hlt)
            obtain ⟨ai, hai⟩ : ∃ ai, ai = O.idxOf i := ⟨_, rfl⟩
            rw [← hai] at hain
            have HAI := Lib.hid hai
            clear hvi hc hi2 hmn hcl hcv hai hgl hgv
            have hvx := HVI.out wr hbel.out
            go_wp2
            go_loopw [11, 12] (fun z y wr => ∃ (m k : Nat), z = .int .i64 m ∧ y = .int .i64 k ∧ k ≤ mn ∧ m ≤ ai ∧ Hid (∀ x ∈ (nd i).take k, O.idxOf x < m) ∧ Hid (VRow wr w3.heap.size N (lf (O.idxOf ·))) ∧ Hid (Below w3.heap.size w3 wr)) (fun _ y _ => mn - (intOf y).toNat)
            case atStart => exact ⟨0, 0, rfl, rfl, Nat.zero_le _, Nat.zero_le _, Lib.hid (fun x hx => by rw [List.take_zero] at hx; cases hx), hra, hbel⟩
            case round =>
              clear hra hbel hvx
              obtain ⟨m, k, rfl, rfl, hk, hma, hall, hra, hbel⟩ := hrel
              have hvx := HVI.out wr hbel.out
              have cai : wr.cell? ⟨w3.heap.size, i, none⟩ = some (.int .i64 ((O.idxOf i : Nat) : Int)) := hra.out.cell i hlt
              rw [← HAI.out] at cai
              by_cases hlk : k < mn
              · have hkl : k < (nd i).length := by rw [← HMN.out]; exact hlk
                have hki : (k : Int) < (mn : Int) := by omega
                obtain ⟨g3, o3, rfl, hg3, hc3⟩ := HI.out (by omega)
                have hcx := ((HB3.out.trans (hbel.out.mono hw3)).cell (p := ⟨g3, o3 + k, none⟩) (Nat.lt_of_lt_of_le hg3 HN.out)).trans (hc3 k hkl)
                have hxm := List.getElem_mem hkl
                have htk := List.take_succ_eq_append_getElem hkl
                obtain ⟨x, hx⟩ : ∃ x, x = (nd i)[k] := ⟨_, rfl⟩
                rw [← hx] at hcx hxm htk
                have hxN := HFM.out.lt i hlt x hxm
                have hxi : (x : Int) < (N : Int) := by omega
                have hab := HBF.out.behind i hlt x hxm
                have hll := HBF.out.above i hlt x hxm
                rw [← HAI.out] at hab
                have cax : wr.cell? ⟨w3.heap.size, x, none⟩ = some (.int .i64 ((O.idxOf x : Nat) : Int)) := hra.out.cell x hxN
                have cvx := HCV.out wr hbel.out x hxN
                have cvi := HCV.out wr hbel.out i hlt
                unfold iv at hcx
                obtain ⟨ax, hax⟩ : ∃ ax, ax = O.idxOf x := ⟨_, rfl⟩
                obtain ⟨lx, hlx⟩ : ∃ lx, lx = LV x := ⟨_, rfl⟩
                obtain ⟨li, hli⟩ : ∃ li, li = LV i := ⟨_, rfl⟩
                rw [← hax] at hab cax
                rw [← hlx] at hll cvx
                rw [← hli] at hll cvi
                have HAX := Lib.hid hax
                have HTK := Lib.hid htk
                have hd1 : decide ((ai : Int) ≤ (ax : Int)) = false := decide_eq_false (by omega)
                have hd2 : decide ((li : Int) ≤ (lx : Int)) = false := decide_eq_false (by omega)
                have W1 : IntKind.i64.wrap ((ax : Int) + 1) = (ax : Int) + 1 := IntWalk.i64_in _ (by omega)
                clear hc3 hx hxm htk hax hlx hli
                by_cases hmx : (m : Int) < (ax : Int) + 1
                · have HALL := Lib.hid (show ∀ y ∈ (nd i).take (k + 1), O.idxOf y < ax + 1 from fun y hy => by
                    rw [HTK.out] at hy
                    rcases List.mem_append.1 hy with hy | hy
                    · have := hall.out y hy; omega
                    · rw [List.mem_singleton] at hy; subst hy; rw [← HAX.out]; omega)
                  clear hall
                  go_wp2
                  go_quiet (fail)
                  go_wp2
                  go_roundw
                  case rel => exact ⟨ax + 1, k + 1, by go_num, by go_num, by omega, by omega, HALL, Lib.hid (hra.out.drew _), Lib.hid (bel_drew hbel.out _)⟩
                  case measure => simp [intOf]; omega
                · have HALL := Lib.hid (show ∀ y ∈ (nd i).take (k + 1), O.idxOf y < m from fun y hy => by
                    rw [HTK.out] at hy
                    rcases List.mem_append.1 hy with hy | hy
                    · exact hall.out y hy
                    · rw [List.mem_singleton] at hy; subst hy; rw [← HAX.out]; omega)
                  clear hall
                  go_wp2
                  go_quiet (fail)
                  go_wp2
                  go_roundw
                  case rel => exact ⟨m, k + 1, by go_num, by go_num, by omega, by omega, HALL, Lib.hid (hra.out.drew _), Lib.hid (bel_drew hbel.out _)⟩
                  case measure => simp [intOf]; omega
              · have hki : ¬ (k : Int) < (mn : Int) := by omega
                have HALL := Lib.hid (show ∀ y ∈ nd i, O.idxOf y < m from fun y hy => hall.out y (by rw [List.take_of_length_le (by rw [← HMN.out]; omega)]; exact hy))
                clear hall
                go_wp2
                go_loopw [14] (fun z wr => ∃ (p : Nat), z = .int .i64 p ∧ m ≤ p ∧ p ≤ ai ∧ Hid (VRow wr w3.heap.size N (lf (O.idxOf ·))) ∧ Hid (Below w3.heap.size w3 wr)) (fun z _ => ai - (intOf z).toNat)
                case atStart => exact ⟨m, rfl, Nat.le_refl _, hma, hra, hbel⟩
                case round =>
                  clear hra hbel hvx cai
                  obtain ⟨p, rfl, hmp, hpa, hra, hbel⟩ := hrel
                  have cai : wr.cell? ⟨w3.heap.size, i, none⟩ = some (.int .i64 ((O.idxOf i : Nat) : Int)) := hra.out.cell i hlt
                  rw [← HAI.out] at cai
                  by_cases hlp : p < ai
                  · have hpi : (p : Int) < (ai : Int) := by omega
                    have hpO : p < O.length := by rw [HLN.out]; omega
                    have hpN : (p : Int) < (N : Int) := by omega
                    have ccl := HCL.out wr hbel.out p hpO
                    have hnl := HBF.out.less i p hpO (by rw [← HAI.out]; exact hlp) (fun x hx => Nat.lt_of_lt_of_le (HALL.out x hx) hmp)
                    obtain ⟨y, hy⟩ : ∃ y, y = O[p] := ⟨_, rfl⟩
                    rw [← hy] at ccl hnl
                    have hnli : ¬ (i : Int) < (y : Int) := by omega
                    clear hy
                    go_wp2
                    go_roundw
                    case rel => exact ⟨p + 1, by go_num, by omega, by omega, hra, hbel⟩
                    case measure => simp [intOf]; omega
                  · have hpi : ¬ (p : Int) < (ai : Int) := by omega
                    go_wp2
                    go_roundw
                    case rel => exact ⟨i + 1, by go_num, by omega, hra, hbel⟩
                    case measure => simp [intOf]; omega
          · obtain rfl : N = i := by omega
            go_wp2
            go_ret
            exact ⟨rfl, HB3.out.trans (hbel.out.mono hw3)⟩
  · have HL2 := Lib.hid (show ordL L = [] by
      unfold ordL
      split
      · rename_i h1
        split
        · rfl
        · rename_i h2
          exact absurd (by unfold ordE; rw [if_pos h1, if_neg h2]) hz
      · rfl)
    have HL3 := Lib.hid (show leL L = [] by unfold leL; rw [if_neg hz])
    obtain ⟨E, hE⟩ : ∃ E, E = ordE L := ⟨_, rfl⟩
    have HO2 := Lib.hid (show ∀ w1, Below w.heap.size w w1 → Calls Try.prog 10 #[v] w1 fun e w' => ∃ q cq, e = .returned (.tuple #[.slice q 0 cq, .int .i64 E]) ∧ Below w1.heap.size w1 w' from fun w1 hb => (HB.out w1 hb).mono fun e w' ⟨v', a, b, c⟩ => by
      rw [HL2.out] at c
      obtain ⟨⟨q, cq, rfl, d⟩, -⟩ := c
      exact ⟨q, cq, by rw [a, hE]; rfl, b⟩)
    have HC2 := Lib.hid (show ∀ w1, Below w.heap.size w w1 → Calls Try.prog 15 #[v] w1 fun e w' => ∃ q cq, e = .returned (.tuple #[.slice q 0 cq, .int .i64 E]) ∧ Below w1.heap.size w1 w' from fun w1 hb => (HC.out w1 hb).mono fun e w' ⟨v', a, b, c⟩ => by
      rw [HL3.out] at c
      obtain ⟨⟨q, cq, rfl, d⟩, -⟩ := c
      exact ⟨q, cq, by rw [a, hE]; rfl, b⟩)
    rw [← hE] at hz
    have b1 : (E != 0) = true := by rw [bne_iff_ne]; exact hz
    have b3 : (E == 0) = false := beq_eq_false_iff_ne.2 hz
    clear h hn hE HB HC HL2 HL3
    go_enter Try.func5, Try.ntmps5
    go_wp2_with (first
      | (go_at_call 8; ((with_reducible refine HK.out.mono ?_); rintro e w1 ⟨rfl, hb⟩; have HB1 := Lib.hid hb; clear hb))
      | (go_at_call 10; ((with_reducible refine (HO2.out _ HB1.out).mono ?_); rintro e w2 ⟨ql, cl, rfl, hb⟩; have HB2 := Lib.hid (HB1.out.trans (hb.mono HB1.out.size)); clear hb))
      | (go_at_call 15; ((with_reducible refine (HC2.out _ HB2.out).mono ?_); rintro e w3 ⟨qv, cv, rfl, hb⟩; have HB3 := Lib.hid (HB2.out.trans (hb.mono HB2.out.size)); clear hb)))
    go_ret
    exact ⟨by simp, HB3.out⟩
end Go.Proofs.Ytdgdeognahmpmaa
