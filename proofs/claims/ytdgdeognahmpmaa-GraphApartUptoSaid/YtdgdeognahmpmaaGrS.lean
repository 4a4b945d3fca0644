/-
  The order by the heap.
-/
import Derived.Test.YtdgdeognahmpmaaGrQ
namespace Go.Proofs.Ytdgdeognahmpmaa
open Go.RowKit
open Hp (at_)
open Gk (okN okN_iff nxt nxt_some nxt_none ord ord_none ord_some Dn nodup_le users users_count users_lt miss miss_snoc miss_count miss_zero Hs Hq)
attribute [local go_sem] setCell_drewN cell?_ext frozen?_ext shape?_ext setCell_ext lt_1' ne_1' en_1' le_1' lt_2' ne_2' en_2' le_2' lt_3' ne_3' en_3' le_3' lt_4' ne_4' en_4' le_4' lt_5' ne_5' en_5' le_5' lt_6' ne_6' en_6' le_6' lt_7' ne_7' en_7' le_7' lt_8' ne_8' en_8' le_8' lt_9' ne_9' en_9' le_9' lt_10' ne_10' en_10' le_10' lt_11' ne_11' en_11' le_11' lt_12' ne_12' en_12' le_12'

/-- what is ready among the first k -/
def Rd1 (nd : Nat → List Nat) (k : Nat) (H : List Nat) : Prop := H.Nodup ∧ ∀ i, i ∈ H ↔ i < k ∧ nd i = []
theorem Rd1.start (nd : Nat → List Nat) : Rd1 nd 0 [] := ⟨List.Pairwise.nil, fun i => ⟨fun h => (by cases h), fun h => absurd h.1 (Nat.not_lt_zero _)⟩⟩
theorem Rd1.no {nd : Nat → List Nat} {k : Nat} {H : List Nat} (h : Rd1 nd k H) (hk : nd k ≠ []) : Rd1 nd (k + 1) H := ⟨h.1, fun i => by
  rw [h.2 i]
  constructor
  · rintro ⟨a, b⟩; exact ⟨by omega, b⟩
  · rintro ⟨a, b⟩
    by_cases e : i = k
    · subst e; exact absurd b hk
    · exact ⟨by omega, b⟩⟩
theorem Rd1.yes {nd : Nat → List Nat} {k : Nat} {H H' : List Nat} (h : Rd1 nd k H) (hk : nd k = []) (hp : H'.Perm (H ++ [k])) : Rd1 nd (k + 1) H' := by
  have hn : k ∉ H := fun hx => by have := ((h.2 k).1 hx).1; omega
  refine ⟨hp.nodup_iff.2 ?_, fun i => ?_⟩
  · rw [List.nodup_append]
    exact ⟨h.1, List.pairwise_singleton _ _, fun a ha b hb => by rw [List.mem_singleton] at hb; subst hb; rintro rfl; exact hn ha⟩
  · rw [hp.mem_iff, List.mem_append, List.mem_singleton, h.2 i]
    constructor
    · rintro (⟨a, b⟩ | rfl)
      · exact ⟨by omega, b⟩
      · exact ⟨by omega, hk⟩
    · rintro ⟨a, b⟩
      by_cases e : i = k
      · exact .inr e
      · exact .inl ⟨by omega, b⟩
theorem Rd1.len {nd : Nat → List Nat} {k : Nat} {H : List Nat} (h : Rd1 nd k H) : H.length ≤ k := nodup_le h.1 fun i hi => ((h.2 i).1 hi).1
theorem Rd1.hq {nd : Nat → List Nat} {N : Nat} {H : List Nat} (h : Rd1 nd N H) : Hq nd N [] H := ⟨h.1, fun i => by
  rw [h.2 i, okN_iff]
  constructor
  · rintro ⟨a, b⟩; exact ⟨a, List.not_mem_nil, fun x hx => by rw [b] at hx; exact hx⟩
  · rintro ⟨a, _, c⟩; exact ⟨a, List.eq_nil_iff_forall_not_mem.2 fun x hx => List.not_mem_nil (c x hx)⟩⟩
theorem hq_len {nd : Nat → List Nat} {N : Nat} {D H : List Nat} (h : Hq nd N D H) : H.length ≤ N := nodup_le h.nodup fun i hi => ((h.mem i).1 hi).1
theorem hs_perm {nd : Nat → List Nat} {N t : Nat} {D p H H' : List Nat} (h : Hs nd N D t p H) (hp : H'.Perm H) : Hs nd N D t p H' := ⟨hp.nodup_iff.2 h.nodup, fun i => by rw [hp.mem_iff]; exact h.mem i⟩
theorem hs_len {nd : Nat → List Nat} {N t : Nat} {D p H : List Nat} (h : Hs nd N D t p H) (hp : ∀ i ∈ p, i < N) : H.length ≤ N := nodup_le h.nodup fun i hi => by
  rcases (h.mem i).1 hi with ⟨a, _⟩ | ⟨a, _⟩
  · exact a
  · exact hp i a
/-- how many needs are missing, while these users are told -/
def mz (nd : Nat → List Nat) (D p : List Nat) (i : Nat) : Nat := miss (nd i) D - p.count i
abbrev mv (nd : Nat → List Nat) (D p : List Nat) : Nat → Value := fun i => .int .i64 ((mz nd D p i : Nat) : Int)
abbrev f1 (nd : Nat → List Nat) (k : Nat) : Nat → Value := fun i => .int .i64 ((if i < k then (nd i).length else 0 : Nat) : Int)
theorem f1_step (nd : Nat → List Nat) (k i : Nat) : updV (f1 nd k) k (.int .i64 (((nd k).length : Nat) : Int)) i = f1 nd (k + 1) i := by
  unfold updV f1
  by_cases e : i = k
  · subst e; rw [if_pos rfl, if_pos (Nat.lt_succ_self i)]
  · rw [if_neg e]
    by_cases h : i < k
    · rw [if_pos h, if_pos (by omega)]
    · rw [if_neg h, if_neg (by omega)]
theorem f1_all (nd : Nat → List Nat) (N i : Nat) (hi : i < N) : f1 nd N i = mv nd [] [] i := by
  unfold f1 mv mz miss
  rw [if_pos hi]
  simp
theorem mv_step (nd : Nat → List Nat) (D p : List Nat) (u : Nat) (z : Int) (hz : z = ((mz nd D p u : Nat) : Int) - 1) (h1 : 1 ≤ mz nd D p u) (i : Nat) : updV (mv nd D p) u (.int .i64 z) i = mv nd D (p ++ [u]) i := by
  subst hz
  unfold updV
  by_cases e : i = u
  · subst e
    rw [if_pos rfl]
    unfold mv
    congr 1
    unfold mz at h1 ⊢
    rw [List.count_append, List.count_singleton_self]
    omega
  · rw [if_neg e]
    unfold mv mz
    rw [List.count_append, show List.count i [u] = 0 by rw [List.count_eq_zero]; simpa using e]
    rfl
theorem mv_done {nd : Nat → List Nat} {D : List Nat} {N t : Nat} (ht : t ∉ D) (i : Nat) (hi : i < N) : mv nd D (users nd N t) i = mv nd (D ++ [t]) [] i := by
  unfold mv mz
  rw [users_count, if_pos hi, ← miss_snoc (l := nd i) ht, List.count_nil]
  congr 2
  omega
/-- the user that is told now misses something yet -/
theorem told_lt {nd : Nat → List Nat} {D U : List Nat} {N t j : Nat} (hU : U = users nd N t) (ht : t ∉ D) (hj : j < U.length) : U[j] < N ∧ (U.take j).count U[j] < miss (nd U[j]) D := by
  have hm : U[j] ∈ users nd N t := hU ▸ List.getElem_mem hj
  have hlt := users_lt hm
  refine ⟨hlt, ?_⟩
  have h1 : U.count U[j] = (nd U[j]).count t := by
    have := users_count nd t U[j] N
    rw [if_pos hlt, ← hU] at this; exact this
  have h2 := miss_count (l := nd U[j]) ht
  have h3 : U.count U[j] = (U.take j).count U[j] + (U.drop j).count U[j] := by rw [← List.count_append, List.take_append_drop]
  have h4 : 0 < (U.drop j).count U[j] := List.count_pos_iff.2 (by rw [List.drop_eq_getElem_cons hj]; exact List.mem_cons_self)
  omega
/-- all that the call has in memory: the order so far, the heap, what is missing -/
structure SQ (N gm P : Nat) (w1 w : World) (z : Value) (O : List Nat) (f : Nat → Value) (H : List Nat) (g cap : Nat) : Prop where
  ob : OB (P + 1) w z O
  hc : HC w P g cap H
  hp : Hp.Heap H H.length
  row : VRow w gm N f
  bel : Below gm w1 w
  gp : gm < P
  gg : gm < g
  sep : ∀ k, z.ownBlock = some k → k ≠ g
section
variable {N gm P g cap : Nat} {w1 w w2 : World} {z : Value} {O H : List Nat} {f : Nat → Value}
theorem SQ.congr {f' : Nat → Value} (s : SQ N gm P w1 w z O f H g cap) (h : ∀ i, i < N → f i = f' i) : SQ N gm P w1 w z O f' H g cap := ⟨s.ob, s.hc, s.hp, s.row.congr h, s.bel, s.gp, s.gg, s.sep⟩
theorem SQ.heaped {g' cap' : Nat} {m : List Nat} (s : SQ N gm P w1 w z O f H g cap) (hc2 : HC w2 P g' cap' m) (hh2 : Hp.Heap m m.length) (hg : g' = g ∨ w.heap.size ≤ g') (ho : Oth (fun k => k = P ∨ k = g) w w2) : SQ N gm P w1 w2 z O f m g' cap' := by
  have h1 := s.gp; have h2 := s.gg; have h3 := s.row.lt
  refine ⟨s.ob.kept ho fun k hk e => ?_, hc2, hh2, s.row.kept ho (fun e => by omega), s.bel.trans (ho.below gm (Nat.le_of_lt h3) (fun k hk e => by omega)), h1, by omega, fun k hk e => ?_⟩
  · rcases e with e | e
    · exact s.ob.ne (Nat.lt_succ_self P) k hk e
    · exact s.sep k hk e
  · rcases hg with e2 | e2
    · exact s.sep k hk (e.trans e2)
    · have := (World.ownsRow.lt s.ob k hk).2; omega
theorem SQ.appended {g2 c2 n2 : Nat} {O' : List Nat} (s : SQ N gm P w1 w z O f H g cap) (hob : OB (P + 1) w2 (.slice (some ⟨g2, 0, none⟩) n2 c2) O') (ho : Oth (fun k => z.ownBlock = some k) w w2) (hat : z.ownBlock = some g2 ∨ w.heap.size ≤ g2) : SQ N gm P w1 w2 (.slice (some ⟨g2, 0, none⟩) n2 c2) O' f H g cap := by
  have h1 := s.gp; have h2 := s.gg; have h3 := s.row.lt
  refine ⟨hob, s.hc.kept ho (fun e => s.ob.ne (Nat.lt_succ_self P) P e rfl) (fun e => s.sep g e rfl), s.hp, s.row.kept ho (fun e => s.ob.ne (Nat.lt_succ_of_lt h1) gm e rfl), s.bel.trans (ho.below gm (Nat.le_of_lt h3) (fun k hk e => by have := (World.ownsRow.lt s.ob k e).1; omega)), h1, h2, fun k hk e => ?_⟩
  obtain rfl : g2 = k := Option.some.inj hk
  rcases hat with ha | ha
  · exact s.sep g2 ha e
  · have := s.hc.glt; omega
theorem SQ.stored (s : SQ N gm P w1 w z O f H g cap) (u : Nat) (hu : u < N) (v : Value) : SQ N gm P w1 (w.setCell ⟨gm, u, none⟩ v) z O (updV f u v) H g cap := by
  have h1 := s.gp; have h2 := s.gg; have h3 := s.row.lt
  have ho : Oth (· = gm) w (w.setCell ⟨gm, u, none⟩ v) := (Oth.refl (· = gm) w).set ⟨gm, u, none⟩ rfl v
  exact ⟨s.ob.kept ho (s.ob.ne (Nat.lt_succ_of_lt h1)), s.hc.kept ho (fun e => by omega) (fun e => by omega), s.hp, s.row.store u v hu, s.bel.setCell (p := ⟨gm, u, none⟩) (Nat.le_refl _) v, h1, h2, s.sep⟩
theorem SQ.drew (s : SQ N gm P w1 w z O f H g cap) (d : Nat) : SQ N gm P w1 (w.drewN d) z O f H g cap := ⟨s.ob, s.hc.drew d, s.hp, s.row.drew d, bel_drew s.bel d, s.gp, s.gg, s.sep⟩
end
theorem SQ.start (nd : Nat → List Nat) (N : Nat) (w1 : World) : SQ N w1.heap.size (w1.heap.size + 1 + 1) w1 (((w1.alloc (.cells (madeCells #[.int .i64 0] N) 3)).alloc (.cells #[] 3)).alloc (.cells #[.slice (some ⟨w1.heap.size + 1, 0, none⟩) 0 0] 41)) (.slice none 0 0) [] (f1 nd 0) [] (w1.heap.size + 1) 0 := by
  have hb1 := one_blk ((w1.alloc (.cells (madeCells #[.int .i64 0] N) 3)).alloc (.cells #[] 3)) (.cells #[.slice (some ⟨w1.heap.size + 1, 0, none⟩) 0 0] 41)
  have hb2 := one_blk (w1.alloc (.cells (madeCells #[.int .i64 0] N) 3)) (.cells #[] 3)
  simp only [World.size_alloc] at hb1 hb2
  refine ⟨World.ownsRow_nil _ _ _ _, ⟨by omega, by simp only [World.size_alloc]; omega, by simp only [World.size_alloc]; omega, ?_, ?_, Nat.zero_le _, #[], ?_, Nat.le_refl _, Nat.zero_le _, rfl, rfl⟩, fun k h0 hk => absurd hk (Nat.not_lt_zero _), ?_, ?_, by omega, by omega, fun k hk => by cases hk⟩
  · rw [cell_of_row _ _ 0 _ _ _ hb1]; rfl
  · unfold World.frozen?
    simp only
    rw [hb1]
    simp
  · rw [heap_alloc_old _ _ (by simp only [World.size_alloc]; omega)]; exact hb2
  · exact ((VRow.made w1 3 (.int .i64 0) N).kept (S := fun _ => False) (((Oth.refl _ _).alloc _).alloc _) (fun h => h)).congr fun j _ => by simp [f1]
  · exact (((Below.refl w1.heap.size w1).alloc (Nat.le_refl _) _).alloc (by simp only [World.size_alloc]; omega) _).alloc (by simp only [World.size_alloc]; omega) _
/-- how the order by the heap ends -/
def SeqP (R : List Nat) (w : World) (e : Ending) (w' : World) : Prop := ∃ v', e = .returned v' ∧ Below w.heap.size w w' ∧ SRd w'.heap.size w' v' R ∧ Fr w.heap.size w' v'
set_option maxRecDepth 100000 in
set_option maxHeartbeats 16000000 in
theorem seq_any {n w v N nd} (hf : Fm N nd) (h : GRd n w v N nd) (hn : n ≤ w.heap.size) :
    Calls Try.prog 20 #[v] w fun e w' => SeqP (ord nd N N []) w e w' := by
  have HUS := Lib.hid (users_any hf h hn)
  obtain ⟨p, c, rfl, h2⟩ := h
  have H2 := Lib.hid h2
  have HFM := Lib.hid hf
  have hfew := hf.few
  have hmk := gmake_int N (by omega)
  have HN := Lib.hid hn
  obtain ⟨R, hR⟩ : ∃ R, R = ord nd N N [] := ⟨_, rfl⟩
  have HR := Lib.hid hR
  rw [← hR]
  clear h2 hf hn hR
  go_enter Try.func20, Try.ntmps20
  go_wp2_with (go_at_call 24; ((with_reducible refine HUS.out.mono ?_); rintro e w1 ⟨rfl, hu, hb⟩; have HU := Lib.hid hu; have HB := Lib.hid hb; clear hu hb))
  have HS := Lib.hid (SQ.start nd N w1)
  have hw1 : w.heap.size < w1.heap.size := by obtain ⟨f, hrow, _⟩ := HU.out; exact hrow.lt
  go_loopw [21] (fun z wr => ∃ (k : Nat) (H : List Nat) (g cap : Nat), z = .int .i64 k ∧ k ≤ N ∧ Hid (Rd1 nd k H) ∧ Hid (SQ N w1.heap.size (w1.heap.size + 1 + 1) w1 wr (.slice none 0 0) [] (f1 nd k) H g cap)) (fun z _ => N - (intOf z).toNat)
  case atStart => exact ⟨0, [], _, _, rfl, Nat.zero_le _, Lib.hid (Rd1.start nd), HS⟩
  case round =>
    clear HS
    obtain ⟨k, H, g, cap, rfl, hk, hrd, hsq⟩ := hrel
    have HBW := Lib.hid (show Below w.heap.size w wr from HB.out.trans (hsq.out.bel.mono (Nat.le_of_lt hw1)))
    by_cases hlt : k < N
    · have hlti : (k : Int) < (N : Int) := by omega
      obtain ⟨g3, o, rfl, hg3, hc⟩ := H2.out (by omega)
      obtain ⟨vi, hvi, hsr⟩ := hc k hlt
      have hvi2 : wr.cell? ⟨g3, o + k, none⟩ = some vi := by rw [HBW.out.cell (p := ⟨g3, o + k, none⟩) (Nat.lt_of_lt_of_le hg3 HN.out)]; exact hvi
      obtain ⟨pi, ci, rfl, hi2⟩ := hsr
      obtain ⟨m, hm⟩ : ∃ m, m = (nd k).length := ⟨_, rfl⟩
      have HM := Lib.hid hm
      rw [← hm] at hvi2
      have hcm := hsq.out.row.cell k hlt
      have hfm := hsq.out.row.free k
      have HST := Lib.hid ((hsq.out.stored k hlt (.int .i64 (((nd k).length : Nat) : Int))).congr fun i _ => f1_step nd k i)
      rw [← hm] at HST
      clear hvi hc hi2 hm
      unfold f1 at hcm
      by_cases h0 : m = 0
      · have hnil : nd k = [] := List.eq_nil_of_length_eq_zero (by rw [← HM.out]; exact h0)
        have HRD := Lib.hid (fun H' hp => hrd.out.yes (H' := H') hnil hp)
        have hlen := hrd.out.len
        subst h0
        rw [show ((0 : Nat) : Int) = 0 from rfl] at HST
        have HPU := Lib.hid (hpush_any HST.out.hc HST.out.hp k (by omega))
        clear hnil hlen hrd hsq
        go_wp2_with (go_at_call 25; ((with_reducible refine HPU.out.mono ?_); rintro e w2 ⟨rfl, g', cap', l', hp, hh, hcc, hgg, ho⟩; have HN2 := Lib.hid (HST.out.heaped hcc hh hgg ho); have HRD2 := Lib.hid (HRD.out l' hp); clear hp hh hcc hgg ho))
        go_roundw
        case rel => exact ⟨k + 1, _, _, _, by go_num, by omega, HRD2, HN2⟩
        case measure => simp [intOf]; omega
      · have hnn : nd k ≠ [] := fun e => h0 (by rw [HM.out, e]; rfl)
        have HRD := Lib.hid (hrd.out.no hnn)
        have h0i : ¬ (m : Int) = 0 := by omega
        clear hnn hrd hsq
        go_wp2
        go_roundw
        case rel => exact ⟨k + 1, _, _, _, by go_num, by omega, HRD, HST⟩
        case measure => simp [intOf]; omega
    · obtain rfl : k = N := by omega
      have HQ0 := Lib.hid hrd.out.hq
      have HS0 := Lib.hid (hsq.out.congr fun i hi => f1_all nd k i hi)
      clear hrd hsq
      go_wp2
      go_loopw [8] (fun z wr => ∃ (D : List Nat) (m : Nat) (q : Option Addr) (cc : Nat) (H : List Nat) (g cap : Nat), z = .slice q m cc ∧ m ≤ k ∧ Hid (m = D.length) ∧ Hid (Dn nd k D) ∧ Hid (ord nd k (k - D.length) D = R) ∧ Hid (Hq nd k D H) ∧ Hid (SQ k w1.heap.size (w1.heap.size + 1 + 1) w1 wr z D (mv nd D []) H g cap)) (fun z _ => k - slen z)
      case atStart => exact ⟨[], 0, none, 0, H, _, _, rfl, Nat.zero_le _, Lib.hid rfl, Lib.hid (Dn.nil nd k), Lib.hid HR.out.symm, HQ0, HS0⟩
      case round =>
        clear HS0 HQ0 HBW
        obtain ⟨D, m, q, cc, H, g, cap, rfl, hmk2, hm, hdn, hord, hhq, hsq⟩ := hrel
        have c0 := hsq.out.hc.hd
        obtain ⟨hl, hhl⟩ : ∃ hl, hl = H.length := ⟨_, rfl⟩
        have HHL := Lib.hid hhl
        rw [← hhl] at c0
        clear hhl
        by_cases h0 : hl = 0
        · have hnil : H = [] := List.eq_nil_of_length_eq_zero (by rw [← HHL.out]; exact h0)
          have HE := Lib.hid (show R = D by rw [← hord.out]; exact ord_none (Hq.none (by rw [← hnil]; exact hhq.out)))
          have HBF := Lib.hid (show Below w.heap.size w wr from HB.out.trans (hsq.out.bel.mono (Nat.le_of_lt hw1)))
          subst h0
          go_wp2_with (go_at_call 26; ((with_reducible refine (rlen_any _ _ _ _).mono ?_); rintro e w' ⟨rfl, rfl⟩))
          go_ret
          exact (show ∃ v', _ from ⟨_, rfl, HBF.out, by rw [HE.out]; exact ⟨hsq.out.ob.srd, hsq.out.ob.fr.more (by omega)⟩⟩)
        · have hpos : 0 < hl := by omega
          have hposi : (0 : Int) < (hl : Int) := by omega
          have hpH : 0 < H.length := by rw [← HHL.out]; exact hpos
          obtain ⟨t, ht⟩ : ∃ t, t = at_ H 0 := ⟨_, rfl⟩
          have htm : t ∈ H := by rw [ht, Hp.at_of hpH]; exact List.getElem_mem hpH
          have hleast : ∀ x ∈ H, t ≤ x := fun x hx => by
            obtain ⟨j, hj, rfl⟩ := List.getElem_of_mem hx
            have := hsq.out.hp.least j hj
            rw [Hp.at_of hj] at this; rw [ht]; exact this
          obtain ⟨hok, htN, -⟩ := nxt_some.1 (hhq.out.least htm hleast)
          have hDn := hdn.out.snoc hok htN
          have hle := nodup_le hDn.nodup hDn.lt
          rw [List.length_append] at hle
          simp only [List.length_cons, List.length_nil] at hle
          have HO2 := Lib.hid (show ord nd k (k - (D ++ [t]).length) (D ++ [t]) = R by
            rw [← hord.out, List.length_append]
            simp only [List.length_cons, List.length_nil]
            rw [show k - D.length = (k - (D.length + (0 + 1))) + 1 by omega, ord_some (hhq.out.least htm hleast)])
          have HOK := Lib.hid hok
          have HTD := Lib.hid (okN_iff.1 hok).1
          have HD1 := Lib.hid hdn.out
          have HD2 := Lib.hid hDn
          have hti : (t : Int) < (k : Int) := by omega
          have hm1 : m + 1 ≤ k := by have := hm.out; omega
          have hpop := hpop_any hsq.out.hc hsq.out.hp hpH
          rw [← ht] at hpop
          have HPOP := Lib.hid hpop
          have HST := Lib.hid (fun m' (hp : (t :: m').Perm H) => hhq.out.start hp.symm)
          have hta := unbox_int (t : Int)
          have hlen : D.length ≤ 1000000 := by rw [← hm.out]; omega
          obtain ⟨f, hrow, hobs, -⟩ := HU.out
          obtain ⟨qf, cf, hqf⟩ := OB.form (hobs t htN)
          obtain ⟨U, hU⟩ : ∃ U, U = users nd k t := ⟨_, rfl⟩
          have hsU : SRd w1.heap.size w1 (.slice qf U.length cf) U := by
            have := OB.srd (hobs t htN)
            rw [hqf, ← hU] at this; exact this
          obtain ⟨mu, hmu⟩ : ∃ mu, mu = U.length := ⟨_, rfl⟩
          have hcu := hrow.cell t htN
          rw [hqf, ← hU, ← hmu] at hcu
          have HSU := Lib.hid (show 0 < U.length → ∃ g o, qf = some ⟨g, o, none⟩ ∧ g < w1.heap.size ∧ ∀ j (h : j < U.length), w1.cell? ⟨g, o + j, none⟩ = some (iv U[j]) from by
            obtain ⟨pi, ci, e, hi⟩ := hsU
            injection e with e1 e2 e3
            rw [e1]; exact hi)
          have HCU := Lib.hid (show ∀ w3, Below w1.heap.size w1 w3 → w3.cell? ⟨w.heap.size, t, none⟩ = some (.slice qf mu cf) from fun w3 hb3 => by rw [hb3.cell (p := ⟨w.heap.size, t, none⟩) hw1]; exact hcu)
          have HUU := Lib.hid hU
          have HMU := Lib.hid hmu
          have hmu1 : mu ≤ 10000 := by
            have := users_len (nd := nd) k t (fun i hi => HFM.out.short i hi)
            rw [hmu, hU]; omega
          clear hhq hord hdn hok hDn hle ht htm hleast hpop hU hmu hsU hcu hrow hobs hqf hpH
          go_wp2_with (first
            | (go_at_call 26; ((with_reducible refine (rlen_any _ _ _ _).mono ?_); rintro e w' ⟨rfl, rfl⟩))
            | (go_at_call 27; ((with_reducible refine HPOP.out.mono ?_); rintro e w2 ⟨rfl, m2, hp2, hh2, hc2, ho2⟩; have HSQ2 := Lib.hid (hsq.out.heaped hc2 hh2 (.inl rfl) ho2); have HHS := Lib.hid (HST.out m2 hp2); have HLW := Lib.hid (show w1.heap.size + 1 + 1 + 1 ≤ w2.heap.size from HSQ2.out.hc.plt); clear hp2 hh2 hc2 ho2))
            | (at_builtin; refine append_ob rfl _ _ rfl rfl _ t rfl HSQ2.out.ob (by simp [Act.eval]) hlen HLW.out ?_; intro g3 cap3 w3 hob3 hoth hat hg3; have HSQ3 := Lib.hid (HSQ2.out.appended hob3 hoth hat); have hcu := HCU.out w3 HSQ3.out.bel; clear hob3 hoth hat hg3))
          go_loopw [58] (fun z wr3 => ∃ (j : Nat) (H : List Nat) (g cap : Nat), z = .int .i64 j ∧ j ≤ mu ∧ Hid (SQ k w1.heap.size (w1.heap.size + 1 + 1) w1 wr3 (.slice (some ⟨g3, 0, none⟩) (D.length + 1) cap3) (D ++ [t]) (mv nd D (U.take j)) H g cap) ∧ Hid (Hs nd k D t (U.take j) H)) (fun z _ => mu - (intOf z).toNat)
          case atStart => exact ⟨0, m2, _, _, rfl, Nat.zero_le _, Lib.hid (by rw [List.take_zero]; exact HSQ3.out), Lib.hid (by rw [List.take_zero]; exact HHS.out)⟩
          case round =>
            clear HSQ2 HSQ3 HHS hcu HST HPOP hta HLW hsq
            obtain ⟨j, H3, g4, cap4, rfl, hj, hsq3, hhs⟩ := hrel
            by_cases hltj : j < mu
            · have hjU : j < U.length := by rw [← HMU.out]; exact hltj
              have hji : (j : Int) < (mu : Int) := by omega
              obtain ⟨g5, o5, rfl, hg5, hc5⟩ := HSU.out (by omega)
              have hcx := (hsq3.out.bel.cell (p := ⟨g5, o5 + j, none⟩) hg5).trans (hc5 j hjU)
              obtain ⟨hxk, hxm⟩ := told_lt HUU.out HTD.out hjU
              have htk := List.take_succ_eq_append_getElem hjU
              obtain ⟨x, hx⟩ : ∃ x, x = U[j] := ⟨_, rfl⟩
              rw [← hx] at hcx hxk hxm htk
              have hcm := hsq3.out.row.cell x hxk
              have hfm := hsq3.out.row.free x
              have hmz : mz nd D (U.take j) x = miss (nd x) D - (U.take j).count x := rfl
              have hmle : miss (nd x) D ≤ (nd x).length := List.countP_le_length
              have hsx := HFM.out.short x hxk
              obtain ⟨K, hK⟩ : ∃ K, mz nd D (U.take j) x = K + 1 := ⟨mz nd D (U.take j) x - 1, by omega⟩
              have HST3 := Lib.hid ((hsq3.out.stored x hxk (.int .i64 (K : Int))).congr fun i _ => mv_step nd D (U.take j) x (K : Int) (by rw [hK]; omega) (by omega) i)
              have htell := hhs.out.tell hxm
              have hlen3 := hs_len hhs.out (fun i hi => by
                have h9 := List.mem_of_mem_take hi
                rw [HUU.out] at h9; exact users_lt h9)
              unfold mv at hcm
              rw [hK] at hcm
              have hK1 : K ≤ 100 := by omega
              have hxi : (x : Int) < (k : Int) := by omega
              have c2 : (wr.setCell ⟨w1.heap.size, x, none⟩ (.int .i64 (K : Int))).cell? ⟨w1.heap.size, x, none⟩ = some (.int .i64 (K : Int)) := World.cell?_setCell_same wr _ _ hcm
              have W1 : IntKind.i64.wrap (((K + 1 : Nat) : Int) - 1) = (K : Int) := by rw [IntWalk.i64_in _ (by omega)]; omega
              have W2 : IntKind.i64.wrap ((K : Int) + 1 - 1) = (K : Int) := by rw [IntWalk.i64_in _ (by omega)]; omega
              have W3 : (K : Int) + 1 - 1 = (K : Int) := by omega
              have W4 : IntKind.i64.wrap (K : Int) = (K : Int) := IntWalk.i64_in _ (by omega)
              unfold iv at hcx
              have HTK := Lib.hid htk
              by_cases h0K : K = 0
              · subst h0K
                have HTE := Lib.hid (htell.2 (by omega))
                have HPU := Lib.hid (hpush_any HST3.out.hc HST3.out.hp x (by omega))
                rw [show ((0 : Nat) : Int) = 0 from rfl] at HST3 c2
                rw [show ((0 : Nat) : Int) = 0 from rfl] at HPU
                clear htell hhs hsq3 hK hmz hmle hsx hxm hx hc5 htk hlen3
                go_wp2_with (go_at_call 25; ((with_reducible refine HPU.out.mono ?_); rintro e w4 ⟨rfl, g', cap', l', hp, hh, hcc, hgg, ho⟩; have HN2 := Lib.hid (HST3.out.heaped hcc hh hgg ho); have HH2 := Lib.hid (hs_perm HTE.out hp); clear hp hh hcc hgg ho))
                go_roundw
                case rel => exact ⟨j + 1, _, _, _, by go_num, by omega, Lib.hid (by rw [HTK.out]; exact HN2.out), Lib.hid (by rw [HTK.out]; exact HH2.out)⟩
                case measure => simp [intOf]; omega
              · have HTE := Lib.hid (htell.1 (by omega))
                have h0Ki : ¬ (K : Int) = 0 := by omega
                clear htell hhs hsq3 hK hmz hmle hsx hxm hx hc5 htk hlen3
                go_wp2
                go_roundw
                case rel => exact ⟨j + 1, _, _, _, by go_num, by omega, Lib.hid (by rw [HTK.out]; exact HST3.out), Lib.hid (by rw [HTK.out]; exact HTE.out)⟩
                case measure => simp [intOf]; omega
            · have htU : U.take j = U := List.take_of_length_le (by rw [← HMU.out]; omega)
              rw [htU] at hsq3 hhs
              have HQ9 := Lib.hid (show Hq nd k (D ++ [t]) H3 from by
                have := hhs.out
                rw [HUU.out] at this
                exact this.done HD1.out HOK.out htN)
              have HS9 := Lib.hid (hsq3.out.congr (f' := mv nd (D ++ [t]) []) fun i hi => by rw [HUU.out]; exact mv_done HTD.out i hi)
              have hji : ¬ (j : Int) < (mu : Int) := by omega
              clear hsq3 hhs htU
              go_wp2
              go_roundw
              case rel => exact ⟨D ++ [t], D.length + 1, some ⟨g3, 0, none⟩, cap3, H3, g4, cap4, rfl, by rw [← hm.out]; exact hm1, Lib.hid (by rw [List.length_append]; rfl), HD2, HO2, HQ9, HS9⟩
              case measure => simp only [slen]; have := hm.out; omega
end Go.Proofs.Ytdgdeognahmpmaa
