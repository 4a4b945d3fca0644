/-
  What a thing reaches: plain facts; the program's reach.
-/
import Derived.Test.YtdgdeognahmpmaaGrL
namespace Go.Proofs.Ytdgdeognahmpmaa
open Go.RowKit
attribute [local go_sem] setCell_drewN cell?_ext frozen?_ext shape?_ext setCell_ext lt_1' ne_1' en_1' le_1' lt_2' ne_2' en_2' le_2' lt_3' ne_3' en_3' le_3' lt_4' ne_4' en_4' le_4' lt_5' ne_5' en_5' le_5' lt_6' ne_6' en_6' le_6' lt_7' ne_7' en_7' le_7' lt_8' ne_8' en_8' le_8' lt_9' ne_9' en_9' le_9' lt_10' ne_10' en_10' le_10' lt_11' ne_11' en_11' le_11' lt_12' ne_12' en_12' le_12'

inductive Rch (nd : Nat → List Nat) (s : Nat) : Nat → Prop
  | refl : Rch nd s s
  | step {a b : Nat} : Rch nd s a → b ∈ nd a → Rch nd s b
def setT (T : Nat → Bool) (x : Nat) : Nat → Bool := fun i => decide (i = x) || T i
theorem setT_mono {T : Nat → Bool} {x i : Nat} (h : T i = true) : setT T x i = true := by unfold setT; rw [h, Bool.or_true]
theorem setT_self (T : Nat → Bool) (x : Nat) : setT T x x = true := by simp [setT]
theorem setT_ne {T : Nat → Bool} {x i : Nat} (h : i ≠ x) : setT T x i = T i := by simp [setT, h]
def un (T : Nat → Bool) : Nat → Nat
  | 0 => 0
  | N + 1 => un T N + (if T N = true then 0 else 1)
theorem un_same {T T' : Nat → Bool} : ∀ {N : Nat}, (∀ i, i < N → T i = T' i) → un T N = un T' N
  | 0, _ => rfl
  | N + 1, h => by unfold un; rw [un_same fun i hi => h i (by omega), h N (by omega)]
theorem un_le (T : Nat → Bool) : ∀ N, un T N ≤ N
  | 0 => Nat.le_refl _
  | N + 1 => by
    unfold un
    have := un_le T N
    split <;> omega
theorem un_set {T : Nat → Bool} {x : Nat} : ∀ {N : Nat}, x < N → T x = false → un (setT T x) N + 1 = un T N
  | 0, h, _ => absurd h (Nat.not_lt_zero _)
  | N + 1, h, hx => by
    unfold un
    by_cases e : x = N
    · subst e
      rw [un_same (T := setT T x) (T' := T) fun i hi => setT_ne (by omega), setT_self, hx]
      simp
    · rw [setT_ne (T := T) (x := x) (i := N) (by omega), ← un_set (T := T) (x := x) (N := N) (by omega) hx]
      omega
/-- sound so far -/
structure RS (nd : Nat → List Nat) (N s : Nat) (T : Nat → Bool) : Prop where
  sd : ∀ i, i < N → T i = true → Rch nd s i
  st : T s = true
theorem RS.start (nd : Nat → List Nat) (N s : Nat) : RS nd N s (setT (fun _ => false) s) := ⟨fun i _ h => (by
  by_cases e : i = s
  · subst e; exact .refl
  · rw [setT_ne e] at h; cases h), setT_self _ _⟩
theorem RS.set {nd : Nat → List Nat} {N s i x : Nat} {T : Nat → Bool} (h : RS nd N s T) (hi : i < N) (ht : T i = true) (hx : x ∈ nd i) : RS nd N s (setT T x) := ⟨fun j hj h2 => (by
  by_cases e : j = x
  · subst e; exact (h.sd i hi ht).step hx
  · rw [setT_ne e] at h2; exact h.sd j hj h2), setT_mono h.st⟩
theorem RS.done {nd : Nat → List Nat} {N s : Nat} {T : Nat → Bool} (h : RS nd N s T) (hs : s < N) (hlt : ∀ i, i < N → ∀ x ∈ nd i, x < N) (hc : ∀ i, i < N → T i = true → ∀ x ∈ nd i, T x = true) : ∀ i, i < N → (T i = true ↔ Rch nd s i) := by
  have hr : ∀ i, Rch nd s i → i < N ∧ T i = true := fun i hri => by
    induction hri with
    | refl => exact ⟨hs, h.st⟩
    | step _ hb ih => exact ⟨hlt _ ih.1 _ hb, hc _ ih.1 ih.2 _ hb⟩
  exact fun i hi => ⟨h.sd i hi, fun h2 => (hr i h2).2⟩
abbrev bf (T : Nat → Bool) : Nat → Value := fun i => .bool (T i)
theorem bf_set (T : Nat → Bool) (x j : Nat) : updV (bf T) x (.bool true) j = bf (setT T x) j := by
  unfold updV bf
  by_cases e : j = x
  · subst e; rw [if_pos rfl, setT_self]
  · rw [if_neg e, setT_ne e]
theorem bf_row {w : World} {g n : Nat} {T : Nat → Bool} {x : Nat} (h : VRow w g n (bf T)) (hx : x < n) : VRow (w.setCell ⟨g, x, none⟩ (.bool true)) g n (bf (setT T x)) := (h.store x _ hx).congr fun j _ => bf_set T x j
/-- how many are not reached, in memory -/
def unw (w : World) (g N : Nat) : Nat := un (fun i => match w.cell? ⟨g, i, none⟩ with | some (.bool false) => false | _ => true) N
theorem unw_row {w : World} {g N : Nat} {T : Nat → Bool} (h : VRow w g N (bf T)) : unw w g N = un T N := un_same fun i hi => by
  rw [h.cell i hi]
  unfold bf
  cases T i <;> rfl
/-- how a reach ends -/
def RP (nd : Nat → List Nat) (N s : Nat) (w : World) (e : Ending) (w' : World) : Prop := ∃ v' T, e = .returned v' ∧ Below w.heap.size w w' ∧ (∀ i, i < N → (T i = true ↔ Rch nd s i)) ∧ SRd w'.heap.size w' v' ((List.range N).filter T) ∧ Fr w.heap.size w' v'
theorem filt_step (T : Nat → Bool) (k : Nat) : (List.range (k + 1)).filter T = if T k = true then (List.range k).filter T ++ [k] else (List.range k).filter T := by
  rw [List.range_succ, List.filter_append]
  by_cases h : T k = true
  · rw [if_pos h]; simp [h]
  · rw [if_neg h]; simp [h]
theorem filt_len (T : Nat → Bool) (k : Nat) : ((List.range k).filter T).length ≤ k := Nat.le_trans (List.length_filter_le _ _) (by rw [List.length_range]; exact Nat.le_refl _)
theorem OB.cut {B g k cap t : Nat} {w : World} {l : List Nat} (hk : k = l.length) (h : OB B w (.slice (some ⟨g, 0, none⟩) (k + 1) cap) (l ++ [t])) : OB B w (.slice (some ⟨g, 0, none⟩) k cap) l ∧ w.cell? ⟨g, k, none⟩ = some (iv t) ∧ k + 1 ≤ cap := by
  subst hk
  rcases h.2 with ⟨e, _⟩ | ⟨g', cap', cur, e, hb, hg, hc, hm, hz, ht⟩
  · cases e
  · injection e with e1 e2 e3
    injection e1 with e4
    injection e4 with e5 _ _
    subst e5; subst e3
    rw [List.length_append, Nat.mul_one] at ht
    rw [List.length_append] at hc
    simp only [List.length_cons, List.length_nil] at ht hc
    refine ⟨⟨by simp, .inr ⟨g, cap, cur, rfl, hb, hg, by omega, hm, hz, ?_⟩⟩, ?_, by omega⟩
    · have e : (cur.toList.take (l.length + (0 + 1))).take l.length = ((l ++ [t]).map iv).take l.length := by rw [ht]
      rw [List.take_take, show min l.length (l.length + (0 + 1)) = l.length by omega] at e
      rw [Nat.mul_one, e, List.map_append, List.take_append_of_le_length (by simp), List.take_of_length_le (by simp)]
    · rw [cell_of_row _ _ _ _ _ _ hg]
      have e : (cur.toList.take (l.length + (0 + 1)))[l.length]? = some (iv t) := by rw [ht]; simp
      rw [List.getElem?_take, if_pos (by omega)] at e
      rw [← Array.getElem?_toList, e]
theorem OB.first (w : World) (B s : Nat) (hB : B ≤ w.heap.size) : OB B (w.alloc (.cells #[.int .i64 (s : Int)] 3)) (.slice (some ⟨w.heap.size, 0, none⟩) 1 1) [s] :=
  ⟨rfl, .inr ⟨w.heap.size, 1, #[iv s], rfl, hB, one_blk w _, Nat.le_refl _, by unfold maxLen; omega, rfl, rfl⟩⟩
/-- the state of reach -/
structure SR (nd : Nat → List Nat) (N s gt : Nat) (w0 w : World) (z : Value) (l : List Nat) (T : Nat → Bool) : Prop where
  ob : OB (gt + 1) w z l
  row : VRow w gt N (bf T)
  bel : Below gt w0 w
  rs : RS nd N s T
  inl : ∀ x ∈ l, x < N ∧ T x = true
  few : un T N + l.length ≤ N
theorem SR.push {nd : Nat → List Nat} {N s gt x t g2 c2 n2 : Nat} {w0 w w2 : World} {z : Value} {l : List Nat} {T : Nat → Bool} (h : SR nd N s gt w0 w z l T) (ht : t < N) (hT : T t = true) (hx : x ∈ nd t) (hxN : x < N) (hxF : T x = false)
    (hob : OB (gt + 1) w2 (.slice (some ⟨g2, 0, none⟩) n2 c2) (l ++ [x])) (ho : Oth (fun k => z.ownBlock = some k) (w.setCell ⟨gt, x, none⟩ (.bool true)) w2) : SR nd N s gt w0 w2 (.slice (some ⟨g2, 0, none⟩) n2 c2) (l ++ [x]) (setT T x) := by
  have hset : Oth (· = gt) w (w.setCell ⟨gt, x, none⟩ (.bool true)) := (Oth.refl (· = gt) w).set ⟨gt, x, none⟩ rfl _
  have hlt := h.row.lt
  refine ⟨hob, (bf_row h.row hxN).kept ho (fun e => h.ob.ne (Nat.lt_succ_self gt) gt e rfl), (h.bel.setCell (p := ⟨gt, x, none⟩) (Nat.le_refl _) _).trans (ho.below gt (by rw [World.size_setCell]; omega) (fun k hk e => by have := (World.ownsRow.lt h.ob k e).1; omega)), h.rs.set ht hT hx, fun y hy => ?_, ?_⟩
  · rcases List.mem_append.1 hy with hy | hy
    · exact ⟨(h.inl y hy).1, setT_mono (h.inl y hy).2⟩
    · rw [List.mem_singleton] at hy; subst hy; exact ⟨hxN, setT_self _ _⟩
  · have h1 := un_set hxN hxF
    have h2 := h.few
    rw [List.length_append]
    simp only [List.length_cons, List.length_nil]
    omega
set_option maxRecDepth 100000 in
set_option maxHeartbeats 16000000 in
theorem greach_any {n w v N nd} (s : Nat) (hf : Fm N nd) (h : GRd n w v N nd) (hn : n ≤ w.heap.size) (hs : s < N) :
    Calls Try.prog 22 #[v, .int .i64 (s : Int)] w fun e w' => RP nd N s w e w' := by
  obtain ⟨p, c, rfl, h2⟩ := h
  have H2 := Lib.hid h2
  have HFM := Lib.hid hf
  have hfew := hf.few
  have hmk := gmake_bool N (by omega)
  have HN := Lib.hid hn
  have hsi : (s : Int) < (N : Int) := by omega
  have hr0 := VRow.made w 4 (.bool false) N
  have hc0 := hr0.cell s hs
  have hf0 := hr0.free s
  have HS0 := Lib.hid (show SR nd N s w.heap.size w (((w.alloc (.cells (madeCells #[.bool false] N) 4)).setCell ⟨w.heap.size, s, none⟩ (.bool true)).alloc (.cells #[.int .i64 (s : Int)] 3)) (.slice (some ⟨w.heap.size + 1, 0, none⟩) 1 1) [s] (setT (fun _ => false) s) from by
    have hz : ((w.alloc (.cells (madeCells #[.bool false] N) 4)).setCell ⟨w.heap.size, s, none⟩ (.bool true)).heap.size = w.heap.size + 1 := by rw [World.size_setCell, World.size_alloc]
    have hob := OB.first ((w.alloc (.cells (madeCells #[.bool false] N) 4)).setCell ⟨w.heap.size, s, none⟩ (.bool true)) (w.heap.size + 1) s (by rw [hz]; exact Nat.le_refl _)
    rw [hz] at hob
    refine ⟨hob, (bf_row (T := fun _ => false) hr0 hs).kept (S := fun _ => False) ((Oth.refl _ _).alloc _) (fun h => h), (((Below.refl w.heap.size w).alloc (Nat.le_refl _) _).setCell (p := ⟨w.heap.size, s, none⟩) (Nat.le_refl _) _).alloc (by rw [hz]; omega) _, RS.start nd N s, fun x hx => ?_, ?_⟩
    · rw [List.mem_singleton] at hx; subst hx; exact ⟨hs, setT_self _ _⟩
    · have h1 := un_set (T := fun _ => false) hs rfl
      have h2 := un_le (fun _ => false) N
      simp only [List.length_cons, List.length_nil]
      omega)
  rw [World.setCell_alloc_new] at HS0
  clear h2 hf hn hr0
  go_enter Try.func22, Try.ntmps22
  go_wp2
  go_loopw [6] (fun z wr => ∃ (l : List Nat) (T : Nat → Bool) (m : Nat) (q : Option Addr) (cc : Nat), z = .slice q m cc ∧ m ≤ N ∧ Hid (m = l.length) ∧ Hid (SR nd N s w.heap.size w wr z l T) ∧ Hid (∀ i, i < N → T i = true → i ∈ l ∨ ∀ x ∈ nd i, T x = true)) (fun z wr => 2 * unw wr w.heap.size N + slen z)
  case atStart => exact ⟨[s], setT (fun _ => false) s, 1, _, _, rfl, by omega, Lib.hid rfl, HS0, Lib.hid (fun i hi h => .inl (by
    by_cases e : i = s
    · subst e; simp
    · rw [setT_ne e] at h; cases h))⟩
  case round =>
    obtain ⟨l, T, m, q, cc, rfl, hmN, hm, hsr, hcl⟩ := hrel
    clear HS0 hc0 hf0
    by_cases h0 : m = 0
    · have hnil : l = [] := List.eq_nil_of_length_eq_zero (by rw [← hm.out]; exact h0)
      have HT := Lib.hid (hsr.out.rs.done hs HFM.out.lt (fun i hi h x hx => by
        rcases hcl.out i hi h with h | h
        · rw [hnil] at h; cases h
        · exact h x hx))
      have HROW := Lib.hid hsr.out.row
      have HBEL := Lib.hid hsr.out.bel
      subst h0
      clear hsr hcl hnil hm
      go_wp2
      go_loopw [10, 59] (fun z y wr => ∃ (k m : Nat) (q : Option Addr) (cc : Nat), y = .int .i64 k ∧ z = .slice q m cc ∧ k ≤ N ∧ Hid (m = ((List.range k).filter T).length) ∧ Hid (OB (w.heap.size + 1) wr z ((List.range k).filter T)) ∧ Hid (VRow wr w.heap.size N (bf T)) ∧ Hid (Below w.heap.size w wr)) (fun _ y _ => N - (intOf y).toNat)
      case atStart => exact ⟨0, 0, none, 0, rfl, rfl, Nat.zero_le _, Lib.hid rfl, Lib.hid (World.ownsRow_nil _ _ _ _), HROW, HBEL⟩
      case round =>
        obtain ⟨k, m, q, cc, rfl, rfl, hk, hm, hob, hrow, hbel⟩ := hrel
        clear HROW HBEL
        by_cases hlt : k < N
        · have hki : (k : Int) < (N : Int) := by omega
          have hcell := hrow.out.cell k hlt
          unfold bf at hcell
          have hst := filt_step T k
          have hln := filt_len T k
          cases hT : T k with
          | true =>
            rw [hT] at hcell
            rw [if_pos hT] at hst
            have HST := Lib.hid hst
            have HLW := Lib.hid (show w.heap.size + 1 ≤ wr.heap.size from hrow.out.lt)
            have hlen : ((List.range k).filter T).length ≤ 1000000 := by omega
            have HKR := Lib.hid (show ∀ w2, Oth (fun k => (Value.slice q m cc).ownBlock = some k) wr w2 → VRow w2 w.heap.size N (bf T) ∧ Below w.heap.size w w2 from fun w2 ho => ⟨hrow.out.kept ho (fun e => hob.out.ne (Nat.lt_succ_self _) _ e rfl), hbel.out.trans (ho.below _ (Nat.le_of_lt hrow.out.lt) (fun k hk e => by have := (World.ownsRow.lt hob.out k e).1; omega))⟩)
            clear hst hT hln hm
            go_wp2_with (at_builtin; refine append_ob rfl _ _ rfl rfl _ k rfl hob.out (by simp [Act.eval]) hlen HLW.out ?_; intro g2 cap2 w2 hob3 hoth hat hg2; have HOB3 := Lib.hid hob3; have HKP := Lib.hid (HKR.out w2 hoth); clear hob3 hoth hat hg2)
            go_roundw
            case rel => exact ⟨k + 1, _, _, _, by go_num, rfl, by omega, Lib.hid (by rw [HST.out, List.length_append]; rfl), Lib.hid (by rw [HST.out]; exact HOB3.out), Lib.hid HKP.out.1, Lib.hid HKP.out.2⟩
            case measure => simp [intOf]; omega
          | false =>
            rw [hT] at hcell
            rw [if_neg (by rw [hT]; exact Bool.false_ne_true)] at hst
            have HST := Lib.hid hst
            clear hst hT hln
            go_wp2
            go_roundw
            case rel => exact ⟨k + 1, m, q, cc, by go_num, rfl, by omega, Lib.hid (by rw [HST.out]; exact hm.out), Lib.hid (by rw [HST.out]; exact hob.out), hrow, hbel⟩
            case measure => simp [intOf]; omega
        · obtain rfl : k = N := by omega
          go_wp2
          go_ret
          exact (show ∃ v' T, _ from ⟨_, T, rfl, hbel.out, HT.out, hob.out.srd, hob.out.fr.more (Nat.le_succ _)⟩)
    · obtain ⟨k, rfl⟩ : ∃ k, m = k + 1 := ⟨m - 1, by omega⟩
      have hlk : l.length = k + 1 := hm.out.symm
      have hne : l ≠ [] := fun e => by rw [e] at hlk; cases hlk
      obtain ⟨l', t, rfl⟩ : ∃ l' t, l = l' ++ [t] := ⟨l.dropLast, l.getLast hne, (List.dropLast_concat_getLast hne).symm⟩
      have hk' : k = l'.length := by rw [List.length_append] at hlk; simp at hlk; omega
      have hob := hsr.out.ob
      obtain ⟨gq, cq, hq, hbq, hgq⟩ := World.ownsRow.form hob (by rw [List.length_append]; simp)
      injection hq with hq1 hq2 hq3
      clear hq2
      subst hq1 hq3
      obtain ⟨hcut, hct, hcap⟩ := OB.cut hk' hob
      unfold iv at hct
      obtain ⟨htN, htT⟩ := hsr.out.inl t (by simp)
      have hti : (t : Int) < (N : Int) := by omega
      obtain ⟨g, o, rfl, hg, hc⟩ := H2.out (by omega)
      obtain ⟨vi, hvi, hsrd⟩ := hc t htN
      have hvi2 : wr.cell? ⟨g, o + t, none⟩ = some vi := by rw [hsr.out.bel.cell (p := ⟨g, o + t, none⟩) (Nat.lt_of_lt_of_le hg HN.out)]; exact hvi
      obtain ⟨pi, ci, rfl, hi2⟩ := hsrd
      have HI := Lib.hid hi2
      obtain ⟨mn, hmn⟩ : ∃ mn, mn = (nd t).length := ⟨_, rfl⟩
      have HMN := Lib.hid hmn
      have hmn1 : mn ≤ 100 := by rw [hmn]; exact HFM.out.short t htN
      rw [← hmn] at hvi2
      have W1 : IntKind.i64.wrap (((k + 1 : Nat) : Int) - 1) = (k : Int) := by rw [IntWalk.i64_in _ (by omega)]; omega
      have W2 : IntKind.i64.wrap ((k : Int) + 1 - 1) = (k : Int) := by rw [IntWalk.i64_in _ (by omega)]; omega
      have W3 : (k : Int) + 1 - 1 = (k : Int) := by omega
      have W4 : IntKind.i64.wrap (k : Int) = (k : Int) := IntWalk.i64_in _ (by omega)
      have hc1 : (k : Int) ≤ (cc : Int) := by omega
      have hf1 := hsr.out.few
      rw [List.length_append] at hf1
      simp only [List.length_cons, List.length_nil] at hf1
      have HS1 := Lib.hid (show SR nd N s w.heap.size w wr (.slice (some ⟨gq, 0, none⟩) k cc) l' T from ⟨hcut, hsr.out.row, hsr.out.bel, hsr.out.rs, fun x hx => hsr.out.inl x (by simp [hx]), by omega⟩)
      have HC1 := Lib.hid (show ∀ i, i < N → T i = true → i ∈ l' ∨ i = t ∨ ∀ x ∈ nd i, T x = true from fun i hi h => by
        rcases hcl.out i hi h with h2 | h2
        · rcases List.mem_append.1 h2 with h3 | h3
          · exact .inl h3
          · rw [List.mem_singleton] at h3; exact .inr (.inl h3)
        · exact .inr (.inr h2))
      obtain ⟨M0, hM0⟩ : ∃ M0, M0 = 2 * unw wr w.heap.size N + (k + 1) := ⟨_, rfl⟩
      have HM1 := Lib.hid (show 2 * un T N + k + 1 ≤ M0 by rw [hM0, unw_row hsr.out.row]; omega)
      have HTT := Lib.hid htT
      have HK := Lib.hid hk'
      have hkN : k ≤ N := by omega
      clear hvi hc hi2 hmn hcl hsr hob hcut hf1 hlk hne hm hk' hbq hgq htT
      go_wp2
      go_loopw [6, 40] (fun z y wr => ∃ (j : Nat) (l : List Nat) (T : Nat → Bool) (m : Nat) (q : Option Addr) (cc : Nat), y = .int .i64 j ∧ j ≤ mn ∧ z = .slice q m cc ∧ m ≤ N ∧ Hid (m = l.length) ∧ Hid (SR nd N s w.heap.size w wr z l T) ∧ Hid (∀ i, i < N → T i = true → i ∈ l ∨ i = t ∨ ∀ x ∈ nd i, T x = true) ∧ Hid (∀ x ∈ (nd t).take j, T x = true) ∧ Hid (T t = true) ∧ Hid (2 * un T N + m + 1 ≤ M0)) (fun _ y _ => mn - (intOf y).toNat)
      case atStart => exact ⟨0, l', T, k, _, _, rfl, Nat.zero_le _, rfl, hkN, HK, HS1, HC1, Lib.hid (fun x hx => by rw [List.take_zero] at hx; cases hx), HTT, HM1⟩
      case round =>
        clear HS1 HC1 HM1 HTT HK hct
        obtain ⟨j, l, T, m, q, cc, rfl, hj, rfl, hmN2, hm, hsr, hcl, htk, htt, hms⟩ := hrel
        by_cases hlt : j < mn
        · have hjl : j < (nd t).length := by rw [← HMN.out]; exact hlt
          have hji : (j : Int) < (mn : Int) := by omega
          obtain ⟨g3, o3, rfl, hg3, hc3⟩ := HI.out (by omega)
          have hcx := (hsr.out.bel.cell (p := ⟨g3, o3 + j, none⟩) (Nat.lt_of_lt_of_le hg3 HN.out)).trans (hc3 j hjl)
          have htake := List.take_succ_eq_append_getElem hjl
          have hxm := List.getElem_mem hjl
          obtain ⟨x, hx⟩ : ∃ x, x = (nd t)[j] := ⟨_, rfl⟩
          rw [← hx] at hcx htake hxm
          have hxN := HFM.out.lt t htN x hxm
          have hxi : (x : Int) < (N : Int) := by omega
          have hcell := hsr.out.row.cell x hxN
          have hfree := hsr.out.row.free x
          unfold bf at hcell
          unfold iv at hcx
          cases hT : T x with
          | true =>
            rw [hT] at hcell
            have HTK := Lib.hid (show ∀ y ∈ (nd t).take (j + 1), T y = true from fun y hy => by
              rw [htake] at hy
              rcases List.mem_append.1 hy with hy | hy
              · exact htk.out y hy
              · rw [List.mem_singleton] at hy; subst hy; exact hT)
            clear htake hxm hx hc3 hT
            go_wp2
            go_roundw
            case rel => exact ⟨j + 1, l, T, m, q, cc, by go_num, by omega, rfl, hmN2, hm, hsr, hcl, HTK, htt, hms⟩
            case measure => simp [intOf]; omega
          | false =>
            rw [hT] at hcell
            have HTK := Lib.hid (show ∀ y ∈ (nd t).take (j + 1), setT T x y = true from fun y hy => by
              rw [htake] at hy
              rcases List.mem_append.1 hy with hy | hy
              · exact setT_mono (htk.out y hy)
              · rw [List.mem_singleton] at hy; subst hy; exact setT_self _ _)
            have HPU := Lib.hid (fun g2 c2 n2 w2 => hsr.out.push (g2 := g2) (c2 := c2) (n2 := n2) (w2 := w2) htN htt.out hxm hxN hT)
            have hun := un_set hxN hT
            have hfw := hsr.out.few
            have hml := hm.out
            have HMS := Lib.hid (show 2 * un (setT T x) N + (m + 1) + 1 ≤ M0 by have := hms.out; omega)
            have hm1 : m + 1 ≤ N := by omega
            have HCL := Lib.hid (show ∀ i, i < N → setT T x i = true → i ∈ l ++ [x] ∨ i = t ∨ ∀ y ∈ nd i, setT T x y = true from fun i hi h => by
              by_cases e : i = x
              · exact .inl (by simp [e])
              · rw [setT_ne e] at h
                rcases hcl.out i hi h with h2 | h2 | h2
                · exact .inl (by simp [h2])
                · exact .inr (.inl h2)
                · exact .inr (.inr fun y hy => setT_mono (h2 y hy)))
            have HTT := Lib.hid (setT_mono (x := x) htt.out)
            have hset : Oth (· = w.heap.size) wr (wr.setCell ⟨w.heap.size, x, none⟩ (.bool true)) := (Oth.refl (· = w.heap.size) wr).set ⟨w.heap.size, x, none⟩ rfl _
            have HOB := Lib.hid (show OB (w.heap.size + 1) (wr.setCell ⟨w.heap.size, x, none⟩ (.bool true)) (.slice q m cc) l from OB.kept hsr.out.ob hset (OB.ne hsr.out.ob (Nat.lt_succ_self _)))
            have HLW := Lib.hid (show w.heap.size + 1 ≤ (wr.setCell ⟨w.heap.size, x, none⟩ (.bool true)).heap.size by rw [World.size_setCell]; exact hsr.out.row.lt)
            have hlen : l.length ≤ 1000000 := by omega
            have HML := Lib.hid hml
            clear htake hxm hx hc3 hT hun hfw hml hset hsr hcl htk htt hms hm
            go_wp2_with (at_builtin; refine append_ob rfl _ _ rfl rfl _ x rfl HOB.out (by simp [Act.eval]) hlen HLW.out ?_; intro g2 cap2 w2 hob3 hoth hat hg2; have HS2 := Lib.hid (HPU.out g2 cap2 _ w2 hob3 hoth); clear hob3 hoth hat hg2)
            go_roundw
            case rel => exact ⟨j + 1, l ++ [x], setT T x, m + 1, _, _, by go_num, by omega, by rw [← HML.out], hm1, Lib.hid (by rw [List.length_append, HML.out]; rfl), HS2, HCL, HTK, HTT, HMS⟩
            case measure => simp [intOf]; omega
        · have hji : ¬ (j : Int) < (mn : Int) := by omega
          have HCL := Lib.hid (show ∀ i, i < N → T i = true → i ∈ l ∨ ∀ x ∈ nd i, T x = true from fun i hi h => by
            rcases hcl.out i hi h with h2 | h2 | h2
            · exact .inl h2
            · subst h2
              refine .inr fun x hx => htk.out x ?_
              rw [List.take_of_length_le (by rw [← HMN.out]; omega)]; exact hx
            · exact .inr h2)
          have HMS := Lib.hid (show 2 * unw wr w.heap.size N + m < M0 by rw [unw_row hsr.out.row]; have := hms.out; omega)
          clear hcl htk htt hms
          go_wp2
          go_roundw
          case rel => exact ⟨l, T, m, q, cc, rfl, hmN2, hm, hsr, HCL⟩
          case measure => simp only [slen]; rw [← hM0]; exact HMS.out
end Go.Proofs.Ytdgdeognahmpmaa
