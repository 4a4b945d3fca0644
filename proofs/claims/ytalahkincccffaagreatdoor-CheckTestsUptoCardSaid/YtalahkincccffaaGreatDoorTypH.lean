/-
  learn: the names that an expression may use.
-/
import Derived.Test.YtalahkincccffaaGreatDoorTypG
import Derived.Test.YtalahkincccffaaGreatDoorTypR
namespace Go.Proofs.YtalahkincccffaaGreatDoor
open Go.RowKit Go.Maps Go.WideMaps Word Txt
attribute [local go_sem] setCell_drewN cell?_ext frozen?_ext shape?_ext setCell_ext lt_1' ne_1' en_1' le_1' lt_2' ne_2' en_2' le_2' lt_3' ne_3' en_3' le_3' lt_4' ne_4' en_4' le_4' lt_5' ne_5' en_5' le_5' lt_6' ne_6' en_6' le_6' lt_7' ne_7' en_7' le_7' lt_8' ne_8' en_8' le_8' lt_9' ne_9' en_9' le_9' lt_10' ne_10' en_10' le_10' lt_11' ne_11' en_11' le_11' lt_12' ne_12' en_12' le_12'

noncomputable def okS : List SyD → List SyD → Bool
  | _, [] => true
  | seen, x :: r => (findS seen x.s).isNone && (nmB x.s && (tform x.t.1 x.t.2 && okS (seen ++ [x]) r))
noncomputable def namM (sy : List SyD) : Int := if 100 < sy.length then 6 else if okS [] sy = true then 0 else 2
theorem findS_snoc (x : SyD) (s : ByteArray) : ∀ l : List SyD, findS (l ++ [x]) s = match findS l s with | some t => some t | none => if x.s = s then some x.t else none
  | [] => rfl
  | y :: r => by
    show (if y.s = s then some y.t else findS (r ++ [x]) s) = _
    by_cases e : y.s = s
    · rw [if_pos e]
      show _ = match (if y.s = s then some y.t else findS r s) with | some t => some t | none => _
      rw [if_pos e]
    · rw [if_neg e, findS_snoc x s r]
      show _ = match (if y.s = s then some y.t else findS r s) with | some t => some t | none => _
      rw [if_neg e]
theorem okS_form : ∀ {r seen : List SyD}, okS seen r = true → ∀ x ∈ r, FmT x.t
  | [], _, _, x, hx => by cases hx
  | y :: r, seen, h, x, hx => by
    have h2 : ((findS seen y.s).isNone && (nmB y.s && (tform y.t.1 y.t.2 && okS (seen ++ [y]) r))) = true := h
    simp only [Bool.and_eq_true] at h2
    rcases List.mem_cons.1 hx with rfl | hx
    · exact h2.2.2.1
    · exact okS_form h2.2.2.2 x hx
theorem namM_ok {sy : List SyD} (h : namM sy = 0) : sy.length ≤ 100 ∧ ∀ x ∈ sy, FmT x.t := by
  unfold namM at h
  split at h
  · cases h
  · split at h
    · rename_i h1 h2; exact ⟨by omega, okS_form h2⟩
    · cases h
def LrQ (sy : List SyD) (err : Int) (w : World) (e : Ending) (w' : World) : Prop := Below w.heap.size w w' ∧ (err = 0 → ∃ b kn, e = .returned (.tuple #[.map (some b), .int .i64 0]) ∧ SyIs w' b kn (findS sy)) ∧ (err ≠ 0 → e = .returned (.tuple #[.map none, .int .i64 err]))
theorem run_mmY (w : World) : (Instr.makeMap 43 none).run Tryz.prog w = .ok (.map (some w.heap.size)) (w.alloc (.map #[] 0)) := by
  simp [Instr.makeMap, go_sem]
set_option maxRecDepth 100000 in
set_option maxHeartbeats 8000000 in
theorem learn_any (sy : List SyD) (n : Nat) (w : World) (v : Value) (hv : RL 3 syE n w v sy) (hn : n ≤ w.heap.size) (hs : ∀ x ∈ sy, x.s.size ≤ 1048576) :
    Calls Tryz.prog 14 #[v] w fun e w' => LrQ sy (namM sy) w e w' := by
  have hmm := run_mmY
  have HE0 := Lib.hid (sy_made w)
  obtain ⟨p, c, rfl, h2⟩ := hv
  have H2 := Lib.hid h2
  have HSZ := Lib.hid hs
  obtain ⟨len, hlen⟩ : ∃ len, len = sy.length := ⟨_, rfl⟩
  have HL := Lib.hid hlen
  have hnam : namM sy = if 100 < len then 6 else if okS [] sy = true then 0 else 2 := by rw [hlen]; rfl
  rw [hnam, ← hlen]
  clear hnam h2 hs hlen
  by_cases h100 : 100 < len
  · rw [if_pos h100]
    have h1 : (100 : Int) < (len : Int) := by omega
    go_enter Tryz.func14, Tryz.ntmps14
    go_wp2
    go_ret2
    exact (show LrQ sy 6 w _ _ from ⟨by (repeat' (first | (with_reducible first | exact Below.refl _ _ | assumption | refine Below.alloc ?_ ?_ _ | refine below_drewN ?_ _ | refine below_drew ?_ | refine below_ext ?_ ?_ _ _ | refine Below.setCell ?_ ?_ _) | (simp; done) | (simp; omega) | omega)), fun h => absurd h (by decide), fun _ => rfl⟩)
  rw [if_neg h100]
  have h1 : ¬ (100 : Int) < (len : Int) := by omega
  have h6 : len ≤ 100 := by omega
  obtain ⟨R, hR⟩ : ∃ R, R = okS [] sy := ⟨_, rfl⟩
  have HR := Lib.hid hR
  rw [← hR]
  obtain ⟨E, hE⟩ : ∃ E : Int, E = (if R = true then 0 else 2) := ⟨_, rfl⟩
  rw [← hE]
  have HEE := Lib.hid hE
  clear hR h100 hE
  go_enter Tryz.func14, Tryz.ntmps14
  go_wp2
  go_loopw [15] (fun z wr => ∃ k : Nat, z = .int .i64 k ∧ k ≤ len ∧ Hid (SyIs wr w.heap.size k (findS (sy.take k))) ∧ Hid (Below w.heap.size w wr) ∧ w.heap.size < wr.heap.size ∧ Hid (okS (sy.take k) (sy.drop k) = R)) (fun z _ => len - (intOf z).toNat)
  case atStart => exact ⟨0, rfl, Nat.zero_le _, HE0, Lib.hid (by (repeat' (first | (with_reducible first | exact Below.refl _ _ | assumption | refine Below.alloc ?_ ?_ _ | refine below_drewN ?_ _ | refine below_drew ?_ | refine below_ext ?_ ?_ _ _ | refine Below.setCell ?_ ?_ _) | (simp; done) | (simp; omega) | omega))), by simp, Lib.hid HR.out.symm⟩
  case round =>
    obtain ⟨k, rfl, hk, hmp, hbe, hlt, hro⟩ := hrel
    clear HE0
    have hsw := hbe.out.size
    have HBE := Lib.hid hbe.out
    have HMP := Lib.hid (fun w' (hb : Below wr.heap.size wr w') => hmp.out.new hb)
    by_cases hkl : k < len
    · have hki : (k : Int) < (len : Int) := by omega
      have hk2 : k < sy.length := by rw [← HL.out]; exact hkl
      obtain ⟨g, o, rfl, hg, hc⟩ := H2.out (by omega)
      obtain ⟨s, t1, t2, hxy⟩ : ∃ s t1 t2, sy[k] = ⟨s, (t1, t2)⟩ := ⟨_, _, _, rfl⟩
      have hgr : g < wr.heap.size := by omega
      have c0 : wr.cell? ⟨g, o + k * 3, none⟩ = some (.string s) := by
        rw [hbe.out.cell (p := ⟨g, _, none⟩) (Nat.lt_of_lt_of_le hg hn)]
        exact hc k hk2 0 _ (by rw [hxy]; rfl)
      have c1 : wr.cell? ⟨g, o + k * 3 + 1, none⟩ = some (.int .i64 t1) := by
        rw [hbe.out.cell (p := ⟨g, _, none⟩) (Nat.lt_of_lt_of_le hg hn)]
        exact hc k hk2 1 _ (by rw [hxy]; rfl)
      have c2 : wr.cell? ⟨g, o + k * 3 + 2, none⟩ = some (.int .i64 t2) := by
        rw [hbe.out.cell (p := ⟨g, _, none⟩) (Nat.lt_of_lt_of_le hg hn)]
        exact hc k hk2 2 _ (by rw [hxy]; rfl)
      have hsz : s.size ≤ maxLen := by
        have h9 := HSZ.out _ (List.getElem_mem hk2)
        rw [hxy] at h9
        exact Nat.le_trans h9 (by decide)
      have HTK := Lib.hid (show sy.take (k + 1) = sy.take k ++ [⟨s, (t1, t2)⟩] by rw [List.take_add_one, List.getElem?_eq_getElem hk2, hxy]; rfl)
      have HRO := Lib.hid (show R = ((findS (sy.take k) s).isNone && (nmB s && (tform t1 t2 && okS (sy.take (k + 1)) (sy.drop (k + 1))))) by rw [← hro.out, List.drop_eq_getElem_cons hk2, hxy, HTK.out]; rfl)
      have HN := Lib.hid (fun w => nm_is s w)
      have HF := Lib.hid (fun w => kform_any t1 t2 w)
      generalize nmB s = nm at HRO HN
      generalize tform t1 t2 = fm at HRO HF
      have hk6 : k ≤ 1000000 := by omega
      clear hc hro hxy hbe hmp hk2
      cases hq : findS (sy.take k) s with
      | some q =>
        obtain ⟨q1, q2⟩ := q
        have HF0 := Lib.hid (show R = false by rw [HRO.out, hq]; rfl)
        have HQ := Lib.hid hq
        clear hq
        go_wp2_with (first
          | (at_lookup; refine wpList_look_sy _ rfl _ _ rfl rfl (HMP.out _ (by (repeat' (first | (with_reducible first | exact Below.refl _ _ | assumption | refine Below.alloc ?_ ?_ _ | refine below_drewN ?_ _ | refine below_drew ?_ | refine below_ext ?_ ?_ _ _ | refine Below.setCell ?_ ?_ _) | (simp; done) | (simp; omega) | omega)))) hsz rfl ?_; rw [HQ.out]; show wpList _ _ _ _ (Act.put _ _ (.tuple #[.agg #[.int .i64 q1, .int .i64 q2], .bool true])) _))
        go_ret2
        exact (show LrQ sy E w _ _ from ⟨HBE.out.trans (show Below w.heap.size wr _ by (repeat' (first | (with_reducible first | exact Below.refl _ _ | assumption | refine Below.alloc ?_ ?_ _ | refine below_drewN ?_ _ | refine below_drew ?_ | refine below_ext ?_ ?_ _ _ | refine Below.setCell ?_ ?_ _) | (simp; done) | (simp; omega) | omega))), fun h => absurd h (by have : E = 2 := (by rw [HEE.out, HF0.out]; rfl); omega), fun _ => by rw [show E = 2 by rw [HEE.out, HF0.out]; rfl]; rfl⟩)
      | none =>
        have HQ := Lib.hid hq
        have HRO2 := Lib.hid (show R = (nm && (fm && okS (sy.take (k + 1)) (sy.drop (k + 1)))) by rw [HRO.out, hq]; rfl)
        clear hq HRO
        cases nm with
        | false =>
          have HF0 := Lib.hid (show R = false by rw [HRO2.out]; rfl)
          go_wp2_with (first
            | (at_lookup; refine wpList_look_sy _ rfl _ _ rfl rfl (HMP.out _ (by (repeat' (first | (with_reducible first | exact Below.refl _ _ | assumption | refine Below.alloc ?_ ?_ _ | refine below_drewN ?_ _ | refine below_drew ?_ | refine below_ext ?_ ?_ _ _ | refine Below.setCell ?_ ?_ _) | (simp; done) | (simp; omega) | omega)))) hsz rfl ?_; rw [HQ.out]; show wpList _ _ _ _ (Act.put _ _ (.tuple #[.agg #[.int .i64 0, .int .i64 0], .bool false])) _)
            | (go_at_call 29; ((with_reducible refine (HN.out _).mono ?_); rintro e w' ⟨rfl, rfl⟩)))
          go_ret2
          exact (show LrQ sy E w _ _ from ⟨HBE.out.trans (show Below w.heap.size wr _ by (repeat' (first | (with_reducible first | exact Below.refl _ _ | assumption | refine Below.alloc ?_ ?_ _ | refine below_drewN ?_ _ | refine below_drew ?_ | refine below_ext ?_ ?_ _ _ | refine Below.setCell ?_ ?_ _) | (simp; done) | (simp; omega) | omega))), fun h => absurd h (by have : E = 2 := (by rw [HEE.out, HF0.out]; rfl); omega), fun _ => by rw [show E = 2 by rw [HEE.out, HF0.out]; rfl]; rfl⟩)
        | true =>
          cases fm with
          | false =>
            have HF0 := Lib.hid (show R = false by rw [HRO2.out]; rfl)
            go_wp2_with (first
              | (at_lookup; refine wpList_look_sy _ rfl _ _ rfl rfl (HMP.out _ (by (repeat' (first | (with_reducible first | exact Below.refl _ _ | assumption | refine Below.alloc ?_ ?_ _ | refine below_drewN ?_ _ | refine below_drew ?_ | refine below_ext ?_ ?_ _ _ | refine Below.setCell ?_ ?_ _) | (simp; done) | (simp; omega) | omega)))) hsz rfl ?_; rw [HQ.out]; show wpList _ _ _ _ (Act.put _ _ (.tuple #[.agg #[.int .i64 0, .int .i64 0], .bool false])) _)
              | (go_at_call 29; ((with_reducible refine (HN.out _).mono ?_); rintro e w' ⟨rfl, rfl⟩))
              | (go_at_call 16; ((with_reducible refine (HF.out _).mono ?_); rintro e w1 ⟨rfl, hb1⟩; obtain ⟨osF, dF, rfl⟩ := ext_of_below hb1; clear hb1)))
            go_ret2
            exact (show LrQ sy E w _ _ from ⟨HBE.out.trans (show Below w.heap.size wr _ by (repeat' (first | (with_reducible first | exact Below.refl _ _ | assumption | refine Below.alloc ?_ ?_ _ | refine below_drewN ?_ _ | refine below_drew ?_ | refine below_ext ?_ ?_ _ _ | refine Below.setCell ?_ ?_ _) | (simp; done) | (simp; omega) | omega))), fun h => absurd h (by have : E = 2 := (by rw [HEE.out, HF0.out]; rfl); omega), fun _ => by rw [show E = 2 by rw [HEE.out, HF0.out]; rfl]; rfl⟩)
          | true =>
            have HF0 := Lib.hid (show okS (sy.take (k + 1)) (sy.drop (k + 1)) = R by rw [HRO2.out]; rfl)
            have HCG := Lib.hid (show ∀ w' m, SyIs w' w.heap.size (k + 1) m → (∀ j, m j = if j = s then some (t1, t2) else findS (sy.take k) j) → SyIs w' w.heap.size (k + 1) (findS (sy.take (k + 1))) from fun w' m h e => h.congr fun j => by
              rw [e j, HTK.out, findS_snoc]
              by_cases ej : j = s
              · subst ej
                rw [if_pos rfl, HQ.out]
                show _ = if j = j then _ else _
                rw [if_pos rfl]
              · rw [if_neg ej]
                cases findS (sy.take k) j with
                | some q => rfl
                | none =>
                  show none = if s = j then _ else _
                  rw [if_neg (fun e => ej e.symm)])
            go_wp2_with (first
              | (at_lookup; refine wpList_look_sy _ rfl _ _ rfl rfl (HMP.out _ (by (repeat' (first | (with_reducible first | exact Below.refl _ _ | assumption | refine Below.alloc ?_ ?_ _ | refine below_drewN ?_ _ | refine below_drew ?_ | refine below_ext ?_ ?_ _ _ | refine Below.setCell ?_ ?_ _) | (simp; done) | (simp; omega) | omega)))) hsz rfl ?_; rw [HQ.out]; show wpList _ _ _ _ (Act.put _ _ (.tuple #[.agg #[.int .i64 0, .int .i64 0], .bool false])) _)
              | (go_at_call 29; ((with_reducible refine (HN.out _).mono ?_); rintro e w' ⟨rfl, rfl⟩))
              | (go_at_call 16; ((with_reducible refine (HF.out _).mono ?_); rintro e w1 ⟨rfl, hb1⟩; obtain ⟨osF, dF, rfl⟩ := ext_of_below hb1; clear hb1))
              | (at_mapUpdate; refine wpList_put_sy _ rfl _ _ _ rfl rfl (HMP.out _ (by (repeat' (first | (with_reducible first | exact Below.refl _ _ | assumption | refine Below.alloc ?_ ?_ _ | refine below_drewN ?_ _ | refine below_drew ?_ | refine below_ext ?_ ?_ _ _ | refine Below.setCell ?_ ?_ _) | (simp; done) | (simp; omega) | omega)))) hk6 hsz rfl (t1, t2) rfl ?_; intro w3 hm3 hg3; have HB3 := Lib.hid ((HBE.out.trans (show Below w.heap.size wr _ by (repeat' (first | (with_reducible first | exact Below.refl _ _ | assumption | refine Below.alloc ?_ ?_ _ | refine below_drewN ?_ _ | refine below_drew ?_ | refine below_ext ?_ ?_ _ _ | refine Below.setCell ?_ ?_ _) | (simp; done) | (simp; omega) | omega)))).grown hg3 (by simp; omega) (fun j hj => by cases hj; exact Nat.le_refl _)); have HM3 := Lib.hid (HCG.out _ _ hm3 (fun j => by by_cases ej : j = s <;> simp [ej])); have hl3 := hg3.size; clear hm3 hg3))
            go_roundw
            case rel => exact ⟨k + 1, by go_num, by omega, HM3, HB3, by (have := hl3; simp at this ⊢; omega), HF0⟩
            case measure => simp [intOf]; omega
    · obtain rfl : k = len := by omega
      have hki : ¬ (k : Int) < k := by omega
      have hd : sy.drop k = [] := List.drop_eq_nil_of_le (by rw [← HL.out]; exact Nat.le_refl _)
      have htk : sy.take k = sy := List.take_of_length_le (by rw [← HL.out]; exact Nat.le_refl _)
      have HF0 := Lib.hid (show R = true by rw [← hro.out, hd]; rfl)
      have HM3 := Lib.hid (show SyIs wr w.heap.size k (findS sy) by have := hmp.out; rwa [htk] at this)
      clear hd htk hmp hro
      go_wp2
      go_ret2
      exact (show LrQ sy E w _ _ from ⟨hbe.out, fun _ => ⟨_, k, rfl, HM3.out⟩, fun h => absurd (show E = 0 by rw [HEE.out, HF0.out]; rfl) h⟩)
end Go.Proofs.YtalahkincccffaaGreatDoor
