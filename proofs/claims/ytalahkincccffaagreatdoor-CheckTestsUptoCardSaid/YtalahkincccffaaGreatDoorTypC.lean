/-
  The items of the stack in memory: each a type and what is asked; their types, what a node asks that has them as its parts.
-/
import Derived.Test.YtalahkincccffaaGreatDoorTypB
import Derived.Test.YtalahkincccffaaGreatDoorTypU
namespace Go.Proofs.YtalahkincccffaaGreatDoor
open Go.RowKit Word Txt
attribute [local go_sem] setCell_drewN cell?_ext frozen?_ext shape?_ext setCell_ext lt_1' ne_1' en_1' le_1' lt_2' ne_2' en_2' le_2' lt_3' ne_3' en_3' le_3' lt_4' ne_4' en_4' le_4' lt_5' ne_5' en_5' le_5' lt_6' ne_6' en_6' le_6' lt_7' ne_7' en_7' le_7' lt_8' ne_8' en_8' le_8' lt_9' ne_9' en_9' le_9' lt_10' ne_10' en_10' le_10' lt_11' ne_11' en_11' le_11' lt_12' ne_12' en_12' le_12'

structure IA where
  t : Ty
  p : Option Addr
  n : Nat
  c : Nat
  ks : List Ask
def iaE (x : IA) : List Value := [.int .i64 x.t.1, .int .i64 x.t.2, .slice x.p x.n x.c]
def IA.itm (x : IA) : Itm := (x.t, x.ks)
theorem iaE_cells : Cells tcK iaE := fun s => ⟨rfl, fun u hu => by
  unfold iaE at hu
  simp at hu
  rcases hu with rfl | rfl | rfl <;> rfl⟩
abbrev IA.Rd (n : Nat) (w : World) (x : IA) : Prop := RL 3 askE n w (.slice x.p x.n x.c) x.ks
set_option maxRecDepth 100000 in
theorem itypes_any (ts : List IA) (n : Nat) (w : World) (v : Value) (hv : RL 3 iaE n w v ts) (hn : n ≤ w.heap.size) (hl : ts.length ≤ 1000) :
    Calls Tryz.prog 31 #[v] w fun e w' => ∃ pv, e = .returned pv ∧ RL 2 tpE w'.heap.size w' pv (ts.map (·.t)) ∧ Below w.heap.size w w' := by
  obtain ⟨p, c, rfl, h2⟩ := hv
  have H2 := Lib.hid h2
  have HD0 := Lib.hid (OL.nil tpK tpE w.heap.size w)
  obtain ⟨len, hlen⟩ : ∃ len, len = ts.length := ⟨_, rfl⟩
  have HL := Lib.hid hlen
  rw [← hlen] at hl ⊢
  clear h2 hlen
  go_enter Tryz.func31, Tryz.ntmps31
  go_wp2
  go_loopw [3, 8] (fun x z wr => ∃ k : Nat, z = .int .i64 k ∧ k ≤ len ∧ Hid (Below w.heap.size w wr) ∧ Hid (OL tpK tpE w.heap.size wr x ((ts.map (·.t)).take k))) (fun _ z _ => len - (intOf z).toNat)
  case atStart => exact ⟨0, rfl, Nat.zero_le _, Lib.hid (Below.refl _ _), HD0⟩
  case round =>
    obtain ⟨k, rfl, hk, hbe, hol⟩ := hrel
    clear HD0
    have hsw := hbe.out.size
    obtain ⟨q, cp, hvs, hq, hcp⟩ := OL.form hol.out
    have htl : ((ts.map (·.t)).take k).length = k := by rw [List.length_take, List.length_map, ← HL.out]; omega
    rw [htl] at hvs
    obtain rfl : u3 = .slice q k cp := hvs
    have HOWN := Lib.hid (show ∀ k2, (Value.slice q k cp).ownBlock = some k2 → w.heap.size ≤ k2 from fun k2 h2 => (World.ownsRow.lt hol.out k2 h2).1)
    by_cases hkl : k < len
    · have hki : (k : Int) < (len : Int) := by omega
      have hk2 : k < ts.length := by rw [← HL.out]; exact hkl
      obtain ⟨g, o, rfl, hg, hc⟩ := H2.out (by omega)
      obtain ⟨x, y, pp, pn, pc, pk, hxy⟩ : ∃ x y pp pn pc pk, ts[k] = ⟨(x, y), pp, pn, pc, pk⟩ := ⟨_, _, _, _, _, _, rfl⟩
      have hgr : g < wr.heap.size := by omega
      have c0 : wr.cell? ⟨g, o + k * 3, none⟩ = some (.int .i64 x) := by
        rw [hbe.out.cell (p := ⟨g, _, none⟩) (Nat.lt_of_lt_of_le hg hn)]
        exact hc k hk2 0 _ (by rw [hxy]; rfl)
      have c1 : wr.cell? ⟨g, o + k * 3 + 1, none⟩ = some (.int .i64 y) := by
        rw [hbe.out.cell (p := ⟨g, _, none⟩) (Nat.lt_of_lt_of_le hg hn)]
        exact hc k hk2 1 _ (by rw [hxy]; rfl)
      have c2 : wr.cell? ⟨g, o + k * 3 + 2, none⟩ = some (.slice pp pn pc) := by
        rw [hbe.out.cell (p := ⟨g, _, none⟩) (Nat.lt_of_lt_of_le hg hn)]
        exact hc k hk2 2 _ (by rw [hxy]; rfl)
      have HTK := Lib.hid (show (ts.map (·.t)).take (k + 1) = (ts.map (·.t)).take k ++ [(x, y)] by rw [List.take_add_one, List.getElem?_map, List.getElem?_eq_getElem hk2, hxy]; rfl)
      have HOL := Lib.hid (fun w' (hb : Below wr.heap.size wr w') => OL.new hol.out hb)
      have HBR := Lib.hid hbe.out
      have hlk : ((ts.map (·.t)).take k).length ≤ 1000000 := by rw [htl]; omega
      have HTL := Lib.hid htl
      generalize (ts.map (·.t)).take k = t1 at HTK HOL hlk HTL
      clear hc hol hbe htl hxy hk2
      go_wp2_with (first
        | (at_builtin; refine wpList_append_ol tpK_ok tpE_cells rfl _ _ rfl rfl _ (x, y) rfl (HOL.out _ (by (repeat' (first | (with_reducible first | exact Below.refl _ _ | assumption | refine Below.alloc ?_ ?_ _ | refine below_drewN ?_ _ | refine below_drew ?_ | refine below_ext ?_ ?_ _ _ | refine Below.setCell ?_ ?_ _) | (simp; done) | (simp; omega) | omega)))) (by simp [Act.eval]) hlk (by (repeat' (first | (with_reducible first | exact Below.refl _ _ | assumption | refine Below.alloc ?_ ?_ _ | refine below_drewN ?_ _ | refine below_drew ?_ | refine below_ext ?_ ?_ _ _ | refine Below.setCell ?_ ?_ _) | (simp; done) | (simp; omega) | omega))) ?_; intro g2 cap2 w2 hob3 hoth hat hg2 hsz2; rw [HTL.out] at hob3; have HO2 := Lib.hid (HTK.out ▸ hob3); have HB2 := Lib.hid ((HBR.out.trans (show Below w.heap.size wr _ by (repeat' (first | (with_reducible first | exact Below.refl _ _ | assumption | refine Below.alloc ?_ ?_ _ | refine below_drewN ?_ _ | refine below_drew ?_ | refine below_ext ?_ ?_ _ _ | refine Below.setCell ?_ ?_ _) | (simp; done) | (simp; omega) | omega)))).trans (hoth.below (by first | omega | (simp; omega)) (fun k hk => HOWN.out k hk))); clear hob3 hoth hat hg2 hsz2))
      have hL1 := HTL.out
      go_roundw
      case rel => exact ⟨k + 1, by go_num, by omega, HB2, (by first | exact HO2 | (rw [hL1]; exact HO2))⟩
      case measure => simp [intOf]; omega
    · obtain rfl : k = len := by omega
      have hki : ¬ (k : Int) < k := by omega
      have hml : (ts.map (·.t)).length = k := by rw [List.length_map, ← HL.out]
      have htk : (ts.map (·.t)).take k = ts.map (·.t) := List.take_of_length_le (by rw [hml]; exact Nat.le_refl _)
      have HO := Lib.hid (show OL tpK tpE w.heap.size wr (.slice q k cp) (ts.map (·.t)) by rw [← htk]; exact hol.out)
      have HML := Lib.hid hml
      go_wp2
      go_ret
      refine ⟨_, rfl, ⟨q, cp, by rw [HML.out]; rfl, fun h0 => ?_⟩, hbe.out⟩
      obtain ⟨g, rfl, -, hg⟩ := hq (by rw [htl]; rw [HML.out] at h0; exact h0)
      exact ⟨g, 0, rfl, hg, fun j hj i u hu => by
        have := OL.cell tpE_cells HO.out j i hj hu
        rwa [show j * tpK.size + i = 0 + j * 2 + i by show j * 2 + i = _; omega] at this⟩
theorem askM_snoc (op : Int) (ps : List Itm) (p : Itm) : askM op (ps ++ [p]) = askM op ps ++ askF op p := by unfold askM; rw [List.flatMap_append]; simp
def wtI (st : List IA) : Nat := (st.map fun x => x.ks.length + 1).sum
theorem askM_len (op : Int) : ∀ st : List IA, (askM op (st.map IA.itm)).length ≤ wtI st
  | [] => Nat.le_refl _
  | x :: r => by
    have := askM_len op r
    show ((x.itm :: r.map IA.itm).flatMap (askF op)).length ≤ _
    rw [List.flatMap_cons, List.length_append]
    have h1 : (askF op x.itm).length ≤ x.ks.length + 1 := by
      unfold askF
      split
      · simp
      · split
        · exact Nat.le_succ _
        · simp
    have h2 : wtI (x :: r) = x.ks.length + 1 + wtI r := by simp [wtI]
    have h3 : ((r.map IA.itm).flatMap (askF op)).length ≤ wtI r := this
    omega
theorem wtI_take (st : List IA) (k : Nat) : wtI (st.take k) ≤ wtI st := by
  conv => rhs; rw [← List.take_append_drop k st]
  unfold wtI
  rw [List.map_append, List.sum_append]
  omega
set_option maxRecDepth 100000 in
set_option maxHeartbeats 8000000 in
theorem asksOf_any (op : Int) (ts : List IA) (n : Nat) (w : World) (v : Value) (hv : RL 3 iaE n w v ts) (hn : n ≤ w.heap.size) (hl : ts.length ≤ 1000) (hr : ∀ x ∈ ts, x.Rd n w) (hw : wtI ts ≤ 100000) :
    Calls Tryz.prog 32 #[.int .i64 op, v] w fun e w' => ∃ pv, e = .returned pv ∧ OL asK askE w.heap.size w' pv (askM op (ts.map IA.itm)) ∧ Below w.heap.size w w' := by
  obtain ⟨p, c, rfl, h2⟩ := hv
  have H2 := Lib.hid h2
  have HR := Lib.hid hr
  have HD0 := Lib.hid (OL.nil asK askE w.heap.size w)
  have HW := Lib.hid (show ∀ k, (askM op ((ts.take k).map IA.itm)).length ≤ 100000 from fun k => Nat.le_trans (askM_len op _) (Nat.le_trans (wtI_take ts k) hw))
  obtain ⟨len, hlen⟩ : ∃ len, len = ts.length := ⟨_, rfl⟩
  have HL := Lib.hid hlen
  rw [← hlen] at hl ⊢
  clear h2 hlen hr hw
  go_enter Tryz.func32, Tryz.ntmps32
  go_wp2
  go_loopw [5, 10] (fun x z wr => ∃ k : Nat, z = .int .i64 k ∧ k ≤ len ∧ Hid (Below w.heap.size w wr) ∧ Hid (OL asK askE w.heap.size wr x (askM op ((ts.take k).map IA.itm)))) (fun _ z _ => len - (intOf z).toNat)
  case atStart => exact ⟨0, rfl, Nat.zero_le _, Lib.hid (Below.refl _ _), HD0⟩
  case round =>
    obtain ⟨k, rfl, hk, hbe, hol⟩ := hrel
    clear HD0
    have hsw := hbe.out.size
    have HOWN := Lib.hid (show ∀ k2, u5.ownBlock = some k2 → w.heap.size ≤ k2 from fun k2 h2 => (World.ownsRow.lt hol.out k2 h2).1)
    by_cases hkl : k < len
    · have hki : (k : Int) < (len : Int) := by omega
      have hk2 : k < ts.length := by rw [← HL.out]; exact hkl
      obtain ⟨g, o, rfl, hg, hc⟩ := H2.out (by omega)
      obtain ⟨x, y, pp, pn, pc, pk, hxy⟩ : ∃ x y pp pn pc pk, ts[k] = ⟨(x, y), pp, pn, pc, pk⟩ := ⟨_, _, _, _, _, _, rfl⟩
      have hgr : g < wr.heap.size := by omega
      have c0 : wr.cell? ⟨g, o + k * 3, none⟩ = some (.int .i64 x) := by
        rw [hbe.out.cell (p := ⟨g, _, none⟩) (Nat.lt_of_lt_of_le hg hn)]
        exact hc k hk2 0 _ (by rw [hxy]; rfl)
      have c1 : wr.cell? ⟨g, o + k * 3 + 1, none⟩ = some (.int .i64 y) := by
        rw [hbe.out.cell (p := ⟨g, _, none⟩) (Nat.lt_of_lt_of_le hg hn)]
        exact hc k hk2 1 _ (by rw [hxy]; rfl)
      have c2 : wr.cell? ⟨g, o + k * 3 + 2, none⟩ = some (.slice pp pn pc) := by
        rw [hbe.out.cell (p := ⟨g, _, none⟩) (Nat.lt_of_lt_of_le hg hn)]
        exact hc k hk2 2 _ (by rw [hxy]; rfl)
      have hrd : RL 3 askE n w (.slice pp pn pc) pk := by
        have := HR.out ts[k] (List.getElem_mem hk2)
        rw [hxy] at this
        exact this
      have HRD := Lib.hid (fun w' (hb : Below wr.heap.size wr w') => (hrd.keep ((hbe.out.mono hn).trans (hb.mono (Nat.le_trans hn hsw)))))
      have HTK := Lib.hid (show askM op ((ts.take (k + 1)).map IA.itm) = askM op ((ts.take k).map IA.itm) ++ askF op ((x, y), pk) by rw [List.take_add_one, List.getElem?_eq_getElem hk2, hxy, List.map_append]; exact askM_snoc _ _ _)
      have HOL := Lib.hid (fun w' (hb : Below wr.heap.size wr w') => OL.new hol.out hb)
      have HBR := Lib.hid hbe.out
      have hlk := HW.out k
      have hlk1 := HW.out (k + 1)
      rw [HTK.out, List.length_append] at hlk1
      have hwr : w.heap.size ≤ wr.heap.size := hsw
      have hnr : n ≤ wr.heap.size := Nat.le_trans hn hsw
      generalize askM op ((ts.take k).map IA.itm) = t1 at HTK HOL hlk hlk1
      clear hc hol hbe hxy hk2 hrd HR
      by_cases htest : 30 ≤ op ∧ op ≤ 35
      · have HK2 := Lib.hid (show askM op ((ts.take (k + 1)).map IA.itm) = t1 ++ [((x, y), decide (op ≠ 30))] by rw [HTK.out]; unfold askF; rw [if_pos htest])
        clear HTK hlk1
        have h6 : op = 30 ∨ op = 31 ∨ op = 32 ∨ op = 33 ∨ op = 34 ∨ op = 35 := by omega
        clear htest
        rcases h6 with rfl | rfl | rfl | rfl | rfl | rfl
        case inl =>
          go_wp2_with (at_builtin; refine wpList_append_ol asK_ok askE_cells rfl _ _ rfl rfl _ ((x, y), false) rfl (HOL.out _ (by (repeat' (first | (with_reducible first | exact Below.refl _ _ | assumption | refine Below.alloc ?_ ?_ _ | refine below_drewN ?_ _ | refine below_drew ?_ | refine below_ext ?_ ?_ _ _ | refine Below.setCell ?_ ?_ _) | (simp; done) | (simp; omega) | omega)))) (by simp [Act.eval]) (by omega) (by (repeat' (first | (with_reducible first | exact Below.refl _ _ | assumption | refine Below.alloc ?_ ?_ _ | refine below_drewN ?_ _ | refine below_drew ?_ | refine below_ext ?_ ?_ _ _ | refine Below.setCell ?_ ?_ _) | (simp; done) | (simp; omega) | omega))) ?_; intro g2 cap2 w2 hob3 hoth hat hg2 hsz2; have HO2 := Lib.hid (show OL asK askE w.heap.size w2 _ _ from HK2.out ▸ hob3); have HB2 := Lib.hid ((HBR.out.trans (show Below w.heap.size wr _ by (repeat' (first | (with_reducible first | exact Below.refl _ _ | assumption | refine Below.alloc ?_ ?_ _ | refine below_drewN ?_ _ | refine below_drew ?_ | refine below_ext ?_ ?_ _ _ | refine Below.setCell ?_ ?_ _) | (simp; done) | (simp; omega) | omega)))).trans (hoth.below (by first | omega | (simp; omega)) (fun k hk => HOWN.out k hk))); clear hob3 hoth hat hg2 hsz2)
          go_roundw
          case rel => exact ⟨k + 1, by go_num, by omega, HB2, HO2⟩
          case measure => simp [intOf]; omega
        all_goals
          go_wp2_with (at_builtin; refine wpList_append_ol asK_ok askE_cells rfl _ _ rfl rfl _ ((x, y), true) rfl (HOL.out _ (by (repeat' (first | (with_reducible first | exact Below.refl _ _ | assumption | refine Below.alloc ?_ ?_ _ | refine below_drewN ?_ _ | refine below_drew ?_ | refine below_ext ?_ ?_ _ _ | refine Below.setCell ?_ ?_ _) | (simp; done) | (simp; omega) | omega)))) (by simp [Act.eval]) (by omega) (by (repeat' (first | (with_reducible first | exact Below.refl _ _ | assumption | refine Below.alloc ?_ ?_ _ | refine below_drewN ?_ _ | refine below_drew ?_ | refine below_ext ?_ ?_ _ _ | refine Below.setCell ?_ ?_ _) | (simp; done) | (simp; omega) | omega))) ?_; intro g2 cap2 w2 hob3 hoth hat hg2 hsz2; have HO2 := Lib.hid (show OL asK askE w.heap.size w2 _ _ from HK2.out ▸ hob3); have HB2 := Lib.hid ((HBR.out.trans (show Below w.heap.size wr _ by (repeat' (first | (with_reducible first | exact Below.refl _ _ | assumption | refine Below.alloc ?_ ?_ _ | refine below_drewN ?_ _ | refine below_drew ?_ | refine below_ext ?_ ?_ _ _ | refine Below.setCell ?_ ?_ _) | (simp; done) | (simp; omega) | omega)))).trans (hoth.below (by first | omega | (simp; omega)) (fun k hk => HOWN.out k hk))); clear hob3 hoth hat hg2 hsz2)
          go_roundw
          case rel => exact ⟨k + 1, by go_num, by omega, HB2, HO2⟩
          case measure => simp [intOf]; omega
      by_cases hover : op = 36 ∨ op = 37
      · have HK2 := Lib.hid (show askM op ((ts.take (k + 1)).map IA.itm) = t1 ++ pk by rw [HTK.out]; unfold askF; rw [if_neg htest, if_pos hover])
        have hlk2 : t1.length + pk.length ≤ 100000 := by
          have := HW.out (k + 1)
          rw [HK2.out, List.length_append] at this
          exact this
        clear HTK hlk1 htest
        obtain ⟨p9, c9, e9, h9⟩ := HRD.out wr (Below.refl _ _)
        injection e9 with e91 e92 e93
        by_cases h0 : pk.length = 0
        · have hpk : pk = [] := List.eq_nil_of_length_eq_zero h0
          subst hpk
          have hpn : pn = 0 := e92
          subst hpn
          have HK3 := Lib.hid (show askM op ((ts.take (k + 1)).map IA.itm) = t1 by rw [HK2.out, List.append_nil])
          clear HK2 h9 e91 e92 e93 h0 HRD
          rcases hover with rfl | rfl
          all_goals
            go_wp2_with (at_builtin; refine append_none asK_ok rfl _ _ rfl rfl (HOL.out _ (by (repeat' (first | (with_reducible first | exact Below.refl _ _ | assumption | refine Below.alloc ?_ ?_ _ | refine below_drewN ?_ _ | refine below_drew ?_ | refine below_ext ?_ ?_ _ _ | refine Below.setCell ?_ ?_ _) | (simp; done) | (simp; omega) | omega)))) rfl ?_)
            go_roundw
            case rel => exact ⟨k + 1, by go_num, by omega, Lib.hid (HBR.out.trans (show Below w.heap.size wr _ by (repeat' (first | (with_reducible first | exact Below.refl _ _ | assumption | refine Below.alloc ?_ ?_ _ | refine below_drewN ?_ _ | refine below_drew ?_ | refine below_ext ?_ ?_ _ _ | refine Below.setCell ?_ ?_ _) | (simp; done) | (simp; omega) | omega)))), Lib.hid (HK3.out ▸ HOL.out _ (by (repeat' (first | (with_reducible first | exact Below.refl _ _ | assumption | refine Below.alloc ?_ ?_ _ | refine below_drewN ?_ _ | refine below_drew ?_ | refine below_ext ?_ ?_ _ _ | refine Below.setCell ?_ ?_ _) | (simp; done) | (simp; omega) | omega))))⟩
            case measure => simp [intOf]; omega
        · have hp0 : 0 < pk.length := by omega
          obtain ⟨g9, o9, rfl, hg9, hc9⟩ := h9 hp0
          subst e91 e93
          subst e92
          have hg9r : g9 < wr.heap.size := Nat.lt_of_lt_of_le hg9 hnr
          have HC9 := Lib.hid (show ∀ w', Below wr.heap.size wr w' → ∀ j (h : j < pk.length) i u, (askE pk[j])[i]? = some u → w'.cell? ⟨g9, o9 + j * asK.size + i, none⟩ = some u from fun w' hb j hj i u hu => by
            rw [hb.cell (p := ⟨g9, _, none⟩) hg9r]; exact hc9 j hj i u hu)
          clear hc9 h9 HRD h0
          rcases hover with rfl | rfl
          all_goals
            go_wp2_with (at_builtin; refine wpList_append_ols asK_ok askE_cells rfl _ _ rfl rfl _ (HOL.out _ (by (repeat' (first | (with_reducible first | exact Below.refl _ _ | assumption | refine Below.alloc ?_ ?_ _ | refine below_drewN ?_ _ | refine below_drew ?_ | refine below_ext ?_ ?_ _ _ | refine Below.setCell ?_ ?_ _) | (simp; done) | (simp; omega) | omega)))) rfl rfl (HC9.out _ (by (repeat' (first | (with_reducible first | exact Below.refl _ _ | assumption | refine Below.alloc ?_ ?_ _ | refine below_drewN ?_ _ | refine below_drew ?_ | refine below_ext ?_ ?_ _ _ | refine Below.setCell ?_ ?_ _) | (simp; done) | (simp; omega) | omega)))) hp0 (by omega) (by (repeat' (first | (with_reducible first | exact Below.refl _ _ | assumption | refine Below.alloc ?_ ?_ _ | refine below_drewN ?_ _ | refine below_drew ?_ | refine below_ext ?_ ?_ _ _ | refine Below.setCell ?_ ?_ _) | (simp; done) | (simp; omega) | omega))) ?_; intro g2 cap2 w2 hob3 hoth hat hg2 hsz2; have HO2 := Lib.hid (show OL asK askE w.heap.size w2 _ _ from HK2.out ▸ hob3); have HB2 := Lib.hid ((HBR.out.trans (show Below w.heap.size wr _ by (repeat' (first | (with_reducible first | exact Below.refl _ _ | assumption | refine Below.alloc ?_ ?_ _ | refine below_drewN ?_ _ | refine below_drew ?_ | refine below_ext ?_ ?_ _ _ | refine Below.setCell ?_ ?_ _) | (simp; done) | (simp; omega) | omega)))).trans (hoth.below (by first | omega | (simp; omega)) (fun k hk => HOWN.out k hk))); clear hob3 hoth hat hg2 hsz2)
            go_roundw
            case rel => exact ⟨k + 1, by go_num, by omega, HB2, HO2⟩
            case measure => simp [intOf]; omega
      · have HK2 := Lib.hid (show askM op ((ts.take (k + 1)).map IA.itm) = t1 by rw [HTK.out]; unfold askF; rw [if_neg htest, if_neg hover, List.append_nil])
        have q30 : (op == 30) = false := beq_eq_false_iff_ne.2 (by omega)
        have q31 : (op == 31) = false := beq_eq_false_iff_ne.2 (by omega)
        have q32 : (op == 32) = false := beq_eq_false_iff_ne.2 (by omega)
        have q33 : (op == 33) = false := beq_eq_false_iff_ne.2 (by omega)
        have q34 : (op == 34) = false := beq_eq_false_iff_ne.2 (by omega)
        have q35 : (op == 35) = false := beq_eq_false_iff_ne.2 (by omega)
        have q36 : (op == 36) = false := beq_eq_false_iff_ne.2 (by omega)
        have q37 : (op == 37) = false := beq_eq_false_iff_ne.2 (by omega)
        clear HTK hlk1 htest hover HRD
        go_wp2
        go_roundw
        case rel => exact ⟨k + 1, by go_num, by omega, Lib.hid (HBR.out.trans (show Below w.heap.size wr _ by (repeat' (first | (with_reducible first | exact Below.refl _ _ | assumption | refine Below.alloc ?_ ?_ _ | refine below_drewN ?_ _ | refine below_drew ?_ | refine below_ext ?_ ?_ _ _ | refine Below.setCell ?_ ?_ _) | (simp; done) | (simp; omega) | omega)))), Lib.hid (HK2.out ▸ HOL.out _ (by (repeat' (first | (with_reducible first | exact Below.refl _ _ | assumption | refine Below.alloc ?_ ?_ _ | refine below_drewN ?_ _ | refine below_drew ?_ | refine below_ext ?_ ?_ _ _ | refine Below.setCell ?_ ?_ _) | (simp; done) | (simp; omega) | omega))))⟩
        case measure => simp [intOf]; omega
    · obtain rfl : k = len := by omega
      have hki : ¬ (k : Int) < k := by omega
      have HO := Lib.hid (show OL asK askE w.heap.size wr u5 (askM op (ts.map IA.itm)) by
        have := hol.out
        rwa [List.take_of_length_le (by rw [← HL.out]; exact Nat.le_refl _)] at this)
      go_wp2
      go_ret
      exact ⟨_, rfl, HO.out, hbe.out⟩
end Go.Proofs.YtalahkincccffaaGreatDoor
