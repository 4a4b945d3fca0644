/-
  determine: the type of the last node and what it asks, or the error of the first that has one.
-/
import Derived.Test.YtalahkincccffaaGreatDoorTypG
import Derived.Test.YtalahkincccffaaGreatDoorTypC
namespace Go.Proofs.YtalahkincccffaaGreatDoor
open Go.RowKit Go.Maps Go.WideMaps Word Txt
attribute [local go_sem] setCell_drewN cell?_ext frozen?_ext shape?_ext setCell_ext lt_1' ne_1' en_1' le_1' lt_2' ne_2' en_2' le_2' lt_3' ne_3' en_3' le_3' lt_4' ne_4' en_4' le_4' lt_5' ne_5' en_5' le_5' lt_6' ne_6' en_6' le_6' lt_7' ne_7' en_7' le_7' lt_8' ne_8' en_8' le_8' lt_9' ne_9' en_9' le_9' lt_10' ne_10' en_10' le_10' lt_11' ne_11' en_11' le_11' lt_12' ne_12' en_12' le_12'

def fitR : List NdD → Nat → Prop
  | [], m => 0 < m
  | x :: r, m => takesN x.op x.k = true ∧ x.k ≤ m ∧ fitR r (m - x.k.toNat + 1)
theorem fitR_of : ∀ (r : List NdD) (i : Nat) (H : List Nat) {q : List Nat × List (List Nat)}, stkP i r H = some q → 0 < q.1.length → fitR r H.length
  | [], _, H, q, h, h0 => by
    have h2 : some (H, ([] : List (List Nat))) = some q := h
    injection h2 with h2
    subst h2
    exact h0
  | x :: r, i, H, q, h, h0 => by
    unfold stkP at h
    by_cases ht : takesN x.op x.k = true ∧ x.k ≤ H.length
    · rw [if_pos ht] at h
      cases hs : stkP (i + 1) r (H.take (H.length - x.k.toNat) ++ [i]) with
      | none => rw [hs] at h; cases h
      | some p =>
        rw [hs] at h
        have h2 : some (p.1, H.drop (H.length - x.k.toNat) :: p.2) = some q := h
        injection h2 with h2
        subst h2
        have := fitR_of r (i + 1) _ hs h0
        refine ⟨ht.1, ht.2, ?_⟩
        rwa [List.length_append, List.length_take, List.length_singleton, Nat.min_eq_left (by omega)] at this
    · rw [if_neg ht] at h; cases h
theorem RL.ot {α : Type} {k n : Nat} {enc : α → List Value} {w w' : World} {v : Value} {l : List α} {S : Nat → Prop} (h : RL k enc n w v l) (hn : n ≤ w.heap.size) (ho : Ot S w w') (hs : ∀ g o m c, v = .slice (some ⟨g, o, none⟩) m c → 0 < l.length → ¬ S g) : RL k enc n w' v l := by
  obtain ⟨p, c, rfl, h2⟩ := h
  refine ⟨p, c, rfl, fun h0 => ?_⟩
  obtain ⟨g, o, rfl, hg, hc⟩ := h2 h0
  exact ⟨g, o, rfl, hg, fun j hj i u hu => (ho.cell (by omega) (hs g o _ _ rfl h0)).trans (hc j hj i u hu)⟩
theorem OL.ask {B : Nat} {w : World} {q : Option Addr} {c : Nat} {l : List Ask} (h : OL asK askE B w (.slice q l.length c) l) : RL 3 askE w.heap.size w (.slice q l.length c) l := by
  refine ⟨q, c, rfl, fun h0 => ?_⟩
  obtain ⟨q2, c2, e, hq, -⟩ := OL.form h
  injection e with e1 _ _
  obtain ⟨g, rfl, -, hg⟩ := hq h0
  subst e1
  exact ⟨g, 0, rfl, hg, fun j hj i u hu => by
    have := OL.cell askE_cells h j i hj hu
    rwa [show j * asK.size + i = 0 + j * 3 + i by show j * 3 + i = _; omega] at this⟩
def StI (B : Nat) (w : World) (v : Value) (st : List IA) : Prop := ∀ y ∈ st, y.Rd w.heap.size w ∧ FmT y.t ∧ ∀ g o, y.p = some ⟨g, o, none⟩ → 0 < y.ks.length → B ≤ g ∧ v.ownBlock ≠ some g
theorem StI.step {B B2 : Nat} {w wB w2 : World} {v v1 v2 : Value} {st st1 : List IA} (h : StI B w v st) (hs : ∀ y ∈ st1, y ∈ st) (hb : Below w.heap.size w wB) (ho : Ot (fun k => v1.ownBlock = some k) wB w2) (hv : ∀ k, v1.ownBlock = some k ↔ v.ownBlock = some k) (hlt : ∀ k, v.ownBlock = some k → k < B2) (hB : B ≤ B2) (y : IA)
    (hy : OL asK askE B2 wB (.slice y.p y.n y.c) y.ks) (hn : y.n = y.ks.length) (hf : FmT y.t) {g2 : Nat} (hg : v1.ownBlock = some g2 ∨ wB.heap.size ≤ g2) (hv2 : v2.ownBlock = some g2) : StI B w2 v2 (st1 ++ [y]) := by
  intro z hz
  rcases List.mem_append.1 hz with hz | hz
  · obtain ⟨h1, h2, h3⟩ := h z (hs z hz)
    have h4 : z.Rd wB.heap.size wB := (h1.keep hb).more hb.size
    refine ⟨(h4.ot (Nat.le_refl _) ho fun g o m c e h0 e2 => ?_).more ho.size, h2, fun g o e h0 => ?_⟩
    · injection e with e1 _ _
      exact (h3 g o e1 h0).2 ((hv g).1 e2)
    · refine ⟨(h3 g o e h0).1, fun e2 => ?_⟩
      obtain rfl : g2 = g := Option.some.inj (hv2.symm.trans e2)
      rcases hg with hg | hg
      · exact (h3 _ o e h0).2 ((hv _).1 hg)
      · obtain ⟨p, c, e3, h9⟩ := h1
        obtain ⟨g', o', e4, h5, -⟩ := h9 h0
        injection e3 with e5 _ _
        rw [e5] at e
        rw [e4] at e
        injection e with e
        injection e with e6 _ _
        have := hb.size
        omega
  · simp only [List.mem_cons, List.mem_nil_iff, or_false] at hz
    subst hz
    have hy2 := hy
    rw [hn] at hy
    have hr := OL.ask hy
    have key : ∀ g o, z.p = some ⟨g, o, none⟩ → 0 < z.ks.length → B2 ≤ g ∧ g < wB.heap.size := fun g o e h0 => by
      obtain ⟨q2, c2, e3, hq, -⟩ := OL.form hy
      injection e3 with e1 _ _
      obtain ⟨g', e4, h5, h6⟩ := hq h0
      rw [← e1, e] at e4
      injection e4 with e4
      injection e4 with e4 _ _
      omega
    refine ⟨?_, hf, fun g o e h0 => ?_⟩
    · show RL 3 askE _ _ (.slice z.p z.n z.c) z.ks
      rw [hn]
      refine (hr.ot (Nat.le_refl _) ho fun g o m c e h0 e2 => ?_).more ho.size
      injection e with e1 _ _
      have h7 := key g o e1 h0
      have := hlt g ((hv g).1 e2)
      omega
    · have h7 := key g o e h0
      refine ⟨by omega, fun e2 => ?_⟩
      obtain rfl : g2 = g := Option.some.inj (hv2.symm.trans e2)
      rcases hg with hg | hg
      · have := hlt _ ((hv _).1 hg)
        omega
      · omega
def DtQ (R : Itm × Int) (w : World) (e : Ending) (w' : World) : Prop := Below w.heap.size w w' ∧ ∃ q k c, e = .returned (.tuple #[.agg #[.int .i64 R.1.1.1, .int .i64 R.1.1.2, .slice q k c], .int .i64 R.2]) ∧ RL 3 askE w'.heap.size w' (.slice q k c) R.1.2
theorem wtI_split (st : List IA) (r : Nat) : wtI st = wtI (st.take r) + wtI (st.drop r) := by
  conv => lhs; rw [← List.take_append_drop r st]
  unfold wtI
  rw [List.map_append, List.sum_append]
theorem runM_cons (sy : List SyD) (x : NdD) (l : List NdD) (st : List IA) (r : Nat) (hr : st.length - x.k.toNat = r) : runM sy (x :: l) (st.map IA.itm) = if errM sy x ((st.drop r).map IA.itm) = 0 then runM sy l ((st.take r).map IA.itm ++ [((tyM sy x ((st.drop r).map (·.t))).1, askM x.op ((st.drop r).map IA.itm))]) else (((0, 0), []), errM sy x ((st.drop r).map IA.itm)) := by
  have h1 : (((st.drop r).map IA.itm).map (·.1)) = (st.drop r).map (·.t) := by rw [List.map_map]; rfl
  rw [runM, List.length_map, hr, ← List.map_drop, ← List.map_take, h1]
set_option maxRecDepth 100000 in
set_option maxHeartbeats 16000000 in
theorem determine_any (sy : List SyD) (l : List NdD) (mb kn n : Nat) (w : World) (v : Value) (hm : SyIs w mb kn (findS sy)) (hsy : ∀ x ∈ sy, FmT x.t) (hv : RL 8 ndE n w v l) (hn : n ≤ w.heap.size) (hl : l.length ≤ 300) (hwf : ∀ x ∈ l, x.Wf) (hrun : fitR l 0) (hG : TyG w) :
    Calls Tryz.prog 15 #[.map (some mb), v] w fun e w' => DtQ (runM sy l []) w e w' := by
  have HD0 := Lib.hid (OL.nil tcK iaE (w.heap.size + 1) (w.alloc (.cells #[.int .i64 0, .int .i64 0, .slice none 0 0] 48)))
  obtain ⟨p, c, rfl, h2⟩ := hv
  have H2 := Lib.hid h2
  obtain ⟨len, hlen⟩ : ∃ len, len = l.length := ⟨_, rfl⟩
  have HL := Lib.hid hlen
  rw [← hlen] at hl ⊢
  have HR0 := Lib.hid hrun
  have HWF := Lib.hid hwf
  have HSY := Lib.hid hsy
  have HGM := Lib.hid (fun w' (hb : Below w.heap.size w w') => And.intro (hG.below hb) (hm.new hb))
  obtain ⟨RES, hres0⟩ : ∃ RES, RES = runM sy l [] := ⟨_, rfl⟩
  have HRES := Lib.hid hres0
  rw [← hres0]
  clear h2 hlen hrun hwf hsy hm hG hres0
  go_enter Tryz.func15, Tryz.ntmps15
  go_wp2
  go_loopw [6, 15] (fun x z wr => ∃ (i : Nat) (st : List IA), z = .int .i64 i ∧ i ≤ len ∧ st.length ≤ i ∧ Hid (OL tcK iaE (w.heap.size + 1) wr x st) ∧ Hid (Below w.heap.size w wr) ∧ w.heap.size < wr.heap.size ∧ Hid (fitR (l.drop i) st.length ∧ runM sy (l.drop i) (st.map IA.itm) = RES) ∧ Hid (StI (w.heap.size + 1) wr x st ∧ wtI st ≤ i) ∧
    wr.cell? ⟨w.heap.size, 0, none⟩ = some (.int .i64 0) ∧ wr.cell? ⟨w.heap.size, 1, none⟩ = some (.int .i64 0) ∧ wr.cell? ⟨w.heap.size, 2, none⟩ = some (.slice none 0 0) ∧ wr.frozen? ⟨w.heap.size, 0, none⟩ = false ∧ wr.frozen? ⟨w.heap.size, 1, none⟩ = false ∧ wr.frozen? ⟨w.heap.size, 2, none⟩ = false) (fun _ z _ => len - (intOf z).toNat)
  case atStart => exact ⟨0, [], rfl, Nat.zero_le _, Nat.le_refl _, HD0, Lib.hid (by (repeat' (first | (with_reducible first | exact Below.refl _ _ | assumption | refine Below.alloc ?_ ?_ _ | refine below_drewN ?_ _ | refine below_drew ?_ | refine below_ext ?_ ?_ _ _ | refine Below.setCell ?_ ?_ _) | (simp; done) | (simp; omega) | omega))), by simp, Lib.hid ⟨HR0.out, HRES.out.symm⟩, Lib.hid ⟨fun y hy => (by cases hy), Nat.le_refl _⟩, by simp [go_sem], by simp [go_sem], by simp [go_sem], by simp [go_sem], by simp [go_sem], by simp [go_sem]⟩
  case round =>
    obtain ⟨i, st, rfl, hile, hsti, hol, hbe, hlt, hru, hst0, r0, r1, r2, f0, f1, f2⟩ := hrel
    clear HD0 HR0
    have hsw := hbe.out.size
    have HBR := Lib.hid hbe.out
    have HKR := Lib.hid (show ∀ w', Below wr.heap.size wr w' → w.heap.size < w'.heap.size ∧ w'.cell? ⟨w.heap.size, 0, none⟩ = some (.int .i64 0) ∧ w'.cell? ⟨w.heap.size, 1, none⟩ = some (.int .i64 0) ∧ w'.cell? ⟨w.heap.size, 2, none⟩ = some (.slice none 0 0) ∧ w'.frozen? ⟨w.heap.size, 0, none⟩ = false ∧ w'.frozen? ⟨w.heap.size, 1, none⟩ = false ∧ w'.frozen? ⟨w.heap.size, 2, none⟩ = false from fun w' h => ⟨Nat.lt_of_lt_of_le hlt h.size, (h.cell (p := ⟨_, _, none⟩) hlt).trans r0, (h.cell (p := ⟨_, _, none⟩) hlt).trans r1, (h.cell (p := ⟨_, _, none⟩) hlt).trans r2, (h.frozen (p := ⟨_, _, none⟩) hlt).trans f0, (h.frozen (p := ⟨_, _, none⟩) hlt).trans f1, (h.frozen (p := ⟨_, _, none⟩) hlt).trans f2⟩)
    obtain ⟨q, cp, hvs, hq, hcp⟩ := OL.form hol.out
    have HOWN := Lib.hid (show ∀ n k2, (Value.slice q n cp).ownBlock = some k2 → w.heap.size + 1 ≤ k2 from fun n k2 h2 => (World.ownsRow.lt hol.out k2 (by rw [hvs]; cases q <;> exact h2)).1)
    have HOWN2 := Lib.hid (show ∀ n k2, (Value.slice q n cp).ownBlock = some k2 → k2 < wr.heap.size from fun n k2 h2 => (World.ownsRow.lt hol.out k2 (by rw [hvs]; cases q <;> exact h2)).2)
    have HOL := Lib.hid (show OL tcK iaE (w.heap.size + 1) wr (.slice q st.length cp) st from by rw [← hvs]; exact hol.out)
    obtain ⟨sn, hsn⟩ : ∃ sn, sn = st.length := ⟨_, rfl⟩
    have HSN := Lib.hid hsn
    rw [← hsn] at hvs hq hcp hsti HOL
    obtain rfl : u6 = .slice q sn cp := hvs
    clear hsn hol
    by_cases hil : i < len
    · have hii : (i : Int) < (len : Int) := by omega
      have hil2 : i < l.length := by rw [← HL.out]; exact hil
      obtain ⟨g, o, rfl, hg, hc⟩ := H2.out (by omega)
      have hgr : g < wr.heap.size := by omega
      have hc2 : ∀ j (h : j < l.length) i u, (ndE l[j])[i]? = some u → wr.cell? ⟨g, o + j * 8 + i, none⟩ = some u := fun j hj i u hu => by
        rw [hbe.out.cell (p := ⟨g, _, none⟩) (Nat.lt_of_lt_of_le hg hn)]; exact hc j hj i u hu
      obtain ⟨oa, ka, ta, na, ca, sa, da, he, x0, x1, x2, x3, x4, x5, x6, x7⟩ := nd_cells hc2 i hil2
      have hdr : l.drop i = ⟨oa, ka, ta, na, ca, sa, da⟩ :: l.drop (i + 1) := by rw [List.drop_eq_getElem_cons hil2, he]
      obtain ⟨hfr, hrm⟩ := hru.out
      rw [hdr] at hfr hrm
      obtain ⟨htk, hks, hfr2⟩ := hfr
      simp only at htk hks hfr2
      have hk0 := takes_nn htk
      obtain ⟨kk, rfl⟩ : ∃ kk : Nat, ka = (kk : Int) := ⟨ka.toNat, by omega⟩
      simp only [Int.toNat_natCast] at hfr2
      obtain ⟨hSI, hwt⟩ := hst0.out
      obtain ⟨r, hr⟩ : ∃ r, sn = r + kk := ⟨sn - kk, by have := HSN.out; omega⟩
      have hrr : sn - kk = r := by omega
      have hwfx : NdD.Wf ⟨oa, (kk : Int), ta, na, ca, sa, da⟩ := by rw [← he]; exact HWF.out _ (List.getElem_mem hil2)
      have hstr : st.length - ((kk : Int)).toNat = r := by rw [← HSN.out]; exact hrr
      rw [runM_cons sy ⟨oa, (kk : Int), ta, na, ca, sa, da⟩ (l.drop (i + 1)) st r hstr] at hrm
      have HFR2 := Lib.hid (show fitR (l.drop (i + 1)) (r + 1) by
        have := hfr2
        rwa [← HSN.out, hrr] at this)
      have E1 : (sn : Int) - (kk : Int) = (r : Int) := by omega
      have hfm : ∀ t ∈ (st.drop r).map (·.t), FmT t := fun t ht => by
        obtain ⟨y, hy, rfl⟩ := List.mem_map.1 ht
        exact (hSI y (List.mem_of_mem_drop hy)).2.1
      obtain ⟨T, hT⟩ : ∃ T, T = tyM sy ⟨oa, (kk : Int), ta, na, ca, sa, da⟩ ((st.drop r).map (·.t)) := ⟨_, rfl⟩
      have hTf : FmT T.1 := by rw [hT]; exact tyM_fm HSY.out hfm
      have hdl0 : (st.drop r).length = kk := by rw [List.length_drop, ← HSN.out]; omega
      have HC := Lib.hid (show ∀ w' pv, Below wr.heap.size wr w' → RL 2 tpE w'.heap.size w' pv ((st.drop r).map (·.t)) → Calls Tryz.prog 30 #[.map (some mb), .agg #[.int .i64 oa, .int .i64 (kk : Int), .string ta, .bool na, .int .u64 (Word.hi ca : Int), .int .u64 (Word.lo ca : Int), .int .i64 sa, .int .i64 da], pv] w' fun en w'' => en = .returned (.tuple #[.agg #[.int .i64 T.1.1, .int .i64 T.1.2], .int .i64 T.2]) ∧ Below w'.heap.size w' w'' from fun w' pv hb hp => by
        have hw9 := HGM.out w' (hbe.out.trans (hb.mono hsw))
        have := typeOf_any sy ⟨oa, (kk : Int), ta, na, ca, sa, da⟩ ((st.drop r).map (·.t)) mb kn w'.heap.size w' pv hw9.2 hp (Nat.le_refl _) (by rw [List.length_map, hdl0]; omega) (by rw [List.length_map, hdl0]; exact htk) hwfx.t hfm hw9.1
        rw [← hT] at this
        exact this)
      obtain ⟨ak, hak⟩ : ∃ ak, ak = askM oa ((st.drop r).map IA.itm) := ⟨_, rfl⟩
      have HAK := Lib.hid (show ak.length ≤ wtI (st.drop r) by rw [hak]; exact askM_len oa _)
      have HWT := Lib.hid (show wtI (st.take r) + wtI (st.drop r) ≤ i by rw [← wtI_split]; exact hwt)
      obtain ⟨ER, hER⟩ : ∃ ER, ER = errM sy ⟨oa, (kk : Int), ta, na, ca, sa, da⟩ ((st.drop r).map IA.itm) := ⟨_, rfl⟩
      have hER2 : ER = if T.2 = 0 ∧ oa = 23 ∧ fitB (itA ((st.drop r).map IA.itm) 1).2 (itA ((st.drop r).map IA.itm) 0).1 = false then 9 else T.2 := by
        rw [hER, hT]
        have h1 : (((st.drop r).map IA.itm).map (·.1)) = (st.drop r).map (·.t) := by rw [List.map_map]; rfl
        unfold errM
        rw [h1]
      rw [← hER, ← hT] at hrm
      have hrm2 : (if ER = 0 then runM sy (l.drop (i + 1)) ((st.take r).map IA.itm ++ [(T.1, ak)]) else (((0, 0), []), ER)) = RES := by rw [hak]; exact hrm
      obtain ⟨⟨t1, t2⟩, e⟩ := T
      simp only at hER2 hrm2 hTf HC
      have HGO := Lib.hid (show ER = 0 → runM sy (l.drop (i + 1)) ((st.take r).map IA.itm ++ [((t1, t2), ak)]) = RES from fun h => by rw [← hrm2, if_pos h])
      have HNO := Lib.hid (show ER ≠ 0 → RES = (((0, 0), []), ER) from fun h => by rw [← hrm2, if_neg h])
      have HE23 := Lib.hid hER2
      have HTF := Lib.hid hTf
      have HSI := Lib.hid hSI
      have HAS := Lib.hid (show ∀ w' P C, Below wr.heap.size wr w' → RL 3 iaE wr.heap.size wr (.slice P kk C) (st.drop r) → Calls Tryz.prog 32 #[.int .i64 oa, .slice P kk C] w' fun e w'' => ∃ pv, e = .returned pv ∧ OL asK askE w'.heap.size w'' pv ak ∧ Below w'.heap.size w' w'' from fun w' P C hb hp => by
        rw [hak]
        exact asksOf_any oa (st.drop r) wr.heap.size w' _ (hp.keep hb) hb.size (by rw [hdl0]; omega) (fun y hy => ((hSI y (List.mem_of_mem_drop hy)).1.keep hb)) (by have := HWT.out; omega))
      have HFI := Lib.hid (show oa = 23 → kk = 2 ∧ ∃ ya yb : IA, st.drop r = [ya, yb] ∧ itA ((st.drop r).map IA.itm) 1 = (yb.t, yb.ks) ∧ itA ((st.drop r).map IA.itm) 0 = (ya.t, ya.ks) ∧ yb.Rd wr.heap.size wr ∧ yb.ks.length ≤ 100000 from fun ho => by
        have hk2 : kk = 2 := by
          have h9 := takes_in (ho ▸ htk)
          omega
        obtain ⟨ya, yb, hab⟩ : ∃ ya yb, st.drop r = [ya, yb] := by
          match hd9 : st.drop r, (hdl0.trans hk2 : (st.drop r).length = 2) with
          | [ya, yb], _ => exact ⟨ya, yb, rfl⟩
        refine ⟨hk2, ya, yb, hab, by rw [hab]; rfl, by rw [hab]; rfl, (hSI yb (List.mem_of_mem_drop (show yb ∈ st.drop r by rw [hab]; simp))).1, ?_⟩
        have h8 := HWT.out
        rw [hab] at h8
        simp [wtI] at h8
        omega)
      have hdl : (st.drop r).length = kk := by rw [List.length_drop, ← HSN.out]; omega
      have HPR := Lib.hid (show ∀ (P : Option Addr) (C : Nat), (0 < kk → ∃ gd, P = some ⟨gd, r * 3, none⟩ ∧ q = some ⟨gd, 0, none⟩) → RL 3 iaE wr.heap.size wr (.slice P kk C) (st.drop r) from fun P C hP => by
        refine ⟨P, C, by rw [hdl], fun h0 => ?_⟩
        obtain ⟨gd, rfl, rfl⟩ := hP (by omega)
        refine ⟨gd, r * 3, rfl, (World.ownsRow.lt HOL.out gd rfl).2, fun j hj i2 u hu => ?_⟩
        have hl1 : r + j < st.length := by rw [hdl] at hj; rw [← HSN.out]; omega
        have hi2 : i2 < 3 := (List.getElem?_eq_some_iff.1 hu).1
        have hu2 : (iaE (st[r + j]))[i2]? = some u := by rw [List.getElem_drop] at hu; exact hu
        have c0 := OL.cell iaE_cells HOL.out (r + j) i2 hl1 hu2
        rwa [show (r + j) * tcK.size + i2 = r * 3 + j * 3 + i2 by show (r + j) * 3 + i2 = _; omega] at c0)
      have HOL3 := Lib.hid (show ∀ w', Below wr.heap.size wr w' → OL tcK iaE (w.heap.size + 1) w' (.slice q r cp) (st.take r) from fun w' hb => OL.take (m := r) iaE_cells (OL.new HOL.out hb) (by rw [← HSN.out]; omega))
      generalize (Word.hi ca : Int) = ha at *
      generalize (Word.lo ca : Int) = la at *
      clear hc hc2 he hdr hru hrm hrm2 hfr2 hSI hwt hwfx hstr hfm hT hTf hdl0 hak hER hER2 hst0 htk
      have hra : r + kk ≤ sn := by omega
      have hrb : sn ≤ r + kk := by omega
      clear hr hrr
      go_upto_region 6 with fail
      go_cut [10] (fun s10 wx => ∃ P C, s10 = .slice P kk C ∧ (0 < kk → ∃ gd, P = some ⟨gd, r * 3, none⟩ ∧ q = some ⟨gd, 0, none⟩) ∧ wx = wr.alloc (.cells #[.int .i64 oa, .int .i64 (kk : Int), .string ta, .bool na, .int .u64 ha, .int .u64 la, .int .i64 sa, .int .i64 da] 39))
      case first =>
        by_cases hk9 : kk = 0
        · subst hk9
          obtain rfl : r = sn := by omega
          clear E1 hk0 hks
          by_cases h0 : r = 0
          · subst h0
            go_wp2_with fail
            go_meet
            exact ⟨_, _, rfl, fun h => absurd h (by omega), rfl⟩
          · obtain ⟨gd, rfl, hgd1, hgd2⟩ := hq (by omega)
            have hcc : cp = r ∨ (r < cp ∧ ¬ cp = r) := by omega
            rcases hcc with rfl | ⟨hcc, hcc2⟩
            all_goals
              go_wp2_with fail
              go_meet
              exact ⟨_, _, rfl, fun h => absurd h (by omega), rfl⟩
        · obtain ⟨gd, rfl, hgd1, hgd2⟩ := hq (by omega)
          have hrc : r < cp := by omega
          have hrc2 : ¬ cp = r := by omega
          have hrs : (r : Int) ≤ (sn : Int) := by omega
          have hr1 : (0 : Int) ≤ (r : Int) := by omega
          have hsc : (sn : Int) ≤ (cp : Int) := by omega
          have hsc2 : (r : Int) + (kk : Int) ≤ (cp : Int) := by omega
          have hsc3 : (r : Int) ≤ (r : Int) + (kk : Int) := by omega
          have hnr : sn - r = kk := by omega
          go_wp2_with fail
          go_meet
          exact ⟨some ⟨gd, r * 3, none⟩, cp - r, by (first | rfl | rw [hnr]), fun _ => ⟨gd, rfl, rfl⟩, rfl⟩
      case rest =>
        obtain ⟨P, C, rfl, hP, rfl⟩ := hcut
        have HPV := Lib.hid (HPR.out P C hP)
        have HTO := Lib.hid (fun w' (hb : Below wr.heap.size wr w') => itypes_any (st.drop r) wr.heap.size w' _ (HPV.out.keep hb) hb.size (by omega))
        have HCC := HC
        have hkn : wr.heap.size < (wr.alloc (.cells #[.int .i64 oa, .int .i64 (kk : Int), .string ta, .bool na, .int .u64 ha, .int .u64 la, .int .i64 sa, .int .i64 da] 39)).heap.size := by simp
        have HKN := Lib.hid (show ∀ w', Below (wr.heap.size + 1) (wr.alloc (.cells #[.int .i64 oa, .int .i64 (kk : Int), .string ta, .bool na, .int .u64 ha, .int .u64 la, .int .i64 sa, .int .i64 da] 39)) w' → w'.cell? ⟨wr.heap.size, 0, none⟩ = some (.int .i64 oa) ∧ w'.cell? ⟨wr.heap.size, 1, none⟩ = some (.int .i64 (kk : Int)) ∧ w'.cell? ⟨wr.heap.size, 2, none⟩ = some (.string ta) ∧ w'.cell? ⟨wr.heap.size, 3, none⟩ = some (.bool na) ∧ w'.cell? ⟨wr.heap.size, 4, none⟩ = some (.int .u64 ha) ∧ w'.cell? ⟨wr.heap.size, 5, none⟩ = some (.int .u64 la) ∧ w'.cell? ⟨wr.heap.size, 6, none⟩ = some (.int .i64 sa) ∧ w'.cell? ⟨wr.heap.size, 7, none⟩ = some (.int .i64 da) from fun w' hb => by
          have hc := fun j => hb.cell (p := ⟨wr.heap.size, j, none⟩) (Nat.lt_succ_self _)
          exact ⟨(hc _).trans (by simp [go_sem]), (hc _).trans (by simp [go_sem]), (hc _).trans (by simp [go_sem]), (hc _).trans (by simp [go_sem]), (hc _).trans (by simp [go_sem]), (hc _).trans (by simp [go_sem]), (hc _).trans (by simp [go_sem]), (hc _).trans (by simp [go_sem])⟩)
        clear HPR HC hbe
        go_upto_region 7 with fail
        go_cut [11, 12] (fun s11 s12 wx => ∃ b, s11 = .pointer (some ⟨b, 0, none⟩) ∧ s12 = .int .i64 e ∧ wr.heap.size < b ∧ b < wx.heap.size ∧ wx.cell? ⟨b, 0, none⟩ = some (.int .i64 t1) ∧ wx.cell? ⟨b, 1, none⟩ = some (.int .i64 t2) ∧ Hid (Below wr.heap.size wr wx) ∧ wr.heap.size < wx.heap.size ∧ wx.cell? ⟨wr.heap.size, 0, none⟩ = some (.int .i64 oa))
        case first =>
          go_region_held3 (fun w' => w'.cell? ⟨wr.heap.size, 0, none⟩ = some (.int .i64 oa) ∧ w'.cell? ⟨wr.heap.size, 1, none⟩ = some (.int .i64 (kk : Int)) ∧ w'.cell? ⟨wr.heap.size, 2, none⟩ = some (.string ta) ∧ w'.cell? ⟨wr.heap.size, 3, none⟩ = some (.bool na) ∧ w'.cell? ⟨wr.heap.size, 4, none⟩ = some (.int .u64 ha) ∧ w'.cell? ⟨wr.heap.size, 5, none⟩ = some (.int .u64 la) ∧ w'.cell? ⟨wr.heap.size, 6, none⟩ = some (.int .i64 sa) ∧ w'.cell? ⟨wr.heap.size, 7, none⟩ = some (.int .i64 da)) (simp [go_sem]) (first
            | (go_at_call 31; (with_reducible refine (HTO.out _ (by (repeat' (first | (with_reducible first | exact Below.refl _ _ | assumption | refine Below.alloc ?_ ?_ _ | refine below_drewN ?_ _ | refine below_drew ?_ | refine below_ext ?_ ?_ _ _ | refine Below.setCell ?_ ?_ _) | (simp; done) | (simp; omega) | omega)))).mono ?_); rintro e9 w1 ⟨pv, rfl, hrl, hb1⟩; obtain ⟨osT, dT, rfl⟩ := ext_of_below hb1; have HRL := Lib.hid hrl; clear hb1 hrl)
            | (go_at_call 30; (with_reducible refine (HCC.out _ _ (by (repeat' (first | (with_reducible first | exact Below.refl _ _ | assumption | refine Below.alloc ?_ ?_ _ | refine below_drewN ?_ _ | refine below_drew ?_ | refine below_ext ?_ ?_ _ _ | refine Below.setCell ?_ ?_ _) | (simp; done) | (simp; omega) | omega))) (HRL.out.up (by (repeat' (first | (with_reducible first | exact Below.refl _ _ | assumption | refine Below.alloc ?_ ?_ _ | refine below_drewN ?_ _ | refine below_drew ?_ | refine below_ext ?_ ?_ _ _ | refine Below.setCell ?_ ?_ _) | (simp; done) | (simp; omega) | omega))))).mono ?_); rintro e9 w1 ⟨rfl, hb1⟩; obtain ⟨osC, dC, rfl⟩ := ext_of_below hb1; clear hb1))
          all_goals
            go_wp2_with fail
            go_meet
            exact ⟨_, rfl, rfl, by (first | (simp; done) | (simp; omega) | omega), by (first | (simp; done) | (simp; omega)), by simp [go_sem], by simp [go_sem], Lib.hid (by (repeat' (first | (with_reducible first | exact Below.refl _ _ | assumption | refine Below.alloc ?_ ?_ _ | refine below_drewN ?_ _ | refine below_drew ?_ | refine below_ext ?_ ?_ _ _ | refine Below.setCell ?_ ?_ _) | (simp; done) | (simp; omega) | omega))), by (first | (simp; done) | (simp; omega)), by simp [go_sem]⟩
        case rest =>
          obtain ⟨b, rfl, rfl, hbr, hbl, b0, b1, hbx, hlx, nx⟩ := hcut
          have hsx := hbx.out.size
          clear r0 r1 r2 f0 f1 f2
          by_cases he0 : e = 0
          · subst he0
            by_cases h23 : oa = 23
            · have q23 : (oa == 23) = true := by rw [h23]; rfl
              obtain ⟨hk2, ya, yb, hab, hi1, hi0, hyb, hybl⟩ := HFI.out h23
              have hk3 : 0 < kk := by omega
              have hk4 : (1 : Int) < (kk : Int) := by omega
              have hk5 : (0 : Int) < (kk : Int) := by omega
              obtain ⟨gd, rfl, hqe⟩ := hP hk3
              have HVW := HPV.out
              obtain ⟨p9, c9, e9, hc9⟩ := id HVW
              obtain ⟨g9, o9, e8, hg9, hcc⟩ := hc9 (by rw [hab]; simp)
              injection e9 with e91 e92 e93
              rw [← e91] at e8
              injection e8 with e8
              injection e8 with e81 e82 _
              subst e81 e82
              have hER3 : ER = if fitB yb.ks ya.t = false then 9 else 0 := by
                have h8 := HE23.out
                rw [hi1, hi0] at h8
                rw [h8]
                cases fitB yb.ks ya.t <;> simp [h23]
              obtain ⟨⟨za1, za2⟩, ap, an, ac, aks⟩ := ya
              obtain ⟨⟨zb1, zb2⟩, bp, bn, bc, bks⟩ := yb
              simp only at hER3 hybl
              have v0 : wr.cell? ⟨gd, r * 3, none⟩ = some (.int .i64 za1) := by
                have := hcc 0 (by rw [hab]; simp) 0 (.int .i64 za1) (by simp only [hab]; rfl)
                simpa using this
              have v1 : wr.cell? ⟨gd, r * 3 + 1, none⟩ = some (.int .i64 za2) := by
                have := hcc 0 (by rw [hab]; simp) 1 (.int .i64 za2) (by simp only [hab]; rfl)
                simpa using this
              have v2 : wr.cell? ⟨gd, r * 3 + 3, none⟩ = some (.int .i64 zb1) := by
                have := hcc 1 (by rw [hab]; simp) 0 (.int .i64 zb1) (by simp only [hab]; rfl)
                simpa using this
              have v3 : wr.cell? ⟨gd, r * 3 + 3 + 1, none⟩ = some (.int .i64 zb2) := by
                have := hcc 1 (by rw [hab]; simp) 1 (.int .i64 zb2) (by simp only [hab]; rfl)
                simpa using this
              have v4 : wr.cell? ⟨gd, r * 3 + 3 + 2, none⟩ = some (.slice bp bn bc) := by
                have := hcc 1 (by rw [hab]; simp) 2 (.slice bp bn bc) (by simp only [hab]; rfl)
                simpa using this
              have HV := Lib.hid (show ∀ w', Below wr.heap.size wr w' → w'.cell? ⟨gd, r * 3, none⟩ = some (.int .i64 za1) ∧ w'.cell? ⟨gd, r * 3 + 1, none⟩ = some (.int .i64 za2) ∧ w'.cell? ⟨gd, r * 3 + 3, none⟩ = some (.int .i64 zb1) ∧ w'.cell? ⟨gd, r * 3 + 3 + 1, none⟩ = some (.int .i64 zb2) ∧ w'.cell? ⟨gd, r * 3 + 3 + 2, none⟩ = some (.slice bp bn bc) from fun w' h => ⟨(h.cell (p := ⟨gd, _, none⟩) hg9).trans v0, (h.cell (p := ⟨gd, _, none⟩) hg9).trans v1, (h.cell (p := ⟨gd, _, none⟩) hg9).trans v2, (h.cell (p := ⟨gd, _, none⟩) hg9).trans v3, (h.cell (p := ⟨gd, _, none⟩) hg9).trans v4⟩)
              have HKV := Lib.hid (show ∀ w', Below wc.heap.size wc w' → w'.cell? ⟨wr.heap.size, 0, none⟩ = some (.int .i64 oa) ∧ w'.cell? ⟨gd, r * 3, none⟩ = some (.int .i64 za1) ∧ w'.cell? ⟨gd, r * 3 + 1, none⟩ = some (.int .i64 za2) ∧ w'.cell? ⟨gd, r * 3 + 3, none⟩ = some (.int .i64 zb1) ∧ w'.cell? ⟨gd, r * 3 + 3 + 1, none⟩ = some (.int .i64 zb2) ∧ w'.cell? ⟨gd, r * 3 + 3 + 2, none⟩ = some (.slice bp bn bc) from fun w' h => ⟨(h.cell (p := ⟨_, _, none⟩) hlx).trans nx, HV.out w' (hbx.out.trans (h.mono hsx))⟩)
              have HFT := Lib.hid (show ∀ w', Below wc.heap.size wc w' → Calls Tryz.prog 17 #[.agg #[.int .i64 zb1, .int .i64 zb2, .slice bp bn bc], .agg #[.int .i64 za1, .int .i64 za2]] w' fun e w'' => e = .returned (.bool (fitB bks (za1, za2))) ∧ Below w'.heap.size w' w'' from fun w' h => ifits_any (zb1, zb2) bks (za1, za2) wr.heap.size w' bp bn bc (hyb.keep (hbx.out.trans (h.mono hsx))) (Nat.le_trans hsx h.size) hybl (HGM.out w' (HBR.out.trans ((hbx.out.mono hsw).trans (h.mono (Nat.le_trans hsw hsx))))).1)
              generalize fitB bks (za1, za2) = fb at HFT hER3
              clear v0 v1 v2 v3 v4 hcc hc9 HVW hyb hi0 hi1 e91 e92 e93 hqe h23 hk2 hab
              cases fb with
              | true =>
                have HE0 := Lib.hid (show ER = 0 by rw [hER3]; rfl)
                clear hER3
                go_upto_region 8 with fail
                refine wp_region_held_drew (S := fun w' => w'.cell? ⟨wr.heap.size, 0, none⟩ = some (.int .i64 oa) ∧ w'.cell? ⟨gd, r * 3, none⟩ = some (.int .i64 za1) ∧ w'.cell? ⟨gd, r * 3 + 1, none⟩ = some (.int .i64 za2) ∧ w'.cell? ⟨gd, r * 3 + 3, none⟩ = some (.int .i64 zb1) ∧ w'.cell? ⟨gd, r * 3 + 3 + 1, none⟩ = some (.int .i64 zb2) ∧ w'.cell? ⟨gd, r * 3 + 3 + 2, none⟩ = some (.slice bp bn bc)) (by kernel_rfl) ?r8cxhSa (fun hHeld => ?r8cxresta)
                case r8cxhSa => ((try dsimp only); exact HKV.out _ (by (repeat' (first | (with_reducible first | exact Below.refl _ _ | assumption | refine Below.alloc ?_ ?_ _ | refine below_drewN ?_ _ | refine below_drew ?_ | refine below_ext ?_ ?_ _ _ | refine Below.setCell ?_ ?_ _) | (simp; done) | (simp; omega) | omega))))
                refine wpAnyH_take (i := 0) (oi := ({ dst := some 35, op := Op.move (Operand.tmp 12), type := 27, pos := "items.go:42", after := #[], guard := none } : Oper)) (v := ?r8cxv1) rfl (by kernel_rfl) (by kernel_rfl) (by kernel_rfl) (fun _ _ _ h => h) (Or.inl ⟨by rfl, ?r8cxhy1⟩) (by assumption) ?r8cxre1
                case r8cxhy1 => (intro w hSw; (try dsimp only at hSw); go_simp; try with_reducible rfl)
                (try simp only [Act.put, List.setIfInBounds_toArray, List.set_cons_zero, List.set_cons_succ])
                refine wpAnyH_take (i := 1) (oi := ({ dst := some 36, op := Op.binOp BinOp.eql 27 (Operand.tmp 35) (Operand.const (Value.int IntKind.i64 0)) 27, type := 4, pos := "items.go:42", after := #[{ on := 0, ground := Ground.data }], guard := none } : Oper)) (v := ?r8cxv2) rfl (by kernel_rfl) (by kernel_rfl) (by kernel_rfl) (fun _ _ _ h => h) (Or.inl ⟨by rfl, ?r8cxhy2⟩) (by assumption) ?r8cxre2
                case r8cxhy2 => (intro w hSw; (try dsimp only at hSw); go_simp; try with_reducible rfl)
                (try simp only [Act.put, List.setIfInBounds_toArray, List.set_cons_zero, List.set_cons_succ])
                refine wpAnyH_take (i := 2) (oi := ({ dst := some 37, op := Op.move (Operand.tmp 36), type := 4, pos := "items.go:42", after := #[{ on := 1, ground := Ground.data }], guard := none } : Oper)) (v := ?r8cxv3) rfl (by kernel_rfl) (by kernel_rfl) (by kernel_rfl) (fun _ _ _ h => h) (Or.inl ⟨by rfl, ?r8cxhy3⟩) (by assumption) ?r8cxre3
                case r8cxhy3 => (intro w hSw; (try dsimp only at hSw); go_simp; try with_reducible rfl)
                (try simp only [Act.put, List.setIfInBounds_toArray, List.set_cons_zero, List.set_cons_succ])
                refine wpAnyH_take (i := 3) (oi := ({ dst := some 38, op := Op.fieldAddr 39 (Operand.tmp 8) 0, type := 0, pos := "items.go:42", after := #[{ on := 2, ground := Ground.guard }], guard := some (2, true) } : Oper)) (v := ?r8cxv4) rfl (by kernel_rfl) (by kernel_rfl) (by kernel_rfl) (fun _ _ _ h => h) (Or.inl ⟨by rfl, ?r8cxhy4⟩) (by assumption) ?r8cxre4
                case r8cxhy4 => (intro w hSw; (try dsimp only at hSw); go_simp; try with_reducible rfl)
                (try simp only [Act.put, List.setIfInBounds_toArray, List.set_cons_zero, List.set_cons_succ])
                refine wpAnyH_take (i := 4) (oi := ({ dst := some 39, op := Op.load 3 (Operand.tmp 38), type := 3, pos := "items.go:42", after := #[{ on := 3, ground := Ground.data }, { on := 2, ground := Ground.guard }], guard := some (2, true) } : Oper)) (v := ?r8cxv5) rfl (by kernel_rfl) (by kernel_rfl) (by kernel_rfl) (fun _ _ _ h => h) (Or.inl ⟨by rfl, ?r8cxhy5⟩) (by assumption) ?r8cxre5
                case r8cxhy5 => (intro w hSw; (try dsimp only at hSw); go_simp; try with_reducible rfl)
                (try simp only [Act.put, List.setIfInBounds_toArray, List.set_cons_zero, List.set_cons_succ])
                refine wpAnyH_take (i := 5) (oi := ({ dst := some 40, op := Op.binOp BinOp.eql 3 (Operand.tmp 39) (Operand.const (Value.int IntKind.i64 23)) 3, type := 4, pos := "items.go:42", after := #[{ on := 4, ground := Ground.data }, { on := 2, ground := Ground.guard }], guard := some (2, true) } : Oper)) (v := ?r8cxv6) rfl (by kernel_rfl) (by kernel_rfl) (by kernel_rfl) (fun _ _ _ h => h) (Or.inl ⟨by rfl, ?r8cxhy6⟩) (by assumption) ?r8cxre6
                case r8cxhy6 => (intro w hSw; (try dsimp only at hSw); go_simp; try with_reducible rfl)
                (try simp only [Act.put, List.setIfInBounds_toArray, List.set_cons_zero, List.set_cons_succ])
                refine wpAnyH_take (i := 6) (oi := ({ dst := some 41, op := Op.pick (Operand.tmp 37) (Operand.tmp 40) (Operand.const (Value.bool false)), type := 4, pos := "items.go:42", after := #[{ on := 2, ground := Ground.data }, { on := 5, ground := Ground.data }], guard := none } : Oper)) (v := ?r8cxv7) rfl (by kernel_rfl) (by kernel_rfl) (by kernel_rfl) (fun _ _ _ h => h) (Or.inl ⟨by rfl, ?r8cxhy7⟩) (by assumption) ?r8cxre7
                case r8cxhy7 => (intro w hSw; (try dsimp only at hSw); go_simp; try with_reducible rfl)
                (try simp only [Act.put, List.setIfInBounds_toArray, List.set_cons_zero, List.set_cons_succ])
                refine wpAnyH_take (i := 7) (oi := ({ dst := some 42, op := Op.move (Operand.tmp 41), type := 4, pos := "items.go:42", after := #[{ on := 6, ground := Ground.data }, { on := 2, ground := Ground.chain }], guard := none } : Oper)) (v := ?r8cxv8) rfl (by kernel_rfl) (by kernel_rfl) (by kernel_rfl) (fun _ _ _ h => h) (Or.inl ⟨by rfl, ?r8cxhy8⟩) (by assumption) ?r8cxre8
                case r8cxhy8 => (intro w hSw; (try dsimp only at hSw); go_simp; try with_reducible rfl)
                (try simp only [Act.put, List.setIfInBounds_toArray, List.set_cons_zero, List.set_cons_succ])
                refine wpAnyH_take (i := 8) (oi := ({ dst := some 43, op := Op.move (Operand.tmp 10), type := 70, pos := "items.go:42", after := #[{ on := 7, ground := Ground.guard }], guard := some (7, true) } : Oper)) (v := ?r8cxv9) rfl (by kernel_rfl) (by kernel_rfl) (by kernel_rfl) (fun _ _ _ h => h) (Or.inl ⟨by rfl, ?r8cxhy9⟩) (by assumption) ?r8cxre9
                case r8cxhy9 => (intro w hSw; (try dsimp only at hSw); go_simp; try with_reducible rfl)
                (try simp only [Act.put, List.setIfInBounds_toArray, List.set_cons_zero, List.set_cons_succ])
                refine wpAnyH_take (i := 9) (oi := ({ dst := some 44, op := Op.indexAddr 70 (Operand.tmp 43) (Operand.const (Value.int IntKind.i64 1)), type := 0, pos := "items.go:42", after := #[{ on := 8, ground := Ground.data }, { on := 7, ground := Ground.guard }], guard := some (7, true) } : Oper)) (v := ?r8cxv10) rfl (by kernel_rfl) (by kernel_rfl) (by kernel_rfl) (fun _ _ _ h => h) (Or.inl ⟨by rfl, ?r8cxhy10⟩) (by assumption) ?r8cxre10
                case r8cxhy10 => (intro w hSw; (try dsimp only at hSw); go_simp; try with_reducible rfl)
                (try simp only [Act.put, List.setIfInBounds_toArray, List.set_cons_zero, List.set_cons_succ])
                refine wpAnyH_take (i := 10) (oi := ({ dst := some 45, op := Op.load 48 (Operand.tmp 44), type := 48, pos := "items.go:42", after := #[{ on := 9, ground := Ground.data }, { on := 7, ground := Ground.guard }], guard := some (7, true) } : Oper)) (v := ?r8cxv11) rfl (by kernel_rfl) (by kernel_rfl) (by kernel_rfl) (fun _ _ _ h => h) (Or.inl ⟨by rfl, ?r8cxhy11⟩) (by assumption) ?r8cxre11
                case r8cxhy11 => (intro w hSw; (try dsimp only at hSw); go_simp; try with_reducible rfl)
                (try simp only [Act.put, List.setIfInBounds_toArray, List.set_cons_zero, List.set_cons_succ])
                refine wpAnyH_take (i := 11) (oi := ({ dst := some 46, op := Op.move (Operand.tmp 10), type := 70, pos := "items.go:42", after := #[{ on := 7, ground := Ground.guard }], guard := some (7, true) } : Oper)) (v := ?r8cxv12) rfl (by kernel_rfl) (by kernel_rfl) (by kernel_rfl) (fun _ _ _ h => h) (Or.inl ⟨by rfl, ?r8cxhy12⟩) (by assumption) ?r8cxre12
                case r8cxhy12 => (intro w hSw; (try dsimp only at hSw); go_simp; try with_reducible rfl)
                (try simp only [Act.put, List.setIfInBounds_toArray, List.set_cons_zero, List.set_cons_succ])
                refine wpAnyH_take (i := 12) (oi := ({ dst := some 47, op := Op.indexAddr 70 (Operand.tmp 46) (Operand.const (Value.int IntKind.i64 0)), type := 0, pos := "items.go:42", after := #[{ on := 11, ground := Ground.data }, { on := 7, ground := Ground.guard }], guard := some (7, true) } : Oper)) (v := ?r8cxv13) rfl (by kernel_rfl) (by kernel_rfl) (by kernel_rfl) (fun _ _ _ h => h) (Or.inl ⟨by rfl, ?r8cxhy13⟩) (by assumption) ?r8cxre13
                case r8cxhy13 => (intro w hSw; (try dsimp only at hSw); go_simp; try with_reducible rfl)
                (try simp only [Act.put, List.setIfInBounds_toArray, List.set_cons_zero, List.set_cons_succ])
                refine wpAnyH_take (i := 13) (oi := ({ dst := some 48, op := Op.fieldAddr 48 (Operand.tmp 47) 0, type := 0, pos := "items.go:42", after := #[{ on := 12, ground := Ground.data }, { on := 7, ground := Ground.guard }], guard := some (7, true) } : Oper)) (v := ?r8cxv14) rfl (by kernel_rfl) (by kernel_rfl) (by kernel_rfl) (fun _ _ _ h => h) (Or.inl ⟨by rfl, ?r8cxhy14⟩) (by assumption) ?r8cxre14
                case r8cxhy14 => (intro w hSw; (try dsimp only at hSw); go_simp; try with_reducible rfl)
                (try simp only [Act.put, List.setIfInBounds_toArray, List.set_cons_zero, List.set_cons_succ])
                refine wpAnyH_take (i := 14) (oi := ({ dst := some 49, op := Op.load 26 (Operand.tmp 48), type := 26, pos := "items.go:42", after := #[{ on := 13, ground := Ground.data }, { on := 7, ground := Ground.guard }], guard := some (7, true) } : Oper)) (v := ?r8cxv15) rfl (by kernel_rfl) (by kernel_rfl) (by kernel_rfl) (fun _ _ _ h => h) (Or.inl ⟨by rfl, ?r8cxhy15⟩) (by assumption) ?r8cxre15
                case r8cxhy15 => (intro w hSw; (try dsimp only at hSw); go_simp; try with_reducible rfl)
                (try simp only [Act.put, List.setIfInBounds_toArray, List.set_cons_zero, List.set_cons_succ])
                refine wpAnyH_ready (rs := [15]) (by kernel_rfl) (by simp) ?_
                refine AllReadyH.cons (o := ({ dst := some 50, op := Op.call { callee := Callee.value (Operand.func 17), args := #[Operand.tmp 45, Operand.tmp 49], argTypes := #[48, 26] }, type := 4, pos := "items.go:42", after := #[{ on := 10, ground := Ground.data }, { on := 14, ground := Ground.data }, { on := 7, ground := Ground.chain }, { on := 7, ground := Ground.guard }], guard := some (7, true) } : Oper)) rfl (fun K hK => ?_) AllReadyH.nil
                go_simp
                (go_at_call 17; (with_reducible refine (HFT.out _ (by (repeat' (first | (with_reducible first | exact Below.refl _ _ | assumption | refine Below.alloc ?_ ?_ _ | refine below_drewN ?_ _ | refine below_drew ?_ | refine below_ext ?_ ?_ _ _ | refine Below.setCell ?_ ?_ _) | (simp; done) | (simp; omega) | omega)))).mono ?_); rintro e9 w1 ⟨rfl, hb1⟩; obtain ⟨osA, dA, rfl⟩ := ext_of_below hb1; clear hb1)
                refine hK.out _ _ ?r8cxhS16 (fun hHeldN => ?r8cxrst16)
                case r8cxhS16 => ((try dsimp only); exact HKV.out _ (by (repeat' (first | (with_reducible first | exact Below.refl _ _ | assumption | refine Below.alloc ?_ ?_ _ | refine below_drewN ?_ _ | refine below_drew ?_ | refine below_ext ?_ ?_ _ _ | refine Below.setCell ?_ ?_ _) | (simp; done) | (simp; omega) | omega))))
                clear hHeld hK K
                have hHeld := hHeldN
                clear hHeldN
                refine wpAnyH_take (i := 16) (oi := ({ dst := some 51, op := Op.unOp UnOp.not 4 (Operand.tmp 50), type := 4, pos := "items.go:42", after := #[{ on := 15, ground := Ground.data }, { on := 7, ground := Ground.guard }], guard := some (7, true) } : Oper)) (v := ?r8cxv17) rfl (by kernel_rfl) (by kernel_rfl) (by kernel_rfl) (fun _ _ _ h => h) (Or.inl ⟨by rfl, ?r8cxhy17⟩) (by assumption) ?r8cxre17
                case r8cxhy17 => (intro w hSw; (try dsimp only at hSw); go_simp; try with_reducible rfl)
                (try simp only [Act.put, List.setIfInBounds_toArray, List.set_cons_zero, List.set_cons_succ])
                refine wpAnyH_take (i := 17) (oi := ({ dst := some 52, op := Op.pick (Operand.tmp 42) (Operand.tmp 51) (Operand.const (Value.bool false)), type := 4, pos := "items.go:42", after := #[{ on := 7, ground := Ground.data }, { on := 16, ground := Ground.data }], guard := none } : Oper)) (v := ?r8cxv18) rfl (by kernel_rfl) (by kernel_rfl) (by kernel_rfl) (fun _ _ _ h => h) (Or.inl ⟨by rfl, ?r8cxhy18⟩) (by assumption) ?r8cxre18
                case r8cxhy18 => (intro w hSw; (try dsimp only at hSw); go_simp; try with_reducible rfl)
                (try simp only [Act.put, List.setIfInBounds_toArray, List.set_cons_zero, List.set_cons_succ])
                refine wpAnyH_done (by kernel_rfl) ?_ _
                clear hHeld
                go_upto_region 12 with fail
                obtain ⟨st1, hst1⟩ : ∃ st1, st1 = st.take r := ⟨_, rfl⟩
                rw [← hst1] at HOL3 HGO HWT
                have HSUB := Lib.hid (show ∀ y ∈ st1, y ∈ st from fun y hy => List.mem_of_mem_take (hst1 ▸ hy))
                have HL1 := Lib.hid (show st1.length = r by rw [hst1, List.length_take, ← HSN.out]; omega)
                have HRUN := Lib.hid (HGO.out HE0.out)
                have HKB := Lib.hid (show ∀ w', Below wc.heap.size wc w' → w'.cell? ⟨wr.heap.size, 0, none⟩ = some (.int .i64 oa) ∧ w'.cell? ⟨b, 0, none⟩ = some (.int .i64 t1) ∧ w'.cell? ⟨b, 1, none⟩ = some (.int .i64 t2) from fun w' h => ⟨(h.cell (p := ⟨_, _, none⟩) hlx).trans nx, (h.cell (p := ⟨_, _, none⟩) hbl).trans b0, (h.cell (p := ⟨_, _, none⟩) hbl).trans b1⟩)
                have HKT := Lib.hid (show ∀ wB, Below wc.heap.size wc wB → ∀ w2, Ot (fun k => (Value.slice q r cp).ownBlock = some k) wB w2 → w2.cell? ⟨wr.heap.size, 0, none⟩ = some (.int .i64 oa) ∧ w2.cell? ⟨b, 0, none⟩ = some (.int .i64 t1) ∧ w2.cell? ⟨b, 1, none⟩ = some (.int .i64 t2) from fun wB h w2 ho => by
                  obtain ⟨k0, k1, k2⟩ := HKB.out wB h
                  have hb9 := h.size
                  exact ⟨(ho.cell (by omega) (fun e => by have := HOWN2.out _ _ e; omega)).trans k0, (ho.cell (by omega) (fun e => by have := HOWN2.out _ _ e; omega)).trans k1, (ho.cell (by omega) (fun e => by have := HOWN2.out _ _ e; omega)).trans k2⟩)
                clear hst1
                have hrcp : r ≤ cp := by omega
                have hrcp2 : (r : Int) ≤ (cp : Int) := by omega
                refine wp_region_held_drew (S := fun w' => w'.cell? ⟨wr.heap.size, 0, none⟩ = some (.int .i64 oa) ∧ w'.cell? ⟨b, 0, none⟩ = some (.int .i64 t1) ∧ w'.cell? ⟨b, 1, none⟩ = some (.int .i64 t2)) (by kernel_rfl) ?r12xhSa (fun hHeld => ?r12xresta)
                case r12xhSa => ((try dsimp only); first | exact HKB.out _ (by (repeat' (first | (with_reducible first | exact Below.refl _ _ | assumption | refine Below.alloc ?_ ?_ _ | refine below_drewN ?_ _ | refine below_drew ?_ | refine below_ext ?_ ?_ _ _ | refine Below.setCell ?_ ?_ _) | (simp; done) | (simp; omega) | omega))) | exact HKB.out _ (HBB.out.trans (by (repeat' (first | (with_reducible first | exact Below.refl _ _ | assumption | refine Below.alloc ?_ ?_ _ | refine below_drewN ?_ _ | refine below_drew ?_ | refine below_ext ?_ ?_ _ _ | refine Below.setCell ?_ ?_ _) | (simp; done) | (simp; omega) | omega)))))
                refine wpAnyH_take (i := 0) (oi := ({ dst := some 57, op := Op.move (Operand.tmp 6), type := 70, pos := "items.go:48", after := #[], guard := none } : Oper)) (v := ?r12xv1) rfl (by kernel_rfl) (by kernel_rfl) (by kernel_rfl) (fun _ _ _ h => h) (Or.inl ⟨by rfl, ?r12xhy1⟩) (by assumption) ?r12xre1
                case r12xhy1 => (intro w hSw; (try dsimp only at hSw); go_simp; try with_reducible rfl)
                (try simp only [Act.put, List.setIfInBounds_toArray, List.set_cons_zero, List.set_cons_succ])
                refine wpAnyH_take (i := 1) (oi := ({ dst := some 58, op := Op.move (Operand.tmp 9), type := 3, pos := "items.go:48", after := #[], guard := none } : Oper)) (v := ?r12xv2) rfl (by kernel_rfl) (by kernel_rfl) (by kernel_rfl) (fun _ _ _ h => h) (Or.inl ⟨by rfl, ?r12xhy2⟩) (by assumption) ?r12xre2
                case r12xhy2 => (intro w hSw; (try dsimp only at hSw); go_simp; try with_reducible rfl)
                (try simp only [Act.put, List.setIfInBounds_toArray, List.set_cons_zero, List.set_cons_succ])
                refine wpAnyH_take (i := 2) (oi := ({ dst := some 59, op := Op.slice 70 (Operand.tmp 57) none (some (Operand.tmp 58)) none, type := 70, pos := "items.go:48", after := #[{ on := 0, ground := Ground.data }, { on := 1, ground := Ground.data }], guard := none } : Oper)) (v := ?r12xv3) rfl (by kernel_rfl) (by kernel_rfl) (by kernel_rfl) (fun _ _ _ h => h) (Or.inl ⟨by rfl, ?r12xhy3⟩) (by assumption) ?r12xre3
                case r12xhy3 => (intro w hSw; (try dsimp only at hSw); go_simp; try with_reducible rfl)
                (try simp only [Act.put, List.setIfInBounds_toArray, List.set_cons_zero, List.set_cons_succ])
                refine wpAnyH_take (i := 3) (oi := ({ dst := some 60, op := Op.load 26 (Operand.tmp 11), type := 26, pos := "items.go:48", after := #[], guard := none } : Oper)) (v := ?r12xv4) rfl (by kernel_rfl) (by kernel_rfl) (by kernel_rfl) (fun _ _ _ h => h) (Or.inl ⟨by rfl, ?r12xhy4⟩) (by assumption) ?r12xre4
                case r12xhy4 => (intro w hSw; (try dsimp only at hSw); go_simp; try with_reducible rfl)
                (try simp only [Act.put, List.setIfInBounds_toArray, List.set_cons_zero, List.set_cons_succ])
                refine wpAnyH_take (i := 4) (oi := ({ dst := some 61, op := Op.fieldAddr 39 (Operand.tmp 8) 0, type := 0, pos := "items.go:48", after := #[], guard := none } : Oper)) (v := ?r12xv5) rfl (by kernel_rfl) (by kernel_rfl) (by kernel_rfl) (fun _ _ _ h => h) (Or.inl ⟨by rfl, ?r12xhy5⟩) (by assumption) ?r12xre5
                case r12xhy5 => (intro w hSw; (try dsimp only at hSw); go_simp; try with_reducible rfl)
                (try simp only [Act.put, List.setIfInBounds_toArray, List.set_cons_zero, List.set_cons_succ])
                refine wpAnyH_take (i := 5) (oi := ({ dst := some 62, op := Op.load 3 (Operand.tmp 61), type := 3, pos := "items.go:48", after := #[{ on := 4, ground := Ground.data }], guard := none } : Oper)) (v := ?r12xv6) rfl (by kernel_rfl) (by kernel_rfl) (by kernel_rfl) (fun _ _ _ h => h) (Or.inl ⟨by rfl, ?r12xhy6⟩) (by assumption) ?r12xre6
                case r12xhy6 => (intro w hSw; (try dsimp only at hSw); go_simp; try with_reducible rfl)
                (try simp only [Act.put, List.setIfInBounds_toArray, List.set_cons_zero, List.set_cons_succ])
                refine wpAnyH_take (i := 6) (oi := ({ dst := some 63, op := Op.move (Operand.tmp 10), type := 70, pos := "items.go:48", after := #[], guard := none } : Oper)) (v := ?r12xv7) rfl (by kernel_rfl) (by kernel_rfl) (by kernel_rfl) (fun _ _ _ h => h) (Or.inl ⟨by rfl, ?r12xhy7⟩) (by assumption) ?r12xre7
                case r12xhy7 => (intro w hSw; (try dsimp only at hSw); go_simp; try with_reducible rfl)
                (try simp only [Act.put, List.setIfInBounds_toArray, List.set_cons_zero, List.set_cons_succ])
                refine wpAnyH_ready (rs := [7]) (by kernel_rfl) (by simp) ?_
                refine AllReadyH.cons (o := ({ dst := some 64, op := Op.call { callee := Callee.value (Operand.func 32), args := #[Operand.tmp 62, Operand.tmp 63], argTypes := #[3, 70] }, type := 46, pos := "items.go:48", after := #[{ on := 5, ground := Ground.data }, { on := 6, ground := Ground.data }], guard := none } : Oper)) rfl (fun K hK => ?_) AllReadyH.nil
                go_simp
                (go_at_call 32; (with_reducible refine (HAS.out _ _ _ (hbx.out.trans (by (repeat' (first | (with_reducible first | exact Below.refl _ _ | assumption | refine Below.alloc ?_ ?_ _ | refine below_drewN ?_ _ | refine below_drew ?_ | refine below_ext ?_ ?_ _ _ | refine Below.setCell ?_ ?_ _) | (simp; done) | (simp; omega) | omega)))) HPV.out).mono ?_); rintro e9 wB ⟨pv8, rfl, hak8, hbB⟩; have HBB := Lib.hid (show Below wc.heap.size wc wB from (show Below wc.heap.size wc _ by (repeat' (first | (with_reducible first | exact Below.refl _ _ | assumption | refine Below.alloc ?_ ?_ _ | refine below_drewN ?_ _ | refine below_drew ?_ | refine below_ext ?_ ?_ _ _ | refine Below.setCell ?_ ?_ _) | (simp; done) | (simp; omega) | omega))).trans (hbB.mono (by first | (simp; done) | (simp; omega)))); have hsB := HBB.out.size; obtain ⟨q8, c8, rfl, -, -⟩ := OL.form hak8; have HAK8 := Lib.hid (hak8.low (B' := wc.heap.size) (by first | exact Nat.le_refl _ | (simp; done) | (simp; omega))); clear hbB hak8)
                refine hK.out _ _ ?r12xhS8 (fun hHeldN => ?r12xrst8)
                case r12xhS8 => ((try dsimp only); exact HKB.out _ HBB.out)
                clear hHeld hK K
                have hHeld := hHeldN
                clear hHeldN
                refine wpAnyH_take (i := 8) (oi := ({ dst := some 65, op := Op.build 48 #[(0, Operand.tmp 60), (1, Operand.tmp 64)], type := 48, pos := "items.go:48", after := #[{ on := 3, ground := Ground.data }, { on := 7, ground := Ground.data }], guard := none } : Oper)) (v := ?r12xv9) rfl (by kernel_rfl) (by kernel_rfl) (by kernel_rfl) (fun _ _ _ h => h) (Or.inl ⟨by rfl, ?r12xhy9⟩) (by assumption) ?r12xre9
                case r12xhy9 => (intro w hSw; (try dsimp only at hSw); go_simp; try with_reducible rfl)
                (try simp only [Act.put, List.setIfInBounds_toArray, List.set_cons_zero, List.set_cons_succ])
                refine wpAnyH_ready (rs := [9]) (by kernel_rfl) (by simp) ?_
                refine AllReadyH.cons (o := ({ dst := some 66, op := Op.buildSlice 70 1 #[(0, Operand.tmp 65)], type := 70, pos := "items.go:48", after := #[{ on := 8, ground := Ground.data }], guard := none } : Oper)) rfl (fun K hK => ?_) AllReadyH.nil
                go_simp
                refine hK.out _ _ ?r12xhS10 (fun hHeldN => ?r12xrst10)
                case r12xhS10 => ((try dsimp only); exact HKB.out _ (HBB.out.trans (by (repeat' (first | (with_reducible first | exact Below.refl _ _ | assumption | refine Below.alloc ?_ ?_ _ | refine below_drewN ?_ _ | refine below_drew ?_ | refine below_ext ?_ ?_ _ _ | refine Below.setCell ?_ ?_ _) | (simp; done) | (simp; omega) | omega)))))
                clear hHeld hK K
                have hHeld := hHeldN
                clear hHeldN
                (try simp only [Act.put, List.setIfInBounds_toArray, List.set_cons_zero, List.set_cons_succ])
                refine wpAnyH_ready (rs := [10]) (by kernel_rfl) (by simp) ?_
                refine AllReadyH.cons (o := ({ dst := some 67, op := Op.call { callee := Callee.builtin Builtin.append, args := #[Operand.tmp 59, Operand.tmp 66], argTypes := #[70, 70] }, type := 70, pos := "items.go:48", after := #[{ on := 2, ground := Ground.data }, { on := 9, ground := Ground.data }, { on := 7, ground := Ground.chain }], guard := none } : Oper)) rfl (fun K hK => ?_) AllReadyH.nil
                (refine step_append_ol tcK_ok iaE_cells rfl (.tmp 59) (.tmp 66) rfl rfl wB ⟨(t1, t2), q8, ak.length, c8, ak⟩ (by (repeat' (first | (with_reducible first | exact Below.refl _ _ | assumption | refine Below.alloc ?_ ?_ _ | refine below_drewN ?_ _ | refine below_drew ?_ | refine below_ext ?_ ?_ _ _ | refine Below.setCell ?_ ?_ _) | (simp; done) | (simp; omega) | omega))) (gr := wB.heap.size) (by exact heap_alloc_new wB _) (HOL3.out wB (hbx.out.trans (HBB.out.mono hsx))) (by simp [Act.eval]) (by have := HL1.out; omega) (by have := HBB.out.size; omega) ?_; intro g2 cap2 w2 hob3 hoth hat hg2 hsz2; have HO2 := Lib.hid hob3; have HT2 := Lib.hid hoth; have HST := Lib.hid (StI.step (v2 := .slice (some ⟨g2, 0, none⟩) (st1.length + 1) cap2) HSI.out HSUB.out (hbx.out.trans (HBB.out.mono hsx)) hoth (fun k => by cases q <;> exact Iff.rfl) (fun k hk => Nat.lt_of_lt_of_le (HOWN2.out _ _ hk) hsx) (by omega) ⟨(t1, t2), q8, ak.length, c8, ak⟩ HAK8.out rfl HTF.out hat rfl); clear hob3 hoth hat)
                refine hK.out _ _ ?r12xhS11 (fun hHeldN => ?r12xrst11)
                case r12xhS11 => ((try dsimp only); exact HKT.out _ HBB.out _ HT2.out)
                clear hHeld hK K
                have hHeld := hHeldN
                clear hHeldN
                refine wpAnyH_take (i := 11) (oi := ({ dst := some 6, op := Op.assign (Operand.tmp 67), type := 70, pos := "items.go:48", after := #[{ on := 10, ground := Ground.data }, { on := 10, ground := Ground.chain }, { on := 0, ground := Ground.phase }, { on := 1, ground := Ground.phase }, { on := 2, ground := Ground.phase }, { on := 3, ground := Ground.phase }, { on := 4, ground := Ground.phase }, { on := 5, ground := Ground.phase }, { on := 6, ground := Ground.phase }, { on := 7, ground := Ground.phase }, { on := 8, ground := Ground.phase }, { on := 9, ground := Ground.phase }, { on := 10, ground := Ground.phase }], guard := none } : Oper)) (v := ?r12xv12) rfl (by kernel_rfl) (by kernel_rfl) (by kernel_rfl) (fun _ _ _ h => h) (Or.inl ⟨by rfl, ?r12xhy12⟩) (by assumption) ?r12xre12
                case r12xhy12 => (intro w hSw; (try dsimp only at hSw); go_simp; try with_reducible rfl)
                (try simp only [Act.put, List.setIfInBounds_toArray, List.set_cons_zero, List.set_cons_succ])
                refine wpAnyH_done (by kernel_rfl) ?_ _
                clear hHeld
                go_wp2
                obtain ⟨y0, y1, y2, y3, y4, y5, y6⟩ := HKR.out wB (hbx.out.trans (HBB.out.mono hsx))
                have hn9 : ¬ (Value.slice q r cp).ownBlock = some w.heap.size := fun e => by have := HOWN.out _ _ e; omega
                have hbT := HT2.out.below (n := w.heap.size) (by omega) (fun k hk => by have := HOWN.out _ _ hk; omega)
                have c9 := fun j => HT2.out.cell (j := j) y0 hn9
                have d9 := fun j => HT2.out.frozen (j := j) y0 hn9
                go_roundw
                case rel => exact ⟨i + 1, st1 ++ [⟨(t1, t2), q8, ak.length, c8, ak⟩], by go_num, by omega, by rw [List.length_append, List.length_singleton]; have := HL1.out; omega, HO2, Lib.hid (HBR.out.trans ((hbx.out.mono hsw).trans ((HBB.out.mono (by omega)).trans hbT))), by omega, Lib.hid ⟨by rw [List.length_append, List.length_singleton, HL1.out]; exact HFR2.out, by rw [List.map_append]; exact HRUN.out⟩, Lib.hid ⟨HST.out, by have h7 := HWT.out; have h6 := HAK.out; unfold wtI at h7 h6 ⊢; rw [List.map_append, List.sum_append]; simp only [List.map_cons, List.map_nil, List.sum_cons, List.sum_nil]; omega⟩, (c9 _).trans y1, (c9 _).trans y2, (c9 _).trans y3, (d9 _).trans y4, (d9 _).trans y5, (d9 _).trans y6⟩
                case measure => simp [intOf]; omega
              | false =>
                obtain rfl : ER = 9 := by rw [hER3]; rfl
                have HRS := Lib.hid (HNO.out (by decide))
                clear hER3
                go_upto_region 8 with fail
                refine wp_region_held_drew (S := fun w' => w'.cell? ⟨wr.heap.size, 0, none⟩ = some (.int .i64 oa) ∧ w'.cell? ⟨gd, r * 3, none⟩ = some (.int .i64 za1) ∧ w'.cell? ⟨gd, r * 3 + 1, none⟩ = some (.int .i64 za2) ∧ w'.cell? ⟨gd, r * 3 + 3, none⟩ = some (.int .i64 zb1) ∧ w'.cell? ⟨gd, r * 3 + 3 + 1, none⟩ = some (.int .i64 zb2) ∧ w'.cell? ⟨gd, r * 3 + 3 + 2, none⟩ = some (.slice bp bn bc)) (by kernel_rfl) ?r8dxhSa (fun hHeld => ?r8dxresta)
                case r8dxhSa => ((try dsimp only); exact HKV.out _ (by (repeat' (first | (with_reducible first | exact Below.refl _ _ | assumption | refine Below.alloc ?_ ?_ _ | refine below_drewN ?_ _ | refine below_drew ?_ | refine below_ext ?_ ?_ _ _ | refine Below.setCell ?_ ?_ _) | (simp; done) | (simp; omega) | omega))))
                refine wpAnyH_take (i := 0) (oi := ({ dst := some 35, op := Op.move (Operand.tmp 12), type := 27, pos := "items.go:42", after := #[], guard := none } : Oper)) (v := ?r8dxv1) rfl (by kernel_rfl) (by kernel_rfl) (by kernel_rfl) (fun _ _ _ h => h) (Or.inl ⟨by rfl, ?r8dxhy1⟩) (by assumption) ?r8dxre1
                case r8dxhy1 => (intro w hSw; (try dsimp only at hSw); go_simp; try with_reducible rfl)
                (try simp only [Act.put, List.setIfInBounds_toArray, List.set_cons_zero, List.set_cons_succ])
                refine wpAnyH_take (i := 1) (oi := ({ dst := some 36, op := Op.binOp BinOp.eql 27 (Operand.tmp 35) (Operand.const (Value.int IntKind.i64 0)) 27, type := 4, pos := "items.go:42", after := #[{ on := 0, ground := Ground.data }], guard := none } : Oper)) (v := ?r8dxv2) rfl (by kernel_rfl) (by kernel_rfl) (by kernel_rfl) (fun _ _ _ h => h) (Or.inl ⟨by rfl, ?r8dxhy2⟩) (by assumption) ?r8dxre2
                case r8dxhy2 => (intro w hSw; (try dsimp only at hSw); go_simp; try with_reducible rfl)
                (try simp only [Act.put, List.setIfInBounds_toArray, List.set_cons_zero, List.set_cons_succ])
                refine wpAnyH_take (i := 2) (oi := ({ dst := some 37, op := Op.move (Operand.tmp 36), type := 4, pos := "items.go:42", after := #[{ on := 1, ground := Ground.data }], guard := none } : Oper)) (v := ?r8dxv3) rfl (by kernel_rfl) (by kernel_rfl) (by kernel_rfl) (fun _ _ _ h => h) (Or.inl ⟨by rfl, ?r8dxhy3⟩) (by assumption) ?r8dxre3
                case r8dxhy3 => (intro w hSw; (try dsimp only at hSw); go_simp; try with_reducible rfl)
                (try simp only [Act.put, List.setIfInBounds_toArray, List.set_cons_zero, List.set_cons_succ])
                refine wpAnyH_take (i := 3) (oi := ({ dst := some 38, op := Op.fieldAddr 39 (Operand.tmp 8) 0, type := 0, pos := "items.go:42", after := #[{ on := 2, ground := Ground.guard }], guard := some (2, true) } : Oper)) (v := ?r8dxv4) rfl (by kernel_rfl) (by kernel_rfl) (by kernel_rfl) (fun _ _ _ h => h) (Or.inl ⟨by rfl, ?r8dxhy4⟩) (by assumption) ?r8dxre4
                case r8dxhy4 => (intro w hSw; (try dsimp only at hSw); go_simp; try with_reducible rfl)
                (try simp only [Act.put, List.setIfInBounds_toArray, List.set_cons_zero, List.set_cons_succ])
                refine wpAnyH_take (i := 4) (oi := ({ dst := some 39, op := Op.load 3 (Operand.tmp 38), type := 3, pos := "items.go:42", after := #[{ on := 3, ground := Ground.data }, { on := 2, ground := Ground.guard }], guard := some (2, true) } : Oper)) (v := ?r8dxv5) rfl (by kernel_rfl) (by kernel_rfl) (by kernel_rfl) (fun _ _ _ h => h) (Or.inl ⟨by rfl, ?r8dxhy5⟩) (by assumption) ?r8dxre5
                case r8dxhy5 => (intro w hSw; (try dsimp only at hSw); go_simp; try with_reducible rfl)
                (try simp only [Act.put, List.setIfInBounds_toArray, List.set_cons_zero, List.set_cons_succ])
                refine wpAnyH_take (i := 5) (oi := ({ dst := some 40, op := Op.binOp BinOp.eql 3 (Operand.tmp 39) (Operand.const (Value.int IntKind.i64 23)) 3, type := 4, pos := "items.go:42", after := #[{ on := 4, ground := Ground.data }, { on := 2, ground := Ground.guard }], guard := some (2, true) } : Oper)) (v := ?r8dxv6) rfl (by kernel_rfl) (by kernel_rfl) (by kernel_rfl) (fun _ _ _ h => h) (Or.inl ⟨by rfl, ?r8dxhy6⟩) (by assumption) ?r8dxre6
                case r8dxhy6 => (intro w hSw; (try dsimp only at hSw); go_simp; try with_reducible rfl)
                (try simp only [Act.put, List.setIfInBounds_toArray, List.set_cons_zero, List.set_cons_succ])
                refine wpAnyH_take (i := 6) (oi := ({ dst := some 41, op := Op.pick (Operand.tmp 37) (Operand.tmp 40) (Operand.const (Value.bool false)), type := 4, pos := "items.go:42", after := #[{ on := 2, ground := Ground.data }, { on := 5, ground := Ground.data }], guard := none } : Oper)) (v := ?r8dxv7) rfl (by kernel_rfl) (by kernel_rfl) (by kernel_rfl) (fun _ _ _ h => h) (Or.inl ⟨by rfl, ?r8dxhy7⟩) (by assumption) ?r8dxre7
                case r8dxhy7 => (intro w hSw; (try dsimp only at hSw); go_simp; try with_reducible rfl)
                (try simp only [Act.put, List.setIfInBounds_toArray, List.set_cons_zero, List.set_cons_succ])
                refine wpAnyH_take (i := 7) (oi := ({ dst := some 42, op := Op.move (Operand.tmp 41), type := 4, pos := "items.go:42", after := #[{ on := 6, ground := Ground.data }, { on := 2, ground := Ground.chain }], guard := none } : Oper)) (v := ?r8dxv8) rfl (by kernel_rfl) (by kernel_rfl) (by kernel_rfl) (fun _ _ _ h => h) (Or.inl ⟨by rfl, ?r8dxhy8⟩) (by assumption) ?r8dxre8
                case r8dxhy8 => (intro w hSw; (try dsimp only at hSw); go_simp; try with_reducible rfl)
                (try simp only [Act.put, List.setIfInBounds_toArray, List.set_cons_zero, List.set_cons_succ])
                refine wpAnyH_take (i := 8) (oi := ({ dst := some 43, op := Op.move (Operand.tmp 10), type := 70, pos := "items.go:42", after := #[{ on := 7, ground := Ground.guard }], guard := some (7, true) } : Oper)) (v := ?r8dxv9) rfl (by kernel_rfl) (by kernel_rfl) (by kernel_rfl) (fun _ _ _ h => h) (Or.inl ⟨by rfl, ?r8dxhy9⟩) (by assumption) ?r8dxre9
                case r8dxhy9 => (intro w hSw; (try dsimp only at hSw); go_simp; try with_reducible rfl)
                (try simp only [Act.put, List.setIfInBounds_toArray, List.set_cons_zero, List.set_cons_succ])
                refine wpAnyH_take (i := 9) (oi := ({ dst := some 44, op := Op.indexAddr 70 (Operand.tmp 43) (Operand.const (Value.int IntKind.i64 1)), type := 0, pos := "items.go:42", after := #[{ on := 8, ground := Ground.data }, { on := 7, ground := Ground.guard }], guard := some (7, true) } : Oper)) (v := ?r8dxv10) rfl (by kernel_rfl) (by kernel_rfl) (by kernel_rfl) (fun _ _ _ h => h) (Or.inl ⟨by rfl, ?r8dxhy10⟩) (by assumption) ?r8dxre10
                case r8dxhy10 => (intro w hSw; (try dsimp only at hSw); go_simp; try with_reducible rfl)
                (try simp only [Act.put, List.setIfInBounds_toArray, List.set_cons_zero, List.set_cons_succ])
                refine wpAnyH_take (i := 10) (oi := ({ dst := some 45, op := Op.load 48 (Operand.tmp 44), type := 48, pos := "items.go:42", after := #[{ on := 9, ground := Ground.data }, { on := 7, ground := Ground.guard }], guard := some (7, true) } : Oper)) (v := ?r8dxv11) rfl (by kernel_rfl) (by kernel_rfl) (by kernel_rfl) (fun _ _ _ h => h) (Or.inl ⟨by rfl, ?r8dxhy11⟩) (by assumption) ?r8dxre11
                case r8dxhy11 => (intro w hSw; (try dsimp only at hSw); go_simp; try with_reducible rfl)
                (try simp only [Act.put, List.setIfInBounds_toArray, List.set_cons_zero, List.set_cons_succ])
                refine wpAnyH_take (i := 11) (oi := ({ dst := some 46, op := Op.move (Operand.tmp 10), type := 70, pos := "items.go:42", after := #[{ on := 7, ground := Ground.guard }], guard := some (7, true) } : Oper)) (v := ?r8dxv12) rfl (by kernel_rfl) (by kernel_rfl) (by kernel_rfl) (fun _ _ _ h => h) (Or.inl ⟨by rfl, ?r8dxhy12⟩) (by assumption) ?r8dxre12
                case r8dxhy12 => (intro w hSw; (try dsimp only at hSw); go_simp; try with_reducible rfl)
                (try simp only [Act.put, List.setIfInBounds_toArray, List.set_cons_zero, List.set_cons_succ])
                refine wpAnyH_take (i := 12) (oi := ({ dst := some 47, op := Op.indexAddr 70 (Operand.tmp 46) (Operand.const (Value.int IntKind.i64 0)), type := 0, pos := "items.go:42", after := #[{ on := 11, ground := Ground.data }, { on := 7, ground := Ground.guard }], guard := some (7, true) } : Oper)) (v := ?r8dxv13) rfl (by kernel_rfl) (by kernel_rfl) (by kernel_rfl) (fun _ _ _ h => h) (Or.inl ⟨by rfl, ?r8dxhy13⟩) (by assumption) ?r8dxre13
                case r8dxhy13 => (intro w hSw; (try dsimp only at hSw); go_simp; try with_reducible rfl)
                (try simp only [Act.put, List.setIfInBounds_toArray, List.set_cons_zero, List.set_cons_succ])
                refine wpAnyH_take (i := 13) (oi := ({ dst := some 48, op := Op.fieldAddr 48 (Operand.tmp 47) 0, type := 0, pos := "items.go:42", after := #[{ on := 12, ground := Ground.data }, { on := 7, ground := Ground.guard }], guard := some (7, true) } : Oper)) (v := ?r8dxv14) rfl (by kernel_rfl) (by kernel_rfl) (by kernel_rfl) (fun _ _ _ h => h) (Or.inl ⟨by rfl, ?r8dxhy14⟩) (by assumption) ?r8dxre14
                case r8dxhy14 => (intro w hSw; (try dsimp only at hSw); go_simp; try with_reducible rfl)
                (try simp only [Act.put, List.setIfInBounds_toArray, List.set_cons_zero, List.set_cons_succ])
                refine wpAnyH_take (i := 14) (oi := ({ dst := some 49, op := Op.load 26 (Operand.tmp 48), type := 26, pos := "items.go:42", after := #[{ on := 13, ground := Ground.data }, { on := 7, ground := Ground.guard }], guard := some (7, true) } : Oper)) (v := ?r8dxv15) rfl (by kernel_rfl) (by kernel_rfl) (by kernel_rfl) (fun _ _ _ h => h) (Or.inl ⟨by rfl, ?r8dxhy15⟩) (by assumption) ?r8dxre15
                case r8dxhy15 => (intro w hSw; (try dsimp only at hSw); go_simp; try with_reducible rfl)
                (try simp only [Act.put, List.setIfInBounds_toArray, List.set_cons_zero, List.set_cons_succ])
                refine wpAnyH_ready (rs := [15]) (by kernel_rfl) (by simp) ?_
                refine AllReadyH.cons (o := ({ dst := some 50, op := Op.call { callee := Callee.value (Operand.func 17), args := #[Operand.tmp 45, Operand.tmp 49], argTypes := #[48, 26] }, type := 4, pos := "items.go:42", after := #[{ on := 10, ground := Ground.data }, { on := 14, ground := Ground.data }, { on := 7, ground := Ground.chain }, { on := 7, ground := Ground.guard }], guard := some (7, true) } : Oper)) rfl (fun K hK => ?_) AllReadyH.nil
                go_simp
                (go_at_call 17; (with_reducible refine (HFT.out _ (by (repeat' (first | (with_reducible first | exact Below.refl _ _ | assumption | refine Below.alloc ?_ ?_ _ | refine below_drewN ?_ _ | refine below_drew ?_ | refine below_ext ?_ ?_ _ _ | refine Below.setCell ?_ ?_ _) | (simp; done) | (simp; omega) | omega)))).mono ?_); rintro e9 w1 ⟨rfl, hb1⟩; obtain ⟨osA, dA, rfl⟩ := ext_of_below hb1; clear hb1)
                refine hK.out _ _ ?r8dxhS16 (fun hHeldN => ?r8dxrst16)
                case r8dxhS16 => ((try dsimp only); exact HKV.out _ (by (repeat' (first | (with_reducible first | exact Below.refl _ _ | assumption | refine Below.alloc ?_ ?_ _ | refine below_drewN ?_ _ | refine below_drew ?_ | refine below_ext ?_ ?_ _ _ | refine Below.setCell ?_ ?_ _) | (simp; done) | (simp; omega) | omega))))
                clear hHeld hK K
                have hHeld := hHeldN
                clear hHeldN
                refine wpAnyH_take (i := 16) (oi := ({ dst := some 51, op := Op.unOp UnOp.not 4 (Operand.tmp 50), type := 4, pos := "items.go:42", after := #[{ on := 15, ground := Ground.data }, { on := 7, ground := Ground.guard }], guard := some (7, true) } : Oper)) (v := ?r8dxv17) rfl (by kernel_rfl) (by kernel_rfl) (by kernel_rfl) (fun _ _ _ h => h) (Or.inl ⟨by rfl, ?r8dxhy17⟩) (by assumption) ?r8dxre17
                case r8dxhy17 => (intro w hSw; (try dsimp only at hSw); go_simp; try with_reducible rfl)
                (try simp only [Act.put, List.setIfInBounds_toArray, List.set_cons_zero, List.set_cons_succ])
                refine wpAnyH_take (i := 17) (oi := ({ dst := some 52, op := Op.pick (Operand.tmp 42) (Operand.tmp 51) (Operand.const (Value.bool false)), type := 4, pos := "items.go:42", after := #[{ on := 7, ground := Ground.data }, { on := 16, ground := Ground.data }], guard := none } : Oper)) (v := ?r8dxv18) rfl (by kernel_rfl) (by kernel_rfl) (by kernel_rfl) (fun _ _ _ h => h) (Or.inl ⟨by rfl, ?r8dxhy18⟩) (by assumption) ?r8dxre18
                case r8dxhy18 => (intro w hSw; (try dsimp only at hSw); go_simp; try with_reducible rfl)
                (try simp only [Act.put, List.setIfInBounds_toArray, List.set_cons_zero, List.set_cons_succ])
                refine wpAnyH_done (by kernel_rfl) ?_ _
                clear hHeld
                go_upto_region 11 with fail
                refine cutX (fun W3 => Below w.heap.size w W3 ∧ w.heap.size < W3.heap.size ∧ W3.cell? ⟨w.heap.size, 0, none⟩ = some (.int .i64 0) ∧ W3.cell? ⟨w.heap.size, 1, none⟩ = some (.int .i64 0) ∧ W3.cell? ⟨w.heap.size, 2, none⟩ = some (.slice none 0 0) ∧ W3.frozen? ⟨w.heap.size, 0, none⟩ = false ∧ W3.frozen? ⟨w.heap.size, 1, none⟩ = false ∧ W3.frozen? ⟨w.heap.size, 2, none⟩ = false) ⟨HBR.out.trans ((hbx.out.mono hsw).trans (by (repeat' (first | (with_reducible first | exact Below.refl _ _ | assumption | refine Below.alloc ?_ ?_ _ | refine below_drewN ?_ _ | refine below_drew ?_ | refine below_ext ?_ ?_ _ _ | refine Below.setCell ?_ ?_ _) | (simp; done) | (simp; omega) | omega)))), HKR.out _ (hbx.out.trans (by (repeat' (first | (with_reducible first | exact Below.refl _ _ | assumption | refine Below.alloc ?_ ?_ _ | refine below_drewN ?_ _ | refine below_drew ?_ | refine below_ext ?_ ?_ _ _ | refine Below.setCell ?_ ?_ _) | (simp; done) | (simp; omega) | omega))))⟩ ?_
                intro W3 ⟨hb3, hs3, r0, r1, r2, f0, f1, f2⟩
                have s0 : (W3.setCell ⟨w.heap.size, 0, none⟩ (.int .i64 0)).cell? ⟨w.heap.size, 0, none⟩ = some (.int .i64 0) := World.cell?_setCell_same _ _ _ r0
                have s1 : ((W3.setCell ⟨w.heap.size, 0, none⟩ (.int .i64 0)).setCell ⟨w.heap.size, 1, none⟩ (.int .i64 0)).cell? ⟨w.heap.size, 1, none⟩ = some (.int .i64 0) := World.cell?_setCell_same _ _ _ ((World.cell?_setCell_other _ _ _ _ (by intro e2; injection e2 with _ e3; exact absurd e3 (by decide))).trans r1)
                have s2 : (((W3.setCell ⟨w.heap.size, 0, none⟩ (.int .i64 0)).setCell ⟨w.heap.size, 1, none⟩ (.int .i64 0)).setCell ⟨w.heap.size, 2, none⟩ (.slice none 0 0)).cell? ⟨w.heap.size, 2, none⟩ = some (.slice none 0 0) := World.cell?_setCell_same _ _ _ ((World.cell?_setCell_other _ _ _ _ (by intro e2; injection e2 with _ e3; exact absurd e3 (by decide))).trans ((World.cell?_setCell_other _ _ _ _ (by intro e2; injection e2 with _ e3; exact absurd e3 (by decide))).trans r2))
                go_wp2
                refine bodyPost_ret (by simp [results, Tryz.results15, go_sem, s0, s1, s2]; try rfl) rfl ?_
                rw [HRS.out]
                exact (show DtQ (((0, 0), []), 9) w _ _ from ⟨hb3.trans (by (repeat' (first | (with_reducible first | exact Below.refl _ _ | assumption | refine Below.alloc ?_ ?_ _ | refine below_drewN ?_ _ | refine below_drew ?_ | refine below_ext ?_ ?_ _ _ | refine Below.setCell ?_ ?_ _) | (simp; done) | (simp; omega) | omega))), none, 0, 0, rfl, RL.nil _ _ _ _⟩)
            · have q23 : (oa == 23) = false := beq_eq_false_iff_ne.2 h23
              have HE0 := Lib.hid (show ER = 0 by rw [HE23.out, if_neg (by intro h; exact h23 h.2.1)])
              go_upto_region 8 with fail
              refine wp_region_held_drew (S := fun w' => w'.cell? ⟨wr.heap.size, 0, none⟩ = some (.int .i64 oa)) (by kernel_rfl) ?r8axhSa (fun hHeld => ?r8axresta)
              case r8axhSa => ((try dsimp only); simp [go_sem, *])
              refine wpAnyH_take (i := 0) (oi := ({ dst := some 35, op := Op.move (Operand.tmp 12), type := 27, pos := "items.go:42", after := #[], guard := none } : Oper)) (v := ?r8axv1) rfl (by kernel_rfl) (by kernel_rfl) (by kernel_rfl) (fun _ _ _ h => h) (Or.inl ⟨by rfl, ?r8axhy1⟩) (by assumption) ?r8axre1
              case r8axhy1 => (intro w hSw; (try dsimp only at hSw); go_simp; try with_reducible rfl)
              (try simp only [Act.put, List.setIfInBounds_toArray, List.set_cons_zero, List.set_cons_succ])
              refine wpAnyH_take (i := 1) (oi := ({ dst := some 36, op := Op.binOp BinOp.eql 27 (Operand.tmp 35) (Operand.const (Value.int IntKind.i64 0)) 27, type := 4, pos := "items.go:42", after := #[{ on := 0, ground := Ground.data }], guard := none } : Oper)) (v := ?r8axv2) rfl (by kernel_rfl) (by kernel_rfl) (by kernel_rfl) (fun _ _ _ h => h) (Or.inl ⟨by rfl, ?r8axhy2⟩) (by assumption) ?r8axre2
              case r8axhy2 => (intro w hSw; (try dsimp only at hSw); go_simp; try with_reducible rfl)
              (try simp only [Act.put, List.setIfInBounds_toArray, List.set_cons_zero, List.set_cons_succ])
              refine wpAnyH_take (i := 2) (oi := ({ dst := some 37, op := Op.move (Operand.tmp 36), type := 4, pos := "items.go:42", after := #[{ on := 1, ground := Ground.data }], guard := none } : Oper)) (v := ?r8axv3) rfl (by kernel_rfl) (by kernel_rfl) (by kernel_rfl) (fun _ _ _ h => h) (Or.inl ⟨by rfl, ?r8axhy3⟩) (by assumption) ?r8axre3
              case r8axhy3 => (intro w hSw; (try dsimp only at hSw); go_simp; try with_reducible rfl)
              (try simp only [Act.put, List.setIfInBounds_toArray, List.set_cons_zero, List.set_cons_succ])
              refine wpAnyH_take (i := 3) (oi := ({ dst := some 38, op := Op.fieldAddr 39 (Operand.tmp 8) 0, type := 0, pos := "items.go:42", after := #[{ on := 2, ground := Ground.guard }], guard := some (2, true) } : Oper)) (v := ?r8axv4) rfl (by kernel_rfl) (by kernel_rfl) (by kernel_rfl) (fun _ _ _ h => h) (Or.inl ⟨by rfl, ?r8axhy4⟩) (by assumption) ?r8axre4
              case r8axhy4 => (intro w hSw; (try dsimp only at hSw); go_simp; try with_reducible rfl)
              (try simp only [Act.put, List.setIfInBounds_toArray, List.set_cons_zero, List.set_cons_succ])
              refine wpAnyH_take (i := 4) (oi := ({ dst := some 39, op := Op.load 3 (Operand.tmp 38), type := 3, pos := "items.go:42", after := #[{ on := 3, ground := Ground.data }, { on := 2, ground := Ground.guard }], guard := some (2, true) } : Oper)) (v := ?r8axv5) rfl (by kernel_rfl) (by kernel_rfl) (by kernel_rfl) (fun _ _ _ h => h) (Or.inl ⟨by rfl, ?r8axhy5⟩) (by assumption) ?r8axre5
              case r8axhy5 => (intro w hSw; (try dsimp only at hSw); go_simp; try with_reducible rfl)
              (try simp only [Act.put, List.setIfInBounds_toArray, List.set_cons_zero, List.set_cons_succ])
              refine wpAnyH_take (i := 5) (oi := ({ dst := some 40, op := Op.binOp BinOp.eql 3 (Operand.tmp 39) (Operand.const (Value.int IntKind.i64 23)) 3, type := 4, pos := "items.go:42", after := #[{ on := 4, ground := Ground.data }, { on := 2, ground := Ground.guard }], guard := some (2, true) } : Oper)) (v := ?r8axv6) rfl (by kernel_rfl) (by kernel_rfl) (by kernel_rfl) (fun _ _ _ h => h) (Or.inl ⟨by rfl, ?r8axhy6⟩) (by assumption) ?r8axre6
              case r8axhy6 => (intro w hSw; (try dsimp only at hSw); go_simp; try with_reducible rfl)
              (try simp only [Act.put, List.setIfInBounds_toArray, List.set_cons_zero, List.set_cons_succ])
              refine wpAnyH_take (i := 6) (oi := ({ dst := some 41, op := Op.pick (Operand.tmp 37) (Operand.tmp 40) (Operand.const (Value.bool false)), type := 4, pos := "items.go:42", after := #[{ on := 2, ground := Ground.data }, { on := 5, ground := Ground.data }], guard := none } : Oper)) (v := ?r8axv7) rfl (by kernel_rfl) (by kernel_rfl) (by kernel_rfl) (fun _ _ _ h => h) (Or.inl ⟨by rfl, ?r8axhy7⟩) (by assumption) ?r8axre7
              case r8axhy7 => (intro w hSw; (try dsimp only at hSw); go_simp; try with_reducible rfl)
              (try simp only [Act.put, List.setIfInBounds_toArray, List.set_cons_zero, List.set_cons_succ])
              refine wpAnyH_take (i := 7) (oi := ({ dst := some 42, op := Op.move (Operand.tmp 41), type := 4, pos := "items.go:42", after := #[{ on := 6, ground := Ground.data }, { on := 2, ground := Ground.chain }], guard := none } : Oper)) (v := ?r8axv8) rfl (by kernel_rfl) (by kernel_rfl) (by kernel_rfl) (fun _ _ _ h => h) (Or.inl ⟨by rfl, ?r8axhy8⟩) (by assumption) ?r8axre8
              case r8axhy8 => (intro w hSw; (try dsimp only at hSw); go_simp; try with_reducible rfl)
              (try simp only [Act.put, List.setIfInBounds_toArray, List.set_cons_zero, List.set_cons_succ])
              refine wpAnyH_take (i := 8) (oi := ({ dst := some 43, op := Op.move (Operand.tmp 10), type := 70, pos := "items.go:42", after := #[{ on := 7, ground := Ground.guard }], guard := some (7, true) } : Oper)) (v := undef) rfl (by kernel_rfl) (by kernel_rfl) (by kernel_rfl) (fun _ _ _ h => h) (Or.inr ⟨by rfl, rfl⟩) (by assumption) ?r8axre9
              (try simp only [Act.put, List.setIfInBounds_toArray, List.set_cons_zero, List.set_cons_succ])
              refine wpAnyH_take (i := 9) (oi := ({ dst := some 44, op := Op.indexAddr 70 (Operand.tmp 43) (Operand.const (Value.int IntKind.i64 1)), type := 0, pos := "items.go:42", after := #[{ on := 8, ground := Ground.data }, { on := 7, ground := Ground.guard }], guard := some (7, true) } : Oper)) (v := undef) rfl (by kernel_rfl) (by kernel_rfl) (by kernel_rfl) (fun _ _ _ h => h) (Or.inr ⟨by rfl, rfl⟩) (by assumption) ?r8axre10
              (try simp only [Act.put, List.setIfInBounds_toArray, List.set_cons_zero, List.set_cons_succ])
              refine wpAnyH_take (i := 10) (oi := ({ dst := some 45, op := Op.load 48 (Operand.tmp 44), type := 48, pos := "items.go:42", after := #[{ on := 9, ground := Ground.data }, { on := 7, ground := Ground.guard }], guard := some (7, true) } : Oper)) (v := undef) rfl (by kernel_rfl) (by kernel_rfl) (by kernel_rfl) (fun _ _ _ h => h) (Or.inr ⟨by rfl, rfl⟩) (by assumption) ?r8axre11
              (try simp only [Act.put, List.setIfInBounds_toArray, List.set_cons_zero, List.set_cons_succ])
              refine wpAnyH_take (i := 11) (oi := ({ dst := some 46, op := Op.move (Operand.tmp 10), type := 70, pos := "items.go:42", after := #[{ on := 7, ground := Ground.guard }], guard := some (7, true) } : Oper)) (v := undef) rfl (by kernel_rfl) (by kernel_rfl) (by kernel_rfl) (fun _ _ _ h => h) (Or.inr ⟨by rfl, rfl⟩) (by assumption) ?r8axre12
              (try simp only [Act.put, List.setIfInBounds_toArray, List.set_cons_zero, List.set_cons_succ])
              refine wpAnyH_take (i := 12) (oi := ({ dst := some 47, op := Op.indexAddr 70 (Operand.tmp 46) (Operand.const (Value.int IntKind.i64 0)), type := 0, pos := "items.go:42", after := #[{ on := 11, ground := Ground.data }, { on := 7, ground := Ground.guard }], guard := some (7, true) } : Oper)) (v := undef) rfl (by kernel_rfl) (by kernel_rfl) (by kernel_rfl) (fun _ _ _ h => h) (Or.inr ⟨by rfl, rfl⟩) (by assumption) ?r8axre13
              (try simp only [Act.put, List.setIfInBounds_toArray, List.set_cons_zero, List.set_cons_succ])
              refine wpAnyH_take (i := 13) (oi := ({ dst := some 48, op := Op.fieldAddr 48 (Operand.tmp 47) 0, type := 0, pos := "items.go:42", after := #[{ on := 12, ground := Ground.data }, { on := 7, ground := Ground.guard }], guard := some (7, true) } : Oper)) (v := undef) rfl (by kernel_rfl) (by kernel_rfl) (by kernel_rfl) (fun _ _ _ h => h) (Or.inr ⟨by rfl, rfl⟩) (by assumption) ?r8axre14
              (try simp only [Act.put, List.setIfInBounds_toArray, List.set_cons_zero, List.set_cons_succ])
              refine wpAnyH_take (i := 14) (oi := ({ dst := some 49, op := Op.load 26 (Operand.tmp 48), type := 26, pos := "items.go:42", after := #[{ on := 13, ground := Ground.data }, { on := 7, ground := Ground.guard }], guard := some (7, true) } : Oper)) (v := undef) rfl (by kernel_rfl) (by kernel_rfl) (by kernel_rfl) (fun _ _ _ h => h) (Or.inr ⟨by rfl, rfl⟩) (by assumption) ?r8axre15
              (try simp only [Act.put, List.setIfInBounds_toArray, List.set_cons_zero, List.set_cons_succ])
              refine wpAnyH_take (i := 15) (oi := ({ dst := some 50, op := Op.call { callee := Callee.value (Operand.func 17), args := #[Operand.tmp 45, Operand.tmp 49], argTypes := #[48, 26] }, type := 4, pos := "items.go:42", after := #[{ on := 10, ground := Ground.data }, { on := 14, ground := Ground.data }, { on := 7, ground := Ground.chain }, { on := 7, ground := Ground.guard }], guard := some (7, true) } : Oper)) (v := undef) rfl (by kernel_rfl) (by kernel_rfl) (by kernel_rfl) (fun _ _ _ h => h) (Or.inr ⟨by rfl, rfl⟩) (by assumption) ?r8axre16
              (try simp only [Act.put, List.setIfInBounds_toArray, List.set_cons_zero, List.set_cons_succ])
              refine wpAnyH_take (i := 16) (oi := ({ dst := some 51, op := Op.unOp UnOp.not 4 (Operand.tmp 50), type := 4, pos := "items.go:42", after := #[{ on := 15, ground := Ground.data }, { on := 7, ground := Ground.guard }], guard := some (7, true) } : Oper)) (v := undef) rfl (by kernel_rfl) (by kernel_rfl) (by kernel_rfl) (fun _ _ _ h => h) (Or.inr ⟨by rfl, rfl⟩) (by assumption) ?r8axre17
              (try simp only [Act.put, List.setIfInBounds_toArray, List.set_cons_zero, List.set_cons_succ])
              refine wpAnyH_take (i := 17) (oi := ({ dst := some 52, op := Op.pick (Operand.tmp 42) (Operand.tmp 51) (Operand.const (Value.bool false)), type := 4, pos := "items.go:42", after := #[{ on := 7, ground := Ground.data }, { on := 16, ground := Ground.data }], guard := none } : Oper)) (v := ?r8axv18) rfl (by kernel_rfl) (by kernel_rfl) (by kernel_rfl) (fun _ _ _ h => h) (Or.inl ⟨by rfl, ?r8axhy18⟩) (by assumption) ?r8axre18
              case r8axhy18 => (intro w hSw; (try dsimp only at hSw); go_simp; try with_reducible rfl)
              (try simp only [Act.put, List.setIfInBounds_toArray, List.set_cons_zero, List.set_cons_succ])
              refine wpAnyH_done (by kernel_rfl) ?_ _
              clear hHeld
              go_upto_region 12 with fail
              obtain ⟨st1, hst1⟩ : ∃ st1, st1 = st.take r := ⟨_, rfl⟩
              rw [← hst1] at HOL3 HGO HWT
              have HSUB := Lib.hid (show ∀ y ∈ st1, y ∈ st from fun y hy => List.mem_of_mem_take (hst1 ▸ hy))
              have HL1 := Lib.hid (show st1.length = r by rw [hst1, List.length_take, ← HSN.out]; omega)
              have HRUN := Lib.hid (HGO.out HE0.out)
              have HKB := Lib.hid (show ∀ w', Below wc.heap.size wc w' → w'.cell? ⟨wr.heap.size, 0, none⟩ = some (.int .i64 oa) ∧ w'.cell? ⟨b, 0, none⟩ = some (.int .i64 t1) ∧ w'.cell? ⟨b, 1, none⟩ = some (.int .i64 t2) from fun w' h => ⟨(h.cell (p := ⟨_, _, none⟩) hlx).trans nx, (h.cell (p := ⟨_, _, none⟩) hbl).trans b0, (h.cell (p := ⟨_, _, none⟩) hbl).trans b1⟩)
              have HKT := Lib.hid (show ∀ wB, Below wc.heap.size wc wB → ∀ w2, Ot (fun k => (Value.slice q r cp).ownBlock = some k) wB w2 → w2.cell? ⟨wr.heap.size, 0, none⟩ = some (.int .i64 oa) ∧ w2.cell? ⟨b, 0, none⟩ = some (.int .i64 t1) ∧ w2.cell? ⟨b, 1, none⟩ = some (.int .i64 t2) from fun wB h w2 ho => by
                obtain ⟨k0, k1, k2⟩ := HKB.out wB h
                have hb9 := h.size
                exact ⟨(ho.cell (by omega) (fun e => by have := HOWN2.out _ _ e; omega)).trans k0, (ho.cell (by omega) (fun e => by have := HOWN2.out _ _ e; omega)).trans k1, (ho.cell (by omega) (fun e => by have := HOWN2.out _ _ e; omega)).trans k2⟩)
              clear hst1
              have hrcp : r ≤ cp := by omega
              have hrcp2 : (r : Int) ≤ (cp : Int) := by omega
              refine wp_region_held_drew (S := fun w' => w'.cell? ⟨wr.heap.size, 0, none⟩ = some (.int .i64 oa) ∧ w'.cell? ⟨b, 0, none⟩ = some (.int .i64 t1) ∧ w'.cell? ⟨b, 1, none⟩ = some (.int .i64 t2)) (by kernel_rfl) ?r12yhSa (fun hHeld => ?r12yresta)
              case r12yhSa => ((try dsimp only); first | exact HKB.out _ (by (repeat' (first | (with_reducible first | exact Below.refl _ _ | assumption | refine Below.alloc ?_ ?_ _ | refine below_drewN ?_ _ | refine below_drew ?_ | refine below_ext ?_ ?_ _ _ | refine Below.setCell ?_ ?_ _) | (simp; done) | (simp; omega) | omega))) | exact HKB.out _ (HBB.out.trans (by (repeat' (first | (with_reducible first | exact Below.refl _ _ | assumption | refine Below.alloc ?_ ?_ _ | refine below_drewN ?_ _ | refine below_drew ?_ | refine below_ext ?_ ?_ _ _ | refine Below.setCell ?_ ?_ _) | (simp; done) | (simp; omega) | omega)))))
              refine wpAnyH_take (i := 0) (oi := ({ dst := some 57, op := Op.move (Operand.tmp 6), type := 70, pos := "items.go:48", after := #[], guard := none } : Oper)) (v := ?r12yv1) rfl (by kernel_rfl) (by kernel_rfl) (by kernel_rfl) (fun _ _ _ h => h) (Or.inl ⟨by rfl, ?r12yhy1⟩) (by assumption) ?r12yre1
              case r12yhy1 => (intro w hSw; (try dsimp only at hSw); go_simp; try with_reducible rfl)
              (try simp only [Act.put, List.setIfInBounds_toArray, List.set_cons_zero, List.set_cons_succ])
              refine wpAnyH_take (i := 1) (oi := ({ dst := some 58, op := Op.move (Operand.tmp 9), type := 3, pos := "items.go:48", after := #[], guard := none } : Oper)) (v := ?r12yv2) rfl (by kernel_rfl) (by kernel_rfl) (by kernel_rfl) (fun _ _ _ h => h) (Or.inl ⟨by rfl, ?r12yhy2⟩) (by assumption) ?r12yre2
              case r12yhy2 => (intro w hSw; (try dsimp only at hSw); go_simp; try with_reducible rfl)
              (try simp only [Act.put, List.setIfInBounds_toArray, List.set_cons_zero, List.set_cons_succ])
              refine wpAnyH_take (i := 2) (oi := ({ dst := some 59, op := Op.slice 70 (Operand.tmp 57) none (some (Operand.tmp 58)) none, type := 70, pos := "items.go:48", after := #[{ on := 0, ground := Ground.data }, { on := 1, ground := Ground.data }], guard := none } : Oper)) (v := ?r12yv3) rfl (by kernel_rfl) (by kernel_rfl) (by kernel_rfl) (fun _ _ _ h => h) (Or.inl ⟨by rfl, ?r12yhy3⟩) (by assumption) ?r12yre3
              case r12yhy3 => (intro w hSw; (try dsimp only at hSw); go_simp; try with_reducible rfl)
              (try simp only [Act.put, List.setIfInBounds_toArray, List.set_cons_zero, List.set_cons_succ])
              refine wpAnyH_take (i := 3) (oi := ({ dst := some 60, op := Op.load 26 (Operand.tmp 11), type := 26, pos := "items.go:48", after := #[], guard := none } : Oper)) (v := ?r12yv4) rfl (by kernel_rfl) (by kernel_rfl) (by kernel_rfl) (fun _ _ _ h => h) (Or.inl ⟨by rfl, ?r12yhy4⟩) (by assumption) ?r12yre4
              case r12yhy4 => (intro w hSw; (try dsimp only at hSw); go_simp; try with_reducible rfl)
              (try simp only [Act.put, List.setIfInBounds_toArray, List.set_cons_zero, List.set_cons_succ])
              refine wpAnyH_take (i := 4) (oi := ({ dst := some 61, op := Op.fieldAddr 39 (Operand.tmp 8) 0, type := 0, pos := "items.go:48", after := #[], guard := none } : Oper)) (v := ?r12yv5) rfl (by kernel_rfl) (by kernel_rfl) (by kernel_rfl) (fun _ _ _ h => h) (Or.inl ⟨by rfl, ?r12yhy5⟩) (by assumption) ?r12yre5
              case r12yhy5 => (intro w hSw; (try dsimp only at hSw); go_simp; try with_reducible rfl)
              (try simp only [Act.put, List.setIfInBounds_toArray, List.set_cons_zero, List.set_cons_succ])
              refine wpAnyH_take (i := 5) (oi := ({ dst := some 62, op := Op.load 3 (Operand.tmp 61), type := 3, pos := "items.go:48", after := #[{ on := 4, ground := Ground.data }], guard := none } : Oper)) (v := ?r12yv6) rfl (by kernel_rfl) (by kernel_rfl) (by kernel_rfl) (fun _ _ _ h => h) (Or.inl ⟨by rfl, ?r12yhy6⟩) (by assumption) ?r12yre6
              case r12yhy6 => (intro w hSw; (try dsimp only at hSw); go_simp; try with_reducible rfl)
              (try simp only [Act.put, List.setIfInBounds_toArray, List.set_cons_zero, List.set_cons_succ])
              refine wpAnyH_take (i := 6) (oi := ({ dst := some 63, op := Op.move (Operand.tmp 10), type := 70, pos := "items.go:48", after := #[], guard := none } : Oper)) (v := ?r12yv7) rfl (by kernel_rfl) (by kernel_rfl) (by kernel_rfl) (fun _ _ _ h => h) (Or.inl ⟨by rfl, ?r12yhy7⟩) (by assumption) ?r12yre7
              case r12yhy7 => (intro w hSw; (try dsimp only at hSw); go_simp; try with_reducible rfl)
              (try simp only [Act.put, List.setIfInBounds_toArray, List.set_cons_zero, List.set_cons_succ])
              refine wpAnyH_ready (rs := [7]) (by kernel_rfl) (by simp) ?_
              refine AllReadyH.cons (o := ({ dst := some 64, op := Op.call { callee := Callee.value (Operand.func 32), args := #[Operand.tmp 62, Operand.tmp 63], argTypes := #[3, 70] }, type := 46, pos := "items.go:48", after := #[{ on := 5, ground := Ground.data }, { on := 6, ground := Ground.data }], guard := none } : Oper)) rfl (fun K hK => ?_) AllReadyH.nil
              go_simp
              (go_at_call 32; (with_reducible refine (HAS.out _ _ _ (hbx.out.trans (by (repeat' (first | (with_reducible first | exact Below.refl _ _ | assumption | refine Below.alloc ?_ ?_ _ | refine below_drewN ?_ _ | refine below_drew ?_ | refine below_ext ?_ ?_ _ _ | refine Below.setCell ?_ ?_ _) | (simp; done) | (simp; omega) | omega)))) HPV.out).mono ?_); rintro e9 wB ⟨pv8, rfl, hak8, hbB⟩; have HBB := Lib.hid (show Below wc.heap.size wc wB from (show Below wc.heap.size wc _ by (repeat' (first | (with_reducible first | exact Below.refl _ _ | assumption | refine Below.alloc ?_ ?_ _ | refine below_drewN ?_ _ | refine below_drew ?_ | refine below_ext ?_ ?_ _ _ | refine Below.setCell ?_ ?_ _) | (simp; done) | (simp; omega) | omega))).trans (hbB.mono (by first | (simp; done) | (simp; omega)))); have hsB := HBB.out.size; obtain ⟨q8, c8, rfl, -, -⟩ := OL.form hak8; have HAK8 := Lib.hid (hak8.low (B' := wc.heap.size) (by first | exact Nat.le_refl _ | (simp; done) | (simp; omega))); clear hbB hak8)
              refine hK.out _ _ ?r12yhS8 (fun hHeldN => ?r12yrst8)
              case r12yhS8 => ((try dsimp only); exact HKB.out _ HBB.out)
              clear hHeld hK K
              have hHeld := hHeldN
              clear hHeldN
              refine wpAnyH_take (i := 8) (oi := ({ dst := some 65, op := Op.build 48 #[(0, Operand.tmp 60), (1, Operand.tmp 64)], type := 48, pos := "items.go:48", after := #[{ on := 3, ground := Ground.data }, { on := 7, ground := Ground.data }], guard := none } : Oper)) (v := ?r12yv9) rfl (by kernel_rfl) (by kernel_rfl) (by kernel_rfl) (fun _ _ _ h => h) (Or.inl ⟨by rfl, ?r12yhy9⟩) (by assumption) ?r12yre9
              case r12yhy9 => (intro w hSw; (try dsimp only at hSw); go_simp; try with_reducible rfl)
              (try simp only [Act.put, List.setIfInBounds_toArray, List.set_cons_zero, List.set_cons_succ])
              refine wpAnyH_ready (rs := [9]) (by kernel_rfl) (by simp) ?_
              refine AllReadyH.cons (o := ({ dst := some 66, op := Op.buildSlice 70 1 #[(0, Operand.tmp 65)], type := 70, pos := "items.go:48", after := #[{ on := 8, ground := Ground.data }], guard := none } : Oper)) rfl (fun K hK => ?_) AllReadyH.nil
              go_simp
              refine hK.out _ _ ?r12yhS10 (fun hHeldN => ?r12yrst10)
              case r12yhS10 => ((try dsimp only); exact HKB.out _ (HBB.out.trans (by (repeat' (first | (with_reducible first | exact Below.refl _ _ | assumption | refine Below.alloc ?_ ?_ _ | refine below_drewN ?_ _ | refine below_drew ?_ | refine below_ext ?_ ?_ _ _ | refine Below.setCell ?_ ?_ _) | (simp; done) | (simp; omega) | omega)))))
              clear hHeld hK K
              have hHeld := hHeldN
              clear hHeldN
              (try simp only [Act.put, List.setIfInBounds_toArray, List.set_cons_zero, List.set_cons_succ])
              refine wpAnyH_ready (rs := [10]) (by kernel_rfl) (by simp) ?_
              refine AllReadyH.cons (o := ({ dst := some 67, op := Op.call { callee := Callee.builtin Builtin.append, args := #[Operand.tmp 59, Operand.tmp 66], argTypes := #[70, 70] }, type := 70, pos := "items.go:48", after := #[{ on := 2, ground := Ground.data }, { on := 9, ground := Ground.data }, { on := 7, ground := Ground.chain }], guard := none } : Oper)) rfl (fun K hK => ?_) AllReadyH.nil
              (refine step_append_ol tcK_ok iaE_cells rfl (.tmp 59) (.tmp 66) rfl rfl wB ⟨(t1, t2), q8, ak.length, c8, ak⟩ (by (repeat' (first | (with_reducible first | exact Below.refl _ _ | assumption | refine Below.alloc ?_ ?_ _ | refine below_drewN ?_ _ | refine below_drew ?_ | refine below_ext ?_ ?_ _ _ | refine Below.setCell ?_ ?_ _) | (simp; done) | (simp; omega) | omega))) (gr := wB.heap.size) (by exact heap_alloc_new wB _) (HOL3.out wB (hbx.out.trans (HBB.out.mono hsx))) (by simp [Act.eval]) (by have := HL1.out; omega) (by have := HBB.out.size; omega) ?_; intro g2 cap2 w2 hob3 hoth hat hg2 hsz2; have HO2 := Lib.hid hob3; have HT2 := Lib.hid hoth; have HST := Lib.hid (StI.step (v2 := .slice (some ⟨g2, 0, none⟩) (st1.length + 1) cap2) HSI.out HSUB.out (hbx.out.trans (HBB.out.mono hsx)) hoth (fun k => by cases q <;> exact Iff.rfl) (fun k hk => Nat.lt_of_lt_of_le (HOWN2.out _ _ hk) hsx) (by omega) ⟨(t1, t2), q8, ak.length, c8, ak⟩ HAK8.out rfl HTF.out hat rfl); clear hob3 hoth hat)
              refine hK.out _ _ ?r12yhS11 (fun hHeldN => ?r12yrst11)
              case r12yhS11 => ((try dsimp only); exact HKT.out _ HBB.out _ HT2.out)
              clear hHeld hK K
              have hHeld := hHeldN
              clear hHeldN
              refine wpAnyH_take (i := 11) (oi := ({ dst := some 6, op := Op.assign (Operand.tmp 67), type := 70, pos := "items.go:48", after := #[{ on := 10, ground := Ground.data }, { on := 10, ground := Ground.chain }, { on := 0, ground := Ground.phase }, { on := 1, ground := Ground.phase }, { on := 2, ground := Ground.phase }, { on := 3, ground := Ground.phase }, { on := 4, ground := Ground.phase }, { on := 5, ground := Ground.phase }, { on := 6, ground := Ground.phase }, { on := 7, ground := Ground.phase }, { on := 8, ground := Ground.phase }, { on := 9, ground := Ground.phase }, { on := 10, ground := Ground.phase }], guard := none } : Oper)) (v := ?r12yv12) rfl (by kernel_rfl) (by kernel_rfl) (by kernel_rfl) (fun _ _ _ h => h) (Or.inl ⟨by rfl, ?r12yhy12⟩) (by assumption) ?r12yre12
              case r12yhy12 => (intro w hSw; (try dsimp only at hSw); go_simp; try with_reducible rfl)
              (try simp only [Act.put, List.setIfInBounds_toArray, List.set_cons_zero, List.set_cons_succ])
              refine wpAnyH_done (by kernel_rfl) ?_ _
              clear hHeld
              go_wp2
              obtain ⟨y0, y1, y2, y3, y4, y5, y6⟩ := HKR.out wB (hbx.out.trans (HBB.out.mono hsx))
              have hn9 : ¬ (Value.slice q r cp).ownBlock = some w.heap.size := fun e => by have := HOWN.out _ _ e; omega
              have hbT := HT2.out.below (n := w.heap.size) (by omega) (fun k hk => by have := HOWN.out _ _ hk; omega)
              have c9 := fun j => HT2.out.cell (j := j) y0 hn9
              have d9 := fun j => HT2.out.frozen (j := j) y0 hn9
              go_roundw
              case rel => exact ⟨i + 1, st1 ++ [⟨(t1, t2), q8, ak.length, c8, ak⟩], by go_num, by omega, by rw [List.length_append, List.length_singleton]; have := HL1.out; omega, HO2, Lib.hid (HBR.out.trans ((hbx.out.mono hsw).trans ((HBB.out.mono (by omega)).trans hbT))), by omega, Lib.hid ⟨by rw [List.length_append, List.length_singleton, HL1.out]; exact HFR2.out, by rw [List.map_append]; exact HRUN.out⟩, Lib.hid ⟨HST.out, by have h7 := HWT.out; have h6 := HAK.out; unfold wtI at h7 h6 ⊢; rw [List.map_append, List.sum_append]; simp only [List.map_cons, List.map_nil, List.sum_cons, List.sum_nil]; omega⟩, (c9 _).trans y1, (c9 _).trans y2, (c9 _).trans y3, (d9 _).trans y4, (d9 _).trans y5, (d9 _).trans y6⟩
              case measure => simp [intOf]; omega
          · have qe : (e == 0) = false := beq_eq_false_iff_ne.2 he0
            obtain rfl : ER = e := by rw [HE23.out, if_neg (by intro h; exact he0 h.1)]
            have HRS := Lib.hid (HNO.out he0)
            go_upto_region 8 with fail
            refine wp_region_held_drew (S := fun w' => w'.cell? ⟨wr.heap.size, 0, none⟩ = some (.int .i64 oa)) (by kernel_rfl) ?r8bxhSa (fun hHeld => ?r8bxresta)
            case r8bxhSa => ((try dsimp only); simp [go_sem, *])
            refine wpAnyH_take (i := 0) (oi := ({ dst := some 35, op := Op.move (Operand.tmp 12), type := 27, pos := "items.go:42", after := #[], guard := none } : Oper)) (v := ?r8bxv1) rfl (by kernel_rfl) (by kernel_rfl) (by kernel_rfl) (fun _ _ _ h => h) (Or.inl ⟨by rfl, ?r8bxhy1⟩) (by assumption) ?r8bxre1
            case r8bxhy1 => (intro w hSw; (try dsimp only at hSw); go_simp; try with_reducible rfl)
            (try simp only [Act.put, List.setIfInBounds_toArray, List.set_cons_zero, List.set_cons_succ])
            refine wpAnyH_take (i := 1) (oi := ({ dst := some 36, op := Op.binOp BinOp.eql 27 (Operand.tmp 35) (Operand.const (Value.int IntKind.i64 0)) 27, type := 4, pos := "items.go:42", after := #[{ on := 0, ground := Ground.data }], guard := none } : Oper)) (v := ?r8bxv2) rfl (by kernel_rfl) (by kernel_rfl) (by kernel_rfl) (fun _ _ _ h => h) (Or.inl ⟨by rfl, ?r8bxhy2⟩) (by assumption) ?r8bxre2
            case r8bxhy2 => (intro w hSw; (try dsimp only at hSw); go_simp; try with_reducible rfl)
            (try simp only [Act.put, List.setIfInBounds_toArray, List.set_cons_zero, List.set_cons_succ])
            refine wpAnyH_take (i := 2) (oi := ({ dst := some 37, op := Op.move (Operand.tmp 36), type := 4, pos := "items.go:42", after := #[{ on := 1, ground := Ground.data }], guard := none } : Oper)) (v := ?r8bxv3) rfl (by kernel_rfl) (by kernel_rfl) (by kernel_rfl) (fun _ _ _ h => h) (Or.inl ⟨by rfl, ?r8bxhy3⟩) (by assumption) ?r8bxre3
            case r8bxhy3 => (intro w hSw; (try dsimp only at hSw); go_simp; try with_reducible rfl)
            (try simp only [Act.put, List.setIfInBounds_toArray, List.set_cons_zero, List.set_cons_succ])
            refine wpAnyH_take (i := 3) (oi := ({ dst := some 38, op := Op.fieldAddr 39 (Operand.tmp 8) 0, type := 0, pos := "items.go:42", after := #[{ on := 2, ground := Ground.guard }], guard := some (2, true) } : Oper)) (v := undef) rfl (by kernel_rfl) (by kernel_rfl) (by kernel_rfl) (fun _ _ _ h => h) (Or.inr ⟨by rfl, rfl⟩) (by assumption) ?r8bxre4
            (try simp only [Act.put, List.setIfInBounds_toArray, List.set_cons_zero, List.set_cons_succ])
            refine wpAnyH_take (i := 4) (oi := ({ dst := some 39, op := Op.load 3 (Operand.tmp 38), type := 3, pos := "items.go:42", after := #[{ on := 3, ground := Ground.data }, { on := 2, ground := Ground.guard }], guard := some (2, true) } : Oper)) (v := undef) rfl (by kernel_rfl) (by kernel_rfl) (by kernel_rfl) (fun _ _ _ h => h) (Or.inr ⟨by rfl, rfl⟩) (by assumption) ?r8bxre5
            (try simp only [Act.put, List.setIfInBounds_toArray, List.set_cons_zero, List.set_cons_succ])
            refine wpAnyH_take (i := 5) (oi := ({ dst := some 40, op := Op.binOp BinOp.eql 3 (Operand.tmp 39) (Operand.const (Value.int IntKind.i64 23)) 3, type := 4, pos := "items.go:42", after := #[{ on := 4, ground := Ground.data }, { on := 2, ground := Ground.guard }], guard := some (2, true) } : Oper)) (v := undef) rfl (by kernel_rfl) (by kernel_rfl) (by kernel_rfl) (fun _ _ _ h => h) (Or.inr ⟨by rfl, rfl⟩) (by assumption) ?r8bxre6
            (try simp only [Act.put, List.setIfInBounds_toArray, List.set_cons_zero, List.set_cons_succ])
            refine wpAnyH_take (i := 6) (oi := ({ dst := some 41, op := Op.pick (Operand.tmp 37) (Operand.tmp 40) (Operand.const (Value.bool false)), type := 4, pos := "items.go:42", after := #[{ on := 2, ground := Ground.data }, { on := 5, ground := Ground.data }], guard := none } : Oper)) (v := ?r8bxv7) rfl (by kernel_rfl) (by kernel_rfl) (by kernel_rfl) (fun _ _ _ h => h) (Or.inl ⟨by rfl, ?r8bxhy7⟩) (by assumption) ?r8bxre7
            case r8bxhy7 => (intro w hSw; (try dsimp only at hSw); go_simp; try with_reducible rfl)
            (try simp only [Act.put, List.setIfInBounds_toArray, List.set_cons_zero, List.set_cons_succ])
            refine wpAnyH_take (i := 7) (oi := ({ dst := some 42, op := Op.move (Operand.tmp 41), type := 4, pos := "items.go:42", after := #[{ on := 6, ground := Ground.data }, { on := 2, ground := Ground.chain }], guard := none } : Oper)) (v := ?r8bxv8) rfl (by kernel_rfl) (by kernel_rfl) (by kernel_rfl) (fun _ _ _ h => h) (Or.inl ⟨by rfl, ?r8bxhy8⟩) (by assumption) ?r8bxre8
            case r8bxhy8 => (intro w hSw; (try dsimp only at hSw); go_simp; try with_reducible rfl)
            (try simp only [Act.put, List.setIfInBounds_toArray, List.set_cons_zero, List.set_cons_succ])
            refine wpAnyH_take (i := 8) (oi := ({ dst := some 43, op := Op.move (Operand.tmp 10), type := 70, pos := "items.go:42", after := #[{ on := 7, ground := Ground.guard }], guard := some (7, true) } : Oper)) (v := undef) rfl (by kernel_rfl) (by kernel_rfl) (by kernel_rfl) (fun _ _ _ h => h) (Or.inr ⟨by rfl, rfl⟩) (by assumption) ?r8bxre9
            (try simp only [Act.put, List.setIfInBounds_toArray, List.set_cons_zero, List.set_cons_succ])
            refine wpAnyH_take (i := 9) (oi := ({ dst := some 44, op := Op.indexAddr 70 (Operand.tmp 43) (Operand.const (Value.int IntKind.i64 1)), type := 0, pos := "items.go:42", after := #[{ on := 8, ground := Ground.data }, { on := 7, ground := Ground.guard }], guard := some (7, true) } : Oper)) (v := undef) rfl (by kernel_rfl) (by kernel_rfl) (by kernel_rfl) (fun _ _ _ h => h) (Or.inr ⟨by rfl, rfl⟩) (by assumption) ?r8bxre10
            (try simp only [Act.put, List.setIfInBounds_toArray, List.set_cons_zero, List.set_cons_succ])
            refine wpAnyH_take (i := 10) (oi := ({ dst := some 45, op := Op.load 48 (Operand.tmp 44), type := 48, pos := "items.go:42", after := #[{ on := 9, ground := Ground.data }, { on := 7, ground := Ground.guard }], guard := some (7, true) } : Oper)) (v := undef) rfl (by kernel_rfl) (by kernel_rfl) (by kernel_rfl) (fun _ _ _ h => h) (Or.inr ⟨by rfl, rfl⟩) (by assumption) ?r8bxre11
            (try simp only [Act.put, List.setIfInBounds_toArray, List.set_cons_zero, List.set_cons_succ])
            refine wpAnyH_take (i := 11) (oi := ({ dst := some 46, op := Op.move (Operand.tmp 10), type := 70, pos := "items.go:42", after := #[{ on := 7, ground := Ground.guard }], guard := some (7, true) } : Oper)) (v := undef) rfl (by kernel_rfl) (by kernel_rfl) (by kernel_rfl) (fun _ _ _ h => h) (Or.inr ⟨by rfl, rfl⟩) (by assumption) ?r8bxre12
            (try simp only [Act.put, List.setIfInBounds_toArray, List.set_cons_zero, List.set_cons_succ])
            refine wpAnyH_take (i := 12) (oi := ({ dst := some 47, op := Op.indexAddr 70 (Operand.tmp 46) (Operand.const (Value.int IntKind.i64 0)), type := 0, pos := "items.go:42", after := #[{ on := 11, ground := Ground.data }, { on := 7, ground := Ground.guard }], guard := some (7, true) } : Oper)) (v := undef) rfl (by kernel_rfl) (by kernel_rfl) (by kernel_rfl) (fun _ _ _ h => h) (Or.inr ⟨by rfl, rfl⟩) (by assumption) ?r8bxre13
            (try simp only [Act.put, List.setIfInBounds_toArray, List.set_cons_zero, List.set_cons_succ])
            refine wpAnyH_take (i := 13) (oi := ({ dst := some 48, op := Op.fieldAddr 48 (Operand.tmp 47) 0, type := 0, pos := "items.go:42", after := #[{ on := 12, ground := Ground.data }, { on := 7, ground := Ground.guard }], guard := some (7, true) } : Oper)) (v := undef) rfl (by kernel_rfl) (by kernel_rfl) (by kernel_rfl) (fun _ _ _ h => h) (Or.inr ⟨by rfl, rfl⟩) (by assumption) ?r8bxre14
            (try simp only [Act.put, List.setIfInBounds_toArray, List.set_cons_zero, List.set_cons_succ])
            refine wpAnyH_take (i := 14) (oi := ({ dst := some 49, op := Op.load 26 (Operand.tmp 48), type := 26, pos := "items.go:42", after := #[{ on := 13, ground := Ground.data }, { on := 7, ground := Ground.guard }], guard := some (7, true) } : Oper)) (v := undef) rfl (by kernel_rfl) (by kernel_rfl) (by kernel_rfl) (fun _ _ _ h => h) (Or.inr ⟨by rfl, rfl⟩) (by assumption) ?r8bxre15
            (try simp only [Act.put, List.setIfInBounds_toArray, List.set_cons_zero, List.set_cons_succ])
            refine wpAnyH_take (i := 15) (oi := ({ dst := some 50, op := Op.call { callee := Callee.value (Operand.func 17), args := #[Operand.tmp 45, Operand.tmp 49], argTypes := #[48, 26] }, type := 4, pos := "items.go:42", after := #[{ on := 10, ground := Ground.data }, { on := 14, ground := Ground.data }, { on := 7, ground := Ground.chain }, { on := 7, ground := Ground.guard }], guard := some (7, true) } : Oper)) (v := undef) rfl (by kernel_rfl) (by kernel_rfl) (by kernel_rfl) (fun _ _ _ h => h) (Or.inr ⟨by rfl, rfl⟩) (by assumption) ?r8bxre16
            (try simp only [Act.put, List.setIfInBounds_toArray, List.set_cons_zero, List.set_cons_succ])
            refine wpAnyH_take (i := 16) (oi := ({ dst := some 51, op := Op.unOp UnOp.not 4 (Operand.tmp 50), type := 4, pos := "items.go:42", after := #[{ on := 15, ground := Ground.data }, { on := 7, ground := Ground.guard }], guard := some (7, true) } : Oper)) (v := undef) rfl (by kernel_rfl) (by kernel_rfl) (by kernel_rfl) (fun _ _ _ h => h) (Or.inr ⟨by rfl, rfl⟩) (by assumption) ?r8bxre17
            (try simp only [Act.put, List.setIfInBounds_toArray, List.set_cons_zero, List.set_cons_succ])
            refine wpAnyH_take (i := 17) (oi := ({ dst := some 52, op := Op.pick (Operand.tmp 42) (Operand.tmp 51) (Operand.const (Value.bool false)), type := 4, pos := "items.go:42", after := #[{ on := 7, ground := Ground.data }, { on := 16, ground := Ground.data }], guard := none } : Oper)) (v := ?r8bxv18) rfl (by kernel_rfl) (by kernel_rfl) (by kernel_rfl) (fun _ _ _ h => h) (Or.inl ⟨by rfl, ?r8bxhy18⟩) (by assumption) ?r8bxre18
            case r8bxhy18 => (intro w hSw; (try dsimp only at hSw); go_simp; try with_reducible rfl)
            (try simp only [Act.put, List.setIfInBounds_toArray, List.set_cons_zero, List.set_cons_succ])
            refine wpAnyH_done (by kernel_rfl) ?_ _
            clear hHeld
            go_upto_region 11 with fail
            refine cutX (fun W3 => Below w.heap.size w W3 ∧ w.heap.size < W3.heap.size ∧ W3.cell? ⟨w.heap.size, 0, none⟩ = some (.int .i64 0) ∧ W3.cell? ⟨w.heap.size, 1, none⟩ = some (.int .i64 0) ∧ W3.cell? ⟨w.heap.size, 2, none⟩ = some (.slice none 0 0) ∧ W3.frozen? ⟨w.heap.size, 0, none⟩ = false ∧ W3.frozen? ⟨w.heap.size, 1, none⟩ = false ∧ W3.frozen? ⟨w.heap.size, 2, none⟩ = false) ⟨HBR.out.trans ((hbx.out.mono hsw).trans (by (repeat' (first | (with_reducible first | exact Below.refl _ _ | assumption | refine Below.alloc ?_ ?_ _ | refine below_drewN ?_ _ | refine below_drew ?_ | refine below_ext ?_ ?_ _ _ | refine Below.setCell ?_ ?_ _) | (simp; done) | (simp; omega) | omega)))), HKR.out _ (hbx.out.trans (by (repeat' (first | (with_reducible first | exact Below.refl _ _ | assumption | refine Below.alloc ?_ ?_ _ | refine below_drewN ?_ _ | refine below_drew ?_ | refine below_ext ?_ ?_ _ _ | refine Below.setCell ?_ ?_ _) | (simp; done) | (simp; omega) | omega))))⟩ ?_
            intro W3 ⟨hb3, hs3, r0, r1, r2, f0, f1, f2⟩
            have s0 : (W3.setCell ⟨w.heap.size, 0, none⟩ (.int .i64 0)).cell? ⟨w.heap.size, 0, none⟩ = some (.int .i64 0) := World.cell?_setCell_same _ _ _ r0
            have s1 : ((W3.setCell ⟨w.heap.size, 0, none⟩ (.int .i64 0)).setCell ⟨w.heap.size, 1, none⟩ (.int .i64 0)).cell? ⟨w.heap.size, 1, none⟩ = some (.int .i64 0) := World.cell?_setCell_same _ _ _ ((World.cell?_setCell_other _ _ _ _ (by intro e2; injection e2 with _ e3; exact absurd e3 (by decide))).trans r1)
            have s2 : (((W3.setCell ⟨w.heap.size, 0, none⟩ (.int .i64 0)).setCell ⟨w.heap.size, 1, none⟩ (.int .i64 0)).setCell ⟨w.heap.size, 2, none⟩ (.slice none 0 0)).cell? ⟨w.heap.size, 2, none⟩ = some (.slice none 0 0) := World.cell?_setCell_same _ _ _ ((World.cell?_setCell_other _ _ _ _ (by intro e2; injection e2 with _ e3; exact absurd e3 (by decide))).trans ((World.cell?_setCell_other _ _ _ _ (by intro e2; injection e2 with _ e3; exact absurd e3 (by decide))).trans r2))
            go_wp2
            refine bodyPost_ret (by simp [results, Tryz.results15, go_sem, s0, s1, s2]; try rfl) rfl ?_
            rw [HRS.out]
            exact (show DtQ (((0, 0), []), ER) w _ _ from ⟨hb3.trans (by (repeat' (first | (with_reducible first | exact Below.refl _ _ | assumption | refine Below.alloc ?_ ?_ _ | refine below_drewN ?_ _ | refine below_drew ?_ | refine below_ext ?_ ?_ _ _ | refine Below.setCell ?_ ?_ _) | (simp; done) | (simp; omega) | omega))), none, 0, 0, rfl, RL.nil _ _ _ _⟩)
    · obtain rfl : i = len := by omega
      have hii : ¬ (i : Int) < i := by omega
      obtain ⟨hfr, hrm⟩ := hru.out
      rw [List.drop_eq_nil_of_le (by rw [← HL.out]; exact Nat.le_refl _)] at hfr hrm
      obtain ⟨hSI, -⟩ := hst0.out
      have hsn1 : 0 < sn := by rw [HSN.out]; exact hfr
      have hsn2 : (0 : Int) < (sn : Int) := by omega
      obtain ⟨gd, rfl, hgd1, hgd2⟩ := hq hsn1
      obtain ⟨y, rr, hyr⟩ : ∃ y rr, st = y :: rr := by
        cases st with
        | nil => exact absurd hfr (Nat.lt_irrefl 0)
        | cons y rr => exact ⟨y, rr, rfl⟩
      subst hyr
      obtain ⟨⟨k1, k2⟩, yp, yn, yc, yks⟩ := y
      have HRS := Lib.hid (show RES = (((k1, k2), yks), 0) by rw [← hrm]; rfl)
      have c0 : wr.cell? ⟨gd, 0, none⟩ = some (.int .i64 k1) := OL.cell iaE_cells HOL.out 0 0 (by simp) rfl
      have c1 : wr.cell? ⟨gd, 1, none⟩ = some (.int .i64 k2) := OL.cell iaE_cells HOL.out 0 1 (by simp) rfl
      have c2 : wr.cell? ⟨gd, 2, none⟩ = some (.slice yp yn yc) := OL.cell iaE_cells HOL.out 0 2 (by simp) rfl
      have HY := Lib.hid (hSI _ (List.mem_cons_self ..))
      clear hru hrm hfr hSI hst0
      have s0 : (wr.setCell ⟨w.heap.size, 0, none⟩ (.int .i64 k1)).cell? ⟨w.heap.size, 0, none⟩ = some (.int .i64 k1) := World.cell?_setCell_same _ _ _ r0
      have s1 : ((wr.setCell ⟨w.heap.size, 0, none⟩ (.int .i64 k1)).setCell ⟨w.heap.size, 1, none⟩ (.int .i64 k2)).cell? ⟨w.heap.size, 1, none⟩ = some (.int .i64 k2) := World.cell?_setCell_same _ _ _ ((World.cell?_setCell_other _ _ _ _ (by intro e2; injection e2 with _ e3; exact absurd e3 (by decide))).trans r1)
      have s2 : (((wr.setCell ⟨w.heap.size, 0, none⟩ (.int .i64 k1)).setCell ⟨w.heap.size, 1, none⟩ (.int .i64 k2)).setCell ⟨w.heap.size, 2, none⟩ (.slice yp yn yc)).cell? ⟨w.heap.size, 2, none⟩ = some (.slice yp yn yc) := World.cell?_setCell_same _ _ _ ((World.cell?_setCell_other _ _ _ _ (by intro e2; injection e2 with _ e3; exact absurd e3 (by decide))).trans ((World.cell?_setCell_other _ _ _ _ (by intro e2; injection e2 with _ e3; exact absurd e3 (by decide))).trans r2))
      have HOT := Lib.hid ((((Ot.refl (fun k => k = w.heap.size) wr).set ⟨w.heap.size, 0, none⟩ (.inl rfl) (.int .i64 k1)).set ⟨w.heap.size, 1, none⟩ (.inl rfl) (.int .i64 k2)).set ⟨w.heap.size, 2, none⟩ (.inl rfl) (.slice yp yn yc))
      go_wp2
      refine bodyPost_ret (by simp [results, Tryz.results15, go_sem, s0, s1, s2]; try rfl) rfl ?_
      rw [HRS.out]
      refine (show DtQ (((k1, k2), yks), 0) w _ _ from ⟨HBR.out.trans (by (repeat' (first | (with_reducible first | exact Below.refl _ _ | assumption | refine Below.alloc ?_ ?_ _ | refine below_drewN ?_ _ | refine below_drew ?_ | refine below_ext ?_ ?_ _ _ | refine Below.setCell ?_ ?_ _) | (simp; done) | (simp; omega) | omega))), _, _, _, rfl, ?_⟩)
      exact ((HY.out.1).ot (Nat.le_refl _) HOT.out fun g o m c e h0 e2 => by
        injection e with e1 _ _
        have := (HY.out.2.2 g o e1 h0).1
        omega).more HOT.out.size
end Go.Proofs.YtalahkincccffaaGreatDoor
