/-
  The program's Parts: those of whatever node.
-/
import Derived.Test.YtpgfgaloagdogaaDoorNodY
import Derived.Test.YtpgfgaloagdogaaDoorNodD
namespace Go.Proofs.YtpgfgaloagdogaaDoor
open Go.RowKit Num Word Txt
attribute [local go_sem] setCell_drewN cell?_ext frozen?_ext shape?_ext setCell_ext lt_1' ne_1' en_1' le_1' lt_2' ne_2' en_2' le_2' lt_3' ne_3' en_3' le_3' lt_4' ne_4' en_4' le_4' lt_5' ne_5' en_5' le_5' lt_6' ne_6' en_6' le_6' lt_7' ne_7' en_7' le_7' lt_8' ne_8' en_8' le_8' lt_9' ne_9' en_9' le_9' lt_10' ne_10' en_10' le_10' lt_11' ne_11' en_11' le_11' lt_12' ne_12' en_12' le_12'

theorem OL.rd {B : Nat} {w : World} {v : Value} {l : List Nat} (h : OL inK inE B w v l) : RdP (fun g => B ≤ g) w v l := by
  obtain ⟨q, c, e, hq, hc⟩ := OL.form h
  subst e
  rcases h.2 with ⟨e, h0⟩ | ⟨g, cap, cur, e, hb, hg, -⟩
  · exact .inl ⟨e, List.eq_nil_of_length_eq_zero h0⟩
  · injection e with e1 _ e3
    subst e1
    refine .inr ⟨g, 0, c, rfl, hc, (Array.getElem?_eq_some_iff.1 hg).1, hb, fun j hj => ?_⟩
    have h9 := OL.cell inE_cells h j 0 hj (u := .int .i64 (l[j] : Int)) rfl
    rwa [show j * inK.size + 0 = 0 + j by show j * 1 + 0 = 0 + j; omega] at h9
theorem par_next {w1 w2 : World} {v1 : Value} {m1 : List Nat} {B g2 n cap : Nat} {S : Nat → Prop} (h1 : OL inK inE B w1 v1 m1) (ho : Ot S w1 w2) (hS : ∀ g, S g → g < B) (hat : S g2 ∨ w1.heap.size ≤ g2) : RdP (fun g => (Value.slice (some ⟨g2, 0, none⟩) n cap).ownBlock ≠ some g) w2 v1 m1 :=
  ((h1.rd.weak (Q := fun g => g < w1.heap.size ∧ B ≤ g) (fun g hg hp => ⟨hg, hp⟩)).kept ho (fun g hp hs => by have := hS g hs; omega)).weak fun g _ hg e => by
    have e2 : g2 = g := Option.some.inj e
    rcases hat with ha | ha
    · have := hS g2 ha; omega
    · omega
def PtQ (at' : Nat) (R : Option (List Nat × List (List Nat))) (w : World) (e : Ending) (w' : World) : Prop := Below w.heap.size w w' ∧ match R with
  | none => e = .returned (.tuple #[.slice none 0 0, .int .i64 2])
  | some q => ∃ v, e = .returned (.tuple #[v, .int .i64 0]) ∧ Rd w' v (q.2.getD at' [])
set_option maxRecDepth 100000 in
set_option maxHeartbeats 8000000 in
theorem parts_any (l : List NdD) (t : Nat) (ht : t < l.length) (n : Nat) (w : World) (v : Value) (hv : RL 8 ndE n w v l) (hn : n ≤ w.heap.size) (hl : l.length ≤ 300) (hwf : ∀ x ∈ l, x.Wf) (hcap : ∀ p k c, v = .slice p k c → k ≤ c) :
    Calls Tryd.prog 51 #[v, .int .i64 t] w fun e w' => PtQ t (stkP 0 (l.take (t + 1)) []) w e w' := by
  obtain ⟨p, c, rfl, h2⟩ := hv
  have hlc := hcap _ _ _ rfl
  clear hcap
  obtain ⟨len, hlen⟩ : ∃ len, len = l.length := ⟨_, rfl⟩
  have HL := Lib.hid hlen
  obtain ⟨g, o, rfl, hg, hc⟩ := h2 (by omega)
  have HC := Lib.hid hc
  obtain ⟨m, hm⟩ : ∃ m, m = t + 1 := ⟨_, rfl⟩
  have HD0 := Lib.hid (OL.nil inK inE w.heap.size w)
  have HB0 := Lib.hid (Below.refl w.heap.size w)
  obtain ⟨R, hR⟩ : ∃ R, R = stkP 0 (l.take (t + 1)) [] := ⟨_, rfl⟩
  have HR0 := Lib.hid (show addP [] (stkP 0 ((l.take m).drop 0) []) = R by rw [hm, hR, List.drop_zero]; cases stkP 0 (l.take (t + 1)) [] <;> rfl)
  have HRL := Lib.hid (show ∀ H P, R = some (H, P) → P.length = m from fun H P e => by
    have := (stk_in _ 0 [] (hR.symm.trans e) (by simp)).1
    simp only at this
    rw [this, List.length_take]; omega)
  rw [← hR]
  rw [← hlen] at ht hl hlc ⊢
  have hgw : g < w.heap.size := by omega
  have htm : (t : Int) + 1 = (m : Int) := by omega
  have htl : (t : Int) < (len : Int) := by omega
  have htn : ¬ (len : Int) ≤ (t : Int) := by omega
  have h300 : ¬ (300 : Int) < (len : Int) := by omega
  have hml : m ≤ len := by omega
  have hmc : (m : Int) ≤ (c : Int) := by omega
  have hmc2 : m ≤ c := by omega
  have HM := Lib.hid hm
  have ht0 : ¬ (t : Int) < 0 := by omega
  clear h2 hc hlen hR hm
  go_enter Tryd.func51, Tryd.ntmps51
  go_wp2
  go_loopw [6, 7, 27] (fun x y z wr => ∃ (k : Nat) (H : List Nat) (P : List (List Nat)), z = .int .i64 k ∧ k ≤ m ∧ H.length ≤ k ∧ P.length = k ∧ (0 < k → H ≠ []) ∧ Hid (OL inK inE w.heap.size wr x H) ∧ (k = 0 → x = .slice none 0 0) ∧ Hid (Below w.heap.size w wr) ∧ Hid (RdP (fun g => x.ownBlock ≠ some g) wr y (P.getD (k - 1) [])) ∧ Hid (addP P (stkP k ((l.take m).drop k) H) = R)) (fun _ _ z _ => m - (intOf z).toNat)
  case atStart => exact ⟨0, [], [], rfl, Nat.zero_le _, Nat.le_refl _, rfl, fun h => absurd h (Nat.lt_irrefl 0), HD0, fun _ => rfl, HB0, Lib.hid (.inl ⟨rfl, rfl⟩), HR0⟩
  case round =>
    obtain ⟨k, H, P, rfl, hkm, hHk, hPk, hne, hol, hx0, hbe, hrd, hru⟩ := hrel
    clear HD0 HB0 HR0
    have hsw := hbe.out.size
    have HBR := Lib.hid hbe.out
    have HRD := Lib.hid hrd.out
    obtain ⟨q, cp, hvx, hq, hcp⟩ := OL.form hol.out
    obtain ⟨py, cy, hy, -⟩ := hrd.out.form
    have HOWN := Lib.hid (show ∀ n k2, (Value.slice q n cp).ownBlock = some k2 → w.heap.size ≤ k2 ∧ k2 < wr.heap.size from fun n k2 h2 => World.ownsRow.lt hol.out k2 (by rw [hvx]; cases q <;> exact h2))
    have HOL := Lib.hid hol.out
    by_cases hil : k < m
    · have hii : (k : Int) < (m : Int) := by omega
      have hil2 : k < l.length := by rw [← HL.out]; omega
      have hgr : g < wr.heap.size := by omega
      have hc2 : ∀ j (h : j < l.length) i u, (ndE l[j])[i]? = some u → wr.cell? ⟨g, o + j * 8 + i, none⟩ = some u := fun j hj i u hu => by
        rw [HBR.out.cell (p := ⟨g, _, none⟩) hgw]; exact HC.out j hj i u hu
      obtain ⟨oa, ka, ta, na, ca, sa, da, he, x0, x1, x2, x3, x4, x5, x6, x7⟩ := nd_cells hc2 k hil2
      have hdr : (l.take m).drop k = ⟨oa, ka, ta, na, ca, sa, da⟩ :: (l.take m).drop (k + 1) := by
        have hlt : k < (l.take m).length := by rw [List.length_take]; omega
        rw [List.drop_eq_getElem_cons hlt, List.getElem_take, he]
      obtain ⟨hn2, hhn⟩ : ∃ hn2, hn2 = H.length := ⟨_, rfl⟩
      have HHN := Lib.hid hhn
      have HRU := Lib.hid (show addP P (if takesN oa ka = true ∧ ka ≤ H.length then (stkP (k + 1) ((l.take m).drop (k + 1)) (H.take (H.length - ka.toNat) ++ [k])).map fun q => (q.1, H.drop (H.length - ka.toNat) :: q.2) else none) = R by rw [← hru.out, hdr]; rfl)
      have HT := Lib.hid (fun w => etakes_any oa ka w)
      obtain ⟨tk, htk⟩ : ∃ tk, tk = takesN oa ka := ⟨_, rfl⟩
      rw [← htk] at HT HRU
      have HTK := Lib.hid htk
      have hkb := (hwf _ (he ▸ List.getElem_mem hil2)).k.2
      simp only at hkb
      generalize (Word.hi ca : Int) = ha at *
      generalize (Word.lo ca : Int) = la at *
      rw [← hhn] at hvx hq hcp hHk
      subst hvx
      generalize (P.getD (k - 1) []).length = yn at hy
      subst hy
      clear hc2 he hdr hru htk hhn hol hrd
      cases tk with
      | false =>
        have HE := Lib.hid (show R = none by rw [← HRU.out]; rfl)
        go_wp2_with (first | (go_at_call 47; ((with_reducible refine (HT.out _).mono ?_); rintro e w' ⟨rfl, rfl⟩)))
        go_ret2
        rw [HE.out]
        exact ⟨HBR.out.trans (show Below w.heap.size wr _ by (repeat' (first | (with_reducible exact Below.refl _ _) | (with_reducible assumption) | (with_reducible refine Below.alloc ?_ ?_ _) | (with_reducible refine below_drewN ?_ _) | (with_reducible refine below_drew ?_) | (with_reducible refine below_ext ?_ ?_ _ _) | (with_reducible refine Below.setCell ?_ ?_ _) | (simp; done) | (simp; omega) | omega))), rfl⟩
      | true =>
        have hk0 := takes_pos HTK.out.symm
        obtain ⟨kk, rfl⟩ : ∃ kk : Nat, ka = (kk : Int) := ⟨ka.toNat, by omega⟩
        by_cases hks : kk ≤ hn2
        · obtain ⟨r, hr⟩ : ∃ r, r = hn2 - kk := ⟨_, rfl⟩
          have E1 : (hn2 : Int) - (kk : Int) = (r : Int) := by omega
          have hks3 : ¬ (r : Int) < 0 := by omega
          have hra : r + kk ≤ hn2 := by omega
          have hrb : hn2 ≤ r + kk := by omega
          have HRU2 := Lib.hid (show addP (P ++ [H.drop r]) (stkP (k + 1) ((l.take m).drop (k + 1)) (H.take r ++ [k])) = R by
            rw [← HRU.out, if_pos ⟨rfl, by rw [← HHN.out]; omega⟩, Int.toNat_natCast, ← HHN.out, ← hr, addP_step])
          clear hr
          have hHl : H.length = hn2 := HHN.out.symm
          have HM2 := Lib.hid (show (H.take r).length = r by rw [List.length_take]; omega)
          have HM1 := Lib.hid (show (H.drop r).length = kk by rw [List.length_drop]; omega)
          have HTAKE := Lib.hid (fun w' (hb : Below wr.heap.size wr w') => OL.take (m := r) inE_cells (OL.new HOL.out hb) (by rw [hHl]; omega))
          have HGD := Lib.hid (show ∀ x : List Nat, (P ++ [x]).getD (k + 1 - 1) [] = x from fun x => by
            rw [Nat.add_sub_cancel, ← hPk, List.getD_eq_getElem?_getD, List.getElem?_append_right (Nat.le_refl _)]; simp)
          have hr6 : r ≤ 1000000 := by omega
          by_cases hk00 : k = 0
          · subst hk00
            obtain rfl : hn2 = 0 := by omega
            obtain rfl : kk = 0 := by omega
            obtain rfl : r = 0 := by omega
            have hxx := hx0 rfl
            injection hxx with e1 _ e3
            subst e1 e3
            have hH0 : H = [] := List.eq_nil_of_length_eq_zero hHl
            subst hH0
            have h00 : ((0 : Nat) : Int) = 0 := rfl
            rw [h00] at HT
            rw [show o + 0 * 8 = o by omega] at x0 x1 x2 x3 x4 x5 x6 x7
            clear hkb E1 hk0 hks hra hrb hcp hq hne hx0 hHl hHk
            go_wp2_with (first
              | (go_at_call 47; ((with_reducible refine (HT.out _).mono ?_); rintro e w' ⟨rfl, rfl⟩))
              | (go_at_call 66; ((with_reducible refine (clone_nil _).mono ?_); rintro e w' ⟨rfl, rfl⟩))
              | (at_builtin; refine wpList_append_ol inK_ok inE_cells rfl _ _ rfl rfl _ 0 rfl (OL.nil inK inE w.heap.size _) (by simp [Act.eval]) (by decide) (by (repeat' (first | (with_reducible exact Below.refl _ _) | (with_reducible assumption) | (with_reducible refine Below.alloc ?_ ?_ _) | (with_reducible refine below_drewN ?_ _) | (with_reducible refine below_drew ?_) | (with_reducible refine below_ext ?_ ?_ _ _) | (with_reducible refine Below.setCell ?_ ?_ _) | (simp; done) | (simp; omega) | omega))) ?_; intro g2 cap2 w2 hob3 hoth hat hg2 hsz2; have HO2 := Lib.hid (show OL inK inE w.heap.size w2 (.slice (some ⟨g2, 0, none⟩) 1 cap2) [0] from hob3); have HB2 := Lib.hid ((HBR.out.trans (show Below w.heap.size wr _ by (repeat' (first | (with_reducible exact Below.refl _ _) | (with_reducible assumption) | (with_reducible refine Below.alloc ?_ ?_ _) | (with_reducible refine below_drewN ?_ _) | (with_reducible refine below_drew ?_) | (with_reducible refine below_ext ?_ ?_ _ _) | (with_reducible refine Below.setCell ?_ ?_ _) | (simp; done) | (simp; omega) | omega)))).trans (hoth.below (by (repeat' (first | (with_reducible exact Below.refl _ _) | (with_reducible assumption) | (with_reducible refine Below.alloc ?_ ?_ _) | (with_reducible refine below_drewN ?_ _) | (with_reducible refine below_drew ?_) | (with_reducible refine below_ext ?_ ?_ _ _) | (with_reducible refine Below.setCell ?_ ?_ _) | (simp; done) | (simp; omega) | omega))) fun k hk => by cases hk)); clear hob3 hoth hat))
            refine ⟨⟨1, [0], P ++ [[]], rfl, ?_, ?_, ?_, fun _ => by simp, HO2, fun h => absurd h (by omega), HB2, Lib.hid ?_, HRU2⟩, ?_⟩
            · omega
            · simp
            · rw [List.length_append, hPk]; rfl
            · exact .inl ⟨rfl, HGD.out []⟩
            · simp [intOf]; omega
          · have hn0 : 0 < hn2 := by
              rw [← hHl]; exact List.length_pos_iff.2 (hne (by omega))
            obtain ⟨gd, rfl, hgd1, hgd2⟩ := hq hn0
            have HCE := Lib.hid (show ∀ w', Below wr.heap.size wr w' → ∀ j (h : j < H.length), w'.cell? ⟨gd, j, none⟩ = some (.int .i64 (H[j] : Int)) from fun w' hb j h => by
              have h9 := OL.cell inE_cells (OL.new HOL.out hb) j 0 h (u := .int .i64 (H[j] : Int)) rfl
              rwa [show j * inK.size + 0 = j by show j * 1 + 0 = j; omega] at h9)
            have HCL := Lib.hid (show ∀ o c w', Below wr.heap.size wr w' → (0 < kk → o = r) → Calls Tryd.prog 66 #[.slice (some ⟨gd, o, none⟩) kk c] w' fun e w'' => ∃ v', e = .returned v' ∧ OL inK inE w'.heap.size w'' v' (H.drop r) ∧ Below w'.heap.size w' w'' from fun o c w' hb ho => by
              have h9 := clone_some gd o c (H.drop r) w' (Nat.lt_of_lt_of_le hgd2 hb.size) (by rw [HM1.out]; omega) (fun j h => by
                rw [HM1.out] at h
                obtain rfl := ho (by omega)
                rw [List.getElem_drop]
                exact HCE.out w' hb (o + j) (by omega))
              rw [HM1.out] at h9
              exact h9)
            clear HCE hHl hx0 hq hne
            have hcs : (kk = 0 ∧ hn2 = cp) ∨ (kk = 0 ∧ hn2 < cp) ∨ 0 < kk := by omega
            rcases hcs with ⟨hk9, hcq⟩ | ⟨hk9, hcq⟩ | hk9
            · obtain rfl : kk = 0 := hk9
              obtain rfl : r = hn2 := by omega
              obtain rfl : r = cp := hcq
              have h00 : ((0 : Nat) : Int) = 0 := rfl
              rw [h00] at HT
              clear hkb E1 hk0 hks hra hrb hcp
              go_wp2_with (first
                | (go_at_call 47; ((with_reducible refine (HT.out _).mono ?_); rintro e w' ⟨rfl, rfl⟩))
                | (go_at_call 66; (with_reducible refine (HCL.out _ _ _ (by (repeat' (first | (with_reducible exact Below.refl _ _) | (with_reducible assumption) | (with_reducible refine Below.alloc ?_ ?_ _) | (with_reducible refine below_drewN ?_ _) | (with_reducible refine below_drew ?_) | (with_reducible refine below_ext ?_ ?_ _ _) | (with_reducible refine Below.setCell ?_ ?_ _) | (simp; done) | (simp; omega) | omega))) (by intro _; first | rfl | omega)).mono ?_); rintro e w1 ⟨v1, rfl, hv1, hb1⟩; have HV1 := Lib.hid hv1; have HW1 := Lib.hid ((show Below wr.heap.size wr _ by (repeat' (first | (with_reducible exact Below.refl _ _) | (with_reducible assumption) | (with_reducible refine Below.alloc ?_ ?_ _) | (with_reducible refine below_drewN ?_ _) | (with_reducible refine below_drew ?_) | (with_reducible refine below_ext ?_ ?_ _ _) | (with_reducible refine Below.setCell ?_ ?_ _) | (simp; done) | (simp; omega) | omega))).trans (hb1.mono (by simp))); have hsw1 := hb1.size; clear hv1 hb1)
                | (at_builtin; refine wpList_append_ol inK_ok inE_cells rfl _ _ rfl rfl w1 k rfl (HTAKE.out _ HW1.out) (by simp [Act.eval]) (by rw [HM2.out]; exact hr6) (by have := HW1.out.size; omega) ?_; intro g2 cap2 w2 hob3 hoth hat hg2 hsz2; rw [HM2.out] at hob3; have HO2 := Lib.hid hob3; have HT2 := Lib.hid hoth; have HA2 := Lib.hid hat; clear hob3 hoth hat))
              rw [show min r H.length = r by rw [← HHN.out]; omega]
              refine ⟨⟨k + 1, H.take r ++ [k], P ++ [H.drop r], by go_num, ?_, ?_, ?_, fun _ => by simp, HO2, fun h => absurd h (by omega), Lib.hid ?_, Lib.hid ?_, HRU2⟩, ?_⟩
              · omega
              · rw [List.length_append, HM2.out, List.length_singleton]; omega
              · rw [List.length_append, hPk]; rfl
              · exact (HBR.out.trans (HW1.out.mono hsw)).trans (HT2.out.below (by have := HW1.out.size; omega) fun k hk => (HOWN.out _ k hk).1)
              · show RdP _ _ _ ((P ++ [H.drop r]).getD (k + 1 - 1) [])
                rw [HGD.out]
                exact par_next HV1.out HT2.out (fun g hg => by have := (HOWN.out _ g hg).2; simp; omega) HA2.out
              · simp [intOf]; omega
            · obtain rfl : kk = 0 := hk9
              obtain rfl : r = hn2 := by omega
              have hcc2 : ¬ cp = r := by omega
              have h00 : ((0 : Nat) : Int) = 0 := rfl
              rw [h00] at HT
              clear hkb E1 hk0 hks hra hrb hcp
              go_wp2_with (first
                | (go_at_call 47; ((with_reducible refine (HT.out _).mono ?_); rintro e w' ⟨rfl, rfl⟩))
                | (go_at_call 66; (with_reducible refine (HCL.out _ _ _ (by (repeat' (first | (with_reducible exact Below.refl _ _) | (with_reducible assumption) | (with_reducible refine Below.alloc ?_ ?_ _) | (with_reducible refine below_drewN ?_ _) | (with_reducible refine below_drew ?_) | (with_reducible refine below_ext ?_ ?_ _ _) | (with_reducible refine Below.setCell ?_ ?_ _) | (simp; done) | (simp; omega) | omega))) (by intro _; first | rfl | omega)).mono ?_); rintro e w1 ⟨v1, rfl, hv1, hb1⟩; have HV1 := Lib.hid hv1; have HW1 := Lib.hid ((show Below wr.heap.size wr _ by (repeat' (first | (with_reducible exact Below.refl _ _) | (with_reducible assumption) | (with_reducible refine Below.alloc ?_ ?_ _) | (with_reducible refine below_drewN ?_ _) | (with_reducible refine below_drew ?_) | (with_reducible refine below_ext ?_ ?_ _ _) | (with_reducible refine Below.setCell ?_ ?_ _) | (simp; done) | (simp; omega) | omega))).trans (hb1.mono (by simp))); have hsw1 := hb1.size; clear hv1 hb1)
                | (at_builtin; refine wpList_append_ol inK_ok inE_cells rfl _ _ rfl rfl w1 k rfl (HTAKE.out _ HW1.out) (by simp [Act.eval]) (by rw [HM2.out]; exact hr6) (by have := HW1.out.size; omega) ?_; intro g2 cap2 w2 hob3 hoth hat hg2 hsz2; rw [HM2.out] at hob3; have HO2 := Lib.hid hob3; have HT2 := Lib.hid hoth; have HA2 := Lib.hid hat; clear hob3 hoth hat))
              rw [show min r H.length = r by rw [← HHN.out]; omega]
              refine ⟨⟨k + 1, H.take r ++ [k], P ++ [H.drop r], by go_num, ?_, ?_, ?_, fun _ => by simp, HO2, fun h => absurd h (by omega), Lib.hid ?_, Lib.hid ?_, HRU2⟩, ?_⟩
              · omega
              · rw [List.length_append, HM2.out, List.length_singleton]; omega
              · rw [List.length_append, hPk]; rfl
              · exact (HBR.out.trans (HW1.out.mono hsw)).trans (HT2.out.below (by have := HW1.out.size; omega) fun k hk => (HOWN.out _ k hk).1)
              · show RdP _ _ _ ((P ++ [H.drop r]).getD (k + 1 - 1) [])
                rw [HGD.out]
                exact par_next HV1.out HT2.out (fun g hg => by have := (HOWN.out _ g hg).2; simp; omega) HA2.out
              · simp [intOf]; omega
            · have hrc : r < cp := by omega
              have hrc2 : ¬ cp = r := by omega
              have hrs : (r : Int) ≤ (hn2 : Int) := by omega
              have hr1 : (0 : Int) ≤ (r : Int) := by omega
              have hsc : (hn2 : Int) ≤ (cp : Int) := by omega
              have hnr : hn2 - r = kk := by omega
              clear hkb
              go_wp2_with (first
                | (go_at_call 47; ((with_reducible refine (HT.out _).mono ?_); rintro e w' ⟨rfl, rfl⟩))
                | (go_at_call 66; (with_reducible refine (HCL.out _ _ _ (by (repeat' (first | (with_reducible exact Below.refl _ _) | (with_reducible assumption) | (with_reducible refine Below.alloc ?_ ?_ _) | (with_reducible refine below_drewN ?_ _) | (with_reducible refine below_drew ?_) | (with_reducible refine below_ext ?_ ?_ _ _) | (with_reducible refine Below.setCell ?_ ?_ _) | (simp; done) | (simp; omega) | omega))) (by intro _; first | rfl | omega)).mono ?_); rintro e w1 ⟨v1, rfl, hv1, hb1⟩; have HV1 := Lib.hid hv1; have HW1 := Lib.hid ((show Below wr.heap.size wr _ by (repeat' (first | (with_reducible exact Below.refl _ _) | (with_reducible assumption) | (with_reducible refine Below.alloc ?_ ?_ _) | (with_reducible refine below_drewN ?_ _) | (with_reducible refine below_drew ?_) | (with_reducible refine below_ext ?_ ?_ _ _) | (with_reducible refine Below.setCell ?_ ?_ _) | (simp; done) | (simp; omega) | omega))).trans (hb1.mono (by simp))); have hsw1 := hb1.size; clear hv1 hb1)
                | (at_builtin; refine wpList_append_ol inK_ok inE_cells rfl _ _ rfl rfl w1 k rfl (HTAKE.out _ HW1.out) (by simp [Act.eval]) (by rw [HM2.out]; exact hr6) (by have := HW1.out.size; omega) ?_; intro g2 cap2 w2 hob3 hoth hat hg2 hsz2; rw [HM2.out] at hob3; have HO2 := Lib.hid hob3; have HT2 := Lib.hid hoth; have HA2 := Lib.hid hat; clear hob3 hoth hat))
              rw [show min r H.length = r by rw [← HHN.out]; omega]
              refine ⟨⟨k + 1, H.take r ++ [k], P ++ [H.drop r], by go_num, ?_, ?_, ?_, fun _ => by simp, HO2, fun h => absurd h (by omega), Lib.hid ?_, Lib.hid ?_, HRU2⟩, ?_⟩
              · omega
              · rw [List.length_append, HM2.out, List.length_singleton]; omega
              · rw [List.length_append, hPk]; rfl
              · exact (HBR.out.trans (HW1.out.mono hsw)).trans (HT2.out.below (by have := HW1.out.size; omega) fun k hk => (HOWN.out _ k hk).1)
              · show RdP _ _ _ ((P ++ [H.drop r]).getD (k + 1 - 1) [])
                rw [HGD.out]
                exact par_next HV1.out HT2.out (fun g hg => by have := (HOWN.out _ g hg).2; simp; omega) HA2.out
              · simp [intOf]; omega
        · have hks2 : (hn2 : Int) - (kk : Int) < 0 := by omega
          have HE := Lib.hid (show R = none by rw [← HRU.out, if_neg (fun h => by have := h.2; rw [← HHN.out] at this; omega)]; rfl)
          go_wp2_with (first | (go_at_call 47; ((with_reducible refine (HT.out _).mono ?_); rintro e w' ⟨rfl, rfl⟩)))
          go_ret2
          rw [HE.out]
          exact ⟨HBR.out.trans (show Below w.heap.size wr _ by (repeat' (first | (with_reducible exact Below.refl _ _) | (with_reducible assumption) | (with_reducible refine Below.alloc ?_ ?_ _) | (with_reducible refine below_drewN ?_ _) | (with_reducible refine below_drew ?_) | (with_reducible refine below_ext ?_ ?_ _ _) | (with_reducible refine Below.setCell ?_ ?_ _) | (simp; done) | (simp; omega) | omega))), rfl⟩
    · obtain rfl : k = m := by omega
      have hii : ¬ (k : Int) < (k : Int) := by omega
      have HE := Lib.hid (show R = some (H, P) by
        rw [← hru.out, List.drop_eq_nil_of_le (by rw [List.length_take]; omega)]
        show some (H, P ++ []) = _
        rw [List.append_nil])
      have HT := Lib.hid (show k - 1 = t by have := HM.out; omega)
      clear hq hcp hvx hol hx0 hru hrd
      generalize (P.getD (k - 1) []).length = yn at hy
      subst hy
      go_wp2
      go_ret2
      rw [HE.out]
      exact ⟨HBR.out, _, rfl, by
        have h9 := HRD.out
        rw [HT.out] at h9
        exact h9.weak fun _ _ _ => trivial⟩
end Go.Proofs.YtpgfgaloagdogaaDoor
