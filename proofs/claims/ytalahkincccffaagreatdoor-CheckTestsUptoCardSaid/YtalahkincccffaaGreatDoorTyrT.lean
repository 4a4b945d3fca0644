/-
  Tests, the document's and the program's.
-/
import Derived.Test.YtalahkincccffaaGreatDoorCa
import Derived.Test.YtalahkincccffaaGreatDoorBx
import Derived.Test.YtalahkincccffaaGreatDoorTypI
import Derived.Test.YtalahkincccffaaGreatDoorBw
import Derived.Test.YtalahkincccffaaGreatDoorBt
namespace Go.Proofs.YtalahkincccffaaGreatDoor
open Go.RowKit Word Txt
attribute [local go_sem] setCell_drewN cell?_ext frozen?_ext shape?_ext setCell_ext lt_1' ne_1' en_1' le_1' lt_2' ne_2' en_2' le_2' lt_3' ne_3' en_3' le_3' lt_4' ne_4' en_4' le_4' lt_5' ne_5' en_5' le_5' lt_6' ne_6' en_6' le_6' lt_7' ne_7' en_7' le_7' lt_8' ne_8' en_8' le_8' lt_9' ne_9' en_9' le_9' lt_10' ne_10' en_10' le_10' lt_11' ne_11' en_11' le_11' lt_12' ne_12' en_12' le_12'

noncomputable def tsR (l : List NdD) (t : Ty) (sy : List SyD) : Int :=
  if docE l true ≠ 0 then docE l true else if namM sy ≠ 0 then namM sy else if tform t.1 t.2 = false then 2 else
    if (typD l (plcS l) sy l []).2 ≠ 0 then (typD l (plcS l) sy l []).2 else if fitD l (plcS l) (typD l (plcS l) sy l []).1 3 (l.length - 1) t = true then 0 else 9
def wtM (st : List Itm) : Nat := (st.map fun x => x.2.length + 1).sum
theorem askM_lenM (op : Int) : ∀ st : List Itm, (askM op st).length ≤ wtM st
  | [] => Nat.le_refl _
  | x :: r => by
    have := askM_lenM op r
    show ((x :: r).flatMap (askF op)).length ≤ _
    rw [List.flatMap_cons, List.length_append]
    have h1 : (askF op x).length ≤ x.2.length + 1 := by
      unfold askF
      split
      · simp
      · split
        · exact Nat.le_succ _
        · simp
    have h2 : wtM (x :: r) = x.2.length + 1 + wtM r := by simp [wtM]
    have h3 : (r.flatMap (askF op)).length ≤ wtM r := this
    omega
theorem wtM_split (st : List Itm) (r : Nat) : wtM st = wtM (st.take r) + wtM (st.drop r) := by
  conv => lhs; rw [← List.take_append_drop r st]
  unfold wtM
  rw [List.map_append, List.sum_append]
theorem runM_len (sy : List SyD) : ∀ (l : List NdD) (st : List Itm), (runM sy l st).1.2.length ≤ wtM st + l.length
  | [], st => by
    show (itA st 0).2.length ≤ _
    cases st with
    | nil => exact Nat.zero_le _
    | cons x r =>
      have h2 : wtM (x :: r) = x.2.length + 1 + wtM r := by simp [wtM]
      show x.2.length ≤ _
      omega
  | x :: l, st => by
    rw [runM]
    split
    · have h1 := runM_len sy l (st.take (st.length - x.k.toNat) ++ [((tyM sy x ((st.drop (st.length - x.k.toNat)).map (·.1))).1, askM x.op (st.drop (st.length - x.k.toNat)))])
      have h2 := askM_lenM x.op (st.drop (st.length - x.k.toNat))
      have h3 := wtM_split st (st.length - x.k.toNat)
      have h4 : wtM (st.take (st.length - x.k.toNat) ++ [((tyM sy x ((st.drop (st.length - x.k.toNat)).map (·.1))).1, askM x.op (st.drop (st.length - x.k.toNat)))]) = wtM (st.take (st.length - x.k.toNat)) + ((askM x.op (st.drop (st.length - x.k.toNat))).length + 1) := by
        unfold wtM
        rw [List.map_append, List.sum_append]
        simp
      rw [List.length_cons]
      omega
    · exact Nat.zero_le _
set_option maxRecDepth 100000 in
set_option maxHeartbeats 8000000 in
theorem ctests_any (l : List NdD) (t : Ty) (sy : List SyD) (n : Nat) (w : World) (v vs : Value) (hv : RL 8 ndE n w v l) (hs : RL 3 syE n w vs sy) (hn : n ≤ w.heap.size) (hwf : ∀ x ∈ l, x.Wf) (hsz : ∀ x ∈ sy, x.s.size ≤ 1048576) (hT : Tens w) (hU : Tabs w) (hG : TyG w) :
    Calls Tryz.prog 8 #[v, TyV t, vs] w fun e w' => e = .returned (.int .i64 (tsR l t sy)) ∧ Below w.heap.size w w' := by
  have HC := Lib.hid (fun w' (hb : Below w.heap.size w w') => by
    have := check_any l true n w' v (hv.keep (hb.mono hn)) (Nat.le_trans hn hb.size) hwf (hT.below hb) (hU.below hb)
    rw [← doc_chk] at this
    exact this)
  have HL := Lib.hid (fun w' (hb : Below w.heap.size w w') => learn_any sy n w' vs (hs.keep (hb.mono hn)) (Nat.le_trans hn hb.size) hsz)
  have HF := Lib.hid (fun w => kform_any t.1 t.2 w)
  by_cases hE : docE l true = 0
  · obtain ⟨q, hsp, hS, hl0, hl3, -, -⟩ := docE_ok hE
    have hfit : fitR l 0 := fitR_of l 0 [] hsp (by simp)
    rw [hE] at HC
    by_cases hN : namM sy = 0
    · obtain ⟨hs1, hsf⟩ := namM_ok hN
      rw [hN] at HL
      by_cases hfm : tform t.1 t.2 = true
      · obtain ⟨r1, r2, r3⟩ := run_whole hsf hE
        have hres : tsR l t sy = if (runM sy l []).2 ≠ 0 then (runM sy l []).2 else if fitB (runM sy l []).1.2 t = true then 0 else 9 := by
          unfold tsR
          rw [if_neg (by simp [hE]), if_neg (by simp [hN]), if_neg (by simp [hfm])]
          by_cases h0 : (runM sy l []).2 = 0
          · have h0' : (typD l (plcS l) sy l []).2 = 0 := by rw [← r1]; exact h0
            rw [if_neg (show ¬ (typD l (plcS l) sy l []).2 ≠ 0 from fun h => h h0'), if_neg (show ¬ (runM sy l []).2 ≠ 0 from fun h => h h0), (r3 h0).2.2.2 rfl t]
          · have h0' : (typD l (plcS l) sy l []).2 ≠ 0 := by rw [← r1]; exact h0
            rw [if_pos h0', if_pos h0, r1]
        rw [hres]
        rw [hfm] at HF
        have hkl := runM_len sy l []
        have hkl2 : (runM sy l []).1.2.length ≤ 100000 := by
          have : wtM [] = 0 := rfl
          omega
        have HD := Lib.hid (fun b kn w' (hb : Below w.heap.size w w') (hm : SyIs w' b kn (findS sy)) => determine_any sy l b kn n w' v hm hsf (hv.keep (hb.mono hn)) (Nat.le_trans hn hb.size) hl3 hwf hfit (hG.below hb))
        have HFI := Lib.hid (fun w' p k c (hb : Below w.heap.size w w') (hr : RL 3 askE w'.heap.size w' (.slice p k c) (runM sy l []).1.2) => ifits_any (runM sy l []).1.1 (runM sy l []).1.2 t w'.heap.size w' p k c hr (Nat.le_refl _) hkl2 (hG.below hb))
        obtain ⟨fb, hfb⟩ : ∃ fb, fb = fitB (runM sy l []).1.2 t := ⟨_, rfl⟩
        rw [← hfb] at HFI ⊢
        clear hfb hkl hkl2
        generalize runM sy l [] = R at HD HFI ⊢
        obtain ⟨⟨⟨k1, k2⟩, ks⟩, er⟩ := R
        simp only at HFI
        obtain ⟨t1, t2⟩ := t
        obtain ⟨p, c, rfl, -⟩ := hv
        obtain ⟨sp, sc, rfl, -⟩ := hs
        generalize l.length = len at HC HD ⊢
        generalize sy.length = sl at HL ⊢
        clear hres r1 r2 r3 hsp hS hfit hwf hsz hT hU hG hN hE hs1 hsf hfm
        by_cases h0 : er = 0
        · subst h0
          simp only [ne_eq, not_true_eq_false, if_false]
          cases fb
          all_goals
            go_enter Tryz.func8, Tryz.ntmps8
            go_wp2_with (first
              | (go_at_call 13; ((with_reducible refine (HC.out _ (by (repeat' (first | (with_reducible exact Below.refl _ _) | (with_reducible assumption) | (with_reducible refine Below.alloc ?_ ?_ _) | (with_reducible refine below_drewN ?_ _) | (with_reducible refine below_drew ?_) | (with_reducible refine below_ext ?_ ?_ _ _) | (with_reducible refine Below.setCell ?_ ?_ _) | (simp; done) | (simp; omega) | omega)))).mono ?_); rintro e w1 ⟨rfl, hb1⟩; obtain ⟨osA, dA, rfl⟩ := ext_of_below hb1; clear hb1))
              | (go_at_call 14; (with_reducible refine (HL.out _ (by (repeat' (first | (with_reducible exact Below.refl _ _) | (with_reducible assumption) | (with_reducible refine Below.alloc ?_ ?_ _) | (with_reducible refine below_drewN ?_ _) | (with_reducible refine below_drew ?_) | (with_reducible refine below_ext ?_ ?_ _ _) | (with_reducible refine Below.setCell ?_ ?_ _) | (simp; done) | (simp; omega) | omega)))).mono ?_); rintro e9 w1 ⟨hb1, hk1, -⟩; obtain ⟨mb, kn, rfl, hm1⟩ := hk1 rfl; obtain ⟨osB, dB, rfl⟩ := ext_of_below hb1; have HM1 := Lib.hid hm1; clear hb1 hk1 hm1)
              | (go_at_call 16; ((with_reducible refine (HF.out _).mono ?_); rintro e w1 ⟨rfl, hb1⟩; obtain ⟨osF, dF, rfl⟩ := ext_of_below hb1; clear hb1))
              | (go_at_call 15; (with_reducible refine (HD.out _ _ _ (by (repeat' (first | (with_reducible exact Below.refl _ _) | (with_reducible assumption) | (with_reducible refine Below.alloc ?_ ?_ _) | (with_reducible refine below_drewN ?_ _) | (with_reducible refine below_drew ?_) | (with_reducible refine below_ext ?_ ?_ _ _) | (with_reducible refine Below.setCell ?_ ?_ _) | (simp; done) | (simp; omega) | omega))) (HM1.out.new (by (repeat' (first | (with_reducible exact Below.refl _ _) | (with_reducible assumption) | (with_reducible refine Below.alloc ?_ ?_ _) | (with_reducible refine below_drewN ?_ _) | (with_reducible refine below_drew ?_) | (with_reducible refine below_ext ?_ ?_ _ _) | (with_reducible refine Below.setCell ?_ ?_ _) | (simp; done) | (simp; omega) | omega))))).mono ?_); rintro e9 w1 ⟨hb1, q9, n9, c9, rfl, hr9⟩; obtain ⟨osC, dC, rfl⟩ := ext_of_below hb1; have HR9 := Lib.hid hr9; clear hb1 hr9)
              | (go_at_call 17; ((with_reducible refine (HFI.out _ _ _ _ (by (repeat' (first | (with_reducible exact Below.refl _ _) | (with_reducible assumption) | (with_reducible refine Below.alloc ?_ ?_ _) | (with_reducible refine below_drewN ?_ _) | (with_reducible refine below_drew ?_) | (with_reducible refine below_ext ?_ ?_ _ _) | (with_reducible refine Below.setCell ?_ ?_ _) | (simp; done) | (simp; omega) | omega))) (HR9.out.up (by (repeat' (first | (with_reducible exact Below.refl _ _) | (with_reducible assumption) | (with_reducible refine Below.alloc ?_ ?_ _) | (with_reducible refine below_drewN ?_ _) | (with_reducible refine below_drew ?_) | (with_reducible refine below_ext ?_ ?_ _ _) | (with_reducible refine Below.setCell ?_ ?_ _) | (simp; done) | (simp; omega) | omega))))).mono ?_); rintro e w1 ⟨rfl, hb1⟩; obtain ⟨osG, dG, rfl⟩ := ext_of_below hb1; clear hb1)))
            go_ret
            exact ⟨rfl, by (repeat' (first | (with_reducible exact Below.refl _ _) | (with_reducible assumption) | (with_reducible refine Below.alloc ?_ ?_ _) | (with_reducible refine below_drewN ?_ _) | (with_reducible refine below_drew ?_) | (with_reducible refine below_ext ?_ ?_ _ _) | (with_reducible refine Below.setCell ?_ ?_ _) | (simp; done) | (simp; omega) | omega))⟩
        · have qe : (er == 0) = false := beq_eq_false_iff_ne.2 h0
          rw [if_pos h0]
          clear h0
          go_enter Tryz.func8, Tryz.ntmps8
          go_wp2_with (first
            | (go_at_call 13; ((with_reducible refine (HC.out _ (by (repeat' (first | (with_reducible exact Below.refl _ _) | (with_reducible assumption) | (with_reducible refine Below.alloc ?_ ?_ _) | (with_reducible refine below_drewN ?_ _) | (with_reducible refine below_drew ?_) | (with_reducible refine below_ext ?_ ?_ _ _) | (with_reducible refine Below.setCell ?_ ?_ _) | (simp; done) | (simp; omega) | omega)))).mono ?_); rintro e w1 ⟨rfl, hb1⟩; obtain ⟨osA, dA, rfl⟩ := ext_of_below hb1; clear hb1))
            | (go_at_call 14; (with_reducible refine (HL.out _ (by (repeat' (first | (with_reducible exact Below.refl _ _) | (with_reducible assumption) | (with_reducible refine Below.alloc ?_ ?_ _) | (with_reducible refine below_drewN ?_ _) | (with_reducible refine below_drew ?_) | (with_reducible refine below_ext ?_ ?_ _ _) | (with_reducible refine Below.setCell ?_ ?_ _) | (simp; done) | (simp; omega) | omega)))).mono ?_); rintro e9 w1 ⟨hb1, hk1, -⟩; obtain ⟨mb, kn, rfl, hm1⟩ := hk1 rfl; obtain ⟨osB, dB, rfl⟩ := ext_of_below hb1; have HM1 := Lib.hid hm1; clear hb1 hk1 hm1)
            | (go_at_call 16; ((with_reducible refine (HF.out _).mono ?_); rintro e w1 ⟨rfl, hb1⟩; obtain ⟨osF, dF, rfl⟩ := ext_of_below hb1; clear hb1))
            | (go_at_call 15; (with_reducible refine (HD.out _ _ _ (by (repeat' (first | (with_reducible exact Below.refl _ _) | (with_reducible assumption) | (with_reducible refine Below.alloc ?_ ?_ _) | (with_reducible refine below_drewN ?_ _) | (with_reducible refine below_drew ?_) | (with_reducible refine below_ext ?_ ?_ _ _) | (with_reducible refine Below.setCell ?_ ?_ _) | (simp; done) | (simp; omega) | omega))) (HM1.out.new (by (repeat' (first | (with_reducible exact Below.refl _ _) | (with_reducible assumption) | (with_reducible refine Below.alloc ?_ ?_ _) | (with_reducible refine below_drewN ?_ _) | (with_reducible refine below_drew ?_) | (with_reducible refine below_ext ?_ ?_ _ _) | (with_reducible refine Below.setCell ?_ ?_ _) | (simp; done) | (simp; omega) | omega))))).mono ?_); rintro e9 w1 ⟨hb1, q9, n9, c9, rfl, -⟩; obtain ⟨osC, dC, rfl⟩ := ext_of_below hb1; clear hb1))
          go_ret
          exact ⟨rfl, by (repeat' (first | (with_reducible exact Below.refl _ _) | (with_reducible assumption) | (with_reducible refine Below.alloc ?_ ?_ _) | (with_reducible refine below_drewN ?_ _) | (with_reducible refine below_drew ?_) | (with_reducible refine below_ext ?_ ?_ _ _) | (with_reducible refine Below.setCell ?_ ?_ _) | (simp; done) | (simp; omega) | omega))⟩
      · have hff : tform t.1 t.2 = false := by simpa using hfm
        have hres : tsR l t sy = 2 := by
          unfold tsR
          rw [if_neg (by simp [hE]), if_neg (by simp [hN]), if_pos hff]
        rw [hres]
        rw [hff] at HF
        obtain ⟨t1, t2⟩ := t
        obtain ⟨p, c, rfl, -⟩ := hv
        obtain ⟨sp, sc, rfl, -⟩ := hs
        generalize l.length = len at HC ⊢
        generalize sy.length = sl at HL ⊢
        clear hres hsp hS hfit hwf hsz hT hU hG hN hE hs1 hsf hfm hff
        go_enter Tryz.func8, Tryz.ntmps8
        go_wp2_with (first
          | (go_at_call 13; ((with_reducible refine (HC.out _ (by (repeat' (first | (with_reducible exact Below.refl _ _) | (with_reducible assumption) | (with_reducible refine Below.alloc ?_ ?_ _) | (with_reducible refine below_drewN ?_ _) | (with_reducible refine below_drew ?_) | (with_reducible refine below_ext ?_ ?_ _ _) | (with_reducible refine Below.setCell ?_ ?_ _) | (simp; done) | (simp; omega) | omega)))).mono ?_); rintro e w1 ⟨rfl, hb1⟩; obtain ⟨osA, dA, rfl⟩ := ext_of_below hb1; clear hb1))
          | (go_at_call 14; (with_reducible refine (HL.out _ (by (repeat' (first | (with_reducible exact Below.refl _ _) | (with_reducible assumption) | (with_reducible refine Below.alloc ?_ ?_ _) | (with_reducible refine below_drewN ?_ _) | (with_reducible refine below_drew ?_) | (with_reducible refine below_ext ?_ ?_ _ _) | (with_reducible refine Below.setCell ?_ ?_ _) | (simp; done) | (simp; omega) | omega)))).mono ?_); rintro e9 w1 ⟨hb1, hk1, -⟩; obtain ⟨mb, kn, rfl, -⟩ := hk1 rfl; obtain ⟨osB, dB, rfl⟩ := ext_of_below hb1; clear hb1 hk1)
          | (go_at_call 16; ((with_reducible refine (HF.out _).mono ?_); rintro e w1 ⟨rfl, hb1⟩; obtain ⟨osF, dF, rfl⟩ := ext_of_below hb1; clear hb1)))
        go_ret
        exact ⟨rfl, by (repeat' (first | (with_reducible exact Below.refl _ _) | (with_reducible assumption) | (with_reducible refine Below.alloc ?_ ?_ _) | (with_reducible refine below_drewN ?_ _) | (with_reducible refine below_drew ?_) | (with_reducible refine below_ext ?_ ?_ _ _) | (with_reducible refine Below.setCell ?_ ?_ _) | (simp; done) | (simp; omega) | omega))⟩
    · have hres : tsR l t sy = namM sy := by
        unfold tsR
        rw [if_neg (by simp [hE]), if_pos hN]
      rw [hres]
      generalize namM sy = er at HL hN ⊢
      obtain ⟨t1, t2⟩ := t
      obtain ⟨p, c, rfl, -⟩ := hv
      obtain ⟨sp, sc, rfl, -⟩ := hs
      have qe : (er == 0) = false := beq_eq_false_iff_ne.2 hN
      generalize l.length = len at HC ⊢
      generalize sy.length = sl at HL ⊢
      have HNE := Lib.hid hN
      clear hres hsp hS hfit hwf hsz hT hU hG hE hN
      go_enter Tryz.func8, Tryz.ntmps8
      go_wp2_with (first
        | (go_at_call 13; ((with_reducible refine (HC.out _ (by (repeat' (first | (with_reducible exact Below.refl _ _) | (with_reducible assumption) | (with_reducible refine Below.alloc ?_ ?_ _) | (with_reducible refine below_drewN ?_ _) | (with_reducible refine below_drew ?_) | (with_reducible refine below_ext ?_ ?_ _ _) | (with_reducible refine Below.setCell ?_ ?_ _) | (simp; done) | (simp; omega) | omega)))).mono ?_); rintro e w1 ⟨rfl, hb1⟩; obtain ⟨osA, dA, rfl⟩ := ext_of_below hb1; clear hb1))
        | (go_at_call 14; (with_reducible refine (HL.out _ (by (repeat' (first | (with_reducible exact Below.refl _ _) | (with_reducible assumption) | (with_reducible refine Below.alloc ?_ ?_ _) | (with_reducible refine below_drewN ?_ _) | (with_reducible refine below_drew ?_) | (with_reducible refine below_ext ?_ ?_ _ _) | (with_reducible refine Below.setCell ?_ ?_ _) | (simp; done) | (simp; omega) | omega)))).mono ?_); rintro e9 w1 ⟨hb1, -, hk1⟩; obtain rfl := hk1 HNE.out; obtain ⟨osB, dB, rfl⟩ := ext_of_below hb1; clear hb1 hk1))
      go_ret
      exact ⟨rfl, by (repeat' (first | (with_reducible exact Below.refl _ _) | (with_reducible assumption) | (with_reducible refine Below.alloc ?_ ?_ _) | (with_reducible refine below_drewN ?_ _) | (with_reducible refine below_drew ?_) | (with_reducible refine below_ext ?_ ?_ _ _) | (with_reducible refine Below.setCell ?_ ?_ _) | (simp; done) | (simp; omega) | omega))⟩
  · have hres : tsR l t sy = docE l true := by
      unfold tsR
      rw [if_pos hE]
    rw [hres]
    generalize docE l true = er at HC hE ⊢
    obtain ⟨t1, t2⟩ := t
    obtain ⟨p, c, rfl, -⟩ := hv
    obtain ⟨sp, sc, rfl, -⟩ := hs
    have qe : (er == 0) = false := beq_eq_false_iff_ne.2 hE
    generalize l.length = len at HC ⊢
    generalize sy.length = sl at HL ⊢
    clear hres hwf hsz hT hU hG hE HL
    go_enter Tryz.func8, Tryz.ntmps8
    go_wp2_with (first
      | (go_at_call 13; ((with_reducible refine (HC.out _ (by (repeat' (first | (with_reducible exact Below.refl _ _) | (with_reducible assumption) | (with_reducible refine Below.alloc ?_ ?_ _) | (with_reducible refine below_drewN ?_ _) | (with_reducible refine below_drew ?_) | (with_reducible refine below_ext ?_ ?_ _ _) | (with_reducible refine Below.setCell ?_ ?_ _) | (simp; done) | (simp; omega) | omega)))).mono ?_); rintro e w1 ⟨rfl, hb1⟩; obtain ⟨osA, dA, rfl⟩ := ext_of_below hb1; clear hb1)))
    go_ret
    exact ⟨rfl, by (repeat' (first | (with_reducible exact Below.refl _ _) | (with_reducible assumption) | (with_reducible refine Below.alloc ?_ ?_ _) | (with_reducible refine below_drewN ?_ _) | (with_reducible refine below_drew ?_) | (with_reducible refine below_ext ?_ ?_ _ _) | (with_reducible refine Below.setCell ?_ ?_ _) | (simp; done) | (simp; omega) | omega))⟩
set_option maxRecDepth 100000 in
set_option maxHeartbeats 8000000 in
theorem rtests_any (l : List NdD) (t : Ty) (ht : FmT t) (sy : List SyD) (hE : docE l true = 0) (hN : namM sy = 0) (n : Nat) (w : World) (v vs : Value) (hv : RL 8 ndE n w v l) (hs : RL 3 syE n w vs sy) (hn : n ≤ w.heap.size) :
    Calls Tryz.prog 19 #[v, TyV t, vs] w fun e w' => e = .returned (.int .i64 (tsR l t sy)) ∧ Below w.heap.size w w' := by
  obtain ⟨q, hsp, hS, hl0, hl3, hso, -⟩ := docE_ok hE
  obtain ⟨hs1, hsf⟩ := namM_ok hN
  obtain ⟨L, hTr, -⟩ := tree_of hsp
  obtain ⟨r1, -, r3⟩ := run_whole (tests := true) hsf hE
  have hlen := fun h0 => And.intro (r3 h0).2.1 (r3 h0).2.2.1
  rw [r1] at hlen
  have hres : tsR l t sy = if (typD l (plcS l) sy l []).2 ≠ 0 then (typD l (plcS l) sy l []).2 else if fitD l (plcS l) (typD l (plcS l) sy l []).1 3 (l.length - 1) t = true then 0 else 9 := by
    unfold tsR
    rw [if_neg (by simp [hE]), if_neg (by simp [hN]), if_neg (by simp [show tform t.1 t.2 = true from ht])]
  rw [hres]
  have HTYW := Lib.hid (fun w' (hb : Below w.heap.size w w') => rtypes_any sy l n w' v vs (hv.keep (hb.mono hn)) (hs.keep (hb.mono hn)) (Nat.le_trans hn hb.size) hl3 hl0 hs1 hsf hsp hTr hS)
  have HPL := Lib.hid (fun w' (hb : Below w.heap.size w w') => rplaces_any l n w' v (hv.keep (hb.mono hn)) (Nat.le_trans hn hb.size) (by omega) hl0 hsp)
  have HFT := Lib.hid (show ∀ T : List Ty, T.length = l.length → (∀ t ∈ T, FmT t) → FtC l (plcS l) T 3 (l.length - 1) from fun T h1 h2 => by
    rcases hso rfl with h4 | h5
    · exact ft_some hl3 hTr hS h1 h2 1 (by omega) (sort_four h4)
    · have hop : opA l (l.length - 1) = 29 ∨ opA l (l.length - 1) = 37 := by
        have hk := (hTr.kids (l.length - 1) (by omega)).1
        have := takes_op hk
        rw [nd_op (by omega)] at h5 ⊢
        unfold sortN at h5
        repeat' split at h5
        all_goals omega
      rcases hop with h6 | h6
      · exact ft_test hl3 hTr h1 h2 2 (by omega) ⟨by omega, by omega⟩
      · exact ft_not hl3 hTr hS h1 h2 0 (by omega) h6)
  have HVW := Lib.hid (fun w' (hb : Below w.heap.size w w') => (hv.keep (hb.mono hn)).more (Nat.le_trans hn hb.size))
  generalize typD l (plcS l) sy l [] = R at HTYW hlen ⊢
  obtain ⟨T, er⟩ := R
  simp only at hlen
  obtain ⟨p, c, rfl, -⟩ := hv
  obtain ⟨sp, sc, rfl, -⟩ := hs
  by_cases h0 : er = 0
  · subst h0
    obtain ⟨hTl, hTf⟩ := hlen rfl
    obtain ⟨m, hm⟩ : ∃ m, l.length = m + 1 := ⟨l.length - 1, by omega⟩
    simp only [ne_eq, not_true_eq_false, if_false]
    have hft := HFT.out T hTl hTf
    rw [show l.length - 1 = m by omega] at hft ⊢
    have HTY0 := Lib.hid (show ∀ w', Below w.heap.size w w' → Calls Tryz.prog 26 #[.slice p (m + 1) c, .slice sp sy.length sc] w' fun e w'' => Below w'.heap.size w' w'' ∧ ∃ q c, e = .returned (.tuple #[.slice q (m + 1) c, .int .i64 0]) ∧ RL 2 tpE w''.heap.size w'' (.slice q (m + 1) c) T from fun w' hb => by
      rw [← hm]
      refine (HTYW.out w' hb).mono fun e w1 h => ?_
      obtain ⟨hb1, v1, rfl, hr1⟩ := h
      obtain ⟨q, c, rfl, h9⟩ := id hr1
      exact ⟨hb1, q, c, by rw [hTl], by rw [← hTl]; exact hr1⟩)
    have HPL0 := Lib.hid (show ∀ w', Below w.heap.size w w' → Calls Tryz.prog 36 #[.slice p (m + 1) c] w' fun e w'' => (∃ x, e = .returned x ∧ WPl w'' x (plcS l)) ∧ Below w'.heap.size w' w'' from fun w' hb => by
      rw [← hm]
      exact HPL.out w' hb)
    have HFF := Lib.hid (show ∀ w' pv tv, Below w.heap.size w w' → WPl w' pv (plcS l) → RL 2 tpE w'.heap.size w' tv T → Calls Tryz.prog 35 #[.slice p (m + 1) c, pv, tv, .int .i64 (IntKind.i64.wrap (m : Int)), TyV t] w' fun e w'' => e = .returned (.bool (fitD l (plcS l) T 3 m t)) ∧ Below w'.heap.size w' w'' from fun w' pv tv hb h1 h2 => by
      rw [show IntKind.i64.wrap (m : Int) = (m : Int) from by simp [IntKind.wrap, IntKind.bits]; omega]
      have h8 := HVW.out w' hb
      rw [hm] at h8
      exact hft w' _ pv tv t ⟨h8, h1, h2⟩ ht)
    rw [hm]
    generalize fitD l (plcS l) T 3 m t = fb at HFF ⊢
    obtain ⟨t1, t2⟩ := t
    have hm3 : m ≤ 300 := by omega
    have E1 : (m : Int) + 1 - 1 = (m : Int) := by omega
    have HB0 := Lib.hid (show ∀ W, Below (w.heap.size + 1) (w.alloc (.cells #[.int .i64 t1, .int .i64 t2] 26)) W → W.cell? ⟨w.heap.size, 0, none⟩ = some (.int .i64 t1) ∧ W.cell? ⟨w.heap.size, 1, none⟩ = some (.int .i64 t2) from fun W hb => ⟨(hb.cell (p := ⟨w.heap.size, _, none⟩) (Nat.lt_succ_self _)).trans (by simp [go_sem]), (hb.cell (p := ⟨w.heap.size, _, none⟩) (Nat.lt_succ_self _)).trans (by simp [go_sem])⟩)
    generalize sy.length = sl at HTY0 ⊢
    clear hsp hS hTr r1 r3 hs1 hsf hlen hl0 hl3 hso hres hTl hTf hm hE hN hn HTYW HPL HFT HVW hft ht
    cases fb
    all_goals
      go_enter Tryz.func19, Tryz.ntmps19
      go_upto_region 4 with (first
        | (go_at_call 26; (with_reducible refine (HTY0.out _ (by (repeat' (first | (with_reducible exact Below.refl _ _) | (with_reducible assumption) | (with_reducible refine Below.alloc ?_ ?_ _) | (with_reducible refine below_drewN ?_ _) | (with_reducible refine below_drew ?_) | (with_reducible refine below_ext ?_ ?_ _ _) | (with_reducible refine Below.setCell ?_ ?_ _) | (simp; done) | (simp; omega) | omega)))).mono ?_); rintro e9 w1 ⟨hb1, q9, c9, rfl, hr9⟩; obtain ⟨osB, dB, rfl⟩ := ext_of_below hb1; have HR9 := Lib.hid hr9; clear hb1 hr9))
      go_region_held3 (fun w' => w'.cell? ⟨w.heap.size, 0, none⟩ = some (.int .i64 t1) ∧ w'.cell? ⟨w.heap.size, 1, none⟩ = some (.int .i64 t2)) (exact HB0.out _ (by (repeat' (first | (with_reducible exact Below.refl _ _) | (with_reducible assumption) | (with_reducible refine Below.alloc ?_ ?_ _) | (with_reducible refine below_drewN ?_ _) | (with_reducible refine below_drew ?_) | (with_reducible refine below_ext ?_ ?_ _ _) | (with_reducible refine Below.setCell ?_ ?_ _) | (simp; done) | (simp; omega) | omega)))) (first
        | (go_at_call 36; (with_reducible refine (HPL0.out _ (by (repeat' (first | (with_reducible exact Below.refl _ _) | (with_reducible assumption) | (with_reducible refine Below.alloc ?_ ?_ _) | (with_reducible refine below_drewN ?_ _) | (with_reducible refine below_drew ?_) | (with_reducible refine below_ext ?_ ?_ _ _) | (with_reducible refine Below.setCell ?_ ?_ _) | (simp; done) | (simp; omega) | omega)))).mono ?_); rintro e9 w1 ⟨⟨pv, rfl, hpw⟩, hb1⟩; obtain ⟨osC, dC, rfl⟩ := ext_of_below hb1; have HPW := Lib.hid hpw; clear hb1 hpw)
        | (go_at_call 35; ((with_reducible refine (HFF.out _ _ _ (by (repeat' (first | (with_reducible exact Below.refl _ _) | (with_reducible assumption) | (with_reducible refine Below.alloc ?_ ?_ _) | (with_reducible refine below_drewN ?_ _) | (with_reducible refine below_drew ?_) | (with_reducible refine below_ext ?_ ?_ _ _) | (with_reducible refine Below.setCell ?_ ?_ _) | (simp; done) | (simp; omega) | omega))) (HPW.out.new (by (repeat' (first | (with_reducible exact Below.refl _ _) | (with_reducible assumption) | (with_reducible refine Below.alloc ?_ ?_ _) | (with_reducible refine below_drewN ?_ _) | (with_reducible refine below_drew ?_) | (with_reducible refine below_ext ?_ ?_ _ _) | (with_reducible refine Below.setCell ?_ ?_ _) | (simp; done) | (simp; omega) | omega)))) (HR9.out.up (by (repeat' (first | (with_reducible exact Below.refl _ _) | (with_reducible assumption) | (with_reducible refine Below.alloc ?_ ?_ _) | (with_reducible refine below_drewN ?_ _) | (with_reducible refine below_drew ?_) | (with_reducible refine below_ext ?_ ?_ _ _) | (with_reducible refine Below.setCell ?_ ?_ _) | (simp; done) | (simp; omega) | omega))))).mono ?_); rintro e w1 ⟨rfl, hb1⟩; obtain ⟨osG, dG, rfl⟩ := ext_of_below hb1; clear hb1)))
      all_goals
        go_wp2
        go_ret
        exact ⟨rfl, by (repeat' (first | (with_reducible exact Below.refl _ _) | (with_reducible assumption) | (with_reducible refine Below.alloc ?_ ?_ _) | (with_reducible refine below_drewN ?_ _) | (with_reducible refine below_drew ?_) | (with_reducible refine below_ext ?_ ?_ _ _) | (with_reducible refine Below.setCell ?_ ?_ _) | (simp; done) | (simp; omega) | omega))⟩
  · have qe : (er == 0) = false := beq_eq_false_iff_ne.2 h0
    rw [if_pos h0]
    have HTY0 := Lib.hid (show ∀ w', Below w.heap.size w w' → Calls Tryz.prog 26 #[.slice p l.length c, .slice sp sy.length sc] w' fun e w'' => Below w'.heap.size w' w'' ∧ ∃ q k c, e = .returned (.tuple #[.slice q k c, .int .i64 er]) from fun w' hb => (HTYW.out w' hb).mono fun e w1 h => by
      obtain ⟨hb1, v1, rfl, hr1⟩ := h
      obtain ⟨q, c, rfl, -⟩ := hr1
      exact ⟨hb1, q, _, c, rfl⟩)
    obtain ⟨t1, t2⟩ := t
    generalize l.length = len at HTY0 ⊢
    generalize sy.length = sl at HTY0 ⊢
    clear hsp hS hTr r1 r3 hs1 hsf hlen hl0 hl3 hso hres hE hN hn HTYW HPL HFT HVW h0 ht
    go_enter Tryz.func19, Tryz.ntmps19
    go_wp2_with (first
      | (go_at_call 26; (with_reducible refine (HTY0.out _ (by (repeat' (first | (with_reducible exact Below.refl _ _) | (with_reducible assumption) | (with_reducible refine Below.alloc ?_ ?_ _) | (with_reducible refine below_drewN ?_ _) | (with_reducible refine below_drew ?_) | (with_reducible refine below_ext ?_ ?_ _ _) | (with_reducible refine Below.setCell ?_ ?_ _) | (simp; done) | (simp; omega) | omega)))).mono ?_); rintro e9 w1 ⟨hb1, q9, n9, c9, rfl⟩; obtain ⟨osB, dB, rfl⟩ := ext_of_below hb1; clear hb1))
    go_ret
    exact ⟨rfl, by (repeat' (first | (with_reducible exact Below.refl _ _) | (with_reducible assumption) | (with_reducible refine Below.alloc ?_ ?_ _) | (with_reducible refine below_drewN ?_ _) | (with_reducible refine below_drew ?_) | (with_reducible refine below_ext ?_ ?_ _ _) | (with_reducible refine Below.setCell ?_ ?_ _) | (simp; done) | (simp; omega) | omega))⟩
end Go.Proofs.YtalahkincccffaaGreatDoor
