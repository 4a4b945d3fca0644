/-
  What separates parts: the program's map of all nodes.
  The program's code of nodes, walked.
  The program's code of nodes, walked.
  Instructions compared; lists of them.
  Compile of whatever nodes: the program's and the document's; CodeCompiles.
  Instructions as a law's argument; arguments read again; the row's last step.
  Nodes as a law's argument, out of small bulk; the listed tables; the row's last step.
-/
import Derived.Test.YtpgfgaloagdogaaDoorBj
import Derived.Test.YtpgfgaloagdogaaDoorPlcB
import Derived.Test.YtpgfgaloagdogaaDoorBh
import Derived.BigRegion
import Derived.Laws.StructEq
import Derived.Test.YtpgfgaloagdogaaDoorNodZ
import Derived.Test.YtpgfgaloagdogaaDoorNodS
import Derived.Test.YtpgfgaloagdogaaDoorBi
import Derived.Test.YtpgfgaloagdogaaDoorCodD
import Derived.ProofKit
import Derived.OpenShut
import Derived.ShutString
import Derived.WideKeyArgs
import Derived.ChangeMaps5
import Derived.Stop.Joined
import Derived.Lib.SmallJoins
import Derived.Deep.Strs
import Derived.Deep.Matrix
import Derived.Deep.DeepHandedRow
import Derived.SizedLaws
import Derived.Test.YtpgfgaloagdogaaDoorWideC
import Derived.Test.YtpgfgaloagdogaaDoorValid
import Derived.Test.YtpgfgaloagdogaaDoorRows
import Derived.LaidMore
import Derived.MakeChecks
import Derived.Lib.LaidTab
import Derived.Stop.LaidErr
import Derived.Lib.LaidU8T
import Derived.PinnedBridge
import Derived.Lay
import Derived.LaidOnce
import Derived.LaidLaws
namespace Go.Proofs.YtpgfgaloagdogaaDoor
open Go.RowKit Go.Maps Go.WideMaps Num Word Txt
attribute [local go_sem] setCell_drewN cell?_ext frozen?_ext shape?_ext setCell_ext lt_1' ne_1' en_1' le_1' lt_2' ne_2' en_2' le_2' lt_3' ne_3' en_3' le_3' lt_4' ne_4' en_4' le_4' lt_5' ne_5' en_5' le_5' lt_6' ne_6' en_6' le_6' lt_7' ne_7' en_7' le_7' lt_8' ne_8' en_8' le_8' lt_9' ne_9' en_9' le_9' lt_10' ne_10' en_10' le_10' lt_11' ne_11' en_11' le_11' lt_12' ne_12' en_12' le_12'

theorem stk_take : ∀ (r : List NdD) (i : Nat) (H : List Nat) {q} (m : Nat), stkP i r H = some q → ∃ H', stkP i (r.take m) H = some (H', q.2.take m)
  | [], i, H, q, m, h => ⟨H, by
    have h2 : some (H, ([] : List (List Nat))) = some q := h
    injection h2 with h2
    subst h2
    simp [stkP]⟩
  | x :: r, i, H, q, 0, _ => ⟨H, by simp [stkP]⟩
  | x :: r, i, H, q, m + 1, h => by
    unfold stkP at h
    split at h
    case isFalse => cases h
    case isTrue ht =>
    obtain ⟨q', h1, rfl⟩ := Option.map_eq_some_iff.1 h
    obtain ⟨H', h2⟩ := stk_take r (i + 1) _ m h1
    refine ⟨H', ?_⟩
    rw [List.take_succ_cons]
    unfold stkP
    rw [if_pos ht, h2]
    rfl
theorem stk_at {l : List NdD} {H : List Nat} {P : List (List Nat)} (h : stkP 0 l [] = some (H, P)) (k : Nat) : ∃ q, stkP 0 (l.take (k + 1)) [] = some q ∧ q.2.getD k [] = P.getD k [] := by
  obtain ⟨H', h2⟩ := stk_take l 0 [] (k + 1) h
  refine ⟨_, h2, ?_⟩
  simp only
  rw [List.getD_eq_getElem?_getD, List.getD_eq_getElem?_getD, List.getElem?_take, if_pos (by omega)]
theorem IMap.ne {w : World} {b n g j : Nat} {m : Nat → Option Int} {x : Value} (h : IMap w b n m) (hc : w.cell? ⟨g, j, none⟩ = some x) : ¬ some g = some b := by
  intro e
  injection e with e
  subst e
  obtain ⟨D, ⟨es, cl, hb, _⟩, _⟩ := h
  unfold World.cell? at hc
  simp only at hc
  rw [hb] at hc
  cases hc
theorem sepS_in {l : List NdD} {P : List (List Nat)} {k a : Nat} {r : List Nat} (h : (ndA l k).op = 23) (e : P.getD k [] = a :: r) : sepS l P (k + 1) = fun j => if j = a + 1 then some 103 else sepS l P k j := by
  funext j
  show (if (ndA l k).op = 23 then (if j = (P.getD k []).getD 0 0 + 1 then some 103 else sepS l P k j) else _) = _
  rw [if_pos h, e]; rfl
theorem sepS_if {l : List NdD} {P : List (List Nat)} {k a b : Nat} {r : List Nat} (h : (ndA l k).op = 21) (e : P.getD k [] = a :: b :: r) : sepS l P (k + 1) = fun j => if j = b + 1 then some 101 else if j = a + 1 then some 102 else sepS l P k j := by
  funext j
  show (if (ndA l k).op = 23 then _ else if (ndA l k).op = 21 then (if j = (P.getD k []).getD 1 0 + 1 then some 101 else if j = (P.getD k []).getD 0 0 + 1 then some 102 else sepS l P k j) else _) = _
  rw [if_neg (by omega), if_pos h, e]; rfl
theorem sepS_no {l : List NdD} {P : List (List Nat)} {k : Nat} (h : (ndA l k).op ≠ 21) (h2 : (ndA l k).op ≠ 23) : sepS l P (k + 1) = sepS l P k := by
  funext j
  show (if (ndA l k).op = 23 then _ else if (ndA l k).op = 21 then _ else sepS l P k j) = _
  rw [if_neg h2, if_neg h]
set_option maxRecDepth 100000 in
set_option maxHeartbeats 8000000 in
theorem separators_any {l : List NdD} {H : List Nat} {P : List (List Nat)} (hs : stkP 0 l [] = some (H, P)) (n : Nat) (w : World) (v : Value) (hv : RL 8 ndE n w v l) (hn : n ≤ w.heap.size) (hl : l.length ≤ 300) (hwf : ∀ x ∈ l, x.Wf) (hcap : ∀ p k c, v = .slice p k c → k ≤ c) :
    Calls Tryd.prog 34 #[v] w fun e w' => e = .returned (.map (some w.heap.size)) ∧ (∃ cnt, IMap w' w.heap.size cnt (sepS l P l.length) ∧ cnt ≤ 1000) ∧ Below w.heap.size w w' := by
  obtain ⟨L, hT, -⟩ := tree_of hs
  have HT := Lib.hid hT
  have HS := Lib.hid hs
  have HPT := Lib.hid (show ∀ k, k < l.length → ∀ w', Below w.heap.size w w' → Calls Tryd.prog 51 #[v, .int .i64 k] w' fun e w2 => ∃ v2, e = .returned (.tuple #[v2, .int .i64 0]) ∧ Rd w2 v2 (P.getD k []) ∧ Below w'.heap.size w' w2 from fun k hk w' hb => by
    obtain ⟨q, h1, h2⟩ := stk_at hs k
    have := parts_any l k hk n w' v (hv.keep (hb.mono hn)) (Nat.le_trans hn hb.size) hl hwf hcap
    rw [h1] at this
    refine this.mono ?_
    rintro e w2 ⟨hb2, v2, he, hr⟩
    exact ⟨v2, he, h2 ▸ hr, hb2⟩)
  have hlc := hcap
  obtain ⟨p, c, rfl, h2⟩ := hv
  have hlc2 := hlc _ _ _ rfl
  obtain ⟨len, hlen⟩ : ∃ len, len = l.length := ⟨_, rfl⟩
  have HL := Lib.hid hlen
  have H2 := Lib.hid h2
  have hmm := run_mmi
  have HE0 := Lib.hid (imap_made w)
  have HB0 := Lib.hid ((Below.refl w.heap.size w).alloc (Nat.le_refl _) (.map #[] 0))
  rw [← hlen] at HPT hl hlc2 ⊢
  clear h2 hlen hs hT hwf hcap hlc
  go_enter Tryd.func34, Tryd.ntmps34
  go_wp2
  go_loopw [11] (fun z wr => ∃ k cnt : Nat, z = .int .i64 k ∧ k ≤ len ∧ cnt ≤ 2 * k ∧ Hid (IMap wr w.heap.size cnt (sepS l P k)) ∧ Hid (Below w.heap.size w wr) ∧ w.heap.size < wr.heap.size) (fun z _ => len - (intOf z).toNat)
  case atStart => exact ⟨0, 0, rfl, Nat.zero_le _, Nat.le_refl _, HE0, HB0, by simp⟩
  case round =>
    obtain ⟨k, cnt, rfl, hk, hcnt, him, hbe, hltw⟩ := hrel
    clear HE0 HB0 hmm
    have HIM := Lib.hid him.out
    have HBR := Lib.hid hbe.out
    have hswr := hbe.out.size
    by_cases hkl : k < len
    · have hkl1 : (k : Int) < (len : Int) := by omega
      have hkl2 : k < l.length := by rw [← HL.out]; exact hkl
      obtain ⟨g, o, rfl, hg, hc⟩ := H2.out (by omega)
      have hgr : g < w.heap.size := by omega
      have hc2 : ∀ j (h : j < l.length) i u, (ndE l[j])[i]? = some u → wr.cell? ⟨g, o + j * 8 + i, none⟩ = some u := fun j hj i u hu => by
        rw [HBR.out.cell (p := ⟨g, _, none⟩) hgr]; exact hc j hj i u hu
      obtain ⟨oa, ka, ta, na, ca, sa, da, he, x0, x1, x2, x3, x4, x5, x6, x7⟩ := nd_cells hc2 k hkl2
      have hnd : (ndA l k).op = oa := by rw [nd_at hkl2, he]
      have HM := Lib.hid (fun w' (hb : Below wr.heap.size wr w') => HIM.out.new hb)
      have HPC := Lib.hid (fun w' (hb : Below wr.heap.size wr w') => HPT.out k hkl w' (HBR.out.trans (hb.mono hswr)))
      generalize (Word.hi ca : Int) = ha at *
      generalize (Word.lo ca : Int) = la at *
      clear hc hc2 he hbe him
      by_cases h21 : oa = 21
      · subst h21
        obtain ⟨a, b, d, e⟩ := HT.out.if3 hkl2 hnd
        have ha3 := (HT.out.chain k hkl2).mem
        rw [e] at ha3
        have hab := ha3 a (by simp)
        have hbb := ha3 b (by simp)
        have HSK := Lib.hid (sepS_if hnd e)
        rw [e] at HPC
        have ha5 : a ≤ 300 := by omega
        have hb5 : b ≤ 300 := by omega
        clear ha3 hab hbb e hnd
        go_wp2_with (first
          | (go_at_call 51; (with_reducible refine (HPC.out _ (by (repeat' (first | (with_reducible exact Below.refl _ _) | (with_reducible assumption) | (with_reducible refine Below.alloc ?_ ?_ _) | (with_reducible refine below_drewN ?_ _) | (with_reducible refine below_drew ?_) | (with_reducible refine below_ext ?_ ?_ _ _) | (with_reducible refine Below.setCell ?_ ?_ _) | (simp; done) | (simp; omega) | omega)))).mono ?_); rintro e w1 ⟨v1, rfl, hrd, hb1⟩; obtain ⟨q1, c1, rfl, hq1⟩ := hrd.form; obtain ⟨-, gp, op_, rfl, hgp, hpj⟩ := RdP.cells hrd (by simp); have p0 := (show w1.cell? ⟨gp, op_, none⟩ = some (.int .i64 a) from hpj 0 (by simp)); have p1 := (show w1.cell? ⟨gp, op_ + 1, none⟩ = some (.int .i64 b) from hpj 1 (by simp)); have xw := (hb1.cell (p := ⟨wr.heap.size, 0, none⟩) (by simp)).trans (show _ = some (Value.int .i64 21) by simp); have HM1 := Lib.hid ((HM.out _ (by (repeat' (first | (with_reducible exact Below.refl _ _) | (with_reducible assumption) | (with_reducible refine Below.alloc ?_ ?_ _) | (with_reducible refine below_drewN ?_ _) | (with_reducible refine below_drew ?_) | (with_reducible refine below_ext ?_ ?_ _ _) | (with_reducible refine Below.setCell ?_ ?_ _) | (simp; done) | (simp; omega) | omega)))).new hb1); have HB1 := Lib.hid (HBR.out.trans (((show Below wr.heap.size wr _ by (repeat' (first | (with_reducible exact Below.refl _ _) | (with_reducible assumption) | (with_reducible refine Below.alloc ?_ ?_ _) | (with_reducible refine below_drewN ?_ _) | (with_reducible refine below_drew ?_) | (with_reducible refine below_ext ?_ ?_ _ _) | (with_reducible refine Below.setCell ?_ ?_ _) | (simp; done) | (simp; omega) | omega))).trans (hb1.mono (by simp))).mono hswr)); have hs1 := hb1.size; clear hb1 hrd hpj hq1)
          | (at_mapUpdate; refine put_imap _ rfl _ _ _ rfl rfl HM1.out (by omega) (a + 1) rfl (by omega) rfl 102 (by omega) rfl ?_; intro w3 hm3 hg3; have HM3 := Lib.hid hm3; have HB3 := Lib.hid (HB1.out.grown hg3 (by first | omega | (simp at hs1; omega)) (fun j hj => by cases hj; exact Nat.le_refl _)); have p1b := (World.cell?_of_block (a := ⟨gp, op_ + 1, none⟩) (hg3.block gp hgp (IMap.ne HM1.out p0))).trans p1; have hs3 := hg3.size; clear hm3 hg3)
          | (at_mapUpdate; refine put_imap _ rfl _ _ _ rfl rfl HM3.out (by omega) (b + 1) rfl (by omega) rfl 101 (by omega) rfl ?_; intro w4 hm3 hg3; have HM4 := Lib.hid hm3; have HB4 := Lib.hid (HB3.out.grown hg3 (by first | omega | (simp at hs1; omega)) (fun j hj => by cases hj; exact Nat.le_refl _)); have hs4 := hg3.size; clear hm3 hg3))
        refine ⟨⟨k + 1, cnt + 1 + 1, rfl, by omega, by omega, Lib.hid (by rw [HSK.out]; exact HM4.out), HB4, by simp at hs1; omega⟩, by simp [intOf]; omega⟩
      · by_cases h23 : oa = 23
        · subst h23
          obtain ⟨a, b, e⟩ := HT.out.in2 hkl2 hnd
          have ha3 := (HT.out.chain k hkl2).mem
          rw [e] at ha3
          have hab := ha3 a (by simp)
          have HSK := Lib.hid (sepS_in hnd e)
          rw [e] at HPC
          have ha5 : a ≤ 300 := by omega
          clear ha3 hab e hnd h21
          go_wp2_with (first
            | (go_at_call 51; (with_reducible refine (HPC.out _ (by (repeat' (first | (with_reducible exact Below.refl _ _) | (with_reducible assumption) | (with_reducible refine Below.alloc ?_ ?_ _) | (with_reducible refine below_drewN ?_ _) | (with_reducible refine below_drew ?_) | (with_reducible refine below_ext ?_ ?_ _ _) | (with_reducible refine Below.setCell ?_ ?_ _) | (simp; done) | (simp; omega) | omega)))).mono ?_); rintro e w1 ⟨v1, rfl, hrd, hb1⟩; obtain ⟨q1, c1, rfl, hq1⟩ := hrd.form; obtain ⟨-, gp, op_, rfl, hgp, hpj⟩ := RdP.cells hrd (by simp); have p0 := (show w1.cell? ⟨gp, op_, none⟩ = some (.int .i64 a) from hpj 0 (by simp)); have xw := (hb1.cell (p := ⟨wr.heap.size, 0, none⟩) (by simp)).trans (show _ = some (Value.int .i64 23) by simp); have HM1 := Lib.hid ((HM.out _ (by (repeat' (first | (with_reducible exact Below.refl _ _) | (with_reducible assumption) | (with_reducible refine Below.alloc ?_ ?_ _) | (with_reducible refine below_drewN ?_ _) | (with_reducible refine below_drew ?_) | (with_reducible refine below_ext ?_ ?_ _ _) | (with_reducible refine Below.setCell ?_ ?_ _) | (simp; done) | (simp; omega) | omega)))).new hb1); have HB1 := Lib.hid (HBR.out.trans (((show Below wr.heap.size wr _ by (repeat' (first | (with_reducible exact Below.refl _ _) | (with_reducible assumption) | (with_reducible refine Below.alloc ?_ ?_ _) | (with_reducible refine below_drewN ?_ _) | (with_reducible refine below_drew ?_) | (with_reducible refine below_ext ?_ ?_ _ _) | (with_reducible refine Below.setCell ?_ ?_ _) | (simp; done) | (simp; omega) | omega))).trans (hb1.mono (by simp))).mono hswr)); have hs1 := hb1.size; clear hb1 hrd hpj hq1)
            | (at_mapUpdate; refine put_imap _ rfl _ _ _ rfl rfl HM1.out (by omega) (a + 1) rfl (by omega) rfl 103 (by omega) rfl ?_; intro w3 hm3 hg3; have HM3 := Lib.hid hm3; have HB3 := Lib.hid (HB1.out.grown hg3 (by first | omega | (simp at hs1; omega)) (fun j hj => by cases hj; exact Nat.le_refl _)); have hs3 := hg3.size; clear hm3 hg3))
          refine ⟨⟨k + 1, cnt + 1, rfl, by omega, by omega, Lib.hid (by rw [HSK.out]; exact HM3.out), HB3, by simp at hs1; omega⟩, by simp [intOf]; omega⟩
        · have q21 : (oa == 21) = false := beq_eq_false_iff_ne.2 h21
          have q23 : (oa == 23) = false := beq_eq_false_iff_ne.2 h23
          have HSK := Lib.hid (sepS_no (P := P) (show (ndA l k).op ≠ 21 by rw [hnd]; exact h21) (by rw [hnd]; exact h23))
          have n21 : (oa != 21) = true := bne_iff_ne.2 h21
          have n23 : (oa != 23) = true := bne_iff_ne.2 h23
          clear hnd
          go_wp2
          refine ⟨⟨k + 1, cnt, rfl, by omega, by omega, Lib.hid (by rw [HSK.out]; exact HM.out _ (by (repeat' (first | (with_reducible exact Below.refl _ _) | (with_reducible assumption) | (with_reducible refine Below.alloc ?_ ?_ _) | (with_reducible refine below_drewN ?_ _) | (with_reducible refine below_drew ?_) | (with_reducible refine below_ext ?_ ?_ _ _) | (with_reducible refine Below.setCell ?_ ?_ _) | (simp; done) | (simp; omega) | omega)))), Lib.hid (HBR.out.trans ((show Below wr.heap.size wr _ by (repeat' (first | (with_reducible exact Below.refl _ _) | (with_reducible assumption) | (with_reducible refine Below.alloc ?_ ?_ _) | (with_reducible refine below_drewN ?_ _) | (with_reducible refine below_drew ?_) | (with_reducible refine below_ext ?_ ?_ _ _) | (with_reducible refine Below.setCell ?_ ?_ _) | (simp; done) | (simp; omega) | omega))).mono hswr)), by simp; omega⟩, by simp [intOf]; omega⟩
    · have hkl1 : ¬ (k : Int) < (len : Int) := by omega
      obtain rfl : k = len := by omega
      go_wp2
      go_ret
      exact ⟨rfl, ⟨cnt, HIM.out, by omega⟩, HBR.out⟩
end Go.Proofs.YtpgfgaloagdogaaDoor
namespace Go.Proofs.YtpgfgaloagdogaaDoor
open Go.RowKit Go.Maps Go.WideMaps Num Word Txt
attribute [local go_sem] setCell_drewN cell?_ext frozen?_ext shape?_ext setCell_ext lt_1' ne_1' en_1' le_1' lt_2' ne_2' en_2' le_2' lt_3' ne_3' en_3' le_3' lt_4' ne_4' en_4' le_4' lt_5' ne_5' en_5' le_5' lt_6' ne_6' en_6' le_6' lt_7' ne_7' en_7' le_7' lt_8' ne_8' en_8' le_8' lt_9' ne_9' en_9' le_9' lt_10' ne_10' en_10' le_10' lt_11' ne_11' en_11' le_11' lt_12' ne_12' en_12' le_12'

section
variable {l : List NdD} {P : List (List Nat)} {L : List Nat}
theorem seg_succ (l : List NdD) (m : Nat → Option Int) (k : Nat) (s) : segC l m (k + 1) 0 s = stepC l m k (segC l m k 0 s) := by
  rw [segC_add, Nat.zero_add]; rfl
/-- ahead of a choice two jumps are left to be told -/
theorem Tr.two (h : Tr l P L) {i : Nat} (hi : i < l.length) (ho : (ndA l i).op = 21) : 2 ≤ (segC l (sepS l P l.length) i 0 ([], [])).2.length := by
  obtain ⟨a, b, d, e⟩ := h.if3 hi ho
  have hch := h.chain i hi
  have hmem := hch.mem
  rw [e] at hch hmem
  have c1 := hch.1
  have c2 := hch.2.1
  have c3 := hch.2.2.1
  have c4 := hch.2.2.2.1
  have c5 := hch.2.2.2.2.1
  have c6 := hch.2.2.2.2.2.1
  have c7 : d + 1 = i := hch.2.2.2.2.2.2
  have s1 := h.sep hi (s := []) (t := [d]) (p := a) (q := b) e
  have s2 := h.sep hi (s := [a]) (t := []) (p := b) (q := d) e
  rw [if_neg (by omega), if_pos ho] at s1 s2
  have hF : ∀ p, p < i → ∀ c J, thing l P L p (c, J) = (c ++ ofF l P i p c.length, J) := fun p hp c J => code_thing h i p hp (by omega) c J
  rw [show i = L.getD a 0 + ((a + 1 - L.getD a 0) + ((b + 1 - L.getD b 0) + (d + 1 - L.getD d 0))) by omega, segC_add, Nat.zero_add]
  obtain ⟨s, hs⟩ : ∃ s, s = segC l (sepS l P l.length) (L.getD a 0) 0 ([], []) := ⟨_, rfl⟩
  rw [← hs, segC_add, seg_thing l P L (by omega), segC_add, show L.getD a 0 + (a + 1 - L.getD a 0) = L.getD b 0 by omega, seg_thing l P L (by omega), show L.getD b 0 + (b + 1 - L.getD b 0) = L.getD d 0 by omega, seg_thing l P L (by omega)]
  rw [hF a (by omega)]
  simp only
  have e1 : ∀ c J, sepStep (sepS l P l.length) (L.getD b 0) c J = (c ++ [iC 102 0], J ++ [c.length]) := fun c J => by
    unfold sepStep; rw [c3, s1]; rfl
  have e2 : ∀ c J, sepStep (sepS l P l.length) (L.getD d 0) c J = (c ++ [iC 101 0], J ++ [c.length]) := fun c J => by
    unfold sepStep; rw [c5, s2]; rfl
  rw [e1, hF b (by omega)]
  simp only
  rw [e2, hF d (by omega)]
  simp
/-- the jumps that are left are places of the code, one behind the other -/
structure Jok (s : List InsD × List Nat) (k : Nat) : Prop where
  up : s.2.Pairwise (· < ·)
  lt : ∀ x ∈ s.2, x < s.1.length
  len : s.1.length ≤ 2 * k
  few : s.2.length ≤ k
theorem Jok.step {s : List InsD × List Nat} {k : Nat} (h : Jok s k) (m : Nat → Option Int) : Jok (stepC l m k s) (k + 1) := by
  obtain ⟨c, J⟩ := s
  obtain ⟨h1, h2, h3, h4⟩ := h
  simp only at h1 h2 h3 h4
  have hsep : ∃ c' J', sepStep m k c J = (c', J') ∧ J'.Pairwise (· < ·) ∧ (∀ x ∈ J', x < c'.length) ∧ c'.length ≤ 2 * k + 1 ∧ J'.length ≤ k + 1 := by
    unfold sepStep
    cases m k with
    | none => exact ⟨c, J, rfl, h1, h2, by omega, by omega⟩
    | some op =>
      simp only
      split
      · exact ⟨_, _, rfl, h1, fun x hx => by rw [List.length_append]; have := h2 x hx; omega, by simp; omega, by omega⟩
      · refine ⟨_, _, rfl, List.pairwise_append.2 ⟨h1, by simp, fun x hx y hy => by simp at hy; subst hy; exact h2 x hx⟩, fun x hx => ?_, by simp; omega, by simp; omega⟩
        rw [List.length_append]
        rcases List.mem_append.1 hx with hx | hx
        · have := h2 x hx; omega
        · simp at hx; subst hx; simp
  obtain ⟨c', J', e, g1, g2, g3, g4⟩ := hsep
  unfold stepC
  simp only
  rw [e]
  unfold ndStep
  split
  · exact ⟨g1.sublist (List.take_sublist _ _), fun x hx => by simp only [List.length_set]; exact g2 x (List.mem_of_mem_take hx), by simp only [List.length_set]; omega, by simp only [List.length_take]; omega⟩
  · split
    · exact ⟨g1, fun x hx => by simp only [List.length_append]; have := g2 x hx; omega, by simp; omega, g4⟩
    · exact ⟨g1, fun x hx => by simp only [List.length_append]; have := g2 x hx; omega, by simp; omega, g4⟩
theorem jok_all (l : List NdD) (m : Nat → Option Int) : ∀ k, Jok (segC l m k 0 ([], [])) k
  | 0 => ⟨List.Pairwise.nil, fun x hx => (by cases hx), Nat.le_refl _, Nat.le_refl _⟩
  | k + 1 => by rw [seg_succ]; exact (jok_all l m k).step m
theorem sep_one {i j : Nat} {op : Int} (h : sepS l P i j = some op) : op = 101 ∨ op = 102 ∨ op = 103 := by
  obtain ⟨X, _, hr⟩ := sep_sound h
  rcases hr with ⟨_, _, h⟩ | ⟨_, _, h⟩ | ⟨_, _, h⟩ <;> omega
end
end Go.Proofs.YtpgfgaloagdogaaDoor
namespace Go.Proofs.YtpgfgaloagdogaaDoor
open Go.RowKit Go.Maps Go.WideMaps Num Word Txt
attribute [local go_sem] setCell_drewN cell?_ext frozen?_ext shape?_ext setCell_ext lt_1' ne_1' en_1' le_1' lt_2' ne_2' en_2' le_2' lt_3' ne_3' en_3' le_3' lt_4' ne_4' en_4' le_4' lt_5' ne_5' en_5' le_5' lt_6' ne_6' en_6' le_6' lt_7' ne_7' en_7' le_7' lt_8' ne_8' en_8' le_8' lt_9' ne_9' en_9' le_9' lt_10' ne_10' en_10' le_10' lt_11' ne_11' en_11' le_11' lt_12' ne_12' en_12' le_12'

theorem getD_at {α : Type} (l : List α) (i : Nat) (d : α) (h : i < l.length) : l.getD i d = l[i] := by rw [List.getD_eq_getElem?_getD, List.getElem?_eq_getElem h]; rfl
theorem flat_set {α : Type} {K : El} {enc : α → List Value} (hc : Cells K enc) {i : Nat} (hi : i < K.size) (u : Value) : ∀ (l : List α) (j : Nat) (hj : j < l.length) (x' : α), enc x' = (enc l[j]).set i u → (l.flatMap enc).set (j * K.size + i) u = (l.set j x').flatMap enc
  | x :: r, 0, _, x', h => by
    rw [List.flatMap_cons, Nat.zero_mul, Nat.zero_add, List.set_append_left _ _ (by rw [(hc x).1]; exact hi), List.set_cons_zero, List.flatMap_cons, h]; rfl
  | x :: r, j + 1, hj, x', h => by
    rw [List.flatMap_cons, List.set_append_right _ _ (by rw [(hc x).1, Nat.add_mul]; omega), (hc x).1, show (j + 1) * K.size + i - K.size = j * K.size + i by rw [Nat.add_mul]; omega, List.set_cons_succ, List.flatMap_cons]
    rw [flat_set hc hi u r j (by simpa using hj) x' (by simpa using h)]
theorem OL.store {α : Type} {K : El} {enc : α → List Value} {B g cap n : Nat} {w : World} {l : List α} (hc : Cells K enc) (h : OL K enc B w (.slice (some ⟨g, 0, none⟩) n cap) l) {j i : Nat} (hj : j < l.length) {u : Value} {x' : α} (hx : enc x' = (enc l[j]).set i u) (hi : i < K.size) : OL K enc B (w.setCell ⟨g, j * K.size + i, none⟩ u) (.slice (some ⟨g, 0, none⟩) n cap) (l.set j x') := by
  obtain ⟨q, c, e, -, -⟩ := OL.form h
  injection e with _ e2 _
  subst e2
  have h2 := (World.ownsRow.stored h (j * K.size + i) u).1
  rw [flat_set hc hi u l j hj x' hx] at h2
  show World.ownsRow _ _ _ _ _ (l.set j x').length _
  rw [List.length_set]
  exact h2
/-- code, jumps and map in memory -/
structure CM (m : Nat → Option Int) (cnt : Nat) (w wr : World) (x y : Value) (lx : List InsD) (ly : List Nat) : Prop where
  code : OL isK insE (w.heap.size + 1) wr x lx
  jump : OL inK inE (w.heap.size + 1) wr y ly
  map : IMap wr w.heap.size cnt m
  bel : Below w.heap.size w wr
  lt : w.heap.size < wr.heap.size
section
variable {m : Nat → Option Int} {cnt : Nat} {w wr w' w2 : World} {x y x2 y2 : Value} {lx lx2 : List InsD} {ly ly2 : List Nat}
theorem CM.new (h : CM m cnt w wr x y lx ly) (hb : Below wr.heap.size wr w') : CM m cnt w w' x y lx ly :=
  ⟨OL.new h.code hb, OL.new h.jump hb, h.map.new hb, h.bel.trans (hb.mono (Nat.le_of_lt h.lt)), Nat.lt_of_lt_of_le h.lt hb.size⟩
theorem CM.setCode (h : CM m cnt w wr x y lx ly) (ho : Ot (fun k => x.ownBlock = some k) wr w2) (hx : OL isK insE (w.heap.size + 1) w2 x2 lx2) : CM m cnt w w2 x2 y lx2 ly :=
  ⟨hx, OL.kept h.jump ho (fun k e1 e2 => apart h.code h.jump k e2 e1), h.map.ot ho (fun e => by have := (World.ownsRow.lt h.code _ e).1; omega), h.bel.trans (ho.below (Nat.le_of_lt h.lt) (fun k e => by have := (World.ownsRow.lt h.code _ e).1; omega)), Nat.lt_of_lt_of_le h.lt ho.size⟩
theorem CM.setJump (h : CM m cnt w wr x y lx ly) (ho : Ot (fun k => y.ownBlock = some k) wr w2) (hy : OL inK inE (w.heap.size + 1) w2 y2 ly2) : CM m cnt w w2 x y2 lx ly2 :=
  ⟨OL.kept h.code ho (fun k e1 e2 => apart h.code h.jump k e1 e2), hy, h.map.ot ho (fun e => by have := (World.ownsRow.lt h.jump _ e).1; omega), h.bel.trans (ho.below (Nat.le_of_lt h.lt) (fun k e => by have := (World.ownsRow.lt h.jump _ e).1; omega)), Nat.lt_of_lt_of_le h.lt ho.size⟩
/-- a node in a block of its own -/
def NB8 (w : World) (b : Nat) (op k : Int) (t : ByteArray) (neg : Bool) (ha la s day : Int) : Prop := b < w.heap.size ∧ w.cell? ⟨b, 0, none⟩ = some (.int .i64 op) ∧ w.cell? ⟨b, 1, none⟩ = some (.int .i64 k) ∧ w.cell? ⟨b, 2, none⟩ = some (.string t) ∧ w.cell? ⟨b, 3, none⟩ = some (.bool neg) ∧
  w.cell? ⟨b, 4, none⟩ = some (.int .u64 ha) ∧ w.cell? ⟨b, 5, none⟩ = some (.int .u64 la) ∧ w.cell? ⟨b, 6, none⟩ = some (.int .i64 s) ∧ w.cell? ⟨b, 7, none⟩ = some (.int .i64 day)
theorem NB8.kept {b : Nat} {op k : Int} {t : ByteArray} {neg : Bool} {ha la s day : Int} {S : Nat → Prop} (ho : Ot S wr w2) (h : NB8 wr b op k t neg ha la s day) (hn : ¬ S b) : NB8 w2 b op k t neg ha la s day := by
  obtain ⟨h0, h1, h2, h3, h4, h5, h6, h7, h8⟩ := h
  have hc := fun j => ho.cell (j := j) h0 hn
  exact ⟨Nat.lt_of_lt_of_le h0 ho.size, (hc _).trans h1, (hc _).trans h2, (hc _).trans h3, (hc _).trans h4, (hc _).trans h5, (hc _).trans h6, (hc _).trans h7, (hc _).trans h8⟩
end
set_option maxRecDepth 100000 in
set_option maxHeartbeats 8000000 in
theorem codcompile_any {l : List NdD} {H : List Nat} {P : List (List Nat)} (hs : stkP 0 l [] = some (H, P)) (n : Nat) (w : World) (v : Value) (hv : RL 8 ndE n w v l) (hn : n ≤ w.heap.size) (hl : l.length ≤ 300) (hwf : ∀ x ∈ l, x.Wf) (hsm : ∀ x ∈ l, x.t.size ≤ 1048576) (hcap : ∀ p k c, v = .slice p k c → k ≤ c) :
    Calls Tryd.prog 20 #[v] w fun e w' => ∃ v', e = .returned v' ∧ OL isK insE (w.heap.size + 1) w' v' (segC l (sepS l P l.length) l.length 0 ([], [])).1 ∧ Below w.heap.size w w' := by
  have HSP := Lib.hid (separators_any hs n w v hv hn hl hwf hcap)
  obtain ⟨L, hT, -⟩ := tree_of hs
  have HT := Lib.hid hT
  obtain ⟨m, hm⟩ : ∃ m, m = sepS l P l.length := ⟨_, rfl⟩
  have HSEP := Lib.hid (show ∀ i op, m i = some op → op = 101 ∨ op = 102 ∨ op = 103 from fun i op h => sep_one (hm ▸ h))
  have HNO := Lib.hid (show ∀ i, i < l.length → P.getD i [] ≠ [] → m i = none from fun i hi h => hm ▸ hT.nosep hi h)
  have HTWO := Lib.hid (show ∀ i, i < l.length → (ndA l i).op = 21 → 2 ≤ (segC l m i 0 ([], [])).2.length from fun i hi h => hm ▸ hT.two hi h)
  have HJOK := Lib.hid (jok_all l m)
  have HSM := Lib.hid hsm
  obtain ⟨p, c, rfl, h2⟩ := hv
  obtain ⟨len, hlen⟩ : ∃ len, len = l.length := ⟨_, rfl⟩
  have HL := Lib.hid hlen
  have H2 := Lib.hid h2
  rw [← hm, ← hlen] at HSP
  rw [← hm]
  rw [← hlen] at hl ⊢
  clear h2 hlen hs hT hwf hcap hm hsm
  go_enter Tryd.func20, Tryd.ntmps20
  go_wp2_with (first
    | (go_at_call 34; (with_reducible refine (HSP.out).mono ?_); rintro e w1 ⟨rfl, ⟨cnt, hmp, hcnt⟩, hb1⟩; have HS0 := Lib.hid (show CM m cnt w w1 (.slice none 0 0) (.slice none 0 0) [] [] from ⟨OL.nil _ _ _ _, OL.nil _ _ _ _, hmp, hb1, hmp.lt⟩); clear hmp hb1))
  go_loopw [4, 5, 17] (fun x y z wr => ∃ k : Nat, z = .int .i64 k ∧ k ≤ len ∧ Hid (CM m cnt w wr x y (segC l m k 0 ([], [])).1 (segC l m k 0 ([], [])).2)) (fun _ _ z _ => len - (intOf z).toNat)
  case atStart => exact ⟨0, rfl, Nat.zero_le _, HS0⟩
  case round =>
    obtain ⟨k, rfl, hk, HS⟩ := hrel
    clear HS0 HSP
    have hltw := HS.out.lt
    have HBR := Lib.hid HS.out.bel
    by_cases hkl : k < len
    · have hkl1 : (k : Int) < (len : Int) := by omega
      have hkl2 : k < l.length := by rw [← HL.out]; exact hkl
      obtain ⟨g, o, rfl, hg, hc⟩ := H2.out (by omega)
      have hgr : g < w.heap.size := by omega
      have hc2 : ∀ j (h : j < l.length) i u, (ndE l[j])[i]? = some u → wr.cell? ⟨g, o + j * 8 + i, none⟩ = some u := fun j hj i u hu => by
        rw [HBR.out.cell (p := ⟨g, _, none⟩) hgr]; exact hc j hj i u hu
      obtain ⟨oa, ka, ta, na, ca, sa, da, he, x0, x1, x2, x3, x4, x5, x6, x7⟩ := nd_cells hc2 k hkl2
      have hnd : ndA l k = ⟨oa, ka, ta, na, ca, sa, da⟩ := (nd_at hkl2).trans he
      have hop : (ndA l k).op = oa := by rw [hnd]
      have hta : ta.size ≤ 1048576 := by
        have := HSM.out l[k] (List.getElem_mem hkl2)
        rw [he] at this; exact this
      have hjk := HJOK.out k
      obtain ⟨s, hs⟩ : ∃ s, s = segC l m k 0 ([], []) := ⟨_, rfl⟩
      have HNX := Lib.hid (show segC l m (k + 1) 0 ([], []) = stepC l m k s by rw [seg_succ, hs])
      have h2J : oa = 21 → 2 ≤ s.2.length := fun h => by rw [hs]; exact HTWO.out k hkl2 (hop.trans h)
      rw [← hs] at HS hjk
      clear hs
      obtain ⟨cc, J⟩ := s
      obtain ⟨ju, jl, jn, jf⟩ := hjk
      simp only at HS h2J ju jl jn jf
      obtain ⟨nc, hnc⟩ : ∃ nc, nc = cc.length := ⟨_, rfl⟩
      obtain ⟨nj, hnj⟩ : ∃ nj, nj = J.length := ⟨_, rfl⟩
      have HNC := Lib.hid hnc.symm
      have HNJ := Lib.hid hnj.symm
      obtain ⟨q, cp, hv, hq, hcp⟩ := OL.form HS.out.code
      obtain ⟨q2, cp2, hv2, hq2, hcp2⟩ := OL.form HS.out.jump
      rw [← hnc] at hv hq hcp
      rw [← hnj] at hv2 hq2 hcp2
      obtain rfl : u4 = .slice q nc cp := hv
      obtain rfl : u5 = .slice q2 nj cp2 := hv2
      have HOC := Lib.hid (show ∀ b, (Value.slice q nc cp).ownBlock = some b → b < wr.heap.size from fun b hb => (World.ownsRow.lt HS.out.code b hb).2)
      have HOJ := Lib.hid (show ∀ b, (Value.slice q2 nj cp2).ownBlock = some b → b < wr.heap.size from fun b hb => (World.ownsRow.lt HS.out.jump b hb).2)
      have HMP := Lib.hid (fun w' (hb : Below wr.heap.size wr w') => HS.out.map.new hb)
      obtain ⟨I, hI⟩ : ∃ I, I = insN ⟨oa, ka, ta, na, ca, sa, da⟩ := ⟨_, rfl⟩
      have HIN := Lib.hid (show ∀ w, Calls Tryd.prog 35 #[NodV oa ka ta na (Word.hi ca : Int) (Word.lo ca : Int) sa da] w fun e w' => e = .returned (InV I) ∧ Below w.heap.size w w' from fun w => hI ▸ instruction_any ⟨oa, ka, ta, na, ca, sa, da⟩ hta w)
      have hncb : nc ≤ 600 := by omega
      have hnjb : nj ≤ 300 := by omega
      have HST := Lib.hid (show ∀ mk, m k = mk → stepC l m k (cc, J) = ndStep ⟨oa, ka, ta, na, ca, sa, da⟩ (match mk with | none => (cc, J) | some op => (cc ++ [iC op 0], if op = 103 then J else J ++ [nc])).1 (match mk with | none => (cc, J) | some op => (cc ++ [iC op 0], if op = 103 then J else J ++ [nc])).2 from fun mk h => by
        unfold stepC sepStep
        rw [hnd, h, hnc]
        cases mk <;> rfl)
      by_cases h21 : oa = 21
      · have hmk : m k = none := HNO.out k hkl2 (by
          obtain ⟨a, b, d, e⟩ := HT.out.if3 hkl2 (hop.trans h21)
          rw [e]; simp)
        subst h21
        have h2J2 := h2J rfl
        obtain ⟨r, hr⟩ : ∃ r, r = nj - 2 := ⟨_, rfl⟩
        have E1 : (nj : Int) - 2 = (r : Int) := by omega
        have hrj : r < J.length := by omega
        have hrj1 : r + 1 < J.length := by omega
        obtain ⟨a, ha'⟩ : ∃ a, a = J[r] := ⟨_, rfl⟩
        obtain ⟨b, hb'⟩ : ∃ b, b = J[r + 1] := ⟨_, rfl⟩
        have hab : a < b := by rw [ha', hb']; exact List.pairwise_iff_getElem.1 ju r (r + 1) hrj hrj1 (by omega)
        have hbn : b < cc.length := by rw [hb']; exact jl _ (List.getElem_mem hrj1)
        have han : a < cc.length := by omega
        have hbnc : b < nc := by omega
        have hr2 : r + 2 = nj := by omega
        have HN := Lib.hid (show segC l m (k + 1) 0 ([], []) = ((cc.set a { cc[a] with a := (b : Int) + 1 }).set b { (cc.set a { cc[a] with a := (b : Int) + 1 })[b]'(by rw [List.length_set]; exact hbn) with a := (nc : Int) }, J.take r) by
          rw [HNX.out, HST.out _ hmk]
          unfold ndStep
          rw [if_pos rfl]
          simp only
          rw [show J.length - 2 = r by omega, show J.length - 1 = r + 1 by omega, getD_at J r 0 hrj, getD_at J (r + 1) 0 hrj1, ← ha', ← hb', getD_at cc a _ han, getD_at cc b _ hbn, List.getElem_set_ne (by omega), hnc])
        obtain ⟨gC, rfl, hgC, hgC2⟩ := hq (by omega)
        obtain ⟨gJ, rfl, hgJ, hgJ2⟩ := hq2 (by omega)
        have j0 : wr.cell? ⟨gJ, r, none⟩ = some (.int .i64 a) := by
          have := OL.cell inE_cells HS.out.jump r 0 hrj (u := .int .i64 (J[r] : Int)) rfl
          rw [ha']; rwa [show r * inK.size + 0 = r by show r * 1 + 0 = r; omega] at this
        have j1 : wr.cell? ⟨gJ, r + 1, none⟩ = some (.int .i64 b) := by
          have := OL.cell inE_cells HS.out.jump (r + 1) 0 hrj1 (u := .int .i64 (J[r + 1] : Int)) rfl
          rw [hb']; rwa [show (r + 1) * inK.size + 0 = r + 1 by show (r + 1) * 1 + 0 = r + 1; omega] at this
        have f1 : wr.cell? ⟨gC, a * 8 + 1, none⟩ = some (.int .i64 cc[a].a) := OL.cell isE_cells HS.out.code a 1 han rfl
        have f2 : wr.cell? ⟨gC, b * 8 + 1, none⟩ = some (.int .i64 cc[b].a) := OL.cell isE_cells HS.out.code b 1 hbn rfl
        have z1 : wr.frozen? ⟨gC, a * 8 + 1, none⟩ = false := OL.free HS.out.code
        have z2 : wr.frozen? ⟨gC, b * 8 + 1, none⟩ = false := OL.free HS.out.code
        have HML := Lib.hid (show (m k).getD 0 = 0 ∧ (m k).isSome = false by rw [hmk]; exact ⟨rfl, rfl⟩)
        generalize (Word.hi ca : Int) = ha at *
        generalize (Word.lo ca : Int) = la at *
        have HXX := Lib.hid (show ∀ W, OL isK insE (w.heap.size + 1) W (.slice (some ⟨gC, 0, none⟩) nc cp) cc → OL isK insE (w.heap.size + 1) ((W.setCell ⟨gC, a * 8 + 1, none⟩ (.int .i64 ((b : Int) + 1))).setCell ⟨gC, b * 8 + 1, none⟩ (.int .i64 (nc : Int))) (.slice (some ⟨gC, 0, none⟩) nc cp) (segC l m (k + 1) 0 ([], [])).1 from fun W h => by
          rw [HN.out]
          exact OL.store isE_cells (OL.store isE_cells h (j := a) (i := 1) han (x' := { cc[a] with a := (b : Int) + 1 }) rfl (by decide)) (j := b) (i := 1) (by rw [List.length_set]; exact hbn) rfl (by decide))
        have HN2 := Lib.hid (show (segC l m (k + 1) 0 ([], [])).2 = J.take r by rw [HN.out])
        generalize cc[a].a = va at f1
        generalize cc[b].a = vb at f2
        have hne1 : ¬ a * 8 + 1 = b * 8 + 1 := by omega
        have hne2 : ¬ b * 8 + 1 = a * 8 + 1 := by omega
        have hrc2 : r ≤ cp2 := by omega
        have hrJ : r ≤ J.length := by omega
        clear hc hc2 he hnd hop hI hnc hnj hmk h2J ju jl jn jf hq hq2 hr ha' hb' h2J2 HN
        go_wp2_with (first
          | (at_lookup; refine look_imap _ rfl _ _ rfl rfl (HMP.out _ (by (repeat' (first | (with_reducible exact Below.refl _ _) | (with_reducible assumption) | (with_reducible refine Below.alloc ?_ ?_ _) | (with_reducible refine below_drewN ?_ _) | (with_reducible refine below_drew ?_) | (with_reducible refine below_ext ?_ ?_ _ _) | (with_reducible refine Below.setCell ?_ ?_ _) | (simp; done) | (simp; omega) | omega)))) k rfl (by omega) rfl (c := 0) (f := false) HML.out.1 HML.out.2 ?_))
        go_region
        go_wp2
        have ho : Ot (fun k => (Value.slice (some ⟨gC, 0, none⟩) nc cp).ownBlock = some k) wr ((wr.setCell ⟨gC, a * 8 + 1, none⟩ (.int .i64 ((b : Int) + 1))).setCell ⟨gC, b * 8 + 1, none⟩ (.int .i64 (nc : Int))) :=
          Ot.set (Ot.set (Ot.refl (fun k => (Value.slice (some ⟨gC, 0, none⟩) nc cp).ownBlock = some k) wr) ⟨gC, a * 8 + 1, none⟩ (.inl rfl) _) ⟨gC, b * 8 + 1, none⟩ (.inl rfl) _
        have H1 := HS.out.setCode ho (HXX.out _ HS.out.code)
        have H2 : CM m cnt w ((wr.setCell ⟨gC, a * 8 + 1, none⟩ (.int .i64 ((b : Int) + 1))).setCell ⟨gC, b * 8 + 1, none⟩ (.int .i64 (nc : Int))) (.slice (some ⟨gC, 0, none⟩) nc cp) (.slice (some ⟨gJ, 0, none⟩) r cp2) (segC l m (k + 1) 0 ([], [])).1 (segC l m (k + 1) 0 ([], [])).2 :=
          ⟨H1.code, by rw [HN2.out]; exact OL.take inE_cells H1.jump hrJ, H1.map, H1.bel, H1.lt⟩
        exact ⟨⟨k + 1, rfl, by omega, Lib.hid (H2.new (by (repeat' (first | (with_reducible exact Below.refl _ _) | (with_reducible assumption) | (with_reducible refine Below.alloc ?_ ?_ _) | (with_reducible refine below_drewN ?_ _) | (with_reducible refine below_drew ?_) | (with_reducible refine below_ext ?_ ?_ _ _) | (with_reducible refine Below.setCell ?_ ?_ _) | (simp; done) | (simp; omega) | omega))))⟩, by simp [intOf]; omega⟩
      · by_cases h23 : oa = 23
        · have hmk : m k = none := HNO.out k hkl2 (by
            obtain ⟨a, b, e⟩ := HT.out.in2 hkl2 (hop.trans h23)
            rw [e]; simp)
          have HND := Lib.hid (show ∀ c J, ndStep ⟨oa, ka, ta, na, ca, sa, da⟩ c J = (c ++ [iC 104 0], J) from fun c J => by
            unfold ndStep
            rw [if_neg h21, if_pos h23])
          have HN := Lib.hid (show segC l m (k + 1) 0 ([], []) = (cc ++ [iC 104 0], J) by rw [HNX.out, HST.out _ hmk]; exact HND.out _ _)
          have HN1 := Lib.hid (show cc.length + 1 = nc + 1 by rw [HNC.out])
          have HML := Lib.hid (show (m k).getD 0 = 0 ∧ (m k).isSome = false by rw [hmk]; exact ⟨rfl, rfl⟩)
          generalize (Word.hi ca : Int) = ha at *
          generalize (Word.lo ca : Int) = la at *
          clear hc hc2 he hnd hop hI hnc hnj hmk h2J ju jl jn jf hq hcp hq2 hcp2 h21
          subst h23
          go_wp2_with (first
            | (at_lookup; refine look_imap _ rfl _ _ rfl rfl (HMP.out _ (by (repeat' (first | (with_reducible exact Below.refl _ _) | (with_reducible assumption) | (with_reducible refine Below.alloc ?_ ?_ _) | (with_reducible refine below_drewN ?_ _) | (with_reducible refine below_drew ?_) | (with_reducible refine below_ext ?_ ?_ _ _) | (with_reducible refine Below.setCell ?_ ?_ _) | (simp; done) | (simp; omega) | omega)))) k rfl (by omega) rfl (c := 0) (f := false) HML.out.1 HML.out.2 ?_)
            | (at_builtin; refine append_elem isK_ok isE_cells rfl _ _ rfl rfl _ (iC 104 0) rfl ((HS.out.new (by (repeat' (first | (with_reducible exact Below.refl _ _) | (with_reducible assumption) | (with_reducible refine Below.alloc ?_ ?_ _) | (with_reducible refine below_drewN ?_ _) | (with_reducible refine below_drew ?_) | (with_reducible refine below_ext ?_ ?_ _ _) | (with_reducible refine Below.setCell ?_ ?_ _) | (simp; done) | (simp; omega) | omega)))).code) HN1.out (by simp [Act.eval]) (by omega) (by first | omega | (simp; omega)) ?_; intro g2 cap2 w2 hob hoth hat hg2 hsz2; have HS3 := Lib.hid ((HS.out.new (by (repeat' (first | (with_reducible exact Below.refl _ _) | (with_reducible assumption) | (with_reducible refine Below.alloc ?_ ?_ _) | (with_reducible refine below_drewN ?_ _) | (with_reducible refine below_drew ?_) | (with_reducible refine below_ext ?_ ?_ _ _) | (with_reducible refine Below.setCell ?_ ?_ _) | (simp; done) | (simp; omega) | omega)))).setCode hoth hob); clear hob hoth hat hg2 hsz2))
          refine ⟨⟨k + 1, rfl, by omega, Lib.hid (by rw [HN.out]; exact HS3.out)⟩, by simp [intOf]; omega⟩
        · have q21 : (oa == 21) = false := beq_eq_false_iff_ne.2 h21
          have q23 : (oa == 23) = false := beq_eq_false_iff_ne.2 h23
          have HND := Lib.hid (show ∀ c J, ndStep ⟨oa, ka, ta, na, ca, sa, da⟩ c J = (c ++ [I], J) from fun c J => by
            unfold ndStep
            rw [if_neg h21, if_neg h23, ← hI])
          generalize (Word.hi ca : Int) = ha at *
          generalize (Word.lo ca : Int) = la at *
          cases hmk : m k with
          | none =>
            have HN := Lib.hid (show segC l m (k + 1) 0 ([], []) = (cc ++ [I], J) by rw [HNX.out, HST.out _ hmk]; exact HND.out _ _)
            have HN1 := Lib.hid (show cc.length + 1 = nc + 1 by rw [HNC.out])
            have HML := Lib.hid (show (m k).getD 0 = 0 ∧ (m k).isSome = false by rw [hmk]; exact ⟨rfl, rfl⟩)
            clear hc hc2 he hnd hop hI hnc hnj hmk h2J ju jl jn jf hq hcp hq2 hcp2 h21 h23
            go_wp2_with (first
              | (at_lookup; refine look_imap _ rfl _ _ rfl rfl (HMP.out _ (by (repeat' (first | (with_reducible exact Below.refl _ _) | (with_reducible assumption) | (with_reducible refine Below.alloc ?_ ?_ _) | (with_reducible refine below_drewN ?_ _) | (with_reducible refine below_drew ?_) | (with_reducible refine below_ext ?_ ?_ _ _) | (with_reducible refine Below.setCell ?_ ?_ _) | (simp; done) | (simp; omega) | omega)))) k rfl (by omega) rfl (c := 0) (f := false) HML.out.1 HML.out.2 ?_)
              | (go_at_call 35; ((with_reducible refine (HIN.out _).mono ?_); rintro e w1 ⟨rfl, hb1⟩; obtain ⟨osI, dI, rfl⟩ := ext_of_below hb1; clear hb1))
              | (at_builtin; refine append_elem isK_ok isE_cells rfl _ _ rfl rfl _ I rfl ((HS.out.new (by (repeat' (first | (with_reducible exact Below.refl _ _) | (with_reducible assumption) | (with_reducible refine Below.alloc ?_ ?_ _) | (with_reducible refine below_drewN ?_ _) | (with_reducible refine below_drew ?_) | (with_reducible refine below_ext ?_ ?_ _ _) | (with_reducible refine Below.setCell ?_ ?_ _) | (simp; done) | (simp; omega) | omega)))).code) HN1.out (by simp [Act.eval]) (by omega) (by first | omega | (simp; omega)) ?_; intro g2 cap2 w2 hob hoth hat hg2 hsz2; have HS1 := Lib.hid ((HS.out.new (by (repeat' (first | (with_reducible exact Below.refl _ _) | (with_reducible assumption) | (with_reducible refine Below.alloc ?_ ?_ _) | (with_reducible refine below_drewN ?_ _) | (with_reducible refine below_drew ?_) | (with_reducible refine below_ext ?_ ?_ _ _) | (with_reducible refine Below.setCell ?_ ?_ _) | (simp; done) | (simp; omega) | omega)))).setCode hoth hob); clear hob hoth hat hg2 hsz2))
            refine ⟨⟨k + 1, rfl, by omega, Lib.hid (by rw [HN.out]; exact HS1.out)⟩, by simp [intOf]; omega⟩
          | some op =>
            by_cases h103 : op = 103
            · subst h103
              have HN := Lib.hid (show segC l m (k + 1) 0 ([], []) = (cc ++ [iC 103 0] ++ [I], J) by rw [HNX.out, HST.out _ hmk]; exact HND.out _ _)
              have HN1 := Lib.hid (show cc.length + 1 = nc + 1 by rw [HNC.out])
              have HN2 := Lib.hid (show (cc ++ [iC 103 0]).length + 1 = nc + 2 by rw [List.length_append, HNC.out]; rfl)
              have HML := Lib.hid (show (m k).getD 0 = 103 ∧ (m k).isSome = true by rw [hmk]; exact ⟨rfl, rfl⟩)
              clear hc hc2 he hnd hop hI hnc hnj hmk h2J ju jl jn jf hq hcp hq2 hcp2 h21 h23
              go_wp2_with (first
                | (at_lookup; refine look_imap _ rfl _ _ rfl rfl (HMP.out _ (by (repeat' (first | (with_reducible exact Below.refl _ _) | (with_reducible assumption) | (with_reducible refine Below.alloc ?_ ?_ _) | (with_reducible refine below_drewN ?_ _) | (with_reducible refine below_drew ?_) | (with_reducible refine below_ext ?_ ?_ _ _) | (with_reducible refine Below.setCell ?_ ?_ _) | (simp; done) | (simp; omega) | omega)))) k rfl (by omega) rfl (c := 103) (f := true) HML.out.1 HML.out.2 ?_)
                | (at_builtin; refine append_elem isK_ok isE_cells rfl _ _ rfl rfl _ (iC 103 0) rfl ((HS.out.new (by (repeat' (first | (with_reducible exact Below.refl _ _) | (with_reducible assumption) | (with_reducible refine Below.alloc ?_ ?_ _) | (with_reducible refine below_drewN ?_ _) | (with_reducible refine below_drew ?_) | (with_reducible refine below_ext ?_ ?_ _ _) | (with_reducible refine Below.setCell ?_ ?_ _) | (simp; done) | (simp; omega) | omega)))).code) HN1.out (by simp [Act.eval]) (by omega) (by first | omega | (simp; omega)) ?_; intro g3 cap3 w3 hob hoth hat hg3 hsz3; have HS2 := Lib.hid ((HS.out.new (by (repeat' (first | (with_reducible exact Below.refl _ _) | (with_reducible assumption) | (with_reducible refine Below.alloc ?_ ?_ _) | (with_reducible refine below_drewN ?_ _) | (with_reducible refine below_drew ?_) | (with_reducible refine below_ext ?_ ?_ _ _) | (with_reducible refine Below.setCell ?_ ?_ _) | (simp; done) | (simp; omega) | omega)))).setCode hoth hob); obtain ⟨b9', c0, c1, c2, c3, c4, c5, c6, c7⟩ := NB8.kept hoth (show NB8 _ wr.heap.size oa ka ta na ha la sa da from ⟨by simp, by simp, by simp, by simp, by simp, by simp, by simp, by simp, by simp⟩) (fun e => by have := HOC.out _ e; omega); clear hob hoth hat hg3 hsz3)
                | (go_at_call 35; ((with_reducible refine (HIN.out _).mono ?_); rintro e w1 ⟨rfl, hb1⟩; obtain ⟨osI, dI, rfl⟩ := ext_of_below hb1; clear hb1))
                | (at_builtin; refine append_elem isK_ok isE_cells rfl _ _ rfl rfl _ I rfl ((HS2.out.new (by (repeat' (first | (with_reducible exact Below.refl _ _) | (with_reducible assumption) | (with_reducible refine Below.alloc ?_ ?_ _) | (with_reducible refine below_drewN ?_ _) | (with_reducible refine below_drew ?_) | (with_reducible refine below_ext ?_ ?_ _ _) | (with_reducible refine Below.setCell ?_ ?_ _) | (simp; done) | (simp; omega) | omega)))).code) HN2.out (by simp [Act.eval]) (by omega) (by first | omega | (simp; omega)) ?_; intro g4 cap4 w4 hob hoth hat hg4 hsz4; have HS3 := Lib.hid ((HS2.out.new (by (repeat' (first | (with_reducible exact Below.refl _ _) | (with_reducible assumption) | (with_reducible refine Below.alloc ?_ ?_ _) | (with_reducible refine below_drewN ?_ _) | (with_reducible refine below_drew ?_) | (with_reducible refine below_ext ?_ ?_ _ _) | (with_reducible refine Below.setCell ?_ ?_ _) | (simp; done) | (simp; omega) | omega)))).setCode hoth hob); clear hob hoth hat hg4 hsz4))
              refine ⟨⟨k + 1, rfl, by omega, Lib.hid (by rw [HN.out]; exact HS3.out)⟩, by simp [intOf]; omega⟩
            · have HN := Lib.hid (show segC l m (k + 1) 0 ([], []) = (cc ++ [iC op 0] ++ [I], J ++ [nc]) by
                rw [HNX.out, HST.out _ hmk]
                simp only [if_neg h103]
                exact HND.out _ _)
              have HN1 := Lib.hid (show cc.length + 1 = nc + 1 by rw [HNC.out])
              have HN2 := Lib.hid (show (cc ++ [iC op 0]).length + 1 = nc + 2 by rw [List.length_append, HNC.out]; rfl)
              have HNJ1 := Lib.hid (show J.length + 1 = nj + 1 by rw [HNJ.out])
              have HML := Lib.hid (show (m k).getD 0 = op ∧ (m k).isSome = true by rw [hmk]; exact ⟨rfl, rfl⟩)
              have hopb : 101 ≤ op ∧ op ≤ 103 := by have := HSEP.out k op hmk; omega
              have n103 : (op != 103) = true := bne_iff_ne.2 h103
              clear hc hc2 he hnd hop hI hnc hnj hmk h2J ju jl jn jf hq hcp hq2 hcp2 h21 h23
              go_wp2_with (first
                | (at_lookup; refine look_imap _ rfl _ _ rfl rfl (HMP.out _ (by (repeat' (first | (with_reducible exact Below.refl _ _) | (with_reducible assumption) | (with_reducible refine Below.alloc ?_ ?_ _) | (with_reducible refine below_drewN ?_ _) | (with_reducible refine below_drew ?_) | (with_reducible refine below_ext ?_ ?_ _ _) | (with_reducible refine Below.setCell ?_ ?_ _) | (simp; done) | (simp; omega) | omega)))) k rfl (by omega) rfl (c := op) (f := true) HML.out.1 HML.out.2 ?_)
                | (at_builtin; refine append_elem inK_ok inE_cells rfl _ _ rfl rfl _ nc rfl ((HS.out.new (by (repeat' (first | (with_reducible exact Below.refl _ _) | (with_reducible assumption) | (with_reducible refine Below.alloc ?_ ?_ _) | (with_reducible refine below_drewN ?_ _) | (with_reducible refine below_drew ?_) | (with_reducible refine below_ext ?_ ?_ _ _) | (with_reducible refine Below.setCell ?_ ?_ _) | (simp; done) | (simp; omega) | omega)))).jump) HNJ1.out (by simp [Act.eval]) (by omega) (by first | omega | (simp; omega)) ?_; intro g2 cap2 w2 hob hoth hat hg2 hsz2; have HS1 := Lib.hid ((HS.out.new (by (repeat' (first | (with_reducible exact Below.refl _ _) | (with_reducible assumption) | (with_reducible refine Below.alloc ?_ ?_ _) | (with_reducible refine below_drewN ?_ _) | (with_reducible refine below_drew ?_) | (with_reducible refine below_ext ?_ ?_ _ _) | (with_reducible refine Below.setCell ?_ ?_ _) | (simp; done) | (simp; omega) | omega)))).setJump hoth hob); obtain ⟨b9, b0, b1, b2, b3, b4, b5, b6, b7⟩ := NB8.kept hoth (show NB8 _ wr.heap.size oa ka ta na ha la sa da from ⟨by simp, by simp, by simp, by simp, by simp, by simp, by simp, by simp, by simp⟩) (fun e => by have := HOJ.out _ e; omega); clear hob hoth hat hg2 hsz2)
                | (at_builtin; refine append_elem isK_ok isE_cells rfl _ _ rfl rfl _ (iC op 0) rfl ((HS1.out.new (by (repeat' (first | (with_reducible exact Below.refl _ _) | (with_reducible assumption) | (with_reducible refine Below.alloc ?_ ?_ _) | (with_reducible refine below_drewN ?_ _) | (with_reducible refine below_drew ?_) | (with_reducible refine below_ext ?_ ?_ _ _) | (with_reducible refine Below.setCell ?_ ?_ _) | (simp; done) | (simp; omega) | omega)))).code) HN1.out (by simp [Act.eval]) (by omega) (by first | omega | (simp; omega)) ?_; intro g3 cap3 w3 hob hoth hat hg3 hsz3; have HS2 := Lib.hid ((HS1.out.new (by (repeat' (first | (with_reducible exact Below.refl _ _) | (with_reducible assumption) | (with_reducible refine Below.alloc ?_ ?_ _) | (with_reducible refine below_drewN ?_ _) | (with_reducible refine below_drew ?_) | (with_reducible refine below_ext ?_ ?_ _ _) | (with_reducible refine Below.setCell ?_ ?_ _) | (simp; done) | (simp; omega) | omega)))).setCode hoth hob); obtain ⟨b9', c0, c1, c2, c3, c4, c5, c6, c7⟩ := NB8.kept hoth (show NB8 _ wr.heap.size oa ka ta na ha la sa da from ⟨by first | omega | (simp; omega), by go_simp, by go_simp, by go_simp, by go_simp, by go_simp, by go_simp, by go_simp, by go_simp⟩) (fun e => by have := HOC.out _ e; omega); clear hob hoth hat hg3 hsz3)
                | (go_at_call 35; ((with_reducible refine (HIN.out _).mono ?_); rintro e w1 ⟨rfl, hb1⟩; obtain ⟨osI, dI, rfl⟩ := ext_of_below hb1; clear hb1))
                | (at_builtin; refine append_elem isK_ok isE_cells rfl _ _ rfl rfl _ I rfl ((HS2.out.new (by (repeat' (first | (with_reducible exact Below.refl _ _) | (with_reducible assumption) | (with_reducible refine Below.alloc ?_ ?_ _) | (with_reducible refine below_drewN ?_ _) | (with_reducible refine below_drew ?_) | (with_reducible refine below_ext ?_ ?_ _ _) | (with_reducible refine Below.setCell ?_ ?_ _) | (simp; done) | (simp; omega) | omega)))).code) HN2.out (by simp [Act.eval]) (by omega) (by first | omega | (simp; omega)) ?_; intro g4 cap4 w4 hob hoth hat hg4 hsz4; have HS3 := Lib.hid ((HS2.out.new (by (repeat' (first | (with_reducible exact Below.refl _ _) | (with_reducible assumption) | (with_reducible refine Below.alloc ?_ ?_ _) | (with_reducible refine below_drewN ?_ _) | (with_reducible refine below_drew ?_) | (with_reducible refine below_ext ?_ ?_ _ _) | (with_reducible refine Below.setCell ?_ ?_ _) | (simp; done) | (simp; omega) | omega)))).setCode hoth hob); clear hob hoth hat hg4 hsz4))
              refine ⟨⟨k + 1, rfl, by omega, Lib.hid (by rw [HN.out]; exact HS3.out)⟩, by simp [intOf]; omega⟩
    · have hkl1 : ¬ (k : Int) < (len : Int) := by omega
      obtain rfl : k = len := by omega
      go_wp2
      go_ret
      exact ⟨_, rfl, HS.out.code, HBR.out⟩
end Go.Proofs.YtpgfgaloagdogaaDoor
namespace Go.Proofs.YtpgfgaloagdogaaDoor
open Go.RowKit Num Word Txt
attribute [local go_sem] setCell_drewN cell?_ext frozen?_ext shape?_ext setCell_ext lt_1' ne_1' en_1' le_1' lt_2' ne_2' en_2' le_2' lt_3' ne_3' en_3' le_3' lt_4' ne_4' en_4' le_4' lt_5' ne_5' en_5' le_5' lt_6' ne_6' en_6' le_6' lt_7' ne_7' en_7' le_7' lt_8' ne_8' en_8' le_8' lt_9' ne_9' en_9' le_9' lt_10' ne_10' en_10' le_10' lt_11' ne_11' en_11' le_11' lt_12' ne_12' en_12' le_12'

theorem weq98 (a b c d : Int) (w : World) : (Op.equalIn 9998 39 (.agg #[.int .u64 a, .int .u64 b]) (.agg #[.int .u64 c, .int .u64 d])).run Tryd.prog w = .ok (decide (a = c ∧ b = d)) w := by
  have u4 := Tryd.underlying37
  have a4 := Tryd.isAgg37
  have z4 := Tryd.sizeOf37
  have hS : Tryd.prog.underlying 39 = some (.struct (Tryd.prog.fieldsOf 39)) := by kernel_rfl
  have hp : Tryd.prog.stoodInHeld 39 = false := by kernel_rfl
  rw [show (9998 : Nat) = 9997 + 1 from rfl, run_equalIn_agg w 9997 39 _ _ hS hp]
  simp only [Program.fieldsOf, Tryd.underlying39]
  by_cases h : a = c
  · subst h
    by_cases h2 : b = d
    · subst h2
      rw [decide_eq_true (p := a = a ∧ b = b) ⟨rfl, rfl⟩]
      go_simp
    · rw [decide_eq_false (p := a = a ∧ b = d) (fun h => h2 h.2)]
      have q2 : (b == d) = false := beq_eq_false_iff_ne.2 h2
      go_simp
  · rw [decide_eq_false (p := a = c ∧ b = d) (fun h2 => h h2.1)]
    have q2 : (a == c) = false := beq_eq_false_iff_ne.2 h
    go_simp
theorem deq99 (n1 n2 : Bool) (a b s c d s2 : Int) (w : World) : (Op.equalIn 9999 41 (.agg #[.bool n1, .int .u64 a, .int .u64 b, .int .i64 s]) (.agg #[.bool n2, .int .u64 c, .int .u64 d, .int .i64 s2])).run Tryd.prog w = .ok (decide (n1 = n2 ∧ (a = c ∧ b = d) ∧ s = s2)) w := by
  have u1 := Tryd.underlying4
  have a1 := Tryd.isAgg4
  have z1 := Tryd.sizeOf4
  have u2 := Tryd.underlying3
  have a2 := Tryd.isAgg3
  have z2 := Tryd.sizeOf3
  have a3 := Tryd.isAgg39
  have z3 := Tryd.sizeOf39
  have e := weq98 a b c d
  have hS : Tryd.prog.underlying 41 = some (.struct (Tryd.prog.fieldsOf 41)) := by kernel_rfl
  have hp : Tryd.prog.stoodInHeld 41 = false := by kernel_rfl
  rw [show (9999 : Nat) = 9998 + 1 from rfl, run_equalIn_agg w 9998 41 _ _ hS hp]
  simp only [Program.fieldsOf, Tryd.underlying41]
  by_cases h : n1 = n2
  · subst h
    by_cases h2 : a = c ∧ b = d
    · rw [decide_eq_true h2] at e
      by_cases h3 : s = s2
      · subst h3
        rw [decide_eq_true (p := n1 = n1 ∧ (a = c ∧ b = d) ∧ s = s) ⟨rfl, h2, rfl⟩]
        clear h2
        cases n1 <;> go_simp
      · rw [decide_eq_false (p := n1 = n1 ∧ (a = c ∧ b = d) ∧ s = s2) (fun h => h3 h.2.2)]
        have q2 : (s == s2) = false := beq_eq_false_iff_ne.2 h3
        clear h2
        cases n1 <;> go_simp
    · rw [decide_eq_false h2] at e
      rw [decide_eq_false (p := n1 = n1 ∧ (a = c ∧ b = d) ∧ s = s2) (fun h => h2 h.2.1)]
      clear h2
      cases n1 <;> go_simp
  · rw [decide_eq_false (p := n1 = n2 ∧ (a = c ∧ b = d) ∧ s = s2) (fun h2 => h h2.1)]
    cases n1 <;> cases n2 <;> first | exact absurd rfl h | go_simp
theorem codbytes_inj {s t : ByteArray} (h : s.toList = t.toList) : s = t := by
  rw [ByteArray.toList_eq, ByteArray.toList_eq] at h
  obtain ⟨⟨a⟩⟩ := s
  obtain ⟨⟨b⟩⟩ := t
  simp only at h
  subst h
  rfl
/-- are two instructions one? -/
def insB (x y : InsD) : Bool := decide (x.op = y.op ∧ x.a = y.a ∧ x.t = y.t ∧ (x.neg = y.neg ∧ (x.h = y.h ∧ x.l = y.l) ∧ x.s = y.s) ∧ x.day = y.day)
theorem insB_iff (x y : InsD) : insB x y = true ↔ x = y := by
  obtain ⟨op, a, t, neg, h, l, s, day⟩ := x
  obtain ⟨op', a', t', neg', h', l', s', day'⟩ := y
  unfold insB
  rw [decide_eq_true_iff]
  simp only [InsD.mk.injEq, and_assoc]
theorem inseq_any (x y : InsD) (w : World) : (Op.equalIn 10000 43 (InV x) (InV y)).run Tryd.prog w = .ok (insB x y) w := by
  obtain ⟨op, a, t, neg, h, l, s, day⟩ := x
  obtain ⟨op', a', t', neg', h', l', s', day'⟩ := y
  have u1 := Tryd.underlying9
  have a1 := Tryd.isAgg9
  have z1 := Tryd.sizeOf9
  have u2 := Tryd.underlying3
  have a2 := Tryd.isAgg3
  have z2 := Tryd.sizeOf3
  have a3 := Tryd.isAgg41
  have z3 := Tryd.sizeOf41
  have e := deq99 neg neg' h l s h' l' s'
  have hS : Tryd.prog.underlying 43 = some (.struct (Tryd.prog.fieldsOf 43)) := by kernel_rfl
  have hp : Tryd.prog.stoodInHeld 43 = false := by kernel_rfl
  unfold insB
  rw [show (10000 : Nat) = 9999 + 1 from rfl, run_equalIn_agg w 9999 43 _ _ hS hp]
  simp only [Program.fieldsOf, Tryd.underlying43]
  by_cases h1 : op = op'
  · subst h1
    by_cases h2 : a = a'
    · subst h2
      by_cases h3 : t = t'
      · subst h3
        by_cases h4 : neg = neg' ∧ (h = h' ∧ l = l') ∧ s = s'
        · rw [decide_eq_true h4] at e
          by_cases h5 : day = day'
          · subst h5
            rw [decide_eq_true (p := op = op ∧ a = a ∧ t = t ∧ (neg = neg' ∧ (h = h' ∧ l = l') ∧ s = s') ∧ day = day) ⟨rfl, rfl, rfl, h4, rfl⟩]
            clear h4
            go_simp
          · rw [decide_eq_false (p := op = op ∧ a = a ∧ t = t ∧ (neg = neg' ∧ (h = h' ∧ l = l') ∧ s = s') ∧ day = day') (fun h => h5 h.2.2.2.2)]
            have q : (day == day') = false := beq_eq_false_iff_ne.2 h5
            clear h4
            go_simp
        · rw [decide_eq_false h4] at e
          rw [decide_eq_false (p := op = op ∧ a = a ∧ t = t ∧ (neg = neg' ∧ (h = h' ∧ l = l') ∧ s = s') ∧ day = day') (fun h => h4 h.2.2.2.1)]
          clear h4
          go_simp
      · rw [decide_eq_false (p := op = op ∧ a = a ∧ t = t' ∧ (neg = neg' ∧ (h = h' ∧ l = l') ∧ s = s') ∧ day = day') (fun h => h3 h.2.2.1)]
        have q : ¬ t.toList = t'.toList := fun e => h3 (codbytes_inj e)
        clear e
        go_simp
    · rw [decide_eq_false (p := op = op ∧ a = a' ∧ t = t' ∧ (neg = neg' ∧ (h = h' ∧ l = l') ∧ s = s') ∧ day = day') (fun h => h2 h.2.1)]
      have q : (a == a') = false := beq_eq_false_iff_ne.2 h2
      go_simp
  · rw [decide_eq_false (p := op = op' ∧ a = a' ∧ t = t' ∧ (neg = neg' ∧ (h = h' ∧ l = l') ∧ s = s') ∧ day = day') (fun h => h1 h.1)]
    have q : (op == op') = false := beq_eq_false_iff_ne.2 h1
    go_simp
/-- are two lists one? -/
def sameB : List InsD → List InsD → Bool
  | [], [] => true
  | x :: l, y :: m => insB x y && sameB l m
  | _, _ => false
theorem sameB_iff : ∀ (l m : List InsD), sameB l m = true ↔ l = m
  | [], [] => by simp [sameB]
  | [], _ :: _ => by simp [sameB]
  | _ :: _, [] => by simp [sameB]
  | x :: l, y :: m => by
    unfold sameB
    rw [Bool.and_eq_true, insB_iff, sameB_iff l m]
    simp
theorem sameB_len : ∀ {l m : List InsD}, sameB l m = true → l.length = m.length := fun h => by rw [(sameB_iff _ _).1 h]
set_option maxRecDepth 100000 in
set_option maxHeartbeats 4000000 in
theorem isame_any {l m : List InsD} {n1 n2 : Nat} {w : World} {v x : Value} (hv : RL 8 insE n1 w v l) (hx : RL 8 insE n2 w x m) (hl : l.length ≤ 1000000) :
    Calls Tryd.prog 11 #[v, x] w fun e w' => e = .returned (.bool (sameB l m)) ∧ Below w.heap.size w w' := by
  obtain ⟨p, c, rfl, hp⟩ := hv
  obtain ⟨q, d, rfl, hq⟩ := hx
  obtain ⟨R, hR⟩ : ∃ R, R = sameB l m := ⟨_, rfl⟩
  have HR := Lib.hid hR
  obtain ⟨ll, hll⟩ : ∃ ll, ll = l.length := ⟨_, rfl⟩
  obtain ⟨lm, hlm⟩ : ∃ lm, lm = m.length := ⟨_, rfl⟩
  have HP := Lib.hid hp
  have HQ := Lib.hid hq
  have HLL := Lib.hid hll
  have HLM := Lib.hid hlm
  rw [← hR]
  rw [← hll] at hl ⊢
  rw [← hlm]
  have hmg : Tryd.prog.eqGuardType Tryd.prog.depth 43 = false := by kernel_rfl
  by_cases hne : ll = lm
  · have hRd : sameB (l.drop 0) (m.drop 0) = R := by rw [List.drop_zero, List.drop_zero]; exact hR.symm
    have HR0 := Lib.hid hRd
    clear hp hq hll hlm hR hRd
    subst hne
    go_enter Tryd.func11, Tryd.ntmps11
    go_wp2
    go_loopw [5] (fun z wr => ∃ k : Nat, z = .int .i64 k ∧ k ≤ ll ∧ Hid (sameB (l.drop k) (m.drop k) = R) ∧ (∃ d, wr = w.drewN d)) (fun z _ => ll - (intOf z).toNat)
    case atStart => exact ⟨0, rfl, Nat.zero_le _, HR0, 0, rfl⟩
    case round =>
      obtain ⟨k, rfl, hk, hrn, dd, rfl⟩ := hrel
      clear HR0
      by_cases hkl : k < ll
      · have hkl1 : (k : Int) < (ll : Int) := by omega
        have hk1 : k < l.length := by rw [← HLL.out]; exact hkl
        have hk2 : k < m.length := by rw [← HLM.out]; exact hkl
        obtain ⟨g1, o1, rfl, hg1, hc1⟩ := HP.out (by omega)
        obtain ⟨g2, o2, rfl, hg2, hc2⟩ := HQ.out (by omega)
        obtain ⟨op, a, t, neg, hh, lo', s, day, e1, x0, x1, x2, x3, x4, x5, x6, x7⟩ := ins_cells hc1 k hk1
        obtain ⟨op', a', t', neg', hh', lo'', s', day', e2, y0, y1, y2, y3, y4, y5, y6, y7⟩ := ins_cells hc2 k hk2
        have HRN := Lib.hid (show (insB ⟨op, a, t, neg, hh, lo', s, day⟩ ⟨op', a', t', neg', hh', lo'', s', day'⟩ && sameB (l.drop (k + 1)) (m.drop (k + 1))) = R by
          rw [← hrn.out, List.drop_eq_getElem_cons hk1, List.drop_eq_getElem_cons hk2, e1, e2]; rfl)
        have HE : ∀ w, (Op.equalIn 10000 43 (.agg #[.int .i64 op, .int .i64 a, .string t, .bool neg, .int .u64 hh, .int .u64 lo', .int .i64 s, .int .i64 day]) (.agg #[.int .i64 op', .int .i64 a', .string t', .bool neg', .int .u64 hh', .int .u64 lo'', .int .i64 s', .int .i64 day'])).run Tryd.prog w = .ok (insB ⟨op, a, t, neg, hh, lo', s, day⟩ ⟨op', a', t', neg', hh', lo'', s', day'⟩) w := fun w => inseq_any ⟨op, a, t, neg, hh, lo', s, day⟩ ⟨op', a', t', neg', hh', lo'', s', day'⟩ w
        clear hc1 hc2 e1 e2
        generalize insB ⟨op, a, t, neg, hh, lo', s, day⟩ ⟨op', a', t', neg', hh', lo'', s', day'⟩ = bb at HE HRN
        cases bb with
        | true =>
          have HRT := Lib.hid (show sameB (l.drop (k + 1)) (m.drop (k + 1)) = R by rw [← HRN.out]; rfl)
          go_wp2
          go_region
          all_goals
            go_wp2
            exact ⟨⟨k + 1, rfl, by omega, HRT, _, rfl⟩, by simp [intOf]; omega⟩
        | false =>
          have HRT := Lib.hid (show R = false by rw [← HRN.out]; rfl)
          go_wp2
          go_region
          all_goals
            go_wp2
            go_ret
            exact ⟨by rw [HRT.out]; rfl, by (repeat' (first | (with_reducible exact Below.refl _ _) | (with_reducible assumption) | (with_reducible refine Below.alloc ?_ ?_ _) | (with_reducible refine below_drewN ?_ _) | (with_reducible refine below_drew ?_) | (with_reducible refine below_ext ?_ ?_ _ _) | (with_reducible refine Below.setCell ?_ ?_ _) | (simp; done) | (simp; omega) | omega))⟩
      · have hkl1 : ¬ (k : Int) < (ll : Int) := by omega
        have HRT := Lib.hid (show R = true by rw [← hrn.out, List.drop_eq_nil_of_le (by rw [← HLL.out]; omega), List.drop_eq_nil_of_le (by rw [← HLM.out]; omega)]; rfl)
        go_wp2
        go_ret
        exact ⟨by rw [HRT.out]; rfl, by (repeat' (first | (with_reducible exact Below.refl _ _) | (with_reducible assumption) | (with_reducible refine Below.alloc ?_ ?_ _) | (with_reducible refine below_drewN ?_ _) | (with_reducible refine below_drew ?_) | (with_reducible refine below_ext ?_ ?_ _ _) | (with_reducible refine Below.setCell ?_ ?_ _) | (simp; done) | (simp; omega) | omega))⟩
  · have hnI : ((ll : Int) != (lm : Int)) = true := bne_iff_ne.2 (by omega)
    have hRf : R = false := by
      cases h : R with
      | false => rfl
      | true => exact absurd (by rw [hll, hlm]; exact sameB_len (by rw [← hR, h])) hne
    have HRT := Lib.hid hRf
    clear hp hq hll hlm hR hRf
    have hne2 : ¬ (ll : Int) = (lm : Int) := by omega
    go_enter Tryd.func11, Tryd.ntmps11
    go_wp2
    go_ret
    exact ⟨by rw [HRT.out]; rfl, by (repeat' (first | (with_reducible exact Below.refl _ _) | (with_reducible assumption) | (with_reducible refine Below.alloc ?_ ?_ _) | (with_reducible refine below_drewN ?_ _) | (with_reducible refine below_drew ?_) | (with_reducible refine below_ext ?_ ?_ _ _) | (with_reducible refine Below.setCell ?_ ?_ _) | (simp; done) | (simp; omega) | omega))⟩
end Go.Proofs.YtpgfgaloagdogaaDoor
namespace Go.Proofs.YtpgfgaloagdogaaDoor
open Go.RowKit Go.Maps Go.WideMaps Num Word Txt
attribute [local go_sem] setCell_drewN cell?_ext frozen?_ext shape?_ext setCell_ext lt_1' ne_1' en_1' le_1' lt_2' ne_2' en_2' le_2' lt_3' ne_3' en_3' le_3' lt_4' ne_4' en_4' le_4' lt_5' ne_5' en_5' le_5' lt_6' ne_6' en_6' le_6' lt_7' ne_7' en_7' le_7' lt_8' ne_8' en_8' le_8' lt_9' ne_9' en_9' le_9' lt_10' ne_10' en_10' le_10' lt_11' ne_11' en_11' le_11' lt_12' ne_12' en_12' le_12'

/-- the code of nodes in form -/
noncomputable def codL (l : List NdD) : List InsD := match stkP 0 l [] with
  | none => []
  | some q => ofF l q.2 l.length (l.length - 1) 0
/-- what a check that says yes tells of the places -/
theorem docE_zero {l : List NdD} {tests : Bool} (h : docE l tests = 0) : l.length ≤ 300 ∧ 0 < l.length ∧ ∃ q P, stkP 0 l [] = some ([q], P) := by
  unfold docE at h
  split at h
  · cases h
  · rename_i h300
    cases hs : stkP 0 l [] with
    | none => rw [hs] at h; cases h
    | some q =>
      rw [hs] at h
      unfold docS at h
      simp only at h
      split at h
      · cases h
      · rename_i h1
        obtain ⟨H, P⟩ := q
        simp only at h1
        have h2 : H.length = 1 := by omega
        match H, h2 with
        | [q], _ =>
          refine ⟨by omega, ?_, q, P, rfl⟩
          cases l with
          | nil => cases hs
          | cons x r => simp
theorem ol_rl {α : Type} {K : El} {enc : α → List Value} (hc : Cells K enc) {B : Nat} {w : World} {v : Value} {l : List α} (h : OL K enc B w v l) : RL K.size enc w.heap.size w v l := by
  obtain ⟨q, c, rfl, hq, -⟩ := OL.form h
  refine ⟨q, c, rfl, fun h0 => ?_⟩
  obtain ⟨g, rfl, -, hg⟩ := hq h0
  exact ⟨g, 0, rfl, hg, fun j hj i u hu => by rw [Nat.zero_add]; exact OL.cell hc h j i hj hu⟩
/-- how Compile ends -/
def CmQ (E : Int) (C : List InsD) (w : World) (e : Ending) (w' : World) : Prop := Below w.heap.size w w' ∧ ∃ v, e = .returned (.tuple #[v, .int .i64 E]) ∧ RL 8 insE w'.heap.size w' v (if E = 0 then C else [])
section
variable {l : List NdD} {tests : Bool} {n : Nat} {w : World} {v : Value}
set_option maxRecDepth 100000 in
set_option maxHeartbeats 4000000 in
theorem ccompile_any (hv : RL 8 ndE n w v l) (hn : n ≤ w.heap.size) (hwf : ∀ x ∈ l, x.Wf) (hsm : ∀ x ∈ l, x.t.size ≤ 1048576) (hcap : ∀ p k c, v = .slice p k c → k ≤ c) (hT : Tens w) (hU : Tabs w) :
    Calls Tryd.prog 10 #[v, .bool tests] w fun e w' => CmQ (docE l tests) (codL l) w e w' := by
  have HCH := Lib.hid (check_any l tests n w v hv hn hwf hT hU)
  rw [← doc_chk] at HCH
  obtain ⟨E, hE⟩ : ∃ E, E = docE l tests := ⟨_, rfl⟩
  rw [← hE] at HCH ⊢
  by_cases h0 : E = 0
  · obtain ⟨h300, hpos, q, P, hs⟩ := docE_zero (hE.symm.trans h0)
    obtain ⟨L, hTr, hch⟩ := tree_of hs
    have hcl : codL l = (segC l (sepS l P l.length) l.length 0 ([], [])).1 := by
      rw [code_whole hTr hch]; unfold codL; rw [hs]
    have HCP := Lib.hid (fun w' (hb : Below w.heap.size w w') => codcompile_any hs n w' v (hv.keep (hb.mono hn)) (Nat.le_trans hn hb.size) h300 hwf hsm hcap)
    rw [← hcl] at HCP
    clear hE hs hTr hch hcl
    subst h0
    generalize codL l = C at HCP ⊢
    obtain ⟨p, c, rfl, -⟩ := hv
    go_enter Tryd.func10, Tryd.ntmps10
    go_wp2_with (first
      | (go_at_call 19; (with_reducible refine (HCH.out).mono ?_); rintro e w1 ⟨rfl, hb1⟩)
      | (go_at_call 20; (with_reducible refine (HCP.out _ hb1).mono ?_); rintro e w2 ⟨v2, rfl, hol, hb2⟩))
    go_ret2
    exact ⟨hb1.trans (hb2.mono hb1.size), v2, rfl, ol_rl isE_cells hol⟩
  · have HRL := Lib.hid (fun w' => show RL 8 insE w'.heap.size w' (.slice none 0 0) (if E = 0 then codL l else []) by rw [if_neg h0]; exact RL.nil 8 insE _ w')
    have hne : (E != 0) = true := bne_iff_ne.2 h0
    generalize codL l = C at HRL ⊢
    obtain ⟨p, c, rfl, -⟩ := hv
    clear hE
    go_enter Tryd.func10, Tryd.ntmps10
    go_wp2_with (first
      | (go_at_call 19; (with_reducible refine (HCH.out).mono ?_); rintro e w1 ⟨rfl, hb1⟩))
    go_ret2
    exact ⟨hb1, _, rfl, HRL.out _⟩
set_option maxRecDepth 100000 in
set_option maxHeartbeats 4000000 in
theorem doccode_any (hv : RL 8 ndE n w v l) (hn : n ≤ w.heap.size) (h300 : l.length ≤ 300) (hpos : 0 < l.length) {q : Nat} {P : List (List Nat)} (hs : stkP 0 l [] = some ([q], P)) :
    Calls Tryd.prog 18 #[v] w fun e w' => ∃ v', e = .returned v' ∧ RL 8 insE w'.heap.size w' v' (codL l) ∧ Below w.heap.size w w' := by
  obtain ⟨L, hTr, hch⟩ := tree_of hs
  have h1 : L.getD q 0 = 0 := hch.1
  have h2 : q + 1 = l.length := hch.2.2
  have HPL := Lib.hid (rplaces_any l n w v hv hn (by omega) hpos hs)
  have hcl : codL l = ofF l P l.length q 0 := by unfold codL; rw [hs, show l.length - 1 = q by omega]
  have HOF := Lib.hid (fun w' (hb : Below w.heap.size w w') x (hx : WPl w' x P) => codof_any hTr h300 (hv.keep (hb.mono hn)) (Nat.le_trans hn hb.size) hx l.length q 0 (by omega) (by omega) (by rw [h1]; omega) w' (Below.refl _ _))
  rw [hcl]
  generalize ofF l P l.length q 0 = C at HOF ⊢
  obtain ⟨len, hlen⟩ : ∃ len, len = l.length := ⟨_, rfl⟩
  have h00 : ((0 : Nat) : Int) = 0 := rfl
  rw [h00] at HOF
  have E1 : (len : Int) - 1 = (q : Int) := by omega
  have hqb : q ≤ 300 := by omega
  obtain ⟨p, c, rfl, -⟩ := hv
  rw [← hlen] at HPL HOF ⊢
  clear hs hTr hch hcl h1 h2 h300 hpos hlen
  go_enter Tryd.func18, Tryd.ntmps18
  go_wp2_with (first
    | (go_at_call 31; (with_reducible refine (HPL.out).mono ?_); rintro e w1 ⟨⟨x, rfl, hx⟩, hb1⟩; have HX := Lib.hid (HOF.out _ hb1 _ hx); have HB1 := Lib.hid hb1; clear hx hb1)
    | (go_at_call 30; (with_reducible refine (HX.out).mono ?_); rintro e w2 ⟨v2, rfl, hol, hb2⟩))
  go_ret
  exact ⟨_, rfl, ol_rl isE_cells hol, HB1.out.trans (hb2.mono HB1.out.size)⟩
set_option maxRecDepth 100000 in
set_option maxHeartbeats 4000000 in
theorem doccompile_any (hv : RL 8 ndE n w v l) (hn : n ≤ w.heap.size) (hwf : ∀ x ∈ l, x.Wf) (hsm : ∀ x ∈ l, x.t.size ≤ 1048576) :
    Calls Tryd.prog 9 #[v, .bool tests] w fun e w' => CmQ (docE l tests) (codL l) w e w' := by
  have HCH := Lib.hid (dcheck_any l tests n w v hv hn hwf hsm)
  obtain ⟨E, hE⟩ : ∃ E, E = docE l tests := ⟨_, rfl⟩
  rw [← hE] at HCH ⊢
  by_cases h0 : E = 0
  · obtain ⟨h300, hpos, q, P, hs⟩ := docE_zero (hE.symm.trans h0)
    have HCP := Lib.hid (fun w' (hb : Below w.heap.size w w') => doccode_any (hv.keep (hb.mono hn)) (Nat.le_trans hn hb.size) h300 hpos hs)
    clear hE hs
    subst h0
    generalize codL l = C at HCP ⊢
    obtain ⟨p, c, rfl, -⟩ := hv
    go_enter Tryd.func9, Tryd.ntmps9
    go_wp2_with (first
      | (go_at_call 15; (with_reducible refine (HCH.out).mono ?_); rintro e w1 ⟨rfl, hb1⟩)
      | (go_at_call 18; (with_reducible refine (HCP.out _ hb1).mono ?_); rintro e w2 ⟨v2, rfl, hol, hb2⟩))
    go_ret2
    exact ⟨hb1.trans (hb2.mono hb1.size), v2, rfl, hol⟩
  · have HRL := Lib.hid (fun w' => show RL 8 insE w'.heap.size w' (.slice none 0 0) (if E = 0 then codL l else []) by rw [if_neg h0]; exact RL.nil 8 insE _ w')
    have hne : (E != 0) = true := bne_iff_ne.2 h0
    generalize codL l = C at HRL ⊢
    obtain ⟨p, c, rfl, -⟩ := hv
    clear hE
    go_enter Tryd.func9, Tryd.ntmps9
    go_wp2_with (first
      | (go_at_call 15; (with_reducible refine (HCH.out).mono ?_); rintro e w1 ⟨rfl, hb1⟩))
    go_ret2
    exact ⟨hb1, _, rfl, HRL.out _⟩
end
end Go.Proofs.YtpgfgaloagdogaaDoor
namespace Go.Proofs.YtpgfgaloagdogaaDoor
open Go.ChangeShapes Go.WideShapes Go.ChangeAt Go.RowKit Go.Joins Go.Deep

theorem icInt : Tryd.prog.cellsOf 3 = 1 := by kernel_rfl
theorem icBool : Tryd.prog.cellsOf 4 = 1 := by kernel_rfl
theorem icWord : Tryd.prog.cellsOf 37 = 1 := by kernel_rfl
theorem icWide : Tryd.prog.cellsOf 39 = 2 := by kernel_rfl
theorem icDec : Tryd.prog.cellsOf 41 = 4 := by kernel_rfl
theorem icStr : Tryd.prog.cellsOf 9 = 1 := by kernel_rfl
theorem icIns : Tryd.prog.cellsOf 43 = 8 := by kernel_rfl
theorem list8 {cs : List Value} (h : cs.length = 8) : ∃ x0 x1 x2 x3 x4 x5 x6 x7, cs = [x0, x1, x2, x3, x4, x5, x6, x7] := by
  match cs, h with
  | [x0, x1, x2, x3, x4, x5, x6, x7], _ => exact ⟨_, _, _, _, _, _, _, _, rfl⟩
theorem ilist_of {α : Type} (P : Nat → α → Prop) : ∀ n, (∀ i, i < n → ∃ v, P i v) → ∃ l : List α, l.length = n ∧ ∀ i (hi : i < l.length), P i l[i]
  | 0, _ => ⟨[], rfl, fun i hi => absurd hi (Nat.not_lt_zero _)⟩
  | n + 1, h => by
    obtain ⟨v, hv⟩ := h n (by omega)
    obtain ⟨l, hl, hp⟩ := ilist_of P n fun i hi => h i (by omega)
    refine ⟨l ++ [v], by simp [hl], fun i hi => ?_⟩
    rw [List.length_append, List.length_singleton] at hi
    by_cases he : i < l.length
    · rw [List.getElem_append_left he]; exact hp i he
    · obtain rfl : i = n := by omega
      rw [List.getElem_append_right (by omega)]
      simpa using hv
section
variable {H : Type} {enc : TypeId × Value → H} {P : Program} {w : World} {base : Nat} {spare : Nat → Bool} {held : Bool}
theorem trod_struct5 {t : TypeId} {f0 f1 f2 f3 f4 : Field} {fuel : Nat} {cs : List Value} {x : DataW H × List MemPlace} (ht : P.underlying t = some (.struct #[f0, f1, f2, f3, f4])) (h : DataW.trod enc P w base spare held fuel t cs = some x) :
    ∃ y0 y1 y2 y3 y4 n, fuel = n + 1 ∧ x.1 = .agg [y0.1, y1.1, y2.1, y3.1, y4.1] ∧ cs.length = P.cellsOf t ∧ DataW.trod enc P w base spare held n f0.type ((cs.drop f0.offset).take (P.cellsOf f0.type)) = some y0 ∧
      DataW.trod enc P w base spare held n f1.type ((cs.drop f1.offset).take (P.cellsOf f1.type)) = some y1 ∧ DataW.trod enc P w base spare held n f2.type ((cs.drop f2.offset).take (P.cellsOf f2.type)) = some y2 ∧
      DataW.trod enc P w base spare held n f3.type ((cs.drop f3.offset).take (P.cellsOf f3.type)) = some y3 ∧ DataW.trod enc P w base spare held n f4.type ((cs.drop f4.offset).take (P.cellsOf f4.type)) = some y4 := by
  obtain ⟨xs, n, hn, rfl, hl, hlen, hf⟩ := DataW.trod_struct ht h
  match xs, hlen with
  | [y0, y1, y2, y3, y4], _ => exact ⟨y0, y1, y2, y3, y4, n, hn, rfl, hl, by simpa using hf 0 f0 rfl, by simpa using hf 1 f1 rfl, by simpa using hf 2 f2 rfl, by simpa using hf 3 f3 rfl, by simpa using hf 4 f4 rfl⟩
end
section
variable {H : Type} {enc : TypeId × Value → H} {w : World} {spare : Nat → Bool} {held : Bool}
set_option maxRecDepth 100000 in
theorem ins_of_trod {fuel : Nat} {cs : List Value} {x : DataW H × List MemPlace} (h : DataW.trod enc Tryd.prog w 0 spare held fuel 43 cs = some x) : ∃ v : InsD, cs = insE v := by
  obtain ⟨y0, y1, y2, y3, y4, n, rfl, hx, hl, g0, g1, g2, g3, g4⟩ := trod_struct5 Tryd.underlying43 h
  rw [icIns] at hl
  obtain ⟨x0, x1, x2, x3, x4, x5, x6, x7, rfl⟩ := list8 hl
  simp only [icInt, icDec, icStr] at g0 g1 g2 g3 g4
  obtain ⟨op, e0, -, -⟩ := DataW.trod_int Tryd.underlying3 g0
  obtain ⟨a, e1, -, -⟩ := DataW.trod_int Tryd.underlying3 g1
  obtain ⟨t, e2, -, -⟩ := DataW.trod_string Tryd.underlying9 g2
  obtain ⟨z0, z1, z2, m, -, -, d0, d1, d2⟩ := trod_struct3 Tryd.underlying41 g3
  simp only [icBool, icWide, icInt] at d0 d1 d2
  obtain ⟨u0, u1, m2, -, -, q0, q1⟩ := trod_struct2 Tryd.underlying39 d1
  simp only [icWord] at q0 q1
  obtain ⟨neg, e3, -⟩ := DataW.trod_bool Tryd.underlying4 d0
  obtain ⟨hh, e4, -, -⟩ := DataW.trod_int Tryd.underlying37 q0
  obtain ⟨ll, e5, -, -⟩ := DataW.trod_int Tryd.underlying37 q1
  obtain ⟨s, e6, -, -⟩ := DataW.trod_int Tryd.underlying3 d2
  obtain ⟨day, e7, -, -⟩ := DataW.trod_int Tryd.underlying3 g4
  simp at e0 e1 e2 e3 e4 e5 e6 e7
  subst e0 e1 e2 e3 e4 e5 e6 e7
  exact ⟨⟨op, a, t, neg, hh, ll, s, day⟩, rfl⟩
set_option maxRecDepth 100000 in
theorem inss_of {r : Reach} {b0 : Nat} {x : Value} {d : DataW H} {p : List MemPlace} (hv : Value.okWide Tryd.prog w r b0 24 x) (h : DataW.Trod enc Tryd.prog w 0 spare held 24 x d p) : ∃ L, RL 8 insE w.heap.size w x L := by
  obtain ⟨q, n, c, rfl⟩ := okWide_slice Tryd.underlying24 hv
  obtain ⟨fuel, hf⟩ := h
  rcases open_slice Tryd.underlying24 hf with ⟨hcs0, -⟩ | ⟨ad, len, cap, m, n', D, Pl, hcs0, -, hl, -, hm, -, hel⟩
  · simp [Value.cells] at hcs0
    obtain ⟨rfl, rfl, rfl⟩ := hcs0
    exact ⟨[], RL.nil _ _ _ _⟩
  · simp [Value.cells] at hcs0
    obtain ⟨rfl, rfl, rfl⟩ := hcs0
    have hlm : n ≤ m := by rw [hm]; split <;> omega
    have hget : ∀ i, i < n → ∃ v : InsD, (ad.add (i * 8)).spot = none ∧ ∀ j, j < 8 → w.cell? ((ad.add (i * 8)).add j) = (insE v)[j]? := by
      intro i hi
      obtain ⟨cs', hc', ht'⟩ := hel i (by omega)
      rw [icIns] at hc'
      obtain ⟨_, hc8, hcell⟩ := World.cells?_some hc'
      obtain ⟨v, rfl⟩ := ins_of_trod ht'
      have hz0 : w.cell? (ad.add (i * 8)) = some (.int .i64 v.op) := by have := hcell 0 (by omega); simpa [Addr.add, insE] using this
      exact ⟨v, World.cell?_spot hz0, hcell⟩
    obtain ⟨l, hll, hp⟩ := ilist_of _ n hget
    refine ⟨l, some ad, c, by rw [hll], fun h0 => ?_⟩
    obtain ⟨hsp, hc0⟩ := hp 0 h0
    have ha : ad.add (0 * 8) = ad := by simp [Addr.add]
    rw [ha] at hc0 hsp
    have h00 := hc0 0 (by omega)
    obtain ⟨g, o, sp⟩ := ad
    simp only at hsp
    subst hsp
    have hadd : ∀ i j, ((⟨g, o, none⟩ : Addr).add (i * 8)).add j = ⟨g, o + i * 8 + j, none⟩ := by
      intro i j
      by_cases hi0 : i = 0
      · subst hi0
        by_cases hj0 : j = 0
        · subst hj0; rfl
        · simp [Addr.add, hj0]
      · have hi8 : ¬ i * 8 = 0 := by omega
        by_cases hj0 : j = 0
        · subst hj0; simp [Addr.add, hi8]
        · simp [Addr.add, hi8, hj0]
    refine ⟨g, o, rfl, World.block_lt_of_cell? w ⟨g, o, none⟩ (u := .int .i64 l[0].op) (by simpa [Addr.add, insE] using h00), fun j hj i u hu => ?_⟩
    have hi8 : i < 8 := by
      have := (List.getElem?_eq_some_iff.1 hu).1
      simpa [insE] using this
    rw [← hadd, (hp j hj).2 i hi8]
    exact hu
end
theorem iown : ownKnob Tryd.prog.godebug = none := by kernel_rfl
theorem ilaidOut : laidOutB Tryd.prog = true := by kernel_rfl
section
variable {H : Type} {enc : TypeId × Value → H} {P : Program} {w : World}
/-- arguments read again where nothing that they read has turned -/
theorem gtrodAll_stays {W W' : World} {sp' : Nat → Bool} (hl : laidOutB P = true) : ∀ {ts : List TypeId} {vs : List Value} {ds : List (DataW H)} {ps : List MemPlace}, DataW.TrodAll enc P W 0 (fun _ => true) true ts vs ds ps →
    (∀ t ∈ ts, P.readableRec t = true ∧ t < P.types.size) → (∀ p ∈ ps, W.sameAt W' p) → (∀ p ∈ ps, sp' p.block = true) → DataW.TrodAll enc P W' 0 sp' true ts vs ds ps
  | [], [], [], _, h, _, _, _ => h
  | [], [], _ :: _, _, h, _, _, _ => h.elim
  | [], _ :: _, _, _, h, _, _, _ => h.elim
  | _ :: _, [], _, _, h, _, _, _ => h.elim
  | _ :: _, _ :: _, [], _, h, _, _, _ => h.elim
  | t :: ts, v :: vs, d :: ds, ps, h, hr, hs, hp => by
    obtain ⟨p, q, h1, h2, rfl⟩ := h
    exact ⟨p, q, WideElems.Trod_stays hl (hr t (by simp)).1 (hr t (by simp)).2 h1 (fun x hx => hs x (by simp [hx])) (fun x hx => hp x (by simp [hx])),
      gtrodAll_stays hl h2 (fun u hu => hr u (by simp [hu])) (fun x hx => hs x (by simp [hx])) (fun x hx => hp x (by simp [hx])), rfl⟩
/-- the row's last step where nothing below the first new block has turned, and the arguments read as they did -/
theorem gpost_keep {f : Func} {s : ChangeSpec} {apart fresh handsOn again : Bool} {A B : World} {args : Array Value} {v : Value} {ds : List (DataW H)} {ps : List MemPlace}
    (hl : laidOutB P = true) (hts : ∀ t ∈ f.params.toList, P.readableRec t = true ∧ t < P.types.size) (hvars : s.vars = [])
    (hA : DataW.Whole enc P f.params.toList s.vars apart A args.toList ds [] ps)
    (hr : ∀ (b : Nat) (sp : Nat → Bool) (hd : Bool), DataW.TrodAll enc P B b sp hd f.resultTypes.toList (v.resultList f.resultTypes.size) (s.fn H ds).results [])
    (hargs : (s.fn H ds).args = ds) (hvs : (s.fn H ds).vars = []) (hb : Below A.heap.size A B)
    (ho : ∀ (j : Nat) (t : TypeId) (r : Value), f.resultTypes[j]? = some t → (v.resultList f.resultTypes.size)[j]? = some r → Value.okWide P B .any 0 t r) :
    s.post enc P f apart fresh handsOn again A args v B := by
  have h1 : ∀ p ∈ ps, p.block < A.heap.size := fun p h => hA.lt p h
  have h2 : ∀ p ∈ ps, (fun b => decide (b < A.heap.size)) p.block = true := fun p h => by simpa using h1 p h
  obtain ⟨p, q, hT, hV, hpq, hz, hn⟩ := hA
  have hq : q = [] := by rw [hvars] at hV; exact hV
  subst hq
  simp only [List.append_nil] at hpq
  subst hpq
  have ha : ∀ sp : Nat → Bool, (∀ x ∈ ps, sp x.block = true) → DataW.TrodAll enc P B 0 sp true f.params.toList args.toList (s.fn H (ds ++ [])).args ps := fun sp hsp => by
    rw [List.append_nil, hargs]
    exact gtrodAll_stays hl hT hts (fun x hx => hb.same (h1 x hx)) hsp
  have hv : ∀ sp : Nat → Bool, DataW.TrodVars enc P B sp s.vars (s.fn H (ds ++ [])).vars [] := fun sp => by
    rw [List.append_nil, hvs, hvars]; exact rfl
  have hr' : ∀ (b : Nat) (sp : Nat → Bool) (hd : Bool), DataW.TrodAll enc P B b sp hd f.resultTypes.toList (v.resultList f.resultTypes.size) (s.fn H (ds ++ [])).results [] := fun b sp hd => by
    rw [List.append_nil]; exact hr b sp hd
  refine ⟨ds, [], ps, [], ps, [], ⟨ps, [], hT, hV, (List.append_nil _).symm, hz, hn⟩, hr' _ _ _, ha _ h2, hv _, World.keptBut_mono (fun x h => ⟨h, ?_⟩) (hb.frame (· ∈ ps)), fun _ => ?_⟩
  · exact .inr (.inl h)
  · refine ⟨ho, _, _, ([] ++ ps) ++ [], ⟨[] ++ ps, [], trodAll_append (ha _ (fun _ _ => rfl)) (hr' _ _ _), hv _, rfl, ?_, ?_⟩, ?_⟩
    · intro b off h
      have hin : MemPlace.cell b off ∈ ps := by simpa using h
      rw [hb.frozen (h1 _ hin)]
      exact hz b off hin
    · intro h
      have := hn h
      simpa using this
    · intro x h _
      simpa using h
end
end Go.Proofs.YtpgfgaloagdogaaDoor
namespace Go.Proofs.YtpgfgaloagdogaaDoor
open Go.ChangeShapes Go.WideShapes Go.ChangeAt Go.RowKit Go.Joins Go.Deep Num Word Txt

theorem icNode : Tryd.prog.cellsOf 45 = 8 := by kernel_rfl
theorem nbulk_mem {H : Type} {d : DataW H} : ∀ {l : List (DataW H)}, d ∈ l → Rows.uptoBulk d ≤ Rows.uptoBulkAll l
  | e :: r, h => by
    show _ ≤ Rows.uptoBulk e + Rows.uptoBulkAll r
    rcases List.mem_cons.1 h with rfl | h
    · omega
    · have := nbulk_mem h; omega
theorem nbulk_pos {H : Type} (d : DataW H) : 0 < Rows.uptoBulk d := by
  cases d with
  | lit l => cases l <;> simp [Rows.uptoBulk]
  | _ => simp [Rows.uptoBulk]
theorem nbulk_len {H : Type} : ∀ l : List (DataW H), l.length ≤ Rows.uptoBulkAll l
  | [] => Nat.le_refl _
  | e :: r => by
    show r.length + 1 ≤ Rows.uptoBulk e + Rows.uptoBulkAll r
    have := nbulk_len r; have := nbulk_pos e; omega
theorem nbulk_one {H : Type} {d : DataW H} {l : List (DataW H)} (hk : Rows.uptoSmall H l = true) (hm : d ∈ l) : Rows.uptoBulk d ≤ 1048576 := Nat.le_trans (nbulk_mem hm) (of_decide_eq_true hk)
theorem wf_i64N {n : Int} (h : (Lit.int .i64 n).wf = true) : -9223372036854775808 ≤ n ∧ n < 9223372036854775808 := by
  simp only [Lit.wf, decide_eq_true_eq, Bool.and_eq_true] at h
  have h1 : IntKind.i64.min = -9223372036854775808 := by decide
  have h2 : IntKind.i64.max = 9223372036854775807 := by decide
  rw [h1, h2] at h
  omega
theorem wf_u64N {n : Int} (h : (Lit.int .u64 n).wf = true) : 0 ≤ n ∧ n < 18446744073709551616 := by
  simp only [Lit.wf, decide_eq_true_eq, Bool.and_eq_true] at h
  have h1 : IntKind.u64.min = 0 := by decide
  have h2 : IntKind.u64.max = 18446744073709551615 := by decide
  rw [h1, h2] at h
  omega
section
variable {H : Type} {enc : TypeId × Value → H} {w : World} {spare : Nat → Bool} {held : Bool}
set_option maxRecDepth 100000 in
theorem node_of_trod {fuel : Nat} {cs : List Value} {x : DataW H × List MemPlace} (h : DataW.trod enc Tryd.prog w 0 spare held fuel 45 cs = some x) (hb : Rows.uptoBulk x.1 ≤ 1048576) : ∃ v : NdD, cs = ndE v ∧ v.Wf ∧ v.t.size ≤ 1048576 := by
  obtain ⟨y0, y1, y2, y3, y4, n, rfl, hx, hl, g0, g1, g2, g3, g4⟩ := trod_struct5 Tryd.underlying45 h
  rw [icNode] at hl
  obtain ⟨x0, x1, x2, x3, x4, x5, x6, x7, rfl⟩ := list8 hl
  simp only [icInt, icDec, icStr] at g0 g1 g2 g3 g4
  obtain ⟨op, e0, -, -⟩ := DataW.trod_int Tryd.underlying3 g0
  obtain ⟨a, e1, -, wa⟩ := DataW.trod_int Tryd.underlying3 g1
  obtain ⟨t, e2, hy2, wt⟩ := DataW.trod_string Tryd.underlying9 g2
  obtain ⟨z0, z1, z2, m, -, -, d0, d1, d2⟩ := trod_struct3 Tryd.underlying41 g3
  simp only [icBool, icWide, icInt] at d0 d1 d2
  obtain ⟨u0, u1, m2, -, -, q0, q1⟩ := trod_struct2 Tryd.underlying39 d1
  simp only [icWord] at q0 q1
  obtain ⟨neg, e3, -⟩ := DataW.trod_bool Tryd.underlying4 d0
  obtain ⟨hh, e4, -, wh⟩ := DataW.trod_int Tryd.underlying37 q0
  obtain ⟨ll, e5, -, wl⟩ := DataW.trod_int Tryd.underlying37 q1
  obtain ⟨s, e6, -, -⟩ := DataW.trod_int Tryd.underlying3 d2
  obtain ⟨day, e7, -, -⟩ := DataW.trod_int Tryd.underlying3 g4
  simp at e0 e1 e2 e3 e4 e5 e6 e7
  subst e0 e1 e2 e3 e4 e5 e6 e7
  have hts : t.size ≤ 1048576 := by
    rw [hx] at hb
    have h1 : Rows.uptoBulk y2.1 ≤ Rows.uptoBulkAll [y0.1, y1.1, y2.1, y3.1, y4.1] := nbulk_mem (by simp)
    have h2 : Rows.uptoBulk (DataW.agg [y0.1, y1.1, y2.1, y3.1, y4.1]) = Rows.uptoBulkAll [y0.1, y1.1, y2.1, y3.1, y4.1] + 1 := rfl
    have h3 : Rows.uptoBulk y2.1 = t.data.toList.length + 1 := by rw [hy2]; rfl
    have h4 : t.data.toList.length = t.size := rfl
    omega
  have := wf_u64N wh
  have := wf_u64N wl
  have hc : hh.toNat * 18446744073709551616 + ll.toNat < top2 := by unfold top2; omega
  have hhi : (hi (hh.toNat * 18446744073709551616 + ll.toNat) : Int) = hh := by
    unfold hi; omega
  have hlo : (lo (hh.toNat * 18446744073709551616 + ll.toNat) : Int) = ll := by
    unfold lo; omega
  refine ⟨⟨op, a, t, neg, hh.toNat * 18446744073709551616 + ll.toNat, s, day⟩, ?_, ⟨wt, hc, wf_i64N wa⟩, hts⟩
  unfold ndE
  simp only
  rw [hhi, hlo]
set_option maxRecDepth 100000 in
theorem nodes_of {r : Reach} {b0 : Nat} {x : Value} {d : DataW H} {p : List MemPlace} (hv : Value.okWide Tryd.prog w r b0 22 x) (h : DataW.Trod enc Tryd.prog w 0 spare held 22 x d p) (hb : Rows.uptoBulk d ≤ 1048576) :
    ∃ L, RL 8 ndE w.heap.size w x L ∧ (∀ y ∈ L, y.Wf) ∧ (∀ y ∈ L, y.t.size ≤ 1048576) ∧ ∀ q k c, x = .slice q k c → k ≤ c := by
  obtain ⟨q, n, c, rfl⟩ := okWide_slice Tryd.underlying22 hv
  obtain ⟨fuel, hf⟩ := h
  rcases DataW.trod_slice Tryd.underlying22 hf with ⟨hcs0, -⟩ | ⟨ad, len, cap, elems, rest, n', hn', hcs0, hd, _, hlc, _, hlen, hel, _, _⟩
  · simp [Value.cells] at hcs0
    obtain ⟨rfl, rfl, rfl⟩ := hcs0
    exact ⟨[], RL.nil _ _ _ _, by simp, by simp, fun q k c e => by injection e with _ e2 e3; omega⟩
  · simp [Value.cells] at hcs0
    obtain ⟨rfl, rfl, rfl⟩ := hcs0
    have hbl : Rows.uptoBulkAll (elems.map (·.1)) ≤ 1048576 := by
      have hd1 := congrArg Prod.fst hd
      simp only at hd1
      rw [hd1] at hb
      have : Rows.uptoBulkAll (elems.map (·.1)) + Rows.uptoBulkAll (rest.map (·.1)) + 1 ≤ 1048576 := hb
      omega
    have hget : ∀ i, i < n → ∃ v : NdD, ((ad.add (i * 8)).spot = none ∧ ∀ j, j < 8 → w.cell? ((ad.add (i * 8)).add j) = (ndE v)[j]?) ∧ v.Wf ∧ v.t.size ≤ 1048576 := by
      intro i hi
      have h1 := hel i hi
      rw [icNode] at h1
      have hie : i < elems.length := by omega
      rw [List.getElem?_eq_getElem hie] at h1
      obtain ⟨cs', hc', ht'⟩ := Option.bind_eq_some_iff.1 h1
      have hm : elems[i].1 ∈ elems.map (·.1) := List.mem_map_of_mem (List.getElem_mem hie)
      obtain ⟨_, hc8, hcell⟩ := World.cells?_some hc'
      obtain ⟨v, rfl, hw, hs⟩ := node_of_trod ht' (Nat.le_trans (nbulk_mem hm) hbl)
      have hz0 : w.cell? (ad.add (i * 8)) = some (.int .i64 v.op) := by have := hcell 0 (by omega); simpa [Addr.add, ndE] using this
      exact ⟨v, ⟨World.cell?_spot hz0, hcell⟩, hw, hs⟩
    obtain ⟨l, hll, hp⟩ := ilist_of _ n hget
    refine ⟨l, ⟨some ad, c, by rw [hll], fun h0 => ?_⟩, fun y hy => ?_, fun y hy => ?_, fun q k c e => by injection e with _ e2 e3; omega⟩
    · obtain ⟨⟨hsp, hc0⟩, -⟩ := hp 0 h0
      have ha : ad.add (0 * 8) = ad := by simp [Addr.add]
      rw [ha] at hc0 hsp
      have h00 := hc0 0 (by omega)
      obtain ⟨g, o, sp⟩ := ad
      simp only at hsp
      subst hsp
      have hadd : ∀ i j, ((⟨g, o, none⟩ : Addr).add (i * 8)).add j = ⟨g, o + i * 8 + j, none⟩ := by
        intro i j
        by_cases hi0 : i = 0
        · subst hi0
          by_cases hj0 : j = 0
          · subst hj0; rfl
          · simp [Addr.add, hj0]
        · have hi8 : ¬ i * 8 = 0 := by omega
          by_cases hj0 : j = 0
          · subst hj0; simp [Addr.add, hi8]
          · simp [Addr.add, hi8, hj0]
      refine ⟨g, o, rfl, World.block_lt_of_cell? w ⟨g, o, none⟩ (u := .int .i64 l[0].op) (by simpa [Addr.add, ndE] using h00), fun j hj i u hu => ?_⟩
      have hi8 : i < 8 := by
        have := (List.getElem?_eq_some_iff.1 hu).1
        simpa [ndE] using this
      rw [← hadd, (hp j hj).1.2 i hi8]
      exact hu
    · obtain ⟨i, hi, rfl⟩ := List.getElem_of_mem hy
      exact (hp i hi).2.1
    · obtain ⟨i, hi, rfl⟩ := List.getElem_of_mem hy
      exact (hp i hi).2.2
end
def codLaid : List (String × DataW Unit) := [("unicode/utf8.acceptRanges", Rows.laid_unicode_utf8_acceptRanges), ("tariff/wide.tens", Rows.laid_tariff_wide_tens), ("unicode/utf8.first", Rows.laid_unicode_utf8_first)]
theorem hgTensN : Tryd.prog.globalNamed "tariff/wide.tens" = some 2 := by kernel_rfl
theorem htTensN : (Tryd.prog.globals[2]?).map (·.type) = some 129 := by kernel_rfl
theorem hcWordN : Tryd.prog.cellsOf 37 = 1 := by kernel_rfl
theorem hcTensN : Tryd.prog.cellsOf 129 = 20 := by kernel_rfl
def htensN_List : List Int := [1, 10, 100, 1000, 10000, 100000, 1000000, 10000000, 100000000, 1000000000, 10000000000, 100000000000, 1000000000000, 10000000000000, 100000000000000, 1000000000000000, 10000000000000000, 100000000000000000, 1000000000000000000, 10000000000000000000]
theorem htensN__data : (Rows.laid_tariff_wide_tens : DataW Unit) = Lib.tabData .u64 htensN_List := rfl
theorem htensN__at : ∀ j : Fin 20, htensN_List.getD j.val 0 = ((10 ^ j.val : Nat) : Int) := by decide
theorem haccept_dataN : (Rows.laid_unicode_utf8_acceptRanges : DataW Unit) = Lib.acceptData := by kernel_rfl
theorem hfirst_dataN : Rows.laid_unicode_utf8_first = Lib.firstData := Pinned.utf8First_eq
theorem hxU8N : U8Extra Tryd.prog Tryd.lays196_ren := ⟨by kernel_rfl, by kernel_rfl, by kernel_rfl, by kernel_rfl, by kernel_rfl, by kernel_rfl, by kernel_rfl⟩
/-- all that the walks ask of the start -/
theorem codfacts_of_laid {W : World} (h : laidMetH Tryd.prog codLaid W) : Tens W ∧ Tabs W ∧ True := by
  rw [MakeChecks.laidMetH_plain _ _ _ (by kernel_rfl)] at h
  have h2 := Lib.laidMet.reads h (n := "tariff/wide.tens") (d := Rows.laid_tariff_wide_tens) (.tail _ (.head _))
  have h3 := Lib.laidMet.reads h (n := "unicode/utf8.first") (d := Rows.laid_unicode_utf8_first) (.tail _ (.tail _ (.head _)))
  have h4 := Lib.laidMet.reads h (n := "unicode/utf8.acceptRanges") (d := Rows.laid_unicode_utf8_acceptRanges) (.head _)
  refine ⟨?_, ?_, trivial⟩
  · rw [htensN__data] at h2
    obtain ⟨g', t', cs, fuel, p, hg', ht', hvar, hd⟩ := h2
    obtain rfl := Option.some.inj (hgTensN.symm.trans hg')
    obtain rfl := Option.some.inj (htTensN.symm.trans ht')
    have hti : Lib.TabIs Tryd.prog W "tariff/wide.tens" .u64 htensN_List := by
      unfold Lib.TabIs
      rw [hvar, ← Lib.cells_of_tab Tryd.underlying129 Tryd.underlying37 hcWordN hcTensN hd]
    have hc : ∀ j, j < 20 → W.cell? ⟨2, j, none⟩ = some (.int .u64 (p10 j : Int)) := fun j hj => by
      have := Lib.TabIs.cell hti hgTensN j hj
      rw [htensN__at ⟨j, hj⟩] at this
      exact this
    exact ⟨World.block_lt_of_cell? W _ (hc 0 (by decide)), hc⟩
  · rw [hfirst_dataN] at h3
    rw [haccept_dataN] at h4
    have hT : Lib.Utf8Tabs 0 1 W := utf8Tabs_of_readsT (U8Types.of196 Tryd.lays196) hxU8N h3 h4
    exact ⟨hT, World.block_lt_of_cell? W _ (hT.1 0 (by decide)), World.block_lt_of_cell? W _ (hT.2 0 (by decide)).1⟩
section
variable {H : Type} {enc : TypeId × Value → H} {P : Program}
theorem witness_row_shapedN {C : Checked} {os : Os} {f : FuncId} {fn : Func} {s : OpenSpec} {conds : List PathCond} {apart : Bool} {laid : List (String × DataW Unit)} (modest : Bool) (w0 : World) (args : Array Value) (hos : w0.os = os)
    (hsh : (w0.forCall (fun _ _ => 0) ⟨#[], args, []⟩).Shaped C.prog)
    (hok : Input.okWideB C.prog (w0.forCall (fun _ _ => 0) ⟨#[], args, []⟩) f ⟨#[], args, []⟩ = true)
    (hrow : s.preRow enc C.prog fn conds apart laid (w0.forCall (fun _ _ => 0) ⟨#[], args, []⟩).memory args) :
    ∃ (w : World) (tape : Tape) (i : Input), w.os = os ∧ (w.forCall tape i).Shaped C.prog ∧ i.vars = [] ∧ Input.okWide C.prog (w.forCall tape i) .any w.heap.size f i ∧
      s.preRow enc C.prog fn conds apart laid (w.forCall tape i).memory i.args ∧ ({ modest := modest } : Assume).holds C.prog (lone (Frame.enter C.prog f i.args .normal) [] (w.forCall tape i)) :=
  ⟨w0, fun _ _ => 0, ⟨#[], args, []⟩, hos, hsh, (Input.okWide_of_okWideB (base := 0) hok).1, (Input.okWide_of_okWideB hok).2, hrow, by
    simp only [Assume.holds]
    exact ⟨by simp, by simp, fun _ => Modest.zero, by simp, by simp⟩⟩
end
set_option maxRecDepth 100000 in
set_option maxHeartbeats 4000000 in
theorem codeCompiles_law (l : List NdD) (tests : Bool) (n : Nat) (w : World) (v : Value) (hv : RL 8 ndE n w v l) (hn : n ≤ w.heap.size) (hwf : ∀ x ∈ l, x.Wf) (hsm : ∀ x ∈ l, x.t.size ≤ 1048576) (hcap : ∀ p k c, v = .slice p k c → k ≤ c) (hT : Tens w) (hU : Tabs w) :
    Calls Tryd.prog 3 #[v, .bool tests] w fun e w' => e = .returned (.bool true) ∧ Below w.heap.size w w' := by
  have HKN := Lib.hid (codknown_any w)
  have HDC := Lib.hid (fun w' (hb : Below w.heap.size w w') => doccompile_any (tests := tests) (hv.keep (hb.mono hn)) (Nat.le_trans hn hb.size) hwf hsm)
  have HCC := Lib.hid (fun w' (hb : Below w.heap.size w w') => ccompile_any (tests := tests) (hv.keep (hb.mono hn)) (Nat.le_trans hn hb.size) hwf hsm hcap (hT.below hb) (hU.below hb))
  obtain ⟨E, hE⟩ : ∃ E, E = docE l tests := ⟨_, rfl⟩
  obtain ⟨C, hC⟩ : ∃ C, C = if E = 0 then codL l else [] := ⟨_, rfl⟩
  have HLEN := Lib.hid (show C.length ≤ 1000000 by
    rw [hC]
    split
    · rename_i h0
      obtain ⟨h300, hpos, q, P, hs⟩ := docE_zero (hE.symm.trans h0)
      obtain ⟨L, hTr, hch⟩ := tree_of hs
      unfold codL
      rw [hs]
      simp only
      have := ofF_len hTr l.length (l.length - 1) (by omega) 0
      omega
    · exact Nat.zero_le _)
  unfold CmQ at HDC HCC
  rw [← hE, ← hC] at HDC HCC
  clear hE hC
  have HSA := Lib.hid (show sameB C C = true from (sameB_iff C C).2 rfl)
  obtain ⟨p, c, rfl, -⟩ := hv
  generalize l.length = len at HDC HCC ⊢
  clear hn hwf hsm hcap hT hU
  go_enter Tryd.func3, Tryd.ntmps3
  go_wp2_with (first
    | (go_at_call 8; (with_reducible refine (HKN.out).mono ?_); rintro e w1 ⟨rfl, hb1⟩; have HB1 := Lib.hid hb1; clear hb1)
    | (go_at_call 9; (with_reducible refine (HDC.out _ HB1.out).mono ?_); rintro e w2 ⟨hb2, v2, rfl, hr2⟩; have HB2 := Lib.hid (HB1.out.trans (hb2.mono HB1.out.size)); have HR2 := Lib.hid hr2; clear hb2 hr2)
    | (go_at_call 10; (with_reducible refine (HCC.out _ HB2.out).mono ?_); rintro e w3 ⟨hb3, v3, rfl, hr3⟩; have HB3 := Lib.hid (HB2.out.trans (hb3.mono HB2.out.size)); have HR3 := Lib.hid (HR2.out.keep hb3); have HS3 := Lib.hid hr3; clear hb3 hr3)
    | (go_at_call 11; (with_reducible refine (isame_any HR3.out HS3.out HLEN.out).mono ?_); rintro e w4 ⟨he4, hb4⟩; rw [HSA.out] at he4; subst he4; have HB4 := Lib.hid (HB3.out.trans (hb4.mono HB3.out.size)); clear hb4))
  go_ret
  exact ⟨rfl, HB4.out⟩
end Go.Proofs.YtpgfgaloagdogaaDoor
