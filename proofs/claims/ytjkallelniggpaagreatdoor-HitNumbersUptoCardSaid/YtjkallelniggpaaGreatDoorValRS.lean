/-
  Two values are the same in every part: the document's way; Same on both sides.
-/
import Derived.Test.YtjkallelniggpaaGreatDoorBi
namespace Go.Proofs.YtjkallelniggpaaGreatDoor
open Go.RowKit Word Txt
attribute [local go_sem] setCell_drewN cell?_ext frozen?_ext shape?_ext setCell_ext lt_1' ne_1' en_1' le_1' lt_2' ne_2' en_2' le_2' lt_3' ne_3' en_3' le_3' lt_4' ne_4' en_4' le_4' lt_5' ne_5' en_5' le_5' lt_6' ne_6' en_6' le_6' lt_7' ne_7' en_7' le_7' lt_8' ne_8' en_8' le_8' lt_9' ne_9' en_9' le_9' lt_10' ne_10' en_10' le_10' lt_11' ne_11' en_11' le_11' lt_12' ne_12' en_12' le_12'

/-- the same but for what lies in the lists -/
def headB (k : Int) (yes neg : Bool) (c : Nat) (s : Int) (t : ByteArray) (day : Int) (nl nn : Nat) (k' : Int) (yes' neg' : Bool) (c' : Nat) (s' : Int) (t' : ByteArray) (day' : Int) (nl' nn' : Nat) : Bool :=
  k == k' && (yes == yes' && (((neg == neg') && ((hi c == hi c') && ((lo c == lo c') && (s == s')))) && ((t.toList == t'.toList) && (day == day' && (decide (nl = nl') && decide (nn = nn'))))))
theorem eqb_head (k : Int) (yes neg : Bool) (c : Nat) (s : Int) (t : ByteArray) (day : Int) (l : List V) (ns : List ByteArray) (k' : Int) (yes' neg' : Bool) (c' : Nat) (s' : Int) (t' : ByteArray) (day' : Int) (l' : List V) (ns' : List ByteArray) :
    (V.mk k yes neg c s t day l ns).eqb (V.mk k' yes' neg' c' s' t' day' l' ns') = (headB k yes neg c s t day l.length ns.length k' yes' neg' c' s' t' day' l'.length ns'.length && (decide (ns = ns') && eqbL l l')) := by
  have h : (V.mk k yes neg c s t day l ns).eqb (V.mk k' yes' neg' c' s' t' day' l' ns') = (k == k' && (yes == yes' && (((neg == neg') && ((hi c == hi c') && ((lo c == lo c') && (s == s')))) && ((t.toList == t'.toList) && (day == day' && (decide (ns = ns') && eqbL l l')))))) := by
    rw [← numE_hl, ← textE]; unfold V.eqb; rfl
  rw [h]
  unfold headB
  cases h1 : eqbL l l'
  · simp
  · by_cases h2 : ns = ns'
    · subst h2; simp [eqbL_len l l' h1, Bool.and_assoc]
    · simp [h2]
/-- the contract of the document's Same, at a value -/
def RC (v : V) : Prop := ∀ (n : Nat) (w : World) (x : Value) (v' : V) (x' : Value), v.At n w x → v'.At n w x' → n ≤ w.heap.size →
  Calls Tryz.prog 11 #[x, x'] w fun e w' => e = .returned (.bool (v.eqb v')) ∧ Below w.heap.size w w'
set_option maxHeartbeats 8000000 in
set_option maxRecDepth 100000 in
theorem rsame_step (k : Int) (yes neg : Bool) (c : Nat) (s : Int) (t : ByteArray) (day : Int) (l : List V) (ns : List ByteArray) (ih : ∀ v ∈ l, RC v) : RC (.mk k yes neg c s t day l ns) := by
  intro n w x v' x' hx hx' hnw
  obtain ⟨k', yes', neg', c', s', t', day', l', ns', hv'⟩ : ∃ k yes neg c s t day l ns, v' = V.mk k yes neg c s t day l ns := by cases v'; exact ⟨_, _, _, _, _, _, _, _, _, rfl⟩
  subst hv'
  obtain ⟨lv, nv, rfl, ⟨hc, ht, hl, hnl⟩, hL, hN, hsz⟩ := at_mk hx
  obtain ⟨lv2, nv2, rfl, ⟨hc2, ht2, hl2, hnl2⟩, hL2, hN2, hsz2⟩ := at_mk hx'
  have hE := eqb_head k yes neg c s t day l ns k' yes' neg' c' s' t' day' l' ns'
  generalize (V.mk k yes neg c s t day l ns).eqb (V.mk k' yes' neg' c' s' t' day' l' ns') = fv at hE ⊢
  obtain ⟨pl, cl, rfl⟩ := hL.shape
  obtain ⟨pn, cn, rfl⟩ := hN.shape
  obtain ⟨pl', cl', rfl⟩ := hL2.shape
  obtain ⟨pn', cn', rfl⟩ := hN2.shape
  cases hh : headB k yes neg c s t day l.length ns.length k' yes' neg' c' s' t' day' l'.length ns'.length
  · rw [hh] at hE
    have HFF := Lib.hid (show fv = false from hE)
    unfold headB at hh
    clear hx hx' hc ht hl hnl hL hN hsz hc2 ht2 hl2 hnl2 hL2 hN2 hsz2 hE ih
    generalize l.length = ll at *
    generalize l'.length = ll2 at *
    generalize ns.length = nl at *
    generalize ns'.length = nl2 at *
    have HH := Lib.hid hh
    clear hh
    go_enter Tryz.func11, Tryz.ntmps11
    go_wp2
    all_goals
      first
        | (go_ret; exact ⟨by rw [HFF.out]; rfl, by (repeat' (first | (with_reducible exact Below.refl _ _) | (with_reducible assumption) | (with_reducible refine Below.alloc ?_ ?_ _) | (with_reducible refine below_drewN ?_ _) | (with_reducible refine below_drew ?_) | (with_reducible refine below_ext ?_ ?_ _ _) | (with_reducible refine Below.setCell ?_ ?_ _) | (simp; done) | (simp; omega) | omega))⟩)
        | (exfalso; have h9 := HH.out; clear HH HFF; simp only [Int.natCast_inj] at *; simp_all <;> omega)
  rw [hh] at hE
  have HFF := Lib.hid (show fv = (decide (ns = ns') && eqbL l l') from hE)
  unfold headB at hh
  simp only [Bool.and_eq_true, beq_iff_eq, decide_eq_true_eq] at hh
  obtain ⟨rfl, rfl, ⟨rfl, e1, e2, rfl⟩, e3, rfl, hll, hnn⟩ := hh
  obtain rfl : c = c' := by unfold hi at e1; unfold lo at e2; omega
  obtain rfl : t = t' := (Lib.bytes_beq_iff _ _).1 (by rw [e3]; exact beq_self_eq_true _)
  clear e1 e2 e3
  have HX := Lib.hid (fun (i : Nat) (hi : i < l.length) (hi' : i < l'.length) w' (hb : Below w.heap.size w w') (x x' : Value) (h : l[i].At n w' x) (h' : l'[i].At n w' x') => ih l[i] (List.getElem_mem hi) n w' x l'[i] x' h h' (Nat.le_trans hnw hb.size))
  have HG := Lib.hid (eqbL_get hll)
  obtain ⟨len, hln⟩ : ∃ len, l.length = len := ⟨_, rfl⟩
  obtain ⟨nn, hnm⟩ : ∃ nn, ns.length = nn := ⟨_, rfl⟩
  have HLN := Lib.hid hln
  have HLM := Lib.hid (show l'.length = len by rw [← hll, hln])
  have HNN := Lib.hid hnm
  have HNM := Lib.hid (show ns'.length = nn by rw [← hnn, hnm])
  rw [hln] at hL hl ⊢
  rw [HLM.out] at hL2 ⊢
  rw [hnm] at hN hnl ⊢
  rw [HNM.out] at hN2 ⊢
  have HA := Lib.hid hL
  have HB := Lib.hid hL2
  have HAN := Lib.hid hN
  have HBN := Lib.hid hN2
  clear hx hx' hc ht hL hN hsz hc2 ht2 hl2 hnl2 hL2 hN2 hsz2 hE ih hll hnn hln hnm
  obtain ⟨bx, hbx⟩ : ∃ bx, bx = Obj.cells #[.int .i64 k, .bool yes, .bool neg, .int .u64 (Word.hi c : Int), .int .u64 (lo c : Int), .int .i64 s, .string t, .int .i64 day, .slice pl len cl, .slice pn nn cn] 34 := ⟨_, rfl⟩
  obtain ⟨bz, hbz⟩ : ∃ bz, bz = Obj.cells #[.int .i64 k, .bool yes, .bool neg, .int .u64 (Word.hi c : Int), .int .u64 (lo c : Int), .int .i64 s, .string t, .int .i64 day, .slice pl' len cl', .slice pn' nn cn'] 34 := ⟨_, rfl⟩
  go_enter Tryz.func11, Tryz.ntmps11
  go_wp2
  rw [← hbx, ← hbz]
  go_loopw [5] (fun i wr => ∃ m : Nat, m ≤ nn ∧ i = .int .i64 m ∧ (∃ (os : Array Obj) (d : Nat), wr = ext ((w.alloc bx).alloc bz) os d) ∧ SameTo ns ns' m) (fun i _ => nn - (intOf i).toNat)
  case atStart => exact ⟨0, by omega, rfl, ⟨_, _, ext_here _⟩, rfl⟩
  case round =>
    obtain ⟨m, hm, rfl, ⟨osR, dR, rfl⟩, hs0⟩ := hrel
    have HS := Lib.hid hs0
    clear hs0
    by_cases hml : m < nn
    · have hi' : (m : Int) < nn := by omega
      have h1 : m < ns.length := by have := HNN.out; omega
      have h2 : m < ns'.length := by have := HNM.out; omega
      obtain ⟨g, o, rfl, hg, hr⟩ : ∃ g o, pn = some ⟨g, o, none⟩ ∧ g < w.heap.size ∧ NamesAt w g ns o := by
        rcases HAN.out with ⟨h, _⟩ | ⟨g, o, cap, h, _, hg, hr⟩
        · rw [h] at h1; simp at h1
        · simp only [Value.slice.injEq] at h; exact ⟨g, o, h.1, hg, hr⟩
      obtain ⟨g', o', rfl, hg', hr'⟩ : ∃ g o, pn' = some ⟨g, o, none⟩ ∧ g < w.heap.size ∧ NamesAt w g ns' o := by
        rcases HBN.out with ⟨h, _⟩ | ⟨g, o, cap, h, _, hg, hr⟩
        · rw [h] at h2; simp at h2
        · simp only [Value.slice.injEq] at h; exact ⟨g, o, h.1, hg, hr⟩
      obtain ⟨a, ha⟩ : ∃ a, a = ns[m] := ⟨_, rfl⟩
      obtain ⟨b, hb⟩ : ∃ b, b = ns'[m] := ⟨_, rfl⟩
      have c1 : w.cell? ⟨g, o + m, none⟩ = some (.string a) := by rw [ha]; exact hr.get m h1
      have c2 : w.cell? ⟨g', o' + m, none⟩ = some (.string b) := by rw [hb]; exact hr'.get m h2
      have hg1 : g < w.heap.size + 1 := by omega
      have hg2 : g < w.heap.size + 1 + 1 := by omega
      have hg1' : g' < w.heap.size + 1 := by omega
      have hg2' : g' < w.heap.size + 1 + 1 := by omega
      have HAa := Lib.hid ha
      have HBb := Lib.hid hb
      obtain ⟨v, hv⟩ : ∃ v, (a.toList == b.toList) = v := ⟨_, rfl⟩
      have HV := Lib.hid hv
      clear ha hb hr hr' HA HB HAN HBN HX HG
      subst hbx hbz
      cases v
      · have HR := Lib.hid (show fv = false by rw [HFF.out, decide_eq_false (neq_at h1 h2 (by rw [← HAa.out, ← HBb.out]; exact (Lib.bytes_beq_false_iff _ _).1 HV.out))]; rfl)
        have hv2 : (a.toList != b.toList) = true := by rw [bne, hv]; rfl
        go_wp2
        go_region
        go_wp2
        go_ret
        exact ⟨by rw [HR.out]; rfl, by (repeat' (first | (with_reducible exact Below.refl _ _) | (with_reducible assumption) | (with_reducible refine Below.alloc ?_ ?_ _) | (with_reducible refine below_drewN ?_ _) | (with_reducible refine below_drew ?_) | (with_reducible refine below_ext ?_ ?_ _ _) | (with_reducible refine Below.setCell ?_ ?_ _) | (simp; done) | (simp; omega) | omega))⟩
      · have hv2 : (a.toList != b.toList) = false := by rw [bne, hv]; rfl
        go_wp2
        go_region
        go_wp2
        go_roundw
        case rel => exact ⟨m + 1, by omega, by go_num, ext_of_below (by (repeat' (first | (with_reducible exact Below.refl _ _) | (with_reducible assumption) | (with_reducible refine Below.alloc ?_ ?_ _) | (with_reducible refine below_drewN ?_ _) | (with_reducible refine below_drew ?_) | (with_reducible refine below_ext ?_ ?_ _ _) | (with_reducible refine Below.setCell ?_ ?_ _) | (simp; done) | (simp; omega) | omega))), HS.out.step h1 h2 (by rw [← HAa.out, ← HBb.out]; exact (Lib.bytes_beq_iff _ _).1 HV.out)⟩
        case measure => simp [intOf]; omega
    · obtain rfl : m = nn := by omega
      have hi' : ¬ (m : Int) < m := by omega
      have HF2 := Lib.hid (show fv = eqbL l l' by
        have h := HS.out
        unfold SameTo at h
        rw [List.take_of_length_le (by rw [HNN.out]; exact Nat.le_refl _), List.take_of_length_le (by rw [HNM.out]; exact Nat.le_refl _)] at h
        rw [HFF.out, decide_eq_true h]; rfl)
      clear HFF HS HNN HNM HAN HBN
      subst hbx hbz
      go_wp2
      go_loopw [6] (fun i wr => ∃ q : Nat, q ≤ len ∧ i = .int .i64 q ∧ (∃ (os : Array Obj) (d : Nat), wr = ext ((w.alloc (.cells #[.int .i64 k, .bool yes, .bool neg, .int .u64 (Word.hi c : Int), .int .u64 (lo c : Int), .int .i64 s, .string t, .int .i64 day, .slice pl len cl, .slice pn m cn] 34)).alloc (.cells #[.int .i64 k, .bool yes, .bool neg, .int .u64 (Word.hi c : Int), .int .u64 (lo c : Int), .int .i64 s, .string t, .int .i64 day, .slice pl' len cl', .slice pn' m cn'] 34)) os d) ∧ ∀ i (h : i < l.length) (h' : i < l'.length), i < q → l[i].eqb l'[i] = true) (fun i _ => len - (intOf i).toNat)
      case atStart => exact ⟨0, by omega, rfl, ext_of_below (by (repeat' (first | (with_reducible exact Below.refl _ _) | (with_reducible assumption) | (with_reducible refine Below.alloc ?_ ?_ _) | (with_reducible refine below_drewN ?_ _) | (with_reducible refine below_drew ?_) | (with_reducible refine below_ext ?_ ?_ _ _) | (with_reducible refine Below.setCell ?_ ?_ _) | (simp; done) | (simp; omega) | omega))), fun i _ _ h => by omega⟩
      case round =>
        obtain ⟨q, hq, rfl, ⟨osQ, dQ, rfl⟩, hs0⟩ := hrel
        have HS := Lib.hid hs0
        clear hs0
        by_cases hml : q < len
        · have hi2 : (q : Int) < len := by omega
          have h1 : q < l.length := by have := HLN.out; omega
          have h2 : q < l'.length := by have := HLM.out; omega
          obtain ⟨g, o, rfl, hg, hr⟩ : ∃ g o, pl = some ⟨g, o, none⟩ ∧ g < w.heap.size ∧ RowAt n w g l o := by
            rcases HA.out with ⟨h, _⟩ | ⟨g, o, cap, h, _, hg, hr⟩
            · rw [h] at h1; simp at h1
            · simp only [Value.slice.injEq] at h; exact ⟨g, o, h.1, hg, hr⟩
          obtain ⟨g', o', rfl, hg', hr'⟩ : ∃ g o, pl' = some ⟨g, o, none⟩ ∧ g < w.heap.size ∧ RowAt n w g l' o := by
            rcases HB.out with ⟨h, _⟩ | ⟨g, o, cap, h, _, hg, hr⟩
            · rw [h] at h2; simp at h2
            · simp only [Value.slice.injEq] at h; exact ⟨g, o, h.1, hg, hr⟩
          obtain ⟨k1, yes1, neg1, a1, b1, s1, t1, day1, pl1, nl1, cl1, pn1, nn1, cn1, u0, u1, u2, u3, u4, u5, u6, u7, u8, u9, hat1⟩ := hr.elem q h1
          obtain ⟨k2, yes2, neg2, a2, b2, s2, t2, day2, pl2, nl2, cl2, pn2, nn2, cn2, z0, z1, z2, z3, z4, z5, z6, z7, z8, z9, hat2⟩ := hr'.elem q h2
          have HE := Lib.hid (fun w' (hb2 : Below w.heap.size w w') => HX.out q h1 h2 w' hb2 _ _ (hat1.below (hb2.mono hnw)) (hat2.below (hb2.mono hnw)))
          obtain ⟨bx, hbx⟩ : ∃ bx, bx = Obj.cells #[.int .i64 k, .bool yes, .bool neg, .int .u64 (Word.hi c : Int), .int .u64 (lo c : Int), .int .i64 s, .string t, .int .i64 day, .slice (some ⟨g, o, none⟩) len cl, .slice pn m cn] 34 := ⟨_, rfl⟩
          obtain ⟨bz, hbz⟩ : ∃ bz, bz = Obj.cells #[.int .i64 k, .bool yes, .bool neg, .int .u64 (Word.hi c : Int), .int .u64 (lo c : Int), .int .i64 s, .string t, .int .i64 day, .slice (some ⟨g', o', none⟩) len cl', .slice pn' m cn'] 34 := ⟨_, rfl⟩
          have HK := Lib.hid (fun w' (hb : Below (w.heap.size + 1 + 1) ((w.alloc bx).alloc bz) w') => show w'.cell? ⟨w.heap.size, 8, none⟩ = some (.slice (some ⟨g, o, none⟩) len cl) ∧ w'.cell? ⟨w.heap.size + 1, 8, none⟩ = some (.slice (some ⟨g', o', none⟩) len cl') ∧ w'.cell? ⟨g, o + q * 10, none⟩ = some (.int .i64 k1) ∧ w'.cell? ⟨g, o + q * 10 + 1, none⟩ = some (.bool yes1) ∧ w'.cell? ⟨g, o + q * 10 + 2, none⟩ = some (.bool neg1) ∧ w'.cell? ⟨g, o + q * 10 + 3, none⟩ = some (.int .u64 a1) ∧ w'.cell? ⟨g, o + q * 10 + 4, none⟩ = some (.int .u64 b1) ∧ w'.cell? ⟨g, o + q * 10 + 5, none⟩ = some (.int .i64 s1) ∧ w'.cell? ⟨g, o + q * 10 + 6, none⟩ = some (.string t1) ∧ w'.cell? ⟨g, o + q * 10 + 7, none⟩ = some (.int .i64 day1) ∧ w'.cell? ⟨g, o + q * 10 + 8, none⟩ = some (.slice pl1 nl1 cl1) ∧ w'.cell? ⟨g, o + q * 10 + 9, none⟩ = some (.slice pn1 nn1 cn1) ∧ w'.cell? ⟨g', o' + q * 10, none⟩ = some (.int .i64 k2) ∧ w'.cell? ⟨g', o' + q * 10 + 1, none⟩ = some (.bool yes2) ∧ w'.cell? ⟨g', o' + q * 10 + 2, none⟩ = some (.bool neg2) ∧ w'.cell? ⟨g', o' + q * 10 + 3, none⟩ = some (.int .u64 a2) ∧ w'.cell? ⟨g', o' + q * 10 + 4, none⟩ = some (.int .u64 b2) ∧ w'.cell? ⟨g', o' + q * 10 + 5, none⟩ = some (.int .i64 s2) ∧ w'.cell? ⟨g', o' + q * 10 + 6, none⟩ = some (.string t2) ∧ w'.cell? ⟨g', o' + q * 10 + 7, none⟩ = some (.int .i64 day2) ∧ w'.cell? ⟨g', o' + q * 10 + 8, none⟩ = some (.slice pl2 nl2 cl2) ∧ w'.cell? ⟨g', o' + q * 10 + 9, none⟩ = some (.slice pn2 nn2 cn2) from (fun (hw : Below w.heap.size w w') => ⟨(hb.cell (p := ⟨w.heap.size, 8, none⟩) (by show w.heap.size < _; omega)).trans (by rw [hbx]; simp [go_sem]), (hb.cell (p := ⟨w.heap.size + 1, 8, none⟩) (by show w.heap.size + 1 < _; omega)).trans (by rw [hbz]; simp [go_sem]), (hw.cell (p := ⟨g, _, none⟩) hg).trans u0, (hw.cell (p := ⟨g, _, none⟩) hg).trans u1, (hw.cell (p := ⟨g, _, none⟩) hg).trans u2, (hw.cell (p := ⟨g, _, none⟩) hg).trans u3, (hw.cell (p := ⟨g, _, none⟩) hg).trans u4, (hw.cell (p := ⟨g, _, none⟩) hg).trans u5, (hw.cell (p := ⟨g, _, none⟩) hg).trans u6, (hw.cell (p := ⟨g, _, none⟩) hg).trans u7, (hw.cell (p := ⟨g, _, none⟩) hg).trans u8, (hw.cell (p := ⟨g, _, none⟩) hg).trans u9, (hw.cell (p := ⟨g', _, none⟩) hg').trans z0, (hw.cell (p := ⟨g', _, none⟩) hg').trans z1, (hw.cell (p := ⟨g', _, none⟩) hg').trans z2, (hw.cell (p := ⟨g', _, none⟩) hg').trans z3, (hw.cell (p := ⟨g', _, none⟩) hg').trans z4, (hw.cell (p := ⟨g', _, none⟩) hg').trans z5, (hw.cell (p := ⟨g', _, none⟩) hg').trans z6, (hw.cell (p := ⟨g', _, none⟩) hg').trans z7, (hw.cell (p := ⟨g', _, none⟩) hg').trans z8, (hw.cell (p := ⟨g', _, none⟩) hg').trans z9⟩) (Below.trans (Below.alloc (Below.alloc (Below.refl _ _) (Nat.le_refl _) _) (by simp) _) (hb.mono (by omega))))
          obtain ⟨u, hu⟩ : ∃ u, u = l[q].eqb l'[q] := ⟨_, rfl⟩
          rw [← hu] at HE
          have HU := Lib.hid hu
          clear hat1 hat2 hu HX hr hr' HA HB u0 u1 u2 u3 u4 u5 u6 u7 u8 u9 z0 z1 z2 z3 z4 z5 z6 z7 z8 z9
          subst hbx hbz
          cases u
          · have HR := Lib.hid (show fv = false by
              rw [HF2.out]
              cases hq9 : eqbL l l'
              · rfl
              · have h9 := HG.out.1 hq9 q h1 h2
                rw [← HU.out] at h9; cases h9)
            go_wp2
            go_region_held3 (fun w' => w'.cell? ⟨w.heap.size, 8, none⟩ = some (.slice (some ⟨g, o, none⟩) len cl) ∧ w'.cell? ⟨w.heap.size + 1, 8, none⟩ = some (.slice (some ⟨g', o', none⟩) len cl') ∧ w'.cell? ⟨g, o + q * 10, none⟩ = some (.int .i64 k1) ∧ w'.cell? ⟨g, o + q * 10 + 1, none⟩ = some (.bool yes1) ∧ w'.cell? ⟨g, o + q * 10 + 2, none⟩ = some (.bool neg1) ∧ w'.cell? ⟨g, o + q * 10 + 3, none⟩ = some (.int .u64 a1) ∧ w'.cell? ⟨g, o + q * 10 + 4, none⟩ = some (.int .u64 b1) ∧ w'.cell? ⟨g, o + q * 10 + 5, none⟩ = some (.int .i64 s1) ∧ w'.cell? ⟨g, o + q * 10 + 6, none⟩ = some (.string t1) ∧ w'.cell? ⟨g, o + q * 10 + 7, none⟩ = some (.int .i64 day1) ∧ w'.cell? ⟨g, o + q * 10 + 8, none⟩ = some (.slice pl1 nl1 cl1) ∧ w'.cell? ⟨g, o + q * 10 + 9, none⟩ = some (.slice pn1 nn1 cn1) ∧ w'.cell? ⟨g', o' + q * 10, none⟩ = some (.int .i64 k2) ∧ w'.cell? ⟨g', o' + q * 10 + 1, none⟩ = some (.bool yes2) ∧ w'.cell? ⟨g', o' + q * 10 + 2, none⟩ = some (.bool neg2) ∧ w'.cell? ⟨g', o' + q * 10 + 3, none⟩ = some (.int .u64 a2) ∧ w'.cell? ⟨g', o' + q * 10 + 4, none⟩ = some (.int .u64 b2) ∧ w'.cell? ⟨g', o' + q * 10 + 5, none⟩ = some (.int .i64 s2) ∧ w'.cell? ⟨g', o' + q * 10 + 6, none⟩ = some (.string t2) ∧ w'.cell? ⟨g', o' + q * 10 + 7, none⟩ = some (.int .i64 day2) ∧ w'.cell? ⟨g', o' + q * 10 + 8, none⟩ = some (.slice pl2 nl2 cl2) ∧ w'.cell? ⟨g', o' + q * 10 + 9, none⟩ = some (.slice pn2 nn2 cn2)) (exact HK.out _ (by (repeat' (first | (with_reducible exact Below.refl _ _) | (with_reducible assumption) | (with_reducible refine Below.alloc ?_ ?_ _) | (with_reducible refine below_drewN ?_ _) | (with_reducible refine below_drew ?_) | (with_reducible refine below_ext ?_ ?_ _ _) | (with_reducible refine Below.setCell ?_ ?_ _) | (simp; done) | (simp; omega) | omega)))) (first
              | (go_at_call 11; ((with_reducible refine (HE.out _ (by (repeat' (first | (with_reducible exact Below.refl _ _) | (with_reducible assumption) | (with_reducible refine Below.alloc ?_ ?_ _) | (with_reducible refine below_drewN ?_ _) | (with_reducible refine below_drew ?_) | (with_reducible refine below_ext ?_ ?_ _ _) | (with_reducible refine Below.setCell ?_ ?_ _) | (simp; done) | (simp; omega) | omega)))).mono ?_); rintro e w1 ⟨rfl, hb1⟩; obtain ⟨osA, dA, rfl⟩ := ext_of_below hb1; clear hb1)))
            go_wp2
            go_ret
            exact ⟨by rw [HR.out]; rfl, by (repeat' (first | (with_reducible exact Below.refl _ _) | (with_reducible assumption) | (with_reducible refine Below.alloc ?_ ?_ _) | (with_reducible refine below_drewN ?_ _) | (with_reducible refine below_drew ?_) | (with_reducible refine below_ext ?_ ?_ _ _) | (with_reducible refine Below.setCell ?_ ?_ _) | (simp; done) | (simp; omega) | omega))⟩
          · go_wp2
            go_region_held3 (fun w' => w'.cell? ⟨w.heap.size, 8, none⟩ = some (.slice (some ⟨g, o, none⟩) len cl) ∧ w'.cell? ⟨w.heap.size + 1, 8, none⟩ = some (.slice (some ⟨g', o', none⟩) len cl') ∧ w'.cell? ⟨g, o + q * 10, none⟩ = some (.int .i64 k1) ∧ w'.cell? ⟨g, o + q * 10 + 1, none⟩ = some (.bool yes1) ∧ w'.cell? ⟨g, o + q * 10 + 2, none⟩ = some (.bool neg1) ∧ w'.cell? ⟨g, o + q * 10 + 3, none⟩ = some (.int .u64 a1) ∧ w'.cell? ⟨g, o + q * 10 + 4, none⟩ = some (.int .u64 b1) ∧ w'.cell? ⟨g, o + q * 10 + 5, none⟩ = some (.int .i64 s1) ∧ w'.cell? ⟨g, o + q * 10 + 6, none⟩ = some (.string t1) ∧ w'.cell? ⟨g, o + q * 10 + 7, none⟩ = some (.int .i64 day1) ∧ w'.cell? ⟨g, o + q * 10 + 8, none⟩ = some (.slice pl1 nl1 cl1) ∧ w'.cell? ⟨g, o + q * 10 + 9, none⟩ = some (.slice pn1 nn1 cn1) ∧ w'.cell? ⟨g', o' + q * 10, none⟩ = some (.int .i64 k2) ∧ w'.cell? ⟨g', o' + q * 10 + 1, none⟩ = some (.bool yes2) ∧ w'.cell? ⟨g', o' + q * 10 + 2, none⟩ = some (.bool neg2) ∧ w'.cell? ⟨g', o' + q * 10 + 3, none⟩ = some (.int .u64 a2) ∧ w'.cell? ⟨g', o' + q * 10 + 4, none⟩ = some (.int .u64 b2) ∧ w'.cell? ⟨g', o' + q * 10 + 5, none⟩ = some (.int .i64 s2) ∧ w'.cell? ⟨g', o' + q * 10 + 6, none⟩ = some (.string t2) ∧ w'.cell? ⟨g', o' + q * 10 + 7, none⟩ = some (.int .i64 day2) ∧ w'.cell? ⟨g', o' + q * 10 + 8, none⟩ = some (.slice pl2 nl2 cl2) ∧ w'.cell? ⟨g', o' + q * 10 + 9, none⟩ = some (.slice pn2 nn2 cn2)) (exact HK.out _ (by (repeat' (first | (with_reducible exact Below.refl _ _) | (with_reducible assumption) | (with_reducible refine Below.alloc ?_ ?_ _) | (with_reducible refine below_drewN ?_ _) | (with_reducible refine below_drew ?_) | (with_reducible refine below_ext ?_ ?_ _ _) | (with_reducible refine Below.setCell ?_ ?_ _) | (simp; done) | (simp; omega) | omega)))) (first
              | (go_at_call 11; ((with_reducible refine (HE.out _ (by (repeat' (first | (with_reducible exact Below.refl _ _) | (with_reducible assumption) | (with_reducible refine Below.alloc ?_ ?_ _) | (with_reducible refine below_drewN ?_ _) | (with_reducible refine below_drew ?_) | (with_reducible refine below_ext ?_ ?_ _ _) | (with_reducible refine Below.setCell ?_ ?_ _) | (simp; done) | (simp; omega) | omega)))).mono ?_); rintro e w1 ⟨rfl, hb1⟩; obtain ⟨osA, dA, rfl⟩ := ext_of_below hb1; clear hb1)))
            go_wp2
            go_roundw
            case rel => exact ⟨q + 1, by omega, by go_num, ext_of_below (by (repeat' (first | (with_reducible exact Below.refl _ _) | (with_reducible assumption) | (with_reducible refine Below.alloc ?_ ?_ _) | (with_reducible refine below_drewN ?_ _) | (with_reducible refine below_drew ?_) | (with_reducible refine below_ext ?_ ?_ _ _) | (with_reducible refine Below.setCell ?_ ?_ _) | (simp; done) | (simp; omega) | omega))), fun i h h' hi => by
              by_cases him : i = q
              · subst him; exact HU.out.symm
              · exact HS.out i h h' (by omega)⟩
            case measure => simp [intOf]; omega
        · obtain rfl : q = len := by omega
          have hi2 : ¬ (q : Int) < q := by omega
          have HR := Lib.hid (show fv = true by rw [HF2.out]; exact HG.out.2 (fun i h h' => HS.out i h h' (by have := HLN.out; omega)))
          go_wp2
          go_ret
          exact ⟨by rw [HR.out]; rfl, by (repeat' (first | (with_reducible exact Below.refl _ _) | (with_reducible assumption) | (with_reducible refine Below.alloc ?_ ?_ _) | (with_reducible refine below_drewN ?_ _) | (with_reducible refine below_drew ?_) | (with_reducible refine below_ext ?_ ?_ _ _) | (with_reducible refine Below.setCell ?_ ?_ _) | (simp; done) | (simp; omega) | omega))⟩
mutual
theorem rsame_any : ∀ v : V, RC v
  | .mk k yes neg c s t day l ns => rsame_step k yes neg c s t day l ns (rsame_all l)
theorem rsame_all : ∀ (l : List V) (v : V), v ∈ l → RC v
  | [], _, h => by cases h
  | u :: r, v, h => (List.mem_cons.1 h).elim (fun e => e ▸ rsame_any u) (fun h => rsame_all r v h)
end
/-- Same of the program, of the document -/
theorem vSame_any (v v' : V) (n : Nat) (w : World) (x x' : Value) (hx : v.At n w x) (hx' : v'.At n w x') (hnw : n ≤ w.heap.size) (hT : Tens w) (hU : Tabs w) :
    Calls Tryz.prog 55 #[x, x'] w fun e w' => e = .returned (.bool (decide (v.code = 0) && (decide (v'.code = 0) && v.eqb v'))) ∧ Below w.heap.size w w' := by
  have HA := Lib.hid (fun w' (hb : Below w.heap.size w w') => vcheck_any v n w' x (hx.below (hb.mono hnw)) (Nat.le_trans hnw hb.size) (hT.below hb) (hU.below hb))
  have HB := Lib.hid (fun w' (hb : Below w.heap.size w w') => vcheck_any v' n w' x' (hx'.below (hb.mono hnw)) (Nat.le_trans hnw hb.size) (hT.below hb) (hU.below hb))
  have HS := Lib.hid (fun w' (hb : Below w.heap.size w w') => same_any v n w' x v' x' (hx.below (hb.mono hnw)) (hx'.below (hb.mono hnw)) (Nat.le_trans hnw hb.size))
  obtain ⟨k, yes, neg, c, s, t, day, pl, nl, cl, pn, nn, cn, rfl, -, -⟩ := at_shape hx
  obtain ⟨k', yes', neg', c', s', t', day', pl', nl', cl', pn', nn', cn', rfl, -, -⟩ := at_shape hx'
  generalize v.code = a at *
  generalize v'.code = b at *
  generalize v.eqb v' = q at *
  clear hx hx' hT hU
  by_cases h0 : a = 0
  · subst h0
    by_cases h1 : b = 0
    · subst h1
      go_enter Tryz.func55, Tryz.ntmps55
      go_wp2_with (first
        | (go_at_call 18; ((with_reducible refine (HA.out _ (by (repeat' (first | (with_reducible exact Below.refl _ _) | (with_reducible assumption) | (with_reducible refine Below.alloc ?_ ?_ _) | (with_reducible refine below_drewN ?_ _) | (with_reducible refine below_drew ?_) | (with_reducible refine below_ext ?_ ?_ _ _) | (with_reducible refine Below.setCell ?_ ?_ _) | (simp; done) | (simp; omega) | omega)))).mono ?_); rintro e w1 ⟨rfl, hb1⟩; obtain ⟨osA, dA, rfl⟩ := ext_of_below hb1; clear hb1))
        | (go_at_call 18; ((with_reducible refine (HB.out _ (by (repeat' (first | (with_reducible exact Below.refl _ _) | (with_reducible assumption) | (with_reducible refine Below.alloc ?_ ?_ _) | (with_reducible refine below_drewN ?_ _) | (with_reducible refine below_drew ?_) | (with_reducible refine below_ext ?_ ?_ _ _) | (with_reducible refine Below.setCell ?_ ?_ _) | (simp; done) | (simp; omega) | omega)))).mono ?_); rintro e w1 ⟨rfl, hb1⟩; obtain ⟨osB, dB, rfl⟩ := ext_of_below hb1; clear hb1))
        | (go_at_call 80; ((with_reducible refine (HS.out _ (by (repeat' (first | (with_reducible exact Below.refl _ _) | (with_reducible assumption) | (with_reducible refine Below.alloc ?_ ?_ _) | (with_reducible refine below_drewN ?_ _) | (with_reducible refine below_drew ?_) | (with_reducible refine below_ext ?_ ?_ _ _) | (with_reducible refine Below.setCell ?_ ?_ _) | (simp; done) | (simp; omega) | omega)))).mono ?_); rintro e w1 ⟨rfl, hb1⟩; obtain ⟨osC, dC, rfl⟩ := ext_of_below hb1; clear hb1)))
      go_ret
      exact ⟨by simp, by (repeat' (first | (with_reducible exact Below.refl _ _) | (with_reducible assumption) | (with_reducible refine Below.alloc ?_ ?_ _) | (with_reducible refine below_drewN ?_ _) | (with_reducible refine below_drew ?_) | (with_reducible refine below_ext ?_ ?_ _ _) | (with_reducible refine Below.setCell ?_ ?_ _) | (simp; done) | (simp; omega) | omega))⟩
    · have h2 : (b == 0) = false := beq_eq_false_iff_ne.2 h1
      have h3 : decide (b = 0) = false := decide_eq_false h1
      go_enter Tryz.func55, Tryz.ntmps55
      go_wp2_with (first
        | (go_at_call 18; ((with_reducible refine (HA.out _ (by (repeat' (first | (with_reducible exact Below.refl _ _) | (with_reducible assumption) | (with_reducible refine Below.alloc ?_ ?_ _) | (with_reducible refine below_drewN ?_ _) | (with_reducible refine below_drew ?_) | (with_reducible refine below_ext ?_ ?_ _ _) | (with_reducible refine Below.setCell ?_ ?_ _) | (simp; done) | (simp; omega) | omega)))).mono ?_); rintro e w1 ⟨rfl, hb1⟩; obtain ⟨osA, dA, rfl⟩ := ext_of_below hb1; clear hb1))
        | (go_at_call 18; ((with_reducible refine (HB.out _ (by (repeat' (first | (with_reducible exact Below.refl _ _) | (with_reducible assumption) | (with_reducible refine Below.alloc ?_ ?_ _) | (with_reducible refine below_drewN ?_ _) | (with_reducible refine below_drew ?_) | (with_reducible refine below_ext ?_ ?_ _ _) | (with_reducible refine Below.setCell ?_ ?_ _) | (simp; done) | (simp; omega) | omega)))).mono ?_); rintro e w1 ⟨rfl, hb1⟩; obtain ⟨osB, dB, rfl⟩ := ext_of_below hb1; clear hb1)))
      go_ret
      exact ⟨by simp [h1], by (repeat' (first | (with_reducible exact Below.refl _ _) | (with_reducible assumption) | (with_reducible refine Below.alloc ?_ ?_ _) | (with_reducible refine below_drewN ?_ _) | (with_reducible refine below_drew ?_) | (with_reducible refine below_ext ?_ ?_ _ _) | (with_reducible refine Below.setCell ?_ ?_ _) | (simp; done) | (simp; omega) | omega))⟩
  · have h2 : (a == 0) = false := beq_eq_false_iff_ne.2 h0
    go_enter Tryz.func55, Tryz.ntmps55
    go_wp2_with (first
      | (go_at_call 18; ((with_reducible refine (HA.out _ (by (repeat' (first | (with_reducible exact Below.refl _ _) | (with_reducible assumption) | (with_reducible refine Below.alloc ?_ ?_ _) | (with_reducible refine below_drewN ?_ _) | (with_reducible refine below_drew ?_) | (with_reducible refine below_ext ?_ ?_ _ _) | (with_reducible refine Below.setCell ?_ ?_ _) | (simp; done) | (simp; omega) | omega)))).mono ?_); rintro e w1 ⟨rfl, hb1⟩; obtain ⟨osA, dA, rfl⟩ := ext_of_below hb1; clear hb1)))
    go_ret
    exact ⟨by simp [h0], by (repeat' (first | (with_reducible exact Below.refl _ _) | (with_reducible assumption) | (with_reducible refine Below.alloc ?_ ?_ _) | (with_reducible refine below_drewN ?_ _) | (with_reducible refine below_drew ?_) | (with_reducible refine below_ext ?_ ?_ _ _) | (with_reducible refine Below.setCell ?_ ?_ _) | (simp; done) | (simp; omega) | omega))⟩
end Go.Proofs.YtjkallelniggpaaGreatDoor
