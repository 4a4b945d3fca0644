/-
  Equality of two contexts: the program's way, by a map of places.
-/
import Derived.Test.YtfffjbnbhmohjaaGreatDoorValX
import Derived.Test.YtfffjbnbhmohjaaGreatDoorValW
namespace Go.Proofs.YtfffjbnbhmohjaaGreatDoor
open Go.RowKit Word Txt
attribute [local go_sem] setCell_drewN cell?_ext frozen?_ext shape?_ext setCell_ext lt_1' ne_1' en_1' le_1' lt_2' ne_2' en_2' le_2' lt_3' ne_3' en_3' le_3' lt_4' ne_4' en_4' le_4' lt_5' ne_5' en_5' le_5' lt_6' ne_6' en_6' le_6' lt_7' ne_7' en_7' le_7' lt_8' ne_8' en_8' le_8' lt_9' ne_9' en_9' le_9' lt_10' ne_10' en_10' le_10' lt_11' ne_11' en_11' le_11' lt_12' ne_12' en_12' le_12'

theorem owns_below {b n : Nat} {D : DataW Unit} {w w' : World} (h : w.ownsMap Tryz.prog 9 (plainElem Tryz.prog 3) b n D) (hb : Below w.heap.size w w') : w'.ownsMap Tryz.prog 9 (plainElem Tryz.prog 3) b n D :=
  h.kept (row := none) ⟨hb.os, hb.tape, hb.output, hb.size, fun k hk _ => hb.block k hk⟩ (by simp)
/-- where a name stands, by the map of all names -/
theorem at_PM (ns : List ByteArray) (hd : ns.Nodup) (j : Nat) (hj : j < ns.length) (z : DataW Unit) : ∀ k, k ≤ ns.length → j < k → (PM ns k).atKey (.string ns[j].data.toList) z = .lit (.int .i64 (j : Int))
  | 0, _, h => by omega
  | k + 1, hk, h => by
    have hg : ns.getD k ByteArray.empty = ns[k] := by simp [List.getD, List.getElem?_eq_getElem (show k < ns.length by omega)]
    show ((PM ns k).put (.string (ns.getD k ByteArray.empty).data.toList) (.lit (.int .i64 (k : Int)))).atKey _ z = _
    rw [hg]
    by_cases e : j = k
    · subst e
      exact Maps.atKey_put_same (tidy_PM ns j).isMap (key_is _) _ _
    · rw [Maps.atKey_put_other (key_ne fun h9 => List.pairwise_iff_getElem.1 hd j k hj (by omega) (by omega) h9)]
      exact at_PM ns hd j hj z k (by omega) (by omega)
theorem places_v (n : Nat) (ns : List ByteArray) (nv : Value) (w : World) (hN : NSl n w ns nv) (hl : ns.length ≤ 1048576) (hsz : ∀ x ∈ ns, x.size ≤ 1048576) :
    Calls Tryz.prog 78 #[nv] w fun e w' => e = .returned (.map (some w.heap.size)) ∧ w'.ownsMap Tryz.prog 9 (plainElem Tryz.prog 3) w.heap.size ns.length (PM ns ns.length) ∧ Below w.heap.size w w' := by
  rcases hN with ⟨rfl, p, c, rfl⟩ | ⟨g, o, cap, rfl, _, hg, hr⟩
  · exact places_nil w c p
  · exact places_any ns g o cap w hl hg hr hsz
theorem has_yes {ns : List ByteArray} {s : ByteArray} (hs : s ∈ ns) : Maps.has (PM ns ns.length) (.string s.data.toList) = true := by
  have h := has_PM ns s ns.length (Nat.le_refl _)
  rw [List.take_length] at h
  exact h.2 hs
theorem has_no {ns : List ByteArray} {s : ByteArray} (hs : s ∉ ns) : Maps.has (PM ns ns.length) (.string s.data.toList) = false := by
  have h := has_PM ns s ns.length (Nat.le_refl _)
  rw [List.take_length] at h
  cases hq : Maps.has (PM ns ns.length) (.string s.data.toList)
  · rfl
  · exact absurd (h.1 hq) hs
set_option maxHeartbeats 8000000 in
set_option maxRecDepth 100000 in
theorem eqEntries_any (n : Nat) (yes neg : Bool) (c : Nat) (s : Int) (t : ByteArray) (day : Int) (l : List V) (ns : List ByteArray) (yes' neg' : Bool) (c' : Nat) (s' : Int) (t' : ByteArray) (day' : Int) (l' : List V) (ns' : List ByteArray) (ih : ∀ v ∈ l, EC v) (w : World) (lv nv lv' nv' : Value)
    (hL : VSl n w l lv) (hN : NSl n w ns nv) (hL' : VSl n w l' lv') (hN' : NSl n w ns' nv') (hl : l.length ≤ 1048576) (hl' : l'.length ≤ 1048576) (hsz : ∀ x ∈ ns, x.size ≤ 1048576) (hsz' : ∀ x ∈ ns', x.size ≤ 1048576) (hnw : n ≤ w.heap.size)
    (hf : ∀ v ∈ l, v.form = true) (hf' : ∀ v ∈ l', v.form = true) (hc : ns.length = l.length) (hc' : ns'.length = l'.length) (hd' : ns'.Nodup) :
    Calls Tryz.prog 60 #[VC 6 yes neg c s t day lv nv, VC 6 yes' neg' c' s' t' day' lv' nv'] w fun e w' =>
      e = .returned (TV (if ns.length = ns'.length then eqE (1, true) l ns l' ns' else (1, false)).1 (if ns.length = ns'.length then eqE (1, true) l ns l' ns' else (1, false)).2) ∧ Below w.heap.size w w' := by
  have HTr := Lib.hid (fun b w => truth_any b w)
  have HPL := Lib.hid (fun w' (hb : Below w.heap.size w w') => places_v n ns' nv' w' (hN'.below (hb.mono hnw)) (by omega) hsz')
  obtain ⟨pl, cl, rfl⟩ := hL.shape
  obtain ⟨pn, cn, rfl⟩ := hN.shape
  obtain ⟨pl', cl', rfl⟩ := hL'.shape
  obtain ⟨pn', cn', rfl⟩ := hN'.shape
  by_cases hlen : ns.length = ns'.length
  · rw [if_pos hlen]
    have HX := Lib.hid (fun (i : Nat) (hi : i < l.length) (j : Nat) (hj : j < l'.length) w' (hb : Below w.heap.size w w') (x x' : Value) (h : l[i].At n w' x) (h' : l'[j].At n w' x') => ih l[i] (List.getElem_mem hi) n w' x l'[j] x' h h' (Nat.le_trans hnw hb.size) (hf _ (List.getElem_mem hi)) (hf' _ (List.getElem_mem hj)))
    have HIN := Lib.hid (fun (p : P3) (m : Nat) (h : m < l.length) (hn : m < ns.length) (hi : idx ns' ns[m] < l'.length) => eqE_in p l ns l' ns' m h hn hi)
    have HOUT := Lib.hid (fun (p : P3) (m : Nat) (h : m < l.length) (hn : m < ns.length) (hi : l'.length ≤ idx ns' ns[m]) => eqE_out p l ns l' ns' m h hn hi)
    have HPM := Lib.hid (fun (j : Nat) (hj : j < ns'.length) (z : DataW Unit) => at_PM ns' hd' j hj z ns'.length (Nat.le_refl _) hj)
    obtain ⟨tot, htot⟩ : ∃ tot, tot = eqE (1, true) l ns l' ns' := ⟨_, rfl⟩
    rw [← htot]
    have HTOT := Lib.hid htot
    obtain ⟨len, hln⟩ : ∃ len, l.length = len := ⟨_, rfl⟩
    have hlen2 : l'.length = len := by omega
    have HLN := Lib.hid hln
    have HLM := Lib.hid hlen2
    have HNN := Lib.hid (show ns.length = len by omega)
    have HNM := Lib.hid (show ns'.length = len by omega)
    have HSZ := Lib.hid hsz
    have HA3 := Lib.hid (fun k yes k' yes' w => and3_any' k yes k' yes' w)
    have hc9 := hc
    rw [hln] at hL hl ⊢
    rw [hlen2] at hL' ⊢
    rw [show ns.length = len by omega] at hN ⊢
    rw [show ns'.length = len by omega] at hN' ⊢ HPL
    have HA := Lib.hid hL
    have HB := Lib.hid hL'
    have HAN := Lib.hid hN
    obtain ⟨pm, hpm⟩ : ∃ pm, pm = PM ns' ns'.length := ⟨_, rfl⟩
    rw [HNM.out] at hpm
    rw [← hpm] at HPL
    have HPMV := Lib.hid hpm
    clear hL hL' hN hN' hlen hlen2 hln ih hf hf' htot hl' hsz hsz' hc hc' hd' hc9 hpm
    obtain ⟨ba, hba⟩ : ∃ ba, ba = Obj.cells #[.int .i64 6, .bool yes, .bool neg, .int .u64 (Word.hi c : Int), .int .u64 (lo c : Int), .int .i64 s, .string t, .int .i64 day, .slice pl len cl, .slice pn len cn] 30 := ⟨_, rfl⟩
    obtain ⟨bb, hbb⟩ : ∃ bb, bb = Obj.cells #[.int .i64 6, .bool yes', .bool neg', .int .u64 (Word.hi c' : Int), .int .u64 (lo c' : Int), .int .i64 s', .string t', .int .i64 day', .slice pl' len cl', .slice pn' len cn'] 30 := ⟨_, rfl⟩
    go_enter Tryz.func60, Tryz.ntmps60
    go_wp2_with (first
      | (go_at_call 78; (with_reducible refine (HPL.out _ (by (repeat' (first | (with_reducible exact Below.refl _ _) | (with_reducible assumption) | (with_reducible refine Below.alloc ?_ ?_ _) | (with_reducible refine below_drewN ?_ _) | (with_reducible refine below_drew ?_) | (with_reducible refine below_ext ?_ ?_ _ _) | (with_reducible refine Below.setCell ?_ ?_ _) | (simp; done) | (simp; omega) | omega)))).mono ?_); rintro e w1 ⟨rfl, hown, hb1⟩; have HOWN := Lib.hid (fun w' hb => owns_below (show w1.ownsMap Tryz.prog 9 (plainElem Tryz.prog 3) (w.heap.size + 1 + 1 + 1) len pm by simpa using hown) (w' := w') hb); clear hown; obtain ⟨osB, dB, rfl⟩ := ext_of_below hb1; clear hb1)
      | (go_at_call 39; ((with_reducible refine (HTr.out _ _).mono ?_); rintro e w1 ⟨rfl, hb1⟩; obtain ⟨osA, dA, rfl⟩ := ext_of_below hb1; clear hb1)))
    rw [← hba, ← hbb]
    go_loopw [26] (fun i wr => ∃ (m : Nat) (p : P3), m ≤ len ∧ i = .int .i64 m ∧ (∃ (os : Array Obj) (d : Nat), wr = ext ((ext (ext (((w.alloc ba).alloc bb).alloc (.cells #[.int .i64 0, .bool false, .bool false, .int .u64 0, .int .u64 0, .int .i64 0, .string ⟨#[]⟩, .int .i64 0, .slice none 0 0, .slice none 0 0] 30)) osB dB) osA dA).alloc (.cells #[.int .i64 p.1, .bool p.2, .bool false, .int .u64 0, .int .u64 0, .int .i64 0, .string ⟨#[]⟩, .int .i64 0, .slice none 0 0, .slice none 0 0] 30)) os d) ∧ eqE p (l.drop m) (ns.drop m) l' ns' = tot) (fun i _ => len - (intOf i).toNat)
    case atStart => exact ⟨0, (1, true), by omega, rfl, ⟨_, _, ext_here _⟩, by rw [HTOT.out]; rfl⟩
    case round =>
      obtain ⟨m, ⟨pk, py⟩, hm, rfl, ⟨osR, dR, rfl⟩, hs0⟩ := hrel
      have HS := Lib.hid hs0
      clear hs0
      by_cases hml : m < len
      · have hi : (m : Int) < len := by omega
        have h1 : m < l.length := by have := HLN.out; omega
        have h2 : m < ns.length := by have := HNN.out; omega
        obtain ⟨gn, on, rfl, hgn, hrn⟩ : ∃ g o, pn = some ⟨g, o, none⟩ ∧ g < w.heap.size ∧ NamesAt w g ns o := by
          rcases HAN.out with ⟨h, _⟩ | ⟨g, o, cap, h, _, hg, hr⟩
          · rw [h] at h2; simp at h2
          · simp only [Value.slice.injEq] at h; exact ⟨g, o, h.1, hg, hr⟩
        obtain ⟨sn, hsn⟩ : ∃ sn, sn = ns[m] := ⟨_, rfl⟩
        have cn1 : w.cell? ⟨gn, on + m, none⟩ = some (.string sn) := by rw [hsn]; exact hrn.get m h2
        have hkey : keyOf Tryz.prog 9 (.string sn) = some (.string sn.data.toList) := WideMaps.keyOf_string_mk Tryz.underlying9 (by rw [hsn]; have := HSZ.out _ (List.getElem_mem h2); unfold maxLen; omega)
        have HSN := Lib.hid hsn
        have hn3 : gn < w.heap.size + 1 := by omega
        have hn4 : gn < w.heap.size + 1 + 1 := by omega
        have hn5 : gn < w.heap.size + 1 + 1 + 1 := by omega
        have hn6 : gn < w.heap.size + 1 + 1 + 1 + osB.size + osA.size + 1 := by omega
        have hn1 : gn < w.heap.size + 1 + 1 + 1 + osB.size := by omega
        have hn2 : gn < w.heap.size + 1 + 1 + 1 + osB.size + osA.size := by omega
        clear hsn hrn
        by_cases hmem : sn ∈ ns'
        · obtain ⟨j, hj⟩ : ∃ j, j = idx ns' sn := ⟨_, rfl⟩
          have hjl : j < ns'.length := by rw [hj]; exact idx_mem hmem
          have hjn : ns'[j] = sn := by subst hj; exact idx_get _
          have hjl2 : j < l'.length := by have := HLM.out; have := HNM.out; omega
          have hji : (j : Int) < len := by have := HLM.out; omega
          have hhas : Maps.has pm (.string sn.data.toList) = true := by rw [HPMV.out, ← HNM.out]; exact has_yes hmem
          have HAT := Lib.hid (show pm.atKey (.string sn.data.toList) (.lit (.int .i64 0)) = .lit (.int .i64 (j : Int)) by rw [HPMV.out, ← HNM.out, ← hjn]; exact HPM.out j hjl _)
          obtain ⟨g, o, rfl, hg, hr⟩ : ∃ g o, pl = some ⟨g, o, none⟩ ∧ g < w.heap.size ∧ RowAt n w g l o := by
            rcases HA.out with ⟨h, _⟩ | ⟨g, o, cap, h, _, hg, hr⟩
            · rw [h] at h1; simp at h1
            · simp only [Value.slice.injEq] at h; exact ⟨g, o, h.1, hg, hr⟩
          obtain ⟨g', o', rfl, hg', hr'⟩ : ∃ g o, pl' = some ⟨g, o, none⟩ ∧ g < w.heap.size ∧ RowAt n w g l' o := by
            rcases HB.out with ⟨h, _⟩ | ⟨g, o, cap, h, _, hg, hr⟩
            · rw [h] at hjl2; simp at hjl2
            · simp only [Value.slice.injEq] at h; exact ⟨g, o, h.1, hg, hr⟩
          obtain ⟨k1, yes1, neg1, a1, b1, s1, t1, day1, pl1, nl1, cl1, pn1, nn1, cn1', u0, u1, u2, u3, u4, u5, u6, u7, u8, u9, hat1⟩ := hr.elem m h1
          obtain ⟨k2, yes2, neg2, a2, b2, s2, t2, day2, pl2, nl2, cl2, pn2, nn2, cn2, z0, z1, z2, z3, z4, z5, z6, z7, z8, z9, hat2⟩ := hr'.elem j hjl2
          have HE := Lib.hid (fun w' (hb2 : Below w.heap.size w w') => HX.out m h1 j hjl2 w' hb2 _ _ (hat1.below (hb2.mono hnw)) (hat2.below (hb2.mono hnw)))
          obtain ⟨q, hq⟩ : ∃ q, q = l[m].eq3 l'[j] := ⟨_, rfl⟩
          rw [← hq] at HE
          have HN := Lib.hid (show eqE (and3 (pk, py) q) (l.drop (m + 1)) (ns.drop (m + 1)) l' ns' = tot by
            have e9 := HIN.out (pk, py) m h1 h2 (by rw [← HSN.out, ← hj]; exact hjl2)
            rw [← HS.out, e9, hq]
            congr 2
            simp only [← HSN.out, ← hj])
          obtain ⟨qk, qy⟩ := q
          have HK := Lib.hid (fun w' (hb : Below (w.heap.size + 1 + 1) ((w.alloc ba).alloc bb) w') => show w'.cell? ⟨w.heap.size, 8, none⟩ = some (.slice (some ⟨g, o, none⟩) len cl) ∧ w'.cell? ⟨w.heap.size + 1, 8, none⟩ = some (.slice (some ⟨g', o', none⟩) len cl') ∧ w'.cell? ⟨g, o + m * 10, none⟩ = some (.int .i64 k1) ∧ w'.cell? ⟨g, o + m * 10 + 1, none⟩ = some (.bool yes1) ∧ w'.cell? ⟨g, o + m * 10 + 2, none⟩ = some (.bool neg1) ∧ w'.cell? ⟨g, o + m * 10 + 3, none⟩ = some (.int .u64 a1) ∧ w'.cell? ⟨g, o + m * 10 + 4, none⟩ = some (.int .u64 b1) ∧ w'.cell? ⟨g, o + m * 10 + 5, none⟩ = some (.int .i64 s1) ∧ w'.cell? ⟨g, o + m * 10 + 6, none⟩ = some (.string t1) ∧ w'.cell? ⟨g, o + m * 10 + 7, none⟩ = some (.int .i64 day1) ∧ w'.cell? ⟨g, o + m * 10 + 8, none⟩ = some (.slice pl1 nl1 cl1) ∧ w'.cell? ⟨g, o + m * 10 + 9, none⟩ = some (.slice pn1 nn1 cn1') ∧ w'.cell? ⟨g', o' + j * 10, none⟩ = some (.int .i64 k2) ∧ w'.cell? ⟨g', o' + j * 10 + 1, none⟩ = some (.bool yes2) ∧ w'.cell? ⟨g', o' + j * 10 + 2, none⟩ = some (.bool neg2) ∧ w'.cell? ⟨g', o' + j * 10 + 3, none⟩ = some (.int .u64 a2) ∧ w'.cell? ⟨g', o' + j * 10 + 4, none⟩ = some (.int .u64 b2) ∧ w'.cell? ⟨g', o' + j * 10 + 5, none⟩ = some (.int .i64 s2) ∧ w'.cell? ⟨g', o' + j * 10 + 6, none⟩ = some (.string t2) ∧ w'.cell? ⟨g', o' + j * 10 + 7, none⟩ = some (.int .i64 day2) ∧ w'.cell? ⟨g', o' + j * 10 + 8, none⟩ = some (.slice pl2 nl2 cl2) ∧ w'.cell? ⟨g', o' + j * 10 + 9, none⟩ = some (.slice pn2 nn2 cn2) from (fun (hw : Below w.heap.size w w') => ⟨(hb.cell (p := ⟨w.heap.size, 8, none⟩) (by show w.heap.size < _; omega)).trans (by rw [hba]; simp [go_sem]), (hb.cell (p := ⟨w.heap.size + 1, 8, none⟩) (by show w.heap.size + 1 < _; omega)).trans (by rw [hbb]; simp [go_sem]), (hw.cell (p := ⟨g, _, none⟩) hg).trans u0, (hw.cell (p := ⟨g, _, none⟩) hg).trans u1, (hw.cell (p := ⟨g, _, none⟩) hg).trans u2, (hw.cell (p := ⟨g, _, none⟩) hg).trans u3, (hw.cell (p := ⟨g, _, none⟩) hg).trans u4, (hw.cell (p := ⟨g, _, none⟩) hg).trans u5, (hw.cell (p := ⟨g, _, none⟩) hg).trans u6, (hw.cell (p := ⟨g, _, none⟩) hg).trans u7, (hw.cell (p := ⟨g, _, none⟩) hg).trans u8, (hw.cell (p := ⟨g, _, none⟩) hg).trans u9, (hw.cell (p := ⟨g', _, none⟩) hg').trans z0, (hw.cell (p := ⟨g', _, none⟩) hg').trans z1, (hw.cell (p := ⟨g', _, none⟩) hg').trans z2, (hw.cell (p := ⟨g', _, none⟩) hg').trans z3, (hw.cell (p := ⟨g', _, none⟩) hg').trans z4, (hw.cell (p := ⟨g', _, none⟩) hg').trans z5, (hw.cell (p := ⟨g', _, none⟩) hg').trans z6, (hw.cell (p := ⟨g', _, none⟩) hg').trans z7, (hw.cell (p := ⟨g', _, none⟩) hg').trans z8, (hw.cell (p := ⟨g', _, none⟩) hg').trans z9⟩) (Below.trans (Below.alloc (Below.alloc (Below.refl _ _) (Nat.le_refl _) _) (by simp) _) (hb.mono (by omega))))
          clear hat1 hat2 hq HX hr hr' HA HB HAN hj hjn hjl hjl2 hmem HSN h1 h2 HS u0 u1 u2 u3 u4 u5 u6 u7 u8 u9 z0 z1 z2 z3 z4 z5 z6 z7 z8 z9
          subst hba hbb
          go_upto_region 11 with (first
            | (at_lookup; refine wpList_lookup_own_ok_int _ rfl _ _ 81 rfl 9 3 .i64 nmLaw Tryz.underlying81 Tryz.underlying3 (zeroInt _) (w.heap.size + 1 + 1 + 1) len pm rfl (HOWN.out _ (by (repeat' (first | (with_reducible exact Below.refl _ _) | (with_reducible assumption) | (with_reducible refine Below.alloc ?_ ?_ _) | (with_reducible refine below_drewN ?_ _) | (with_reducible refine below_drew ?_) | (with_reducible refine below_ext ?_ ?_ _ _) | (with_reducible refine Below.setCell ?_ ?_ _) | (simp; done) | (simp; omega) | omega)))) _ _ rfl hkey ?_; intro cc hcc hwc; obtain rfl : cc = (j : Int) := (by have h9 := HAT.out.symm.trans hcc; simp at h9; exact h9.symm); clear hcc hwc))
          /-GEN-/
          refine wp_region_held_drew (S := fun w' => w'.cell? ⟨w.heap.size, 8, none⟩ = some (.slice (some ⟨g, o, none⟩) len cl) ∧ w'.cell? ⟨w.heap.size + 1, 8, none⟩ = some (.slice (some ⟨g', o', none⟩) len cl') ∧ w'.cell? ⟨g, o + m * 10, none⟩ = some (.int .i64 k1) ∧ w'.cell? ⟨g, o + m * 10 + 1, none⟩ = some (.bool yes1) ∧ w'.cell? ⟨g, o + m * 10 + 2, none⟩ = some (.bool neg1) ∧ w'.cell? ⟨g, o + m * 10 + 3, none⟩ = some (.int .u64 a1) ∧ w'.cell? ⟨g, o + m * 10 + 4, none⟩ = some (.int .u64 b1) ∧ w'.cell? ⟨g, o + m * 10 + 5, none⟩ = some (.int .i64 s1) ∧ w'.cell? ⟨g, o + m * 10 + 6, none⟩ = some (.string t1) ∧ w'.cell? ⟨g, o + m * 10 + 7, none⟩ = some (.int .i64 day1) ∧ w'.cell? ⟨g, o + m * 10 + 8, none⟩ = some (.slice pl1 nl1 cl1) ∧ w'.cell? ⟨g, o + m * 10 + 9, none⟩ = some (.slice pn1 nn1 cn1') ∧ w'.cell? ⟨g', o' + j * 10, none⟩ = some (.int .i64 k2) ∧ w'.cell? ⟨g', o' + j * 10 + 1, none⟩ = some (.bool yes2) ∧ w'.cell? ⟨g', o' + j * 10 + 2, none⟩ = some (.bool neg2) ∧ w'.cell? ⟨g', o' + j * 10 + 3, none⟩ = some (.int .u64 a2) ∧ w'.cell? ⟨g', o' + j * 10 + 4, none⟩ = some (.int .u64 b2) ∧ w'.cell? ⟨g', o' + j * 10 + 5, none⟩ = some (.int .i64 s2) ∧ w'.cell? ⟨g', o' + j * 10 + 6, none⟩ = some (.string t2) ∧ w'.cell? ⟨g', o' + j * 10 + 7, none⟩ = some (.int .i64 day2) ∧ w'.cell? ⟨g', o' + j * 10 + 8, none⟩ = some (.slice pl2 nl2 cl2) ∧ w'.cell? ⟨g', o' + j * 10 + 9, none⟩ = some (.slice pn2 nn2 cn2)) (by kernel_rfl) ?hSa (fun hHeld => ?resta)
          case hSa => ((try dsimp only); exact HK.out _ (by (repeat' (first | (with_reducible exact Below.refl _ _) | (with_reducible assumption) | (with_reducible refine Below.alloc ?_ ?_ _) | (with_reducible refine below_drewN ?_ _) | (with_reducible refine below_drew ?_) | (with_reducible refine below_ext ?_ ?_ _ _) | (with_reducible refine Below.setCell ?_ ?_ _) | (simp; done) | (simp; omega) | omega))))
          refine wpAnyH_take (i := 1) (oi := ({ dst := some 41, op := Op.fieldAddr 30 (Operand.tmp 2) 5, type := 0, pos := "logic.go:137", after := #[], guard := none } : Oper)) (v := ?v1) rfl (by kernel_rfl) (by kernel_rfl) (by kernel_rfl) (fun _ _ _ h => h) (Or.inl ⟨by rfl, ?hy1⟩) (by assumption) ?re1
          case hy1 => (intro w hSw; (try dsimp only at hSw); go_simp; try with_reducible rfl)
          (try simp only [Act.put, List.setIfInBounds_toArray, List.set_cons_zero, List.set_cons_succ])
          refine wpAnyH_take (i := 2) (oi := ({ dst := some 42, op := Op.load 27 (Operand.tmp 41), type := 27, pos := "logic.go:137", after := #[{ on := 1, ground := Ground.data }], guard := none } : Oper)) (v := ?v2) rfl (by kernel_rfl) (by kernel_rfl) (by kernel_rfl) (fun _ _ _ h => h) (Or.inl ⟨by rfl, ?hy2⟩) (by assumption) ?re2
          case hy2 => (intro w hSw; (try dsimp only at hSw); go_simp; try with_reducible rfl)
          (try simp only [Act.put, List.setIfInBounds_toArray, List.set_cons_zero, List.set_cons_succ])
          refine wpAnyH_take (i := 3) (oi := ({ dst := some 43, op := Op.move (Operand.tmp 7), type := 3, pos := "logic.go:137", after := #[], guard := none } : Oper)) (v := ?v3) rfl (by kernel_rfl) (by kernel_rfl) (by kernel_rfl) (fun _ _ _ h => h) (Or.inl ⟨by rfl, ?hy3⟩) (by assumption) ?re3
          case hy3 => (intro w hSw; (try dsimp only at hSw); go_simp; try with_reducible rfl)
          (try simp only [Act.put, List.setIfInBounds_toArray, List.set_cons_zero, List.set_cons_succ])
          refine wpAnyH_take (i := 4) (oi := ({ dst := some 44, op := Op.indexAddr 27 (Operand.tmp 42) (Operand.tmp 43), type := 0, pos := "logic.go:137", after := #[{ on := 2, ground := Ground.data }, { on := 3, ground := Ground.data }], guard := none } : Oper)) (v := ?v4) rfl (by kernel_rfl) (by kernel_rfl) (by kernel_rfl) (fun _ _ _ h => h) (Or.inl ⟨by rfl, ?hy4⟩) (by assumption) ?re4
          case hy4 => (intro w hSw; (try dsimp only at hSw); go_simp; try with_reducible rfl)
          (try simp only [Act.put, List.setIfInBounds_toArray, List.set_cons_zero, List.set_cons_succ])
          refine wpAnyH_take (i := 5) (oi := ({ dst := some 45, op := Op.load 30 (Operand.tmp 44), type := 30, pos := "logic.go:137", after := #[{ on := 4, ground := Ground.data }], guard := none } : Oper)) (v := ?v5) rfl (by kernel_rfl) (by kernel_rfl) (by kernel_rfl) (fun _ _ _ h => h) (Or.inl ⟨by rfl, ?hy5⟩) (by assumption) ?re5
          case hy5 => (intro w hSw; (try dsimp only at hSw); go_simp; try with_reducible rfl)
          (try simp only [Act.put, List.setIfInBounds_toArray, List.set_cons_zero, List.set_cons_succ])
          refine wpAnyH_take (i := 6) (oi := ({ dst := some 46, op := Op.fieldAddr 30 (Operand.tmp 3) 5, type := 0, pos := "logic.go:137", after := #[], guard := none } : Oper)) (v := ?v6) rfl (by kernel_rfl) (by kernel_rfl) (by kernel_rfl) (fun _ _ _ h => h) (Or.inl ⟨by rfl, ?hy6⟩) (by assumption) ?re6
          case hy6 => (intro w hSw; (try dsimp only at hSw); go_simp; try with_reducible rfl)
          (try simp only [Act.put, List.setIfInBounds_toArray, List.set_cons_zero, List.set_cons_succ])
          refine wpAnyH_take (i := 7) (oi := ({ dst := some 47, op := Op.load 27 (Operand.tmp 46), type := 27, pos := "logic.go:137", after := #[{ on := 6, ground := Ground.data }], guard := none } : Oper)) (v := ?v7) rfl (by kernel_rfl) (by kernel_rfl) (by kernel_rfl) (fun _ _ _ h => h) (Or.inl ⟨by rfl, ?hy7⟩) (by assumption) ?re7
          case hy7 => (intro w hSw; (try dsimp only at hSw); go_simp; try with_reducible rfl)
          (try simp only [Act.put, List.setIfInBounds_toArray, List.set_cons_zero, List.set_cons_succ])
          refine wpAnyH_take (i := 8) (oi := ({ dst := some 48, op := Op.move (Operand.tmp 9), type := 3, pos := "logic.go:137", after := #[], guard := none } : Oper)) (v := ?v8) rfl (by kernel_rfl) (by kernel_rfl) (by kernel_rfl) (fun _ _ _ h => h) (Or.inl ⟨by rfl, ?hy8⟩) (by assumption) ?re8
          case hy8 => (intro w hSw; (try dsimp only at hSw); go_simp; try with_reducible rfl)
          (try simp only [Act.put, List.setIfInBounds_toArray, List.set_cons_zero, List.set_cons_succ])
          refine wpAnyH_take (i := 9) (oi := ({ dst := some 49, op := Op.indexAddr 27 (Operand.tmp 47) (Operand.tmp 48), type := 0, pos := "logic.go:137", after := #[{ on := 7, ground := Ground.data }, { on := 8, ground := Ground.data }], guard := none } : Oper)) (v := ?v9) rfl (by kernel_rfl) (by kernel_rfl) (by kernel_rfl) (fun _ _ _ h => h) (Or.inl ⟨by rfl, ?hy9⟩) (by assumption) ?re9
          case hy9 => (intro w hSw; (try dsimp only at hSw); go_simp; try with_reducible rfl)
          (try simp only [Act.put, List.setIfInBounds_toArray, List.set_cons_zero, List.set_cons_succ])
          refine wpAnyH_take (i := 10) (oi := ({ dst := some 50, op := Op.load 30 (Operand.tmp 49), type := 30, pos := "logic.go:137", after := #[{ on := 9, ground := Ground.data }], guard := none } : Oper)) (v := ?v10) rfl (by kernel_rfl) (by kernel_rfl) (by kernel_rfl) (fun _ _ _ h => h) (Or.inl ⟨by rfl, ?hy10⟩) (by assumption) ?re10
          case hy10 => (intro w hSw; (try dsimp only at hSw); go_simp; try with_reducible rfl)
          (try simp only [Act.put, List.setIfInBounds_toArray, List.set_cons_zero, List.set_cons_succ])
          refine wpAnyH_ready (rs := [0, 11]) (by kernel_rfl) (by simp) ?_
          refine AllReadyH.cons (o := ({ dst := some 40, op := Op.load 30 (Operand.tmp 6), type := 30, pos := "logic.go:137", after := #[], guard := none } : Oper)) rfl (fun K hK => ?_) ?_
          · go_simp
            refine hK.out _ _ ?hS11 (fun hHeld => ?rst11)
            case hS11 => ((try dsimp only); exact HK.out _ (by (repeat' (first | (with_reducible exact Below.refl _ _) | (with_reducible assumption) | (with_reducible refine Below.alloc ?_ ?_ _) | (with_reducible refine below_drewN ?_ _) | (with_reducible refine below_drew ?_) | (with_reducible refine below_ext ?_ ?_ _ _) | (with_reducible refine Below.setCell ?_ ?_ _) | (simp; done) | (simp; omega) | omega))))
            clear hK K
            (try simp only [Act.put, List.setIfInBounds_toArray, List.set_cons_zero, List.set_cons_succ])
            refine wpAnyH_ready (rs := [11]) (by kernel_rfl) (by simp) ?_
            refine AllReadyH.cons (o := ({ dst := some 51, op := Op.call { callee := Callee.value (Operand.func 36), args := #[Operand.tmp 45, Operand.tmp 50], argTypes := #[30, 30] }, type := 30, pos := "logic.go:137", after := #[{ on := 5, ground := Ground.data }, { on := 10, ground := Ground.data }], guard := none } : Oper)) rfl (fun K hK => ?_) AllReadyH.nil
            go_simp
            (go_at_call 36; ((with_reducible refine (HE.out _ (by (repeat' (first | (with_reducible exact Below.refl _ _) | (with_reducible assumption) | (with_reducible refine Below.alloc ?_ ?_ _) | (with_reducible refine below_drewN ?_ _) | (with_reducible refine below_drew ?_) | (with_reducible refine below_ext ?_ ?_ _ _) | (with_reducible refine Below.setCell ?_ ?_ _) | (simp; done) | (simp; omega) | omega)))).mono ?_); rintro e w1 ⟨rfl, hb1⟩; obtain ⟨osC, dC, rfl⟩ := ext_of_below hb1; clear hb1))
            refine hK.out _ _ ?hS12 (fun hHeld => ?rst12)
            case hS12 => ((try dsimp only); exact HK.out _ (by (repeat' (first | (with_reducible exact Below.refl _ _) | (with_reducible assumption) | (with_reducible refine Below.alloc ?_ ?_ _) | (with_reducible refine below_drewN ?_ _) | (with_reducible refine below_drew ?_) | (with_reducible refine below_ext ?_ ?_ _ _) | (with_reducible refine Below.setCell ?_ ?_ _) | (simp; done) | (simp; omega) | omega))))
            clear hK K
            refine wpAnyH_ready (rs := [12]) (by kernel_rfl) (by simp) ?_
            refine AllReadyH.cons (o := ({ dst := some 52, op := Op.call { callee := Callee.value (Operand.func 41), args := #[Operand.tmp 40, Operand.tmp 51], argTypes := #[30, 30] }, type := 30, pos := "logic.go:137", after := #[{ on := 0, ground := Ground.data }, { on := 11, ground := Ground.data }, { on := 11, ground := Ground.chain }], guard := none } : Oper)) rfl (fun K hK => ?_) AllReadyH.nil
            go_simp
            (go_at_call 41; ((with_reducible refine (HA3.out _ _ _ _ _).mono ?_); rintro e w1 ⟨rfl, hb1⟩; obtain ⟨osD, dD, rfl⟩ := ext_of_below hb1; clear hb1))
            refine hK.out _ _ ?hS13 (fun hHeld => ?rst13)
            case hS13 => ((try dsimp only); exact HK.out _ (by (repeat' (first | (with_reducible exact Below.refl _ _) | (with_reducible assumption) | (with_reducible refine Below.alloc ?_ ?_ _) | (with_reducible refine below_drewN ?_ _) | (with_reducible refine below_drew ?_) | (with_reducible refine below_ext ?_ ?_ _ _) | (with_reducible refine Below.setCell ?_ ?_ _) | (simp; done) | (simp; omega) | omega))))
            clear hK K
            refine wpAnyH_ready (rs := [13]) (by kernel_rfl) (by simp) ?_
            refine AllReadyH.cons (o := ({ dst := none, op := Op.store 30 (Operand.tmp 6) (Operand.tmp 52), type := 0, pos := "logic.go:137", after := #[{ on := 12, ground := Ground.data }, { on := 12, ground := Ground.chain }, { on := 0, ground := Ground.phase }, { on := 1, ground := Ground.phase }, { on := 2, ground := Ground.phase }, { on := 3, ground := Ground.phase }, { on := 4, ground := Ground.phase }, { on := 5, ground := Ground.phase }, { on := 6, ground := Ground.phase }, { on := 7, ground := Ground.phase }, { on := 8, ground := Ground.phase }, { on := 9, ground := Ground.phase }, { on := 10, ground := Ground.phase }, { on := 11, ground := Ground.phase }, { on := 12, ground := Ground.phase }], guard := none } : Oper)) rfl (fun K hK => ?_) AllReadyH.nil
            go_simp
            refine hK.out _ _ ?hS14 (fun hHeld => ?rst14)
            case hS14 => ((try dsimp only); exact HK.out _ (by (repeat' (first | (with_reducible exact Below.refl _ _) | (with_reducible assumption) | (with_reducible refine Below.alloc ?_ ?_ _) | (with_reducible refine below_drewN ?_ _) | (with_reducible refine below_drew ?_) | (with_reducible refine below_ext ?_ ?_ _ _) | (with_reducible refine Below.setCell ?_ ?_ _) | (simp; done) | (simp; omega) | omega))))
            clear hK K
            refine wpAnyH_done (by kernel_rfl) ?_ _
            go_wp2
            go_roundw
            case rel => exact ⟨m + 1, and3 (pk, py) (qk, qy), by omega, by go_num, ext_of_below (by (repeat' (first | (with_reducible exact Below.refl _ _) | (with_reducible assumption) | (with_reducible refine Below.alloc ?_ ?_ _) | (with_reducible refine below_drewN ?_ _) | (with_reducible refine below_drew ?_) | (with_reducible refine below_ext ?_ ?_ _ _) | (with_reducible refine Below.setCell ?_ ?_ _) | (simp; done) | (simp; omega) | omega))), HN.out⟩
            case measure => simp [intOf]; omega
          refine AllReadyH.cons (o := ({ dst := some 51, op := Op.call { callee := Callee.value (Operand.func 36), args := #[Operand.tmp 45, Operand.tmp 50], argTypes := #[30, 30] }, type := 30, pos := "logic.go:137", after := #[{ on := 5, ground := Ground.data }, { on := 10, ground := Ground.data }], guard := none } : Oper)) rfl (fun K hK => ?_) ?_
          · go_simp
            (go_at_call 36; ((with_reducible refine (HE.out _ (by (repeat' (first | (with_reducible exact Below.refl _ _) | (with_reducible assumption) | (with_reducible refine Below.alloc ?_ ?_ _) | (with_reducible refine below_drewN ?_ _) | (with_reducible refine below_drew ?_) | (with_reducible refine below_ext ?_ ?_ _ _) | (with_reducible refine Below.setCell ?_ ?_ _) | (simp; done) | (simp; omega) | omega)))).mono ?_); rintro e w1 ⟨rfl, hb1⟩; obtain ⟨osC, dC, rfl⟩ := ext_of_below hb1; clear hb1))
            refine hK.out _ _ ?hS15 (fun hHeld => ?rst15)
            case hS15 => ((try dsimp only); exact HK.out _ (by (repeat' (first | (with_reducible exact Below.refl _ _) | (with_reducible assumption) | (with_reducible refine Below.alloc ?_ ?_ _) | (with_reducible refine below_drewN ?_ _) | (with_reducible refine below_drew ?_) | (with_reducible refine below_ext ?_ ?_ _ _) | (with_reducible refine Below.setCell ?_ ?_ _) | (simp; done) | (simp; omega) | omega))))
            clear hK K
            refine wpAnyH_ready (rs := [0]) (by kernel_rfl) (by simp) ?_
            refine AllReadyH.cons (o := ({ dst := some 40, op := Op.load 30 (Operand.tmp 6), type := 30, pos := "logic.go:137", after := #[], guard := none } : Oper)) rfl (fun K hK => ?_) AllReadyH.nil
            go_simp
            refine hK.out _ _ ?hS16 (fun hHeld => ?rst16)
            case hS16 => ((try dsimp only); exact HK.out _ (by (repeat' (first | (with_reducible exact Below.refl _ _) | (with_reducible assumption) | (with_reducible refine Below.alloc ?_ ?_ _) | (with_reducible refine below_drewN ?_ _) | (with_reducible refine below_drew ?_) | (with_reducible refine below_ext ?_ ?_ _ _) | (with_reducible refine Below.setCell ?_ ?_ _) | (simp; done) | (simp; omega) | omega))))
            clear hK K
            (try simp only [Act.put, List.setIfInBounds_toArray, List.set_cons_zero, List.set_cons_succ])
            refine wpAnyH_ready (rs := [12]) (by kernel_rfl) (by simp) ?_
            refine AllReadyH.cons (o := ({ dst := some 52, op := Op.call { callee := Callee.value (Operand.func 41), args := #[Operand.tmp 40, Operand.tmp 51], argTypes := #[30, 30] }, type := 30, pos := "logic.go:137", after := #[{ on := 0, ground := Ground.data }, { on := 11, ground := Ground.data }, { on := 11, ground := Ground.chain }], guard := none } : Oper)) rfl (fun K hK => ?_) AllReadyH.nil
            go_simp
            (go_at_call 41; ((with_reducible refine (HA3.out _ _ _ _ _).mono ?_); rintro e w1 ⟨rfl, hb1⟩; obtain ⟨osD, dD, rfl⟩ := ext_of_below hb1; clear hb1))
            refine hK.out _ _ ?hS17 (fun hHeld => ?rst17)
            case hS17 => ((try dsimp only); exact HK.out _ (by (repeat' (first | (with_reducible exact Below.refl _ _) | (with_reducible assumption) | (with_reducible refine Below.alloc ?_ ?_ _) | (with_reducible refine below_drewN ?_ _) | (with_reducible refine below_drew ?_) | (with_reducible refine below_ext ?_ ?_ _ _) | (with_reducible refine Below.setCell ?_ ?_ _) | (simp; done) | (simp; omega) | omega))))
            clear hK K
            refine wpAnyH_ready (rs := [13]) (by kernel_rfl) (by simp) ?_
            refine AllReadyH.cons (o := ({ dst := none, op := Op.store 30 (Operand.tmp 6) (Operand.tmp 52), type := 0, pos := "logic.go:137", after := #[{ on := 12, ground := Ground.data }, { on := 12, ground := Ground.chain }, { on := 0, ground := Ground.phase }, { on := 1, ground := Ground.phase }, { on := 2, ground := Ground.phase }, { on := 3, ground := Ground.phase }, { on := 4, ground := Ground.phase }, { on := 5, ground := Ground.phase }, { on := 6, ground := Ground.phase }, { on := 7, ground := Ground.phase }, { on := 8, ground := Ground.phase }, { on := 9, ground := Ground.phase }, { on := 10, ground := Ground.phase }, { on := 11, ground := Ground.phase }, { on := 12, ground := Ground.phase }], guard := none } : Oper)) rfl (fun K hK => ?_) AllReadyH.nil
            go_simp
            refine hK.out _ _ ?hS18 (fun hHeld => ?rst18)
            case hS18 => ((try dsimp only); exact HK.out _ (by (repeat' (first | (with_reducible exact Below.refl _ _) | (with_reducible assumption) | (with_reducible refine Below.alloc ?_ ?_ _) | (with_reducible refine below_drewN ?_ _) | (with_reducible refine below_drew ?_) | (with_reducible refine below_ext ?_ ?_ _ _) | (with_reducible refine Below.setCell ?_ ?_ _) | (simp; done) | (simp; omega) | omega))))
            clear hK K
            refine wpAnyH_done (by kernel_rfl) ?_ _
            go_wp2
            go_roundw
            case rel => exact ⟨m + 1, and3 (pk, py) (qk, qy), by omega, by go_num, ext_of_below (by (repeat' (first | (with_reducible exact Below.refl _ _) | (with_reducible assumption) | (with_reducible refine Below.alloc ?_ ?_ _) | (with_reducible refine below_drewN ?_ _) | (with_reducible refine below_drew ?_) | (with_reducible refine below_ext ?_ ?_ _ _) | (with_reducible refine Below.setCell ?_ ?_ _) | (simp; done) | (simp; omega) | omega))), HN.out⟩
            case measure => simp [intOf]; omega
          exact AllReadyH.nil
          /-END-/
        · have hhas : Maps.has pm (.string sn.data.toList) = false := by rw [HPMV.out, ← HNM.out]; exact has_no hmem
          have HN := Lib.hid (show tot = (1, false) by
            rw [← HS.out]
            exact HOUT.out (pk, py) m h1 h2 (by rw [← HSN.out, idx_out hmem]; have := HLM.out; have := HNM.out; omega))
          clear hmem HA HB HAN HX
          subst hba hbb
          go_wp2_with (first
            | (at_lookup; refine wpList_lookup_own_ok_int _ rfl _ _ 81 rfl 9 3 .i64 nmLaw Tryz.underlying81 Tryz.underlying3 (zeroInt _) (w.heap.size + 1 + 1 + 1) len pm rfl (HOWN.out _ (by (repeat' (first | (with_reducible exact Below.refl _ _) | (with_reducible assumption) | (with_reducible refine Below.alloc ?_ ?_ _) | (with_reducible refine below_drewN ?_ _) | (with_reducible refine below_drew ?_) | (with_reducible refine below_ext ?_ ?_ _ _) | (with_reducible refine Below.setCell ?_ ?_ _) | (simp; done) | (simp; omega) | omega)))) _ _ rfl hkey ?_; intro cc hcc hwc)
            | (go_at_call 39; ((with_reducible refine (HTr.out _ _).mono ?_); rintro e w1 ⟨rfl, hb1⟩; obtain ⟨osC, dC, rfl⟩ := ext_of_below hb1; clear hb1)))
          go_returns
          exact ⟨by rw [HN.out], by (repeat' (first | (with_reducible exact Below.refl _ _) | (with_reducible assumption) | (with_reducible refine Below.alloc ?_ ?_ _) | (with_reducible refine below_drewN ?_ _) | (with_reducible refine below_drew ?_) | (with_reducible refine below_ext ?_ ?_ _ _) | (with_reducible refine Below.setCell ?_ ?_ _) | (simp; done) | (simp; omega) | omega))⟩
      · obtain rfl : m = len := by omega
        have hi : ¬ (m : Int) < m := by omega
        have HR := Lib.hid (show tot = (pk, py) by
          rw [← HS.out, ← HLN.out, List.drop_length, eqE_nil])
        subst hba hbb
        go_wp2
        go_returns
        exact ⟨by rw [HR.out], by (repeat' (first | (with_reducible exact Below.refl _ _) | (with_reducible assumption) | (with_reducible refine Below.alloc ?_ ?_ _) | (with_reducible refine below_drewN ?_ _) | (with_reducible refine below_drew ?_) | (with_reducible refine below_ext ?_ ?_ _ _) | (with_reducible refine Below.setCell ?_ ?_ _) | (simp; done) | (simp; omega) | omega))⟩
  · rw [if_neg hlen]
    have hne : ((ns.length : Int) != (ns'.length : Int)) = true := by simp [bne]; omega
    generalize ns.length = a at *
    generalize ns'.length = b at *
    generalize l.length = a2 at *
    generalize l'.length = b2 at *
    clear hL hL' hN hN' ih hf hf' HPL
    go_enter Tryz.func60, Tryz.ntmps60
    go_wp2_with (first
      | (go_at_call 39; ((with_reducible refine (HTr.out _ _).mono ?_); rintro e w1 ⟨rfl, hb1⟩; obtain ⟨osA, dA, rfl⟩ := ext_of_below hb1; clear hb1)))
    go_returns
    exact ⟨rfl, by (repeat' (first | (with_reducible exact Below.refl _ _) | (with_reducible assumption) | (with_reducible refine Below.alloc ?_ ?_ _) | (with_reducible refine below_drewN ?_ _) | (with_reducible refine below_drew ?_) | (with_reducible refine below_ext ?_ ?_ _ _) | (with_reducible refine Below.setCell ?_ ?_ _) | (simp; done) | (simp; omega) | omega))⟩
end Go.Proofs.YtfffjbnbhmohjaaGreatDoor
