/-
  The document's twice: does a text stand twice among the parts?
-/
import Derived.Test.YtpgfgaloagdogaaDoorNodW
namespace Go.Proofs.YtpgfgaloagdogaaDoor
open Go.RowKit Num Word Txt
attribute [local go_sem] setCell_drewN cell?_ext frozen?_ext shape?_ext setCell_ext lt_1' ne_1' en_1' le_1' lt_2' ne_2' en_2' le_2' lt_3' ne_3' en_3' le_3' lt_4' ne_4' en_4' le_4' lt_5' ne_5' en_5' le_5' lt_6' ne_6' en_6' le_6' lt_7' ne_7' en_7' le_7' lt_8' ne_8' en_8' le_8' lt_9' ne_9' en_9' le_9' lt_10' ne_10' en_10' le_10' lt_11' ne_11' en_11' le_11' lt_12' ne_12' en_12' le_12'

theorem getD_of {ps : List Nat} {i : Nat} (h : i < ps.length) : ps.getD i 0 = ps[i] := by
  rw [List.getD_eq_getElem?_getD, List.getElem?_eq_getElem h]; rfl
theorem txA_of {l : List NdD} {a : Nat} (h : a < l.length) : txA l a = l[a].t := by
  unfold txA; rw [List.getElem?_eq_getElem h]; rfl
theorem opA_of {l : List NdD} {a : Nat} (h : a < l.length) : opA l a = l[a].op := by
  unfold opA; rw [List.getElem?_eq_getElem h]; rfl
theorem twice_yes {l : List NdD} {ps : List Nat} {i k : Nat} (hk : k < i) (hi : i < ps.length) (e : txA l (ps.getD i 0) = txA l (ps.getD k 0)) : (!nodupB (ps.map (txA l))) = true := by
  cases h : nodupB (ps.map (txA l)) with
  | false => rfl
  | true =>
    have h2 := (nodup_iff _).1 h
    have h3 := (List.pairwise_iff_getElem.1 h2) k i (by rw [List.length_map]; omega) (by rw [List.length_map]; omega) hk
    rw [List.getElem_map, List.getElem_map] at h3
    rw [getD_of hi, getD_of (by omega)] at e
    exact absurd e.symm h3
theorem twice_no {l : List NdD} {ps : List Nat} (h : ∀ i k, k < i → i < ps.length → txA l (ps.getD i 0) ≠ txA l (ps.getD k 0)) : (!nodupB (ps.map (txA l))) = false := by
  rw [(nodup_iff _).2 (List.pairwise_iff_getElem.2 fun k i hk hi hki => by
    rw [List.length_map] at hk hi
    rw [List.getElem_map, List.getElem_map]
    have h3 := h i k hki hi
    rw [getD_of hi, getD_of hk] at h3
    exact fun e => h3 e.symm)]
  rfl
set_option maxRecDepth 100000 in
set_option maxHeartbeats 4000000 in
theorem rtwice_any (l : List NdD) (n : Nat) (ps : List Nat) (w : World) (v pv : Value) (hv : RL 8 ndE n w v l) (hp : Rd w pv ps) (hlp : ps.length ≤ 1000) (hin : ∀ a ∈ ps, a < l.length) (hll : l.length ≤ 1000) :
    Calls Tryd.prog 28 #[v, pv] w fun e w' => e = .returned (.bool (!nodupB (ps.map (txA l)))) ∧ ∃ d, w' = w.drewN d := by
  obtain ⟨p, c, rfl, h2⟩ := hv
  have HYS := Lib.hid (fun i k hk hi e => twice_yes (l := l) (ps := ps) (i := i) (k := k) hk hi e)
  have HNO := Lib.hid (fun h => twice_no (l := l) (ps := ps) h)
  obtain ⟨R, hR⟩ : ∃ R, R = (!nodupB (ps.map (txA l))) := ⟨_, rfl⟩
  rw [← hR] at HYS HNO ⊢
  clear hR
  have HIN := Lib.hid (show ∀ i, i < ps.length → ps.getD i 0 < l.length from fun i hi => by rw [getD_of hi]; exact hin _ (List.getElem_mem _))
  have HCN := Lib.hid (show ∀ g o, p = some ⟨g, o, none⟩ → ∀ a, a < l.length → w.cell? ⟨g, o + a * 8 + 2, none⟩ = some (.string (txA l a)) from fun g o e a ha => by
    obtain ⟨g2, o2, e2, hg, hc⟩ := h2 (by omega)
    rw [e] at e2
    injection e2 with e2
    injection e2 with e3 e4 _
    subst e3 e4
    obtain ⟨oa, ka, ta, na, ca, sa, da, he, x0, x1, x2, x3, x4, x5, x6, x7⟩ := nd_cells hc a ha
    rw [x2, txA_of ha, he])
  have HPN := Lib.hid (show 0 < l.length → ∃ g o, p = some ⟨g, o, none⟩ from fun h => by obtain ⟨g, o, e, _⟩ := h2 h; exact ⟨g, o, e⟩)
  obtain ⟨pp, cp, rfl, hcp⟩ := hp.form
  have HCP := Lib.hid (show 0 < ps.length → ∃ gp op, pp = some ⟨gp, op, none⟩ ∧ ∀ i, i < ps.length → w.cell? ⟨gp, op + i, none⟩ = some (.int .i64 ((ps.getD i 0 : Nat) : Int)) from fun h => by
    rcases hp with ⟨-, e⟩ | ⟨gp, op, c2, e, -, -, -, h3⟩
    · rw [e] at h; exact absurd h (Nat.lt_irrefl 0)
    · injection e with e1 _ _
      exact ⟨gp, op, e1, fun i hi => by rw [getD_of hi]; exact h3 i hi⟩)
  obtain ⟨pn, hpn⟩ : ∃ pn, pn = ps.length := ⟨_, rfl⟩
  rw [← hpn] at HYS HNO HIN HCP hlp hcp ⊢
  obtain ⟨len, hlen⟩ : ∃ len, len = l.length := ⟨_, rfl⟩
  rw [← hlen] at HIN HCN HPN hll ⊢
  clear h2 hp hin hpn hlen
  obtain ⟨tx, htx⟩ : ∃ tx : Nat → ByteArray, tx = txA l := ⟨_, rfl⟩
  obtain ⟨pa, hpa⟩ : ∃ pa : Nat → Nat, pa = fun i => ps.getD i 0 := ⟨_, rfl⟩
  have HYS := Lib.hid (show ∀ i k, k < i → i < pn → tx (pa i) = tx (pa k) → R = true by rw [htx, hpa]; exact HYS.out)
  have HNO := Lib.hid (show (∀ i k, k < i → i < pn → tx (pa i) ≠ tx (pa k)) → R = false by rw [htx, hpa]; exact HNO.out)
  have HIN := Lib.hid (show ∀ i, i < pn → pa i < len by rw [hpa]; exact HIN.out)
  have HCP := Lib.hid (show 0 < pn → ∃ gp op, pp = some ⟨gp, op, none⟩ ∧ ∀ i, i < pn → w.cell? ⟨gp, op + i, none⟩ = some (.int .i64 (pa i : Int)) by rw [hpa]; exact HCP.out)
  have HCN := Lib.hid (show ∀ g o, p = some ⟨g, o, none⟩ → ∀ a, a < len → w.cell? ⟨g, o + a * 8 + 2, none⟩ = some (.string (tx a)) by rw [htx]; exact HCN.out)
  clear htx hpa
  by_cases hp0 : pn = 0
  · have hR := Lib.hid (HNO.out fun i k _ h => by omega)
    subst hp0
    go_enter Tryd.func28, Tryd.ntmps28
    go_wp2
    go_loopw [5] (fun x wr => x = .int .i64 0 ∧ wr = w) (fun _ _ => 0)
    case atStart => exact ⟨rfl, rfl⟩
    case round =>
      obtain ⟨rfl, rfl⟩ := hrel
      go_wp2
      go_ret
      exact ⟨by rw [hR.out]; rfl, 0, rfl⟩
  · obtain ⟨gp, op, rfl, hcp2⟩ := HCP.out (by omega)
    obtain ⟨g, o, rfl⟩ := HPN.out (by have := HIN.out 0 (by omega); omega)
    have HCN2 := Lib.hid (HCN.out g o rfl)
    have HCP2 := Lib.hid hcp2
    clear HCN HPN HCP hcp2
    go_enter Tryd.func28, Tryd.ntmps28
    go_wp2
    go_loopw [5] (fun x wr => ∃ i d : Nat, x = .int .i64 i ∧ i ≤ pn ∧ wr = w.drewN d ∧ Hid (∀ j k, k < j → j < i → tx (pa j) ≠ tx (pa k))) (fun x _ => pn - (intOf x).toNat)
    case atStart => exact ⟨0, 0, rfl, Nat.zero_le _, rfl, Lib.hid fun j k _ h => absurd h (Nat.not_lt_zero j)⟩
    case round =>
      obtain ⟨i, d, rfl, hi, rfl, hne⟩ := hrel
      by_cases hil : i < pn
      · have hii : (i : Int) < (pn : Int) := by omega
        have c1 := HCP2.out i hil
        have ha := HIN.out i hil
        have c2 := HCN2.out (pa i) ha
        obtain ⟨a, haa⟩ : ∃ a, a = pa i := ⟨_, rfl⟩
        obtain ⟨ta, hta⟩ : ∃ ta, ta = tx a := ⟨_, rfl⟩
        have HTA := Lib.hid (show ta = tx (pa i) by rw [hta, haa])
        rw [← haa] at c1 c2 ha
        rw [← hta] at c2
        clear haa hta
        go_wp2
        go_loopw [6] (fun x wr => ∃ k d : Nat, x = .int .i64 k ∧ k ≤ i ∧ wr = w.drewN d ∧ Hid (∀ k2, k2 < k → tx (pa i) ≠ tx (pa k2))) (fun x _ => i - (intOf x).toNat)
        case atStart => exact ⟨0, _, rfl, Nat.zero_le _, rfl, Lib.hid fun k h => absurd h (Nat.not_lt_zero k)⟩
        case round =>
          obtain ⟨k, d2, rfl, hki, rfl, hne2⟩ := hrel
          by_cases hkl : k < i
          · have hkk : (k : Int) < (i : Int) := by omega
            have c3 := HCP2.out k (by omega)
            have hb := HIN.out k (by omega)
            have c4 := HCN2.out (pa k) hb
            obtain ⟨b, hbb⟩ : ∃ b, b = pa k := ⟨_, rfl⟩
            obtain ⟨tb, htb⟩ : ∃ tb, tb = tx b := ⟨_, rfl⟩
            have HTB := Lib.hid (show tb = tx (pa k) by rw [htb, hbb])
            rw [← hbb] at c3 c4 hb
            rw [← htb] at c4
            clear hbb htb
            have hkp : (k : Int) < (pn : Int) := by omega
            have ha2 : (a : Int) < (len : Int) := by omega
            have hb2 : (b : Int) < (len : Int) := by omega
            go_wp2_with fail
            go_quiet (fail)
            go_wp2_with fail
            · rename_i hq
              have e := dataN_inj (by rw [← ByteArray.toList_eq, ← ByteArray.toList_eq]; exact eq_of_beq hq : ta.data.toList = tb.data.toList)
              have hR := Lib.hid (HYS.out i k hkl hil (by rw [← HTA.out, ← HTB.out]; exact e))
              clear hq e
              go_ret
              exact ⟨by rw [hR.out]; rfl, _, by first | rfl | exact World.drewN_drewN _ _ _⟩
            · rename_i hq
              have HE := Lib.hid (show ta ≠ tb from fun e => by rw [e] at hq; simp at hq)
              clear hq
              refine ⟨⟨k + 1, _, by go_num, by omega, rfl, Lib.hid fun k2 h2 => ?_⟩, by simp [intOf]; omega⟩
              by_cases hj : k2 < k
              · exact hne2.out k2 hj
              · obtain rfl : k2 = k := by omega
                rw [← HTA.out, ← HTB.out]
                exact HE.out
          · obtain rfl : k = i := by omega
            have hkk : ¬ (k : Int) < (k : Int) := by omega
            go_wp2
            go_roundw
            case rel => exact ⟨k + 1, d2, by go_num, by omega, rfl, Lib.hid fun j k2 h1 h2 => by
              by_cases hj : j < k
              · exact hne.out j k2 h1 hj
              · obtain rfl : j = k := by omega
                exact hne2.out k2 h1⟩
            case measure => simp [intOf]; omega
      · obtain rfl : i = pn := by omega
        have hii : ¬ (i : Int) < (i : Int) := by omega
        have hR := Lib.hid (HNO.out fun j k h1 h2 => hne.out j k h1 h2)
        go_wp2
        go_ret
        exact ⟨by rw [hR.out]; rfl, _, by first | rfl | exact World.drewN_drewN _ _ _⟩
end Go.Proofs.YtpgfgaloagdogaaDoor
