/-
  The document's twice: does a text stand twice among the parts?
  The document's Check.
  The document's Places: the parts of each node, of nodes in form.
  The document's Check, walked.
-/
import Derived.Test.YtalahkincccffaaGreatDoorNodW
import Derived.Deep.OwnRows
import Derived.Deep.QuietTactic
import Derived.BigQuiet
import Derived.StillTailTactics
import Derived.BigRegion
namespace Go.Proofs.YtalahkincccffaaGreatDoor
open Go.RowKit Num Word Txt
attribute [local go_sem] setCell_drewN cell?_ext frozen?_ext shape?_ext setCell_ext lt_1' ne_1' en_1' le_1' lt_2' ne_2' en_2' le_2' lt_3' ne_3' en_3' le_3' lt_4' ne_4' en_4' le_4' lt_5' ne_5' en_5' le_5' lt_6' ne_6' en_6' le_6' lt_7' ne_7' en_7' le_7' lt_8' ne_8' en_8' le_8' lt_9' ne_9' en_9' le_9' lt_10' ne_10' en_10' le_10' lt_11' ne_11' en_11' le_11' lt_12' ne_12' en_12' le_12'

theorem getD_of {ps : List Nat} {i : Nat} (h : i < ps.length) : ps.getD i 0 = ps[i] := by
  rw [List.getD_eq_getElem?_getD, List.getElem?_eq_getElem h]; rfl
theorem txA_of {l : List NdD} {a : Nat} (h : a < l.length) : txA l a = l[a].t := by
  unfold txA; rw [List.getElem?_eq_getElem h]; rfl
theorem opA_of {l : List NdD} {a : Nat} (h : a < l.length) : opA l a = l[a].op := by
  unfold opA; rw [List.getElem?_eq_getElem h]; rfl
theorem twice_yes {l : List NdD} {ps : List Nat} {i k : Nat} (hk : k < i) (hi : i < ps.length) (e : txA l (ps.getD i 0) = txA l (ps.getD k 0)) : (!nodupB (ps.map (txA l))) = true := by
  cases h : nodupB (ps.map (txA l)) with
  | false => rfl
  | true =>
    have h2 := (nodup_iff _).1 h
    have h3 := (List.pairwise_iff_getElem.1 h2) k i (by rw [List.length_map]; omega) (by rw [List.length_map]; omega) hk
    rw [List.getElem_map, List.getElem_map] at h3
    rw [getD_of hi, getD_of (by omega)] at e
    exact absurd e.symm h3
theorem twice_no {l : List NdD} {ps : List Nat} (h : ∀ i k, k < i → i < ps.length → txA l (ps.getD i 0) ≠ txA l (ps.getD k 0)) : (!nodupB (ps.map (txA l))) = false := by
  rw [(nodup_iff _).2 (List.pairwise_iff_getElem.2 fun k i hk hi hki => by
    rw [List.length_map] at hk hi
    rw [List.getElem_map, List.getElem_map]
    have h3 := h i k hki hi
    rw [getD_of hi, getD_of hk] at h3
    exact fun e => h3 e.symm)]
  rfl
set_option maxRecDepth 100000 in
set_option maxHeartbeats 4000000 in
theorem rtwice_any (l : List NdD) (n : Nat) (ps : List Nat) (w : World) (v pv : Value) (hv : RL 8 ndE n w v l) (hp : Rd w pv ps) (hlp : ps.length ≤ 1000) (hin : ∀ a ∈ ps, a < l.length) (hll : l.length ≤ 1000) :
    Calls Tryz.prog 24 #[v, pv] w fun e w' => e = .returned (.bool (!nodupB (ps.map (txA l)))) ∧ ∃ d, w' = w.drewN d := by
  obtain ⟨p, c, rfl, h2⟩ := hv
  have HYS := Lib.hid (fun i k hk hi e => twice_yes (l := l) (ps := ps) (i := i) (k := k) hk hi e)
  have HNO := Lib.hid (fun h => twice_no (l := l) (ps := ps) h)
  obtain ⟨R, hR⟩ : ∃ R, R = (!nodupB (ps.map (txA l))) := ⟨_, rfl⟩
  rw [← hR] at HYS HNO ⊢
  clear hR
  have HIN := Lib.hid (show ∀ i, i < ps.length → ps.getD i 0 < l.length from fun i hi => by rw [getD_of hi]; exact hin _ (List.getElem_mem _))
  have HCN := Lib.hid (show ∀ g o, p = some ⟨g, o, none⟩ → ∀ a, a < l.length → w.cell? ⟨g, o + a * 8 + 2, none⟩ = some (.string (txA l a)) from fun g o e a ha => by
    obtain ⟨g2, o2, e2, hg, hc⟩ := h2 (by omega)
    rw [e] at e2
    injection e2 with e2
    injection e2 with e3 e4 _
    subst e3 e4
    obtain ⟨oa, ka, ta, na, ca, sa, da, he, x0, x1, x2, x3, x4, x5, x6, x7⟩ := nd_cells hc a ha
    rw [x2, txA_of ha, he])
  have HPN := Lib.hid (show 0 < l.length → ∃ g o, p = some ⟨g, o, none⟩ from fun h => by obtain ⟨g, o, e, _⟩ := h2 h; exact ⟨g, o, e⟩)
  obtain ⟨pp, cp, rfl, hcp⟩ := hp.form
  have HCP := Lib.hid (show 0 < ps.length → ∃ gp op, pp = some ⟨gp, op, none⟩ ∧ ∀ i, i < ps.length → w.cell? ⟨gp, op + i, none⟩ = some (.int .i64 ((ps.getD i 0 : Nat) : Int)) from fun h => by
    rcases hp with ⟨-, e⟩ | ⟨gp, op, c2, e, -, -, -, h3⟩
    · rw [e] at h; exact absurd h (Nat.lt_irrefl 0)
    · injection e with e1 _ _
      exact ⟨gp, op, e1, fun i hi => by rw [getD_of hi]; exact h3 i hi⟩)
  obtain ⟨pn, hpn⟩ : ∃ pn, pn = ps.length := ⟨_, rfl⟩
  rw [← hpn] at HYS HNO HIN HCP hlp hcp ⊢
  obtain ⟨len, hlen⟩ : ∃ len, len = l.length := ⟨_, rfl⟩
  rw [← hlen] at HIN HCN HPN hll ⊢
  clear h2 hp hin hpn hlen
  obtain ⟨tx, htx⟩ : ∃ tx : Nat → ByteArray, tx = txA l := ⟨_, rfl⟩
  obtain ⟨pa, hpa⟩ : ∃ pa : Nat → Nat, pa = fun i => ps.getD i 0 := ⟨_, rfl⟩
  have HYS := Lib.hid (show ∀ i k, k < i → i < pn → tx (pa i) = tx (pa k) → R = true by rw [htx, hpa]; exact HYS.out)
  have HNO := Lib.hid (show (∀ i k, k < i → i < pn → tx (pa i) ≠ tx (pa k)) → R = false by rw [htx, hpa]; exact HNO.out)
  have HIN := Lib.hid (show ∀ i, i < pn → pa i < len by rw [hpa]; exact HIN.out)
  have HCP := Lib.hid (show 0 < pn → ∃ gp op, pp = some ⟨gp, op, none⟩ ∧ ∀ i, i < pn → w.cell? ⟨gp, op + i, none⟩ = some (.int .i64 (pa i : Int)) by rw [hpa]; exact HCP.out)
  have HCN := Lib.hid (show ∀ g o, p = some ⟨g, o, none⟩ → ∀ a, a < len → w.cell? ⟨g, o + a * 8 + 2, none⟩ = some (.string (tx a)) by rw [htx]; exact HCN.out)
  clear htx hpa
  by_cases hp0 : pn = 0
  · have hR := Lib.hid (HNO.out fun i k _ h => by omega)
    subst hp0
    go_enter Tryz.func24, Tryz.ntmps24
    go_wp2
    go_loopw [5] (fun x wr => x = .int .i64 0 ∧ wr = w) (fun _ _ => 0)
    case atStart => exact ⟨rfl, rfl⟩
    case round =>
      obtain ⟨rfl, rfl⟩ := hrel
      go_wp2
      go_ret
      exact ⟨by rw [hR.out]; rfl, 0, rfl⟩
  · obtain ⟨gp, op, rfl, hcp2⟩ := HCP.out (by omega)
    obtain ⟨g, o, rfl⟩ := HPN.out (by have := HIN.out 0 (by omega); omega)
    have HCN2 := Lib.hid (HCN.out g o rfl)
    have HCP2 := Lib.hid hcp2
    clear HCN HPN HCP hcp2
    go_enter Tryz.func24, Tryz.ntmps24
    go_wp2
    go_loopw [5] (fun x wr => ∃ i d : Nat, x = .int .i64 i ∧ i ≤ pn ∧ wr = w.drewN d ∧ Hid (∀ j k, k < j → j < i → tx (pa j) ≠ tx (pa k))) (fun x _ => pn - (intOf x).toNat)
    case atStart => exact ⟨0, 0, rfl, Nat.zero_le _, rfl, Lib.hid fun j k _ h => absurd h (Nat.not_lt_zero j)⟩
    case round =>
      obtain ⟨i, d, rfl, hi, rfl, hne⟩ := hrel
      by_cases hil : i < pn
      · have hii : (i : Int) < (pn : Int) := by omega
        have c1 := HCP2.out i hil
        have ha := HIN.out i hil
        have c2 := HCN2.out (pa i) ha
        obtain ⟨a, haa⟩ : ∃ a, a = pa i := ⟨_, rfl⟩
        obtain ⟨ta, hta⟩ : ∃ ta, ta = tx a := ⟨_, rfl⟩
        have HTA := Lib.hid (show ta = tx (pa i) by rw [hta, haa])
        rw [← haa] at c1 c2 ha
        rw [← hta] at c2
        clear haa hta
        go_wp2
        go_loopw [6] (fun x wr => ∃ k d : Nat, x = .int .i64 k ∧ k ≤ i ∧ wr = w.drewN d ∧ Hid (∀ k2, k2 < k → tx (pa i) ≠ tx (pa k2))) (fun x _ => i - (intOf x).toNat)
        case atStart => exact ⟨0, _, rfl, Nat.zero_le _, rfl, Lib.hid fun k h => absurd h (Nat.not_lt_zero k)⟩
        case round =>
          obtain ⟨k, d2, rfl, hki, rfl, hne2⟩ := hrel
          by_cases hkl : k < i
          · have hkk : (k : Int) < (i : Int) := by omega
            have c3 := HCP2.out k (by omega)
            have hb := HIN.out k (by omega)
            have c4 := HCN2.out (pa k) hb
            obtain ⟨b, hbb⟩ : ∃ b, b = pa k := ⟨_, rfl⟩
            obtain ⟨tb, htb⟩ : ∃ tb, tb = tx b := ⟨_, rfl⟩
            have HTB := Lib.hid (show tb = tx (pa k) by rw [htb, hbb])
            rw [← hbb] at c3 c4 hb
            rw [← htb] at c4
            clear hbb htb
            have hkp : (k : Int) < (pn : Int) := by omega
            have ha2 : (a : Int) < (len : Int) := by omega
            have hb2 : (b : Int) < (len : Int) := by omega
            go_wp2_with fail
            go_quiet (fail)
            go_wp2_with fail
            · rename_i hq
              have e := dataN_inj (by rw [← ByteArray.toList_eq, ← ByteArray.toList_eq]; exact eq_of_beq hq : ta.data.toList = tb.data.toList)
              have hR := Lib.hid (HYS.out i k hkl hil (by rw [← HTA.out, ← HTB.out]; exact e))
              clear hq e
              go_ret
              exact ⟨by rw [hR.out]; rfl, _, by first | rfl | exact World.drewN_drewN _ _ _⟩
            · rename_i hq
              have HE := Lib.hid (show ta ≠ tb from fun e => by rw [e] at hq; simp at hq)
              clear hq
              refine ⟨⟨k + 1, _, by go_num, by omega, rfl, Lib.hid fun k2 h2 => ?_⟩, by simp [intOf]; omega⟩
              by_cases hj : k2 < k
              · exact hne2.out k2 hj
              · obtain rfl : k2 = k := by omega
                rw [← HTA.out, ← HTB.out]
                exact HE.out
          · obtain rfl : k = i := by omega
            have hkk : ¬ (k : Int) < (k : Int) := by omega
            go_wp2
            go_roundw
            case rel => exact ⟨k + 1, d2, by go_num, by omega, rfl, Lib.hid fun j k2 h1 h2 => by
              by_cases hj : j < k
              · exact hne.out j k2 h1 hj
              · obtain rfl : j = k := by omega
                exact hne2.out k2 h1⟩
            case measure => simp [intOf]; omega
      · obtain rfl : i = pn := by omega
        have hii : ¬ (i : Int) < (i : Int) := by omega
        have hR := Lib.hid (HNO.out fun j k h1 h2 => hne.out j k h1 h2)
        go_wp2
        go_ret
        exact ⟨by rw [hR.out]; rfl, _, by first | rfl | exact World.drewN_drewN _ _ _⟩
end Go.Proofs.YtalahkincccffaaGreatDoor
namespace Go.Proofs.YtalahkincccffaaGreatDoor
open Go.RowKit Num Word Txt
attribute [local go_sem] setCell_drewN cell?_ext frozen?_ext shape?_ext setCell_ext lt_1' ne_1' en_1' le_1' lt_2' ne_2' en_2' le_2' lt_3' ne_3' en_3' le_3' lt_4' ne_4' en_4' le_4' lt_5' ne_5' en_5' le_5' lt_6' ne_6' en_6' le_6' lt_7' ne_7' en_7' le_7' lt_8' ne_8' en_8' le_8' lt_9' ne_9' en_9' le_9' lt_10' ne_10' en_10' le_10' lt_11' ne_11' en_11' le_11' lt_12' ne_12' en_12' le_12'

structure DRow (w : World) (g n : Nat) (f : Nat → Nat) : Prop where
  lt : g < w.heap.size
  cell : ∀ j, j < n → w.cell? ⟨g, j, none⟩ = some (.int .i64 (f j : Int))
  free : ∀ j, w.frozen? ⟨g, j, none⟩ = false
def updI (f : Nat → Nat) (k v : Nat) : Nat → Nat := fun j => if j = k then v else f j
theorem DRow.store {w : World} {g n : Nat} {f : Nat → Nat} (h : DRow w g n f) (k v : Nat) (hk : k < n) : DRow (w.setCell ⟨g, k, none⟩ (.int .i64 (v : Int))) g n (updI f k v) := by
  refine ⟨by rw [World.size_setCell]; exact h.lt, fun j hj => ?_, fun j => by rw [World.frozen?_setCell]; exact h.free j⟩
  by_cases e : j = k
  · subst e
    rw [World.cell?_setCell_same w _ _ (h.cell j hj)]
    simp [updI]
  · rw [World.cell?_setCell_other w _ _ _ (by intro e2; injection e2 with _ e3 _; exact e e3.symm), h.cell j hj]
    simp [updI, e]
theorem DRow.congr {w : World} {g n : Nat} {f f' : Nat → Nat} (h : DRow w g n f) (he : ∀ j, j < n → f j = f' j) : DRow w g n f' :=
  ⟨h.lt, fun j hj => by rw [h.cell j hj, he j hj], h.free⟩
theorem DRow.new {w w' : World} {g n : Nat} {f : Nat → Nat} (h : DRow w g n f) (hb : Below w.heap.size w w') : DRow w' g n f :=
  ⟨Nat.lt_of_lt_of_le h.lt hb.size, fun j hj => by rw [hb.cell (p := ⟨g, _, none⟩) h.lt]; exact h.cell j hj, fun j => by rw [hb.frozen (p := ⟨g, _, none⟩) h.lt]; exact h.free j⟩
theorem DRow.made (w : World) (n : Nat) : DRow (w.alloc (.cells (madeCells #[.int .i64 0] n) 3)) w.heap.size n (fun _ => 0) := by
  have h1 : (w.alloc (.cells (madeCells #[.int .i64 0] n) 3)).heap[w.heap.size]? = some (.cells (madeCells #[.int .i64 0] n) 3) := by
    show (w.heap.push _)[w.heap.size]? = _
    simp
  refine ⟨by rw [World.size_alloc]; omega, fun j hj => ?_, fun j => ?_⟩
  · rw [World.cell?_alloc_at _ _ _ _ rfl]
    simp [madeCells, hj, Nat.mod_one]
  · unfold World.frozen?
    simp only
    rw [h1]
    simp
theorem dmake_int (n : Nat) (hn : n ≤ 1000000) : ∀ w, (Instr.makeSlice 53 (.int .i64 (n : Int)) (.int .i64 (n : Int))).run Tryz.prog w = .ok (.slice (some ⟨w.heap.size, 0, none⟩) n n) (w.alloc (.cells (madeCells #[.int .i64 0] n) 3)) :=
  fun w => run_make_row' 53 3 (.int .i64 0) 8 Tryz.underlying53 infoInt rfl .i64 .i64 n (by omega) (by omega) w
theorem stk_in : ∀ (r : List NdD) (i : Nat) (H : List Nat) {q : List Nat × List (List Nat)}, stkP i r H = some q → (∀ a ∈ H, a < i) → q.2.length = r.length ∧ ∀ j, j < q.2.length → ∀ a ∈ q.2.getD j [], a < i + j
  | [], i, H, q, h, _ => by
    have h2 : some (H, ([] : List (List Nat))) = some q := h
    injection h2 with h2
    subst h2
    exact ⟨rfl, fun j hj => absurd hj (Nat.not_lt_zero j)⟩
  | x :: r, i, H, q, h, hH => by
    unfold stkP at h
    by_cases ht : takesN x.op x.k = true ∧ x.k ≤ H.length
    · rw [if_pos ht] at h
      cases hs : stkP (i + 1) r (H.take (H.length - x.k.toNat) ++ [i]) with
      | none => rw [hs] at h; cases h
      | some p =>
        rw [hs] at h
        have h2 : some (p.1, H.drop (H.length - x.k.toNat) :: p.2) = some q := h
        injection h2 with h2
        subst h2
        obtain ⟨h3, h4⟩ := stk_in r (i + 1) _ hs (fun a ha => by
          rcases List.mem_append.1 ha with ha | ha
          · have := hH a (List.mem_of_mem_take ha); omega
          · simp at ha; omega)
        refine ⟨by simp [h3], fun j hj a ha => ?_⟩
        cases j with
        | zero => have := hH a (List.mem_of_mem_drop (by simpa using ha)); omega
        | succ j => have := h4 j (by simpa using hj) a (by simpa using ha); omega
    · rw [if_neg ht] at h; cases h
theorem depD_le {D : List Nat} {m : Nat} (hD : ∀ a, D.getD a 0 ≤ m) : ∀ (q : List Nat) (d : Nat), d ≤ m → depD D d q ≤ m
  | [], _, h => h
  | a :: q, _, h => depD_le hD q _ (Nat.max_le.2 ⟨h, hD a⟩)
theorem StS.get {w w1 : World} {x y : Value} {H : List Nat} {P : List (List Nat)} (h : StS w w1 x y H P) (h0 : 0 < P.length) : ∃ gx cx, x = .slice (some ⟨gx, 0, none⟩) P.length cx ∧ P.length ≤ cx ∧ gx < w1.heap.size ∧
    ∀ i, i < P.length → ∃ q c, w1.cell? ⟨gx, i, none⟩ = some (.slice q (P.getD i []).length c) ∧ Rd w1 (.slice q (P.getD i []).length c) (P.getD i []) := by
  obtain ⟨vals, hol, hvl, hin⟩ := h.parts
  obtain ⟨q, cx, e, hq, hcx⟩ := OL.form hol
  obtain ⟨gx, rfl, -, hgx⟩ := hq (by omega)
  subst e
  refine ⟨gx, cx, by rw [hvl], by omega, hgx, fun i hi => ?_⟩
  have hiv : i < vals.length := by omega
  have e1 := OL.cell slE_cells hol i 0 hiv (u := slV vals[i]) rfl
  rw [show i * slK.size + 0 = i by show i * 1 + 0 = i; omega] at e1
  have e2 := hin i hiv hi
  obtain ⟨q2, c2, e3, -⟩ := e2.form
  have e4 : P.getD i [] = P[i] := by rw [List.getD_eq_getElem?_getD, List.getElem?_eq_getElem hi]; rfl
  rw [e3] at e1 e2
  rw [e4]
  exact ⟨q2, c2, e1, e2.weak fun _ _ _ => trivial⟩
end Go.Proofs.YtalahkincccffaaGreatDoor
namespace Go.Proofs.YtalahkincccffaaGreatDoor
open Go.RowKit Num Word Txt
attribute [local go_sem] setCell_drewN cell?_ext frozen?_ext shape?_ext setCell_ext lt_1' ne_1' en_1' le_1' lt_2' ne_2' en_2' le_2' lt_3' ne_3' en_3' le_3' lt_4' ne_4' en_4' le_4' lt_5' ne_5' en_5' le_5' lt_6' ne_6' en_6' le_6' lt_7' ne_7' en_7' le_7' lt_8' ne_8' en_8' le_8' lt_9' ne_9' en_9' le_9' lt_10' ne_10' en_10' le_10' lt_11' ne_11' en_11' le_11' lt_12' ne_12' en_12' le_12'

def WPl (w : World) (v : Value) (P : List (List Nat)) : Prop := ∃ gx cx, v = .slice (some ⟨gx, 0, none⟩) P.length cx ∧ P.length ≤ cx ∧ gx < w.heap.size ∧
  ∀ i, i < P.length → ∃ q c, w.cell? ⟨gx, i, none⟩ = some (.slice q (P.getD i []).length c) ∧ Rd w (.slice q (P.getD i []).length c) (P.getD i [])
theorem WPl.new {w w' : World} {v : Value} {P : List (List Nat)} (h : WPl w v P) (hb : Below w.heap.size w w') : WPl w' v P := by
  obtain ⟨gx, cx, e, h1, h2, h3⟩ := h
  exact ⟨gx, cx, e, h1, Nat.lt_of_lt_of_le h2 hb.size, fun i hi => by
    obtain ⟨q, c, h4, h5⟩ := h3 i hi
    exact ⟨q, c, by rw [hb.cell (p := ⟨gx, _, none⟩) h2]; exact h4, (h5.later hb).weak fun _ _ _ => trivial⟩⟩
set_option maxRecDepth 100000 in
set_option maxHeartbeats 4000000 in
theorem rplaces_any (l : List NdD) (n : Nat) (w : World) (v : Value) (hv : RL 8 ndE n w v l) (hn : n ≤ w.heap.size) (hl : l.length ≤ 1000) (h0 : 0 < l.length) {H : List Nat} {ps : List (List Nat)} (hs : stkP 0 l [] = some (H, ps)) :
    Calls Tryz.prog 36 #[v] w fun e w' => (∃ x, e = .returned x ∧ WPl w' x ps) ∧ Below w.heap.size w w' := by
  have HS := Lib.hid (stack_any l l.length n (Nat.le_refl _) w v hv hn (by omega))
  rw [List.take_length, hs] at HS
  have hpl := (stk_in l 0 [] hs (by simp)).1
  simp only at hpl
  have HG := Lib.hid (show ∀ w1 x y, StS w w1 x y H ps → WPl w1 x ps from fun w1 x y h => h.get (by omega))
  obtain ⟨p, c, rfl, h2⟩ := hv
  obtain ⟨len, hlen⟩ : ∃ len, len = l.length := ⟨_, rfl⟩
  rw [← hlen] at HS hl ⊢
  clear h2 hlen hs hpl h0
  go_enter Tryz.func36, Tryz.ntmps36
  go_wp2_with (first
    | (go_at_call 20; (with_reducible refine HS.out.mono ?_); rintro e w1 ⟨hb1, x, y, rfl, hst⟩; have HW := Lib.hid (HG.out _ _ _ hst); have HB := Lib.hid hb1; clear hst hb1))
  go_ret
  exact ⟨⟨_, rfl, HW.out⟩, HB.out⟩
end Go.Proofs.YtalahkincccffaaGreatDoor
namespace Go.Proofs.YtalahkincccffaaGreatDoor
open Go.RowKit Num Word Txt
attribute [local go_sem] setCell_drewN cell?_ext frozen?_ext shape?_ext setCell_ext lt_1' ne_1' en_1' le_1' lt_2' ne_2' en_2' le_2' lt_3' ne_3' en_3' le_3' lt_4' ne_4' en_4' le_4' lt_5' ne_5' en_5' le_5' lt_6' ne_6' en_6' le_6' lt_7' ne_7' en_7' le_7' lt_8' ne_8' en_8' le_8' lt_9' ne_9' en_9' le_9' lt_10' ne_10' en_10' le_10' lt_11' ne_11' en_11' le_11' lt_12' ne_12' en_12' le_12'

theorem docM_step {l : List NdD} {x : NdD} {r : List NdD} {q : List Nat} {ps : List (List Nat)} {D : List Nat} {d : Nat} : docM l (x :: r) (q :: ps) D d = if okD l x q = true then docM l r ps (D ++ [depD D 0 q + 1]) (max d (depD D 0 q + 1)) else none := rfl
def docO (tests : Bool) (so : Int) : Option (List Nat × Nat) → Int
  | none => 2
  | some e => if (tests = true ∧ so ≠ 4 ∧ so ≠ 5) ∨ (tests = false ∧ so ≠ 1) then 2 else if 40 < e.2 then 7 else 0
theorem docT_O (tests : Bool) (op : Int) (RD : Option (List Nat × Nat)) : docT tests op RD = docO tests (sortN op) RD := by cases RD <;> rfl
theorem getD_append_lt {D : List Nat} {y a : Nat} (h : a < D.length) : (D ++ [y]).getD a 0 = D.getD a 0 := by
  rw [List.getD_eq_getElem?_getD, List.getD_eq_getElem?_getD, List.getElem?_append_left h]
theorem getD_append_at {D : List Nat} {y : Nat} : (D ++ [y]).getD D.length 0 = y := by
  rw [List.getD_eq_getElem?_getD, List.getElem?_append_right (Nat.le_refl _)]; simp
theorem getD_past {D : List Nat} {a : Nat} (h : D.length ≤ a) : D.getD a 0 = 0 := by
  rw [List.getD_eq_getElem?_getD, List.getElem?_eq_none h]; rfl
theorem stk_len : ∀ (r : List NdD) (i : Nat) (H : List Nat) {q : List Nat × List (List Nat)}, stkP i r H = some q → H.length ≤ i → ∀ j, (q.2.getD j []).length ≤ i + j
  | [], i, H, q, h, _ => by
    have h2 : some (H, ([] : List (List Nat))) = some q := h
    injection h2 with h2
    subst h2
    exact fun j => by simp
  | x :: r, i, H, q, h, hH => by
    unfold stkP at h
    by_cases ht : takesN x.op x.k = true ∧ x.k ≤ H.length
    · rw [if_pos ht] at h
      cases hs : stkP (i + 1) r (H.take (H.length - x.k.toNat) ++ [i]) with
      | none => rw [hs] at h; cases h
      | some p =>
        rw [hs] at h
        have h2 : some (p.1, H.drop (H.length - x.k.toNat) :: p.2) = some q := h
        injection h2 with h2
        subst h2
        have h4 := stk_len r (i + 1) _ hs (by rw [List.length_append, List.length_take, List.length_singleton]; omega)
        intro j
        cases j with
        | zero =>
          show (H.drop (H.length - x.k.toNat)).length ≤ i + 0
          rw [List.length_drop]; omega
        | succ j =>
          have h5 := h4 j
          show (p.2.getD j []).length ≤ i + (j + 1)
          omega
    · rw [if_neg ht] at h; cases h
theorem max_cast (a b : Nat) : max (a : Int) (b : Int) = ((max a b : Nat) : Int) := by omega
theorem DRow.drewN {w : World} {b n : Nat} {f : Nat → Nat} (h : DRow w b n f) (d : Nat) : DRow (w.drewN d) b n f := ⟨h.lt, h.cell, h.free⟩
theorem DRow.step1 {w : World} {b n i dd ea : Nat} {D : List Nat} (h : DRow w b n (updI (fun j => D.getD j 0) i dd)) (hi : i < n) : DRow (w.setCell ⟨b, i, none⟩ (.int .i64 (max (dd : Int) (ea : Int)))) b n (updI (fun j => D.getD j 0) i (max dd ea)) := by
  rw [max_cast]
  refine (h.store i (max dd ea) hi).congr fun j _ => ?_
  unfold updI
  by_cases e : j = i
  · rw [if_pos e, if_pos e]
  · rw [if_neg e, if_neg e, if_neg e]
theorem DRow.step2 {w : World} {b n i dd : Nat} {D : List Nat} (h : DRow w b n (updI (fun j => D.getD j 0) i dd)) (hi : i < n) (hD : D.length = i) {z : Int} (hz : z = ((dd + 1 : Nat) : Int)) : DRow (w.setCell ⟨b, i, none⟩ (.int .i64 z)) b n (fun j => (D ++ [dd + 1]).getD j 0) := by
  subst hz
  refine (h.store i (dd + 1) hi).congr fun j _ => ?_
  unfold updI
  by_cases e : j = i
  · rw [if_pos e, e, ← hD]; exact getD_append_at.symm
  · rw [if_neg e, if_neg e]
    by_cases e2 : j < i
    · exact (getD_append_lt (by omega)).symm
    · have h1 : D.length ≤ j := by omega
      have h2 : (D ++ [dd + 1]).length ≤ j := by rw [List.length_append, List.length_singleton]; omega
      exact (getD_past h1).trans (getD_past h2).symm
theorem getD_bound {D : List Nat} {i e : Nat} (h : ∀ a, D.getD a 0 ≤ i) (he : e ≤ i + 1) : ∀ a, (D ++ [e]).getD a 0 ≤ i + 1 := fun a => by
  by_cases e1 : a < D.length
  · rw [getD_append_lt e1]; have := h a; omega
  · by_cases e2 : a = D.length
    · rw [e2, getD_append_at]; exact he
    · rw [getD_past (by rw [List.length_append, List.length_singleton]; omega)]; omega
set_option maxRecDepth 100000 in
set_option maxHeartbeats 16000000 in
theorem dcheck_any (l : List NdD) (tests : Bool) (n : Nat) (w : World) (v : Value) (hv : RL 8 ndE n w v l) (hn : n ≤ w.heap.size) (hwf : ∀ x ∈ l, x.Wf) (hts : ∀ x ∈ l, x.t.size ≤ 1048576) :
    Calls Tryz.prog 10 #[v, .bool tests] w fun e w' => e = .returned (.int .i64 (docE l tests)) ∧ Below w.heap.size w w' := by
  have HVL := Lib.hid hv
  obtain ⟨p, c, rfl, h2⟩ := hv
  have H2 := Lib.hid h2
  obtain ⟨len, hlen⟩ : ∃ len, len = l.length := ⟨_, rfl⟩
  have HL := Lib.hid hlen
  unfold docE
  by_cases h300 : 300 < l.length
  · rw [if_pos h300]
    rw [← hlen] at h300 ⊢
    have h3 : (300 : Int) < (len : Int) := by omega
    clear h2 hlen
    go_enter Tryz.func10, Tryz.ntmps10
    go_wp2
    go_ret
    exact ⟨rfl, by (repeat' (first | (with_reducible first | exact Below.refl _ _ | assumption | refine Below.alloc ?_ ?_ _ | refine below_drewN ?_ _ | refine below_drew ?_ | refine below_ext ?_ ?_ _ _ | refine Below.setCell ?_ ?_ _) | (simp; done) | (simp; omega) | omega))⟩
  rw [if_neg h300]
  have HS := Lib.hid (stack_any l l.length n (Nat.le_refl _) w _ HVL.out hn (by omega))
  rw [List.take_length] at HS
  rw [← hlen] at HS h300 ⊢
  have h3 : ¬ (300 : Int) < (len : Int) := by omega
  obtain ⟨R, hR⟩ : ∃ R, R = stkP 0 l [] := ⟨_, rfl⟩
  rw [← hR] at HS ⊢
  cases R with
  | none =>
    show Calls _ _ _ _ fun e w' => e = .returned (.int .i64 2) ∧ _
    clear h2 hlen hR
    go_enter Tryz.func10, Tryz.ntmps10
    go_wp2_with (first
      | (go_at_call 20; (with_reducible refine HS.out.mono ?_); rintro e w1 ⟨hb1, rfl⟩; obtain ⟨osA, dA, rfl⟩ := ext_of_below hb1; clear hb1))
    go_ret
    exact ⟨rfl, by (repeat' (first | (with_reducible first | exact Below.refl _ _ | assumption | refine Below.alloc ?_ ?_ _ | refine below_drewN ?_ _ | refine below_drew ?_ | refine below_ext ?_ ?_ _ _ | refine Below.setCell ?_ ?_ _) | (simp; done) | (simp; omega) | omega))⟩
  | some q =>
    obtain ⟨H, ps⟩ := q
    show Calls _ _ _ _ fun e w' => e = .returned (.int .i64 (if H.length ≠ 1 then 2 else docT tests (opA l (l.length - 1)) (docM l l ps [] 0))) ∧ _
    have hst0 := stk_in l 0 [] hR.symm (by simp)
    have hql := stk_len l 0 [] hR.symm (Nat.zero_le _)
    simp only [Nat.zero_add] at hql
    have HQL := Lib.hid hql
    clear hql
    obtain ⟨hpl, hpi⟩ := hst0
    simp only at hpl hpi
    by_cases h1 : H.length = 1
    · rw [if_neg (by simp [h1])]
      have h0 : 0 < len := by
        rw [hlen]
        cases l with
        | nil =>
          have : some (([] : List Nat), ([] : List (List Nat))) = some (H, ps) := hR.symm
          simp at this
          rw [this.1] at h1; cases h1
        | cons _ _ => simp
      obtain ⟨RD, hRD⟩ : ∃ RD, RD = docM l l ps [] 0 := ⟨_, rfl⟩
      have HR0 := Lib.hid (show docM l (l.drop 0) (ps.drop 0) [] 0 = RD by rw [hRD]; rfl)
      rw [← hRD]
      have HPL := Lib.hid (show ps.length = len by rw [hpl, hlen])
      have HPI := Lib.hid (show ∀ j, j < len → ∀ a ∈ ps.getD j [], a < j from fun j hj a ha => by have := hpi j (by rw [hpl, ← hlen]; exact hj) a ha; omega)
      have HSO := Lib.hid (fun w => rsort_any (opA l (l.length - 1)) w)
      obtain ⟨so, hso⟩ : ∃ so, so = sortN (opA l (l.length - 1)) := ⟨_, rfl⟩
      rw [← hso] at HSO
      have HDT := Lib.hid (show docT tests (opA l (l.length - 1)) RD = docO tests so RD by rw [hso]; exact docT_O tests _ RD)
      obtain ⟨ans, hans⟩ : ∃ ans, ans = docT tests (opA l (l.length - 1)) RD := ⟨_, rfl⟩
      rw [← hans] at HDT ⊢
      obtain ⟨g, o, rfl, hg, hc⟩ := h2 (by omega)
      have HCC := Lib.hid hc
      have hgw : g < w.heap.size := by omega
      have HLO := Lib.hid (show w.cell? ⟨g, o + (len - 1) * 8, none⟩ = some (.int .i64 (opA l (l.length - 1))) by
        obtain ⟨oa, ka, ta, na, ca, sa, da, he, x0, -⟩ := nd_cells hc (len - 1) (by omega)
        rw [x0, ← hlen, opA_of (by omega), he])
      obtain ⟨ol, hol⟩ : ∃ ol, ol = opA l (l.length - 1) := ⟨_, rfl⟩
      rw [← hol] at HLO HSO
      have HH1 := Lib.hid h1
      have hmk := dmake_int len (by omega)
      clear h2 hlen hR hpl hpi h1 hRD hso hans hol hc H2
      go_enter Tryz.func10, Tryz.ntmps10
      go_wp2_with (first
        | (go_at_call 20; (with_reducible refine HS.out.mono ?_); rintro e w1 ⟨hb1, x, y, rfl, hst⟩; obtain ⟨py, cy, hy, -⟩ := hst.hv.form; rw [HH1.out] at hy; subst hy; have hget := hst.get (by rw [HPL.out]; exact h0); rw [HPL.out] at hget; obtain ⟨gx, cx, rfl, hcx, hgx, hpt⟩ := hget; have HB1 := Lib.hid hb1; have hsw1 := hb1.size; have HPT := Lib.hid hpt; clear hst hb1 hpt))
      have HD0 := Lib.hid (DRow.made w1 len)
      go_loopw [9, 10] (fun z y wr => ∃ (D : List Nat) (d i : Nat), z = .int .i64 d ∧ y = .int .i64 i ∧ i ≤ len ∧ D.length = i ∧ d ≤ i ∧ Hid (∀ a, D.getD a 0 ≤ i) ∧ Hid (DRow wr w1.heap.size len (fun j => D.getD j 0)) ∧ Hid (Below w1.heap.size w1 wr) ∧ Hid (docM l (l.drop i) (ps.drop i) D d = RD)) (fun _ y _ => len - (intOf y).toNat)
      case atStart => exact ⟨[], 0, 0, rfl, rfl, Nat.zero_le _, rfl, Nat.le_refl _, Lib.hid (fun a => by simp), HD0, Lib.hid (by (repeat' (first | (with_reducible first | exact Below.refl _ _ | assumption | refine Below.alloc ?_ ?_ _ | refine below_drewN ?_ _ | refine below_drew ?_ | refine below_ext ?_ ?_ _ _ | refine Below.setCell ?_ ?_ _) | (simp; done) | (simp; omega) | omega))), HR0⟩
      case round =>
        obtain ⟨D, d, i, rfl, rfl, hile, hDl, hdi, hDb, hdr, hbe, hru⟩ := hrel
        clear HR0 HD0
        have hsr := hbe.out.size
        have HBR := Lib.hid hbe.out
        have HBW := Lib.hid (HB1.out.trans (hbe.out.mono hsw1))
        have HDR := Lib.hid hdr.out
        have HDB := Lib.hid hDb.out
        have hbl : w1.heap.size < wr.heap.size := hdr.out.lt
        clear hdr hDb hbe
        by_cases hil : i < len
        · have hii : (i : Int) < (len : Int) := by omega
          have hil2 : i < l.length := by rw [← HL.out]; exact hil
          have hgr : g < wr.heap.size := by omega
          have hgxr : gx < wr.heap.size := by omega
          have hc2 : ∀ j (h : j < l.length) i u, (ndE l[j])[i]? = some u → wr.cell? ⟨g, o + j * 8 + i, none⟩ = some u := fun j hj i u hu => by
            rw [HBW.out.cell (p := ⟨g, _, none⟩) hgw]; exact HCC.out j hj i u hu
          obtain ⟨oa, ka, ta, na, ca, sa, da, he, x0, x1, x2, x3, x4, x5, x6, x7⟩ := nd_cells hc2 i hil2
          have hmem : (⟨oa, ka, ta, na, ca, sa, da⟩ : NdD) ∈ l := he ▸ List.getElem_mem _
          have HF := Lib.hid (fun w => rfields_any oa ka ta na ca sa da (hts _ hmem) (hwf _ hmem).c w)
          have hdl : l.drop i = ⟨oa, ka, ta, na, ca, sa, da⟩ :: l.drop (i + 1) := by rw [List.drop_eq_getElem_cons hil2, he]
          obtain ⟨Q, hQ⟩ : ∃ Q, Q = ps.getD i [] := ⟨_, rfl⟩
          have hpd : ps.drop i = Q :: ps.drop (i + 1) := by
            have hip : i < ps.length := by rw [HPL.out]; exact hil
            rw [List.drop_eq_getElem_cons hip, hQ, List.getD_eq_getElem?_getD, List.getElem?_eq_getElem hip]; rfl
          obtain ⟨E, hE⟩ : ∃ E, E = depD D 0 Q := ⟨_, rfl⟩
          have hEi : E ≤ i := by rw [hE]; exact depD_le HDB.out Q 0 (Nat.zero_le _)
          obtain ⟨fl, hfl⟩ : ∃ fl, fl = filledB oa ta na ca sa da := ⟨_, rfl⟩
          obtain ⟨S, hS⟩ : ∃ S, S = sortsB l oa 0 Q := ⟨_, rfl⟩
          obtain ⟨nb, hnb⟩ : ∃ nb, nb = nodupB (Q.map (txA l)) := ⟨_, rfl⟩
          have HRU := Lib.hid (show (if (fl && (S && (decide (oa ≠ 27) || nb))) = true then docM l (l.drop (i + 1)) (ps.drop (i + 1)) (D ++ [E + 1]) (max d (E + 1)) else none) = RD by
            rw [← hru.out, hdl, hpd, docM_step, hE, hfl, hS, hnb]; rfl)
          rw [← hfl] at HF
          have hpt := HPT.out i hil
          rw [← hQ] at hpt
          obtain ⟨qp, qc, hcq, hrd⟩ := hpt
          have HQI := Lib.hid (show ∀ a ∈ Q, a < i by rw [hQ]; exact HPI.out i hil)
          obtain ⟨qn, hqn⟩ : ∃ qn, qn = Q.length := ⟨_, rfl⟩
          rw [← hqn] at hcq hrd
          have HQN := Lib.hid hqn
          have hqb : qn ≤ 300 := by
            have h9 := HQL.out i
            rw [← hQ, ← hqn] at h9; omega
          have HTW := Lib.hid (show ∀ w', Below w1.heap.size w1 w' → Calls Tryz.prog 24 #[.slice (some ⟨g, o, none⟩) len c, .slice qp qn qc] w' fun e w'' => e = .returned (.bool (!nb)) ∧ ∃ d, w'' = w'.drewN d from fun w' hb => by
            rw [hnb, hqn]
            rw [hqn] at hrd
            have h9 := rtwice_any l n Q w' _ _ (HVL.out.keep ((HB1.out.trans (hb.mono hsw1)).mono hn)) ((hrd.later hb).weak fun _ _ _ => trivial) (by rw [← HQN.out]; omega) (fun a ha => by have := HQI.out a ha; omega) (by have := HL.out; omega)
            rw [← HL.out] at h9
            exact h9)
          have HCI := Lib.hid (show ∀ wr', Below w1.heap.size w1 wr' → wr'.cell? ⟨g, o + i * 8, none⟩ = some (.int .i64 oa) ∧ wr'.cell? ⟨gx, i, none⟩ = some (.slice qp qn qc) from fun wr' hb =>
            ⟨by
              rw [(HB1.out.trans (hb.mono hsw1)).cell (p := ⟨g, _, none⟩) hgw]
              rw [HBW.out.cell (p := ⟨g, _, none⟩) hgw] at x0
              exact x0, by rw [hb.cell (p := ⟨gx, _, none⟩) hgx]; exact hcq⟩)
          have HCK := Lib.hid (show ∀ wr', Below w1.heap.size w1 wr' → ∀ k, k < qn → ∃ gq oq : Nat, ∃ a : Nat, qp = some ⟨gq, oq, none⟩ ∧ wr'.cell? ⟨gq, oq + k, none⟩ = some (.int .i64 (a : Int)) ∧ Q.drop k = a :: Q.drop (k + 1) ∧ a < i ∧ wr'.cell? ⟨g, o + a * 8, none⟩ = some (.int .i64 (opA l a)) from fun wr' hb k hk => by
            rcases hrd with ⟨-, e⟩ | ⟨gq, oq, c2, e, -, h1, -, h3⟩
            · rw [hqn, e] at hk; exact absurd hk (Nat.not_lt_zero k)
            · injection e with e1 _ _
              have hk2 : k < Q.length := by omega
              refine ⟨gq, oq, Q[k], e1, by rw [hb.cell (p := ⟨gq, _, none⟩) h1]; exact h3 k hk2, List.drop_eq_getElem_cons hk2, HQI.out _ (List.getElem_mem _), ?_⟩
              have hal : Q[k] < l.length := by have := HQI.out _ (List.getElem_mem hk2); omega
              obtain ⟨oa, ka, ta, na, ca, sa, da, he, y0, -⟩ := nd_cells HCC.out Q[k] hal
              rw [(HB1.out.trans (hb.mono hsw1)).cell (p := ⟨g, _, none⟩) hgw, y0, opA_of hal, he])
          generalize (hi ca : Int) = ha at *
          generalize (lo ca : Int) = la at *
          have HS0 := Lib.hid (show sortsB l oa 0 (Q.drop 0) = S by rw [hS]; rfl)
          have HE0 := Lib.hid (show depD D 0 (Q.drop 0) = E by rw [hE]; rfl)
          clear hc2 he hdl hQ hpd hE hfl hS hnb hru hcq hrd hqn hmem
          cases fl with
          | false =>
            have HA := Lib.hid (show ans = 2 by rw [HDT.out, ← HRU.out]; rfl)
            go_wp2_with (first | (go_at_call 21; ((with_reducible refine (HF.out _).mono ?_); rintro e w1 ⟨rfl, hb1⟩; obtain ⟨os1, d1, rfl⟩ := ext_of_below hb1; clear hb1)))
            go_ret
            exact ⟨by rw [HA.out]; rfl, HBW.out.trans (show Below w.heap.size wr _ by (repeat' (first | (with_reducible first | exact Below.refl _ _ | assumption | refine Below.alloc ?_ ?_ _ | refine below_drewN ?_ _ | refine below_drew ?_ | refine below_ext ?_ ?_ _ _ | refine Below.setCell ?_ ?_ _) | (simp; done) | (simp; omega) | omega)))⟩
          | true =>
            go_wp2_with (first | (go_at_call 21; ((with_reducible refine (HF.out _).mono ?_); rintro e w1 ⟨rfl, hb1⟩; obtain ⟨os1, d1, rfl⟩ := ext_of_below hb1; clear hb1)))
            go_loopw [11] (fun z wr2 => ∃ (k dd : Nat), z = .int .i64 k ∧ k ≤ qn ∧ dd ≤ i ∧ Hid (DRow wr2 w1.heap.size len (updI (fun j => D.getD j 0) i dd)) ∧ Hid (Below w1.heap.size w1 wr2) ∧ Hid (depD D dd (Q.drop k) = E) ∧ Hid (sortsB l oa k (Q.drop k) = S)) (fun z _ => qn - (intOf z).toNat)
            case atStart => exact ⟨0, 0, rfl, Nat.zero_le _, Nat.zero_le _, Lib.hid ((HDR.out.new (show Below wr.heap.size wr _ by (repeat' (first | (with_reducible first | exact Below.refl _ _ | assumption | refine Below.alloc ?_ ?_ _ | refine below_drewN ?_ _ | refine below_drew ?_ | refine below_ext ?_ ?_ _ _ | refine Below.setCell ?_ ?_ _) | (simp; done) | (simp; omega) | omega)))).congr fun j hj => by
              unfold updI
              by_cases e : j = i
              · rw [if_pos e, e]; exact getD_past (by omega)
              · rw [if_neg e]), Lib.hid (HBR.out.trans (show Below w1.heap.size wr _ by (repeat' (first | (with_reducible first | exact Below.refl _ _ | assumption | refine Below.alloc ?_ ?_ _ | refine below_drewN ?_ _ | refine below_drew ?_ | refine below_ext ?_ ?_ _ _ | refine Below.setCell ?_ ?_ _) | (simp; done) | (simp; omega) | omega)))), HE0, HS0⟩
            case round =>
              obtain ⟨k, dd, rfl, hk, hdd, hdr2, hbe2, hE2, hS2⟩ := hrel
              have hlt2 : w1.heap.size < wr.heap.size := hdr2.out.lt
              have hs2 : w1.heap.size ≤ wr.heap.size := hbe2.out.size
              obtain ⟨c0, c1⟩ := HCI.out _ hbe2.out
              by_cases hkl : k < qn
              · obtain ⟨gq, oq, a, rfl, c3, hdk, hai, c4⟩ := HCK.out _ hbe2.out k hkl
                have hkk : (k : Int) < (qn : Int) := by omega
                have d1 := hdr2.out.cell i hil
                rw [show updI (fun j => D.getD j 0) i dd i = dd by unfold updI; rw [if_pos rfl]] at d1
                have d2 := hdr2.out.cell a (by omega)
                rw [show updI (fun j => D.getD j 0) i dd a = D.getD a 0 by unfold updI; rw [if_neg (by omega)]] at d2
                have d3 := hdr2.out.free i
                have hE3 := hE2.out
                rw [hdk] at hE3
                have hS3 := hS2.out
                rw [hdk] at hS3
                obtain ⟨ea, hea⟩ : ∃ ea, ea = D.getD a 0 := ⟨_, rfl⟩
                have hei : ea ≤ i := by rw [hea]; exact HDB.out a
                have HE3 := Lib.hid (show depD D (max dd ea) (Q.drop (k + 1)) = E by rw [hea]; exact hE3)
                rw [← hea] at d2
                have HSA := Lib.hid (fun w => rsort_any (opA l a) w)
                have HWA := Lib.hid (fun w => rwants_any oa k w)
                obtain ⟨sa, hsa⟩ : ∃ sa, sa = sortN (opA l a) := ⟨_, rfl⟩
                obtain ⟨wk, hwk⟩ : ∃ wk, wk = wantN oa k := ⟨_, rfl⟩
                have HS3 := Lib.hid (show (decide (sa = wk + 1) && sortsB l oa (k + 1) (Q.drop (k + 1))) = S by rw [hsa, hwk]; exact hS3)
                rw [← hsa] at HSA
                rw [← hwk] at HWA
                obtain ⟨oaa, hoaa⟩ : ∃ oaa, oaa = opA l a := ⟨_, rfl⟩
                rw [← hoaa] at c4 HSA
                have hail : a < len := by omega
                have hai2 : (a : Int) < (len : Int) := by omega
                have HDR2 := Lib.hid hdr2.out
                have HBE2 := Lib.hid hbe2.out
                clear hdk hE3 hS3 hea hsa hwk hoaa x0 x1 x2 x3 x4 x5 x6 x7 hdr2 hbe2 hE2 hS2
                by_cases hsw : sa = wk + 1
                · have hsb : (sa == wk + 1) = true := by rw [hsw]; exact beq_self_eq_true _
                  have HS4 := Lib.hid (show sortsB l oa (k + 1) (Q.drop (k + 1)) = S by rw [← HS3.out, decide_eq_true hsw, Bool.true_and])
                  clear hsw HS3
                  go_wp2_with fail
                  go_quiet (first | (go_at_call 22; refine Calls.quiet_of_same (HSA.out _)) | (go_at_call 23; refine Calls.quiet_of_same (HWA.out _)))
                  go_wp2_with fail
                  go_region
                  go_wp2_with fail
                  have hb9 := HBE2.out
                  refine ⟨⟨k + 1, max dd ea, by go_num, ?_, ?_, Lib.hid ((HDR2.out.step1 hil).drewN _), Lib.hid ?_, HE3, HS4⟩, ?_⟩
                  · clear hsb; omega
                  · exact Nat.max_le.2 ⟨hdd, hei⟩
                  · exact below_drewN (hb9.setCell (Nat.le_refl _) _) _
                  · simp [intOf]; omega
                · have hsb : (sa == wk + 1) = false := beq_eq_false_iff_ne.2 hsw
                  have HA := Lib.hid (show ans = 2 by rw [HDT.out, ← HRU.out, ← HS3.out, decide_eq_false hsw]; rfl)
                  clear hsw HS3
                  go_wp2_with fail
                  go_quiet (first | (go_at_call 22; refine Calls.quiet_of_same (HSA.out _)) | (go_at_call 23; refine Calls.quiet_of_same (HWA.out _)))
                  go_wp2_with fail
                  go_ret
                  exact ⟨by rw [HA.out]; rfl, HB1.out.trans ((HBE2.out.trans (show Below w1.heap.size wr _ by (repeat' (first | (with_reducible first | exact Below.refl _ _ | assumption | refine Below.alloc ?_ ?_ _ | refine below_drewN ?_ _ | refine below_drew ?_ | refine below_ext ?_ ?_ _ _ | refine Below.setCell ?_ ?_ _) | (simp; done) | (simp; omega) | omega)))).mono hsw1)⟩
              · obtain rfl : k = qn := by omega
                have hkk : ¬ (k : Int) < (k : Int) := by omega
                have hdn : Q.drop k = [] := List.drop_eq_nil_of_le (by rw [← HQN.out]; exact Nat.le_refl _)
                have hE3 := hE2.out
                rw [hdn] at hE3
                obtain rfl : dd = E := hE3
                have hS3 := hS2.out
                rw [hdn] at hS3
                obtain rfl : true = S := hS3
                have d1 := hdr2.out.cell i hil
                rw [show updI (fun j => D.getD j 0) i dd i = dd by unfold updI; rw [if_pos rfl]] at d1
                have d3 := hdr2.out.free i
                have HDR2 := Lib.hid hdr2.out
                have HBE2 := Lib.hid hbe2.out
                have HDB2 := Lib.hid (getD_bound HDB.out (show dd + 1 ≤ i + 1 by omega))
                clear hdn x0 x1 x2 x3 x4 x5 x6 x7 hdr2 hbe2 hE2 hS2
                by_cases h27 : oa = 27
                · subst h27
                  cases nb with
                  | false =>
                    have HA := Lib.hid (show ans = 2 by rw [HDT.out, ← HRU.out]; rfl)
                    have hb9 := HBE2.out
                    go_wp2_with (first | (go_at_call 24; (with_reducible refine (HTW.out _ (by (repeat' (first | (with_reducible first | exact Below.refl _ _ | assumption | refine Below.alloc ?_ ?_ _ | refine below_drewN ?_ _ | refine below_drew ?_ | refine below_ext ?_ ?_ _ _ | refine Below.setCell ?_ ?_ _) | (simp; done) | (simp; omega) | omega)))).mono ?_); rintro e w9 ⟨rfl, d9, rfl⟩))
                    go_ret
                    exact ⟨by rw [HA.out]; rfl, HB1.out.trans ((show Below w1.heap.size w1 _ by (repeat' (first | (with_reducible first | exact Below.refl _ _ | assumption | refine Below.alloc ?_ ?_ _ | refine below_drewN ?_ _ | refine below_drew ?_ | refine below_ext ?_ ?_ _ _ | refine Below.setCell ?_ ?_ _) | (simp; done) | (simp; omega) | omega))).mono hsw1)⟩
                  | true =>
                    have HRU2 := Lib.hid (show docM l (l.drop (i + 1)) (ps.drop (i + 1)) (D ++ [dd + 1]) (max d (dd + 1)) = RD by rw [← HRU.out]; rfl)
                    have hb9 := HBE2.out
                    go_wp2_with (first | (go_at_call 24; (with_reducible refine (HTW.out _ (by (repeat' (first | (with_reducible first | exact Below.refl _ _ | assumption | refine Below.alloc ?_ ?_ _ | refine below_drewN ?_ _ | refine below_drew ?_ | refine below_ext ?_ ?_ _ _ | refine Below.setCell ?_ ?_ _) | (simp; done) | (simp; omega) | omega)))).mono ?_); rintro e w9 ⟨rfl, d9, rfl⟩))
                    refine ⟨⟨D ++ [dd + 1], max d (dd + 1), i + 1, ?_, by go_num, ?_, ?_, ?_, HDB2, Lib.hid ?_, Lib.hid ?_, HRU2⟩, ?_⟩
                    · congr 1; omega
                    · clear hbl; omega
                    · rw [List.length_append, List.length_singleton, hDl]
                    · exact Nat.max_le.2 ⟨by omega, by omega⟩
                    · first
                        | exact (HDR2.out.drewN _).step2 hil hDl (by omega)
                        | exact HDR2.out.step2 hil hDl (by omega)
                        | exact ((HDR2.out.drewN _).step2 hil hDl (by omega)).drewN _
                        | exact (HDR2.out.step2 hil hDl (by omega)).drewN _
                    · (repeat' (first | (with_reducible first | exact Below.refl _ _ | assumption | refine Below.alloc ?_ ?_ _ | refine below_drewN ?_ _ | refine below_drew ?_ | refine below_ext ?_ ?_ _ _ | refine Below.setCell ?_ ?_ _) | (simp; done) | (simp; omega) | omega))
                    · simp [intOf]; omega
                · have q27 : (oa == 27) = false := beq_eq_false_iff_ne.2 h27
                  have HRU2 := Lib.hid (show docM l (l.drop (i + 1)) (ps.drop (i + 1)) (D ++ [dd + 1]) (max d (dd + 1)) = RD by rw [← HRU.out, if_pos (by simp [h27])])
                  clear h27
                  have hb9 := HBE2.out
                  go_wp2_with fail
                  refine ⟨⟨D ++ [dd + 1], max d (dd + 1), i + 1, ?_, by go_num, ?_, ?_, ?_, HDB2, Lib.hid ?_, Lib.hid ?_, HRU2⟩, ?_⟩
                  · congr 1; omega
                  · clear hbl; omega
                  · rw [List.length_append, List.length_singleton, hDl]
                  · exact Nat.max_le.2 ⟨by omega, by omega⟩
                  · first
                      | exact (HDR2.out.drewN _).step2 hil hDl (by omega)
                      | exact HDR2.out.step2 hil hDl (by omega)
                      | exact ((HDR2.out.drewN _).step2 hil hDl (by omega)).drewN _
                      | exact (HDR2.out.step2 hil hDl (by omega)).drewN _
                  · (repeat' (first | (with_reducible first | exact Below.refl _ _ | assumption | refine Below.alloc ?_ ?_ _ | refine below_drewN ?_ _ | refine below_drew ?_ | refine below_ext ?_ ?_ _ _ | refine Below.setCell ?_ ?_ _) | (simp; done) | (simp; omega) | omega))
                  · simp [intOf]; omega
        · obtain rfl : i = len := by omega
          have hii : ¬ (i : Int) < (i : Int) := by omega
          have HA := Lib.hid (show ans = docO tests so (some (D, d)) by
            rw [HDT.out]
            congr 1
            rw [← hru.out, List.drop_eq_nil_of_le (by rw [← HL.out]; exact Nat.le_refl _)]
            rfl)
          have E1 : (i : Int) - 1 = ((i - 1 : Nat) : Int) := by omega
          have hi1 : ((i - 1 : Nat) : Int) < (i : Int) := by omega
          have cl := (HBW.out.cell (p := ⟨g, _, none⟩) hgw).trans HLO.out
          have hcs : so = 4 ∨ so = 5 ∨ so = 1 ∨ (so ≠ 4 ∧ so ≠ 5 ∧ so ≠ 1) := by omega
          clear hru HDT
          rcases hcs with rfl | rfl | rfl | ⟨s4, s5, s1⟩
          · cases tests
            · have HA2 := Lib.hid (show ans = 2 by rw [HA.out]; simp [docO])
              go_wp2_with (first | (go_at_call 22; ((with_reducible refine (HSO.out _).mono ?_); rintro e w' ⟨rfl, rfl⟩)))
              go_ret
              exact ⟨by rw [HA2.out]; rfl, HBW.out.trans (by (repeat' (first | (with_reducible first | exact Below.refl _ _ | assumption | refine Below.alloc ?_ ?_ _ | refine below_drewN ?_ _ | refine below_drew ?_ | refine below_ext ?_ ?_ _ _ | refine Below.setCell ?_ ?_ _) | (simp; done) | (simp; omega) | omega)))⟩
            · by_cases h40 : 40 < d
              · have HA2 := Lib.hid (show ans = 7 by rw [HA.out]; simp [docO, h40])
                have h40i : (40 : Int) < (d : Int) := by omega
                go_wp2_with (first | (go_at_call 22; ((with_reducible refine (HSO.out _).mono ?_); rintro e w' ⟨rfl, rfl⟩)))
                go_ret
                exact ⟨by rw [HA2.out]; rfl, HBW.out.trans (by (repeat' (first | (with_reducible first | exact Below.refl _ _ | assumption | refine Below.alloc ?_ ?_ _ | refine below_drewN ?_ _ | refine below_drew ?_ | refine below_ext ?_ ?_ _ _ | refine Below.setCell ?_ ?_ _) | (simp; done) | (simp; omega) | omega)))⟩
              · have HA2 := Lib.hid (show ans = 0 by rw [HA.out]; simp [docO, h40])
                have h40i : ¬ (40 : Int) < (d : Int) := by omega
                go_wp2_with (first | (go_at_call 22; ((with_reducible refine (HSO.out _).mono ?_); rintro e w' ⟨rfl, rfl⟩)))
                go_ret
                exact ⟨by rw [HA2.out]; rfl, HBW.out.trans (by (repeat' (first | (with_reducible first | exact Below.refl _ _ | assumption | refine Below.alloc ?_ ?_ _ | refine below_drewN ?_ _ | refine below_drew ?_ | refine below_ext ?_ ?_ _ _ | refine Below.setCell ?_ ?_ _) | (simp; done) | (simp; omega) | omega)))⟩
          · cases tests
            · have HA2 := Lib.hid (show ans = 2 by rw [HA.out]; simp [docO])
              go_wp2_with (first | (go_at_call 22; ((with_reducible refine (HSO.out _).mono ?_); rintro e w' ⟨rfl, rfl⟩)))
              go_ret
              exact ⟨by rw [HA2.out]; rfl, HBW.out.trans (by (repeat' (first | (with_reducible first | exact Below.refl _ _ | assumption | refine Below.alloc ?_ ?_ _ | refine below_drewN ?_ _ | refine below_drew ?_ | refine below_ext ?_ ?_ _ _ | refine Below.setCell ?_ ?_ _) | (simp; done) | (simp; omega) | omega)))⟩
            · by_cases h40 : 40 < d
              · have HA2 := Lib.hid (show ans = 7 by rw [HA.out]; simp [docO, h40])
                have h40i : (40 : Int) < (d : Int) := by omega
                go_wp2_with (first | (go_at_call 22; ((with_reducible refine (HSO.out _).mono ?_); rintro e w' ⟨rfl, rfl⟩)))
                go_ret
                exact ⟨by rw [HA2.out]; rfl, HBW.out.trans (by (repeat' (first | (with_reducible first | exact Below.refl _ _ | assumption | refine Below.alloc ?_ ?_ _ | refine below_drewN ?_ _ | refine below_drew ?_ | refine below_ext ?_ ?_ _ _ | refine Below.setCell ?_ ?_ _) | (simp; done) | (simp; omega) | omega)))⟩
              · have HA2 := Lib.hid (show ans = 0 by rw [HA.out]; simp [docO, h40])
                have h40i : ¬ (40 : Int) < (d : Int) := by omega
                go_wp2_with (first | (go_at_call 22; ((with_reducible refine (HSO.out _).mono ?_); rintro e w' ⟨rfl, rfl⟩)))
                go_ret
                exact ⟨by rw [HA2.out]; rfl, HBW.out.trans (by (repeat' (first | (with_reducible first | exact Below.refl _ _ | assumption | refine Below.alloc ?_ ?_ _ | refine below_drewN ?_ _ | refine below_drew ?_ | refine below_ext ?_ ?_ _ _ | refine Below.setCell ?_ ?_ _) | (simp; done) | (simp; omega) | omega)))⟩
          · cases tests
            · by_cases h40 : 40 < d
              · have HA2 := Lib.hid (show ans = 7 by rw [HA.out]; simp [docO, h40])
                have h40i : (40 : Int) < (d : Int) := by omega
                go_wp2_with (first | (go_at_call 22; ((with_reducible refine (HSO.out _).mono ?_); rintro e w' ⟨rfl, rfl⟩)))
                go_ret
                exact ⟨by rw [HA2.out]; rfl, HBW.out.trans (by (repeat' (first | (with_reducible first | exact Below.refl _ _ | assumption | refine Below.alloc ?_ ?_ _ | refine below_drewN ?_ _ | refine below_drew ?_ | refine below_ext ?_ ?_ _ _ | refine Below.setCell ?_ ?_ _) | (simp; done) | (simp; omega) | omega)))⟩
              · have HA2 := Lib.hid (show ans = 0 by rw [HA.out]; simp [docO, h40])
                have h40i : ¬ (40 : Int) < (d : Int) := by omega
                go_wp2_with (first | (go_at_call 22; ((with_reducible refine (HSO.out _).mono ?_); rintro e w' ⟨rfl, rfl⟩)))
                go_ret
                exact ⟨by rw [HA2.out]; rfl, HBW.out.trans (by (repeat' (first | (with_reducible first | exact Below.refl _ _ | assumption | refine Below.alloc ?_ ?_ _ | refine below_drewN ?_ _ | refine below_drew ?_ | refine below_ext ?_ ?_ _ _ | refine Below.setCell ?_ ?_ _) | (simp; done) | (simp; omega) | omega)))⟩
            · have HA2 := Lib.hid (show ans = 2 by rw [HA.out]; simp [docO])
              go_wp2_with (first | (go_at_call 22; ((with_reducible refine (HSO.out _).mono ?_); rintro e w' ⟨rfl, rfl⟩)))
              go_ret
              exact ⟨by rw [HA2.out]; rfl, HBW.out.trans (by (repeat' (first | (with_reducible first | exact Below.refl _ _ | assumption | refine Below.alloc ?_ ?_ _ | refine below_drewN ?_ _ | refine below_drew ?_ | refine below_ext ?_ ?_ _ _ | refine Below.setCell ?_ ?_ _) | (simp; done) | (simp; omega) | omega)))⟩
          · have b4 : (so == 4) = false := beq_eq_false_iff_ne.2 s4
            have b5 : (so == 5) = false := beq_eq_false_iff_ne.2 s5
            have b1 : (so == 1) = false := beq_eq_false_iff_ne.2 s1
            have n4 : (so != 4) = true := by rw [bne, b4]; rfl
            have n5 : (so != 5) = true := by rw [bne, b5]; rfl
            have n1 : (so != 1) = true := by rw [bne, b1]; rfl
            have HA2 := Lib.hid (show ans = 2 by rw [HA.out]; cases tests <;> simp [docO, s4, s5, s1])
            clear s4 s5 s1
            cases tests
            · go_wp2_with (first | (go_at_call 22; ((with_reducible refine (HSO.out _).mono ?_); rintro e w' ⟨rfl, rfl⟩)))
              go_ret
              exact ⟨by rw [HA2.out]; rfl, HBW.out.trans (by (repeat' (first | (with_reducible first | exact Below.refl _ _ | assumption | refine Below.alloc ?_ ?_ _ | refine below_drewN ?_ _ | refine below_drew ?_ | refine below_ext ?_ ?_ _ _ | refine Below.setCell ?_ ?_ _) | (simp; done) | (simp; omega) | omega)))⟩
            · go_wp2_with (first | (go_at_call 22; ((with_reducible refine (HSO.out _).mono ?_); rintro e w' ⟨rfl, rfl⟩)))
              go_ret
              exact ⟨by rw [HA2.out]; rfl, HBW.out.trans (by (repeat' (first | (with_reducible first | exact Below.refl _ _ | assumption | refine Below.alloc ?_ ?_ _ | refine below_drewN ?_ _ | refine below_drew ?_ | refine below_ext ?_ ?_ _ _ | refine Below.setCell ?_ ?_ _) | (simp; done) | (simp; omega) | omega)))⟩
    · rw [if_pos h1]
      obtain ⟨hn2, hhn⟩ : ∃ hn2, hn2 = H.length := ⟨_, rfl⟩
      have h5 : ((hn2 : Int) == 1) = false := beq_eq_false_iff_ne.2 (by omega)
      have HHN := Lib.hid hhn
      clear h2 hlen hR hpl hpi h1 hhn
      go_enter Tryz.func10, Tryz.ntmps10
      go_wp2_with (first
        | (go_at_call 20; (with_reducible refine HS.out.mono ?_); rintro e w1 ⟨hb1, x, y, rfl, hst⟩; obtain ⟨py, cy, hy, -⟩ := hst.hv.form; rw [← HHN.out] at hy; subst hy; clear hst; obtain ⟨osA, dA, rfl⟩ := ext_of_below hb1; clear hb1))
      go_ret
      exact ⟨rfl, by (repeat' (first | (with_reducible first | exact Below.refl _ _ | assumption | refine Below.alloc ?_ ?_ _ | refine below_drewN ?_ _ | refine below_drew ?_ | refine below_ext ?_ ?_ _ _ | refine Below.setCell ?_ ?_ _) | (simp; done) | (simp; omega) | omega))⟩
end Go.Proofs.YtalahkincccffaaGreatDoor
