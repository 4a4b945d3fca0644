/-
  Check: are they an expression, or unary tests?
  The document's Check, as lists: the places of all parts first, then node by node; it is the program's.
  The document's: how many parts, which sort, what is wanted, the fields of a node.
  The tree that the places of the parts of nodes are.
-/
import Derived.Test.YtalahkincccffaaGreatDoorNodR
import Derived.Test.YtalahkincccffaaGreatDoorDocOne
import Derived.Test.YtalahkincccffaaGreatDoorBb
import Derived.Test.YtalahkincccffaaGreatDoorBg
namespace Go.Proofs.YtalahkincccffaaGreatDoor
open Go.RowKit Go.Maps Go.WideMaps Word Txt
attribute [local go_sem] setCell_drewN cell?_ext frozen?_ext shape?_ext setCell_ext lt_1' ne_1' en_1' le_1' lt_2' ne_2' en_2' le_2' lt_3' ne_3' en_3' le_3' lt_4' ne_4' en_4' le_4' lt_5' ne_5' en_5' le_5' lt_6' ne_6' en_6' le_6' lt_7' ne_7' en_7' le_7' lt_8' ne_8' en_8' le_8' lt_9' ne_9' en_9' le_9' lt_10' ne_10' en_10' le_10' lt_11' ne_11' en_11' le_11' lt_12' ne_12' en_12' le_12'

def wholeB (op : Int) (tests : Bool) : Bool := if roleN op = 0 then !tests else if roleN op = 3 ∨ roleN op = 4 then tests else false
theorem role_le (op : Int) : roleN op = 0 ∨ roleN op = 1 ∨ roleN op = 2 ∨ roleN op = 3 ∨ roleN op = 4 := by
  unfold roleN
  split
  · simp
  split
  · simp
  split
  · simp
  split <;> simp
theorem whole_any (op : Int) (tests : Bool) (w : World) : Calls Tryz.prog 28 #[.int .i64 op, .bool tests] w fun e w' => e = .returned (.bool (wholeB op tests)) ∧ w' = w := by
  have HR := Lib.hid (fun w => role_any op w)
  have hb : wholeB op tests = if roleN op = 0 then !tests else if roleN op = 3 ∨ roleN op = 4 then tests else false := rfl
  rw [hb]
  have hl := role_le op
  generalize roleN op = r at HR hl ⊢
  clear hb
  rcases hl with rfl | rfl | rfl | rfl | rfl
  all_goals
    go_enter Tryz.func28, Tryz.ntmps28
    go_wp2_with (first
      | (go_at_call 49; ((with_reducible refine (HR.out _).mono ?_); rintro e w' ⟨rfl, rfl⟩)))
    go_ret
    exact ⟨by simp, rfl⟩
noncomputable def chkE (l : List NdD) (tests : Bool) : Int :=
  if 300 < l.length then 6 else if measO (measM l 0 l [] 0) = true ∧ wholeB (opA l (l.length - 1)) tests = true then (if 40 < measD (measM l 0 l [] 0) then 7 else 0) else 2
theorem meas_ne {l : List NdD} (h : measO (measM l 0 l [] 0) = true) : 0 < l.length := by
  cases l with
  | nil => exact absurd h (by simp [measM, measO])
  | cons _ _ => simp
set_option maxRecDepth 100000 in
theorem check_any (l : List NdD) (tests : Bool) (n : Nat) (w : World) (v : Value) (hv : RL 8 ndE n w v l) (hn : n ≤ w.heap.size) (hwf : ∀ x ∈ l, x.Wf) (hT : Tens w) (hU : Tabs w) :
    Calls Tryz.prog 13 #[v, .bool tests] w fun e w' => e = .returned (.int .i64 (chkE l tests)) ∧ Below w.heap.size w w' := by
  obtain ⟨R, hR⟩ : ∃ R, R = measM l 0 l [] 0 := ⟨_, rfl⟩
  have HM := Lib.hid (fun (hl : l.length ≤ 300) w' (hb : Below w.heap.size w w') => measure_any l n w' v (hv.keep (hb.mono hn)) (Nat.le_trans hn hb.size) (by omega) hwf (hT.below hb) (hU.below hb))
  have hC : chkE l tests = if 300 < l.length then 6 else if measO R = true ∧ wholeB (opA l (l.length - 1)) tests = true then (if 40 < measD R then 7 else 0) else 2 := by rw [hR]; rfl
  have hne : measO R = true → 0 < l.length := by rw [hR]; exact meas_ne
  rw [← hR] at HM
  rw [hC]
  clear hC hR
  have HW := Lib.hid (fun w => whole_any (opA l (l.length - 1)) tests w)
  obtain ⟨wh, hwh⟩ : ∃ wh, wh = wholeB (opA l (l.length - 1)) tests := ⟨_, rfl⟩
  rw [← hwh] at HW ⊢
  clear hwh
  obtain ⟨p, c, rfl, h2⟩ := hv
  have H2 := Lib.hid h2
  obtain ⟨len, hlen⟩ : ∃ len, len = l.length := ⟨_, rfl⟩
  have HL := Lib.hid hlen
  rw [← hlen] at HM HW hne ⊢
  clear h2 hlen hwf hT hU
  by_cases h300 : 300 < len
  · rw [if_pos h300]
    have h3 : (300 : Int) < (len : Int) := by omega
    go_enter Tryz.func13, Tryz.ntmps13
    go_wp2
    go_ret
    exact ⟨rfl, by (repeat' (first | (with_reducible first | exact Below.refl _ _ | assumption | refine Below.alloc ?_ ?_ _ | refine below_drewN ?_ _ | refine below_drew ?_ | refine below_ext ?_ ?_ _ _ | refine Below.setCell ?_ ?_ _) | (simp; done) | (simp; omega) | omega))⟩
  rw [if_neg h300]
  have h3 : ¬ (300 : Int) < (len : Int) := by omega
  have HM2 := Lib.hid (HM.out (by omega))
  have hd0 : 0 ≤ measD R := by unfold measD; omega
  generalize measD R = d at HM2 hd0 ⊢
  generalize measO R = ok at HM2 hne ⊢
  clear HM
  cases ok with
  | false =>
    rw [if_neg (by simp)]
    go_enter Tryz.func13, Tryz.ntmps13
    go_wp2_with (first
      | (go_at_call 27; ((with_reducible refine (HM2.out _ (by (repeat' (first | (with_reducible first | exact Below.refl _ _ | assumption | refine Below.alloc ?_ ?_ _ | refine below_drewN ?_ _ | refine below_drew ?_ | refine below_ext ?_ ?_ _ _ | refine Below.setCell ?_ ?_ _) | (simp; done) | (simp; omega) | omega)))).mono ?_); rintro e w1 ⟨rfl, hb1⟩; obtain ⟨osA, dA, rfl⟩ := ext_of_below hb1; clear hb1)))
    go_ret
    exact ⟨rfl, by (repeat' (first | (with_reducible first | exact Below.refl _ _ | assumption | refine Below.alloc ?_ ?_ _ | refine below_drewN ?_ _ | refine below_drew ?_ | refine below_ext ?_ ?_ _ _ | refine Below.setCell ?_ ?_ _) | (simp; done) | (simp; omega) | omega))⟩
  | true =>
    have h0 := hne rfl
    obtain ⟨g, o, rfl, hg, hc⟩ := H2.out (by rw [← HL.out]; exact h0)
    obtain ⟨m, rfl⟩ : ∃ m, len = m + 1 := ⟨len - 1, by omega⟩
    have hm2 : m < l.length := by rw [← HL.out]; omega
    obtain ⟨oa, ka, ta, na, ca, sa, da, he, x0, -⟩ := nd_cells hc m hm2
    have hoa : opA l (m + 1 - 1) = oa := by unfold opA; rw [Nat.add_sub_cancel, List.getElem?_eq_getElem hm2, he]; rfl
    have HW2 := Lib.hid (show ∀ w, Calls Tryz.prog 28 #[.int .i64 oa, .bool tests] w fun e w' => e = .returned (.bool wh) ∧ w' = w from fun w => by rw [← hoa]; exact HW.out w)
    have hgw : g < w.heap.size := Nat.lt_of_lt_of_le hg hn
    have E1 : ((m + 1 : Nat) : Int) - 1 = (m : Int) := by omega
    have h5 : (m : Int) < ((m + 1 : Nat) : Int) := by omega
    clear hne hc he hoa HW HL hm2 H2
    cases wh with
    | false =>
      rw [if_neg (by simp)]
      go_enter Tryz.func13, Tryz.ntmps13
      go_wp2_with (first
        | (go_at_call 27; ((with_reducible refine (HM2.out _ (by (repeat' (first | (with_reducible first | exact Below.refl _ _ | assumption | refine Below.alloc ?_ ?_ _ | refine below_drewN ?_ _ | refine below_drew ?_ | refine below_ext ?_ ?_ _ _ | refine Below.setCell ?_ ?_ _) | (simp; done) | (simp; omega) | omega)))).mono ?_); rintro e w1 ⟨rfl, hb1⟩; obtain ⟨osA, dA, rfl⟩ := ext_of_below hb1; clear hb1))
        | (go_at_call 28; ((with_reducible refine (HW2.out _).mono ?_); rintro e w' ⟨rfl, rfl⟩)))
      go_ret
      exact ⟨rfl, by (repeat' (first | (with_reducible first | exact Below.refl _ _ | assumption | refine Below.alloc ?_ ?_ _ | refine below_drewN ?_ _ | refine below_drew ?_ | refine below_ext ?_ ?_ _ _ | refine Below.setCell ?_ ?_ _) | (simp; done) | (simp; omega) | omega))⟩
    | true =>
      rw [if_pos ⟨rfl, rfl⟩]
      by_cases h40 : 40 < d
      · rw [if_pos h40]
        go_enter Tryz.func13, Tryz.ntmps13
        go_wp2_with (first
          | (go_at_call 27; ((with_reducible refine (HM2.out _ (by (repeat' (first | (with_reducible first | exact Below.refl _ _ | assumption | refine Below.alloc ?_ ?_ _ | refine below_drewN ?_ _ | refine below_drew ?_ | refine below_ext ?_ ?_ _ _ | refine Below.setCell ?_ ?_ _) | (simp; done) | (simp; omega) | omega)))).mono ?_); rintro e w1 ⟨rfl, hb1⟩; obtain ⟨osA, dA, rfl⟩ := ext_of_below hb1; clear hb1))
          | (go_at_call 28; ((with_reducible refine (HW2.out _).mono ?_); rintro e w' ⟨rfl, rfl⟩)))
        go_ret
        exact ⟨rfl, by (repeat' (first | (with_reducible first | exact Below.refl _ _ | assumption | refine Below.alloc ?_ ?_ _ | refine below_drewN ?_ _ | refine below_drew ?_ | refine below_ext ?_ ?_ _ _ | refine Below.setCell ?_ ?_ _) | (simp; done) | (simp; omega) | omega))⟩
      · rw [if_neg h40]
        go_enter Tryz.func13, Tryz.ntmps13
        go_wp2_with (first
          | (go_at_call 27; ((with_reducible refine (HM2.out _ (by (repeat' (first | (with_reducible first | exact Below.refl _ _ | assumption | refine Below.alloc ?_ ?_ _ | refine below_drewN ?_ _ | refine below_drew ?_ | refine below_ext ?_ ?_ _ _ | refine Below.setCell ?_ ?_ _) | (simp; done) | (simp; omega) | omega)))).mono ?_); rintro e w1 ⟨rfl, hb1⟩; obtain ⟨osA, dA, rfl⟩ := ext_of_below hb1; clear hb1))
          | (go_at_call 28; ((with_reducible refine (HW2.out _).mono ?_); rintro e w' ⟨rfl, rfl⟩)))
        go_ret
        exact ⟨rfl, by (repeat' (first | (with_reducible first | exact Below.refl _ _ | assumption | refine Below.alloc ?_ ?_ _ | refine below_drewN ?_ _ | refine below_drew ?_ | refine below_ext ?_ ?_ _ _ | refine Below.setCell ?_ ?_ _) | (simp; done) | (simp; omega) | omega))⟩
end Go.Proofs.YtalahkincccffaaGreatDoor
namespace Go.Proofs.YtalahkincccffaaGreatDoor
open Go.RowKit

def sortN (op : Int) : Int := if op ≤ 27 then 1 else if op = 28 then 2 else if 30 ≤ op ∧ op ≤ 35 then 3 else if op = 36 then 4 else 5
def stkP : Nat → List NdD → List Nat → Option (List Nat × List (List Nat))
  | _, [], H => some (H, [])
  | i, x :: r, H => if takesN x.op x.k = true ∧ x.k ≤ H.length then (stkP (i + 1) r (H.take (H.length - x.k.toNat) ++ [i])).map fun q => (q.1, H.drop (H.length - x.k.toNat) :: q.2) else none
def sortsB (l : List NdD) (op : Int) : Nat → List Nat → Bool
  | _, [] => true
  | j, a :: ps => decide (sortN (opA l a) = wantN op j + 1) && sortsB l op (j + 1) ps
def depD (D : List Nat) : Nat → List Nat → Nat
  | d, [] => d
  | d, a :: ps => depD D (max d (D.getD a 0)) ps
noncomputable def okD (l : List NdD) (x : NdD) (ps : List Nat) : Bool := filledB x.op x.t x.neg x.c x.s x.day && (sortsB l x.op 0 ps && (decide (x.op ≠ 27) || nodupB (ps.map (txA l))))
noncomputable def docM (l : List NdD) : List NdD → List (List Nat) → List Nat → Nat → Option (List Nat × Nat)
  | [], _, D, d => some (D, d)
  | x :: r, ps, D, d => if okD l x (ps.headD []) = true then docM l r ps.tail (D ++ [depD D 0 (ps.headD []) + 1]) (max d (depD D 0 (ps.headD []) + 1)) else none
def docT (tests : Bool) (op : Int) : Option (List Nat × Nat) → Int
  | none => 2
  | some e => if (tests = true ∧ sortN op ≠ 4 ∧ sortN op ≠ 5) ∨ (tests = false ∧ sortN op ≠ 1) then 2 else if 40 < e.2 then 7 else 0
noncomputable def docS (l : List NdD) (tests : Bool) : Option (List Nat × List (List Nat)) → Int
  | none => 2
  | some q => if q.1.length ≠ 1 then 2 else docT tests (opA l (l.length - 1)) (docM l l q.2 [] 0)
noncomputable def docE (l : List NdD) (tests : Bool) : Int := if 300 < l.length then 6 else docS l tests (stkP 0 l [])
theorem takes_op {op k : Int} (h : takesN op k = true) : 1 ≤ op ∧ op ≤ 37 := by
  unfold takesN at h
  split at h
  · omega
  split at h
  · omega
  split at h
  · omega
  split at h
  · omega
  split at h
  · omega
  split at h
  · omega
  split at h
  · omega
  · cases h
theorem sort_role {op : Int} (h : 1 ≤ op ∧ op ≤ 37) : sortN op = roleN op + 1 := by
  unfold sortN roleN
  by_cases h1 : op ≤ 27
  · rw [if_pos h1, if_neg (by omega), if_neg (by omega), if_neg (by omega), if_neg (by omega)]; rfl
  rw [if_neg h1]
  by_cases h2 : op = 28
  · rw [if_pos h2, if_pos h2]; rfl
  rw [if_neg h2, if_neg h2]
  by_cases h3 : 30 ≤ op ∧ op ≤ 35
  · rw [if_pos h3, if_pos h3]; rfl
  rw [if_neg h3, if_neg h3]
  by_cases h4 : op = 36
  · rw [if_pos h4, if_pos h4]; rfl
  rw [if_neg h4, if_neg h4, if_pos (by omega)]; rfl
def Ops (l : List NdD) (i : Nat) : Prop := ∀ j, j < i → 1 ≤ opA l j ∧ opA l j ≤ 37
theorem roles_sorts {l : List NdD} {op : Int} {D : List Nat} : ∀ (ps : List Nat) (j : Nat), (∀ a ∈ ps, 1 ≤ opA l a ∧ opA l a ≤ 37) → rolesB l op j (ps.map fun a => (a, D.getD a 0)) = sortsB l op j ps
  | [], _, _ => rfl
  | a :: ps, j, h => by
    have h1 := sort_role (h a (by simp))
    show (decide (roleN (opA l a) = wantN op j) && _) = (decide (sortN (opA l a) = wantN op j + 1) && _)
    rw [roles_sorts ps (j + 1) fun b hb => h b (by simp [hb]), h1]
    congr 1
    exact decide_eq_decide.2 (by omega)
theorem dep_dep {D : List Nat} : ∀ (ps : List Nat) (d : Nat), depA (d + 1) (ps.map fun a => (a, D.getD a 0)) = depD D d ps + 1
  | [], _ => rfl
  | a :: ps, d => by
    show depA (max (d + 1) (D.getD a 0 + 1)) _ = _
    rw [show max (d + 1) (D.getD a 0 + 1) = max d (D.getD a 0) + 1 by omega]
    exact dep_dep ps _
theorem map_ext {D : List Nat} {x : Nat} {H : List Nat} (h : ∀ a ∈ H, a < D.length) : H.map (fun a => (a, (D ++ [x]).getD a 0)) = H.map fun a => (a, D.getD a 0) :=
  List.map_congr_left fun a ha => by
    have := h a ha
    rw [List.getD_eq_getElem?_getD, List.getD_eq_getElem?_getD, List.getElem?_append_left this]
theorem meas_doc {l : List NdD} : ∀ (r : List NdD) (i : Nat) (H D : List Nat) (d : Nat), l.drop i = r → D.length = i → (∀ a ∈ H, a < i) → Ops l i →
    measM l i r (H.map fun a => (a, D.getD a 0)) d = match stkP i r H with | none => none | some q => (docM l r q.2 D d).map fun e => (q.1.map fun a => (a, e.1.getD a 0), e.2)
  | [], i, H, D, d, _, _, _, _ => rfl
  | x :: r, i, H, D, d, hr, hD, hH, hO => by
    have hil : i < l.length := by
      have := congrArg List.length hr
      rw [List.length_drop, List.length_cons] at this; omega
    have hx : l[i]? = some x := by
      have := congrArg (·[0]?) hr
      simpa [List.getElem?_drop] using this
    have hr2 : l.drop (i + 1) = r := by
      have := congrArg List.tail hr
      simpa [List.tail_drop] using this
    have hox : opA l i = x.op := by unfold opA; rw [hx]; rfl
    unfold measM stkP
    have hlen : (H.map fun a => (a, D.getD a 0)).length = H.length := List.length_map _
    by_cases ht : takesN x.op x.k = true ∧ x.k ≤ H.length
    · rw [if_pos ht]
      have hop := takes_op ht.1
      have hdr : ((H.map fun a => (a, D.getD a 0)).drop (H.length - x.k.toNat)) = (H.drop (H.length - x.k.toNat)).map fun a => (a, D.getD a 0) := by rw [List.map_drop]
      have hst : stepN l x (H.map fun a => (a, D.getD a 0)) = okD l x (H.drop (H.length - x.k.toNat)) := by
        unfold stepN okD suitedB
        rw [hlen, hdr, ht.1, decide_eq_true ht.2, roles_sorts _ _ fun a ha => hO a (hH a (List.mem_of_mem_drop ha)), List.map_map]
        rfl
      rw [hst]
      have hih := meas_doc (l := l) r (i + 1) (H.take (H.length - x.k.toNat) ++ [i]) (D ++ [depD D 0 (H.drop (H.length - x.k.toNat)) + 1]) (max d (depD D 0 (H.drop (H.length - x.k.toNat)) + 1)) hr2 (by rw [List.length_append, hD]; rfl) (fun a ha => by
        rcases List.mem_append.1 ha with ha | ha
        · have := hH a (List.mem_of_mem_take ha); omega
        · simp at ha; omega) (fun j hj => by
        by_cases e : j = i
        · subst e; rw [hox]; exact hop
        · exact hO j (by omega))
      by_cases hk : okD l x (H.drop (H.length - x.k.toNat)) = true
      · rw [if_pos hk]
        have hnx : nextN i x (H.map fun a => (a, D.getD a 0)) = (H.take (H.length - x.k.toNat) ++ [i]).map fun a => (a, (D ++ [depD D 0 (H.drop (H.length - x.k.toNat)) + 1]).getD a 0) := by
          unfold nextN
          rw [hlen, hdr, dep_dep, List.map_append, map_ext fun a ha => by rw [hD]; exact hH a (List.mem_of_mem_take ha), List.map_take]
          congr 1
          simp [hD]
        rw [hnx, hlen, hdr, dep_dep, hih]
        cases stkP (i + 1) r (H.take (H.length - x.k.toNat) ++ [i]) with
        | none => rfl
        | some q =>
          show _ = Option.map _ (docM l (x :: r) (_ :: q.2) D d)
          conv => rhs; unfold docM
          show _ = Option.map _ (if okD l x (H.drop (H.length - x.k.toNat)) = true then _ else _)
          rw [if_pos hk]
          rfl
      · rw [if_neg hk]
        cases stkP (i + 1) r (H.take (H.length - x.k.toNat) ++ [i]) with
        | none => rfl
        | some q =>
          show _ = Option.map _ (docM l (x :: r) (_ :: q.2) D d)
          conv => rhs; unfold docM
          show _ = Option.map _ (if okD l x (H.drop (H.length - x.k.toNat)) = true then _ else _)
          rw [if_neg hk]
          rfl
    · rw [if_neg ht]
      rw [if_neg]
      intro h
      unfold stepN at h
      rw [hlen] at h
      simp only [Bool.and_eq_true, decide_eq_true_eq] at h
      exact ht ⟨h.1, h.2.1⟩
theorem stk_takes : ∀ (r : List NdD) (i : Nat) (H : List Nat) {q}, stkP i r H = some q → ∀ x ∈ r, takesN x.op x.k = true
  | [], _, _, _, _, _, hx => by cases hx
  | y :: r, i, H, q, h, x, hx => by
    unfold stkP at h
    by_cases ht : takesN y.op y.k = true ∧ y.k ≤ H.length
    · rw [if_pos ht] at h
      cases hs : stkP (i + 1) r (H.take (H.length - y.k.toNat) ++ [i]) with
      | none => rw [hs] at h; cases h
      | some p =>
        rcases List.mem_cons.1 hx with rfl | hx
        · exact ht.1
        · exact stk_takes r (i + 1) _ hs x hx
    · rw [if_neg ht] at h; cases h
theorem doc_chk (l : List NdD) (tests : Bool) : docE l tests = chkE l tests := by
  unfold docE chkE
  by_cases h300 : 300 < l.length
  · rw [if_pos h300, if_pos h300]
  rw [if_neg h300, if_neg h300]
  have hm := meas_doc (l := l) l 0 [] [] 0 rfl rfl (by simp) (fun j hj => absurd hj (Nat.not_lt_zero j))
  simp only [List.map_nil] at hm
  cases hs : stkP 0 l [] with
  | none =>
    rw [hs] at hm
    rw [show measM l 0 l [] 0 = none from hm, if_neg (show ¬ (measO none = true ∧ _) from fun h => by cases h.1)]
    rfl
  | some q =>
    obtain ⟨H, ps⟩ := q
    rw [hs] at hm
    rw [show measM l 0 l [] 0 = (docM l l ps [] 0).map (fun e => (H.map fun a => (a, e.1.getD a 0), e.2)) from hm]
    show (if H.length ≠ 1 then 2 else docT tests (opA l (l.length - 1)) (docM l l ps [] 0)) = _
    generalize docM l l ps [] 0 = e
    cases e with
    | none =>
      simp only [Option.map_none]
      rw [if_neg (show ¬ (measO none = true ∧ _) from fun h => by cases h.1)]
      split <;> rfl
    | some e =>
      obtain ⟨D, d⟩ := e
      have hO : measO (some (H.map fun a => (a, D.getD a 0), d)) = decide (H.length = 1) := by unfold measO; simp
      have hD : measD (some (H.map fun a => (a, D.getD a 0), d)) = (d : Int) := rfl
      show _ = if measO (some (H.map fun a => (a, D.getD a 0), d)) = true ∧ _ then (if 40 < measD (some (H.map fun a => (a, D.getD a 0), d)) then 7 else 0) else 2
      simp only [hO, hD]
      by_cases h1 : H.length = 1
      · rw [if_neg (by simp [h1])]
        have hl0 : 0 < l.length := by
          cases l with
          | nil =>
            have : some (([] : List Nat), ([] : List (List Nat))) = some (H, ps) := hs
            simp at this
            rw [this.1] at h1; cases h1
          | cons _ _ => simp
        obtain ⟨x, hx, hxl⟩ : ∃ x, l[l.length - 1]? = some x ∧ x ∈ l := ⟨l[l.length - 1], List.getElem?_eq_getElem (by omega), List.getElem_mem _⟩
        have hop := takes_op (stk_takes l 0 [] hs x hxl)
        have hoa : opA l (l.length - 1) = x.op := by unfold opA; rw [hx]; rfl
        rw [hoa]
        unfold docT
        simp only
        rw [sort_role hop]
        unfold wholeB
        have hr5 : roleN x.op = 0 ∨ roleN x.op = 1 ∨ roleN x.op = 2 ∨ roleN x.op = 3 ∨ roleN x.op = 4 := by
          unfold roleN
          split
          · simp
          split
          · simp
          split
          · simp
          split <;> simp
        have h40 : ((40 : Int) < (d : Int)) ↔ 40 < d := by omega
        generalize roleN x.op = r at hr5
        rcases hr5 with h | h | h | h | h <;> subst h <;> cases tests <;> simp [h1, h40]
      · rw [if_pos h1, if_neg (by simp [h1])]
end Go.Proofs.YtalahkincccffaaGreatDoor
namespace Go.Proofs.YtalahkincccffaaGreatDoor
open Go.RowKit Word Txt
attribute [local go_sem] setCell_drewN cell?_ext frozen?_ext shape?_ext setCell_ext lt_1' ne_1' en_1' le_1' lt_2' ne_2' en_2' le_2' lt_3' ne_3' en_3' le_3' lt_4' ne_4' en_4' le_4' lt_5' ne_5' en_5' le_5' lt_6' ne_6' en_6' le_6' lt_7' ne_7' en_7' le_7' lt_8' ne_8' en_8' le_8' lt_9' ne_9' en_9' le_9' lt_10' ne_10' en_10' le_10' lt_11' ne_11' en_11' le_11' lt_12' ne_12' en_12' le_12'

theorem rkids_none {op k : Int} (h : op < 1 ∨ 37 < op) : takesN op k = false := by unfold takesN; rw [if_neg (by omega), if_neg (by omega), if_neg (by omega), if_neg (by omega), if_neg (by omega), if_neg (by omega), if_neg (by omega)]
set_option maxRecDepth 100000 in
set_option maxHeartbeats 4000000 in
theorem rkids_any (op k : Int) (w : World) : Calls Tryz.prog 37 #[.int .i64 op, .int .i64 k] w fun e w' => e = .returned (.bool (takesN op k)) ∧ w' = w := by
  have hc : (1 ≤ op ∧ op ≤ 7) ∨ (op = 29) ∨ (op = 8) ∨ (op = 24) ∨ (op = 28) ∨ (30 ≤ op ∧ op ≤ 34) ∨ (op = 37) ∨ (9 ≤ op ∧ op ≤ 20) ∨ (op = 23) ∨ (op = 35) ∨ (op = 21) ∨ (op = 22) ∨ (op = 25) ∨ (op = 26) ∨ (op = 27) ∨ (op = 36) ∨ (op < 1) ∨ (37 < op) := by omega
  rcases hc with h | rfl | rfl | rfl | rfl | h | rfl | h | rfl | rfl | rfl | rfl | rfl | rfl | rfl | rfl | h | h
  · rw [show takesN op k = (decide (k = 0)) by unfold takesN; rw [if_pos (by omega)]]
    have q8 : (op == 8) = false := beq_eq_false_iff_ne.2 (by omega)
    have q21 : (op == 21) = false := beq_eq_false_iff_ne.2 (by omega)
    have q22 : (op == 22) = false := beq_eq_false_iff_ne.2 (by omega)
    have q23 : (op == 23) = false := beq_eq_false_iff_ne.2 (by omega)
    have q24 : (op == 24) = false := beq_eq_false_iff_ne.2 (by omega)
    have q25 : (op == 25) = false := beq_eq_false_iff_ne.2 (by omega)
    have q26 : (op == 26) = false := beq_eq_false_iff_ne.2 (by omega)
    have q27 : (op == 27) = false := beq_eq_false_iff_ne.2 (by omega)
    have q28 : (op == 28) = false := beq_eq_false_iff_ne.2 (by omega)
    have q29 : (op == 29) = false := beq_eq_false_iff_ne.2 (by omega)
    have q35 : (op == 35) = false := beq_eq_false_iff_ne.2 (by omega)
    have q36 : (op == 36) = false := beq_eq_false_iff_ne.2 (by omega)
    have q37 : (op == 37) = false := beq_eq_false_iff_ne.2 (by omega)
    obtain ⟨h1, h2⟩ := h
    rw [← beq_dec]
    go_enter Tryz.func37, Tryz.ntmps37
    go_wp2
    all_goals
      go_ret
      exact ⟨rfl, rfl⟩
  · rw [show takesN 29 k = (decide (k = 0)) from rfl]
    rw [← beq_dec]
    go_enter Tryz.func37, Tryz.ntmps37
    go_wp2
    all_goals
      go_ret
      exact ⟨rfl, rfl⟩
  · rw [show takesN 8 k = (decide (k = 1)) from rfl]
    rw [← beq_dec]
    go_enter Tryz.func37, Tryz.ntmps37
    go_wp2
    all_goals
      go_ret
      exact ⟨rfl, rfl⟩
  · rw [show takesN 24 k = (decide (k = 1)) from rfl]
    rw [← beq_dec]
    go_enter Tryz.func37, Tryz.ntmps37
    go_wp2
    all_goals
      go_ret
      exact ⟨rfl, rfl⟩
  · rw [show takesN 28 k = (decide (k = 1)) from rfl]
    rw [← beq_dec]
    go_enter Tryz.func37, Tryz.ntmps37
    go_wp2
    all_goals
      go_ret
      exact ⟨rfl, rfl⟩
  · rw [show takesN op k = (decide (k = 1)) by unfold takesN; rw [if_neg (by omega), if_pos (by omega)]]
    have q8 : (op == 8) = false := beq_eq_false_iff_ne.2 (by omega)
    have q21 : (op == 21) = false := beq_eq_false_iff_ne.2 (by omega)
    have q22 : (op == 22) = false := beq_eq_false_iff_ne.2 (by omega)
    have q23 : (op == 23) = false := beq_eq_false_iff_ne.2 (by omega)
    have q24 : (op == 24) = false := beq_eq_false_iff_ne.2 (by omega)
    have q25 : (op == 25) = false := beq_eq_false_iff_ne.2 (by omega)
    have q26 : (op == 26) = false := beq_eq_false_iff_ne.2 (by omega)
    have q27 : (op == 27) = false := beq_eq_false_iff_ne.2 (by omega)
    have q28 : (op == 28) = false := beq_eq_false_iff_ne.2 (by omega)
    have q29 : (op == 29) = false := beq_eq_false_iff_ne.2 (by omega)
    have q35 : (op == 35) = false := beq_eq_false_iff_ne.2 (by omega)
    have q36 : (op == 36) = false := beq_eq_false_iff_ne.2 (by omega)
    have q37 : (op == 37) = false := beq_eq_false_iff_ne.2 (by omega)
    obtain ⟨h1, h2⟩ := h
    have h3 : ¬ op ≤ 7 := by omega
    have h4 : ¬ op ≤ 20 := by omega
    have h5 : 1 ≤ op := by omega
    have h6 : 28 ≤ op := by omega
    have h7 : 9 ≤ op := by omega
    rw [← beq_dec]
    go_enter Tryz.func37, Tryz.ntmps37
    go_wp2
    all_goals
      go_ret
      exact ⟨rfl, rfl⟩
  · rw [show takesN 37 k = (decide (k = 1)) from rfl]
    rw [← beq_dec]
    go_enter Tryz.func37, Tryz.ntmps37
    go_wp2
    all_goals
      go_ret
      exact ⟨rfl, rfl⟩
  · rw [show takesN op k = (decide (k = 2)) by unfold takesN; rw [if_neg (by omega), if_neg (by omega), if_pos (by omega)]]
    have q8 : (op == 8) = false := beq_eq_false_iff_ne.2 (by omega)
    have q21 : (op == 21) = false := beq_eq_false_iff_ne.2 (by omega)
    have q22 : (op == 22) = false := beq_eq_false_iff_ne.2 (by omega)
    have q23 : (op == 23) = false := beq_eq_false_iff_ne.2 (by omega)
    have q24 : (op == 24) = false := beq_eq_false_iff_ne.2 (by omega)
    have q25 : (op == 25) = false := beq_eq_false_iff_ne.2 (by omega)
    have q26 : (op == 26) = false := beq_eq_false_iff_ne.2 (by omega)
    have q27 : (op == 27) = false := beq_eq_false_iff_ne.2 (by omega)
    have q28 : (op == 28) = false := beq_eq_false_iff_ne.2 (by omega)
    have q29 : (op == 29) = false := beq_eq_false_iff_ne.2 (by omega)
    have q35 : (op == 35) = false := beq_eq_false_iff_ne.2 (by omega)
    have q36 : (op == 36) = false := beq_eq_false_iff_ne.2 (by omega)
    have q37 : (op == 37) = false := beq_eq_false_iff_ne.2 (by omega)
    obtain ⟨h1, h2⟩ := h
    have h3 : ¬ op ≤ 7 := by omega
    have h4 : ¬ 28 ≤ op := by omega
    have h5 : 1 ≤ op := by omega
    rw [← beq_dec]
    go_enter Tryz.func37, Tryz.ntmps37
    go_wp2
    all_goals
      go_ret
      exact ⟨rfl, rfl⟩
  · rw [show takesN 23 k = (decide (k = 2)) from rfl]
    rw [← beq_dec]
    go_enter Tryz.func37, Tryz.ntmps37
    go_wp2
    all_goals
      go_ret
      exact ⟨rfl, rfl⟩
  · rw [show takesN 35 k = (decide (k = 2)) from rfl]
    rw [← beq_dec]
    go_enter Tryz.func37, Tryz.ntmps37
    go_wp2
    all_goals
      go_ret
      exact ⟨rfl, rfl⟩
  · rw [show takesN 21 k = (decide (k = 3)) from rfl]
    rw [← beq_dec]
    go_enter Tryz.func37, Tryz.ntmps37
    go_wp2
    all_goals
      go_ret
      exact ⟨rfl, rfl⟩
  · rw [show takesN 22 k = (decide (k = 3)) from rfl]
    rw [← beq_dec]
    go_enter Tryz.func37, Tryz.ntmps37
    go_wp2
    all_goals
      go_ret
      exact ⟨rfl, rfl⟩
  · rw [show takesN 25 k = (decide (0 ≤ k) && decide (k ≤ 8)) from rfl]
    by_cases h0 : 0 ≤ k
    all_goals
      first | rw [decide_eq_true h0] | rw [decide_eq_false h0]
      go_enter Tryz.func37, Tryz.ntmps37
      go_wp2
      all_goals
        go_ret
        exact ⟨rfl, rfl⟩
  · rw [show takesN 26 k = (decide (0 ≤ k)) from rfl]
    go_enter Tryz.func37, Tryz.ntmps37
    go_wp2
    all_goals
      go_ret
      exact ⟨rfl, rfl⟩
  · rw [show takesN 27 k = (decide (0 ≤ k)) from rfl]
    go_enter Tryz.func37, Tryz.ntmps37
    go_wp2
    all_goals
      go_ret
      exact ⟨rfl, rfl⟩
  · rw [show takesN 36 k = (decide (1 ≤ k)) from rfl]
    go_enter Tryz.func37, Tryz.ntmps37
    go_wp2
    all_goals
      go_ret
      exact ⟨rfl, rfl⟩
  · rw [rkids_none (by omega)]
    have q8 : (op == 8) = false := beq_eq_false_iff_ne.2 (by omega)
    have q21 : (op == 21) = false := beq_eq_false_iff_ne.2 (by omega)
    have q22 : (op == 22) = false := beq_eq_false_iff_ne.2 (by omega)
    have q23 : (op == 23) = false := beq_eq_false_iff_ne.2 (by omega)
    have q24 : (op == 24) = false := beq_eq_false_iff_ne.2 (by omega)
    have q25 : (op == 25) = false := beq_eq_false_iff_ne.2 (by omega)
    have q26 : (op == 26) = false := beq_eq_false_iff_ne.2 (by omega)
    have q27 : (op == 27) = false := beq_eq_false_iff_ne.2 (by omega)
    have q28 : (op == 28) = false := beq_eq_false_iff_ne.2 (by omega)
    have q29 : (op == 29) = false := beq_eq_false_iff_ne.2 (by omega)
    have q35 : (op == 35) = false := beq_eq_false_iff_ne.2 (by omega)
    have q36 : (op == 36) = false := beq_eq_false_iff_ne.2 (by omega)
    have q37 : (op == 37) = false := beq_eq_false_iff_ne.2 (by omega)
    have h3 : ¬ 1 ≤ op := by omega
    have h4 : ¬ 28 ≤ op := by omega
    have h5 : ¬ 9 ≤ op := by omega
    go_enter Tryz.func37, Tryz.ntmps37
    go_wp2
    all_goals
      go_ret
      exact ⟨rfl, rfl⟩
  · rw [rkids_none (by omega)]
    have q8 : (op == 8) = false := beq_eq_false_iff_ne.2 (by omega)
    have q21 : (op == 21) = false := beq_eq_false_iff_ne.2 (by omega)
    have q22 : (op == 22) = false := beq_eq_false_iff_ne.2 (by omega)
    have q23 : (op == 23) = false := beq_eq_false_iff_ne.2 (by omega)
    have q24 : (op == 24) = false := beq_eq_false_iff_ne.2 (by omega)
    have q25 : (op == 25) = false := beq_eq_false_iff_ne.2 (by omega)
    have q26 : (op == 26) = false := beq_eq_false_iff_ne.2 (by omega)
    have q27 : (op == 27) = false := beq_eq_false_iff_ne.2 (by omega)
    have q28 : (op == 28) = false := beq_eq_false_iff_ne.2 (by omega)
    have q29 : (op == 29) = false := beq_eq_false_iff_ne.2 (by omega)
    have q35 : (op == 35) = false := beq_eq_false_iff_ne.2 (by omega)
    have q36 : (op == 36) = false := beq_eq_false_iff_ne.2 (by omega)
    have q37 : (op == 37) = false := beq_eq_false_iff_ne.2 (by omega)
    have h3 : ¬ op ≤ 7 := by omega
    have h4 : ¬ op ≤ 34 := by omega
    have h5 : ¬ op ≤ 20 := by omega
    have h6 : 1 ≤ op := by omega
    have h7 : 28 ≤ op := by omega
    have h8 : 9 ≤ op := by omega
    go_enter Tryz.func37, Tryz.ntmps37
    go_wp2
    all_goals
      go_ret
      exact ⟨rfl, rfl⟩
theorem rsort_any (op : Int) (w : World) : Calls Tryz.prog 22 #[.int .i64 op] w fun e w' => e = .returned (.int .i64 (sortN op)) ∧ w' = w := by
  have hc : op ≤ 27 ∨ op = 28 ∨ (30 ≤ op ∧ op ≤ 35) ∨ op = 36 ∨ (27 < op ∧ op ≠ 28 ∧ ¬ (30 ≤ op ∧ op ≤ 35) ∧ op ≠ 36) := by omega
  obtain ⟨r, hr⟩ : ∃ r, r = sortN op := ⟨_, rfl⟩
  have HR := Lib.hid hr
  rw [← hr]
  clear hr
  rcases hc with h | rfl | h | rfl | h
  all_goals
    go_enter Tryz.func22, Tryz.ntmps22
    go_wp2
    all_goals
      go_ret
      refine ⟨?_, rfl⟩
      rw [HR.out]
      clear HR
      first
        | (simp_all [sortN]; done)
        | (simp_all [sortN]; omega)
        | (rw [show sortN op = 3 by unfold sortN; rw [if_neg (by omega), if_neg (by omega), if_pos (by omega)]])
        | (rw [show sortN op = 5 by unfold sortN; rw [if_neg (by omega), if_neg (by omega), if_neg (by omega), if_neg (by omega)]])
theorem rwants_any (op i : Int) (w : World) : Calls Tryz.prog 23 #[.int .i64 op, .int .i64 i] w fun e w' => e = .returned (.int .i64 (wantN op i + 1)) ∧ w' = w := by
  obtain ⟨r, hr⟩ : ∃ r, r = wantN op i + 1 := ⟨_, rfl⟩
  have HR := Lib.hid hr
  rw [← hr]
  clear hr
  by_cases h : op = 23 <;> by_cases h1 : i = 1
  all_goals
    have q1 : (op == 23) = decide (op = 23) := beq_dec _ _
    have q2 : (i == 1) = decide (i = 1) := beq_dec _ _
    first | rw [decide_eq_true h] at q1 | rw [decide_eq_false h] at q1
    first | rw [decide_eq_true h1] at q2 | rw [decide_eq_false h1] at q2
    go_enter Tryz.func23, Tryz.ntmps23
    go_wp2
    all_goals
      go_ret
      refine ⟨?_, rfl⟩
      rw [HR.out]
      clear HR
      simp_all [wantN]
theorem rnm_is (s : ByteArray) (w : World) : Calls Tryz.prog 25 #[.string s] w fun e w' => e = .returned (.bool (nmB s)) ∧ w' = w := by
  unfold nmB
  by_cases h : IsName s
  · simpa [h] using (rname_yes s h w).mono fun _ _ ⟨a, b⟩ => ⟨a, b.symm⟩
  · simpa [h] using (rname_no s h w).mono fun _ _ ⟨a, b⟩ => ⟨a, b.symm⟩
theorem ris_any (d : Int) (w : World) : Calls Tryz.prog 40 #[.int .i64 d] w fun e w' => e = .returned (.bool (decide (1 ≤ d ∧ d ≤ 3652059))) ∧ w' = w := by
  by_cases h : 1 ≤ d ∧ d ≤ 3652059
  · rw [decide_eq_true h]; exact (is_ref d h.1 h.2 w).mono fun _ _ ⟨a, b⟩ => ⟨a, b.symm⟩
  · rw [decide_eq_false h]; exact (is_no d (by omega) w).mono fun _ _ ⟨a, b⟩ => ⟨a, b.symm⟩
end Go.Proofs.YtalahkincccffaaGreatDoor
namespace Go.Proofs.YtalahkincccffaaGreatDoor
open Go.RowKit Num Word Txt

/-! ### the tree that the places of the parts are -/

def Chain (L : List Nat) : Nat → List Nat → Nat → Prop
  | a, [], b => a = b
  | a, p :: ps, b => L.getD p 0 = a ∧ a ≤ p ∧ Chain L (p + 1) ps b
theorem Chain.le {L : List Nat} : ∀ {ps : List Nat} {a b : Nat}, Chain L a ps b → a ≤ b
  | [], _, _, h => Nat.le_of_eq h
  | _ :: _, _, _, h => by have := Chain.le h.2.2; have := h.2.1; omega
theorem Chain.mem {L : List Nat} : ∀ {ps : List Nat} {a b : Nat}, Chain L a ps b → ∀ p ∈ ps, a ≤ p ∧ p < b
  | _ :: _, _, _, h, p, hp => by
    have h1 := Chain.le h.2.2
    have h2 := h.2.1
    rcases List.mem_cons.1 hp with rfl | hp
    · omega
    · have := Chain.mem h.2.2 p hp; omega
theorem Chain.split {L : List Nat} : ∀ {ps qs : List Nat} {a b : Nat}, Chain L a (ps ++ qs) b → ∃ c, Chain L a ps c ∧ Chain L c qs b
  | [], _, a, _, h => ⟨a, rfl, h⟩
  | _ :: _, _, _, _, h => by
    obtain ⟨c, h1, h2⟩ := Chain.split h.2.2
    exact ⟨c, ⟨h.1, h.2.1, h1⟩, h2⟩
theorem Chain.join {L : List Nat} : ∀ {ps qs : List Nat} {a b c : Nat}, Chain L a ps c → Chain L c qs b → Chain L a (ps ++ qs) b
  | [], _, _, _, _, h1, h2 => by cases h1; exact h2
  | _ :: _, _, _, _, _, h1, h2 => ⟨h1.1, h1.2.1, Chain.join h1.2.2 h2⟩
theorem Chain.ext {L : List Nat} {x : Nat} : ∀ {ps : List Nat} {a b : Nat}, b ≤ L.length → Chain L a ps b → Chain (L ++ [x]) a ps b
  | [], _, _, _, h => h
  | p :: ps, a, b, hb, h => by
    have h1 := Chain.le h.2.2
    refine ⟨?_, h.2.1, Chain.ext hb h.2.2⟩
    rw [← h.1, List.getD_eq_getElem?_getD, List.getD_eq_getElem?_getD, List.getElem?_append_left (by omega)]
theorem Chain.find {L : List Nat} : ∀ {ps : List Nat} {a b X : Nat}, Chain L a ps b → a ≤ X → X < b → ∃ c ∈ ps, L.getD c 0 ≤ X ∧ X ≤ c ∧ a ≤ L.getD c 0
  | [], a, b, X, h, h1, h2 => by cases h; omega
  | p :: ps, a, b, X, h, h1, h2 => by
    by_cases hx : X ≤ p
    · exact ⟨p, List.mem_cons_self .., by have := h.1; omega, hx, by have := h.1; omega⟩
    · obtain ⟨c, hc, h3, h4, h5⟩ := Chain.find h.2.2 (by omega) h2
      exact ⟨c, List.mem_cons_of_mem _ hc, h3, h4, by have := h.2.1; omega⟩
structure Tr (l : List NdD) (P : List (List Nat)) (L : List Nat) : Prop where
  lp : P.length = l.length
  ll : L.length = l.length
  chain : ∀ i, i < l.length → Chain L (L.getD i 0) (P.getD i []) i
  kids : ∀ i (h : i < l.length), takesN l[i].op l[i].k = true ∧ ((P.getD i []).length : Int) = l[i].k
theorem takes_nn {op k : Int} (h : takesN op k = true) : 0 ≤ k := by
  unfold takesN at h
  repeat' split at h
  all_goals first
    | (simp only [Bool.and_eq_true, decide_eq_true_eq] at h; omega)
    | cases h
theorem stk_tree (l : List NdD) : ∀ (r : List NdD) (i : Nat) (H : List Nat) (P : List (List Nat)) (L : List Nat) {q}, l.drop i = r → i ≤ l.length → P.length = i → L.length = i → Chain L 0 H i →
    (∀ j, j < i → Chain L (L.getD j 0) (P.getD j []) j) → (∀ j (h : j < l.length), j < i → takesN l[j].op l[j].k = true ∧ ((P.getD j []).length : Int) = l[j].k) → stkP i r H = some q →
    ∃ L', Tr l (P ++ q.2) L' ∧ Chain L' 0 q.1 l.length
  | [], i, H, P, L, q, hd, hi, hP, hL, hH, hc, hk, e => by
    have hil : i = l.length := by
      have := congrArg List.length hd
      simp at this
      omega
    injection e with e
    subst e
    subst hil
    refine ⟨L, ⟨by simpa using hP, hL, ?_, ?_⟩, hH⟩
    · intro j hj; simpa using hc j hj
    · intro j hj; simpa using hk j hj hj
  | x :: r, i, H, P, L, q, hd, hi, hP, hL, hH, hc, hk, e => by
    unfold stkP at e
    split at e
    case isFalse => cases e
    case isTrue ht =>
    obtain ⟨q', e', rfl⟩ := Option.map_eq_some_iff.1 e
    have hil : i < l.length := by
      rcases Nat.lt_or_ge i l.length with h | h
      · exact h
      · rw [List.drop_eq_nil_of_le h] at hd; cases hd
    have hx : l[i] = x ∧ l.drop (i + 1) = r := by
      rw [List.drop_eq_getElem_cons hil] at hd
      exact List.cons.inj hd
    have hk0 := takes_nn ht.1
    obtain ⟨m, hm⟩ : ∃ m, m = H.length - x.k.toNat := ⟨_, rfl⟩
    rw [← hm] at e'
    have hsp : Chain L 0 (H.take m ++ H.drop m) i := by rw [List.take_append_drop]; exact hH
    obtain ⟨c, h1, h2⟩ := hsp.split
    have hci := h2.le
    have hlen : ((H.drop m).length : Int) = x.k := by rw [List.length_drop]; omega
    have := stk_tree l r (i + 1) (H.take m ++ [i]) (P ++ [H.drop m]) (L ++ [c]) (q := q') hx.2 (by omega) (by simp [hP]) (by simp [hL]) ?_ ?_ ?_ e'
    · obtain ⟨L', h3, h4⟩ := this
      rw [← hm]
      exact ⟨L', by rw [List.append_assoc] at h3; exact h3, h4⟩
    · refine (h1.ext (by omega)).join ⟨?_, hci, rfl⟩
      rw [List.getD_eq_getElem?_getD, List.getElem?_append_right (by omega)]
      simp [hL]
    · intro j hj
      by_cases hji : j < i
      · rw [List.getD_eq_getElem?_getD, List.getD_eq_getElem?_getD, List.getElem?_append_left (by omega), List.getElem?_append_left (by omega), ← List.getD_eq_getElem?_getD, ← List.getD_eq_getElem?_getD]
        exact (hc j hji).ext (by omega)
      · obtain rfl : j = i := by omega
        rw [List.getD_eq_getElem?_getD, List.getD_eq_getElem?_getD, List.getElem?_append_right (by omega), List.getElem?_append_right (by omega)]
        simp only [hL, hP, Nat.sub_self, List.getElem?_cons_zero, Option.getD_some]
        exact h2.ext (by omega)
    · intro j hj hji
      by_cases hji : j < i
      · rw [List.getD_eq_getElem?_getD, List.getElem?_append_left (by omega), ← List.getD_eq_getElem?_getD]
        exact hk j hj hji
      · obtain rfl : j = i := by omega
        rw [List.getD_eq_getElem?_getD, List.getElem?_append_right (by omega)]
        simp only [hP, Nat.sub_self, List.getElem?_cons_zero, Option.getD_some]
        rw [hx.1]
        exact ⟨ht.1, hlen⟩
theorem tree_of {l : List NdD} {H : List Nat} {P : List (List Nat)} (h : stkP 0 l [] = some (H, P)) : ∃ L, Tr l P L ∧ Chain L 0 H l.length :=
  stk_tree l l 0 [] [] [] rfl (Nat.zero_le _) rfl rfl rfl (fun j h => absurd h (Nat.not_lt_zero j)) (fun j _ h => absurd h (Nat.not_lt_zero j)) h
section
variable {l : List NdD} {P : List (List Nat)} {L : List Nat}
theorem Tr.low (h : Tr l P L) {i : Nat} (hi : i < l.length) : L.getD i 0 ≤ i := (h.chain i hi).le
theorem Tr.lam (h : Tr l P L) : ∀ (q X : Nat), q < l.length → L.getD q 0 ≤ X → X ≤ q → L.getD q 0 ≤ L.getD X 0 := by
  intro q
  induction q using Nat.strongRecOn with
  | ind q ih =>
    intro X hq h1 h2
    by_cases e : X = q
    · rw [e]; exact Nat.le_refl _
    · obtain ⟨c, hc, h3, h4, h5⟩ := (h.chain q hq).find h1 (by omega)
      have := ((h.chain q hq).mem c hc).2
      exact Nat.le_trans h5 (ih c this X (by omega) h3 h4)
theorem Tr.one (h : Tr l P L) {X Y p : Nat} (hXY : X < Y) (hY : Y < l.length) (h1 : p ∈ P.getD X []) (h2 : p ∈ P.getD Y []) : False := by
  obtain ⟨s, t, e⟩ := List.append_of_mem h2
  have hc := h.chain Y hY
  rw [e] at hc
  obtain ⟨c, h3, h4⟩ := hc.split
  have hX := (h.chain X (by omega)).mem p h1
  obtain ⟨c2, hc2, h5, h6, h7⟩ := h4.2.2.find (X := X) (by omega) hXY
  have hlt := (h4.2.2.mem c2 hc2).2
  have := h.lam c2 X (by omega) h5 h6
  omega
theorem Tr.eq (h : Tr l P L) {X Y p : Nat} (hX : X < l.length) (hY : Y < l.length) (h1 : p ∈ P.getD X []) (h2 : p ∈ P.getD Y []) : X = Y := by
  rcases Nat.lt_trichotomy X Y with h3 | h3 | h3
  · exact (h.one h3 hY h1 h2).elim
  · exact h3
  · exact (h.one h3 hX h2 h1).elim
end
def ndA (l : List NdD) (i : Nat) : NdD := l.getD i ⟨0, 0, ⟨#[]⟩, false, 0, 0, 0⟩
section
variable {l : List NdD} {P : List (List Nat)} {L : List Nat}
theorem nd_at {i : Nat} (hi : i < l.length) : ndA l i = l[i] := by
  unfold ndA; rw [List.getD_eq_getElem?_getD, List.getElem?_eq_getElem hi]; rfl
theorem Tr.len (h : Tr l P L) {i : Nat} (hi : i < l.length) : ((P.getD i []).length : Int) = (ndA l i).k ∧ takesN (ndA l i).op (ndA l i).k = true := by
  rw [nd_at hi]; exact ⟨(h.kids i hi).2, (h.kids i hi).1⟩
theorem takes_in {k : Int} (h : takesN 23 k = true) : k = 2 := by
  have : decide (k = 2) = true := h
  exact of_decide_eq_true this
theorem list2 {p : List Nat} (h : p.length = 2) : ∃ a b, p = [a, b] := by
  match p, h with
  | [a, b], _ => exact ⟨a, b, rfl⟩
end
end Go.Proofs.YtalahkincccffaaGreatDoor
