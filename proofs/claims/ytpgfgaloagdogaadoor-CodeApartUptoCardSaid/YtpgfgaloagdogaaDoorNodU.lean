/-
  The document's Check, as lists: the places of all parts first, then node by node; it is the program's.
-/
import Derived.Test.YtpgfgaloagdogaaDoorNodS
namespace Go.Proofs.YtpgfgaloagdogaaDoor
open Go.RowKit

/-- the sort of a thing -/
def sortN (op : Int) : Int := if op ≤ 27 then 1 else if op = 28 then 2 else if 30 ≤ op ∧ op ≤ 35 then 3 else if op = 36 then 4 else 5
/-- the places of the parts of the nodes that are left, and what is left over; none: not as many are there as there must be -/
def stkP : Nat → List NdD → List Nat → Option (List Nat × List (List Nat))
  | _, [], H => some (H, [])
  | i, x :: r, H => if takesN x.op x.k = true ∧ x.k ≤ H.length then (stkP (i + 1) r (H.take (H.length - x.k.toNat) ++ [i])).map fun q => (q.1, H.drop (H.length - x.k.toNat) :: q.2) else none
/-- have the parts the sorts that are wanted? -/
def sortsB (l : List NdD) (op : Int) : Nat → List Nat → Bool
  | _, [] => true
  | j, a :: ps => decide (sortN (opA l a) = wantN op j + 1) && sortsB l op (j + 1) ps
/-- how deep the parts are -/
def depD (D : List Nat) : Nat → List Nat → Nat
  | d, [] => d
  | d, a :: ps => depD D (max d (D.getD a 0)) ps
noncomputable def okD (l : List NdD) (x : NdD) (ps : List Nat) : Bool := filledB x.op x.t x.neg x.c x.s x.day && (sortsB l x.op 0 ps && (decide (x.op ≠ 27) || nodupB (ps.map (txA l))))
noncomputable def docM (l : List NdD) : List NdD → List (List Nat) → List Nat → Nat → Option (List Nat × Nat)
  | [], _, D, d => some (D, d)
  | x :: r, ps, D, d => if okD l x (ps.headD []) = true then docM l r ps.tail (D ++ [depD D 0 (ps.headD []) + 1]) (max d (depD D 0 (ps.headD []) + 1)) else none
def docT (tests : Bool) (op : Int) : Option (List Nat × Nat) → Int
  | none => 2
  | some e => if (tests = true ∧ sortN op ≠ 4 ∧ sortN op ≠ 5) ∨ (tests = false ∧ sortN op ≠ 1) then 2 else if 40 < e.2 then 7 else 0
noncomputable def docS (l : List NdD) (tests : Bool) : Option (List Nat × List (List Nat)) → Int
  | none => 2
  | some q => if q.1.length ≠ 1 then 2 else docT tests (opA l (l.length - 1)) (docM l l q.2 [] 0)
/-- what the document's Check answers -/
noncomputable def docE (l : List NdD) (tests : Bool) : Int := if 300 < l.length then 6 else docS l tests (stkP 0 l [])
theorem takes_op {op k : Int} (h : takesN op k = true) : 1 ≤ op ∧ op ≤ 37 := by
  unfold takesN at h
  split at h
  · omega
  split at h
  · omega
  split at h
  · omega
  split at h
  · omega
  split at h
  · omega
  split at h
  · omega
  split at h
  · omega
  · cases h
theorem sort_role {op : Int} (h : 1 ≤ op ∧ op ≤ 37) : sortN op = roleN op + 1 := by
  unfold sortN roleN
  by_cases h1 : op ≤ 27
  · rw [if_pos h1, if_neg (by omega), if_neg (by omega), if_neg (by omega), if_neg (by omega)]; rfl
  rw [if_neg h1]
  by_cases h2 : op = 28
  · rw [if_pos h2, if_pos h2]; rfl
  rw [if_neg h2, if_neg h2]
  by_cases h3 : 30 ≤ op ∧ op ≤ 35
  · rw [if_pos h3, if_pos h3]; rfl
  rw [if_neg h3, if_neg h3]
  by_cases h4 : op = 36
  · rw [if_pos h4, if_pos h4]; rfl
  rw [if_neg h4, if_neg h4, if_pos (by omega)]; rfl
/-- all operations so far are operations -/
def Ops (l : List NdD) (i : Nat) : Prop := ∀ j, j < i → 1 ≤ opA l j ∧ opA l j ≤ 37
theorem roles_sorts {l : List NdD} {op : Int} {D : List Nat} : ∀ (ps : List Nat) (j : Nat), (∀ a ∈ ps, 1 ≤ opA l a ∧ opA l a ≤ 37) → rolesB l op j (ps.map fun a => (a, D.getD a 0)) = sortsB l op j ps
  | [], _, _ => rfl
  | a :: ps, j, h => by
    have h1 := sort_role (h a (by simp))
    show (decide (roleN (opA l a) = wantN op j) && _) = (decide (sortN (opA l a) = wantN op j + 1) && _)
    rw [roles_sorts ps (j + 1) fun b hb => h b (by simp [hb]), h1]
    congr 1
    exact decide_eq_decide.2 (by omega)
theorem dep_dep {D : List Nat} : ∀ (ps : List Nat) (d : Nat), depA (d + 1) (ps.map fun a => (a, D.getD a 0)) = depD D d ps + 1
  | [], _ => rfl
  | a :: ps, d => by
    show depA (max (d + 1) (D.getD a 0 + 1)) _ = _
    rw [show max (d + 1) (D.getD a 0 + 1) = max d (D.getD a 0) + 1 by omega]
    exact dep_dep ps _
theorem map_ext {D : List Nat} {x : Nat} {H : List Nat} (h : ∀ a ∈ H, a < D.length) : H.map (fun a => (a, (D ++ [x]).getD a 0)) = H.map fun a => (a, D.getD a 0) :=
  List.map_congr_left fun a ha => by
    have := h a ha
    rw [List.getD_eq_getElem?_getD, List.getD_eq_getElem?_getD, List.getElem?_append_left this]
theorem meas_doc {l : List NdD} : ∀ (r : List NdD) (i : Nat) (H D : List Nat) (d : Nat), l.drop i = r → D.length = i → (∀ a ∈ H, a < i) → Ops l i →
    measM l i r (H.map fun a => (a, D.getD a 0)) d = match stkP i r H with | none => none | some q => (docM l r q.2 D d).map fun e => (q.1.map fun a => (a, e.1.getD a 0), e.2)
  | [], i, H, D, d, _, _, _, _ => rfl
  | x :: r, i, H, D, d, hr, hD, hH, hO => by
    have hil : i < l.length := by
      have := congrArg List.length hr
      rw [List.length_drop, List.length_cons] at this; omega
    have hx : l[i]? = some x := by
      have := congrArg (·[0]?) hr
      simpa [List.getElem?_drop] using this
    have hr2 : l.drop (i + 1) = r := by
      have := congrArg List.tail hr
      simpa [List.tail_drop] using this
    have hox : opA l i = x.op := by unfold opA; rw [hx]; rfl
    unfold measM stkP
    have hlen : (H.map fun a => (a, D.getD a 0)).length = H.length := List.length_map _
    by_cases ht : takesN x.op x.k = true ∧ x.k ≤ H.length
    · rw [if_pos ht]
      have hop := takes_op ht.1
      have hdr : ((H.map fun a => (a, D.getD a 0)).drop (H.length - x.k.toNat)) = (H.drop (H.length - x.k.toNat)).map fun a => (a, D.getD a 0) := by rw [List.map_drop]
      have hst : stepN l x (H.map fun a => (a, D.getD a 0)) = okD l x (H.drop (H.length - x.k.toNat)) := by
        unfold stepN okD suitedB
        rw [hlen, hdr, ht.1, decide_eq_true ht.2, roles_sorts _ _ fun a ha => hO a (hH a (List.mem_of_mem_drop ha)), List.map_map]
        rfl
      rw [hst]
      have hih := meas_doc (l := l) r (i + 1) (H.take (H.length - x.k.toNat) ++ [i]) (D ++ [depD D 0 (H.drop (H.length - x.k.toNat)) + 1]) (max d (depD D 0 (H.drop (H.length - x.k.toNat)) + 1)) hr2 (by rw [List.length_append, hD]; rfl) (fun a ha => by
        rcases List.mem_append.1 ha with ha | ha
        · have := hH a (List.mem_of_mem_take ha); omega
        · simp at ha; omega) (fun j hj => by
        by_cases e : j = i
        · subst e; rw [hox]; exact hop
        · exact hO j (by omega))
      by_cases hk : okD l x (H.drop (H.length - x.k.toNat)) = true
      · rw [if_pos hk]
        have hnx : nextN i x (H.map fun a => (a, D.getD a 0)) = (H.take (H.length - x.k.toNat) ++ [i]).map fun a => (a, (D ++ [depD D 0 (H.drop (H.length - x.k.toNat)) + 1]).getD a 0) := by
          unfold nextN
          rw [hlen, hdr, dep_dep, List.map_append, map_ext fun a ha => by rw [hD]; exact hH a (List.mem_of_mem_take ha), List.map_take]
          congr 1
          simp [hD]
        rw [hnx, hlen, hdr, dep_dep, hih]
        cases stkP (i + 1) r (H.take (H.length - x.k.toNat) ++ [i]) with
        | none => rfl
        | some q =>
          show _ = Option.map _ (docM l (x :: r) (_ :: q.2) D d)
          conv => rhs; unfold docM
          show _ = Option.map _ (if okD l x (H.drop (H.length - x.k.toNat)) = true then _ else _)
          rw [if_pos hk]
          rfl
      · rw [if_neg hk]
        cases stkP (i + 1) r (H.take (H.length - x.k.toNat) ++ [i]) with
        | none => rfl
        | some q =>
          show _ = Option.map _ (docM l (x :: r) (_ :: q.2) D d)
          conv => rhs; unfold docM
          show _ = Option.map _ (if okD l x (H.drop (H.length - x.k.toNat)) = true then _ else _)
          rw [if_neg hk]
          rfl
    · rw [if_neg ht]
      rw [if_neg]
      intro h
      unfold stepN at h
      rw [hlen] at h
      simp only [Bool.and_eq_true, decide_eq_true_eq] at h
      exact ht ⟨h.1, h.2.1⟩
theorem stk_takes : ∀ (r : List NdD) (i : Nat) (H : List Nat) {q}, stkP i r H = some q → ∀ x ∈ r, takesN x.op x.k = true
  | [], _, _, _, _, _, hx => by cases hx
  | y :: r, i, H, q, h, x, hx => by
    unfold stkP at h
    by_cases ht : takesN y.op y.k = true ∧ y.k ≤ H.length
    · rw [if_pos ht] at h
      cases hs : stkP (i + 1) r (H.take (H.length - y.k.toNat) ++ [i]) with
      | none => rw [hs] at h; cases h
      | some p =>
        rcases List.mem_cons.1 hx with rfl | hx
        · exact ht.1
        · exact stk_takes r (i + 1) _ hs x hx
    · rw [if_neg ht] at h; cases h
theorem doc_chk (l : List NdD) (tests : Bool) : docE l tests = chkE l tests := by
  unfold docE chkE
  by_cases h300 : 300 < l.length
  · rw [if_pos h300, if_pos h300]
  rw [if_neg h300, if_neg h300]
  have hm := meas_doc (l := l) l 0 [] [] 0 rfl rfl (by simp) (fun j hj => absurd hj (Nat.not_lt_zero j))
  simp only [List.map_nil] at hm
  cases hs : stkP 0 l [] with
  | none =>
    rw [hs] at hm
    rw [show measM l 0 l [] 0 = none from hm, if_neg (show ¬ (measO none = true ∧ _) from fun h => by cases h.1)]
    rfl
  | some q =>
    obtain ⟨H, ps⟩ := q
    rw [hs] at hm
    rw [show measM l 0 l [] 0 = (docM l l ps [] 0).map (fun e => (H.map fun a => (a, e.1.getD a 0), e.2)) from hm]
    show (if H.length ≠ 1 then 2 else docT tests (opA l (l.length - 1)) (docM l l ps [] 0)) = _
    generalize docM l l ps [] 0 = e
    cases e with
    | none =>
      simp only [Option.map_none]
      rw [if_neg (show ¬ (measO none = true ∧ _) from fun h => by cases h.1)]
      split <;> rfl
    | some e =>
      obtain ⟨D, d⟩ := e
      have hO : measO (some (H.map fun a => (a, D.getD a 0), d)) = decide (H.length = 1) := by unfold measO; simp
      have hD : measD (some (H.map fun a => (a, D.getD a 0), d)) = (d : Int) := rfl
      show _ = if measO (some (H.map fun a => (a, D.getD a 0), d)) = true ∧ _ then (if 40 < measD (some (H.map fun a => (a, D.getD a 0), d)) then 7 else 0) else 2
      simp only [hO, hD]
      by_cases h1 : H.length = 1
      · rw [if_neg (by simp [h1])]
        have hl0 : 0 < l.length := by
          cases l with
          | nil =>
            have : some (([] : List Nat), ([] : List (List Nat))) = some (H, ps) := hs
            simp at this
            rw [this.1] at h1; cases h1
          | cons _ _ => simp
        obtain ⟨x, hx, hxl⟩ : ∃ x, l[l.length - 1]? = some x ∧ x ∈ l := ⟨l[l.length - 1], List.getElem?_eq_getElem (by omega), List.getElem_mem _⟩
        have hop := takes_op (stk_takes l 0 [] hs x hxl)
        have hoa : opA l (l.length - 1) = x.op := by unfold opA; rw [hx]; rfl
        rw [hoa]
        unfold docT
        simp only
        rw [sort_role hop]
        unfold wholeB
        have hr5 : roleN x.op = 0 ∨ roleN x.op = 1 ∨ roleN x.op = 2 ∨ roleN x.op = 3 ∨ roleN x.op = 4 := by
          unfold roleN
          split
          · simp
          split
          · simp
          split
          · simp
          split <;> simp
        have h40 : ((40 : Int) < (d : Int)) ↔ 40 < d := by omega
        generalize roleN x.op = r at hr5
        rcases hr5 with h | h | h | h | h <;> subst h <;> cases tests <;> simp [h1, h40]
      · rw [if_pos h1, if_neg (by simp [h1])]
end Go.Proofs.YtpgfgaloagdogaaDoor
