/-
  Equality of values goes both ways; a value is equal to itself; or by not and and.
-/
import Derived.Test.YtjkallelniggpaaGreatDoorBh
import Derived.Test.YtjkallelniggpaaGreatDoorValJ
namespace Go.Proofs.YtjkallelniggpaaGreatDoor
open Go.RowKit Word Txt

theorem form_ctx {v : V} (h : v.form = true) (h6 : v.kind = 6) : v.names.length = v.kids.length ∧ v.names.Nodup := by
  cases v with
  | mk k yes neg c s t day l ns =>
    rw [form_doc] at h
    simp only [Bool.and_eq_true, decide_eq_true_eq] at h
    obtain ⟨-, -, -, h4, h5, -⟩ := h
    have h6' : k = 6 := h6
    subst h6'
    unfold distB at h5
    simp only [Bool.and_eq_true, decide_eq_true_eq] at h5
    exact ⟨by simpa [V.names, V.kids] using h4, h5.2⟩
theorem idx_cons (x : ByteArray) (r : List ByteArray) (s : ByteArray) : idx (x :: r) s = if x = s then 0 else idx r s + 1 := rfl
theorem idx_le : ∀ (ns : List ByteArray) (s : ByteArray), idx ns s ≤ ns.length
  | [], _ => Nat.le_refl _
  | x :: r, s => by rw [idx_cons]; have := idx_le r s; split <;> simp <;> omega
theorem idx_mem : ∀ {ns : List ByteArray} {s : ByteArray}, s ∈ ns → idx ns s < ns.length
  | x :: r, s, h => by
    rw [idx_cons]
    by_cases e : x = s
    · rw [if_pos e]; simp
    · rw [if_neg e]
      have := idx_mem (ns := r) (s := s) (by rcases List.mem_cons.1 h with h | h; exact absurd h.symm e; exact h)
      simp; omega
theorem idx_get : ∀ {ns : List ByteArray} {s : ByteArray} (h : idx ns s < ns.length), ns[idx ns s] = s
  | [], s, h => by simp at h
  | x :: r, s, h => by
    by_cases e : x = s
    · have h0 : idx (x :: r) s = 0 := by rw [idx_cons, if_pos e]
      simp only [h0]; exact e
    · have h0 : idx (x :: r) s = idx r s + 1 := by rw [idx_cons, if_neg e]
      rw [h0] at h
      simp only [h0]
      exact idx_get (ns := r) (s := s) (by simpa using h)
theorem idx_out {ns : List ByteArray} {s : ByteArray} (h : s ∉ ns) : idx ns s = ns.length := by
  have := idx_le ns s
  by_cases h1 : idx ns s < ns.length
  · exact absurd (idx_get h1 ▸ List.getElem_mem h1) h
  · omega
theorem idx_first : ∀ {ns : List ByteArray} {s : ByteArray} (j : Nat) (h : j < ns.length), ns[j] = s → idx ns s ≤ j
  | x :: r, s, 0, _, e => by rw [idx_cons, if_pos (by simpa using e)]; exact Nat.le_refl _
  | x :: r, s, j + 1, h, e => by
    rw [idx_cons]
    have := idx_first (ns := r) (s := s) j (by simpa using h) (by simpa using e)
    split <;> omega
theorem idx_self {ns : List ByteArray} (hd : ns.Nodup) (m : Nat) (h : m < ns.length) : idx ns ns[m] = m := by
  have h1 := idx_mem (List.getElem_mem h)
  have h2 := idx_first m h rfl
  have h3 := idx_get h1
  by_cases h4 : idx ns ns[m] < m
  · exact absurd h3 (List.pairwise_iff_getElem.1 hd _ m h1 h h4)
  · omega
theorem perm_of : ∀ (ns ns' : List ByteArray), ns.Nodup → (∀ s ∈ ns, s ∈ ns') → ns'.length ≤ ns.length → ns.Perm ns'
  | [], ns', _, _, h => by
    obtain rfl : ns' = [] := List.length_eq_zero_iff.1 (by simpa using h)
    exact List.Perm.refl _
  | a :: r, ns', hd, hs, h => by
    obtain ⟨s, t, rfl⟩ := List.append_of_mem (hs a (by simp))
    have hd2 := List.nodup_cons.1 hd
    refine (List.Perm.cons a (perm_of r (s ++ t) hd2.2 (fun x hx => ?_) (by simp at h ⊢; omega))).trans List.perm_middle.symm
    have := hs x (List.mem_cons_of_mem _ hx)
    rcases List.mem_append.1 this with h | h
    · exact List.mem_append.2 (.inl h)
    · rcases List.mem_cons.1 h with rfl | h
      · exact absurd hx hd2.1
      · exact List.mem_append.2 (.inr h)
theorem eq3_mk (k : Int) (yes neg : Bool) (c : Nat) (s : Int) (t : ByteArray) (day : Int) (l : List V) (ns : List ByteArray) (v' : V) : (V.mk k yes neg c s t day l ns).eq3 v' =
    if k = 0 ∨ v'.kind = 0 then (1, k == v'.kind) else if k ≠ v'.kind then (0, false) else if k = 5 then (if l.length = v'.kids.length then eqL (1, true) l v'.kids else (1, false))
    else if k = 6 then (if ns.length = v'.names.length then eqE (1, true) l ns v'.kids v'.names else (1, false)) else (1, (V.mk k yes neg c s t day l ns).eqb v') := by
  conv => lhs; unfold V.eq3
theorem eq3_out (v v' : V) : v.eq3 v' = if v.kind = 0 ∨ v'.kind = 0 then (1, v.kind == v'.kind) else if v.kind ≠ v'.kind then (0, false) else if v.kind = 5 then (if v.kids.length = v'.kids.length then eqL (1, true) v.kids v'.kids else (1, false))
    else if v.kind = 6 then (if v.names.length = v'.names.length then eqE (1, true) v.kids v.names v'.kids v'.names else (1, false)) else (1, v.eqb v') := by
  cases v; rw [eq3_mk]; rfl
mutual
theorem eqb_symm : ∀ v v' : V, v.eqb v' = v'.eqb v
  | .mk k yes neg c s t day l ns, .mk k' yes' neg' c' s' t' day' l' ns' => by
    unfold V.eqb
    rw [eqbL_symm l l', Bool.beq_comm (a := k), Bool.beq_comm (a := yes), Bool.beq_comm (a := neg), Bool.beq_comm (a := c), Bool.beq_comm (a := s), Bool.beq_comm (a := day), decide_eq_decide.2 (eq_comm (a := t)), decide_eq_decide.2 (eq_comm (a := ns))]
theorem eqbL_symm : ∀ l l' : List V, eqbL l l' = eqbL l' l
  | [], [] => rfl
  | [], _ :: _ => by unfold eqbL; rfl
  | _ :: _, [] => by unfold eqbL; rfl
  | v :: r, v' :: r' => by unfold eqbL; rw [eqb_symm v v', eqbL_symm r r']
end
theorem and3_tt {p : P3} (h : p = (1, true)) : and3 (1, true) p = (1, true) := by subst h; rfl
/-- a value is equal to itself -/
theorem eqL_self : ∀ (l : List V), (∀ v ∈ l, v.eq3 v = (1, true)) → eqL (1, true) l l = (1, true)
  | [], _ => by rw [eqL_nil]
  | v :: r, h => by rw [eqL_cons, and3_tt (h v (by simp)), eqL_self r fun u hu => h u (List.mem_cons_of_mem _ hu)]
theorem eqE_self (l : List V) (ns : List ByteArray) (hn : ns.length = l.length) (hd : ns.Nodup) (h : ∀ v ∈ l, v.eq3 v = (1, true)) : ∀ (j m : Nat), m + j = l.length → eqE (1, true) (l.drop m) (ns.drop m) l ns = (1, true)
  | 0, m, hm => by
    obtain rfl : m = l.length := by omega
    rw [List.drop_length, eqE_nil]
  | j + 1, m, hm => by
    have h1 : m < l.length := by omega
    have h2 : m < ns.length := by omega
    have h3 : idx ns ns[m] = m := idx_self hd m h2
    rw [eqE_in _ _ _ _ _ m h1 h2 (by rw [h3]; exact h1)]
    have h4 : l[m].eq3 (l[idx ns ns[m]]'(by rw [h3]; exact h1)) = (1, true) := by simp only [h3]; exact h _ (List.getElem_mem h1)
    rw [h4, and3_tt rfl]
    exact eqE_self l ns hn hd h j (m + 1) (by omega)
mutual
theorem eq3_self : ∀ v : V, v.form = true → v.eq3 v = (1, true)
  | .mk k yes neg c s t day l ns, hf => by
    have hk := form_kind hf
    have ih := eq3_selfs l hk.2.2.2
    rw [eq3_mk]
    by_cases h0 : k = 0
    · subst h0; rw [if_pos (.inl rfl)]; rfl
    rw [if_neg (by rintro (h | h) <;> exact h0 h), if_neg (by simp [V.kind])]
    by_cases h5 : k = 5
    · rw [if_pos h5, if_pos (show l.length = (V.mk k yes neg c s t day l ns).kids.length from rfl)]; exact eqL_self l ih
    rw [if_neg h5]
    by_cases h6 : k = 6
    · have hc := form_ctx hf h6
      rw [if_pos h6, if_pos (show ns.length = (V.mk k yes neg c s t day l ns).names.length from rfl)]
      exact eqE_self l ns hc.1 hc.2 ih l.length 0 (by omega)
    · rw [if_neg h6, eqb_refl]
theorem eq3_selfs : ∀ (l : List V), (∀ v ∈ l, v.form = true) → ∀ v ∈ l, v.eq3 v = (1, true)
  | [], _, _, h => by cases h
  | u :: r, hf, v, h => (List.mem_cons.1 h).elim (fun e => e ▸ eq3_self u (hf u (List.mem_cons_self ..))) (fun h => eq3_selfs r (fun x hx => hf x (List.mem_cons_of_mem _ hx)) v h)
end
theorem isB_both {p : P3} (h1 : isB p.1 p.2 false = true) (h2 : isB p.1 p.2 true = true) : False := by
  unfold isB at h1 h2; simp at h1 h2; rw [h1.2] at h2; exact absurd h2.2 (by simp)
theorem isB_and_f (p q : P3) : isB (and3 p q).1 (and3 p q).2 false = (isB p.1 p.2 false || isB q.1 q.2 false) := by
  have hp := @isB_both p; have hq := @isB_both q
  unfold and3 andK andY
  cases h1 : isB p.1 p.2 false <;> cases h2 : isB q.1 q.2 false <;> cases h3 : isB p.1 p.2 true <;> cases h4 : isB q.1 q.2 true <;> first | rfl | exact (hp h1 h3).elim | exact (hq h2 h4).elim
theorem isB_and_t (p q : P3) : isB (and3 p q).1 (and3 p q).2 true = (isB p.1 p.2 true && isB q.1 q.2 true) := by
  have hp := @isB_both p; have hq := @isB_both q
  unfold and3 andK andY
  cases h1 : isB p.1 p.2 false <;> cases h2 : isB q.1 q.2 false <;> cases h3 : isB p.1 p.2 true <;> cases h4 : isB q.1 q.2 true <;> first | rfl | exact (hp h1 h3).elim | exact (hq h2 h4).elim
theorem and3_is (p q : P3) : and3 p q = (if ((isB p.1 p.2 false || isB q.1 q.2 false) || (isB p.1 p.2 true && isB q.1 q.2 true)) = true then 1 else 0, !(isB p.1 p.2 false || isB q.1 q.2 false) && (isB p.1 p.2 true && isB q.1 q.2 true)) := rfl
theorem and3_right (o p q : P3) : and3 (and3 o p) q = and3 (and3 o q) p := by
  rw [and3_is (and3 o p) q, and3_is (and3 o q) p, isB_and_f, isB_and_f, isB_and_t, isB_and_t]
  cases isB o.1 o.2 false <;> cases isB o.1 o.2 true <;> cases isB p.1 p.2 false <;> cases isB p.1 p.2 true <;> cases isB q.1 q.2 false <;> cases isB q.1 q.2 true <;> rfl
theorem fold_perm {ps qs : List P3} (h : ps.Perm qs) : ∀ o : P3, ps.foldl and3 o = qs.foldl and3 o := by
  induction h with
  | nil => intro o; rfl
  | cons x _ ih => intro o; rw [List.foldl_cons, List.foldl_cons, ih]
  | swap x y l => intro o; simp only [List.foldl_cons]; rw [and3_right]
  | trans _ _ ih1 ih2 => intro o; rw [ih1, ih2]
/-- the pair of a name -/
noncomputable def pairE (l : List V) (ns : List ByteArray) (l' : List V) (ns' : List ByteArray) (s : ByteArray) : P3 :=
  match l[idx ns s]?, l'[idx ns' s]? with
  | some u, some u' => u.eq3 u'
  | _, _ => (1, false)
theorem and3_ff (p : P3) : and3 p (1, false) = (1, false) := by
  rw [and3_is]
  cases isB p.1 p.2 false <;> cases isB p.1 p.2 true <;> rfl
theorem eqE_pairs (l : List V) (ns : List ByteArray) (l' : List V) (ns' : List ByteArray) (hn : ns.length = l.length) (hd : ns.Nodup) : ∀ (j m : Nat) (p : P3), m + j = l.length → eqE p (l.drop m) (ns.drop m) l' ns' = ((ns.drop m).map (pairE l ns l' ns')).foldl and3 p
  | 0, m, p, hm => by
    obtain rfl : m = l.length := by omega
    rw [List.drop_length, eqE_nil, ← hn, List.drop_length]; rfl
  | j + 1, m, p, hm => by
    have h1 : m < l.length := by omega
    have h2 : m < ns.length := by omega
    have h3 : idx ns ns[m] = m := idx_self hd m h2
    have h5 : l[idx ns ns[m]]? = some l[m] := by rw [h3]; exact List.getElem?_eq_getElem h1
    by_cases hi : idx ns' ns[m] < l'.length
    · rw [eqE_in _ _ _ _ _ m h1 h2 hi, eqE_pairs l ns l' ns' hn hd j (m + 1) _ (by omega), List.drop_eq_getElem_cons h2, List.map_cons, List.foldl_cons]
      unfold pairE
      rw [h5, List.getElem?_eq_getElem hi]
    · rw [eqE_out _ _ _ _ _ m h1 h2 (by omega), List.drop_eq_getElem_cons h2, List.map_cons, List.foldl_cons]
      have : pairE l ns l' ns' ns[m] = (1, false) := by
        unfold pairE
        rw [h5, List.getElem?_eq_none (by omega)]
      rw [this, and3_ff, fold_false]
theorem fold_has {ps : List P3} (h : (1, false) ∈ ps) : ∀ o : P3, ps.foldl and3 o = (1, false) := by
  induction ps with
  | nil => cases h
  | cons p r ih =>
    intro o
    rw [List.foldl_cons]
    rcases List.mem_cons.1 h with rfl | h
    · rw [and3_ff, fold_false]
    · exact ih h _
theorem eqE_symm (l : List V) (ns : List ByteArray) (l' : List V) (ns' : List ByteArray) (hn : ns.length = l.length) (hd : ns.Nodup) (hn' : ns'.length = l'.length) (hd' : ns'.Nodup) (hl : ns.length = ns'.length)
    (ih : ∀ u ∈ l, ∀ u' ∈ l', u.eq3 u' = u'.eq3 u) : eqE (1, true) l ns l' ns' = eqE (1, true) l' ns' l ns := by
  have e1 := eqE_pairs l ns l' ns' hn hd l.length 0 (1, true) (by omega)
  have e2 := eqE_pairs l' ns' l ns hn' hd' l'.length 0 (1, true) (by omega)
  simp only [List.drop_zero] at e1 e2
  rw [e1, e2]
  by_cases hs : ∀ s ∈ ns, s ∈ ns'
  · have hp : ns.Perm ns' := perm_of ns ns' hd hs (by omega)
    rw [fold_perm (hp.map (pairE l ns l' ns'))]
    congr 1
    refine List.map_congr_left fun s hm => ?_
    have i1 : idx ns' s < l'.length := by rw [← hn']; exact idx_mem hm
    have i2 : idx ns s < l.length := by rw [← hn]; exact idx_mem (hp.mem_iff.2 hm)
    unfold pairE
    rw [List.getElem?_eq_getElem i1, List.getElem?_eq_getElem i2]
    exact ih _ (List.getElem_mem i2) _ (List.getElem_mem i1)
  · have hs' : ¬ ∀ s ∈ ns', s ∈ ns := fun h => hs fun s hm => (perm_of ns' ns hd' h (by omega)).mem_iff.2 hm
    have key : ∀ (l : List V) (ns : List ByteArray) (l' : List V) (ns' : List ByteArray), ns'.length = l'.length → (¬ ∀ s ∈ ns, s ∈ ns') → (1, false) ∈ ns.map (pairE l ns l' ns') := by
      intro l ns l' ns' hn' h
      obtain ⟨s, hm, hno⟩ : ∃ s, s ∈ ns ∧ s ∉ ns' := by
        apply Classical.byContradiction
        intro hc
        exact h fun s hm => Classical.byContradiction fun hx => hc ⟨s, hm, hx⟩
      refine List.mem_map.2 ⟨s, hm, ?_⟩
      unfold pairE
      have : ns'.length ≤ idx ns' s := by rw [idx_out hno]; exact Nat.le_refl _
      rw [List.getElem?_eq_none (by omega : l'.length ≤ idx ns' s)]
      cases l[idx ns s]? <;> rfl
    rw [fold_has (key _ _ _ _ hn' hs), fold_has (key _ _ _ _ hn hs')]
theorem eqL_symm : ∀ (l l' : List V) (p : P3), l.length = l'.length → (∀ u ∈ l, ∀ u' ∈ l', u.eq3 u' = u'.eq3 u) → eqL p l l' = eqL p l' l
  | [], [], _, _, _ => rfl
  | [], _ :: _, _, h, _ => by simp at h
  | _ :: _, [], _, h, _ => by simp at h
  | v :: r, v' :: r', p, h, ih => by
    rw [eqL_cons, eqL_cons, ih v (by simp) v' (by simp)]
    exact eqL_symm r r' _ (by simpa using h) fun u hu u' hu' => ih u (List.mem_cons_of_mem _ hu) u' (List.mem_cons_of_mem _ hu')
theorem eq3_symm : ∀ (v : V), v.form = true → ∀ (v' : V), v'.form = true → v.eq3 v' = v'.eq3 v := by
  intro v
  refine V.rec (motive_1 := fun v => v.form = true → ∀ v', v'.form = true → v.eq3 v' = v'.eq3 v) (motive_2 := fun l => ∀ u ∈ l, u.form = true → ∀ v', v'.form = true → u.eq3 v' = v'.eq3 u) ?_ ?_ ?_ v
  · intro k yes neg c s t day l ns ih hf v' hf'
    have hk := form_kind hf
    have hk' := form_kind hf'
    have ih2 : ∀ u ∈ l, ∀ u' ∈ v'.kids, u.eq3 u' = u'.eq3 u := fun u hu u' hu' => ih u hu (hk.2.2.2 u hu) u' (hk'.2.2.2 u' hu')
    rw [eq3_out, eq3_out v']
    show (if k = 0 ∨ v'.kind = 0 then (1, k == v'.kind) else if k ≠ v'.kind then (0, false) else if k = 5 then (if l.length = v'.kids.length then eqL (1, true) l v'.kids else (1, false))
      else if k = 6 then (if ns.length = v'.names.length then eqE (1, true) l ns v'.kids v'.names else (1, false)) else (1, V.eqb _ v') : P3) = if v'.kind = 0 ∨ k = 0 then (1, v'.kind == k) else if v'.kind ≠ k then (0, false) else if v'.kind = 5 then (if v'.kids.length = l.length then eqL (1, true) v'.kids l else (1, false))
      else if v'.kind = 6 then (if v'.names.length = ns.length then eqE (1, true) v'.kids v'.names l ns else (1, false)) else (1, V.eqb v' _)
    by_cases h0 : k = 0 ∨ v'.kind = 0
    · rw [if_pos h0, if_pos h0.symm, Bool.beq_comm]
    rw [if_neg h0, if_neg (show ¬ (v'.kind = 0 ∨ k = 0) from fun h => h0 h.symm)]
    by_cases h1 : k = v'.kind
    · rw [if_neg (show ¬ k ≠ v'.kind from fun h => h h1), if_neg (show ¬ v'.kind ≠ k from fun h => h h1.symm), ← h1]
      by_cases h5 : k = 5
      · rw [if_pos h5, if_pos h5]
        by_cases hl : l.length = v'.kids.length
        · rw [if_pos hl, if_pos hl.symm]; exact eqL_symm _ _ _ hl ih2
        · rw [if_neg hl, if_neg fun h => hl h.symm]
      rw [if_neg h5, if_neg h5]
      by_cases h6 : k = 6
      · rw [if_pos h6, if_pos h6]
        by_cases hl : ns.length = v'.names.length
        · have c1 := form_ctx hf h6
          have c2 := form_ctx hf' (by rw [← h1]; exact h6)
          rw [if_pos hl, if_pos hl.symm]; exact eqE_symm _ _ _ _ c1.1 c1.2 c2.1 c2.2 hl ih2
        · rw [if_neg hl, if_neg fun h => hl h.symm]
      rw [if_neg h6, if_neg h6, eqb_symm]
    · rw [if_pos (show k ≠ v'.kind from h1), if_pos (show v'.kind ≠ k from fun h => h1 h.symm)]
  · intro u hu; cases hu
  · intro u r hu hr x hx
    rcases List.mem_cons.1 hx with rfl | hx
    · exact hu
    · exact hr x hx
/-- or of negations is the negation of and -/
theorem or_not (a b : P3) : not3 (and3 (not3 (not3 a)) (not3 (not3 b))) = not3 (and3 a b) := by
  have h : ∀ p : P3, isB (not3 p).1 (not3 p).2 false = isB p.1 p.2 true ∧ isB (not3 p).1 (not3 p).2 true = isB p.1 p.2 false := by
    intro p
    unfold not3 notK notY isB
    by_cases h : p.1 = 1
    · cases p.2 <;> simp [h]
    · simp [h]
  have hh : ∀ p : P3, isB (not3 (not3 p)).1 (not3 (not3 p)).2 false = isB p.1 p.2 false ∧ isB (not3 (not3 p)).1 (not3 (not3 p)).2 true = isB p.1 p.2 true := fun p => ⟨(h _).1.trans (h p).2, (h _).2.trans (h p).1⟩
  rw [and3_is (not3 (not3 a)), and3_is a, (hh a).1, (hh a).2, (hh b).1, (hh b).2]
end Go.Proofs.YtjkallelniggpaaGreatDoor
