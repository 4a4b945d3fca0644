/-
  The code of nodes, plain: the tree that the places of the parts are; the document's code by recursion and the program's, node after node, are one.
-/
import Derived.Test.YtpgfgaloagdogaaDoorNodU
import Derived.Test.YtpgfgaloagdogaaDoorBh
namespace Go.Proofs.YtpgfgaloagdogaaDoor
open Go.RowKit Num Word Txt

/-! ### the tree that the places of the parts are -/

/-- the things with these last places lie one behind the other, from a to b -/
def Chain (L : List Nat) : Nat → List Nat → Nat → Prop
  | a, [], b => a = b
  | a, p :: ps, b => L.getD p 0 = a ∧ a ≤ p ∧ Chain L (p + 1) ps b
theorem Chain.le {L : List Nat} : ∀ {ps : List Nat} {a b : Nat}, Chain L a ps b → a ≤ b
  | [], _, _, h => Nat.le_of_eq h
  | _ :: _, _, _, h => by have := Chain.le h.2.2; have := h.2.1; omega
theorem Chain.mem {L : List Nat} : ∀ {ps : List Nat} {a b : Nat}, Chain L a ps b → ∀ p ∈ ps, a ≤ p ∧ p < b
  | _ :: _, _, _, h, p, hp => by
    have h1 := Chain.le h.2.2
    have h2 := h.2.1
    rcases List.mem_cons.1 hp with rfl | hp
    · omega
    · have := Chain.mem h.2.2 p hp; omega
theorem Chain.split {L : List Nat} : ∀ {ps qs : List Nat} {a b : Nat}, Chain L a (ps ++ qs) b → ∃ c, Chain L a ps c ∧ Chain L c qs b
  | [], _, a, _, h => ⟨a, rfl, h⟩
  | _ :: _, _, _, _, h => by
    obtain ⟨c, h1, h2⟩ := Chain.split h.2.2
    exact ⟨c, ⟨h.1, h.2.1, h1⟩, h2⟩
theorem Chain.join {L : List Nat} : ∀ {ps qs : List Nat} {a b c : Nat}, Chain L a ps c → Chain L c qs b → Chain L a (ps ++ qs) b
  | [], _, _, _, _, h1, h2 => by cases h1; exact h2
  | _ :: _, _, _, _, _, h1, h2 => ⟨h1.1, h1.2.1, Chain.join h1.2.2 h2⟩
theorem Chain.ext {L : List Nat} {x : Nat} : ∀ {ps : List Nat} {a b : Nat}, b ≤ L.length → Chain L a ps b → Chain (L ++ [x]) a ps b
  | [], _, _, _, h => h
  | p :: ps, a, b, hb, h => by
    have h1 := Chain.le h.2.2
    refine ⟨?_, h.2.1, Chain.ext hb h.2.2⟩
    rw [← h.1, List.getD_eq_getElem?_getD, List.getD_eq_getElem?_getD, List.getElem?_append_left (by omega)]
theorem Chain.find {L : List Nat} : ∀ {ps : List Nat} {a b X : Nat}, Chain L a ps b → a ≤ X → X < b → ∃ c ∈ ps, L.getD c 0 ≤ X ∧ X ≤ c ∧ a ≤ L.getD c 0
  | [], a, b, X, h, h1, h2 => by cases h; omega
  | p :: ps, a, b, X, h, h1, h2 => by
    by_cases hx : X ≤ p
    · exact ⟨p, List.mem_cons_self .., by have := h.1; omega, hx, by have := h.1; omega⟩
    · obtain ⟨c, hc, h3, h4, h5⟩ := Chain.find h.2.2 (by omega) h2
      exact ⟨c, List.mem_cons_of_mem _ hc, h3, h4, by have := h.2.1; omega⟩
/-- the parts of each node, and where each thing begins -/
structure Tr (l : List NdD) (P : List (List Nat)) (L : List Nat) : Prop where
  lp : P.length = l.length
  ll : L.length = l.length
  chain : ∀ i, i < l.length → Chain L (L.getD i 0) (P.getD i []) i
  kids : ∀ i (h : i < l.length), takesN l[i].op l[i].k = true ∧ ((P.getD i []).length : Int) = l[i].k
theorem takes_nn {op k : Int} (h : takesN op k = true) : 0 ≤ k := by
  unfold takesN at h
  repeat' split at h
  all_goals first
    | (simp only [Bool.and_eq_true, decide_eq_true_eq] at h; omega)
    | cases h
theorem stk_tree (l : List NdD) : ∀ (r : List NdD) (i : Nat) (H : List Nat) (P : List (List Nat)) (L : List Nat) {q}, l.drop i = r → i ≤ l.length → P.length = i → L.length = i → Chain L 0 H i →
    (∀ j, j < i → Chain L (L.getD j 0) (P.getD j []) j) → (∀ j (h : j < l.length), j < i → takesN l[j].op l[j].k = true ∧ ((P.getD j []).length : Int) = l[j].k) → stkP i r H = some q →
    ∃ L', Tr l (P ++ q.2) L' ∧ Chain L' 0 q.1 l.length
  | [], i, H, P, L, q, hd, hi, hP, hL, hH, hc, hk, e => by
    have hil : i = l.length := by
      have := congrArg List.length hd
      simp at this
      omega
    injection e with e
    subst e
    subst hil
    refine ⟨L, ⟨by simpa using hP, hL, ?_, ?_⟩, hH⟩
    · intro j hj; simpa using hc j hj
    · intro j hj; simpa using hk j hj hj
  | x :: r, i, H, P, L, q, hd, hi, hP, hL, hH, hc, hk, e => by
    unfold stkP at e
    split at e
    case isFalse => cases e
    case isTrue ht =>
    obtain ⟨q', e', rfl⟩ := Option.map_eq_some_iff.1 e
    have hil : i < l.length := by
      rcases Nat.lt_or_ge i l.length with h | h
      · exact h
      · rw [List.drop_eq_nil_of_le h] at hd; cases hd
    have hx : l[i] = x ∧ l.drop (i + 1) = r := by
      rw [List.drop_eq_getElem_cons hil] at hd
      exact List.cons.inj hd
    have hk0 := takes_nn ht.1
    obtain ⟨m, hm⟩ : ∃ m, m = H.length - x.k.toNat := ⟨_, rfl⟩
    rw [← hm] at e'
    have hsp : Chain L 0 (H.take m ++ H.drop m) i := by rw [List.take_append_drop]; exact hH
    obtain ⟨c, h1, h2⟩ := hsp.split
    have hci := h2.le
    have hlen : ((H.drop m).length : Int) = x.k := by rw [List.length_drop]; omega
    have := stk_tree l r (i + 1) (H.take m ++ [i]) (P ++ [H.drop m]) (L ++ [c]) (q := q') hx.2 (by omega) (by simp [hP]) (by simp [hL]) ?_ ?_ ?_ e'
    · obtain ⟨L', h3, h4⟩ := this
      rw [← hm]
      exact ⟨L', by rw [List.append_assoc] at h3; exact h3, h4⟩
    · refine (h1.ext (by omega)).join ⟨?_, hci, rfl⟩
      rw [List.getD_eq_getElem?_getD, List.getElem?_append_right (by omega)]
      simp [hL]
    · intro j hj
      by_cases hji : j < i
      · rw [List.getD_eq_getElem?_getD, List.getD_eq_getElem?_getD, List.getElem?_append_left (by omega), List.getElem?_append_left (by omega), ← List.getD_eq_getElem?_getD, ← List.getD_eq_getElem?_getD]
        exact (hc j hji).ext (by omega)
      · obtain rfl : j = i := by omega
        rw [List.getD_eq_getElem?_getD, List.getD_eq_getElem?_getD, List.getElem?_append_right (by omega), List.getElem?_append_right (by omega)]
        simp only [hL, hP, Nat.sub_self, List.getElem?_cons_zero, Option.getD_some]
        exact h2.ext (by omega)
    · intro j hj hji
      by_cases hji : j < i
      · rw [List.getD_eq_getElem?_getD, List.getElem?_append_left (by omega), ← List.getD_eq_getElem?_getD]
        exact hk j hj hji
      · obtain rfl : j = i := by omega
        rw [List.getD_eq_getElem?_getD, List.getElem?_append_right (by omega)]
        simp only [hP, Nat.sub_self, List.getElem?_cons_zero, Option.getD_some]
        rw [hx.1]
        exact ⟨ht.1, hlen⟩
theorem tree_of {l : List NdD} {H : List Nat} {P : List (List Nat)} (h : stkP 0 l [] = some (H, P)) : ∃ L, Tr l P L ∧ Chain L 0 H l.length :=
  stk_tree l l 0 [] [] [] rfl (Nat.zero_le _) rfl rfl rfl (fun j h => absurd h (Nat.not_lt_zero j)) (fun j _ h => absurd h (Nat.not_lt_zero j)) h
section
variable {l : List NdD} {P : List (List Nat)} {L : List Nat}
theorem Tr.low (h : Tr l P L) {i : Nat} (hi : i < l.length) : L.getD i 0 ≤ i := (h.chain i hi).le
theorem Tr.lam (h : Tr l P L) : ∀ (q X : Nat), q < l.length → L.getD q 0 ≤ X → X ≤ q → L.getD q 0 ≤ L.getD X 0 := by
  intro q
  induction q using Nat.strongRecOn with
  | ind q ih =>
    intro X hq h1 h2
    by_cases e : X = q
    · rw [e]; exact Nat.le_refl _
    · obtain ⟨c, hc, h3, h4, h5⟩ := (h.chain q hq).find h1 (by omega)
      have := ((h.chain q hq).mem c hc).2
      exact Nat.le_trans h5 (ih c this X (by omega) h3 h4)
/-- a thing is part of one node alone -/
theorem Tr.one (h : Tr l P L) {X Y p : Nat} (hXY : X < Y) (hY : Y < l.length) (h1 : p ∈ P.getD X []) (h2 : p ∈ P.getD Y []) : False := by
  obtain ⟨s, t, e⟩ := List.append_of_mem h2
  have hc := h.chain Y hY
  rw [e] at hc
  obtain ⟨c, h3, h4⟩ := hc.split
  have hX := (h.chain X (by omega)).mem p h1
  obtain ⟨c2, hc2, h5, h6, h7⟩ := h4.2.2.find (X := X) (by omega) hXY
  have hlt := (h4.2.2.mem c2 hc2).2
  have := h.lam c2 X (by omega) h5 h6
  omega
theorem Tr.eq (h : Tr l P L) {X Y p : Nat} (hX : X < l.length) (hY : Y < l.length) (h1 : p ∈ P.getD X []) (h2 : p ∈ P.getD Y []) : X = Y := by
  rcases Nat.lt_trichotomy X Y with h3 | h3 | h3
  · exact (h.one h3 hY h1 h2).elim
  · exact h3
  · exact (h.one h3 hX h2 h1).elim
end
/-! ### the code of nodes: by recursion, and one node after the other -/

/-- the instruction of a node -/
def insN (x : NdD) : InsD := ⟨x.op, if x.op = 25 ∨ x.op = 26 ∨ x.op = 27 ∨ x.op = 36 then x.k else 0, x.t, x.neg, (hi x.c : Int), (lo x.c : Int), x.s, x.day⟩
def ndA (l : List NdD) (i : Nat) : NdD := l.getD i ⟨0, 0, ⟨#[]⟩, false, 0, 0, 0⟩
/-- the code of the parts, one behind the other -/
def rwF (f : Nat → Nat → List InsD) (op : Int) (fr : Nat) : Nat → List Nat → List InsD → List InsD
  | _, [], out => out
  | k, p :: ps, out => rwF f op fr (k + 1) ps (if op = 23 ∧ k = 0 then out ++ f p (fr + out.length) ++ [iC 103 0] else out ++ f p (fr + out.length))
def ifF (f : Nat → Nat → List InsD) (fr a b c : Nat) : List InsD :=
  f a fr ++ [iC 102 (fr + (f a fr).length + (f b (fr + (f a fr).length + 1)).length + 2 : Nat)] ++ f b (fr + (f a fr).length + 1) ++
    [iC 101 (fr + (f a fr).length + (f b (fr + (f a fr).length + 1)).length + (f c (fr + (f a fr).length + (f b (fr + (f a fr).length + 1)).length + 2)).length + 2 : Nat)] ++ f c (fr + (f a fr).length + (f b (fr + (f a fr).length + 1)).length + 2)
/-- the document's code -/
def ofF (l : List NdD) (P : List (List Nat)) : Nat → Nat → Nat → List InsD
  | 0, _, _ => []
  | n + 1, i, fr =>
    if (ndA l i).op = 21 then ifF (ofF l P n) fr ((P.getD i []).getD 0 0) ((P.getD i []).getD 1 0) ((P.getD i []).getD 2 0)
    else rwF (ofF l P n) (ndA l i).op fr 0 (P.getD i []) [] ++ [if (ndA l i).op = 23 then iC 104 0 else insN (ndA l i)]
/-- what separates parts, as far as the nodes ahead of i tell -/
def sepS (l : List NdD) (P : List (List Nat)) : Nat → Nat → Option Int
  | 0 => fun _ => none
  | i + 1 => fun j =>
    if (ndA l i).op = 23 then (if j = (P.getD i []).getD 0 0 + 1 then some 103 else sepS l P i j)
    else if (ndA l i).op = 21 then (if j = (P.getD i []).getD 1 0 + 1 then some 101 else if j = (P.getD i []).getD 0 0 + 1 then some 102 else sepS l P i j)
    else sepS l P i j
/-- one node: what is written, what is left to be told -/
def sepStep (m : Nat → Option Int) (i : Nat) (c : List InsD) (J : List Nat) : List InsD × List Nat :=
  match m i with
  | none => (c, J)
  | some op => (c ++ [iC op 0], if op = 103 then J else J ++ [c.length])
def ndStep (x : NdD) (c : List InsD) (J : List Nat) : List InsD × List Nat :=
  if x.op = 21 then ((c.set (J.getD (J.length - 2) 0) { c.getD (J.getD (J.length - 2) 0) (iC 0 0) with a := ((J.getD (J.length - 1) 0 : Nat) : Int) + 1 }).set (J.getD (J.length - 1) 0) { c.getD (J.getD (J.length - 1) 0) (iC 0 0) with a := (c.length : Int) }, J.take (J.length - 2))
  else if x.op = 23 then (c ++ [iC 104 0], J)
  else (c ++ [insN x], J)
def stepC (l : List NdD) (m : Nat → Option Int) (i : Nat) (s : List InsD × List Nat) : List InsD × List Nat :=
  ndStep (ndA l i) (sepStep m i s.1 s.2).1 (sepStep m i s.1 s.2).2
/-- n nodes from i on -/
def segC (l : List NdD) (m : Nat → Option Int) : Nat → Nat → (List InsD × List Nat) → List InsD × List Nat
  | 0, _, s => s
  | n + 1, i, s => segC l m n (i + 1) (stepC l m i s)
theorem segC_add (l : List NdD) (m : Nat → Option Int) : ∀ (a b i : Nat) (s), segC l m (a + b) i s = segC l m b (i + a) (segC l m a i s)
  | 0, b, i, s => by simp [segC]
  | a + 1, b, i, s => by
    rw [show a + 1 + b = (a + b) + 1 by omega]
    show segC l m (a + b) (i + 1) _ = segC l m b (i + (a + 1)) (segC l m a (i + 1) _)
    rw [segC_add l m a b (i + 1), show i + 1 + a = i + (a + 1) by omega]
/-- which node tells of a place, and what -/
def Rol (l : List NdD) (P : List (List Nat)) (X j : Nat) (op : Int) : Prop :=
  ((ndA l X).op = 23 ∧ j = (P.getD X []).getD 0 0 + 1 ∧ op = 103) ∨ ((ndA l X).op = 21 ∧ j = (P.getD X []).getD 0 0 + 1 ∧ op = 102) ∨ ((ndA l X).op = 21 ∧ j = (P.getD X []).getD 1 0 + 1 ∧ op = 101)
theorem sep_sound {l : List NdD} {P : List (List Nat)} : ∀ {i j : Nat} {op : Int}, sepS l P i j = some op → ∃ X, X < i ∧ Rol l P X j op
  | 0, _, _, h => by cases h
  | i + 1, j, op, h => by
    have step : sepS l P i j = some op → ∃ X, X < i + 1 ∧ Rol l P X j op := fun h => by
      obtain ⟨X, h1, h2⟩ := sep_sound h
      exact ⟨X, by omega, h2⟩
    unfold sepS at h
    split at h
    · rename_i ho
      split at h
      · rename_i hj; injection h with h; exact ⟨i, by omega, .inl ⟨ho, hj, h.symm⟩⟩
      · exact step h
    · split at h
      · rename_i ho
        split at h
        · rename_i hj; injection h with h; exact ⟨i, by omega, .inr (.inr ⟨ho, hj, h.symm⟩)⟩
        · split at h
          · rename_i hj; injection h with h; exact ⟨i, by omega, .inr (.inl ⟨ho, hj, h.symm⟩)⟩
          · exact step h
      · exact step h
theorem sep_total {l : List NdD} {P : List (List Nat)} : ∀ {i X j : Nat} {op : Int}, X < i → Rol l P X j op → ∃ op', sepS l P i j = some op'
  | 0, _, _, _, h, _ => absurd h (Nat.not_lt_zero _)
  | i + 1, X, j, op, h, hr => by
    have step : X < i → ∃ op', sepS l P i j = some op' := fun h => sep_total h hr
    unfold sepS
    by_cases e : X = i
    · subst e
      rcases hr with ⟨h1, h2, -⟩ | ⟨h1, h2, -⟩ | ⟨h1, h2, -⟩
      · rw [if_pos h1, if_pos h2]; exact ⟨_, rfl⟩
      · rw [if_neg (by omega), if_pos h1]; split
        · exact ⟨_, rfl⟩
        · first
            | exact ⟨_, rfl⟩
            | (rw [if_pos h2]; exact ⟨_, rfl⟩)
      · rw [if_neg (by omega), if_pos h1, if_pos h2]; exact ⟨_, rfl⟩
    · obtain ⟨op', hs⟩ := step (by omega)
      repeat' split
      all_goals first
        | exact ⟨_, rfl⟩
        | exact ⟨_, hs⟩
section
variable {l : List NdD} {P : List (List Nat)} {L : List Nat}
theorem nd_at {i : Nat} (hi : i < l.length) : ndA l i = l[i] := by
  unfold ndA; rw [List.getD_eq_getElem?_getD, List.getElem?_eq_getElem hi]; rfl
theorem Tr.len (h : Tr l P L) {i : Nat} (hi : i < l.length) : ((P.getD i []).length : Int) = (ndA l i).k ∧ takesN (ndA l i).op (ndA l i).k = true := by
  rw [nd_at hi]; exact ⟨(h.kids i hi).2, (h.kids i hi).1⟩
theorem takes_if {k : Int} (h : takesN 21 k = true) : k = 3 := by
  have : decide (k = 3) = true := h
  exact of_decide_eq_true this
theorem takes_in {k : Int} (h : takesN 23 k = true) : k = 2 := by
  have : decide (k = 2) = true := h
  exact of_decide_eq_true this
theorem list3 {p : List Nat} (h : p.length = 3) : ∃ a b c, p = [a, b, c] := by
  match p, h with
  | [a, b, c], _ => exact ⟨a, b, c, rfl⟩
theorem list2 {p : List Nat} (h : p.length = 2) : ∃ a b, p = [a, b] := by
  match p, h with
  | [a, b], _ => exact ⟨a, b, rfl⟩
theorem Tr.if3 (h : Tr l P L) {i : Nat} (hi : i < l.length) (ho : (ndA l i).op = 21) : ∃ a b c, P.getD i [] = [a, b, c] := by
  have h1 := h.len hi
  have h2 := takes_if (ho ▸ h1.2)
  exact list3 (by omega)
theorem Tr.in2 (h : Tr l P L) {i : Nat} (hi : i < l.length) (ho : (ndA l i).op = 23) : ∃ a b, P.getD i [] = [a, b] := by
  have h1 := h.len hi
  have h2 := takes_in (ho ▸ h1.2)
  exact list2 (by omega)
/-- what a place's node is told by: a part of it, not its last one -/
theorem Rol.part (h : Tr l P L) {X j : Nat} {op : Int} (hX : X < l.length) (hr : Rol l P X j op) : ∃ s p q t, P.getD X [] = s ++ p :: q :: t ∧ j = p + 1 ∧ op = (if (ndA l X).op = 23 then 103 else if s.length = 0 then 102 else 101) := by
  rcases hr with ⟨h1, h2, h3⟩ | ⟨h1, h2, h3⟩ | ⟨h1, h2, h3⟩
  · obtain ⟨a, b, e⟩ := h.in2 hX h1
    rw [e] at h2
    exact ⟨[], a, b, [], e, h2, by rw [if_pos h1]; exact h3⟩
  · obtain ⟨a, b, c, e⟩ := h.if3 hX h1
    rw [e] at h2
    exact ⟨[], a, b, [c], e, h2, by rw [if_neg (by omega)]; exact h3⟩
  · obtain ⟨a, b, c, e⟩ := h.if3 hX h1
    rw [e] at h2
    exact ⟨[a], b, c, [], e, h2, by rw [if_neg (by omega)]; exact h3⟩
theorem Chain.at {L : List Nat} {s t : List Nat} {p q a b : Nat} (h : Chain L a (s ++ p :: q :: t) b) : L.getD q 0 = p + 1 ∧ p + 1 ≤ q ∧ q < b := by
  obtain ⟨c, _, h2⟩ := h.split
  exact ⟨h2.2.2.1, h2.2.2.2.1, by have := h2.2.2.2.2.le; omega⟩
theorem chain_nodup {L : List Nat} : ∀ {s s2 t t2 : List Nat} {p a b : Nat}, Chain L a (s ++ p :: t) b → s ++ p :: t = s2 ++ p :: t2 → s.length = s2.length := by
  intro s s2 t t2 p a b h e
  rcases Nat.lt_trichotomy s.length s2.length with h3 | h3 | h3
  · exfalso
    obtain ⟨c, h1, h2⟩ := h.split
    have h4 : (s ++ p :: t)[s2.length]? = some p := by rw [e]; simp
    rw [List.getElem?_append_right (by omega), show s2.length - s.length = (s2.length - s.length - 1) + 1 by omega, List.getElem?_cons_succ] at h4
    have := h2.2.2.mem p (List.mem_of_getElem? h4)
    omega
  · exact h3
  · exfalso
    rw [e] at h
    obtain ⟨c, h1, h2⟩ := h.split
    have h4 : (s2 ++ p :: t2)[s.length]? = some p := by rw [← e]; simp
    rw [List.getElem?_append_right (by omega), show s.length - s2.length = (s.length - s2.length - 1) + 1 by omega, List.getElem?_cons_succ] at h4
    have := h2.2.2.mem p (List.mem_of_getElem? h4)
    omega
/-- between two parts of a node X stands just what X tells -/
theorem Tr.sep (h : Tr l P L) {X : Nat} (hX : X < l.length) {s t : List Nat} {p q : Nat} (e : P.getD X [] = s ++ p :: q :: t) : sepS l P l.length (p + 1) =
    if (ndA l X).op = 23 then some 103 else if (ndA l X).op = 21 then some (if s.length = 0 then 102 else 101) else none := by
  have hp : p ∈ P.getD X [] := by rw [e]; simp
  have huniq : ∀ {Y : Nat} {op : Int}, Y < l.length → Rol l P Y (p + 1) op → Y = X ∧ ((ndA l X).op = 23 ∨ (ndA l X).op = 21) ∧ op = (if (ndA l X).op = 23 then 103 else if s.length = 0 then 102 else 101) := fun {Y op} hY hr => by
    obtain ⟨s2, p2, q2, t2, e2, h1, h2⟩ := hr.part h hY
    obtain rfl : p2 = p := by omega
    obtain rfl := h.eq hY hX (by rw [e2]; simp) hp
    have hc := h.chain Y hX
    rw [e] at hc
    have h3 := chain_nodup hc (e.symm.trans e2)
    refine ⟨rfl, ?_, by rw [h3]; exact h2⟩
    rcases hr with ⟨h4, -⟩ | ⟨h4, -⟩ | ⟨h4, -⟩
    · exact .inl h4
    · exact .inr h4
    · exact .inr h4
  cases hs : sepS l P l.length (p + 1) with
  | some op =>
    obtain ⟨Y, hY, hr⟩ := sep_sound hs
    obtain ⟨rfl, h1, h2⟩ := huniq hY hr
    rcases h1 with h1 | h1
    · rw [if_pos h1] at h2 ⊢; rw [h2]
    · rw [if_neg (by omega)] at h2 ⊢; rw [if_pos h1, h2]
  | none =>
    by_cases h1 : (ndA l X).op = 23
    · obtain ⟨a, b, e3⟩ := h.in2 hX h1
      have hs1 : s = [] := by
        have := congrArg List.length (e.symm.trans e3)
        simp at this
        exact List.eq_nil_of_length_eq_zero (by omega)
      subst hs1
      obtain ⟨op, h2⟩ := sep_total hX (.inl ⟨h1, by rw [e]; rfl, rfl⟩ : Rol l P X (p + 1) 103)
      rw [hs] at h2; cases h2
    · by_cases h2 : (ndA l X).op = 21
      · obtain ⟨a, b, c, e3⟩ := h.if3 hX h2
        have h5 : s = [] ∨ ∃ y, s = [y] := by
          have := congrArg List.length (e.symm.trans e3)
          simp at this
          match s, this with
          | [], _ => exact .inl rfl
          | [y], _ => exact .inr ⟨y, rfl⟩
          | _ :: _ :: _, h => simp at h; omega
        rcases h5 with rfl | ⟨y, rfl⟩
        · obtain ⟨op, h3⟩ := sep_total hX (.inr (.inl ⟨h2, by rw [e]; rfl, rfl⟩) : Rol l P X (p + 1) 102)
          rw [hs] at h3; cases h3
        · obtain ⟨op, h3⟩ := sep_total hX (.inr (.inr ⟨h2, by rw [e]; rfl, rfl⟩) : Rol l P X (p + 1) 101)
          rw [hs] at h3; cases h3
      · rw [if_neg h1, if_neg h2]
/-- ahead of a node with parts nothing stands -/
theorem Tr.nosep (h : Tr l P L) {i : Nat} (hi : i < l.length) (hk : P.getD i [] ≠ []) : sepS l P l.length i = none := by
  cases hs : sepS l P l.length i with
  | none => rfl
  | some op =>
    exfalso
    obtain ⟨Y, hY, hr⟩ := sep_sound hs
    obtain ⟨s2, p, q2, t2, e2, h1, h2⟩ := hr.part h hY
    have hY2 := h.chain Y hY
    rw [e2] at hY2
    have h3 := hY2.at
    -- the last part of i ends ahead of it
    have h4 := h.chain i hi
    obtain ⟨c, hc⟩ : ∃ c, (P.getD i []).getLast hk = c := ⟨_, rfl⟩
    have e4 := List.dropLast_concat_getLast hk
    rw [hc] at e4
    rw [← e4] at h4
    obtain ⟨d, h5, h6⟩ := h4.split
    have h7 : c + 1 = i := h6.2.2
    obtain rfl : c = p := by omega
    have : Y = i := h.eq (p := c) hY hi (by rw [e2]; simp) (by rw [← e4]; simp)
    omega
theorem Tr.nosep0 (h : Tr l P L) : sepS l P l.length 0 = none := by
  cases hs : sepS l P l.length 0 with
  | none => rfl
  | some op =>
    obtain ⟨Y, hY, hr⟩ := sep_sound hs
    obtain ⟨s2, p, q2, t2, e2, h1, h2⟩ := hr.part h hY
    omega
end
section
variable {l : List NdD} {P : List (List Nat)} {L : List Nat}
/-- the thing whose last node is i, its first node without what stands ahead of it -/
def thing (l : List NdD) (P : List (List Nat)) (L : List Nat) (i : Nat) (s : List InsD × List Nat) : List InsD × List Nat :=
  segC l (sepS l P l.length) (i - L.getD i 0) (L.getD i 0 + 1) (ndStep (ndA l (L.getD i 0)) s.1 s.2)
/-- what stands ahead of a thing, and it -/
theorem seg_thing (l : List NdD) (P : List (List Nat)) (L : List Nat) {i : Nat} (h : L.getD i 0 ≤ i) (s) : segC l (sepS l P l.length) (i + 1 - L.getD i 0) (L.getD i 0) s = thing l P L i (sepStep (sepS l P l.length) (L.getD i 0) s.1 s.2) := by
  rw [show i + 1 - L.getD i 0 = (i - L.getD i 0) + 1 by omega]
  rfl
/-- the parts of a thing that is neither a choice nor a membership -/
theorem row_plain (l : List NdD) (P : List (List Nat)) (L : List Nat) {f : Nat → Nat → List InsD} {op : Int} (ho : op ≠ 23) {b : Nat} : ∀ (ps : List Nat) (a k : Nat) (c out : List InsD) (J : List Nat),
    Chain L a ps b → (∀ p ∈ ps, sepS l P l.length (L.getD p 0) = none) → (∀ p ∈ ps, ∀ c J, thing l P L p (c, J) = (c ++ f p c.length, J)) →
    segC l (sepS l P l.length) (b - a) a (c ++ out, J) = (c ++ rwF f op c.length k ps out, J)
  | [], a, k, c, out, J, hc, hs, hf => by
    obtain rfl : a = b := hc
    rw [Nat.sub_self]; rfl
  | p :: ps, a, k, c, out, J, hc, hs, hf => by
    have h1 := hc.2.1
    have h2 := hc.2.2.le
    have ha := hc.1
    rw [show b - a = (p + 1 - L.getD p 0) + (b - (p + 1)) by omega, segC_add, ← ha, seg_thing l P L (by omega), show L.getD p 0 + (p + 1 - L.getD p 0) = p + 1 by omega]
    have h3 := hs p (List.mem_cons_self ..)
    unfold sepStep
    rw [h3]
    simp only
    rw [hf p (List.mem_cons_self ..)]
    show _ = (c ++ rwF f op c.length (k + 1) ps (if op = 23 ∧ k = 0 then _ else out ++ f p (c.length + out.length)), J)
    rw [if_neg (by omega), List.length_append, List.append_assoc]
    exact row_plain l P L ho ps (p + 1) (k + 1) c _ J hc.2.2 (fun q hq => hs q (List.mem_cons_of_mem _ hq)) (fun q hq => hf q (List.mem_cons_of_mem _ hq))
theorem set_end {α : Type} (l : List α) (x : α) (r : List α) (y : α) : (l ++ x :: r).set l.length y = l ++ y :: r := by
  rw [List.set_append_right _ _ (Nat.le_refl _), Nat.sub_self]; rfl
theorem ofF_succ (l : List NdD) (P : List (List Nat)) (n i fr : Nat) : ofF l P (n + 1) i fr = if (ndA l i).op = 21 then ifF (ofF l P n) fr ((P.getD i []).getD 0 0) ((P.getD i []).getD 1 0) ((P.getD i []).getD 2 0)
    else rwF (ofF l P n) (ndA l i).op fr 0 (P.getD i []) [] ++ [if (ndA l i).op = 23 then iC 104 0 else insN (ndA l i)] := rfl
/-- both ways to the code come to the same -/
theorem code_thing (h : Tr l P L) : ∀ (n i : Nat), i < n → i < l.length → ∀ c J, thing l P L i (c, J) = (c ++ ofF l P n i c.length, J) := by
  intro n
  induction n with
  | zero => intro i hi; exact absurd hi (Nat.not_lt_zero i)
  | succ n ih =>
    intro i hin hi c J
    have hch := h.chain i hi
    have hmem := hch.mem
    have hlow := h.low hi
    have hF : ∀ p ∈ P.getD i [], ∀ c J, thing l P L p (c, J) = (c ++ ofF l P n p c.length, J) := fun p hp c J => by
      have := hmem p hp
      exact ih p (by omega) (by omega) c J
    have hlen := h.len hi
    cases hP : P.getD i [] with
    | nil =>
      rw [hP] at hch hlen
      have e : L.getD i 0 = i := hch
      have hk0 : (ndA l i).k = 0 := by have := hlen.1; simp at this; omega
      have h21 : (ndA l i).op ≠ 21 := fun ho => by have := takes_if (ho ▸ hlen.2); omega
      have h23 : (ndA l i).op ≠ 23 := fun ho => by have := takes_in (ho ▸ hlen.2); omega
      unfold thing
      rw [e, Nat.sub_self]
      show ndStep _ _ _ = _
      rw [ofF_succ]; unfold ndStep
      rw [if_neg h21, if_neg h23, if_neg h21, hP, if_neg h23]
      rfl
    | cons p0 rest =>
      have hne : P.getD i [] ≠ [] := by rw [hP]; simp
      rw [hP] at hch
      have hl0 : L.getD p0 0 = L.getD i 0 := hch.1
      have hp0 := hch.2.1
      have hb := hch.2.2.le
      -- the first part, what is between, the node itself
      have hstart : ∀ s, thing l P L i s = segC l (sepS l P l.length) (i + 1 - (p0 + 1)) (p0 + 1) (thing l P L p0 s) := fun s => by
        unfold thing
        rw [hl0, show i - L.getD i 0 = (p0 - L.getD i 0) + (i + 1 - (p0 + 1)) by omega, segC_add, show L.getD i 0 + 1 + (p0 - L.getD i 0) = p0 + 1 by omega]
      have hend : ∀ (a : Nat) (s s2), a ≤ i → segC l (sepS l P l.length) (i - a) a s = s2 → segC l (sepS l P l.length) (i + 1 - a) a s = ndStep (ndA l i) s2.1 s2.2 := fun a s s2 ha hs => by
        rw [show i + 1 - a = (i - a) + 1 by omega, segC_add, hs, show a + (i - a) = i by omega]
        show ndStep _ (sepStep _ i _ _).1 (sepStep _ i _ _).2 = _
        unfold sepStep
        rw [h.nosep hi hne]
      rw [hstart, hF p0 (by rw [hP]; exact List.mem_cons_self ..)]
      by_cases h21 : (ndA l i).op = 21
      · obtain ⟨a, b, d, e⟩ := h.if3 hi h21
        rw [hP] at e
        obtain ⟨rfl, rfl⟩ := List.cons.inj e
        have hs1 := h.sep hi (s := []) (t := [d]) (p := p0) (q := b) hP
        have hs2 := h.sep hi (s := [p0]) (t := []) (p := b) (q := d) hP
        rw [if_neg (by omega), if_pos h21] at hs1 hs2
        have hc2 := hch.2.2
        have hc3 := hc2.2.2
        have hlb := hc2.1
        have hld := hc3.1
        have hbb := hc2.2.1
        have hdd := hc3.2.1
        have hdi : d + 1 = i := hc3.2.2
        rw [hend _ _ _ (by omega) rfl]
        rw [show i - (p0 + 1) = (b + 1 - L.getD b 0) + (d + 1 - L.getD d 0) by omega, segC_add, show p0 + 1 = L.getD b 0 by omega, seg_thing l P L (by omega), show L.getD b 0 + (b + 1 - L.getD b 0) = L.getD d 0 by omega, seg_thing l P L (by omega)]
        · have e1 : sepStep (sepS l P l.length) (L.getD b 0) (c ++ ofF l P n p0 c.length) J = (c ++ ofF l P n p0 c.length ++ [iC 102 0], J ++ [(c ++ ofF l P n p0 c.length).length]) := by
            unfold sepStep
            rw [hlb, hs1]
            rfl
          have e2 : ∀ c J, sepStep (sepS l P l.length) (L.getD d 0) c J = (c ++ [iC 101 0], J ++ [c.length]) := fun c J => by
            unfold sepStep
            rw [hld, hs2]
            rfl
          simp only
          rw [e1, hF b (by rw [hP]; simp)]
          simp only
          rw [e2, hF d (by rw [hP]; simp)]
          rw [ofF_succ]; unfold ndStep
          rw [if_pos h21, if_pos h21, hP]
          simp only [List.getD_cons_zero, List.getD_cons_succ]
          unfold ifF
          generalize hA : ofF l P n p0 c.length = A
          simp only [List.length_append, List.length_cons, List.length_nil, Nat.zero_add]
          generalize hB : ofF l P n b (c.length + A.length + 1) = B
          rw [show c.length + A.length + B.length + 2 = c.length + A.length + 1 + B.length + 1 by omega]
          generalize hD : ofF l P n d (c.length + A.length + 1 + B.length + 1) = D
          rw [show J.length + 1 + 1 - 2 = J.length by omega, show J.length + 1 + 1 - 1 = J.length + 1 by omega]
          have g1 : (J ++ [c.length + A.length] ++ [c.length + A.length + 1 + B.length]).getD J.length 0 = c.length + A.length := by
            rw [List.append_assoc, List.getD_eq_getElem?_getD, List.getElem?_append_right (Nat.le_refl _), Nat.sub_self]; rfl
          have g2 : (J ++ [c.length + A.length] ++ [c.length + A.length + 1 + B.length]).getD (J.length + 1) 0 = c.length + A.length + 1 + B.length := by
            rw [List.append_assoc, List.getD_eq_getElem?_getD, List.getElem?_append_right (by omega), show J.length + 1 - J.length = 1 by omega]; rfl
          have g3 : (J ++ [c.length + A.length] ++ [c.length + A.length + 1 + B.length]).take J.length = J := by
            rw [List.append_assoc, List.take_append_of_le_length (Nat.le_refl _), List.take_length]
          rw [g1, g2, g3]
          obtain ⟨M, hM⟩ : ∃ M, M = c ++ A := ⟨_, rfl⟩
          have hMl : M.length = c.length + A.length := by rw [hM, List.length_append]
          rw [← hM, ← hMl]
          have k1 : (M ++ [iC 102 0] ++ B ++ [iC 101 0] ++ D).getD M.length (iC 0 0) = iC 102 0 := by
            simp only [List.append_assoc]
            rw [List.getD_eq_getElem?_getD, List.getElem?_append_right (Nat.le_refl _), Nat.sub_self]; rfl
          have k2 : (M ++ [iC 102 0] ++ B ++ [iC 101 0] ++ D).getD (M.length + 1 + B.length) (iC 0 0) = iC 101 0 := by
            rw [List.append_assoc _ [iC 101 0], List.getD_eq_getElem?_getD, List.getElem?_append_right (by simp; omega), show M.length + 1 + B.length - (M ++ [iC 102 0] ++ B).length = 0 by simp; omega]; rfl
          rw [k1, k2]
          have s1 : ∀ y, (M ++ [iC 102 0] ++ B ++ [iC 101 0] ++ D).set M.length y = M ++ [y] ++ B ++ [iC 101 0] ++ D := fun y => by
            simp only [List.append_assoc, List.singleton_append]
            exact set_end M _ _ y
          have s2 : ∀ y z, (M ++ [z] ++ B ++ [iC 101 0] ++ D).set (M.length + 1 + B.length) y = M ++ [z] ++ B ++ [y] ++ D := fun y z => by
            rw [List.append_assoc _ [iC 101 0], List.append_assoc _ [y], List.singleton_append, List.singleton_append, show M.length + 1 + B.length = (M ++ [z] ++ B).length by simp; omega]
            exact set_end _ _ _ y
          rw [s1, s2]
          simp only [iC, Prod.mk.injEq, and_true]
          rw [show M.length + B.length + D.length + 2 = M.length + 1 + B.length + 1 + D.length by omega, show ((M.length + 1 + B.length : Nat) : Int) + 1 = ((M.length + 1 + B.length + 1 : Nat) : Int) by omega]
          generalize ((M.length + 1 + B.length + 1 : Nat) : Int) = u
          generalize ((M.length + 1 + B.length + 1 + D.length : Nat) : Int) = v
          rw [hM]
          simp only [List.append_assoc]
      · have hch2 := hch.2.2
        by_cases h23 : (ndA l i).op = 23
        · obtain ⟨a, b, e⟩ := h.in2 hi h23
          rw [hP] at e
          obtain ⟨rfl, rfl⟩ := List.cons.inj e
          have hs1 := h.sep hi (s := []) (t := []) (p := p0) (q := b) hP
          rw [if_pos h23] at hs1
          have hlb := hch2.1
          have hbb := hch2.2.1
          have hbi : b + 1 = i := hch2.2.2
          rw [hend _ _ _ (by omega) rfl]
          rw [show i - (p0 + 1) = (b + 1 - L.getD b 0) by omega, show p0 + 1 = L.getD b 0 by omega, seg_thing l P L (by omega)]
          · have e1 : ∀ c J, sepStep (sepS l P l.length) (L.getD b 0) c J = (c ++ [iC 103 0], J) := fun c J => by
              unfold sepStep
              rw [hlb, hs1]
              rfl
            simp only
            rw [e1, hF b (by rw [hP]; simp)]
            rw [ofF_succ]; unfold ndStep
            rw [if_neg h21, if_pos h23, if_neg h21, if_pos h23, hP, h23]
            simp [rwF, List.append_assoc]
        · have hsn : ∀ q ∈ rest, sepS l P l.length (L.getD q 0) = none := fun q hq => by
            obtain ⟨s, t, e⟩ := List.append_of_mem hq
            -- the part ahead of q
            rcases List.eq_nil_or_concat s with rfl | ⟨s', y, rfl⟩
            · have e2 : P.getD i [] = [] ++ p0 :: q :: t := by rw [hP, e]; rfl
              have h3 := h.sep hi e2
              rw [if_neg h23, if_neg h21] at h3
              have h4 := (show Chain L _ ([] ++ p0 :: q :: t) i by rw [← e2, hP]; exact hch).at
              rw [h4.1]; exact h3
            · have e2 : P.getD i [] = (p0 :: s') ++ y :: q :: t := by rw [hP, e]; simp
              have h3 := h.sep hi e2
              rw [if_neg h23, if_neg h21] at h3
              have h4 := (show Chain L _ ((p0 :: s') ++ y :: q :: t) i by rw [← e2, hP]; exact hch).at
              rw [h4.1]; exact h3
          refine (hend _ _ (_, _) (by omega) (row_plain l P L (f := ofF l P n) (op := (ndA l i).op) h23 rest (p0 + 1) 1 c (ofF l P n p0 c.length) J hch2 hsn (fun q hq => hF q (by rw [hP]; exact List.mem_cons_of_mem _ hq)))).trans ?_
          rw [ofF_succ]; unfold ndStep
          rw [if_neg h21, if_neg h23, if_neg h21, if_neg h23, hP]
          simp [rwF, h23, List.append_assoc]
/-- of the whole -/
theorem code_whole (h : Tr l P L) {q : Nat} (hH : Chain L 0 [q] l.length) : segC l (sepS l P l.length) l.length 0 ([], []) = (ofF l P l.length (l.length - 1) 0, []) := by
  have h1 : L.getD q 0 = 0 := hH.1
  have h2 : q + 1 = l.length := hH.2.2
  have h3 := seg_thing l P L (i := q) (by omega) ([], [])
  rw [h1, Nat.sub_zero, h2] at h3
  rw [h3]
  unfold sepStep
  rw [h.nosep0]
  simp only
  rw [code_thing h l.length q (by omega) (by omega), show l.length - 1 = q by omega]
  rfl
end
/-! ### how long the code is -/
theorem rwF_len {f : Nat → Nat → List InsD} {op : Int} {fr : Nat} {L : List Nat} {b : Nat} : ∀ (ps : List Nat) (a k : Nat) (out : List InsD), Chain L a ps b → (∀ p ∈ ps, ∀ fr, (f p fr).length ≤ 2 * (p + 1 - L.getD p 0)) →
    (rwF f op fr k ps out).length ≤ out.length + 2 * (b - a) + (if op = 23 ∧ k = 0 then 1 else 0)
  | [], a, k, out, _, _ => by show out.length ≤ _; omega
  | p :: ps, a, k, out, hc, hf => by
    have h1 := hf p (List.mem_cons_self ..) (fr + out.length)
    have h2 := hc.2.1
    have h3 := hc.2.2.le
    have h4 := hc.1
    have h5 := rwF_len (f := f) (op := op) (fr := fr) ps (p + 1) (k + 1) (if op = 23 ∧ k = 0 then out ++ f p (fr + out.length) ++ [iC 103 0] else out ++ f p (fr + out.length)) hc.2.2 (fun q hq => hf q (List.mem_cons_of_mem _ hq))
    have e5 : (if op = 23 ∧ k + 1 = 0 then 1 else 0) = 0 := if_neg (by omega)
    rw [e5] at h5
    refine Nat.le_trans h5 ?_
    split
    · simp only [List.length_append, List.length_cons, List.length_nil]; omega
    · simp only [List.length_append]; omega
theorem rwF_ge {f : Nat → Nat → List InsD} {op : Int} {fr : Nat} : ∀ (ps : List Nat) (k : Nat) (out : List InsD), out.length ≤ (rwF f op fr k ps out).length
  | [], _, _ => Nat.le_refl _
  | p :: ps, k, out => Nat.le_trans (by split <;> simp <;> omega) (rwF_ge ps (k + 1) _)
theorem ofF_len {l : List NdD} {P : List (List Nat)} {L : List Nat} (h : Tr l P L) : ∀ (n i : Nat), i < l.length → ∀ fr, (ofF l P n i fr).length ≤ 2 * (i + 1 - L.getD i 0) := by
  intro n
  induction n with
  | zero => intro i _ fr; exact Nat.zero_le _
  | succ n ih =>
    intro i hi fr
    have hch := h.chain i hi
    have hmem := hch.mem
    have hlow := h.low hi
    have hF : ∀ p ∈ P.getD i [], ∀ fr, (ofF l P n p fr).length ≤ 2 * (p + 1 - L.getD p 0) := fun p hp => ih p (by have := hmem p hp; omega)
    rw [ofF_succ]
    by_cases h21 : (ndA l i).op = 21
    · rw [if_pos h21]
      obtain ⟨a, b, d, e⟩ := h.if3 hi h21
      rw [e] at hch hF ⊢
      simp only [List.getD_cons_zero, List.getD_cons_succ]
      unfold ifF
      simp only [List.length_append, List.length_cons, List.length_nil]
      have h1 := hF a (by simp) fr
      have h2 := hF b (by simp) (fr + (ofF l P n a fr).length + 1)
      have h3 := hF d (by simp) (fr + (ofF l P n a fr).length + (ofF l P n b (fr + (ofF l P n a fr).length + 1)).length + 2)
      have c1 := hch.1
      have c2 := hch.2.1
      have c3 := hch.2.2.1
      have c4 := hch.2.2.2.1
      have c5 := hch.2.2.2.2.1
      have c6 := hch.2.2.2.2.2.1
      have c7 : d + 1 = i := hch.2.2.2.2.2.2
      omega
    · rw [if_neg h21]
      have h1 := rwF_len (f := ofF l P n) (op := (ndA l i).op) (fr := fr) (P.getD i []) (L.getD i 0) 0 [] hch hF
      simp only [List.length_append, List.length_cons, List.length_nil] at h1 ⊢
      split at h1 <;> omega
theorem ofF_pos {l : List NdD} {P : List (List Nat)} (n i fr : Nat) : 0 < (ofF l P (n + 1) i fr).length := by
  rw [ofF_succ]
  split
  · unfold ifF; simp only [List.length_append, List.length_cons, List.length_nil]; omega
  · simp
end Go.Proofs.YtpgfgaloagdogaaDoor
