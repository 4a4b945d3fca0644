/-
  The types of expressions, plain: the program's stack of types and of what tests ask, the document's list of types; both say the same.
-/
import Derived.Test.YtalahkincccffaaGreatDoorBz
import Derived.Test.YtalahkincccffaaGreatDoorBx
import Derived.Test.YtalahkincccffaaGreatDoorBt
namespace Go.Proofs.YtalahkincccffaaGreatDoor
open Go.RowKit Num Word Txt

abbrev Ask := Ty × Bool
abbrev Itm := Ty × List Ask
def ordB (a b : Ty) : Bool := (meetB a (2, 0) && meetB b (2, 0)) || ((meetB a (3, 0) && meetB b (3, 0)) || (meetB a (4, 0) && meetB b (4, 0)))
def takB (t : Ty) (a : Ask) : Bool := if a.2 = true then ordB t a.1 else meetB t a.1
def fitB (ks : List Ask) (t : Ty) : Bool := ks.all fun a => takB t a
def askF (op : Int) (p : Itm) : List Ask := if 30 ≤ op ∧ op ≤ 35 then [(p.1, decide (op ≠ 30))] else if op = 36 ∨ op = 37 then p.2 else []
def askM (op : Int) (ps : List Itm) : List Ask := ps.flatMap (askF op)
structure SyD where
  s : ByteArray
  t : Ty
def findS : List SyD → ByteArray → Option Ty
  | [], _ => none
  | x :: r, s => if x.s = s then some x.t else findS r s
def numA (ts : List Ty) (o : Ty) : Bool := ts.all fun t => meetB t o
def sumM (a b : Ty) : Ty × Int := if numA [a, b] (2, 0) = true then (if numA [a, b] (3, 0) = true then ((0, 0), 0) else ((2, 0), 0)) else if numA [a, b] (3, 0) = true then ((3, 0), 0) else ((0, 0), 9)
def lstM : List Ty → Ty
  | [] => (5, 0)
  | a :: r => if (r.all fun t => decide (t = a)) = true ∧ tform 5 a.1 = true then (5, a.1) else (5, 0)
def eqfM : List Ty → List Ty → Bool
  | [], [] => true
  | a :: r, b :: s => meetB a b && eqfM r s
  | _, _ => false
def calM (s : ByteArray) (ts : List Ty) : Ty × Int := match fnOf s with
  | none => ((0, 0), 8)
  | some q => if eqfM ts q.1 = true then (q.2, 0) else ((0, 0), 9)
def simT (op : Int) : Ty := if op = 4 ∨ op = 8 ∨ op = 10 ∨ op = 11 ∨ op = 12 then (2, 0) else if op = 5 then (3, 0) else if op = 6 then (4, 0) else if op = 2 ∨ op = 3 ∨ (13 ≤ op ∧ op ≤ 20) ∨ op = 22 ∨ op = 23 then (1, 0) else (0, 0)
def tyA (ts : List Ty) (i : Nat) : Ty := ts.getD i (0, 0)
def simB (op : Int) (ts : List Ty) : Bool :=
  if op = 8 ∨ op = 10 ∨ op = 11 ∨ op = 12 then numA ts (2, 0)
  else if op = 19 ∨ op = 20 then numA ts (1, 0)
  else if op = 13 ∨ op = 14 then meetB (tyA ts 0) (tyA ts 1)
  else if 15 ≤ op ∧ op ≤ 18 then ordB (tyA ts 0) (tyA ts 1)
  else if op = 22 then ordB (tyA ts 0) (tyA ts 1) && ordB (tyA ts 0) (tyA ts 2)
  else if op = 24 then decide (tyA ts 0 = (0, 0))
  else true
def tyM (sy : List SyD) (x : NdD) (ts : List Ty) : Ty × Int :=
  if x.op = 7 then (match findS sy x.t with | some t => (t, 0) | none => ((0, 0), 8))
  else if x.op = 25 then calM x.t ts
  else if x.op = 9 then sumM (tyA ts 0) (tyA ts 1)
  else if x.op = 21 then ((joinK (tyA ts 1).1 (tyA ts 1).2 (tyA ts 2).1 (tyA ts 2).2, joinO (tyA ts 1).1 (tyA ts 1).2 (tyA ts 2).1 (tyA ts 2).2), if meetB (tyA ts 0) (1, 0) = true then 0 else 9)
  else if x.op = 26 then (lstM ts, 0)
  else (simT x.op, if simB x.op ts = true then 0 else 9)
def itA (ps : List Itm) (i : Nat) : Itm := ps.getD i ((0, 0), [])
def errM (sy : List SyD) (x : NdD) (ps : List Itm) : Int := if (tyM sy x (ps.map (·.1))).2 = 0 ∧ x.op = 23 ∧ fitB (itA ps 1).2 (itA ps 0).1 = false then 9 else (tyM sy x (ps.map (·.1))).2
def runM (sy : List SyD) : List NdD → List Itm → Itm × Int
  | [], st => (itA st 0, 0)
  | x :: r, st => if errM sy x (st.drop (st.length - x.k.toNat)) = 0 then runM sy r (st.take (st.length - x.k.toNat) ++ [((tyM sy x ((st.drop (st.length - x.k.toNat)).map (·.1))).1, askM x.op (st.drop (st.length - x.k.toNat)))]) else (((0, 0), []), errM sy x (st.drop (st.length - x.k.toNat)))
def dyM (sy : List SyD) (x : NdD) (ts : List Ty) : Ty × Int := if (tyM sy x ts).2 = 0 then tyM sy x ts else ((0, 0), (tyM sy x ts).2)
def fitD (l : List NdD) (P : List (List Nat)) (T : List Ty) : Nat → Nat → Ty → Bool
  | 0, _, _ => true
  | n + 1, at', t => (P.getD at' []).all fun p => if opA l at' = 36 ∨ opA l at' = 37 then fitD l P T n p t else if opA l at' = 30 then meetB t (tyA T p) else ordB t (tyA T p)
def mustM (b : Bool) (k : Int) : Ty × Int := if b = true then ((k, 0), 0) else ((0, 0), 9)
def plT (P : List (List Nat)) (T : List Ty) (i : Nat) : List Ty := (P.getD i []).map (tyA T)
def oneD (l : List NdD) (P : List (List Nat)) (sy : List SyD) (T : List Ty) (i : Nat) (x : NdD) : Ty × Int :=
  if x.op = 23 then mustM (fitD l P T 3 ((P.getD i []).getD 1 0) (tyA (plT P T i) 0)) 1 else dyM sy x (plT P T i)
def typD (l : List NdD) (P : List (List Nat)) (sy : List SyD) : List NdD → List Ty → List Ty × Int
  | [], T => (T, 0)
  | x :: r, T => if (oneD l P sy T T.length x).2 = 0 then typD l P sy r (T ++ [(oneD l P sy T T.length x).1]) else ([], (oneD l P sy T T.length x).2)
/-! ### types in form -/
def FmT (t : Ty) : Prop := tform t.1 t.2 = true
theorem fmT_k {k : Int} (h : 0 ≤ k ∧ k ≤ 4) : FmT (k, 0) := by
  have h1 : k ≠ 5 := by omega
  simp [FmT, tform, h1, h.1, h.2]
theorem fm_A {ts : List Ty} (h : ∀ t ∈ ts, FmT t) (i : Nat) : FmT (tyA ts i) := by
  unfold tyA
  rw [List.getD_eq_getElem?_getD]
  cases hi : ts[i]? with
  | none => exact fmT_k (by decide)
  | some t => exact h t (List.mem_of_getElem? hi)
theorem findS_fm {sy : List SyD} (h : ∀ x ∈ sy, FmT x.t) {s : ByteArray} {t : Ty} (hf : findS sy s = some t) : FmT t := by
  induction sy with
  | nil => cases hf
  | cons x r ih =>
    unfold findS at hf
    split at hf
    · injection hf with hf; subst hf; exact h x (by simp)
    · exact ih (fun y hy => h y (by simp [hy])) hf
theorem join_fm {a b : Ty} (ha : FmT a) (hb : FmT b) : FmT (joinK a.1 a.2 b.1 b.2, joinO a.1 a.2 b.1 b.2) := by
  have := jn_form a.1 a.2 b.1 b.2 10 (Nat.le_refl _)
  rw [jn_join a.1 a.2 b.1 b.2 ha hb] at this
  exact this
theorem fn_fm {s : ByteArray} {q : List Ty × Ty} (h : fnOf s = some q) : FmT q.2 ∧ ∀ t ∈ q.1, FmT t := by
  rcases fn_split s with ⟨h1, -⟩ | ⟨r, hr, -, h1⟩
  · rw [h1] at h; cases h
  · rw [h1] at h
    injection h with h
    subst h
    have h2 : ∀ r ∈ fnTab, tform r.2.2.1 r.2.2.2 = true ∧ ∀ t ∈ r.2.1, tform t.1 t.2 = true := by decide
    exact h2 r hr
theorem simT_fm (op : Int) : FmT (simT op) := by
  unfold simT
  repeat' split
  all_goals exact fmT_k (by decide)
theorem tyM_fm {sy : List SyD} (hs : ∀ x ∈ sy, FmT x.t) {x : NdD} {ts : List Ty} (h : ∀ t ∈ ts, FmT t) : FmT (tyM sy x ts).1 := by
  unfold tyM
  split
  · cases hf : findS sy x.t with
    | none => exact fmT_k (by decide)
    | some t => exact findS_fm hs hf
  split
  · unfold calM
    cases hf : fnOf x.t with
    | none => exact fmT_k (by decide)
    | some q =>
      simp only
      split
      · exact (fn_fm hf).1
      · exact fmT_k (by decide)
  split
  · unfold sumM
    repeat' split
    all_goals exact fmT_k (by decide)
  split
  · exact join_fm (fm_A h 1) (fm_A h 2)
  split
  · unfold lstM
    split
    · exact (show tform 5 0 = true by decide)
    · split
      · rename_i h1; exact h1.2
      · exact (show tform 5 0 = true by decide)
  · exact simT_fm _
/-! ### both are one -/
theorem tyA_append {T : List Ty} {x : Ty} {p : Nat} (h : p < T.length) : tyA (T ++ [x]) p = tyA T p := by
  unfold tyA
  rw [List.getD_eq_getElem?_getD, List.getD_eq_getElem?_getD, List.getElem?_append_left h]
theorem tyA_end {T : List Ty} {x : Ty} : tyA (T ++ [x]) T.length = x := by
  unfold tyA
  rw [List.getD_eq_getElem?_getD, List.getElem?_append_right (Nat.le_refl _)]
  simp
def akA (A : List (List Ask)) (i : Nat) : List Ask := A.getD i []
theorem akA_append {T : List (List Ask)} {x : List Ask} {p : Nat} (h : p < T.length) : akA (T ++ [x]) p = akA T p := by
  unfold akA
  rw [List.getD_eq_getElem?_getD, List.getD_eq_getElem?_getD, List.getElem?_append_left h]
theorem akA_end {T : List (List Ask)} {x : List Ask} : akA (T ++ [x]) T.length = x := by
  unfold akA
  rw [List.getD_eq_getElem?_getD, List.getElem?_append_right (Nat.le_refl _)]
  simp
def itP (T : List Ty) (A : List (List Ask)) (ps : List Nat) : List Itm := ps.map fun p => (tyA T p, akA A p)
theorem itP_append {T : List Ty} {A : List (List Ask)} {t : Ty} {a : List Ask} {ps : List Nat} (hA : A.length = T.length) (h : ∀ p ∈ ps, p < T.length) : itP (T ++ [t]) (A ++ [a]) ps = itP T A ps :=
  List.map_congr_left fun p hp => by rw [tyA_append (h p hp), akA_append (by rw [hA]; exact h p hp)]
structure AkI (l : List NdD) (P : List (List Nat)) (T : List Ty) (A : List (List Ask)) : Prop where
  len : A.length = T.length
  ask : ∀ i, i < T.length → akA A i = askM (opA l i) (itP T A (P.getD i []))
def SoP (l : List NdD) (P : List (List Nat)) : Prop := ∀ i, i < l.length → sortsB l (opA l i) 0 (P.getD i []) = true
theorem sorts_get {l : List NdD} {op : Int} : ∀ {ps : List Nat} {j : Nat}, sortsB l op j ps = true → ∀ i p, ps[i]? = some p → sortN (opA l p) = wantN op (j + i : Nat) + 1
  | [], _, _, i, p, h => by simp at h
  | a :: ps, j, h, i, p, hp => by
    have h2 : (decide (sortN (opA l a) = wantN op j + 1) && sortsB l op (j + 1) ps) = true := h
    rw [Bool.and_eq_true, decide_eq_true_eq] at h2
    cases i with
    | zero =>
      simp at hp
      subst hp
      exact h2.1
    | succ i =>
      have := sorts_get h2.2 i p (by simpa using hp)
      rw [this, show j + 1 + i = j + (i + 1) by omega]
theorem sort_three {op : Int} (h : sortN op = 3) : 30 ≤ op ∧ op ≤ 35 := by
  unfold sortN at h
  repeat' split at h
  all_goals omega
theorem sort_four {op : Int} (h : sortN op = 4) : op = 36 := by
  unfold sortN at h
  repeat' split at h
  all_goals omega
theorem sorts_mem {l : List NdD} {op s : Int} {ps : List Nat} (h : sortsB l op 0 ps = true) (hw : ∀ j : Nat, wantN op j + 1 = s) : ∀ p ∈ ps, sortN (opA l p) = s := fun p hp => by
  obtain ⟨i, hi, rfl⟩ := List.getElem_of_mem hp
  rw [sorts_get h i _ (List.getElem?_eq_getElem hi), ← hw (0 + i)]
section
variable {l : List NdD} {P : List (List Nat)} {L : List Nat} {T : List Ty} {A : List (List Ask)}
theorem kid_lt (h : Tr l P L) {i : Nat} (hi : i < l.length) : ∀ p ∈ P.getD i [], p < i := fun p hp => ((h.chain i hi).mem p hp).2
theorem tfit_test (hA : AkI l P T A) {i : Nat} (hi : i < T.length) (ho : 30 ≤ opA l i ∧ opA l i ≤ 35) (n : Nat) (t : Ty) : fitB (akA A i) t = fitD l P T (n + 1) i t := by
  have h36 : ¬ (opA l i = 36 ∨ opA l i = 37) := by omega
  rw [hA.ask i hi]
  unfold fitB askM itP fitD
  simp only [h36, if_false]
  rw [List.flatMap_map]
  induction P.getD i [] with
  | nil => rfl
  | cons p r ih =>
    simp only [List.flatMap_cons, List.all_append, List.all_cons]
    rw [ih]
    congr 1
    simp only [askF, if_pos ho, List.all_cons, List.all_nil, Bool.and_true]
    unfold takB
    by_cases h30 : opA l i = 30
    · simp [h30]
    · simp [h30]
theorem all_flat {α β : Type} (f : α → List β) (q : β → Bool) : ∀ ps : List α, (ps.flatMap f).all q = ps.all fun p => (f p).all q
  | [] => rfl
  | p :: r => by rw [List.flatMap_cons, List.all_append, List.all_cons, all_flat f q r]
theorem tfit_over (hA : AkI l P T A) {i : Nat} (hi : i < T.length) (ho : opA l i = 36 ∨ opA l i = 37) (n : Nat) (t : Ty) (h : ∀ p ∈ P.getD i [], fitB (akA A p) t = fitD l P T n p t) : fitB (akA A i) t = fitD l P T (n + 1) i t := by
  rw [hA.ask i hi]
  unfold fitB askM itP fitD
  simp only [ho, if_true]
  rw [List.flatMap_map, all_flat]
  have key : ∀ ps : List Nat, (∀ p ∈ ps, fitB (akA A p) t = fitD l P T n p t) → (ps.all fun p => (askF (opA l i) (tyA T p, akA A p)).all fun a => takB t a) = ps.all fun p => fitD l P T n p t := by
    intro ps hp
    induction ps with
    | nil => rfl
    | cons p r ih =>
      rw [List.all_cons, List.all_cons, ih fun q hq => hp q (by simp [hq]), ← hp p (by simp)]
      unfold askF fitB
      rw [if_neg (by omega), if_pos ho]
  exact key _ h
theorem tfit_some (hTr : Tr l P L) (hS : SoP l P) (hA : AkI l P T A) (hTl : T.length ≤ l.length) {i : Nat} (hi : i < T.length) (ho : opA l i = 36) (n : Nat) (t : Ty) : fitB (akA A i) t = fitD l P T (n + 2) i t :=
  tfit_over hA hi (.inl ho) (n + 1) t fun p hp => by
    have hpi := kid_lt hTr (by omega) p hp
    have h3 := sort_three (sorts_mem (hS i (by omega)) (fun j => by rw [ho]; rfl) p hp)
    exact tfit_test hA (by omega) h3 n t
theorem tfit_not (hTr : Tr l P L) (hS : SoP l P) (hA : AkI l P T A) (hTl : T.length ≤ l.length) {i : Nat} (hi : i < T.length) (ho : opA l i = 37) (n : Nat) (t : Ty) : fitB (akA A i) t = fitD l P T (n + 3) i t :=
  tfit_over hA hi (.inr ho) (n + 2) t fun p hp => by
    have hpi := kid_lt hTr (by omega) p hp
    have h4 := sort_four (sorts_mem (hS i (by omega)) (fun j => by rw [ho]; rfl) p hp)
    exact tfit_some hTr hS hA hTl (by omega) h4 n t
theorem tfit_any (hTr : Tr l P L) (hA : AkI l P T A) (hTl : T.length ≤ l.length) {i : Nat} (hi : i < T.length) (ho : opA l i = 29) (n : Nat) (t : Ty) : fitB (akA A i) t = fitD l P T (n + 1) i t := by
  have hk := hTr.len (i := i) (by omega)
  have ho2 : (ndA l i).op = 29 := by
    rw [← ho]; unfold ndA opA; rw [List.getD_eq_getElem?_getD]
    rw [List.getElem?_eq_getElem (by omega)]; rfl
  rw [ho2] at hk
  have h0 : (ndA l i).k = 0 := of_decide_eq_true (show decide ((ndA l i).k = 0) = true from hk.2)
  have hn : P.getD i [] = [] := List.eq_nil_of_length_eq_zero (by omega)
  rw [hA.ask i hi]
  unfold fitD
  rw [hn]
  rfl
end
theorem nd_op {l : List NdD} {i : Nat} (hi : i < l.length) : opA l i = l[i].op := by
  unfold opA; rw [List.getElem?_eq_getElem hi]; rfl
def endM (T : List Ty) (A : List (List Ask)) : List Nat → Itm
  | [] => ((0, 0), [])
  | p :: _ => (tyA T p, akA A p)
theorem run_types {l : List NdD} {P : List (List Nat)} {L : List Nat} {sy : List SyD} (hTr : Tr l P L) (hS : SoP l P) (hsy : ∀ x ∈ sy, FmT x.t) :
    ∀ (r : List NdD) (i : Nat) (H : List Nat) (T : List Ty) (A : List (List Ask)) {q : List Nat × List (List Nat)}, l.drop i = r → i ≤ l.length → T.length = i → AkI l P T A → (∀ a ∈ H, a < i) → (∀ t ∈ T, FmT t) → stkP i r H = some q → (∀ j, P.getD (i + j) [] = q.2.getD j []) →
    (runM sy r (itP T A H)).2 = (typD l P sy r T).2 ∧ ((runM sy r (itP T A H)).2 ≠ 0 → (runM sy r (itP T A H)).1 = ((0, 0), []) ∧ (typD l P sy r T).1 = []) ∧
    ((runM sy r (itP T A H)).2 = 0 → ∃ A', AkI l P (typD l P sy r T).1 A' ∧ (typD l P sy r T).1.length = l.length ∧ (∀ t ∈ (typD l P sy r T).1, FmT t) ∧ (runM sy r (itP T A H)).1 = endM (typD l P sy r T).1 A' q.1)
  | [], i, H, T, A, q, hd, hi, hT, hA, hH, hF, hs, hP => by
    have hil : i = l.length := by
      have := congrArg List.length hd
      simp at this
      omega
    injection hs with hs
    subst hs
    refine ⟨rfl, fun h => absurd rfl h, fun _ => ⟨A, hA, by show T.length = _; omega, hF, ?_⟩⟩
    cases H with
    | nil => rfl
    | cons p t => rfl
  | x :: r, i, H, T, A, q, hd, hi, hT, hA, hH, hF, hs, hP => by
    unfold stkP at hs
    split at hs
    case isFalse => cases hs
    case isTrue ht =>
    obtain ⟨q', hs', rfl⟩ := Option.map_eq_some_iff.1 hs
    have hil : i < l.length := by
      rcases Nat.lt_or_ge i l.length with h | h
      · exact h
      · rw [List.drop_eq_nil_of_le h] at hd; cases hd
    have hx : l[i] = x ∧ l.drop (i + 1) = r := by
      rw [List.drop_eq_getElem_cons hil] at hd
      exact List.cons.inj hd
    have hk0 := takes_nn ht.1
    have hPi : P.getD i [] = H.drop (H.length - x.k.toNat) := by
      have := hP 0
      simpa using this
    have hop : opA l i = x.op := by rw [nd_op hil, hx.1]
    have hlen : (itP T A H).length = H.length := List.length_map _
    have hdr : (itP T A H).drop (H.length - x.k.toNat) = itP T A (P.getD i []) := by rw [hPi]; unfold itP; rw [List.map_drop]
    have hmp : (itP T A (P.getD i [])).map (·.1) = plT P T i := by unfold itP plT; rw [List.map_map]; rfl
    have hone : errM sy x (itP T A (P.getD i [])) = (oneD l P sy T i x).2 ∧ ((oneD l P sy T i x).2 = 0 → (oneD l P sy T i x).1 = (tyM sy x (plT P T i)).1) := by
      unfold errM oneD
      rw [hmp]
      by_cases h23 : x.op = 23
      · rw [if_pos h23]
        have hk2 : x.k = 2 := takes_in (h23 ▸ ht.1)
        have hl2 : (P.getD i []).length = 2 := by rw [hPi, List.length_drop]; omega
        obtain ⟨a, b, hab⟩ := list2 hl2
        have hsb := sorts_get (hS i hil) 1 b (by rw [hab]; rfl)
        rw [hop, h23] at hsb
        have hb36 := sort_four (show sortN (opA l b) = 4 from hsb)
        have hbi : b < i := kid_lt hTr hil b (by rw [hab]; simp)
        have h1 : itA (itP T A (P.getD i [])) 1 = (tyA T b, akA A b) := by rw [hab]; rfl
        have h0 : itA (itP T A (P.getD i [])) 0 = (tyA T a, akA A a) := by rw [hab]; rfl
        have h2 : (P.getD i []).getD 1 0 = b := by rw [hab]; rfl
        have h3 : tyA (plT P T i) 0 = tyA T a := by unfold plT; rw [hab]; rfl
        have hty : tyM sy x (plT P T i) = ((1, 0), 0) := by
          unfold tyM
          rw [if_neg (by omega), if_neg (by omega), if_neg (by omega), if_neg (by omega), if_neg (by omega), h23]
          rfl
        rw [hty, h1, h0, h2, h3, tfit_some hTr hS hA (by omega) (by omega) hb36 1 (tyA T a)]
        generalize fitD l P T (1 + 2) b (tyA T a) = f
        cases f with
        | true => exact ⟨by simp [mustM], fun _ => rfl⟩
        | false => exact ⟨by simp [mustM, h23], fun h => absurd h (by decide)⟩
      · rw [if_neg h23, if_neg (by intro h; exact h23 h.2.1)]
        unfold dyM
        by_cases h0 : (tyM sy x (plT P T i)).2 = 0
        · rw [if_pos h0]; exact ⟨rfl, fun _ => rfl⟩
        · rw [if_neg h0]; exact ⟨rfl, fun h => absurd h h0⟩
    unfold runM typD
    rw [hlen, hdr, hT, hone.1, hmp]
    by_cases he : (oneD l P sy T i x).2 = 0
    · rw [if_pos he, if_pos he, hone.2 he]
      have hpl : ∀ t ∈ plT P T i, FmT t := fun t h => by
        obtain ⟨p, -, rfl⟩ := List.mem_map.1 h
        exact fm_A hF p
      have hA2 : AkI l P (T ++ [(tyM sy x (plT P T i)).1]) (A ++ [askM x.op (itP T A (P.getD i []))]) := by
        refine ⟨by rw [List.length_append, List.length_append, hA.len]; rfl, fun j hj => ?_⟩
        rw [List.length_append, List.length_singleton] at hj
        have hkj : ∀ p ∈ P.getD j [], p < T.length := fun p hp => by have := kid_lt hTr (by omega) p hp; omega
        rw [itP_append hA.len hkj]
        by_cases hji : j < i
        · rw [akA_append (by rw [hA.len]; omega)]
          exact hA.ask j (by omega)
        · obtain rfl : j = i := by omega
          have h3 := akA_end (T := A) (x := askM x.op (itP T A (P.getD j [])))
          rw [hA.len, hT] at h3
          rw [h3, hop]
      have hst : (itP T A H).take (H.length - x.k.toNat) ++ [((tyM sy x (plT P T i)).1, askM x.op (itP T A (P.getD i [])))] = itP (T ++ [(tyM sy x (plT P T i)).1]) (A ++ [askM x.op (itP T A (P.getD i []))]) (H.take (H.length - x.k.toNat) ++ [i]) := by
        have h1 : itP (T ++ [(tyM sy x (plT P T i)).1]) (A ++ [askM x.op (itP T A (P.getD i []))]) (H.take (H.length - x.k.toNat) ++ [i]) = itP (T ++ [(tyM sy x (plT P T i)).1]) (A ++ [askM x.op (itP T A (P.getD i []))]) (H.take (H.length - x.k.toNat)) ++ itP (T ++ [(tyM sy x (plT P T i)).1]) (A ++ [askM x.op (itP T A (P.getD i []))]) [i] := by
          unfold itP; rw [List.map_append]
        rw [h1, itP_append hA.len fun p hp => by rw [hT]; exact hH p (List.mem_of_mem_take hp)]
        congr 1
        · unfold itP; rw [List.map_take]
        · have h2 := tyA_end (T := T) (x := (tyM sy x (plT P T i)).1)
          have h3 := akA_end (T := A) (x := askM x.op (itP T A (P.getD i [])))
          rw [hT] at h2
          rw [hA.len, hT] at h3
          show _ = [(tyA _ i, akA _ i)]
          rw [h2, h3]
      rw [hst]
      exact run_types (q := q') hTr hS hsy r (i + 1) _ _ _ hx.2 (by omega) (by rw [List.length_append, hT]; rfl) hA2 (fun a ha => by
        rcases List.mem_append.1 ha with ha | ha
        · have := hH a (List.mem_of_mem_take ha); omega
        · simp at ha; omega) (fun t h => by
        rcases List.mem_append.1 h with h | h
        · exact hF t h
        · simp at h; subst h; exact tyM_fm hsy hpl) hs' (fun j => by
        have := hP (j + 1)
        rw [show i + (j + 1) = i + 1 + j by omega] at this
        simpa using this)
    · rw [if_neg he, if_neg he]
      exact ⟨rfl, fun _ => ⟨rfl, rfl⟩, fun h => absurd h he⟩
/-! ### what Expr and Tests answer -/
def plcS (l : List NdD) : List (List Nat) := match stkP 0 l [] with | some q => q.2 | none => []
def lastT (q : List Ty × Int) : Ty × Int := if q.2 = 0 then (tyA q.1 (q.1.length - 1), 0) else ((0, 0), q.2)
theorem docM_ok {l : List NdD} : ∀ (r : List NdD) (ps : List (List Nat)) (D : List Nat) (d : Nat) {e}, docM l r ps D d = some e → ∀ j (h : j < r.length), okD l r[j] (ps.getD j []) = true
  | [], _, _, _, _, _, j, h => absurd h (Nat.not_lt_zero j)
  | x :: r, ps, D, d, e, hm, j, h => by
    unfold docM at hm
    split at hm
    case isFalse => cases hm
    case isTrue hk =>
    cases j with
    | zero =>
      cases ps with
      | nil => exact hk
      | cons p t => exact hk
    | succ j =>
      have := docM_ok r _ _ _ hm j (by simpa using h)
      cases ps with
      | nil => simpa using this
      | cons p t => simpa using this
theorem docE_ok {l : List NdD} {tests : Bool} (h : docE l tests = 0) : ∃ q, stkP 0 l [] = some ([q], plcS l) ∧ SoP l (plcS l) ∧ 0 < l.length ∧ l.length ≤ 300 ∧ (tests = true → sortN (opA l (l.length - 1)) = 4 ∨ sortN (opA l (l.length - 1)) = 5) ∧ (tests = false → sortN (opA l (l.length - 1)) = 1) := by
  unfold docE at h
  split at h
  · cases h
  rename_i h300
  unfold plcS
  cases hs : stkP 0 l [] with
  | none => rw [hs] at h; cases h
  | some p =>
    obtain ⟨H, ps⟩ := p
    rw [hs] at h
    have h2 : (if H.length ≠ 1 then 2 else docT tests (opA l (l.length - 1)) (docM l l ps [] 0)) = 0 := h
    split at h2
    · cases h2
    rename_i hH
    obtain ⟨q, rfl⟩ : ∃ q, H = [q] := by
      match H, hH with
      | [q], _ => exact ⟨q, rfl⟩
      | [], h => exact absurd (by simp) h
      | _ :: _ :: _, h => exact absurd (by simp) h
    have hl0 : 0 < l.length := by
      cases l with
      | nil =>
        have : some (([] : List Nat), ([] : List (List Nat))) = some ([q], ps) := hs
        simp at this
      | cons _ _ => simp
    cases hm : docM l l ps [] 0 with
    | none => rw [hm] at h2; cases h2
    | some e =>
      rw [hm] at h2
      unfold docT at h2
      simp only at h2
      split at h2
      · cases h2
      rename_i hso
      refine ⟨q, rfl, fun i hi => ?_, hl0, by omega, fun ht => ?_, fun ht => ?_⟩
      · have h3 := docM_ok l ps [] 0 hm i hi
        unfold okD at h3
        rw [Bool.and_eq_true, Bool.and_eq_true] at h3
        rw [nd_op hi]
        exact h3.2.1
      · subst ht
        by_cases h4 : sortN (opA l (l.length - 1)) = 4
        · exact .inl h4
        · by_cases h5 : sortN (opA l (l.length - 1)) = 5
          · exact .inr h5
          · exact absurd (.inl ⟨rfl, h4, h5⟩) hso
      · subst ht
        by_cases h1 : sortN (opA l (l.length - 1)) = 1
        · exact h1
        · exact absurd (.inr ⟨rfl, h1⟩) hso
theorem run_whole {l : List NdD} {tests : Bool} {sy : List SyD} (hsy : ∀ x ∈ sy, FmT x.t) (h : docE l tests = 0) :
    (runM sy l []).2 = (typD l (plcS l) sy l []).2 ∧ ((runM sy l []).2 ≠ 0 → (runM sy l []).1 = ((0, 0), [])) ∧
    ((runM sy l []).2 = 0 → (runM sy l []).1.1 = tyA (typD l (plcS l) sy l []).1 (l.length - 1) ∧ (typD l (plcS l) sy l []).1.length = l.length ∧ (∀ t ∈ (typD l (plcS l) sy l []).1, FmT t) ∧
      (tests = true → ∀ t, fitB (runM sy l []).1.2 t = fitD l (plcS l) (typD l (plcS l) sy l []).1 3 (l.length - 1) t)) := by
  obtain ⟨q, hs, hS, hl0, -, hso, -⟩ := docE_ok h
  obtain ⟨L, hTr, hch⟩ := tree_of hs
  have hq : q = l.length - 1 := by
    have h1 := hch.2.2
    have h2 : q + 1 = l.length := h1
    omega
  obtain ⟨h1, h2, h3⟩ := run_types (sy := sy) hTr hS hsy l 0 [] [] [] rfl (Nat.zero_le _) rfl ⟨rfl, fun i hi => absurd hi (Nat.not_lt_zero i)⟩ (by simp) (by simp) hs (fun j => by rw [Nat.zero_add])
  refine ⟨h1, fun h => (h2 h).1, fun h0 => ?_⟩
  obtain ⟨A, hA, hTl, hF, he⟩ := h3 h0
  have he2 : (runM sy l []).1 = endM (typD l (plcS l) sy l []).1 A [q] := he
  rw [he2]
  subst hq
  refine ⟨rfl, hTl, hF, fun ht t => ?_⟩
  show fitB (akA A (l.length - 1)) t = _
  rcases hso ht with h4 | h5
  · exact tfit_some hTr hS hA (by omega) (by omega) (sort_four h4) 1 t
  · have hop : opA l (l.length - 1) = 29 ∨ opA l (l.length - 1) = 37 := by
      have hk := (hTr.kids (l.length - 1) (by omega)).1
      have := takes_op hk
      rw [nd_op (by omega)] at h5 ⊢
      unfold sortN at h5
      repeat' split at h5
      all_goals omega
    rcases hop with h6 | h6
    · exact tfit_any hTr hA (by omega) (by omega) h6 2 t
    · exact tfit_not hTr hS hA (by omega) (by omega) h6 0 t
end Go.Proofs.YtalahkincccffaaGreatDoor
