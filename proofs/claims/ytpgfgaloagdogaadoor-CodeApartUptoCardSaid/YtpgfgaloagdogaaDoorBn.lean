/-
  The machine's check, as plain functions: the document's way with lists of all ways to a place, the program's with a map; the two come to the same.
  What an instruction takes off, whether it asks for tests, whether its A may be so, where it leads: the program's way.
-/
import Derived.Test.YtpgfgaloagdogaaDoorRows
import Derived.Test.YtpgfgaloagdogaaDoorExt
namespace Go.Proofs.YtpgfgaloagdogaaDoor
namespace Vm

/-- the instructions whose A bears a count -/
abbrev cnt (op : Int) : Prop := op = 25 ∨ op = 26 ∨ op = 27 ∨ op = 36
/-- those whose A is a place -/
abbrev jmp (op : Int) : Prop := op = 101 ∨ op = 102
/-- what an instruction takes off, puts on, how entered turns, what it asks to be entered -/
def takes (op a : Int) : Option (Int × Int × Int × Int) :=
  if a < 0 ∨ (op = 36 ∧ a < 1) ∨ (op = 25 ∧ 8 < a) then none
  else if ¬ cnt op ∧ ¬ jmp op ∧ a ≠ 0 then none
  else if cnt op then some (a, 1, 0, 0)
  else if (1 ≤ op ∧ op ≤ 7) ∨ op = 29 then some (0, 1, 0, 0)
  else if op = 8 ∨ op = 24 ∨ op = 28 ∨ op = 37 then some (1, 1, 0, 0)
  else if 9 ≤ op ∧ op ≤ 20 then some (2, 1, 0, 0)
  else if op = 22 then some (3, 1, 0, 0)
  else if 30 ≤ op ∧ op ≤ 34 then some (1, 1, 0, 1)
  else if op = 35 then some (2, 1, 0, 1)
  else if op = 101 then some (0, 0, 0, 0)
  else if op = 102 then some (1, 0, 0, 0)
  else if op = 103 then some (1, 0, 1, 0)
  else if op = 104 then some (0, 0, -1, 1)
  else none
/-- a height, and how much is entered -/
abbrev St := Int × Int
/-- a place is reached, and alike on all ways -/
def alike : List St → Bool
  | [] => false
  | x :: r => r.all (· == x)
/-- where an instruction leads -/
def goals (op a : Int) (i : Nat) : List Nat := if op = 101 then [a.toNat] else if op = 102 then [i + 1, a.toNat] else [i + 1]
/-- the ways, with one more for each goal (the jump's first) -/
def push (W : Nat → List St) (op a : Int) (i : Nat) (s : St) : Nat → List St := fun j => W j ++ ((if jmp op ∧ j = a.toNat then [s] else []) ++ (if op ≠ 101 ∧ j = i + 1 then [s] else []))
/-- what it finds -/
abbrev okAt (len : Nat) (op a : Int) (i : Nat) (t : Int × Int × Int × Int) (s : St) : Prop := t.1 ≤ s.1 ∧ t.2.2.2 ≤ s.2 ∧ (jmp op → (i : Int) < a ∧ a ≤ len)
abbrev nxt (t : Int × Int × Int × Int) (s : St) : St := (s.1 - t.1 + t.2.1, s.2 + t.2.2.1)
/-- the document's way -/
def docR (len : Nat) (fin : Int) : List (Int × Int) → Nat → (Nat → List St) → Int → Option Int
  | [], i, W, most => if alike (W i) = true ∧ (W i).head? = some (1, fin) then some (max most 1) else none
  | (op, a) :: r, i, W, most =>
    match takes op a with
    | none => none
    | some t => if alike (W i) = true ∧ okAt len op a i t ((W i).headD (0, 0)) then docR len fin r (i + 1) (push W op a i (nxt t ((W i).headD (0, 0)))) (max most ((W i).headD (0, 0)).1) else none
/-- all goals may be reached so -/
abbrev fit (m : Nat → Option St) (G : List Nat) (s : St) : Prop := ∀ j ∈ G, m j = none ∨ m j = some s
def put (m : Nat → Option St) (G : List Nat) (s : St) : Nat → Option St := fun j => if j ∈ G then some s else m j
open Classical in
/-- the program's way -/
noncomputable def progR (len : Nat) (fin : Int) : List (Int × Int) → Nat → (Nat → Option St) → Int → Option Int
  | [], i, m, hi => if m i = some (1, fin) then some hi else none
  | (op, a) :: r, i, m, hi =>
    match takes op a, m i with
    | some t, some s => if okAt len op a i t s ∧ fit m (goals op a i) (nxt t s) then progR len fin r (i + 1) (put m (goals op a i) (nxt t s)) (max hi (nxt t s).1) else none
    | _, _ => none

theorem alike_head {l : List St} (h : alike l = true) : ∃ s, l.head? = some s ∧ l.headD (0, 0) = s ∧ ∀ x ∈ l, x = s := by
  cases l with
  | nil => cases h
  | cons s r =>
    refine ⟨s, rfl, rfl, fun x hx => ?_⟩
    rcases List.mem_cons.1 hx with rfl | hx
    · rfl
    · have := List.all_eq_true.1 h x hx
      simpa using this
theorem alike_two {l : List St} {x y : St} (hx : x ∈ l) (hy : y ∈ l) (hne : x ≠ y) : alike l = false := by
  cases h : alike l with
  | false => rfl
  | true =>
    obtain ⟨s, -, -, hs⟩ := alike_head h
    exact absurd ((hs x hx).trans (hs y hy).symm) hne
theorem alike_of {l : List St} {s : St} (h0 : l ≠ []) (h : ∀ x ∈ l, x = s) : alike l = true ∧ l.head? = some s ∧ l.headD (0, 0) = s := by
  cases l with
  | nil => exact absurd rfl h0
  | cons a r =>
    have ha := h a (by simp)
    subst ha
    refine ⟨List.all_eq_true.2 fun x hx => ?_, rfl, rfl⟩
    have := h x (by simp [hx])
    simpa using this
/-- where two ways differ at a place ahead, all is refused -/
theorem doc_conf (len : Nat) (fin : Int) : ∀ (r : List (Int × Int)) (i : Nat) (W : Nat → List St) (most : Int) (j : Nat) (x y : St), i + r.length = len → i ≤ j → j ≤ len → x ∈ W j → y ∈ W j → x ≠ y → docR len fin r i W most = none
  | [], i, W, most, j, x, y, hl, h1, h2, hx, hy, hne => by
    obtain rfl : i = j := by simp at hl; omega
    unfold docR
    rw [alike_two hx hy hne]
    simp
  | (op, a) :: r, i, W, most, j, x, y, hl, h1, h2, hx, hy, hne => by
    unfold docR
    cases takes op a with
    | none => rfl
    | some t =>
      simp only
      by_cases hj : i = j
      · subst hj
        rw [alike_two hx hy hne]
        simp
      · split
        · exact doc_conf len fin r (i + 1) _ _ j x y (by simp at hl; omega) (by omega) h2 (List.mem_append_left _ hx) (List.mem_append_left _ hy) hne
        · rfl
/-- the map and the lists of ways say the same of the places ahead -/
structure Sim (len : Nat) (i : Nat) (m : Nat → Option St) (W : Nat → List St) (hi most : Int) : Prop where
  all : ∀ j, i ≤ j → (m j = none ∧ W j = []) ∨ ∃ s, m j = some s ∧ W j ≠ [] ∧ ∀ x ∈ W j, x = s
  far : ∀ j s, m j = some s → j ≤ len
  low : most ≤ hi
  top : ∀ j s, i ≤ j → m j = some s → s.1 ≤ hi
  some : hi = most ∨ ∃ j s, i ≤ j ∧ m j = some s ∧ s.1 = hi
theorem goals_ne (op a : Int) (i : Nat) : goals op a i ≠ [] := by
  unfold goals; split
  · simp
  · split <;> simp
theorem mem_goals {op a : Int} {i j : Nat} : j ∈ goals op a i ↔ (jmp op ∧ j = a.toNat) ∨ (op ≠ 101 ∧ j = i + 1) := by
  unfold goals jmp
  by_cases h1 : op = 101
  · simp [h1]
  · rw [if_neg h1]
    by_cases h2 : op = 102
    · simp [h2]; omega
    · simp [h1, h2]
theorem push_goal {W : Nat → List St} {op a : Int} {i j : Nat} {s : St} (h : j ∈ goals op a i) : ∃ r, r ≠ [] ∧ (∀ x ∈ r, x = s) ∧ push W op a i s j = W j ++ r := by
  refine ⟨_, ?_, ?_, rfl⟩
  · rcases mem_goals.1 h with h | h
    · rw [if_pos h]; simp
    · rw [if_pos h]; simp
  · intro x hx
    rcases List.mem_append.1 hx with h | h
    · split at h
      · simpa using h
      · cases h
    · split at h
      · simpa using h
      · cases h
theorem push_other {W : Nat → List St} {op a : Int} {i j : Nat} {s : St} (h : j ∉ goals op a i) : push W op a i s j = W j := by
  have := fun h2 => h (mem_goals.2 h2)
  unfold push
  rw [if_neg (fun h2 => this (.inl h2)), if_neg (fun h2 => this (.inr h2))]
  simp
theorem goals_in {len : Nat} {op a : Int} {i j : Nat} (h : j ∈ goals op a i) (hi : i < len) (ha : jmp op → (i : Int) < a ∧ a ≤ len) : i + 1 ≤ j ∧ j ≤ len := by
  rcases mem_goals.1 h with ⟨h1, rfl⟩ | ⟨h1, rfl⟩
  · have := ha h1; omega
  · omega
theorem sim_run (len : Nat) (fin : Int) : ∀ (r : List (Int × Int)) (i : Nat) (m : Nat → Option St) (W : Nat → List St) (hi most : Int), i + r.length = len → Sim len i m W hi most → progR len fin r i m hi = docR len fin r i W most
  | [], i, m, W, hi, most, hl, h => by
    obtain rfl : i = len := by simpa using hl
    unfold progR docR
    rcases h.all i (Nat.le_refl _) with ⟨h1, h2⟩ | ⟨s, h1, h2, h3⟩
    · rw [h1, h2]; simp [alike]
    · obtain ⟨ha, hh, -⟩ := alike_of h2 h3
      rw [h1, ha, hh]
      by_cases hs : s = (1, fin)
      · subst hs
        rw [if_pos rfl, if_pos ⟨rfl, rfl⟩]
        congr 1
        have ht := h.top i _ (Nat.le_refl _) h1
        have hlo := h.low
        rcases h.some with e | ⟨j, s, h4, h5, h6⟩
        · simp only at ht; omega
        · obtain rfl : j = i := by have := h.far j s h5; omega
          rw [h1] at h5
          cases h5
          simp only at ht h6; omega
      · rw [if_neg (fun e => hs (Option.some.inj e)), if_neg (fun e => hs (Option.some.inj e.2))]
  | (op, a) :: r, i, m, W, hi, most, hl, h => by
    have hil : i < len := by simp at hl; omega
    unfold progR docR
    cases ht : takes op a with
    | none => rfl
    | some t =>
      rcases h.all i (Nat.le_refl _) with ⟨h1, h2⟩ | ⟨s, h1, h2, h3⟩
      · rw [h1, h2]; simp [alike]
      · obtain ⟨ha, hh, hd⟩ := alike_of h2 h3
        rw [h1, ha, hd]
        show (if okAt len op a i t s ∧ fit m (goals op a i) (nxt t s) then progR len fin r (i + 1) (put m (goals op a i) (nxt t s)) (max hi (nxt t s).1) else none) = (if true = true ∧ okAt len op a i t s then docR len fin r (i + 1) (push W op a i (nxt t s)) (max most s.1) else none)
        by_cases hok : okAt len op a i t s
        · rw [if_pos (show true = true ∧ okAt len op a i t s from ⟨rfl, hok⟩)]
          by_cases hf : fit m (goals op a i) (nxt t s)
          · rw [if_pos ⟨hok, hf⟩]
            refine sim_run len fin r (i + 1) _ _ _ _ (by simp at hl; omega) ⟨fun j hj => ?_, fun j u hu => ?_, ?_, fun j u hj hu => ?_, ?_⟩
            · unfold put
              by_cases hg : j ∈ goals op a i
              · rw [if_pos hg]
                obtain ⟨q, hq0, hq, e⟩ := push_goal (W := W) (s := nxt t s) hg
                refine .inr ⟨_, rfl, by rw [e]; simp [hq0], fun x hx => ?_⟩
                rw [e] at hx
                rcases List.mem_append.1 hx with hx | hx
                · rcases h.all j (by omega) with ⟨h4, h5⟩ | ⟨u, h4, h5, h6⟩
                  · rw [h5] at hx; cases hx
                  · rcases hf j hg with h7 | h7
                    · rw [h4] at h7; cases h7
                    · rw [h4] at h7
                      rw [h6 x hx, Option.some.inj h7]
                · exact hq x hx
              · rw [if_neg hg, push_other hg]
                exact h.all j (by omega)
            · unfold put at hu
              by_cases hg : j ∈ goals op a i
              · exact (goals_in hg hil hok.2.2).2
              · rw [if_neg hg] at hu
                exact h.far j u hu
            · have := h.top i s (Nat.le_refl _) h1
              have := h.low
              omega
            · unfold put at hu
              by_cases hg : j ∈ goals op a i
              · rw [if_pos hg] at hu
                cases hu
                exact Int.le_max_right _ _
              · rw [if_neg hg] at hu
                have := h.top j u (by omega) hu
                omega
            · have hti := h.top i s (Nat.le_refl _) h1
              have hlo := h.low
              by_cases hw : hi ≤ (nxt t s).1
              · obtain ⟨j, hj⟩ := List.exists_mem_of_ne_nil _ (goals_ne op a i)
                exact .inr ⟨j, nxt t s, (goals_in hj hil hok.2.2).1, by unfold put; rw [if_pos hj], by omega⟩
              · rcases h.some with e | ⟨j, u, h4, h5, h6⟩
                · exact .inl (by omega)
                · by_cases hji : j = i
                  · subst hji
                    rw [h1] at h5; cases h5
                    exact .inl (by omega)
                  · refine .inr ⟨j, u, by omega, ?_, by omega⟩
                    unfold put
                    by_cases hg : j ∈ goals op a i
                    · rw [if_pos hg]
                      rcases hf j hg with h7 | h7
                      · rw [h5] at h7; cases h7
                      · rw [← h7, h5]
                    · rw [if_neg hg]; exact h5
          · rw [if_neg (fun e => hf e.2)]
            symm
            obtain ⟨j, hj⟩ := Classical.not_forall.1 hf
            obtain ⟨hg, hj⟩ := Classical.not_imp.1 hj
            obtain ⟨q, hq0, hq, e⟩ := push_goal (W := W) (s := nxt t s) hg
            rcases h.all j (by have := (goals_in hg hil hok.2.2).1; omega) with ⟨h4, h5⟩ | ⟨u, h4, h5, h6⟩
            · exact absurd (.inl h4) hj
            · obtain ⟨x, hx⟩ := List.exists_mem_of_ne_nil _ h5
              obtain ⟨y, hy⟩ := List.exists_mem_of_ne_nil _ hq0
              refine doc_conf len fin r (i + 1) _ _ j x y (by simp at hl; omega) (goals_in hg hil hok.2.2).1 (goals_in hg hil hok.2.2).2 (by rw [e]; exact List.mem_append_left _ hx) (by rw [e]; exact List.mem_append_right _ hy) fun exy => hj (.inr ?_)
              rw [h4, ← h6 x hx, exy, hq y hy]
        · rw [if_neg (fun e => hok e.1), if_neg (fun e => hok e.2)]
/-- where all begins -/
def m0 (fin : Int) : Nat → Option St := fun j => if j = 0 then some (0, fin) else none
def W0 (fin : Int) : Nat → List St := fun j => if j = 0 then [(0, fin)] else []
theorem same_run (fin : Int) (l : List (Int × Int)) : progR l.length fin l 0 (m0 fin) 0 = docR l.length fin l 0 (W0 fin) 0 := by
  refine sim_run _ fin l 0 _ _ 0 0 (by omega) ⟨fun j _ => ?_, fun j s hs => ?_, Int.le_refl _, fun j s _ hs => ?_, .inl rfl⟩
  · unfold m0 W0
    by_cases e : j = 0
    · subst e; exact .inr ⟨_, rfl, by simp, by simp⟩
    · rw [if_neg e, if_neg e]; exact .inl ⟨rfl, rfl⟩
  · unfold m0 at hs
    split at hs
    · omega
    · cases hs
  · unfold m0 at hs
    split at hs
    · cases hs; exact Int.le_refl _
    · cases hs
end Vm
end Go.Proofs.YtpgfgaloagdogaaDoor
namespace Go.Proofs.YtpgfgaloagdogaaDoor
open Go.RowKit Vm
attribute [local go_sem] setCell_drewN cell?_ext frozen?_ext shape?_ext setCell_ext lt_1' ne_1' en_1' le_1' lt_2' ne_2' en_2' le_2' lt_3' ne_3' en_3' le_3' lt_4' ne_4' en_4' le_4' lt_5' ne_5' en_5' le_5' lt_6' ne_6' en_6' le_6' lt_7' ne_7' en_7' le_7' lt_8' ne_8' en_8' le_8' lt_9' ne_9' en_9' le_9' lt_10' ne_10' en_10' le_10' lt_11' ne_11' en_11' le_11' lt_12' ne_12' en_12' le_12'

/-- an instruction as a value -/
abbrev InsV (op a : Int) (t : ByteArray) (neg : Bool) (h l s day : Int) : Value := .agg #[.int .i64 op, .int .i64 a, .string t, .bool neg, .int .u64 h, .int .u64 l, .int .i64 s, .int .i64 day]
/-- what it takes off -/
def offN (op a : Int) : Option Int :=
  if cnt op then some a
  else if (1 ≤ op ∧ op ≤ 7) ∨ op = 29 ∨ op = 101 ∨ op = 104 then some 0
  else if op = 8 ∨ op = 24 ∨ op = 28 ∨ op = 37 ∨ (30 ≤ op ∧ op ≤ 34) ∨ op = 102 ∨ op = 103 then some 1
  else if (9 ≤ op ∧ op ≤ 20) ∨ op = 35 then some 2
  else if op = 22 then some 3
  else none
abbrev asks (op : Int) : Prop := (30 ≤ op ∧ op ≤ 35) ∨ op = 104
/-- may its A be so? -/
abbrev okA (op a at_ len : Int) : Prop := if op = 25 then 0 ≤ a ∧ a ≤ 8 else if op = 26 ∨ op = 27 then 0 ≤ a else if op = 36 then 1 ≤ a else if jmp op then at_ < a ∧ a ≤ len else a = 0
set_option maxRecDepth 100000 in
set_option maxHeartbeats 4000000 in
theorem pops_any (op a : Int) (t : ByteArray) (neg : Bool) (h l s day : Int) (w : World) :
    Calls Tryd.prog 54 #[InsV op a t neg h l s day] w fun e w' => e = .returned (.tuple #[.int .i64 ((offN op a).getD 0), .bool (offN op a).isSome]) ∧ Below w.heap.size w w' := by
  obtain ⟨r, hr⟩ : ∃ r, r = offN op a := ⟨_, rfl⟩
  have HR := Lib.hid hr
  rw [← hr]
  clear hr
  go_enter Tryd.func54, Tryd.ntmps54
  go_wp2
  all_goals
    go_ret2
    refine ⟨?_, by (repeat' (first | (with_reducible exact Below.refl _ _) | (with_reducible assumption) | (with_reducible refine Below.alloc ?_ ?_ _) | (with_reducible refine below_drewN ?_ _) | (with_reducible refine below_drew ?_) | (with_reducible refine below_ext ?_ ?_ _ _) | (with_reducible refine Below.setCell ?_ ?_ _) | (simp; done) | (simp; omega) | omega))⟩
    rw [HR.out]
    first
      | (simp_all [offN, cnt]; done)
      | (simp only [beq_eq_false_iff_ne, ne_eq] at *; rw [show offN op a = none by unfold offN cnt; rw [if_neg (by omega), if_neg (by omega), if_neg (by omega), if_neg (by omega), if_neg (by omega)]]; rfl)
theorem inTests_any (op : Int) (w : World) : Calls Tryd.prog 60 #[.int .i64 op] w fun e w' => e = .returned (.bool (decide (asks op))) ∧ w' = w := by
  obtain ⟨r, hr⟩ : ∃ r, r = decide (asks op) := ⟨_, rfl⟩
  have HR := Lib.hid hr
  rw [← hr]
  clear hr
  go_enter Tryd.func60, Tryd.ntmps60
  go_wp2
  all_goals
    go_ret
    refine ⟨?_, rfl⟩
    rw [HR.out]
    first
      | (simp_all [asks]; done)
      | (simp only [beq_eq_false_iff_ne, ne_eq] at *; rw [decide_eq_false (show ¬ asks op by unfold asks; omega)]; rfl)
theorem cdallowed_any (op a at_ len : Int) (t : ByteArray) (neg : Bool) (h l s day : Int) (w : World) :
    Calls Tryd.prog 44 #[InsV op a t neg h l s day, .int .i64 at_, .int .i64 len] w fun e w' => e = .returned (.bool (decide (okA op a at_ len))) ∧ Below w.heap.size w w' := by
  obtain ⟨r, hr⟩ : ∃ r, r = decide (okA op a at_ len) := ⟨_, rfl⟩
  have HR := Lib.hid hr
  rw [← hr]
  clear hr
  by_cases h1 : 0 ≤ a <;> by_cases h2 : at_ < a
  all_goals
    go_enter Tryd.func44, Tryd.ntmps44
    go_wp2
    all_goals
      go_ret
      refine ⟨?_, by (repeat' (first | (with_reducible exact Below.refl _ _) | (with_reducible assumption) | (with_reducible refine Below.alloc ?_ ?_ _) | (with_reducible refine below_drewN ?_ _) | (with_reducible refine below_drew ?_) | (with_reducible refine below_ext ?_ ?_ _ _) | (with_reducible refine Below.setCell ?_ ?_ _) | (simp; done) | (simp; omega) | omega))⟩
      rw [HR.out]
      clear HR
      simp_all [okA, jmp] <;> first | omega | (by_cases hz : a = 0 <;> simp [hz])
end Go.Proofs.YtpgfgaloagdogaaDoor
