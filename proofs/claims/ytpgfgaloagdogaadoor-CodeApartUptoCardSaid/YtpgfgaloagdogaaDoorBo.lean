/-
  What is compiled is sound: plain.
  What is compiled is undone to the same nodes: plain.
-/
import Derived.Test.YtpgfgaloagdogaaDoorTreA
import Derived.Test.YtpgfgaloagdogaaDoorBn
import Derived.Test.YtpgfgaloagdogaaDoorNodU
namespace Go.Proofs.YtpgfgaloagdogaaDoor
open Go.RowKit Num Word Txt

/-! ### what is compiled is sound -/
open Vm
/-- the parts of each node have the sorts that are wanted -/
def Srt (l : List NdD) (P : List (List Nat)) : Prop := ∀ i, i < l.length → sortsB l (ndA l i).op 0 (P.getD i []) = true
theorem op_at (l : List NdD) {i : Nat} (hi : i < l.length) : opA l i = (ndA l i).op := by
  rw [nd_at hi]; unfold opA; rw [List.getElem?_eq_getElem hi]; rfl
theorem prog_one {len : Nat} {fin : Int} {op a : Int} {r : List (Int × Int)} {i : Nat} {m : Nat → Option St} {hi : Int} {s : St} {p q t u : Int} (ht : takes op a = some (p, q, t, u)) (hs : m i = some s) (hj : ¬ jmp op) (h1 : p ≤ s.1) (h2 : u ≤ s.2) (hf : m (i + 1) = none ∨ m (i + 1) = some (s.1 - p + q, s.2 + t)) :
    progR len fin ((op, a) :: r) i m hi = progR len fin r (i + 1) (put m [i + 1] (s.1 - p + q, s.2 + t)) (max hi (s.1 - p + q)) := by
  have hg : goals op a i = [i + 1] := by
    unfold goals; rw [if_neg (fun h => hj (.inl h)), if_neg (fun h => hj (.inr h))]
  show (match takes op a, m i with
    | some t, some s => if okAt len op a i t s ∧ fit m (goals op a i) (nxt t s) then progR len fin r (i + 1) (put m (goals op a i) (nxt t s)) (max hi (nxt t s).1) else none
    | _, _ => none) = _
  rw [ht, hs]
  simp only
  rw [if_pos ⟨⟨h1, h2, fun h => absurd h hj⟩, by rw [hg]; intro j hj2; rw [List.mem_singleton] at hj2; subst hj2; exact hf⟩, hg]
/-- from a place to another one: what the map says there, and beyond; how high it was -/
structure Ran (len : Nat) (fin : Int) (c : List (Int × Int)) (fr : Nat) (m : Nat → Option St) (hi : Int) (en : Nat) (s : St) (top : Int) : Prop where
  ran : ∃ m' hi', (∀ R, progR len fin (c ++ R) fr m hi = progR len fin R en m' hi') ∧ m' en = some s ∧ (∀ j, en < j → m' j = m j) ∧ hi ≤ hi' ∧ s.1 ≤ hi' ∧ hi' ≤ max hi top
theorem put_at (m : Nat → Option St) (i : Nat) (s : St) : put m [i] s i = some s := by unfold put; rw [if_pos (by simp)]
theorem put_off (m : Nat → Option St) (i j : Nat) (s : St) (h : j ≠ i) : put m [i] s j = m j := by unfold put; rw [if_neg (by simpa using h)]
theorem ran_one {len : Nat} {fin : Int} {op a : Int} {i : Nat} {m : Nat → Option St} {hi : Int} {s : St} {p q t u : Int} (ht : takes op a = some (p, q, t, u)) (hs : m i = some s) (hj : ¬ jmp op) (h1 : p ≤ s.1) (h2 : u ≤ s.2) (hf : m (i + 1) = none ∨ m (i + 1) = some (s.1 - p + q, s.2 + t)) {top : Int} (htop : s.1 - p + q ≤ top) :
    Ran len fin [(op, a)] i m hi (i + 1) (s.1 - p + q, s.2 + t) top :=
  ⟨_, _, fun R => prog_one ht hs hj h1 h2 hf, put_at _ _ _, fun j hj => put_off _ _ _ _ (by omega), by omega, by simp only; omega, by omega⟩
theorem Ran.one {len : Nat} {fin : Int} {c : List (Int × Int)} {fr en : Nat} {m : Nat → Option St} {hi top : Int} {s : St} (h : Ran len fin c fr m hi en s top) {op a : Int} {p q t u : Int} (ht : takes op a = some (p, q, t, u)) (hj : ¬ jmp op) (h1 : p ≤ s.1) (h2 : u ≤ s.2) (hf : m (en + 1) = none ∨ m (en + 1) = some (s.1 - p + q, s.2 + t)) {top' : Int} (htop : s.1 - p + q ≤ top') (ht2 : top ≤ top') :
    Ran len fin (c ++ [(op, a)]) fr m hi (en + 1) (s.1 - p + q, s.2 + t) top' := by
  obtain ⟨m1, hi1, e1, hm1, hf1, hl1, hs1, hu1⟩ := h.ran
  obtain ⟨m2, hi2, e2, hm2, hf2, hl2, hs2, hu2⟩ := (ran_one (len := len) (fin := fin) (hi := hi1) ht hm1 hj h1 h2 (by rw [hf1 _ (by omega)]; exact hf) htop).ran
  exact ⟨m2, hi2, fun R => by rw [List.append_assoc, e1]; exact e2 R, hm2, fun j hj => by rw [hf2 j hj, hf1 j (by omega)], by omega, hs2, by omega⟩
theorem Ran.two {len : Nat} {fin : Int} {c c2 : List (Int × Int)} {fr en to2 : Nat} {m : Nat → Option St} {hi top top2 : Int} {s s2 : St} (h : Ran len fin c fr m hi en s top)
    (h2 : ∀ m1 hi1, m1 en = some s → (∀ j, en < j → m1 j = m j) → Ran len fin c2 en m1 hi1 to2 s2 top2) (hto : en ≤ to2) (ht : top ≤ top2) : Ran len fin (c ++ c2) fr m hi to2 s2 top2 := by
  obtain ⟨m1, hi1, e1, hm1, hf1, hl1, hs1, hu1⟩ := h.ran
  obtain ⟨m2, hi2, e2, hm2, hf2, hl2, hs2, hu2⟩ := (h2 m1 hi1 hm1 hf1).ran
  exact ⟨m2, hi2, fun R => by rw [List.append_assoc, e1]; exact e2 R, hm2, fun j hj => by rw [hf2 j hj, hf1 j (by omega)], by omega, hs2, by omega⟩
/-- what one thing needs, and does -/
def Thg (len : Nat) (fin : Int) (C : Nat → List InsD) (srt : Int) (w : Nat) : Prop := ∀ (fr : Nat) (m : Nat → Option St) (hi hh e : Int), 0 ≤ hh → 0 ≤ e → (3 ≤ srt → 1 ≤ e) → fr + (C fr).length ≤ len → m fr = some (hh, e) →
  (∀ j, fr < j → j < fr + (C fr).length → m j = none) → (m (fr + (C fr).length) = none ∨ m (fr + (C fr).length) = some (hh + 1, e)) → Ran len fin ((C fr).map two) fr m hi (fr + (C fr).length) (hh + 1, e) (hh + w)
set_option maxHeartbeats 2000000 in
theorem takes_ins {op k : Int} (h : takesN op k = true) (h21 : op ≠ 21) (h23 : op ≠ 23) : takes op (if op = 25 ∨ op = 26 ∨ op = 27 ∨ op = 36 then k else 0) = some (k, 1, 0, if 30 ≤ op ∧ op ≤ 35 then 1 else 0) ∧ ¬ jmp op := by
  by_cases hc : cnt op
  · have hk : 0 ≤ k ∧ (op = 36 → 1 ≤ k) ∧ (op = 25 → k ≤ 8) := by
      unfold takesN at h
      unfold cnt at hc
      repeat' split at h
      all_goals first
        | (exfalso; cases h; done)
        | (simp only [Bool.and_eq_true, decide_eq_true_eq] at h; omega)
    rw [if_pos hc]
    unfold takes
    rw [if_neg (by omega), if_neg (fun h => h.1 hc), if_pos hc, if_neg (by unfold cnt at hc; omega)]
    exact ⟨rfl, by unfold cnt at hc; unfold jmp; omega⟩
  · rw [if_neg hc]
    unfold cnt at hc
    have hk : (((1 ≤ op ∧ op ≤ 7) ∨ op = 29) ∧ k = 0) ∨ ((op = 8 ∨ op = 24 ∨ op = 28 ∨ op = 37) ∧ k = 1) ∨ ((30 ≤ op ∧ op ≤ 34) ∧ k = 1) ∨ ((9 ≤ op ∧ op ≤ 20) ∧ k = 2) ∨ (op = 35 ∧ k = 2) ∨ (op = 22 ∧ k = 3) := by
      unfold takesN at h
      repeat' split at h
      all_goals first
        | (exfalso; cases h; done)
        | (simp only [Bool.and_eq_true, decide_eq_true_eq] at h; omega)
    refine ⟨?_, by unfold jmp; omega⟩
    unfold takes
    rw [if_neg (by omega), if_neg (by omega), if_neg hc]
    rcases hk with ⟨h1, rfl⟩ | ⟨h1, rfl⟩ | ⟨h1, rfl⟩ | ⟨h1, rfl⟩ | ⟨h1, rfl⟩ | ⟨h1, rfl⟩
    · rw [if_pos h1, if_neg (by omega)]
    · rw [if_neg (by omega), if_pos h1, if_neg (by omega)]
    · rw [if_neg (by omega), if_neg (by omega), if_neg (by omega), if_neg (by omega), if_pos h1, if_pos (by omega)]
    · rw [if_neg (by omega), if_neg (by omega), if_pos h1, if_neg (by omega)]
    · rw [if_neg (by omega), if_neg (by omega), if_neg (by omega), if_neg (by omega), if_neg (by omega), if_pos h1, if_pos (by omega)]
    · rw [if_neg (by omega), if_neg (by omega), if_neg (by omega), if_pos h1, if_neg (by omega)]
/-- parts one behind the other -/
theorem ran_row {len : Nat} {fin : Int} {l : List NdD} {P : List (List Nat)} {L : List Nat} {f : Nat → Nat → List InsD} {op : Int} (ho : op ≠ 23) {b : Nat} {e : Int} (he : 0 ≤ e) {fr0 : Nat} : ∀ (ps : List Nat) (a k : Nat) (out : List InsD) (m : Nat → Option St) (hi hh : Int),
    Chain L a ps b → (∀ p ∈ ps, ∃ srt, Thg len fin (f p) srt (p + 1 - L.getD p 0) ∧ (3 ≤ srt → 1 ≤ e) ∧ ∀ fr, 0 < (f p fr).length) → 0 ≤ hh → fr0 + (rwF f op fr0 k ps out).length ≤ len → m (fr0 + out.length) = some (hh, e) →
    (∀ j, fr0 + out.length < j → j ≤ fr0 + (rwF f op fr0 k ps out).length → m j = none) →
    ∃ c, rwF f op fr0 k ps out = out ++ c ∧ (ps = [] ∧ c = [] ∨ Ran len fin (c.map two) (fr0 + out.length) m hi (fr0 + (rwF f op fr0 k ps out).length) (hh + ps.length, e) (hh + (b - a : Nat)))
  | [], a, k, out, m, hi, hh, hc, hf, h0, hl, hm, hn => ⟨[], by simp [rwF], .inl ⟨rfl, rfl⟩⟩
  | p :: ps, a, k, out, m, hi, hh, hc, hf, h0, hl, hm, hn => by
    obtain ⟨srt, hth, hse, hpos⟩ := hf p (List.mem_cons_self ..)
    have h1 := hc.1
    have h2 := hc.2.1
    have h3 := hc.2.2.le
    have er : rwF f op fr0 k (p :: ps) out = rwF f op fr0 (k + 1) ps (out ++ f p (fr0 + out.length)) := by
      show rwF f op fr0 (k + 1) ps (if op = 23 ∧ k = 0 then _ else _) = _
      rw [if_neg (fun h => ho h.1)]
    rw [er] at hl hn ⊢
    have hge := rwF_ge (f := f) (op := op) (fr := fr0) ps (k + 1) (out ++ f p (fr0 + out.length))
    have hp2 := hpos (fr0 + out.length)
    rw [List.length_append] at hge
    have r1 := hth (fr0 + out.length) m hi hh e h0 he hse (by omega) hm (fun j h4 h5 => hn j h4 (by omega)) (.inl (hn _ (by omega) (by omega)))
    rw [Nat.add_assoc, ← List.length_append] at r1
    by_cases hps : ps = []
    · subst hps
      have hb : p + 1 = b := hc.2.2
      refine ⟨f p (fr0 + out.length), rfl, .inr ?_⟩
      have e1 : (rwF f op fr0 (k + 1) [] (out ++ f p (fr0 + out.length))).length = (out ++ f p (fr0 + out.length)).length := rfl
      rw [e1, show b - a = p + 1 - L.getD p 0 by omega]
      exact r1
    · obtain ⟨m1, hi1, e1, hm1, hf1, hl1, hs1, hu1⟩ := r1.ran
      obtain ⟨c, hc1, hc2⟩ := ran_row (len := len) (fin := fin) (l := l) (P := P) (L := L) ho he (fr0 := fr0) ps (p + 1) (k + 1) (out ++ f p (fr0 + out.length)) m1 hi1 (hh + 1) hc.2.2 (fun q hq => hf q (List.mem_cons_of_mem _ hq)) (by omega) hl hm1
        (fun j h4 h5 => by rw [hf1 j h4]; exact hn j (by rw [List.length_append] at h4; omega) h5)
      rcases hc2 with ⟨hc2, -⟩ | hc2
      · exact absurd hc2 hps
      · refine ⟨f p (fr0 + out.length) ++ c, by rw [hc1, List.append_assoc], .inr ?_⟩
        obtain ⟨m2, hi2, e2, hm2, hf2, hl2, hs2, hu2⟩ := hc2.ran
        simp only at hs1 hu1 hs2 hu2
        refine ⟨m2, hi2, fun R => by rw [List.map_append, List.append_assoc, e1, e2], ?_, fun j hj => by rw [hf2 j hj, hf1 j (by rw [List.length_append]; omega)], by omega, ?_, by omega⟩
        · rw [hm2]; simp only [List.length_cons, Option.some.injEq, Prod.mk.injEq, and_true]; omega
        · simp only [List.length_cons]; omega
theorem ndA_takes {l : List NdD} {P : List (List Nat)} {L : List Nat} (h : Tr l P L) {i : Nat} (hi : i < l.length) : takesN (ndA l i).op (ndA l i).k = true := (h.len hi).2
/-- the sort of a part is what its node wants -/
theorem srt_at {l : List NdD} {op : Int} : ∀ {ps : List Nat} {j : Nat}, sortsB l op j ps = true → ∀ k (h : k < ps.length), sortN (opA l ps[k]) = wantN op ((j + k : Nat) : Int) + 1
  | [], _, _, _, h => absurd h (Nat.not_lt_zero _)
  | p :: ps, j, hs, k, h => by
    unfold sortsB at hs
    rw [Bool.and_eq_true] at hs
    cases k with
    | zero => have := of_decide_eq_true hs.1; simpa using this
    | succ k =>
      have := srt_at hs.2 k (by simpa using h)
      rw [List.getElem_cons_succ, this]
      congr 2
      omega
theorem want_small {op j : Int} (h36 : op ≠ 36) (h37 : op ≠ 37) (h23 : op ≠ 23 ∨ j ≠ 1) : wantN op j + 1 ≤ 2 := by
  unfold wantN
  repeat' split
  all_goals omega
theorem run_thing {l : List NdD} {P : List (List Nat)} {L : List Nat} (h : Tr l P L) (hS : Srt l P) (len : Nat) (fin : Int) : ∀ n i, i < n → i < l.length → Thg len fin (ofF l P n i) (sortN (ndA l i).op) (i + 1 - L.getD i 0) := by
  intro n
  induction n with
  | zero => intro i hi; exact absurd hi (Nat.not_lt_zero i)
  | succ n ih =>
    intro i hin hi fr m hi0 hh e h0 he hse hlen hm hnone hend
    have hch := h.chain i hi
    have hmem := hch.mem
    have hlow := h.low hi
    have htk := ndA_takes h hi
    have hkl := (h.len hi).1
    have hT : ∀ p ∈ P.getD i [], Thg len fin (ofF l P n p) (sortN (ndA l p).op) (p + 1 - L.getD p 0) := fun p hp => by
      have := hmem p hp
      exact ih p (by omega) (by omega)
    have hpos : ∀ p ∈ P.getD i [], ∀ fr, 0 < (ofF l P n p fr).length := fun p hp fr => by
      obtain ⟨n', rfl⟩ : ∃ n', n = n' + 1 := ⟨n - 1, by have := hmem p hp; omega⟩
      exact ofF_pos n' p fr
    have hsrt : ∀ k (hk : k < (P.getD i []).length), sortN (ndA l (P.getD i [])[k]).op = wantN (ndA l i).op ((k : Nat) : Int) + 1 := fun k hk => by
      have := srt_at (hS i hi) k hk
      rw [op_at l (by have := hmem _ (List.getElem_mem hk); omega), Nat.zero_add] at this
      exact this
    by_cases h21 : (ndA l i).op = 21
    · obtain ⟨a, b, d, e3⟩ := h.if3 hi h21
      rw [ofF_succ, if_pos h21, e3] at hlen hnone hend ⊢
      rw [e3] at hch hT hpos hsrt
      simp only [List.getD_cons_zero, List.getD_cons_succ] at hlen hnone hend ⊢
      have ca := hch.1
      have cb := hch.2.2.1
      have cd := hch.2.2.2.2.1
      have l1 := hch.2.1
      have l2 := hch.2.2.2.1
      have l3 := hch.2.2.2.2.2.1
      have l4 : d + 1 = i := hch.2.2.2.2.2.2
      have sa := hsrt 0 (by simp)
      have sb := hsrt 1 (by simp)
      have sd := hsrt 2 (by simp)
      simp only [List.getElem_cons_zero, List.getElem_cons_succ, h21] at sa sb sd
      have ta := hT a (by simp) fr
      have pa := hpos a (by simp) fr
      unfold ifF at hlen hnone hend ⊢
      generalize hA : ofF l P n a fr = A at *
      have tb := hT b (by simp) (fr + A.length + 1)
      have pb := hpos b (by simp) (fr + A.length + 1)
      generalize hB : ofF l P n b (fr + A.length + 1) = B at *
      have td := hT d (by simp) (fr + A.length + B.length + 2)
      have pd := hpos d (by simp) (fr + A.length + B.length + 2)
      generalize hD : ofF l P n d (fr + A.length + B.length + 2) = D at *
      obtain ⟨T, hT2⟩ : ∃ T, T = fr + A.length + B.length + D.length + 2 := ⟨_, rfl⟩
      have hlT : fr + (A ++ [iC 102 (fr + A.length + B.length + 2 : Nat)] ++ B ++ [iC 101 (fr + A.length + B.length + D.length + 2 : Nat)] ++ D).length = T := by
        simp only [List.length_append, List.length_cons, List.length_nil]; omega
      rw [hlT] at hlen hnone hend ⊢
      have w23 : ∀ j : Int, ¬ (3 : Int) ≤ wantN 21 j + 1 := fun j => by have := want_small (op := 21) (j := j) (by omega) (by omega) (.inl (by omega)); omega
      -- the condition
      obtain ⟨m1, hi1, e1, hm1, hf1, hl1, hs1, hu1⟩ := (ta m hi0 hh e h0 he (fun h => absurd (sa ▸ h) (w23 _)) (by omega) hm (fun j h1 h2 => hnone j h1 (by omega)) (.inl (hnone _ (by omega) (by omega)))).ran
      simp only at hs1
      -- the way past it
      have g2 : goals 102 ((fr + A.length + B.length + 2 : Nat) : Int) (fr + A.length) = [fr + A.length + 1, fr + A.length + B.length + 2] := by
        unfold goals
        rw [if_neg (by omega), if_pos rfl, Int.toNat_natCast]
      have e2 : ∀ R, progR len fin ((102, ((fr + A.length + B.length + 2 : Nat) : Int)) :: R) (fr + A.length) m1 hi1 = progR len fin R (fr + A.length + 1) (put m1 [fr + A.length + 1, fr + A.length + B.length + 2] (hh, e)) (max hi1 hh) := fun R => by
        show (match takes 102 _, m1 (fr + A.length) with
          | some t, some s => if okAt len 102 _ (fr + A.length) t s ∧ fit m1 (goals 102 _ (fr + A.length)) (nxt t s) then progR len fin R (fr + A.length + 1) (put m1 (goals 102 _ (fr + A.length)) (nxt t s)) (max hi1 (nxt t s).1) else none
          | _, _ => none) = _
        have tk : takes 102 ((fr + A.length + B.length + 2 : Nat) : Int) = some (1, 0, 0, 0) := by
          unfold takes
          rw [if_neg (by omega), if_neg (by intro h; exact h.2.1 (.inr rfl)), if_neg (by unfold cnt; omega)]
          simp
        rw [tk, hm1, g2]
        simp only
        rw [if_pos ⟨⟨by simp only; omega, by simp only; omega, fun _ => ⟨by omega, by omega⟩⟩, by
          intro j hj
          simp only [List.mem_cons, List.not_mem_nil, or_false] at hj
          left
          rcases hj with rfl | rfl
          · rw [hf1 _ (by omega)]; exact hnone _ (by omega) (by omega)
          · rw [hf1 _ (by omega)]; exact hnone _ (by omega) (by omega)⟩]
        rw [show nxt (1, 0, 0, 0) (hh + 1, e) = (hh, e) by unfold nxt; simp, show hh + 1 - 1 + 0 = hh by omega]
      obtain ⟨m2, hm2⟩ : ∃ m2, m2 = put m1 [fr + A.length + 1, fr + A.length + B.length + 2] (hh, e) := ⟨_, rfl⟩
      rw [← hm2] at e2
      have m2a : m2 (fr + A.length + 1) = some (hh, e) := by rw [hm2]; unfold put; rw [if_pos (by simp)]
      have m2b : m2 (fr + A.length + B.length + 2) = some (hh, e) := by rw [hm2]; unfold put; rw [if_pos (by simp)]
      have m2c : ∀ j, fr + A.length + 1 < j → j ≠ fr + A.length + B.length + 2 → m2 j = m j := fun j h1 h2 => by
        rw [hm2]; unfold put
        rw [if_neg (by simp only [List.mem_cons, List.not_mem_nil, or_false]; omega), hf1 j (by omega)]
      -- the first choice
      obtain ⟨m3, hi3, e3', hm3, hf3, hl3, hs3, hu3⟩ := (tb m2 (max hi1 hh) hh e h0 he (fun h => absurd (sb ▸ h) (w23 _)) (by omega) m2a (fun j h1 h2 => by rw [m2c j h1 (by omega)]; exact hnone j (by omega) (by omega)) (.inl (by rw [m2c _ (by omega) (by omega)]; exact hnone _ (by omega) (by omega)))).ran
      simp only at hs3
      have hm3' : m3 (fr + A.length + B.length + 1) = some (hh + 1, e) := by rw [show fr + A.length + B.length + 1 = fr + A.length + 1 + B.length by omega]; exact hm3
      have g4 : goals 101 ((T : Nat) : Int) (fr + A.length + B.length + 1) = [T] := by
        unfold goals
        rw [if_pos rfl, Int.toNat_natCast]
      have hmT : m3 T = none ∨ m3 T = some (hh + 1, e) := by
        rw [hf3 _ (by omega), m2c _ (by omega) (by omega)]; exact hend
      have e4 : ∀ R, progR len fin ((101, ((T : Nat) : Int)) :: R) (fr + A.length + B.length + 1) m3 hi3 = progR len fin R (fr + A.length + B.length + 2) (put m3 [T] (hh + 1, e)) (max hi3 (hh + 1)) := fun R => by
        show (match takes 101 _, m3 (fr + A.length + B.length + 1) with
          | some t, some s => if okAt len 101 _ (fr + A.length + B.length + 1) t s ∧ fit m3 (goals 101 _ (fr + A.length + B.length + 1)) (nxt t s) then progR len fin R (fr + A.length + B.length + 1 + 1) (put m3 (goals 101 _ (fr + A.length + B.length + 1)) (nxt t s)) (max hi3 (nxt t s).1) else none
          | _, _ => none) = _
        have tk : takes 101 ((T : Nat) : Int) = some (0, 0, 0, 0) := by
          unfold takes
          rw [if_neg (by omega), if_neg (by intro h; exact h.2.1 (.inl rfl)), if_neg (by unfold cnt; omega)]
          simp
        rw [tk, hm3', g4]
        simp only
        rw [if_pos ⟨⟨by simp only; omega, by simp only; omega, fun _ => ⟨by omega, by omega⟩⟩, by
          intro j hj
          simp only [List.mem_cons, List.not_mem_nil, or_false] at hj
          subst hj
          rw [show nxt (0, 0, 0, 0) (hh + 1, e) = (hh + 1, e) by unfold nxt; simp]
          exact hmT⟩]
        rw [show nxt (0, 0, 0, 0) (hh + 1, e) = (hh + 1, e) by unfold nxt; simp, show hh + 1 - 0 + 0 = hh + 1 by omega]
      obtain ⟨m4, hm4⟩ : ∃ m4, m4 = put m3 [T] (hh + 1, e) := ⟨_, rfl⟩
      rw [← hm4] at e4
      have m4a : m4 (fr + A.length + B.length + 2) = some (hh, e) := by
        rw [hm4, put_off _ _ _ _ (by omega), hf3 _ (by omega), m2b]
      have m4b : m4 T = some (hh + 1, e) := by rw [hm4, put_at]
      have m4c : ∀ j, fr + A.length + B.length + 2 < j → j ≠ T → m4 j = m j := fun j h1 h2 => by
        rw [hm4, put_off _ _ _ _ h2, hf3 _ (by omega), m2c _ (by omega) (by omega)]
      have hdT : fr + A.length + B.length + 2 + D.length = T := by omega
      obtain ⟨m5, hi5, e5, hm5, hf5, hl5, hs5, hu5⟩ := (td m4 (max hi3 (hh + 1)) hh e h0 he (fun h => absurd (sd ▸ h) (w23 _)) (by omega) m4a (fun j h1 h2 => by rw [m4c j h1 (by omega)]; exact hnone j (by omega) (by omega)) (by rw [hdT]; exact .inr m4b)).ran
      simp only at hs5
      rw [hdT] at e5 hm5 hf5
      refine ⟨m5, hi5, fun R => ?_, hm5, fun j hj => by rw [hf5 j hj, m4c j (by omega) (by omega)], by omega, by simp only; omega, by omega⟩
      simp only [List.map_append, List.map_cons, List.append_assoc, List.cons_append, List.nil_append]
      rw [e1]
      show progR len fin ((102, ((fr + A.length + B.length + 2 : Nat) : Int)) :: _) _ _ _ = _
      rw [e2, e3', show fr + A.length + 1 + B.length = fr + A.length + B.length + 1 by omega]
      show progR len fin ((101, ((fr + A.length + B.length + D.length + 2 : Nat) : Int)) :: _) _ _ _ = _
      rw [← hT2, e4, e5]
    · rw [ofF_succ, if_neg h21] at hlen hnone hend ⊢
      by_cases h23 : (ndA l i).op = 23
      · obtain ⟨a, b, e3⟩ := h.in2 hi h23
        rw [if_pos h23, h23, e3] at hlen hnone hend ⊢
        rw [e3] at hch hT hpos hsrt
        have ca := hch.1
        have cb := hch.2.2.1
        have l1 := hch.2.1
        have l2 := hch.2.2.2.1
        have l4 : b + 1 = i := hch.2.2.2.2
        have sa := hsrt 0 (by simp)
        have sb := hsrt 1 (by simp)
        simp only [List.getElem_cons_zero, List.getElem_cons_succ, h23] at sa sb
        have hrow : rwF (ofF l P n) 23 fr 0 [a, b] [] = ofF l P n a fr ++ [iC 103 0] ++ ofF l P n b (fr + (ofF l P n a fr ++ [iC 103 0]).length) := by
          simp [rwF]
        rw [hrow] at hlen hnone hend ⊢
        have ta := hT a (by simp) fr
        have pa := hpos a (by simp) fr
        generalize hA : ofF l P n a fr = A at *
        have hA1 : (A ++ [iC 103 0]).length = A.length + 1 := by simp
        rw [hA1] at hlen hnone hend ⊢
        have tb := hT b (by simp) (fr + (A.length + 1))
        have pb := hpos b (by simp) (fr + (A.length + 1))
        generalize hB : ofF l P n b (fr + (A.length + 1)) = B at *
        have hlT : (A ++ [iC 103 0] ++ B ++ [iC 104 0]).length = A.length + 1 + B.length + 1 := by
          simp only [List.length_append, List.length_cons, List.length_nil]
        rw [hlT] at hlen hnone hend ⊢
        have r1 := ta m hi0 hh e h0 he (fun h => by rw [sa] at h; exact absurd h (by have := want_small (op := 23) (j := 0) (by omega) (by omega) (.inr (by omega)); simp only [Int.natCast_zero] at h ⊢; omega)) (by omega) hm (fun j h1 h2 => hnone j h1 (by omega)) (.inl (hnone _ (by omega) (by omega)))
        have r2 := r1.one (op := 103) (a := 0) (p := 1) (q := 0) (t := 1) (u := 0) (by rfl) (by unfold jmp; omega) (by simp only; omega) (by simp only; omega) (.inl (hnone _ (by omega) (by omega))) (top' := hh + (i + 1 - L.getD i 0 : Nat)) (by simp only; omega) (by omega)
        simp only at r2
        have r3 := r2.two (c2 := B.map two) (to2 := fr + (A.length + 1) + B.length) (s2 := (hh + 1, e + 1)) (top2 := hh + (i + 1 - L.getD i 0 : Nat)) (fun m1 hi1 hm1 hf1 => by
          obtain ⟨m2, hi2, q1, q2, q3, q4, q5, q6⟩ := (tb m1 hi1 hh (e + 1) h0 (by omega) (by omega) (by omega) (by rw [show fr + (A.length + 1) = fr + A.length + 1 by omega, hm1]; simp only [Option.some.injEq, Prod.mk.injEq, and_true]; omega) (fun j h1 h2 => by rw [hf1 j (by omega)]; exact hnone j (by omega) (by omega)) (.inl (by rw [hf1 _ (by omega)]; exact hnone _ (by omega) (by omega)))).ran
          exact ⟨m2, hi2, q1, q2, q3, q4, q5, by omega⟩) (by omega) (by omega)
        have r4 := r3.one (op := 104) (a := 0) (p := 0) (q := 0) (t := -1) (u := 1) (by rfl) (by unfold jmp; omega) (by simp only; omega) (by simp only; omega) (by
          rw [show fr + (A.length + 1) + B.length + 1 = fr + (A.length + 1 + B.length + 1) by omega]
          refine hend.imp id fun h => h.trans ?_
          simp only [Option.some.injEq, Prod.mk.injEq]
          omega) (top' := hh + (i + 1 - L.getD i 0 : Nat)) (by simp only; omega) (by omega)
        obtain ⟨m5, hi5, q1, q2, q3, q4, q5, q6⟩ := r4.ran
        refine ⟨m5, hi5, fun R => ?_, ?_, fun j hj => q3 j (by omega), q4, by simp only at q5 ⊢; omega, by omega⟩
        · have := q1 R
          simp only [List.map_append, List.map_cons, List.map_nil] at this ⊢
          rw [show fr + (A.length + 1 + B.length + 1) = fr + (A.length + 1) + B.length + 1 by omega]
          exact this
        · rw [show fr + (A.length + 1 + B.length + 1) = fr + (A.length + 1) + B.length + 1 by omega, q2]
          simp only [Option.some.injEq, Prod.mk.injEq]
          omega
      · rw [if_neg h23] at hlen hnone hend ⊢
        generalize hr : rwF (ofF l P n) (ndA l i).op fr 0 (P.getD i []) [] = Rw at *
        have hlR : (Rw ++ [insN (ndA l i)]).length = Rw.length + 1 := by simp
        rw [hlR] at hlen hnone hend ⊢
        have htn := takes_ins htk h21 h23
        have hk0 := takes_nn htk
        obtain ⟨c, hc, hrun⟩ := ran_row (len := len) (fin := fin) (l := l) (P := P) (L := L) (f := ofF l P n) (op := (ndA l i).op) h23 (b := i) he (fr0 := fr) (P.getD i []) (L.getD i 0) 0 [] m hi0 hh hch (fun p hp => by
          refine ⟨_, hT p hp, fun h3 => ?_, hpos p hp⟩
          obtain ⟨k, hk, rfl⟩ := List.getElem_of_mem hp
          rw [hsrt k hk] at h3
          refine hse ?_
          have hw := h3
          unfold wantN at hw
          unfold sortN
          repeat' split at hw
          all_goals (repeat' split)
          all_goals omega) h0 (by rw [hr]; omega) hm (fun j h1 h2 => hnone j h1 (by rw [hr] at h2; omega))
        rw [hr] at hc hrun
        rw [List.nil_append] at hc
        subst hc
        have hasks : (if 30 ≤ (ndA l i).op ∧ (ndA l i).op ≤ 35 then (1 : Int) else 0) ≤ e := by
          split
          · rename_i h30
            refine hse ?_
            unfold sortN
            rw [if_neg (by omega), if_neg (by omega), if_pos h30]
            omega
          · exact he
        have hfin : ∀ (m1 : Nat → Option St) (hi1 : Int), m1 (fr + Rw.length) = some (hh + ((P.getD i []).length : Nat), e) → (∀ j, fr + Rw.length < j → m1 j = m j) → Ran len fin [two (insN (ndA l i))] (fr + Rw.length) m1 hi1 (fr + (Rw.length + 1)) (hh + 1, e) (hh + (i + 1 - L.getD i 0 : Nat)) := fun m1 hi1 hm1 hf1 => by
          have := ran_one (len := len) (fin := fin) (hi := hi1) htn.1 hm1 htn.2 (by simp only; omega) hasks (by
            rw [hf1 _ (by omega)]
            refine hend.imp id fun h => h.trans ?_
            simp only [Option.some.injEq, Prod.mk.injEq]
            omega) (top := hh + (i + 1 - L.getD i 0 : Nat)) (by simp only; omega)
          rw [show (hh + 1, e) = ((hh + ((P.getD i []).length : Nat), e).1 - (ndA l i).k + 1, (hh + (((P.getD i []).length : Nat) : Int), e).2 + 0) by
            simp only [Prod.mk.injEq]; omega]
          exact this
        rcases hrun with ⟨h1, h2⟩ | hrun
        · subst h2
          rw [h1] at hfin
          exact hfin m hi0 (by rw [List.length_nil, Nat.add_zero, hm]; simp) (fun j _ => rfl)
        · rw [List.map_append]
          have hw : hh + ((i - L.getD i 0 : Nat) : Int) ≤ hh + ((i + 1 - L.getD i 0 : Nat) : Int) := by omega
          exact hrun.two (c2 := [insN (ndA l i)].map two) (fun m1 hi1 hm1 hf1 => hfin m1 hi1 hm1 hf1) (by omega) hw
end Go.Proofs.YtpgfgaloagdogaaDoor
namespace Go.Proofs.YtpgfgaloagdogaaDoor
open Go.RowKit Num Word Txt

/-! ### what is compiled is undone to the same nodes -/
open Vm
/-- the node of an instruction -/
def nodI (i : InsD) : NdD := ⟨i.op, (offN i.op i.a).getD 0, i.t, i.neg, i.h.toNat * 18446744073709551616 + i.l.toNat, i.s, i.day⟩
def nodIf : NdD := ⟨21, 3, ⟨#[]⟩, false, 0, 0, 0⟩
def nodIn : NdD := ⟨23, 2, ⟨#[]⟩, false, 0, 0, 0⟩
/-- the conditionals that end at a place -/
def flushE (at_ : Nat) : List Int → List NdD → List Int × List NdD
  | [], ns => ([], ns)
  | e :: r, ns => if e = (at_ : Int) then flushE at_ r (ns ++ [nodIf]) else (e :: r, ns)
/-- one instruction -/
def decStep (i : InsD) (E : List Int) (ns : List NdD) : List Int × List NdD :=
  if i.op = 102 ∨ i.op = 103 then (E, ns) else if i.op = 101 then (i.a :: E, ns) else if i.op = 104 then (E, ns ++ [nodIn]) else (E, ns ++ [nodI i])
/-- the program's way back -/
def decP : Nat → List InsD → List Int → List NdD → List NdD
  | at_, [], E, ns => (flushE at_ E ns).2
  | at_, i :: r, E, ns => decP (at_ + 1) r (decStep i (flushE at_ E ns).1 (flushE at_ E ns).2).1 (decStep i (flushE at_ E ns).1 (flushE at_ E ns).2).2
theorem flush_far {at_ : Nat} {E : List Int} (h : ∀ e ∈ E.head?, (at_ : Int) < e) (ns : List NdD) : flushE at_ E ns = (E, ns) := by
  cases E with
  | nil => rfl
  | cons e r =>
    have := h e rfl
    show (if e = (at_ : Int) then _ else _) = _
    rw [if_neg (by omega)]
theorem decP_cons (at_ : Nat) (i : InsD) (r : List InsD) (E : List Int) (ns : List NdD) : decP at_ (i :: r) E ns = decP (at_ + 1) r (decStep i (flushE at_ E ns).1 (flushE at_ E ns).2).1 (decStep i (flushE at_ E ns).1 (flushE at_ E ns).2).2 := rfl
theorem dec_end (at_ : Nat) (R : List InsD) (E : List Int) (ns : List NdD) : decP at_ R ((at_ : Int) :: E) ns = decP at_ R E (ns ++ [nodIf]) := by
  have hf : flushE at_ ((at_ : Int) :: E) ns = flushE at_ E (ns ++ [nodIf]) := by
    show (if (at_ : Int) = (at_ : Int) then _ else _) = _
    rw [if_pos rfl]
  cases R with
  | nil => show (flushE at_ _ _).2 = (flushE at_ _ _).2; rw [hf]
  | cons i r => rw [decP_cons, decP_cons, hf]
theorem dec_cons {at_ : Nat} {i : InsD} {R : List InsD} {E : List Int} {ns : List NdD} (h : ∀ e ∈ E.head?, (at_ : Int) < e) : decP at_ (i :: R) E ns = decP (at_ + 1) R (decStep i E ns).1 (decStep i E ns).2 := by
  rw [decP_cons, flush_far h]
/-- nodes from a place to another one -/
def sgN (l : List NdD) (a b : Nat) : List NdD := (l.drop a).take (b - a)
theorem sgN_join (l : List NdD) {a b c : Nat} (h1 : a ≤ b) (h2 : b ≤ c) : sgN l a b ++ sgN l b c = sgN l a c := by
  unfold sgN
  rw [show c - a = (b - a) + (c - b) by omega, List.take_add, List.drop_drop, show a + (b - a) = b by omega]
theorem sgN_one (l : List NdD) {i : Nat} (h : i < l.length) : sgN l i (i + 1) = [ndA l i] := by
  unfold sgN
  rw [nd_at h, List.drop_eq_getElem_cons h, show i + 1 - i = 1 by omega]
  rfl
theorem sgN_nil (l : List NdD) (a : Nat) : sgN l a a = [] := by unfold sgN; rw [Nat.sub_self]; rfl
/-- the nodes that have no instruction of their own bear nothing -/
def BareN (l : List NdD) : Prop := ∀ i, i < l.length → ((ndA l i).op = 21 → ndA l i = nodIf) ∧ ((ndA l i).op = 23 → ndA l i = nodIn)
theorem nodI_insN {x : NdD} (h : takesN x.op x.k = true) (h21 : x.op ≠ 21) (h23 : x.op ≠ 23) : nodI (insN x) = x := by
  obtain ⟨op, k, t, neg, c, s, day⟩ := x
  simp only at h h21 h23
  have ho : (offN op (if op = 25 ∨ op = 26 ∨ op = 27 ∨ op = 36 then k else 0)).getD 0 = k := by
    have hk := takes_ins h h21 h23
    unfold takes at hk
    have h1 := hk.1
    unfold takesN at h
    unfold offN cnt
    repeat' split at h
    all_goals first
      | (exfalso; cases h; done)
      | (simp only [Bool.and_eq_true, decide_eq_true_eq] at h
         clear hk h1
         repeat' split
         all_goals first
           | rfl
           | (show _ = _; simp only [Option.getD_some]; omega)
           | omega)
  unfold nodI insN
  simp only
  rw [ho]
  have hc : (Int.toNat (hi c : Int)) * 18446744073709551616 + Int.toNat (lo c : Int) = c := by
    rw [Int.toNat_natCast, Int.toNat_natCast]; unfold hi lo; omega
  rw [hc]
section
variable {l : List NdD} {P : List (List Nat)} {L : List Nat}
/-- what one thing's code does on the way back -/
def Dcd (l : List NdD) (C : Nat → List InsD) (a b : Nat) : Prop := ∀ (fr : Nat) (R : List InsD) (E : List Int) (ns : List NdD), (∀ e ∈ E.head?, ((fr + (C fr).length : Nat) : Int) ≤ e) → decP fr (C fr ++ R) E ns = decP (fr + (C fr).length) R E (ns ++ sgN l a b)
theorem dec_row {f : Nat → Nat → List InsD} {op : Int} (ho : op ≠ 23) {b : Nat} {fr0 : Nat} : ∀ (ps : List Nat) (a k : Nat) (out : List InsD) (R : List InsD) (E : List Int) (ns : List NdD),
    Chain L a ps b → (∀ p ∈ ps, Dcd l (f p) (L.getD p 0) (p + 1)) → (∀ p ∈ ps, ∀ fr, 0 < (f p fr).length) → (∀ e ∈ E.head?, ((fr0 + (rwF f op fr0 k ps out).length : Nat) : Int) ≤ e) →
    ∃ c, rwF f op fr0 k ps out = out ++ c ∧ decP (fr0 + out.length) (c ++ R) E ns = decP (fr0 + (rwF f op fr0 k ps out).length) R E (ns ++ sgN l a b)
  | [], a, k, out, R, E, ns, hc, hf, hp, he => ⟨[], by simp [rwF], by
    obtain rfl : a = b := hc
    rw [sgN_nil, List.append_nil]; rfl⟩
  | p :: ps, a, k, out, R, E, ns, hc, hf, hp, he => by
    have h1 := hc.1
    have h2 := hc.2.1
    have h3 := hc.2.2.le
    have er : rwF f op fr0 k (p :: ps) out = rwF f op fr0 (k + 1) ps (out ++ f p (fr0 + out.length)) := by
      show rwF f op fr0 (k + 1) ps (if op = 23 ∧ k = 0 then _ else _) = _
      rw [if_neg (fun h => ho h.1)]
    rw [er] at he ⊢
    have hge := rwF_ge (f := f) (op := op) (fr := fr0) ps (k + 1) (out ++ f p (fr0 + out.length))
    rw [List.length_append] at hge
    obtain ⟨c, hc1, hc2⟩ := dec_row ho (fr0 := fr0) ps (p + 1) (k + 1) (out ++ f p (fr0 + out.length)) R E (ns ++ sgN l a (p + 1)) hc.2.2 (fun q hq => hf q (List.mem_cons_of_mem _ hq)) (fun q hq => hp q (List.mem_cons_of_mem _ hq)) he
    refine ⟨f p (fr0 + out.length) ++ c, by rw [hc1, List.append_assoc], ?_⟩
    have h4 := hf p (List.mem_cons_self ..) (fr0 + out.length) (c ++ R) E ns (fun e h => by have := he e h; omega)
    rw [List.append_assoc, h4, h1, Nat.add_assoc, ← List.length_append, hc2, List.append_assoc, sgN_join l (by omega) h3]
theorem dec_thing (h : Tr l P L) (hB : BareN l) : ∀ n i, i < n → i < l.length → Dcd l (ofF l P n i) (L.getD i 0) (i + 1) := by
  intro n
  induction n with
  | zero => intro i hi; exact absurd hi (Nat.not_lt_zero i)
  | succ n ih =>
    intro i hin hi fr R E ns he
    have hch := h.chain i hi
    have hmem := hch.mem
    have hlow := h.low hi
    have htk := ndA_takes h hi
    have hT : ∀ p ∈ P.getD i [], Dcd l (ofF l P n p) (L.getD p 0) (p + 1) := fun p hp => by
      have := hmem p hp
      exact ih p (by omega) (by omega)
    have hpos : ∀ p ∈ P.getD i [], ∀ fr, 0 < (ofF l P n p fr).length := fun p hp fr => by
      obtain ⟨n', rfl⟩ : ∃ n', n = n' + 1 := ⟨n - 1, by have := hmem p hp; omega⟩
      exact ofF_pos n' p fr
    by_cases h21 : (ndA l i).op = 21
    · obtain ⟨a, b, d, e3⟩ := h.if3 hi h21
      rw [ofF_succ, if_pos h21, e3] at he ⊢
      rw [e3] at hch hT hpos
      simp only [List.getD_cons_zero, List.getD_cons_succ] at he ⊢
      have ca := hch.1
      have cb := hch.2.2.1
      have cd := hch.2.2.2.2.1
      have l1 := hch.2.1
      have l2 := hch.2.2.2.1
      have l3 := hch.2.2.2.2.2.1
      have l4 : d + 1 = i := hch.2.2.2.2.2.2
      have ta := hT a (by simp) fr
      unfold ifF at he ⊢
      have tb := hT b (by simp) (fr + (ofF l P n a fr).length + 1)
      have td := hT d (by simp) (fr + (ofF l P n a fr).length + (ofF l P n b (fr + (ofF l P n a fr).length + 1)).length + 2)
      have pd := hpos d (by simp) (fr + (ofF l P n a fr).length + (ofF l P n b (fr + (ofF l P n a fr).length + 1)).length + 2)
      generalize hA : ofF l P n a fr = A at *
      generalize hBq : ofF l P n b (fr + A.length + 1) = B at *
      generalize hD : ofF l P n d (fr + A.length + B.length + 2) = D at *
      obtain ⟨T, hT2⟩ : ∃ T, T = fr + A.length + B.length + D.length + 2 := ⟨_, rfl⟩
      have hlT : fr + (A ++ [iC 102 (fr + A.length + B.length + 2 : Nat)] ++ B ++ [iC 101 (fr + A.length + B.length + D.length + 2 : Nat)] ++ D).length = T := by
        simp only [List.length_append, List.length_cons, List.length_nil]; omega
      rw [hlT] at he ⊢
      simp only [List.append_assoc, List.cons_append, List.nil_append]
      rw [ta _ E ns (fun e h => by have := he e h; omega), dec_cons (fun e h => by have := he e h; omega)]
      show decP _ _ E (ns ++ sgN l (L.getD a 0) (a + 1)) = _
      rw [tb _ E _ (fun e h => by have := he e h; omega), show fr + A.length + 1 + B.length = fr + A.length + B.length + 1 by omega, dec_cons (fun e h => by have := he e h; omega)]
      show decP (fr + A.length + B.length + 1 + 1) (D ++ R) (((fr + A.length + B.length + D.length + 2 : Nat) : Int) :: E) _ = _
      rw [show fr + A.length + B.length + 1 + 1 = fr + A.length + B.length + 2 by omega, td R _ _ (fun e h => by
        have : e = ((fr + A.length + B.length + D.length + 2 : Nat) : Int) := (Option.some.inj h).symm
        omega), show fr + A.length + B.length + 2 + D.length = fr + A.length + B.length + D.length + 2 by omega, dec_end, ← hT2]
      show decP T R E (ns ++ sgN l (L.getD a 0) (a + 1) ++ sgN l (L.getD b 0) (b + 1) ++ sgN l (L.getD d 0) (d + 1) ++ [nodIf]) = _
      rw [ca, cb, cd, List.append_assoc, List.append_assoc, List.append_assoc, ← (hB i hi).1 h21, ← sgN_one l hi, l4, sgN_join l (by omega) (by omega), sgN_join l (by omega) (by omega), sgN_join l (by omega) (by omega)]
    · rw [ofF_succ, if_neg h21] at he ⊢
      by_cases h23 : (ndA l i).op = 23
      · obtain ⟨a, b, e3⟩ := h.in2 hi h23
        rw [if_pos h23, h23, e3] at he ⊢
        rw [e3] at hch hT hpos
        have ca := hch.1
        have cb := hch.2.2.1
        have l1 := hch.2.1
        have l2 := hch.2.2.2.1
        have l4 : b + 1 = i := hch.2.2.2.2
        have hrow : rwF (ofF l P n) 23 fr 0 [a, b] [] = ofF l P n a fr ++ [iC 103 0] ++ ofF l P n b (fr + (ofF l P n a fr ++ [iC 103 0]).length) := by
          simp [rwF]
        rw [hrow] at he ⊢
        have ta := hT a (by simp) fr
        have hA1 : (ofF l P n a fr ++ [iC 103 0]).length = (ofF l P n a fr).length + 1 := by simp
        rw [hA1] at he ⊢
        have tb := hT b (by simp) (fr + ((ofF l P n a fr).length + 1))
        generalize hA : ofF l P n a fr = A at *
        generalize hBq : ofF l P n b (fr + (A.length + 1)) = B at *
        have hlT : (A ++ [iC 103 0] ++ B ++ [iC 104 0]).length = A.length + 1 + B.length + 1 := by
          simp only [List.length_append, List.length_cons, List.length_nil]
        rw [hlT] at he ⊢
        simp only [List.append_assoc, List.cons_append, List.nil_append]
        rw [ta _ E ns (fun e h => by have := he e h; omega), dec_cons (fun e h => by have := he e h; omega)]
        show decP (fr + A.length + 1) _ E (ns ++ sgN l (L.getD a 0) (a + 1)) = _
        rw [show fr + A.length + 1 = fr + (A.length + 1) by omega, tb _ E _ (fun e h => by have := he e h; omega), dec_cons (fun e h => by have := he e h; omega)]
        show decP (fr + (A.length + 1) + B.length + 1) R E (ns ++ sgN l (L.getD a 0) (a + 1) ++ sgN l (L.getD b 0) (b + 1) ++ [nodIn]) = _
        rw [ca, cb, List.append_assoc, List.append_assoc, ← (hB i hi).2 h23, ← sgN_one l hi, l4, sgN_join l (by omega) (by omega), sgN_join l (by omega) (by omega), show fr + (A.length + 1) + B.length + 1 = fr + (A.length + 1 + B.length + 1) by omega]
      · rw [if_neg h23] at he ⊢
        have hlR : ∀ Rw : List InsD, (Rw ++ [insN (ndA l i)]).length = Rw.length + 1 := fun Rw => by simp
        rw [hlR] at he ⊢
        obtain ⟨c, hc, hrun⟩ := dec_row (l := l) (L := L) (f := ofF l P n) (op := (ndA l i).op) h23 (b := i) (fr0 := fr) (P.getD i []) (L.getD i 0) 0 [] ([insN (ndA l i)] ++ R) E ns hch hT hpos (fun e h => by have := he e h; omega)
        rw [List.nil_append] at hc
        rw [← hc, List.length_nil, Nat.add_zero] at hrun
        rw [List.append_assoc, hrun]
        have hop := takes_ins htk h21 h23
        have h101 : (insN (ndA l i)).op ≠ 101 ∧ (insN (ndA l i)).op ≠ 102 ∧ (insN (ndA l i)).op ≠ 103 ∧ (insN (ndA l i)).op ≠ 104 := by
          have h1 : 1 ≤ (ndA l i).op ∧ (ndA l i).op ≤ 37 := takes_op htk
          show (ndA l i).op ≠ 101 ∧ (ndA l i).op ≠ 102 ∧ (ndA l i).op ≠ 103 ∧ (ndA l i).op ≠ 104
          omega
        show decP _ (insN (ndA l i) :: R) E _ = _
        rw [dec_cons (fun e h => by have := he e h; omega)]
        unfold decStep
        rw [if_neg (by omega), if_neg (by omega), if_neg (by omega), nodI_insN htk h21 h23, ← sgN_one l hi]
        simp only
        rw [List.append_assoc, sgN_join l hlow (by omega)]
        rfl
theorem dec_whole (h : Tr l P L) (hB : BareN l) {q : Nat} (hH : Chain L 0 [q] l.length) : decP 0 (ofF l P l.length q 0) [] [] = l := by
  have h1 : L.getD q 0 = 0 := hH.1
  have h2 : q + 1 = l.length := hH.2.2
  have h3 := dec_thing h hB l.length q (by omega) (by omega) 0 [] [] [] (fun e h => by cases h)
  rw [List.append_nil] at h3
  rw [h3, h1, h2]
  show [] ++ sgN l 0 l.length = l
  unfold sgN
  simp
end
end Go.Proofs.YtpgfgaloagdogaaDoor
