/-
  Things in order: each time the least one that is not in it and all of whose needs are: no program stands in this text.
-/
import Derived.Test.YtdgdeognahmpmaaRows
namespace Go.Proofs.Ytdgdeognahmpmaa.Gk

/-- may it come next? -/
def okN (nd : Nat → List Nat) (D : List Nat) (i : Nat) : Bool := !D.contains i && (nd i).all D.contains
theorem okN_iff {nd : Nat → List Nat} {D : List Nat} {i : Nat} : okN nd D i = true ↔ i ∉ D ∧ ∀ x ∈ nd i, x ∈ D := by
  unfold okN; simp
/-- the next one -/
def nxt (nd : Nat → List Nat) (N : Nat) (D : List Nat) : Option Nat := (List.range N).find? (okN nd D)
theorem nxt_some {nd : Nat → List Nat} {N : Nat} {D : List Nat} {t : Nat} : nxt nd N D = some t ↔ okN nd D t = true ∧ t < N ∧ ∀ j, j < t → okN nd D j = false := by
  unfold nxt
  rw [List.find?_range_eq_some, List.mem_range]
  simp
theorem nxt_none {nd : Nat → List Nat} {N : Nat} {D : List Nat} : nxt nd N D = none ↔ ∀ i, i < N → okN nd D i = false := by
  unfold nxt
  rw [List.find?_range_eq_none]
  simp
/-- the order, as far as it goes -/
def ord (nd : Nat → List Nat) (N : Nat) : Nat → List Nat → List Nat
  | 0, D => D
  | n + 1, D => match nxt nd N D with
    | none => D
    | some t => ord nd N n (D ++ [t])
theorem ord_none {nd : Nat → List Nat} {N n : Nat} {D : List Nat} (h : nxt nd N D = none) : ord nd N n D = D := by
  cases n with
  | zero => rfl
  | succ n => rw [ord, h]
theorem ord_some {nd : Nat → List Nat} {N n t : Nat} {D : List Nat} (h : nxt nd N D = some t) : ord nd N (n + 1) D = ord nd N n (D ++ [t]) := by
  rw [ord, h]
/-- what is in order so far: things, each once, and all that they need -/
structure Dn (nd : Nat → List Nat) (N : Nat) (D : List Nat) : Prop where
  nodup : D.Nodup
  lt : ∀ i ∈ D, i < N
  cl : ∀ i ∈ D, ∀ x ∈ nd i, x ∈ D
theorem Dn.nil (nd : Nat → List Nat) (N : Nat) : Dn nd N [] := ⟨List.Pairwise.nil, fun _ h => (by cases h), fun _ h => (by cases h)⟩
theorem Dn.snoc {nd : Nat → List Nat} {N t : Nat} {D : List Nat} (h : Dn nd N D) (ht : okN nd D t = true) (hN : t < N) : Dn nd N (D ++ [t]) := by
  obtain ⟨h1, h2⟩ := okN_iff.1 ht
  refine ⟨?_, ?_, ?_⟩
  · rw [List.nodup_append]
    exact ⟨h.nodup, List.pairwise_singleton _ _, fun a ha b hb => by rw [List.mem_singleton] at hb; subst hb; rintro rfl; exact h1 ha⟩
  · intro i hi
    rcases List.mem_append.1 hi with hi | hi
    · exact h.lt i hi
    · rw [List.mem_singleton] at hi; subst hi; exact hN
  · intro i hi x hx
    rcases List.mem_append.1 hi with hi | hi
    · exact List.mem_append_left _ (h.cl i hi x hx)
    · rw [List.mem_singleton] at hi; subst hi; exact List.mem_append_left _ (h2 x hx)
theorem nodup_le {N : Nat} : ∀ {D : List Nat}, D.Nodup → (∀ i ∈ D, i < N) → D.length ≤ N := by
  intro D hD hl
  have hp : D.Perm ((List.range N).filter fun i => D.contains i) := by
    rw [List.perm_ext_iff_of_nodup hD (List.Pairwise.filter _ List.nodup_range)]
    intro a
    rw [List.mem_filter, List.mem_range]
    simp only [List.contains_iff_mem]
    exact ⟨fun h => ⟨hl a h, h⟩, fun h => h.2⟩
  rw [hp.length_eq]
  refine Nat.le_trans (List.length_filter_le _ _) ?_
  rw [List.length_range]
  exact Nat.le_refl _
/-- how many needs of a thing are not in order -/
def miss (l D : List Nat) : Nat := l.countP fun x => !D.contains x
theorem miss_snoc {l D : List Nat} {t : Nat} (ht : t ∉ D) : miss l (D ++ [t]) + l.count t = miss l D := by
  induction l with
  | nil => rfl
  | cons a l ih =>
    unfold miss at ih ⊢
    rw [List.countP_cons, List.countP_cons, List.count_cons]
    generalize List.countP (fun x => !(D ++ [t]).contains x) l = A at ih ⊢
    generalize List.countP (fun x => !D.contains x) l = B at ih ⊢
    by_cases e : a = t
    · subst e
      have h1 : (D ++ [a]).contains a = true := by simp
      have h2 : D.contains a = false := by simpa using ht
      rw [h1, h2, beq_self_eq_true]
      show A + 0 + (l.count a + 1) = B + 1
      omega
    · have h1 : (D ++ [t]).contains a = D.contains a := by
        rw [Bool.eq_iff_iff]; simp [e]
      have h3 : (a == t) = false := by simpa using e
      rw [h1, h3]
      show A + _ + (l.count t + 0) = B + _
      omega
theorem miss_zero {l D : List Nat} : miss l D = 0 ↔ ∀ x ∈ l, x ∈ D := by
  unfold miss
  rw [List.countP_eq_zero]
  simp
theorem miss_count {l D : List Nat} {t : Nat} (ht : t ∉ D) : l.count t ≤ miss l D := by
  have := miss_snoc (l := l) ht; omega
/-- who needs it: each as often as it does -/
def users (nd : Nat → List Nat) (N t : Nat) : List Nat := (List.range N).flatMap fun i => List.replicate ((nd i).count t) i
theorem users_count (nd : Nat → List Nat) (t i : Nat) : ∀ N, (users nd N t).count i = if i < N then (nd i).count t else 0
  | 0 => by simp [users]
  | N + 1 => by
    have e : users nd (N + 1) t = users nd N t ++ List.replicate ((nd N).count t) N := by
      unfold users; rw [List.range_succ, List.flatMap_append]; simp
    rw [e, List.count_append, users_count nd t i N, List.count_replicate]
    by_cases h : i < N
    · have h2 : (N == i) = false := by simp; omega
      rw [if_pos h, h2, if_pos (show i < N + 1 by omega)]; rfl
    · by_cases h3 : i = N
      · subst h3; rw [if_neg h, beq_self_eq_true, if_pos (show i < i + 1 by omega), if_pos rfl]; omega
      · have h2 : (N == i) = false := by simp; omega
        rw [if_neg h, h2, if_neg (show ¬ i < N + 1 by omega)]; rfl
theorem users_lt {nd : Nat → List Nat} {N t i : Nat} (h : i ∈ users nd N t) : i < N := by
  unfold users at h
  rw [List.mem_flatMap] at h
  obtain ⟨j, hj, h2⟩ := h
  rw [List.mem_range] at hj
  have := List.eq_of_mem_replicate h2
  omega
/-- the heap's things, while t has just come off it and the first of its users, p, are told -/
structure Hs (nd : Nat → List Nat) (N : Nat) (D : List Nat) (t : Nat) (p : List Nat) (H : List Nat) : Prop where
  nodup : H.Nodup
  mem : ∀ i, i ∈ H ↔ (i < N ∧ okN nd D i = true ∧ i ≠ t) ∨ (i ∈ p ∧ p.count i = miss (nd i) D)
/-- the heap's things between two -/
structure Hq (nd : Nat → List Nat) (N : Nat) (D : List Nat) (H : List Nat) : Prop where
  nodup : H.Nodup
  mem : ∀ i, i ∈ H ↔ i < N ∧ okN nd D i = true
theorem Hq.least {nd : Nat → List Nat} {N : Nat} {D H : List Nat} (h : Hq nd N D H) {t : Nat} (ht : t ∈ H) (hm : ∀ x ∈ H, t ≤ x) : nxt nd N D = some t := by
  obtain ⟨h1, h2⟩ := (h.mem t).1 ht
  refine nxt_some.2 ⟨h2, h1, fun j hj => ?_⟩
  cases e : okN nd D j with
  | false => rfl
  | true => exact absurd (hm j ((h.mem j).2 ⟨by omega, e⟩)) (by omega)
theorem Hq.none {nd : Nat → List Nat} {N : Nat} {D : List Nat} (h : Hq nd N D []) : nxt nd N D = none := nxt_none.2 fun i hi => by
  cases e : okN nd D i with
  | false => rfl
  | true => exact absurd ((h.mem i).2 ⟨hi, e⟩) List.not_mem_nil
theorem Hq.start {nd : Nat → List Nat} {N : Nat} {D H H' : List Nat} {t : Nat} (h : Hq nd N D H) (hp : H.Perm (t :: H')) : Hs nd N D t [] H' := by
  have hn := (hp.nodup_iff.1 h.nodup)
  rw [List.nodup_cons] at hn
  refine ⟨hn.2, fun i => ⟨fun hi => .inl ?_, fun hi => ?_⟩⟩
  · have hm := (h.mem i).1 (hp.mem_iff.2 (List.mem_cons_of_mem _ hi))
    exact ⟨hm.1, hm.2, fun e => hn.1 (e ▸ hi)⟩
  · rcases hi with ⟨h1, h2, h3⟩ | ⟨h1, -⟩
    · rcases List.mem_cons.1 (hp.mem_iff.1 ((h.mem i).2 ⟨h1, h2⟩)) with e | e
      · exact absurd e h3
      · exact e
    · cases h1
theorem okN_miss {nd : Nat → List Nat} {D : List Nat} {i : Nat} (h : okN nd D i = true) : miss (nd i) D = 0 := miss_zero.2 (okN_iff.1 h).2
/-- a user is told: what it misses is one less; nought: it gets ready -/
theorem Hs.tell {nd : Nat → List Nat} {N : Nat} {D H p : List Nat} {t u : Nat} (h : Hs nd N D t p H) (hlt : p.count u < miss (nd u) D) :
    (p.count u + 1 ≠ miss (nd u) D → Hs nd N D t (p ++ [u]) H) ∧ (p.count u + 1 = miss (nd u) D → Hs nd N D t (p ++ [u]) (H ++ [u])) := by
  have hu : u ∉ H := fun hu => by
    rcases (h.mem u).1 hu with ⟨_, h2, _⟩ | ⟨_, h2⟩
    · rw [okN_miss h2] at hlt; omega
    · omega
  have hc : ∀ i, i ≠ u → (p ++ [u]).count i = p.count i := fun i hi => by
    rw [List.count_append, List.count_cons, List.count_nil]
    have : (u == i) = false := by simpa using Ne.symm hi
    rw [this]; rfl
  have hcu : (p ++ [u]).count u = p.count u + 1 := by rw [List.count_append]; simp
  have hmem : ∀ i, i ≠ u → ((i ∈ p ++ [u] ∧ (p ++ [u]).count i = miss (nd i) D) ↔ (i ∈ p ∧ p.count i = miss (nd i) D)) := fun i hi => by
    rw [hc i hi]
    simp [hi]
  refine ⟨fun hne => ⟨h.nodup, fun i => ?_⟩, fun he => ⟨?_, fun i => ?_⟩⟩
  · by_cases hi : i = u
    · subst hi
      refine ⟨fun hx => absurd hx hu, fun hx => ?_⟩
      rcases hx with ⟨h1, h2, h3⟩ | ⟨_, h2⟩
      · exact (h.mem i).2 (.inl ⟨h1, h2, h3⟩)
      · rw [hcu] at h2; exact absurd h2 hne
    · rw [h.mem i, hmem i hi]
  · rw [List.nodup_append]
    exact ⟨h.nodup, List.pairwise_singleton _ _, fun a ha b hb => by rw [List.mem_singleton] at hb; subst hb; rintro rfl; exact hu ha⟩
  · by_cases hi : i = u
    · subst hi
      exact ⟨fun _ => .inr ⟨by simp, by rw [hcu]; exact he⟩, fun _ => by simp⟩
    · rw [List.mem_append, List.mem_singleton]
      simp only [hi, or_false]
      rw [h.mem i, hmem i hi]
/-- all its users are told: the heap's things between two again -/
theorem Hs.done {nd : Nat → List Nat} {N : Nat} {D H : List Nat} {t : Nat} (hD : Dn nd N D) (ht : okN nd D t = true) (hN : t < N) (h : Hs nd N D t (users nd N t) H) : Hq nd N (D ++ [t]) H := by
  obtain ⟨h1, h2⟩ := okN_iff.1 ht
  have hcnt : ∀ i, i < N → (users nd N t).count i = (nd i).count t := fun i hi => by rw [users_count, if_pos hi]
  refine ⟨h.nodup, fun i => ?_⟩
  rw [h.mem i]
  constructor
  · rintro (⟨a, b, c⟩ | ⟨a, b⟩)
    · obtain ⟨b1, b2⟩ := okN_iff.1 b
      refine ⟨a, okN_iff.2 ⟨?_, fun x hx => List.mem_append_left _ (b2 x hx)⟩⟩
      rw [List.mem_append, List.mem_singleton]
      rintro (h | h)
      · exact b1 h
      · exact c h
    · have hi := users_lt a
      rw [hcnt i hi] at b
      have hm := miss_snoc (l := nd i) h1
      have hz : miss (nd i) (D ++ [t]) = 0 := by omega
      have hpos : 0 < (nd i).count t := by
        rw [← hcnt i hi]; exact List.count_pos_iff.2 a
      refine ⟨hi, okN_iff.2 ⟨?_, miss_zero.1 hz⟩⟩
      rw [List.mem_append, List.mem_singleton]
      have hti : t ∈ nd i := List.count_pos_iff.1 hpos
      rintro (h | h)
      · exact h1 (hD.cl i h t hti)
      · subst h; exact h1 (h2 i hti)
  · rintro ⟨a, b⟩
    obtain ⟨b1, b2⟩ := okN_iff.1 b
    rw [List.mem_append, List.mem_singleton] at b1
    by_cases hz : (nd i).count t = 0
    · left
      refine ⟨a, okN_iff.2 ⟨fun hx => b1 (.inl hx), fun x hx => ?_⟩, fun e => b1 (.inr e)⟩
      rcases List.mem_append.1 (b2 x hx) with h | h
      · exact h
      · rw [List.mem_singleton] at h; subst h
        exact absurd (List.count_pos_iff.2 hx) (by omega)
    · right
      have hm := miss_snoc (l := nd i) h1
      rw [miss_zero.2 b2] at hm
      refine ⟨List.count_pos_iff.1 (by rw [hcnt i a]; omega), by rw [hcnt i a]; omega⟩
end Go.Proofs.Ytdgdeognahmpmaa.Gk
