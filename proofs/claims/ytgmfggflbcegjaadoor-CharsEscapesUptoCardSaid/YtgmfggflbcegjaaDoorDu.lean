/-
  The document's reading of references as a function over lists, and that it is the machine's.
-/
import Derived.Test.YtgmfggflbcegjaaDoorUne
namespace Go.Proofs.YtgmfggflbcegjaaDoor
open Go.RowKit Txt

/-- what stands ahead of the first ; if no & comes first, and what stands behind it -/
def sp : List UInt8 → Option (List UInt8 × List UInt8)
  | [] => none
  | c :: r => if c = 59 then some ([], r) else if c = 38 then none else (sp r).map (fun p => (c :: p.1, p.2))
/-- the digits of a number -/
def dnum (base : Int) : Int → List UInt8 → Option Int
  | code, [] => some code
  | code, c :: r => if dgtN c.toNat < 0 ∨ base ≤ dgtN c.toNat then none else dnum base (min (code * base + dgtN c.toNat) 1114112) r
/-- a number that is a character's -/
def dchr (base : Int) (l : List UInt8) : Option (List UInt8) := match dnum base 0 l with
  | none => none
  | some n => if okI n = true ∧ ¬ l = [] then some (Lib.encodeRune n) else none
/-- what stands for a reference's body -/
def dnam (b : List UInt8) : Option (List UInt8) :=
  if b = [108, 116] then some [60] else if b = [103, 116] then some [62] else if b = [97, 109, 112] then some [38] else if b = [113, 117, 111, 116] then some [34] else if b = [97, 112, 111, 115] then some [39]
  else match b with
    | [] => none
    | c :: r => if c = 35 then (if r.head? = some 120 then dchr 16 (r.drop 1) else dchr 10 r) else none
def dref (l : List UInt8) : Option (List UInt8 × List UInt8) := match sp l with
  | none => none
  | some p => (dnam p.1).map (fun x => (x, p.2))
/-- the document's reading, so many steps at the most -/
def du : Nat → List UInt8 → List UInt8 → Option (List UInt8)
  | 0, _, _ => none
  | _ + 1, [], acc => some acc
  | f + 1, c :: r, acc => if c = 60 then none else if c = 38 then (match dref r with | none => none | some p => du f p.2 (acc ++ p.1)) else du f r (acc ++ [c])

theorem dgt_semi : dgt 59 = 16 := rfl
theorem dgt_amp : dgt 38 = 16 := rfl
theorem dgtN_lt {x : Nat} (h : dgt x < 16) : dgtN x = dgt x := if_neg (by omega)
theorem dgt_nonneg (x : Nat) : 0 ≤ dgt x := by unfold dgt; repeat' split <;> omega
theorem dgt_le (x : Nat) : dgt x ≤ 16 := by unfold dgt; repeat' split <;> omega
theorem dgt_bad {x : Nat} {base : Int} (h : ¬ dgt x < base) : dgtN x < 0 ∨ base ≤ dgtN x := by
  unfold dgtN; split <;> omega
theorem dgt_good {x : Nat} {base : Int} (h16 : base ≤ 16) (h : dgt x < base) : ¬ (dgtN x < 0 ∨ base ≤ dgtN x) := by
  have := dgt_nonneg x
  rw [dgtN_lt (by omega)]; omega
theorem num_sp (base : Int) (h16 : base ≤ 16) : ∀ (l : List UInt8) (code : Int), num base code l = match sp l with
    | none => none
    | some p => match dnum base code p.1 with
      | none => none
      | some n => if okI n = true then some (n, p.2) else none
  | [], code => rfl
  | c :: r, code => by
    by_cases hd : dgt c.toNat < base
    · have h59 : ¬ c = 59 := by rintro rfl; have := dgt_semi; simp at hd; omega
      have h38 : ¬ c = 38 := by rintro rfl; have := dgt_amp; simp at hd; omega
      rw [num_min _ _ _ _ hd, num_sp base h16 r, sp, if_neg h59, if_neg h38]
      cases sp r with
      | none => rfl
      | some p => simp only [Option.map_some, dnum]; rw [if_neg (dgt_good h16 hd), dgtN_lt (by omega)]
    · rw [sp]
      by_cases h59 : c = 59
      · rw [if_pos h59]
        simp only [dnum]
        by_cases ho : okI code = true
        · rw [num_end _ _ _ _ hd ⟨h59, ho⟩, if_pos ho]
        · rw [num_wrong _ _ _ _ hd (by simp [ho]), if_neg ho]
      · rw [if_neg h59, num_wrong _ _ _ _ hd (by simp [h59])]
        by_cases h38 : c = 38
        · rw [if_pos h38]
        · rw [if_neg h38]
          cases sp r with
          | none => rfl
          | some p => simp only [Option.map_some, dnum]; rw [if_pos (dgt_bad hd)]
theorem dchr_sp (base : Int) (l : List UInt8) : (match dnum base 0 l with | none => none | some n => if okI n = true then some (Lib.encodeRune n) else none) = dchr base l := by
  unfold dchr
  cases l with
  | nil => rfl
  | cons c r => simp
theorem num_dchr (base : Int) (h16 : base ≤ 16) (l : List UInt8) : (num base 0 l).map (fun p => (Lib.encodeRune p.1, p.2)) = match sp l with
    | none => none
    | some p => (dchr base p.1).map (fun x => (x, p.2)) := by
  rw [num_sp base h16]
  cases sp l with
  | none => rfl
  | some p =>
    simp only []
    rw [← dchr_sp]
    cases dnum base 0 p.1 with
    | none => rfl
    | some n => simp only []; split <;> rfl
theorem sp_two (a b : UInt8) (l : List UInt8) (h1 : ¬ a = 59) (h2 : ¬ a = 38) (h3 : ¬ b = 59) (h4 : ¬ b = 38) : sp (a :: b :: l) = (sp l).map (fun p => (a :: b :: p.1, p.2)) := by
  simp only [sp, if_neg h1, if_neg h2, if_neg h3, if_neg h4, Option.map_map]; rfl
theorem sp_eq : ∀ (l b q : List UInt8), sp l = some (b, q) → l = b ++ 59 :: q
  | [], b, q, h => by cases h
  | c :: r, b, q, h => by
    unfold sp at h
    split at h
    · rename_i hc; cases h; rw [hc]; rfl
    · split at h
      · cases h
      · cases hs : sp r with
        | none => rw [hs] at h; cases h
        | some p =>
          rw [hs] at h
          cases h
          rw [List.cons_append, ← sp_eq r p.1 p.2 (by rw [hs])]
theorem sp_of : ∀ (b q : List UInt8), (∀ c ∈ b, ¬ c = 59 ∧ ¬ c = 38) → sp (b ++ 59 :: q) = some (b, q)
  | [], q, _ => by rw [List.nil_append, sp, if_pos rfl]
  | c :: b, q, h => by
    rw [List.cons_append, sp, if_neg (h c (by simp)).1, if_neg (h c (by simp)).2, sp_of b q fun d hd => h d (by simp [hd])]; rfl
theorem sp_free : ∀ (l b q : List UInt8), sp l = some (b, q) → ∀ c ∈ b, ¬ c = 59 ∧ ¬ c = 38
  | [], b, q, h => by cases h
  | c :: r, b, q, h => by
    unfold sp at h
    split at h
    · cases h; intro c hc; cases hc
    · split at h
      · cases h
      · rename_i h1 h2
        cases hs : sp r with
        | none => rw [hs] at h; cases h
        | some p =>
          rw [hs] at h
          cases h
          intro d hd
          rcases List.mem_cons.1 hd with rfl | hd
          · exact ⟨h1, h2⟩
          · exact sp_free r p.1 p.2 (by rw [hs]) d hd
theorem pre_iff (l b q : List UInt8) (hs : sp l = some (b, q)) (k : List UInt8) (hk : ∀ c ∈ k, ¬ c = 59 ∧ ¬ c = 38) : Lib.hasPrefix l (k ++ [59]) = true ↔ b = k := by
  constructor
  · intro h
    obtain ⟨t, ht⟩ := List.isPrefixOf_iff_prefix.1 h
    have : l = k ++ 59 :: t := by rw [← ht]; simp
    rw [this, sp_of k t hk] at hs
    cases hs; rfl
  · rintro rfl
    rw [sp_eq l b q hs]
    exact List.isPrefixOf_iff_prefix.2 ⟨q, by simp⟩
theorem pre_none (l : List UInt8) (hs : sp l = none) (k : List UInt8) (hk : ∀ c ∈ k, ¬ c = 59 ∧ ¬ c = 38) : ¬ Lib.hasPrefix l (k ++ [59]) = true := by
  intro h
  obtain ⟨t, ht⟩ := List.isPrefixOf_iff_prefix.1 h
  have : l = k ++ 59 :: t := by rw [← ht]; simp
  rw [this, sp_of k t hk] at hs
  cases hs
theorem dnam_not35 {c : UInt8} (r : List UInt8) (h : ¬ c = 35) : dnam (c :: r) = if c :: r = [108, 116] then some [60] else if c :: r = [103, 116] then some [62] else if c :: r = [97, 109, 112] then some [38] else if c :: r = [113, 117, 111, 116] then some [34] else if c :: r = [97, 112, 111, 115] then some [39] else none := by
  unfold dnam; simp only [if_neg h]
theorem refr_named (l : List UInt8) (h : ∀ r, ¬ l = 35 :: r) : (if (nm l).2 = 0 then none else some ([(nm l).1], l.drop (nm l).2)) = dref l := by
  have k1 : ∀ c ∈ ([108, 116] : List UInt8), ¬ c = 59 ∧ ¬ c = 38 := by decide
  have k2 : ∀ c ∈ ([103, 116] : List UInt8), ¬ c = 59 ∧ ¬ c = 38 := by decide
  have k3 : ∀ c ∈ ([97, 109, 112] : List UInt8), ¬ c = 59 ∧ ¬ c = 38 := by decide
  have k4 : ∀ c ∈ ([113, 117, 111, 116] : List UInt8), ¬ c = 59 ∧ ¬ c = 38 := by decide
  have k5 : ∀ c ∈ ([97, 112, 111, 115] : List UInt8), ¬ c = 59 ∧ ¬ c = 38 := by decide
  unfold dref
  cases hs : sp l with
  | none =>
    have p1 := pre_none l hs _ k1
    have p2 := pre_none l hs _ k2
    have p3 := pre_none l hs _ k3
    have p4 := pre_none l hs _ k4
    have p5 := pre_none l hs _ k5
    simp only [List.cons_append, List.nil_append] at p1 p2 p3 p4 p5
    have : (nm l).2 = 0 := by unfold nm; rw [if_neg p1, if_neg p2, if_neg p3, if_neg p4, if_neg p5]
    rw [if_pos this]
  | some p =>
    obtain ⟨b, q⟩ := p
    have e := sp_eq l b q hs
    have p1 := pre_iff l b q hs _ k1
    have p2 := pre_iff l b q hs _ k2
    have p3 := pre_iff l b q hs _ k3
    have p4 := pre_iff l b q hs _ k4
    have p5 := pre_iff l b q hs _ k5
    simp only [List.cons_append, List.nil_append] at p1 p2 p3 p4 p5
    have hb : dnam b = if b = [108, 116] then some [60] else if b = [103, 116] then some [62] else if b = [97, 109, 112] then some [38] else if b = [113, 117, 111, 116] then some [34] else if b = [97, 112, 111, 115] then some [39] else none := by
      cases b with
      | nil => rfl
      | cons c r => exact dnam_not35 r (by rintro rfl; exact h _ e)
    have hn : nm l = if b = [108, 116] then (60, 3) else if b = [103, 116] then (62, 3) else if b = [97, 109, 112] then (38, 4) else if b = [113, 117, 111, 116] then (34, 5) else if b = [97, 112, 111, 115] then (39, 5) else (0, 0) := by
      unfold nm
      simp only [p1, p2, p3, p4, p5]
    simp only []
    rw [hb, hn]
    clear p1 p2 p3 p4 p5 hb hn
    by_cases h1 : b = [108, 116]
    · subst h1; subst e; rfl
    by_cases h2 : b = [103, 116]
    · subst h2; subst e; rfl
    by_cases h3 : b = [97, 109, 112]
    · subst h3; subst e; rfl
    by_cases h4 : b = [113, 117, 111, 116]
    · subst h4; subst e; rfl
    by_cases h5 : b = [97, 112, 111, 115]
    · subst h5; subst e; rfl
    simp only [if_neg h1, if_neg h2, if_neg h3, if_neg h4, if_neg h5]
    rfl
theorem refr_dref (l : List UInt8) : refr l = dref l := by
  unfold refr
  by_cases hx : Lib.hasPrefix l [35, 120] = true
  · rw [if_pos hx]
    obtain ⟨t, rfl⟩ := List.isPrefixOf_iff_prefix.1 hx
    rw [num_dchr 16 (by decide), dref]
    show _ = match sp (35 :: 120 :: t) with | none => none | some p => _
    rw [sp_two _ _ _ (by decide) (by decide) (by decide) (by decide)]
    show (match sp t with | none => none | some p => _) = _
    cases sp t with
    | none => rfl
    | some p => simp [dnam]
  rw [if_neg hx]
  by_cases hd : Lib.hasPrefix l [35] = true
  · rw [if_pos hd]
    obtain ⟨t, rfl⟩ := List.isPrefixOf_iff_prefix.1 hd
    rw [num_dchr 10 (by decide), dref]
    show (match sp t with | none => none | some p => _) = match sp (35 :: t) with | none => none | some p => _
    rw [sp, if_neg (by decide), if_neg (by decide)]
    cases hs : sp t with
    | none => rfl
    | some p =>
      obtain ⟨b, q⟩ := p
      have e := sp_eq t b q hs
      have hb : ¬ b.head? = some 120 := by
        intro hb
        cases b with
        | nil => cases hb
        | cons c r =>
          simp at hb
          subst hb
          apply hx
          rw [e]
          exact List.isPrefixOf_iff_prefix.2 ⟨r ++ 59 :: q, rfl⟩
      simp [dnam, hb]
  rw [if_neg hd]
  exact refr_named l fun r e => hd (by rw [e]; exact List.isPrefixOf_iff_prefix.2 ⟨r, rfl⟩)
/-- a byte that stands in no reference -/
def odd (c : UInt8) : Prop := c = 9 ∨ c = 10 ∨ c = 13 ∨ c = 32
theorem bl_semi (attr : Bool) (c : UInt8) : (bl attr c = 59 ↔ c = 59) ∧ (bl attr c = 38 ↔ c = 38) := by
  unfold bl
  split
  · rename_i h; rcases h.2 with rfl | rfl <;> decide
  · exact ⟨Iff.rfl, Iff.rfl⟩
theorem pl_cons (attr : Bool) (c : UInt8) (r : List UInt8) : pl attr (c :: r) = if c = 13 then (if r.head? = some 10 then pl attr r else bl attr 10 :: pl attr r) else bl attr c :: pl attr r := rfl
theorem sp_pl (attr : Bool) : ∀ l : List UInt8, sp (pl attr l) = (sp l).map (fun p => (pl attr p.1, pl attr p.2))
  | [] => rfl
  | c :: r => by
    have ih := sp_pl attr r
    rw [pl_cons]
    by_cases h13 : c = 13
    · rw [if_pos h13]
      have hs : sp (c :: r) = (sp r).map (fun p => (c :: p.1, p.2)) := by rw [sp, if_neg (by rw [h13]; decide), if_neg (by rw [h13]; decide)]
      rw [hs, Option.map_map]
      split
      · rename_i h10
        rw [ih]
        cases hsr : sp r with
        | none => rfl
        | some p =>
          simp only [Option.map_some, Function.comp]
          congr 2
          rw [pl_cons, if_pos h13, if_pos]
          cases r with
          | nil => cases h10
          | cons d r' =>
            simp at h10
            subst h10
            rw [sp, if_neg (by decide), if_neg (by decide)] at hsr
            cases hs2 : sp r' with
            | none => rw [hs2] at hsr; cases hsr
            | some p2 => rw [hs2] at hsr; cases hsr; rfl
      · rename_i h10
        have hb := bl_semi attr 10
        rw [sp, if_neg (by rw [hb.1]; decide), if_neg (by rw [hb.2]; decide), ih, Option.map_map]
        cases hsr : sp r with
        | none => rfl
        | some p =>
          simp only [Option.map_some, Function.comp]
          congr 2
          rw [pl_cons, if_pos h13, if_neg]
          intro hh
          apply h10
          have e := sp_eq r p.1 p.2 (by rw [hsr])
          rw [e]
          cases hp : p.1 with
          | nil => rw [hp] at hh; cases hh
          | cons d r' => rw [hp] at hh; exact hh
    · rw [if_neg h13]
      have hb := bl_semi attr c
      rw [sp, sp]
      by_cases h59 : c = 59
      · rw [if_pos (hb.1.2 h59), if_pos h59]; rfl
      · rw [if_neg (fun h => h59 (hb.1.1 h)), if_neg h59]
        by_cases h38 : c = 38
        · rw [if_pos (hb.2.2 h38), if_pos h38]; rfl
        · rw [if_neg (fun h => h38 (hb.2.1 h)), if_neg h38, ih, Option.map_map, Option.map_map]
          cases sp r with
          | none => rfl
          | some p => simp only [Option.map_some, Function.comp]; rw [pl_cons, if_neg h13]
theorem pl_self (attr : Bool) : ∀ l : List UInt8, (∀ c ∈ l, ¬ odd c) → pl attr l = l
  | [], _ => rfl
  | c :: r, h => by
    have hc := h c (by simp)
    unfold odd at hc
    unfold pl
    rw [if_neg (fun e => hc (.inr (.inr (.inl e)))), pl_self attr r fun d hd => h d (by simp [hd])]
    congr 1
    exact if_neg (by rintro ⟨_, e | e⟩; exact hc (.inl e); exact hc (.inr (.inl e)))
theorem pl_odd (attr : Bool) : ∀ l : List UInt8, (∃ c ∈ l, odd c) → ∃ c ∈ pl attr l, odd c
  | [], h => by obtain ⟨c, hc, _⟩ := h; cases hc
  | c :: r, ⟨d, hd, ho⟩ => by
    have hb : odd c → odd (bl attr c) := by
      unfold bl odd
      intro h
      split
      · right; right; right; rfl
      · exact h
    have hb10 : odd (bl attr 10) := by
      unfold bl odd
      split
      · right; right; right; rfl
      · right; left; rfl
    unfold pl
    by_cases h13 : c = 13
    · rw [if_pos h13]
      split
      · rename_i h10
        cases r with
        | nil => cases h10
        | cons e r' =>
          simp at h10
          exact pl_odd attr (e :: r') ⟨e, by simp, by rw [h10]; exact .inr (.inl rfl)⟩
      · exact ⟨_, by simp, hb10⟩
    · rw [if_neg h13]
      rcases List.mem_cons.1 hd with rfl | hd
      · exact ⟨_, by simp, hb ho⟩
      · obtain ⟨e, he, hoe⟩ := pl_odd attr r ⟨d, hd, ho⟩
        exact ⟨e, by simp [he], hoe⟩
theorem odd_dgt {c : UInt8} (h : odd c) : dgtN c.toNat = -1 := by
  rcases h with rfl | rfl | rfl | rfl <;> rfl
theorem dnum_odd (base : Int) : ∀ (l : List UInt8) (code : Int), (∃ c ∈ l, odd c) → dnum base code l = none
  | [], _, h => by obtain ⟨c, hc, _⟩ := h; cases hc
  | c :: r, code, ⟨d, hd, ho⟩ => by
    unfold dnum
    rcases List.mem_cons.1 hd with rfl | hd
    · rw [if_pos (.inl (by rw [odd_dgt ho]; decide))]
    · rw [dnum_odd base r _ ⟨d, hd, ho⟩]; simp
theorem dnam_odd (b : List UInt8) (h : ∃ c ∈ b, odd c) : dnam b = none := by
  have no : ∀ k : List UInt8, (∀ c ∈ k, ¬ odd c) → ¬ b = k := fun k hk e => by
    obtain ⟨c, hc, ho⟩ := h
    exact hk c (e ▸ hc) ho
  unfold dnam
  rw [if_neg (no _ (by unfold odd; decide)), if_neg (no _ (by unfold odd; decide)), if_neg (no _ (by unfold odd; decide)), if_neg (no _ (by unfold odd; decide)), if_neg (no _ (by unfold odd; decide))]
  cases b with
  | nil => rfl
  | cons c r =>
    simp only []
    split
    · rename_i h35
      have hr : ∃ c ∈ r, odd c := by
        obtain ⟨d, hd, ho⟩ := h
        rcases List.mem_cons.1 hd with rfl | hd
        · rw [h35] at ho; unfold odd at ho; exact absurd ho (by decide)
        · exact ⟨d, hd, ho⟩
      split
      · rename_i h120
        cases r with
        | nil => cases h120
        | cons e r' =>
          simp at h120
          have hr' : ∃ c ∈ r', odd c := by
            obtain ⟨d, hd, ho⟩ := hr
            rcases List.mem_cons.1 hd with rfl | hd
            · rw [h120] at ho; unfold odd at ho; exact absurd ho (by decide)
            · exact ⟨d, hd, ho⟩
          show dchr 16 r' = none
          rw [dchr, dnum_odd 16 r' 0 hr']
      · rw [dchr, dnum_odd 10 r 0 hr]
    · rfl
theorem dnam_pl (attr : Bool) (b : List UInt8) : dnam (pl attr b) = dnam b := by
  by_cases h : ∃ c ∈ b, odd c
  · rw [dnam_odd b h, dnam_odd _ (pl_odd attr b h)]
  · rw [pl_self attr b fun c hc ho => h ⟨c, hc, ho⟩]
theorem dref_pl (attr : Bool) (l : List UInt8) : dref (pl attr l) = (dref l).map (fun p => (p.1, pl attr p.2)) := by
  unfold dref
  rw [sp_pl]
  cases sp l with
  | none => rfl
  | some p => simp only [Option.map_some, dnam_pl]; cases dnam p.1 <;> rfl
theorem pl_len (attr : Bool) : ∀ l : List UInt8, (pl attr l).length ≤ l.length
  | [] => Nat.le_refl _
  | c :: r => by
    have := pl_len attr r
    unfold pl
    repeat' split
    all_goals simp only [List.length_cons]; omega
/-- the two readings are one -/
theorem une_du (attr : Bool) : ∀ (f g : Nat) (l acc : List UInt8), l.length < f → (pl attr l).length < g → une attr f l acc = du g (pl attr l) acc
  | 0, _, _, _, h, _ => by omega
  | _ + 1, 0, _, _, _, h => by omega
  | f + 1, g + 1, [], acc, _, _ => rfl
  | f + 1, g + 1, c :: r, acc, hf, hg => by
    simp only [List.length_cons] at hf
    by_cases h60 : c = 60
    · subst h60
      rw [une_less]
      rw [pl, if_neg (by decide), show bl attr 60 = 60 from if_neg (by rintro ⟨_, h | h⟩ <;> exact absurd h (by decide)), du, if_pos rfl]
    by_cases h38 : c = 38
    · subst h38
      rw [une_amp]
      rw [pl, if_neg (by decide), show bl attr 38 = 38 from if_neg (by rintro ⟨_, h | h⟩ <;> exact absurd h (by decide))] at hg ⊢
      simp only [List.length_cons] at hg
      rw [du, if_neg (by decide), if_pos rfl, dref_pl, ← refr_dref]
      cases hr : refr r with
      | none => rfl
      | some p =>
        have h1 := refr_shorter r p hr
        have h2 : (pl attr p.2).length ≤ (pl attr r).length := by
          have h3 := dref_pl attr r
          rw [← refr_dref, ← refr_dref, hr] at h3
          exact refr_shorter _ _ h3
        exact une_du attr f g p.2 _ (by omega) (by omega)
    by_cases h13 : c = 13
    · subst h13
      rw [une_line]
      rw [pl, if_pos rfl] at hg ⊢
      by_cases h10 : r.head? = some 10
      · rw [if_pos h10] at hg ⊢
        rw [if_pos h10]
        exact une_du attr f (g + 1) r acc (by omega) hg
      · rw [if_neg h10] at hg ⊢
        rw [if_neg h10]
        simp only [List.length_cons] at hg
        have hb : ¬ bl attr 10 = 60 ∧ ¬ bl attr 10 = 38 := by cases attr <;> decide
        rw [du, if_neg hb.1, if_neg hb.2]
        exact une_du attr f g r _ (by omega) (by omega)
    · rw [une_other attr f c r acc h60 h38 h13]
      rw [pl, if_neg h13] at hg ⊢
      simp only [List.length_cons] at hg
      have hb : ¬ bl attr c = 60 ∧ ¬ bl attr c = 38 := by
        unfold bl
        split
        · decide
        · exact ⟨h60, h38⟩
      rw [du, if_neg hb.1, if_neg hb.2]
      exact une_du attr f g r _ (by omega) (by omega)
/-- what was escaped is read back -/
theorem une_back (attr : Bool) : ∀ (l : List UInt8) (f : Nat) (acc : List UInt8), (escAll attr l).length < f → une attr f (escAll attr l) acc = some (acc ++ l)
  | [], f, acc, h => by
    obtain ⟨g, rfl⟩ : ∃ g, f = g + 1 := ⟨f - 1, by omega⟩
    show une attr (g + 1) [] acc = _
    rw [une_nil, List.append_nil]
  | c :: l, f, acc, h => by
    obtain ⟨g, rfl⟩ : ∃ g, f = g + 1 := ⟨f - 1, by omega⟩
    have ha : escAll attr (c :: l) = esc attr c ++ escAll attr l := by simp [escAll]
    rw [ha] at h ⊢
    rw [List.length_append] at h
    have fin : ∀ t : List UInt8, esc attr c = 38 :: t → refr (t ++ escAll attr l) = some ([c], escAll attr l) → une attr (g + 1) (esc attr c ++ escAll attr l) acc = some (acc ++ c :: l) := by
      intro t e1 e2
      rw [e1] at h ⊢
      simp only [List.length_cons] at h
      rw [List.cons_append, une_amp, e2]
      show une attr g (escAll attr l) (acc ++ [c]) = _
      rw [une_back attr l g _ (by omega)]
      simp
    by_cases hr : rf c attr = []
    · rw [esc_self hr] at h ⊢
      simp only [List.length_cons, List.length_nil] at h
      have h60 : ¬ c = 60 := by rintro rfl; exact absurd hr (by cases attr <;> decide)
      have h38 : ¬ c = 38 := by rintro rfl; exact absurd hr (by cases attr <;> decide)
      have h13 : ¬ c = 13 := by rintro rfl; exact absurd hr (by cases attr <;> decide)
      have hb : bl attr c = c := by
        refine if_neg ?_
        rintro ⟨rfl, rfl | rfl⟩ <;> exact absurd hr (by decide)
      rw [List.cons_append, List.nil_append, une_other attr g c _ acc h60 h38 h13, hb, une_back attr l g _ (by omega)]
      simp
    · have e := esc_ref hr
      unfold rf at e hr
      by_cases h38 : c = 38
      · subst h38; exact fin _ e (by simp [refr, nm, Lib.hasPrefix])
      rw [if_neg h38] at e hr
      by_cases h60 : c = 60
      · subst h60; exact fin _ e (by simp [refr, nm, Lib.hasPrefix])
      rw [if_neg h60] at e hr
      by_cases h62 : c = 62
      · subst h62; exact fin _ e (by simp [refr, nm, Lib.hasPrefix])
      rw [if_neg h62] at e hr
      by_cases h13 : c = 13
      · subst h13; exact fin _ e (by simp [refr, Lib.hasPrefix, num, dgt, okI, Lib.encodeRune, Lib.encodeRuneZ]; exact ⟨by decide, 13, by decide, by decide⟩)
      rw [if_neg h13] at e hr
      by_cases hat : attr = false
      · rw [if_pos hat] at hr; exact absurd rfl hr
      rw [if_neg hat] at e hr
      by_cases h34 : c = 34
      · subst h34; exact fin _ e (by simp [refr, nm, Lib.hasPrefix])
      rw [if_neg h34] at e hr
      by_cases h9 : c = 9
      · subst h9; exact fin _ e (by simp [refr, Lib.hasPrefix, num, dgt, okI, Lib.encodeRune, Lib.encodeRuneZ]; exact ⟨by decide, 9, by decide, by decide⟩)
      rw [if_neg h9] at e hr
      by_cases h10 : c = 10
      · subst h10; exact fin _ e (by simp [refr, Lib.hasPrefix, num, dgt, okI, Lib.encodeRune, Lib.encodeRuneZ]; exact ⟨by decide, 10, by decide, by decide⟩)
      rw [if_neg h10] at hr
      exact absurd rfl hr
end Go.Proofs.YtgmfggflbcegjaaDoor
