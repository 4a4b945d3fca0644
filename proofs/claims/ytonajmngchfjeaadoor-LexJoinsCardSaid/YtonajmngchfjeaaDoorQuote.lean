/-
  Quotes: what stands for what, the text that Quote makes, and the two readers of it.
-/
import Derived.Test.YtonajmngchfjeaaDoorJumps
import Derived.Test.YtonajmngchfjeaaDoorBg
namespace Go.Proofs.YtonajmngchfjeaaDoor
open Go.RowKit Txt
attribute [local go_sem] setCell_drewN cell?_ext frozen?_ext shape?_ext setCell_ext lt_1' ne_1' en_1' le_1' lt_2' ne_2' en_2' le_2' lt_3' ne_3' en_3' le_3' lt_4' ne_4' en_4' le_4' lt_5' ne_5' en_5' le_5' lt_6' ne_6' en_6' le_6' lt_7' ne_7' en_7' le_7' lt_8' ne_8' en_8' le_8' lt_9' ne_9' en_9' le_9' lt_10' ne_10' en_10' le_10' lt_11' ne_11' en_11' le_11' lt_12' ne_12' en_12' le_12'

/-- what stands behind a backslash for a byte; nought if it stands for itself -/
def sgn (c : UInt8) : UInt8 := if c = 34 then 34 else if c = 92 then 92 else if c = 10 then 110 else if c = 13 then 114 else if c = 9 then 116 else 0
/-- what a sign stands for; nought if it is none -/
def mng (c : UInt8) : UInt8 := if c = 34 then 34 else if c = 92 then 92 else if c = 110 then 10 else if c = 114 then 13 else if c = 116 then 9 else 0
theorem five (c a b d e f : UInt8) : c = a ∨ c = b ∨ c = d ∨ c = e ∨ c = f ∨ (¬ c = a ∧ ¬ c = b ∧ ¬ c = d ∧ ¬ c = e ∧ ¬ c = f) := by
  by_cases h1 : c = a
  · exact .inl h1
  by_cases h2 : c = b
  · exact .inr (.inl h2)
  by_cases h3 : c = d
  · exact .inr (.inr (.inl h3))
  by_cases h4 : c = e
  · exact .inr (.inr (.inr (.inl h4)))
  by_cases h5 : c = f
  · exact .inr (.inr (.inr (.inr (.inl h5))))
  exact .inr (.inr (.inr (.inr (.inr ⟨h1, h2, h3, h4, h5⟩))))
theorem sgn_no {c : UInt8} (h1 : ¬ c = 34) (h2 : ¬ c = 92) (h3 : ¬ c = 10) (h4 : ¬ c = 13) (h5 : ¬ c = 9) : sgn c = 0 := by simp [sgn, h1, h2, h3, h4, h5]
theorem mng_no {c : UInt8} (h1 : ¬ c = 34) (h2 : ¬ c = 92) (h3 : ¬ c = 110) (h4 : ¬ c = 114) (h5 : ¬ c = 116) : mng c = 0 := by simp [mng, h1, h2, h3, h4, h5]
set_option maxHeartbeats 1000000 in
theorem sign_any (c : UInt8) (w : World) : Calls Tryd.prog 49 #[.int .u8 (c.toNat : Int)] w fun e w' => e = .returned (.int .u8 ((sgn c).toNat : Int)) ∧ w = w' := by
  rcases five c 34 92 10 13 9 with rfl | rfl | rfl | rfl | rfl | ⟨h1, h2, h3, h4, h5⟩
  · rw [show sgn 34 = 34 from rfl]
    go_enter Tryd.func49, Tryd.ntmps49
    go_wp2
    go_ret
    exact ⟨rfl, rfl⟩
  · rw [show sgn 92 = 92 from rfl]
    go_enter Tryd.func49, Tryd.ntmps49
    go_wp2
    go_ret
    exact ⟨rfl, rfl⟩
  · rw [show sgn 10 = 110 from rfl]
    go_enter Tryd.func49, Tryd.ntmps49
    go_wp2
    go_ret
    exact ⟨rfl, rfl⟩
  · rw [show sgn 13 = 114 from rfl]
    go_enter Tryd.func49, Tryd.ntmps49
    go_wp2
    go_ret
    exact ⟨rfl, rfl⟩
  · rw [show sgn 9 = 116 from rfl]
    go_enter Tryd.func49, Tryd.ntmps49
    go_wp2
    go_ret
    exact ⟨rfl, rfl⟩
  · rw [sgn_no h1 h2 h3 h4 h5]
    have g1 : ((c.toNat : Int) == 34) = false := u8_ne h1
    have g2 : ((c.toNat : Int) == 92) = false := u8_ne h2
    have g3 : ((c.toNat : Int) == 10) = false := u8_ne h3
    have g4 : ((c.toNat : Int) == 13) = false := u8_ne h4
    have g5 : ((c.toNat : Int) == 9) = false := u8_ne h5
    clear h1 h2 h3 h4 h5
    go_enter Tryd.func49, Tryd.ntmps49
    go_wp2
    go_ret
    exact ⟨rfl, rfl⟩
set_option maxHeartbeats 1000000 in
theorem meaning_any (c : UInt8) (w : World) : Calls Tryd.prog 50 #[.int .u8 (c.toNat : Int)] w fun e w' => e = .returned (.int .u8 ((mng c).toNat : Int)) ∧ w = w' := by
  rcases five c 34 92 110 114 116 with rfl | rfl | rfl | rfl | rfl | ⟨h1, h2, h3, h4, h5⟩
  · rw [show mng 34 = 34 from rfl]
    go_enter Tryd.func50, Tryd.ntmps50
    go_wp2
    go_ret
    exact ⟨rfl, rfl⟩
  · rw [show mng 92 = 92 from rfl]
    go_enter Tryd.func50, Tryd.ntmps50
    go_wp2
    go_ret
    exact ⟨rfl, rfl⟩
  · rw [show mng 110 = 10 from rfl]
    go_enter Tryd.func50, Tryd.ntmps50
    go_wp2
    go_ret
    exact ⟨rfl, rfl⟩
  · rw [show mng 114 = 13 from rfl]
    go_enter Tryd.func50, Tryd.ntmps50
    go_wp2
    go_ret
    exact ⟨rfl, rfl⟩
  · rw [show mng 116 = 9 from rfl]
    go_enter Tryd.func50, Tryd.ntmps50
    go_wp2
    go_ret
    exact ⟨rfl, rfl⟩
  · rw [mng_no h1 h2 h3 h4 h5]
    have g1 : ((c.toNat : Int) == 34) = false := u8_ne h1
    have g2 : ((c.toNat : Int) == 92) = false := u8_ne h2
    have g3 : ((c.toNat : Int) == 110) = false := u8_ne h3
    have g4 : ((c.toNat : Int) == 114) = false := u8_ne h4
    have g5 : ((c.toNat : Int) == 116) = false := u8_ne h5
    clear h1 h2 h3 h4 h5
    go_enter Tryd.func50, Tryd.ntmps50
    go_wp2
    go_ret
    exact ⟨rfl, rfl⟩
/-- a byte as it is quoted -/
def quo (c : UInt8) : List UInt8 := if sgn c = 0 then [c] else [92, sgn c]
def quoAll (l : List UInt8) : List UInt8 := l.flatMap quo
theorem quoAll_snoc (l : List UInt8) (c : UInt8) : quoAll (l ++ [c]) = quoAll l ++ quo c := by simp [quoAll]
theorem quo_len (c : UInt8) : (quo c).length ≤ 2 := by unfold quo; split <;> simp
theorem quoAll_len : ∀ l : List UInt8, (quoAll l).length ≤ 2 * l.length
  | [] => by simp [quoAll]
  | c :: l => by
    have := quoAll_len l
    have := quo_len c
    simp only [quoAll, List.flatMap_cons, List.length_append, List.length_cons] at *
    omega
/-- the machine that reads behind the first quote; e: a backslash has just been read -/
def unq : Bool → List UInt8 → List UInt8 → Option (List UInt8)
  | _, [], _ => none
  | false, c :: r, acc => if c = 34 then (if r = [] then some acc else none) else if c = 92 then unq true r acc else if sgn c = 0 then unq false r (acc ++ [c]) else none
  | true, c :: r, acc => if mng c = 0 then none else unq false r (acc ++ [mng c])
/-- the document's reader of what stands between the quotes -/
def rqu : Bool → List UInt8 → List UInt8 → Option (List UInt8)
  | false, [], acc => some acc
  | true, [], _ => none
  | false, c :: r, acc => if c = 92 then rqu true r acc else if sgn c = 0 then rqu false r (acc ++ [c]) else none
  | true, c :: r, acc => if mng c = 0 then none else rqu false r (acc ++ [mng c])
theorem unq_quote : ∀ (l : List UInt8) (e : Bool) (acc : List UInt8), unq e (l ++ [34]) acc = rqu e l acc
  | [], false, acc => by simp [unq, rqu]
  | [], true, acc => by simp [unq, rqu, mng]
  | c :: r, false, acc => by
    have h1 := unq_quote r true acc
    have h2 := unq_quote r false (acc ++ [c])
    by_cases hc : c = 34
    · subst hc; simp [unq, rqu, sgn]
    · simp only [List.cons_append, unq, rqu, if_neg hc, h1, h2]
  | c :: r, true, acc => by
    have h2 := unq_quote r false (acc ++ [mng c])
    simp only [List.cons_append, unq, rqu, h2]
theorem unq_other (x : UInt8) (hx : ¬ x = 34) : ∀ (l : List UInt8) (e : Bool) (acc : List UInt8), unq e (l ++ [x]) acc = none
  | [], false, acc => by simp [unq, hx]
  | [], true, acc => by simp [unq]
  | c :: r, false, acc => by
    have h1 := unq_other x hx r true acc
    have h2 := unq_other x hx r false (acc ++ [c])
    have : ¬ r ++ [x] = [] := by simp
    simp only [List.cons_append, unq, h1, h2, if_neg this]
    simp
  | c :: r, true, acc => by
    have h2 := unq_other x hx r false (acc ++ [mng c])
    simp only [List.cons_append, unq, h2]
    simp
theorem mng_sgn {c : UInt8} (h : ¬ sgn c = 0) : mng (sgn c) = c ∧ ¬ mng (sgn c) = 0 := by
  rcases five c 34 92 10 13 9 with rfl | rfl | rfl | rfl | rfl | ⟨h1, h2, h3, h4, h5⟩
  · decide
  · decide
  · decide
  · decide
  · decide
  · exact absurd (sgn_no h1 h2 h3 h4 h5) h
theorem sgn_self {c : UInt8} (h : sgn c = 0) : ¬ c = 34 ∧ ¬ c = 92 := by
  constructor
  · rintro rfl; exact absurd h (by decide)
  · rintro rfl; exact absurd h (by decide)
theorem rqu_back : ∀ (l acc : List UInt8), rqu false (quoAll l) acc = some (acc ++ l)
  | [], acc => by simp [quoAll, rqu]
  | c :: r, acc => by
    have h1 := rqu_back r (acc ++ [c])
    have hq : quoAll (c :: r) = quo c ++ quoAll r := by simp [quoAll]
    rw [hq]
    unfold quo
    by_cases hs : sgn c = 0
    · rw [if_pos hs]
      obtain ⟨_, h92⟩ := sgn_self hs
      simp only [List.cons_append, List.nil_append, rqu, if_neg h92, if_pos hs, h1]
      simp
    · rw [if_neg hs]
      obtain ⟨e1, e2⟩ := mng_sgn hs
      simp only [List.cons_append, List.nil_append, rqu, if_neg e2]
      rw [e1, h1]
      simp
theorem drop_at (s : ByteArray) (k : Nat) (h : k < s.size) : s.data.toList.drop k = s[k] :: s.data.toList.drop (k + 1) := by
  rw [List.drop_eq_getElem_cons (by simpa using h)]; rfl
theorem drop_end (s : ByteArray) : s.data.toList.drop s.size = [] := by simp
theorem drop_nil (s : ByteArray) (k : Nat) : s.data.toList.drop k = [] ↔ s.size ≤ k := by simp
/-- what a machine's state comes to -/
def St (s : ByteArray) (X : Option (List UInt8)) (l k : Nat) (acc : List UInt8) : Prop :=
  (l = 0 ∧ X = none) ∨ (l = 1 ∧ X = unq false (s.data.toList.drop k) acc) ∨ (l = 2 ∧ X = if k = s.size then some acc else none) ∨ (l = 3 ∧ X = unq true (s.data.toList.drop k) acc)
theorem st_zero {s : ByteArray} {X : Option (List UInt8)} {k : Nat} {acc : List UInt8} (h : X = none) : St s X 0 k acc := .inl ⟨rfl, h⟩
theorem st1_end {s : ByteArray} {X : Option (List UInt8)} {acc : List UInt8} {e : Bool} (h : X = unq e (s.data.toList.drop s.size) acc) (j : Nat) (acc' : List UInt8) : St s X 0 j acc' :=
  .inl ⟨rfl, by rw [h, drop_end]; cases e <;> rfl⟩
theorem st1_quote {s : ByteArray} {X : Option (List UInt8)} {k : Nat} {acc : List UInt8} (h : X = unq false (s.data.toList.drop k) acc) (hk : k < s.size) (hc : s[k] = 34) : St s X 2 (k + 1) acc := by
  refine .inr (.inr (.inl ⟨rfl, ?_⟩))
  rw [h, drop_at s k hk, unq, if_pos hc]
  by_cases e : k + 1 = s.size
  · rw [if_pos ((drop_nil s _).2 (by omega)), if_pos e]
  · rw [if_neg (fun e2 => e (by have := (drop_nil s _).1 e2; omega)), if_neg e]
theorem st1_back {s : ByteArray} {X : Option (List UInt8)} {k : Nat} {acc : List UInt8} (h : X = unq false (s.data.toList.drop k) acc) (hk : k < s.size) (hc : s[k] = 92) : St s X 3 (k + 1) acc := by
  refine .inr (.inr (.inr ⟨rfl, ?_⟩))
  rw [h, drop_at s k hk, unq, if_neg (by rw [hc]; decide), if_pos hc]
theorem st1_wrong {s : ByteArray} {X : Option (List UInt8)} {k : Nat} {acc : List UInt8} (h : X = unq false (s.data.toList.drop k) acc) (hk : k < s.size) (h1 : ¬ s[k] = 34) (h2 : ¬ s[k] = 92) (h3 : ¬ sgn s[k] = 0) (j : Nat) (acc' : List UInt8) : St s X 0 j acc' :=
  .inl ⟨rfl, by rw [h, drop_at s k hk, unq, if_neg h1, if_neg h2, if_neg h3]⟩
theorem st1_take {s : ByteArray} {X : Option (List UInt8)} {k : Nat} {acc : List UInt8} (h : X = unq false (s.data.toList.drop k) acc) (hk : k < s.size) (h3 : sgn s[k] = 0) : St s X 1 (k + 1) (acc ++ [s[k]]) := by
  refine .inr (.inl ⟨rfl, ?_⟩)
  obtain ⟨h1, h2⟩ := sgn_self h3
  rw [h, drop_at s k hk, unq, if_neg h1, if_neg h2, if_pos h3]
theorem st3_wrong {s : ByteArray} {X : Option (List UInt8)} {k : Nat} {acc : List UInt8} (h : X = unq true (s.data.toList.drop k) acc) (hk : k < s.size) (h3 : mng s[k] = 0) (j : Nat) (acc' : List UInt8) : St s X 0 j acc' :=
  .inl ⟨rfl, by rw [h, drop_at s k hk, unq, if_pos h3]⟩
theorem st3_take {s : ByteArray} {X : Option (List UInt8)} {k : Nat} {acc : List UInt8} (h : X = unq true (s.data.toList.drop k) acc) (hk : k < s.size) (h3 : ¬ mng s[k] = 0) : St s X 1 (k + 1) (acc ++ [mng s[k]]) := by
  refine .inr (.inl ⟨rfl, ?_⟩)
  rw [h, drop_at s k hk, unq, if_neg h3]
/-- the text and the error that a reading comes to -/
def ansX (X : Option (List UInt8)) : Value := match X with
  | some l => .tuple #[.string (mkb l), .int .i64 0]
  | none => .tuple #[.string { data := #[] }, .int .i64 5]
end Go.Proofs.YtonajmngchfjeaaDoor
