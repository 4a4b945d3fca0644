/-
  The law CharsQuotes, for texts that are no longer than a bound.
-/
import Derived.Test.YtonajmngchfjeaaDoorDocUnq
import Derived.Test.YtonajmngchfjeaaDoorBl
namespace Go.Proofs.YtonajmngchfjeaaDoor
open Go.RowKit Txt
attribute [local go_sem] setCell_drewN cell?_ext frozen?_ext shape?_ext setCell_ext lt_1' ne_1' en_1' le_1' lt_2' ne_2' en_2' le_2' lt_3' ne_3' en_3' le_3' lt_4' ne_4' en_4' le_4' lt_5' ne_5' en_5' le_5' lt_6' ne_6' en_6' le_6' lt_7' ne_7' en_7' le_7' lt_8' ne_8' en_8' le_8' lt_9' ne_9' en_9' le_9' lt_10' ne_10' en_10' le_10' lt_11' ne_11' en_11' le_11' lt_12' ne_12' en_12' le_12'

theorem sgn_high {c : UInt8} (h : 128 ≤ c.toNat) : sgn c = 0 := by
  refine sgn_no ?_ ?_ ?_ ?_ ?_
  all_goals (rintro rfl; exact absurd h (by decide))
theorem sgn_ascii {c : UInt8} (h : ¬ sgn c = 0) : (sgn c).toNat < 128 ∧ okI ((sgn c).toNat : Int) = true := by
  rcases five c 34 92 10 13 9 with rfl | rfl | rfl | rfl | rfl | ⟨h1, h2, h3, h4, h5⟩
  · decide
  · decide
  · decide
  · decide
  · decide
  · exact absurd (sgn_no h1 h2 h3 h4 h5) h
theorem quoted_TX {l : List UInt8} (h : TX l) : TX (quoAll l) :=
  TX.flat (fun c hc => quo_self (sgn_high hc)) (fun c hc hok => by
    by_cases hs : sgn c = 0
    · rw [quo_self hs]; exact .ascii hc hok
    · rw [quo_two hs]
      obtain ⟨a1, a2⟩ := sgn_ascii hs
      exact TX.append (a := [92]) (.ascii (by decide) (by decide)) (.ascii a1 a2)) h
theorem qText_text (s : ByteArray) (h : isText s = true) : isText (qText s) = true := by
  rw [isText_TX] at h ⊢
  have h34 : TX [34] := .ascii (by decide) (by decide)
  exact TX.append (a := 34 :: quoAll s.data.toList) (TX.append (a := [34]) h34 (quoted_TX h)) h34
theorem qText_size (s : ByteArray) : (qText s).size ≤ 2 * s.size + 2 := by
  have h := qL_len s.data.toList
  have e : (qText s).size = (qL s.data.toList ++ [34]).length := rfl
  rw [e, List.length_append]
  simp at h ⊢
  omega
theorem qText_back (s : ByteArray) : ansX (unX (qText s)) = .tuple #[.string s, .int .i64 0] := by
  have e : unX (qText s) = some s.data.toList := by
    have h2 : 2 ≤ (qText s).size := by
      have e : (qText s).size = (qL s.data.toList ++ [34]).length := rfl
      rw [e]; simp [qL]
    unfold unX
    have e0 : (qText s)[0]'(by omega) = 34 := rfl
    rw [dif_pos h2, if_pos e0]
    show unq false (quoAll s.data.toList ++ [34]) [] = _
    rw [unq_quote, rqu_back]
    rfl
  rw [e]
  rfl
theorem ans_form (s : ByteArray) : ∃ (a : ByteArray) (g : Int), (if isText s = true then ansX (unX s) else .tuple #[.string { data := #[] }, .int .i64 2]) = .tuple #[.string a, .int .i64 g] := by
  split
  · cases unX s with
    | none => exact ⟨_, _, rfl⟩
    | some l => exact ⟨_, _, rfl⟩
  · exact ⟨_, _, rfl⟩
end Go.Proofs.YtonajmngchfjeaaDoor
