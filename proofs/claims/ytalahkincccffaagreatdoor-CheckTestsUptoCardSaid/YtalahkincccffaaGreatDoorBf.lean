/-
  Contracts of chars.Escape, Name and Word, and the statements' own first question of package chars.
  Contracts of Word and Name, and the statements' own first question of package chars.
-/
import Derived.Test.YtalahkincccffaaGreatDoorValid
import Derived.Lib.BufSteps
import Derived.Lib.UnsafeStr
import Derived.Laws.BytesArg
import Derived.Laws.IdiomStrings
import Derived.OwnWalk
namespace Go.Proofs.YtalahkincccffaaGreatDoor
open Go.RowKit Txt
attribute [local go_sem] setCell_drewN cell?_ext frozen?_ext shape?_ext setCell_ext lt_1' ne_1' en_1' le_1' lt_2' ne_2' en_2' le_2' lt_3' ne_3' en_3' le_3' lt_4' ne_4' en_4' le_4' lt_5' ne_5' en_5' le_5' lt_6' ne_6' en_6' le_6' lt_7' ne_7' en_7' le_7' lt_8' ne_8' en_8' le_8' lt_9' ne_9' en_9' le_9' lt_10' ne_10' en_10' le_10' lt_11' ne_11' en_11' le_11' lt_12' ne_12' en_12' le_12'

abbrev mkb (l : List UInt8) : ByteArray := ⟨l.toArray⟩
abbrev Buf (B : Nat) (v : Value) (l : List UInt8) (W0 w : World) : Prop := Lib.OwnBuf B 5 v l.length (Lib.byteCells l) W0 w
theorem Buf.nil (W0 : World) {w : World} (hb : Below W0.heap.size W0 w) : Buf W0.heap.size (.slice none 0 0) [] W0 w :=
  ⟨World.ownsRowF_of (World.ownsRow_nil _ _ _ _), hb, hb.size⟩
theorem Buf.congr {B : Nat} {v : Value} {m : List UInt8} {W0 w : World} {n : Nat} {xs : List Value} (h : Lib.OwnBuf B 5 v n xs W0 w) (hn : n = m.length) (hx : xs = Lib.byteCells m) : Buf B v m W0 w := by
  subst hn hx; exact h
end Go.Proofs.YtalahkincccffaaGreatDoor
namespace Go.Proofs.YtalahkincccffaaGreatDoor
open Go.RowKit Txt
attribute [local go_sem] setCell_drewN cell?_ext frozen?_ext shape?_ext setCell_ext lt_1' ne_1' en_1' le_1' lt_2' ne_2' en_2' le_2' lt_3' ne_3' en_3' le_3' lt_4' ne_4' en_4' le_4' lt_5' ne_5' en_5' le_5' lt_6' ne_6' en_6' le_6' lt_7' ne_7' en_7' le_7' lt_8' ne_8' en_8' le_8' lt_9' ne_9' en_9' le_9' lt_10' ne_10' en_10' le_10' lt_11' ne_11' en_11' le_11' lt_12' ne_12' en_12' le_12'

def words : List (List UInt8) := [[97, 110, 100], [98, 101, 116, 119, 101, 101, 110], [101, 108, 115, 101], [102, 97, 108, 115, 101], [105, 102], [105, 110], [110, 111, 116], [110, 117, 108, 108], [111, 114], [116, 104, 101, 110], [116, 114, 117, 101]]
def isWord (s : ByteArray) : Bool := words.contains s.data.toList
theorem word_split (s : ByteArray) : (isWord s = true ∧ (s = mkb [97, 110, 100] ∨ s = mkb [98, 101, 116, 119, 101, 101, 110] ∨ s = mkb [101, 108, 115, 101] ∨ s = mkb [102, 97, 108, 115, 101] ∨ s = mkb [105, 102] ∨ s = mkb [105, 110] ∨ s = mkb [110, 111, 116] ∨ s = mkb [110, 117, 108, 108] ∨ s = mkb [111, 114] ∨ s = mkb [116, 104, 101, 110] ∨ s = mkb [116, 114, 117, 101])) ∨ (isWord s = false ∧ ∀ l ∈ words, (s.data.toList == l) = false) := by
  cases h : isWord s with
  | true =>
    refine .inl ⟨rfl, ?_⟩
    unfold isWord words at h
    have h2 := List.contains_iff_mem.1 h
    have key : ∀ l : List UInt8, s.data.toList = l → s = mkb l := fun l e => by cases s with | mk d => subst e; rfl
    simp only [List.mem_cons, List.mem_nil_iff, or_false] at h2
    rcases h2 with h2 | h2 | h2 | h2 | h2 | h2 | h2 | h2 | h2 | h2 | h2
    · exact .inl (key _ h2)
    · exact .inr (.inl (key _ h2))
    · exact .inr (.inr (.inl (key _ h2)))
    · exact .inr (.inr (.inr (.inl (key _ h2))))
    · exact .inr (.inr (.inr (.inr (.inl (key _ h2)))))
    · exact .inr (.inr (.inr (.inr (.inr (.inl (key _ h2))))))
    · exact .inr (.inr (.inr (.inr (.inr (.inr (.inl (key _ h2)))))))
    · exact .inr (.inr (.inr (.inr (.inr (.inr (.inr (.inl (key _ h2))))))))
    · exact .inr (.inr (.inr (.inr (.inr (.inr (.inr (.inr (.inl (key _ h2)))))))))
    · exact .inr (.inr (.inr (.inr (.inr (.inr (.inr (.inr (.inr (.inl (key _ h2))))))))))
    · exact .inr (.inr (.inr (.inr (.inr (.inr (.inr (.inr (.inr (.inr (key _ h2))))))))))
  | false =>
    refine .inr ⟨rfl, fun l hl => ?_⟩
    unfold isWord at h
    by_cases e : s.data.toList = l
    · rw [e] at h
      rw [List.contains_iff_mem.2 hl] at h
      cases h
    · simpa using e
set_option maxHeartbeats 1000000 in
theorem word_any (s : ByteArray) (w : World) : Calls Tryz.prog 50 #[.string s] w fun e w' => e = .returned (.bool (isWord s)) ∧ w = w' := by
  rcases word_split s with ⟨hw, hc⟩ | ⟨hw, h⟩
  · rw [hw]
    clear hw
    rcases hc with rfl | rfl | rfl | rfl | rfl | rfl | rfl | rfl | rfl | rfl | rfl
    all_goals
      go_enter Tryz.func50, Tryz.ntmps50
      go_wp2
      go_ret
      exact ⟨rfl, rfl⟩
  rw [hw]
  clear hw
  have e0 : (s.toList == [97, 110, 100]) = false := by rw [ByteArray.toList_eq]; exact h _ (by simp [words])
  have e1 : (s.toList == [98, 101, 116, 119, 101, 101, 110]) = false := by rw [ByteArray.toList_eq]; exact h _ (by simp [words])
  have e2 : (s.toList == [101, 108, 115, 101]) = false := by rw [ByteArray.toList_eq]; exact h _ (by simp [words])
  have e3 : (s.toList == [102, 97, 108, 115, 101]) = false := by rw [ByteArray.toList_eq]; exact h _ (by simp [words])
  have e4 : (s.toList == [105, 102]) = false := by rw [ByteArray.toList_eq]; exact h _ (by simp [words])
  have e5 : (s.toList == [105, 110]) = false := by rw [ByteArray.toList_eq]; exact h _ (by simp [words])
  have e6 : (s.toList == [110, 111, 116]) = false := by rw [ByteArray.toList_eq]; exact h _ (by simp [words])
  have e7 : (s.toList == [110, 117, 108, 108]) = false := by rw [ByteArray.toList_eq]; exact h _ (by simp [words])
  have e8 : (s.toList == [111, 114]) = false := by rw [ByteArray.toList_eq]; exact h _ (by simp [words])
  have e9 : (s.toList == [116, 104, 101, 110]) = false := by rw [ByteArray.toList_eq]; exact h _ (by simp [words])
  have e10 : (s.toList == [116, 114, 117, 101]) = false := by rw [ByteArray.toList_eq]; exact h _ (by simp [words])
  clear h
  go_enter Tryz.func50, Tryz.ntmps50
  go_wp2
  go_ret
  exact ⟨rfl, rfl⟩
set_option maxHeartbeats 1000000 in
theorem rword_any (s : ByteArray) (w : World) : Calls Tryz.prog 42 #[.string s] w fun e w' => e = .returned (.bool (isWord s)) ∧ w = w' := by
  rcases word_split s with ⟨hw, hc⟩ | ⟨hw, h⟩
  · rw [hw]
    clear hw
    rcases hc with rfl | rfl | rfl | rfl | rfl | rfl | rfl | rfl | rfl | rfl | rfl
    all_goals
      go_enter Tryz.func42, Tryz.ntmps42
      go_wp2
      go_ret
      exact ⟨rfl, rfl⟩
  rw [hw]
  clear hw
  have e0 : (s.toList == [97, 110, 100]) = false := by rw [ByteArray.toList_eq]; exact h _ (by simp [words])
  have e1 : (s.toList == [98, 101, 116, 119, 101, 101, 110]) = false := by rw [ByteArray.toList_eq]; exact h _ (by simp [words])
  have e2 : (s.toList == [101, 108, 115, 101]) = false := by rw [ByteArray.toList_eq]; exact h _ (by simp [words])
  have e3 : (s.toList == [102, 97, 108, 115, 101]) = false := by rw [ByteArray.toList_eq]; exact h _ (by simp [words])
  have e4 : (s.toList == [105, 102]) = false := by rw [ByteArray.toList_eq]; exact h _ (by simp [words])
  have e5 : (s.toList == [105, 110]) = false := by rw [ByteArray.toList_eq]; exact h _ (by simp [words])
  have e6 : (s.toList == [110, 111, 116]) = false := by rw [ByteArray.toList_eq]; exact h _ (by simp [words])
  have e7 : (s.toList == [110, 117, 108, 108]) = false := by rw [ByteArray.toList_eq]; exact h _ (by simp [words])
  have e8 : (s.toList == [111, 114]) = false := by rw [ByteArray.toList_eq]; exact h _ (by simp [words])
  have e9 : (s.toList == [116, 104, 101, 110]) = false := by rw [ByteArray.toList_eq]; exact h _ (by simp [words])
  have e10 : (s.toList == [116, 114, 117, 101]) = false := by rw [ByteArray.toList_eq]; exact h _ (by simp [words])
  clear h
  go_enter Tryz.func42, Tryz.ntmps42
  go_wp2
  go_ret
  exact ⟨rfl, rfl⟩
def letN (x : Nat) : Bool := decide ((97 ≤ x ∧ x ≤ 122) ∨ (65 ≤ x ∧ x ≤ 90) ∨ x = 95)
def digN (x : Nat) : Bool := decide (48 ≤ x ∧ x ≤ 57)
theorem let_split (x : Nat) : (letN x = true ∧ ((97 ≤ x ∧ x ≤ 122) ∨ ((65 ≤ x ∧ x ≤ 90) ∧ x < 97) ∨ x = 95)) ∨ (letN x = false ∧ (x < 65 ∨ (91 ≤ x ∧ x < 95) ∨ x = 96 ∨ 122 < x)) := by
  by_cases h : (97 ≤ x ∧ x ≤ 122) ∨ (65 ≤ x ∧ x ≤ 90) ∨ x = 95
  · exact .inl ⟨decide_eq_true h, by omega⟩
  · exact .inr ⟨decide_eq_false h, by omega⟩
theorem dig_split (x : Nat) : (digN x = true ∧ 48 ≤ x ∧ x ≤ 57) ∨ (digN x = false ∧ (x < 48 ∨ (48 ≤ x ∧ 57 < x))) := by
  by_cases h : 48 ≤ x ∧ x ≤ 57
  · exact .inl ⟨decide_eq_true h, h⟩
  · exact .inr ⟨decide_eq_false h, by omega⟩
theorem digit_any (x : Nat) (w : World) : Calls Tryz.prog 51 #[.int .u8 (x : Int)] w fun e w' => e = .returned (.bool (digN x)) ∧ w = w' := by
  rcases dig_split x with ⟨h, h1, h2⟩ | ⟨h, h1 | ⟨h1, h2⟩⟩
  · rw [h]
    have g : decide ((x : Int) ≤ 57) = true := by simp; omega
    clear h
    go_enter Tryz.func51, Tryz.ntmps51
    go_wp2
    go_ret
    exact ⟨rfl, rfl⟩
  · rw [h]
    clear h
    go_enter Tryz.func51, Tryz.ntmps51
    go_wp2
    go_ret
    exact ⟨rfl, rfl⟩
  · rw [h]
    have g : decide ((x : Int) ≤ 57) = false := by simp; omega
    clear h
    go_enter Tryz.func51, Tryz.ntmps51
    go_wp2
    go_ret
    exact ⟨rfl, rfl⟩
theorem rdigit_any (x : Nat) (w : World) : Calls Tryz.prog 43 #[.int .u8 (x : Int)] w fun e w' => e = .returned (.bool (digN x)) ∧ w = w' := by
  rcases dig_split x with ⟨h, h1, h2⟩ | ⟨h, h1 | ⟨h1, h2⟩⟩
  · rw [h]
    have g : decide ((x : Int) ≤ 57) = true := by simp; omega
    clear h
    go_enter Tryz.func43, Tryz.ntmps43
    go_wp2
    go_ret
    exact ⟨rfl, rfl⟩
  · rw [h]
    clear h
    go_enter Tryz.func43, Tryz.ntmps43
    go_wp2
    go_ret
    exact ⟨rfl, rfl⟩
  · rw [h]
    have g : decide ((x : Int) ≤ 57) = false := by simp; omega
    clear h
    go_enter Tryz.func43, Tryz.ntmps43
    go_wp2
    go_ret
    exact ⟨rfl, rfl⟩
theorem letter_any (x : Nat) (w : World) : Calls Tryz.prog 52 #[.int .u8 (x : Int)] w fun e w' => e = .returned (.bool (letN x)) ∧ w = w' := by
  rcases let_split x with ⟨h, ⟨h1, h2⟩ | ⟨⟨h1, h2⟩, h3⟩ | rfl⟩ | ⟨h, h1 | ⟨h1, h2⟩ | rfl | h1⟩
  all_goals
    rw [h]
    first
      | (have g1 : decide ((x : Int) ≤ 122) = true := by simp; omega)
      | (have g1 : decide ((x : Int) ≤ 122) = false := by simp; omega)
      | skip
    first
      | (have g2 : decide ((x : Int) ≤ 90) = true := by simp; omega)
      | (have g2 : decide ((x : Int) ≤ 90) = false := by simp; omega)
      | skip
    first
      | (have g3 : decide (97 ≤ (x : Int)) = true := by simp; omega)
      | (have g3 : decide (97 ≤ (x : Int)) = false := by simp; omega)
      | skip
    first
      | (have g4 : decide (65 ≤ (x : Int)) = true := by simp; omega)
      | (have g4 : decide (65 ≤ (x : Int)) = false := by simp; omega)
      | skip
    first
      | (have g5 : ((x : Int) == 95) = false := by simp; omega)
      | skip
    clear h
    go_enter Tryz.func52, Tryz.ntmps52
    go_wp2
    go_ret
    exact ⟨rfl, rfl⟩
theorem rletter_any (x : Nat) (w : World) : Calls Tryz.prog 41 #[.int .u8 (x : Int)] w fun e w' => e = .returned (.bool (letN x)) ∧ w = w' := by
  rcases let_split x with ⟨h, ⟨h1, h2⟩ | ⟨⟨h1, h2⟩, h3⟩ | rfl⟩ | ⟨h, h1 | ⟨h1, h2⟩ | rfl | h1⟩
  all_goals
    rw [h]
    first
      | (have g1 : decide ((x : Int) ≤ 122) = true := by simp; omega)
      | (have g1 : decide ((x : Int) ≤ 122) = false := by simp; omega)
      | skip
    first
      | (have g2 : decide ((x : Int) ≤ 90) = true := by simp; omega)
      | (have g2 : decide ((x : Int) ≤ 90) = false := by simp; omega)
      | skip
    first
      | (have g3 : decide (97 ≤ (x : Int)) = true := by simp; omega)
      | (have g3 : decide (97 ≤ (x : Int)) = false := by simp; omega)
      | skip
    first
      | (have g4 : decide (65 ≤ (x : Int)) = true := by simp; omega)
      | (have g4 : decide (65 ≤ (x : Int)) = false := by simp; omega)
      | skip
    first
      | (have g5 : ((x : Int) == 95) = false := by simp; omega)
      | skip
    clear h
    go_enter Tryz.func41, Tryz.ntmps41
    go_wp2
    go_ret
    exact ⟨rfl, rfl⟩
end Go.Proofs.YtalahkincccffaaGreatDoor
