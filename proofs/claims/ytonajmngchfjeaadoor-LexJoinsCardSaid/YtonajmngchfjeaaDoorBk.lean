/-
  Contracts of Split and DocSplit, DocDay, yearOf.
  Contracts of Add, Months and the document's DocAdd, DocMonths.
  The laws of package date's numbers (DateDays, DateSplits, DateSteps) answer true, given their own first question's answer.
  The contracts of strconv.Itoa and strings.Repeat at this program's numbers.
  Contracts of Print, and the statements' own first question of package date.
  Contracts of Parse and of the document's answers for texts of days.
  Contracts of the document's answers for texts of days: DocParse, Told, DocPrint.
-/
import Derived.Test.YtonajmngchfjeaaDoorBb
import Derived.Shelf.LaysM
import Derived.Shelf.Strconv.Itoa3
import Derived.Shelf.Strings.Repeat
import Derived.Test.YtonajmngchfjeaaDoorProg
import Derived.WalkSmall
namespace Go.Proofs.YtonajmngchfjeaaDoor
open Go.RowKit

theorem two_ints {k l : IntKind} {a b c d : Int} (h : a = c) (h' : b = d) : Ending.returned (.tuple #[.int k a, .int l b]) = .returned (.tuple #[.int k c, .int l d]) := by rw [h, h']
theorem int_eq {k : IntKind} {a b : Int} (h : a = b) : Value.int k a = .int k b := by rw [h]

end Go.Proofs.YtonajmngchfjeaaDoor
namespace Go.Proofs.YtonajmngchfjeaaDoor
open Go.RowKit

/-- where the counting of months comes to -/
def AtMonth (a k : Int) (u1 u6 u7 : Value) (j : Int) : Prop := u1 = .int .i64 (k - j) ∧ u6 = .int .i64 ((a + j) / 12 + 1) ∧ u7 = .int .i64 ((a + j) % 12 + 1)
end Go.Proofs.YtonajmngchfjeaaDoor
namespace Go.Proofs.YtonajmngchfjeaaDoor
open Go.RowKit
attribute [local go_sem] setCell_drewN cell?_ext frozen?_ext shape?_ext setCell_ext lt_1' ne_1' en_1' le_1' lt_2' ne_2' en_2' le_2' lt_3' ne_3' en_3' le_3' lt_4' ne_4' en_4' le_4' lt_5' ne_5' en_5' le_5' lt_6' ne_6' en_6' le_6' lt_7' ne_7' en_7' le_7' lt_8' ne_8' en_8' le_8' lt_9' ne_9' en_9' le_9' lt_10' ne_10' en_10' le_10' lt_11' ne_11' en_11' le_11' lt_12' ne_12' en_12' le_12'

end Go.Proofs.YtonajmngchfjeaaDoor
namespace Go.Proofs
open Go.Shelf
end Go.Proofs
namespace Go.Proofs.YtonajmngchfjeaaDoor
open Go.RowKit
attribute [local go_sem] setCell_drewN cell?_ext frozen?_ext shape?_ext setCell_ext lt_1' ne_1' en_1' le_1' lt_2' ne_2' en_2' le_2' lt_3' ne_3' en_3' le_3' lt_4' ne_4' en_4' le_4' lt_5' ne_5' en_5' le_5' lt_6' ne_6' en_6' le_6' lt_7' ne_7' en_7' le_7' lt_8' ne_8' en_8' le_8' lt_9' ne_9' en_9' le_9' lt_10' ne_10' en_10' le_10' lt_11' ne_11' en_11' le_11' lt_12' ne_12' en_12' le_12'

/-- two decimal digits -/
def two (n : Nat) : List UInt8 := [UInt8.ofNat (48 + n / 10), UInt8.ofNat (48 + n % 10)]
def four (n : Nat) : List UInt8 := two (n / 100) ++ two (n % 100)
theorem dec_len {n : Nat} (h : n < 10000) : (Lib.decDigits n).length = if n < 10 then 1 else if n < 100 then 2 else if n < 1000 then 3 else 4 := by
  rw [Lib.decDigits_length]
  by_cases h1 : n < 10
  · rw [if_pos h1, Lib.nDigits_small h1]
  · rw [if_neg h1]
    by_cases h2 : n < 100
    · rw [if_pos h2, Lib.nDigits_unique 1 n (by omega) (by omega)]
    · rw [if_neg h2]
      by_cases h3 : n < 1000
      · rw [if_pos h3, Lib.nDigits_unique 2 n (by omega) (by omega)]
      · rw [if_neg h3, Lib.nDigits_unique 3 n (by omega) (by omega)]
theorem dec_big {n : Nat} (h : ¬ n < 10) : Lib.decDigits n = Lib.decDigits (n / 10) ++ [UInt8.ofNat (48 + n % 10)] := by rw [Lib.decDigits, dif_neg h]
theorem pad_two {n : Nat} (h : n < 100) : Lib.repeatL [48] (2 - (Lib.decDigits n).length) ++ Lib.decDigits n = two n := by
  rw [dec_len (by omega)]
  by_cases h1 : n < 10
  · rw [if_pos h1, Lib.decDigits_one h1]
    have : n / 10 = 0 := by omega
    have : n % 10 = n := by omega
    simp [Lib.repeatL, two, *]
  · rw [if_neg h1, if_pos h, Lib.decDigits_two h1 h]
    simp [Lib.repeatL, two]
theorem pad_four {n : Nat} (h : n < 10000) : Lib.repeatL [48] (4 - (Lib.decDigits n).length) ++ Lib.decDigits n = four n := by
  rw [dec_len h]
  by_cases h1 : n < 10
  · rw [if_pos h1, Lib.decDigits_one h1]
    have e1 : n / 100 / 10 = 0 := by omega
    have e2 : n / 100 % 10 = 0 := by omega
    have e3 : n % 100 / 10 = 0 := by omega
    have e4 : n % 100 % 10 = n := by omega
    simp [Lib.repeatL, four, two, e1, e2, e3, e4]
  · rw [if_neg h1]
    by_cases h2 : n < 100
    · rw [if_pos h2, Lib.decDigits_two h1 h2]
      have e1 : n / 100 / 10 = 0 := by omega
      have e2 : n / 100 % 10 = 0 := by omega
      have e3 : n % 100 = n := by omega
      simp [Lib.repeatL, four, two, e1, e2, e3]
    · rw [if_neg h2]
      by_cases h3 : n < 1000
      · rw [if_pos h3, dec_big h1, Lib.decDigits_two (by omega) (by omega)]
        have e1 : n / 100 / 10 = 0 := by omega
        have e2 : n / 100 % 10 = n / 10 / 10 := by omega
        have e3 : n % 100 / 10 = n / 10 % 10 := by omega
        have e4 : n % 100 % 10 = n % 10 := by omega
        simp [Lib.repeatL, four, two, e1, e2, e3, e4]
      · rw [if_neg h3, dec_big h1, dec_big (by omega), Lib.decDigits_two (by omega) (by omega)]
        have e1 : n / 100 / 10 = n / 10 / 10 / 10 := by omega
        have e2 : n / 100 % 10 = n / 10 / 10 % 10 := by omega
        have e3 : n % 100 / 10 = n / 10 % 10 := by omega
        have e4 : n % 100 % 10 = n % 10 := by omega
        simp [Lib.repeatL, four, two, e1, e2, e3, e4]
/-- the table of powers of ten that the library's numerals read -/
def Pow (w : World) : Prop := Lib.TabIs Tryd.prog w "internal/strconv.uint64pow10" .u64 Lib.pow10Tab
/-- a text out of its bytes -/
abbrev mk (l : List UInt8) : ByteArray := ⟨l.toArray⟩
theorem mk_append (a b : List UInt8) : mk a ++ mk b = mk (a ++ b) := by apply ByteArray.ext; simp
theorem str_eq {a b : ByteArray} (h : a = b) : Ending.returned (.string a) = .returned (.string b) := by rw [h]
theorem dt_str_tuple {a b : ByteArray} {v : Value} (h : a = b) : Ending.returned (.tuple #[.string a, v]) = .returned (.tuple #[.string b, v]) := by rw [h]
/-- the text of a day -/
def told (y m d : Nat) : ByteArray := mk (four y ++ [45] ++ two m ++ [45] ++ two d)
theorem told_first : told 1 1 1 = { data := #[48, 48, 48, 49, 45, 48, 49, 45, 48, 49] } := by decide
theorem known_day : Cal.IsDay 3652059 9999 12 31 := ⟨by decide, by decide, by decide, by decide, by decide, by decide, by decide⟩
theorem known_first : Cal.IsDay 1 ((1 : Nat) : Int) ((1 : Nat) : Int) ((1 : Nat) : Int) := ⟨by decide, by decide, by decide, by decide, by decide, by decide, by decide⟩
end Go.Proofs.YtonajmngchfjeaaDoor
namespace Go.Proofs.YtonajmngchfjeaaDoor
open Go.RowKit
attribute [local go_sem] setCell_drewN cell?_ext frozen?_ext shape?_ext setCell_ext lt_1' ne_1' en_1' le_1' lt_2' ne_2' en_2' le_2' lt_3' ne_3' en_3' le_3' lt_4' ne_4' en_4' le_4' lt_5' ne_5' en_5' le_5' lt_6' ne_6' en_6' le_6' lt_7' ne_7' en_7' le_7' lt_8' ne_8' en_8' le_8' lt_9' ne_9' en_9' le_9' lt_10' ne_10' en_10' le_10' lt_11' ne_11' en_11' le_11' lt_12' ne_12' en_12' le_12'

theorem two_res {k : IntKind} {a b : Int} {v : Value} (h : a = b) : Ending.returned (.tuple #[.int k a, v]) = .returned (.tuple #[.int k b, v]) := by rw [h]
/-- a byte is a decimal digit -/
def dgB (c : UInt8) : Bool := decide (48 ≤ c.toNat) && decide (c.toNat ≤ 57)
theorem dgB_iff {c : UInt8} : dgB c = true ↔ 48 ≤ c.toNat ∧ c.toNat ≤ 57 := by simp [dgB]
/-- what decimal digits say -/
def num (l : List UInt8) : Int := l.foldl (fun n c => n * 10 + ((c.toNat : Int) - 48)) 0
theorem num_snoc (l : List UInt8) (c : UInt8) : num (l ++ [c]) = num l * 10 + ((c.toNat : Int) - 48) := by simp [num]
theorem dt_take_snoc (s : ByteArray) (k : Nat) (h : k < s.size) : s.data.toList.take (k + 1) = s.data.toList.take k ++ [s[k]] := by
  rw [List.take_succ_eq_append_getElem (by simpa using h)]; rfl
theorem num_bd : ∀ (k : Nat) (s : ByteArray), k ≤ s.size → (∀ i (h : i < s.size), dgB s[i] = true) → 0 ≤ num (s.data.toList.take k) ∧ num (s.data.toList.take k) ≤ 10 ^ k - 1
  | 0, _, _, _ => by simp [num]
  | k + 1, s, hk, hs => by
    obtain ⟨a, b⟩ := num_bd k s (by omega) hs
    have := dgB_iff.1 (hs k (by omega))
    rw [dt_take_snoc s k (by omega), num_snoc, Int.pow_succ]
    omega
set_option maxHeartbeats 1000000 in
theorem dtnumber_any (s : ByteArray) (hs : s.size ≤ 4) (hd : ∀ i (h : i < s.size), dgB s[i] = true) (w : World) :
    Calls Tryd.prog 53 #[.string s] w fun e w' => e = .returned (.int .i64 (num s.data.toList)) ∧ w = w' := by
  have HD := Lib.hid hd
  clear hd
  go_enter Tryd.func53, Tryd.ntmps53
  go_wp2
  go_loop [3, 4] (fun n i => ∃ k : Nat, k ≤ s.size ∧ i = .int .i64 k ∧ n = .int .i64 (num (s.data.toList.take k))) (fun _ i => s.size - (intOf i).toNat)
  case atStart => exact ⟨0, Nat.zero_le _, rfl, rfl⟩
  case round =>
    obtain ⟨k, hk, rfl, rfl⟩ := hrel
    obtain ⟨b1, b2⟩ := num_bd k s hk HD.out
    have hp : (10 : Int) ^ k ≤ 10000 := by
      have h5 : k = 0 ∨ k = 1 ∨ k = 2 ∨ k = 3 ∨ k = 4 := by omega
      rcases h5 with rfl | rfl | rfl | rfl | rfl <;> decide
    have b3 : num (s.data.toList.take k) ≤ 9999 := by omega
    clear b2 hp
    by_cases hlt : k < s.size
    · have hdg := dgB_iff.1 (HD.out k hlt)
      obtain ⟨g1, g2⟩ := hdg
      have HS := Lib.hid (num_snoc (s.data.toList.take k) s[k])
      have HT := Lib.hid (dt_take_snoc s k hlt)
      go_wp2
      all_goals
        go_round
        case rel => exact ⟨k + 1, by omega, by go_num, by rw [HT.out, HS.out]⟩
        case measure => simp [intOf]; omega
    · obtain rfl : k = s.size := by omega
      go_wp2
      go_ret
      exact ⟨ret_int (by rw [List.take_of_length_le (by simp)]), rfl⟩
/-- the syntax of a date -/
def IsD (s : ByteArray) : Prop := s.size = 10 ∧ ∀ i (h : i < s.size), if i = 4 ∨ i = 7 then s[i].toNat = 45 else dgB s[i] = true
set_option maxHeartbeats 1000000 in
theorem isDate_yes (s : ByteArray) (h : IsD s) (w : World) :
    Calls Tryd.prog 51 #[.string s] w fun e w' => e = .returned (.bool true) ∧ w = w' := by
  obtain ⟨hs, hd⟩ := h
  have HD := Lib.hid hd
  clear hd
  have e10 : ((s.size : Int) != 10) = false := by rw [hs]; rfl
  have HS := Lib.hid hs
  clear hs
  go_enter Tryd.func51, Tryd.ntmps51
  go_wp2
  go_loop [3] (fun i => ∃ k : Nat, k ≤ s.size ∧ i = .int .i64 k) (fun i => s.size - (intOf i).toNat)
  case atStart => exact ⟨0, Nat.zero_le _, rfl⟩
  case round =>
    obtain ⟨k, hk, rfl⟩ := hrel
    have hk10 : k ≤ 10 := by have := HS.out; omega
    by_cases hlt : k < s.size
    · have hD := HD.out k hlt
      by_cases h4 : k = 4 ∨ k = 7
      · rw [if_pos h4] at hD
        have hc : ((s[k].toNat : Int) != 45) = false := by rw [hD]; rfl
        clear hD
        by_cases h44 : k = 4
        · have g4 : ((k : Int) == 4) = true := by simp; omega
          clear h4 h44
          go_wp2
          go_round
          case rel => exact ⟨k + 1, by omega, by go_num⟩
          case measure => simp [intOf]; omega
        · have g4 : ((k : Int) == 4) = false := by simp; omega
          have g7 : ((k : Int) == 7) = true := by simp; omega
          clear h4 h44
          go_wp2
          go_round
          case rel => exact ⟨k + 1, by omega, by go_num⟩
          case measure => simp [intOf]; omega
      · rw [if_neg h4] at hD
        obtain ⟨g1, g2⟩ := dgB_iff.1 hD
        have g4 : ((k : Int) == 4) = false := by simp; omega
        have g7 : ((k : Int) == 7) = false := by simp; omega
        clear hD h4
        go_wp2
        go_round
        case rel => exact ⟨k + 1, by omega, by go_num⟩
        case measure => simp [intOf]; omega
    · go_wp2
      go_ret
      exact ⟨rfl, rfl⟩
set_option maxHeartbeats 1000000 in
theorem isDate_no (s : ByteArray) (h : ¬ IsD s) (w : World) :
    Calls Tryd.prog 51 #[.string s] w fun e w' => e = .returned (.bool false) ∧ w = w' := by
  have HD := Lib.hid h
  clear h
  by_cases hs : s.size = 10
  · have e10 : ((s.size : Int) != 10) = false := by rw [hs]; rfl
    have HS := Lib.hid hs
    clear hs
    go_enter Tryd.func51, Tryd.ntmps51
    go_wp2
    go_loop [3] (fun i => ∃ k : Nat, k ≤ s.size ∧ i = .int .i64 k ∧ ∀ j (h : j < s.size), j < k → if j = 4 ∨ j = 7 then s[j].toNat = 45 else dgB s[j] = true) (fun i => s.size - (intOf i).toNat)
    case atStart => exact ⟨0, Nat.zero_le _, rfl, fun j _ h => absurd h (Nat.not_lt_zero j)⟩
    case round =>
      obtain ⟨k, hk, rfl, hbe⟩ := hrel
      have HB := Lib.hid hbe
      clear hbe
      have hk10 : k ≤ 10 := by have := HS.out; omega
      by_cases hlt : k < s.size
      · have hstep : Hid ((if k = 4 ∨ k = 7 then s[k].toNat = 45 else dgB s[k] = true) → ∀ j (h : j < s.size), j < k + 1 → if j = 4 ∨ j = 7 then s[j].toNat = 45 else dgB s[j] = true) := Lib.hid (fun hD j h hj => by
          rcases Nat.lt_or_eq_of_le (Nat.le_of_lt_succ hj) with h1 | rfl
          · exact HB.out j h h1
          · exact hD)
        by_cases h4 : k = 4 ∨ k = 7
        · have g4 : ((k : Int) == 4) = true ∨ (((k : Int) == 4) = false ∧ ((k : Int) == 7) = true) := by
            rcases h4 with rfl | rfl
            · exact .inl rfl
            · exact .inr ⟨rfl, rfl⟩
          by_cases hc : s[k].toNat = 45
          · have hD : Hid (if k = 4 ∨ k = 7 then s[k].toNat = 45 else dgB s[k] = true) := Lib.hid (by rw [if_pos h4]; exact hc)
            have hc' : ((s[k].toNat : Int) != 45) = false := by rw [hc]; rfl
            clear hc h4
            rcases g4 with g4 | ⟨g4, g7⟩
            all_goals
              go_wp2
              go_round
              case rel => exact ⟨k + 1, by omega, by go_num, hstep.out hD.out⟩
              case measure => simp [intOf]; omega
          · have hc' : ((s[k].toNat : Int) != 45) = true := by simp; omega
            clear hc h4
            rcases g4 with g4 | ⟨g4, g7⟩
            all_goals
              go_wp2
              go_ret
              exact ⟨rfl, rfl⟩
        · have g4 : ((k : Int) == 4) = false := by simp; omega
          have g7 : ((k : Int) == 7) = false := by simp; omega
          by_cases hc : dgB s[k] = true
          · have hD : Hid (if k = 4 ∨ k = 7 then s[k].toNat = 45 else dgB s[k] = true) := Lib.hid (by rw [if_neg h4]; exact hc)
            obtain ⟨g1, g2⟩ := dgB_iff.1 hc
            clear hc h4
            go_wp2
            go_round
            case rel => exact ⟨k + 1, by omega, by go_num, hstep.out hD.out⟩
            case measure => simp [intOf]; omega
          · have hc' : s[k].toNat < 48 ∨ (48 ≤ s[k].toNat ∧ 57 < s[k].toNat) := by
              have : ¬ (48 ≤ s[k].toNat ∧ s[k].toNat ≤ 57) := fun h => hc (dgB_iff.2 h)
              omega
            clear hc h4
            rcases hc' with hc | ⟨hc1, hc2⟩
            all_goals
              go_wp2
              go_ret
              exact ⟨rfl, rfl⟩
      · exact absurd ⟨HS.out, fun i h => HB.out i h (by omega)⟩ HD.out
  · have e10 : ((s.size : Int) != 10) = true := by simp; omega
    clear hs
    go_enter Tryd.func51, Tryd.ntmps51
    go_wp2
    go_ret
    exact ⟨rfl, rfl⟩
/-- the three parts of a date's text -/
def py (s : ByteArray) : Int := num (s.extract 0 4).data.toList
def pm (s : ByteArray) : Int := num (s.extract 5 7).data.toList
def pd (s : ByteArray) : Int := num (s.extract 8 s.size).data.toList
def Parts (s : ByteArray) : Prop := s.size = 10 ∧ (s.extract 0 4).size = 4 ∧ (s.extract 5 7).size = 2 ∧ (s.extract 8 s.size).size = 2
theorem parts_of (s : ByteArray) (h : s.size = 10) : Parts s := ⟨h, by simp; omega, by simp; omega, by simp; omega⟩
theorem dg_of (s : ByteArray) (h : IsD s) : (∀ i (h : i < (s.extract 0 4).size), dgB (s.extract 0 4)[i] = true) ∧ (∀ i (h : i < (s.extract 5 7).size), dgB (s.extract 5 7)[i] = true) ∧ (∀ i (h : i < (s.extract 8 s.size).size), dgB (s.extract 8 s.size)[i] = true) := by
  obtain ⟨hs, hd⟩ := h
  obtain ⟨_, p1, p2, p3⟩ := parts_of s hs
  refine ⟨fun i h => ?_, fun i h => ?_, fun i h => ?_⟩
  · rw [ByteArray.getElem_extract]; have := hd (0 + i) (by omega); rw [if_neg (by omega)] at this; exact this
  · rw [ByteArray.getElem_extract]; have := hd (5 + i) (by omega); rw [if_neg (by omega)] at this; exact this
  · rw [ByteArray.getElem_extract]; have := hd (8 + i) (by omega); rw [if_neg (by omega)] at this; exact this
theorem turn {P : Program} {f : FuncId} {args : Array Value} {w : World} {x : Ending} (h : Calls P f args w fun e w' => e = x ∧ w = w') : Calls P f args w fun e w' => e = x ∧ w' = w := h.mono fun _ _ ⟨a, b⟩ => ⟨a, b.symm⟩
theorem Lens.drewN {w : World} (h : Lens w) (n : Nat) : Lens (w.drewN n) := ⟨h.1, fun j hj => h.2 j hj⟩
theorem Parse_no (s : ByteArray) (h : ¬ IsD s) (w : World) :
    Calls Tryd.prog 35 #[.string s] w fun e w' => e = .returned (.tuple #[.int .i64 0, .int .i64 5]) ∧ Below w.heap.size w w' := by
  go_enter Tryd.func35, Tryd.ntmps35
  go_wp2_with (go_at_call 51; refine (isDate_no s h _).mono ?_; rintro e w' ⟨rfl, rfl⟩)
  go_ret2
  exact ⟨rfl, by (repeat' (first | (with_reducible exact Below.refl _ _) | (with_reducible assumption) | (with_reducible refine Below.alloc ?_ ?_ _) | (with_reducible refine below_drewN ?_ _) | (with_reducible refine below_drew ?_) | (with_reducible refine below_ext ?_ ?_ _ _) | (with_reducible refine Below.setCell ?_ ?_ _) | (simp; done) | (simp; omega) | omega))⟩
set_option maxHeartbeats 1000000 in
theorem Parse_core (s : ByteArray) (h : IsD s) (a e : Int) (w : World) (hD : ∀ n, Calls Tryd.prog 52 #[.int .i64 (py s), .int .i64 (pm s), .int .i64 (pd s)] (w.drewN n) fun x w' => x = .returned (.tuple #[.int .i64 a, .int .i64 e]) ∧ w.drewN n = w') (he : (e = 0) ∨ (e = 1 ∧ a = 0)) :
    Calls Tryd.prog 35 #[.string s] w fun x w' => x = .returned (.tuple #[.int .i64 a, .int .i64 (e * 17)]) ∧ Below w.heap.size w w' := by
  have HI := Lib.hid h
  have HD := Lib.hid hD
  obtain ⟨hs, p1, p2, p3⟩ := parts_of s h.1
  obtain ⟨q1, q2, q3⟩ := dg_of s h
  have h1 : 10 ≤ s.size := by omega
  have h2 : s.size ≤ 10 := by omega
  have hA := dtnumber_any (s.extract 0 4) (by omega) q1
  have hB := dtnumber_any (s.extract 5 7) (by omega) q2
  have hC := dtnumber_any (s.extract 8 s.size) (by omega) q3
  rw [← py] at hA; rw [← pm] at hB; rw [← pd] at hC
  have HA := Lib.hid hA; have HB := Lib.hid hB; have HC := Lib.hid hC
  clear hA hB hC
  have k1 : ∀ w, (Instr.slice 9 (.string s) none (some (.int .i64 4)) none).run Tryd.prog w = .ok (.string (s.extract 0 4)) w := fun w => run_slice_string_h (w := w) (P := Tryd.prog) (t := 9) (s := s) Tryd.underlying9 (kh := .i64) (h := 4) (h0 := by omega) (h2 := by omega)
  have k2 : ∀ w, (Instr.slice 9 (.string s) (some (.int .i64 5)) (some (.int .i64 7)) none).run Tryd.prog w = .ok (.string (s.extract 5 7)) w := fun w => run_slice_string (P := Tryd.prog) (w := w) (t := 9) (s := s) (k := .i64) (k' := .i64) (i := 5) (j := 7) (h := Tryd.underlying9) (h0 := by omega) (h1 := by omega) (h2 := by omega)
  have k3 : ∀ w, (Instr.slice 9 (.string s) (some (.int .i64 8)) none none).run Tryd.prog w = .ok (.string (s.extract 8 s.size)) w := fun w => run_slice_string_l (w := w) (P := Tryd.prog) (t := 9) (s := s) Tryd.underlying9 (kl := .i64) (l := 8) (h0 := by omega) (h1 := by omega)
  clear hs p1 p2 p3 q1 q2 q3 hD h
  rcases he with rfl | ⟨rfl, rfl⟩
  all_goals
    go_enter Tryd.func35, Tryd.ntmps35
    go_wp2_with (go_at_call 51; refine (isDate_yes s HI.out _).mono ?_; rintro e w' ⟨rfl, rfl⟩)
    go_quiet ((first
      | (go_at_call 53; (with_reducible exact Calls.quiet_of_same (turn (HA.out _))))
      | (go_at_call 53; (with_reducible exact Calls.quiet_of_same (turn (HB.out _))))
      | (go_at_call 53; (with_reducible exact Calls.quiet_of_same (turn (HC.out _))))
      | (go_at_call 52; (with_reducible exact Calls.quiet_of_same (turn (HD.out _))))))
    go_wp2
    go_ret2
    exact ⟨rfl, by (repeat' (first | (with_reducible exact Below.refl _ _) | (with_reducible assumption) | (with_reducible refine Below.alloc ?_ ?_ _) | (with_reducible refine below_drewN ?_ _) | (with_reducible refine below_drew ?_) | (with_reducible refine below_ext ?_ ?_ _ _) | (with_reducible refine Below.setCell ?_ ?_ _) | (simp; done) | (simp; omega) | omega))⟩
theorem Parse_yes (s : ByteArray) (h : IsD s) (n : Int) (hI : Cal.IsDay n (py s) (pm s) (pd s)) (w : World) (hl : Lens w) :
    Calls Tryd.prog 35 #[.string s] w fun x w' => x = .returned (.tuple #[.int .i64 n, .int .i64 0]) ∧ Below w.heap.size w w' :=
  Parse_core s h n 0 w (fun k => Day_ok n _ _ _ hI _ (hl.drewN k)) (.inl rfl)
theorem Parse_far (s : ByteArray) (h : IsD s) (hI : NoDay (py s) (pm s) (pd s)) (w : World) (hl : Lens w) :
    Calls Tryd.prog 35 #[.string s] w fun x w' => x = .returned (.tuple #[.int .i64 0, .int .i64 17]) ∧ Below w.heap.size w w' :=
  Parse_core s h 0 1 w (fun k => Day_bad _ _ _ hI _ (hl.drewN k)) (.inr ⟨rfl, rfl⟩)
end Go.Proofs.YtonajmngchfjeaaDoor
namespace Go.Proofs.YtonajmngchfjeaaDoor
open Go.RowKit
attribute [local go_sem] setCell_drewN cell?_ext frozen?_ext shape?_ext setCell_ext lt_1' ne_1' en_1' le_1' lt_2' ne_2' en_2' le_2' lt_3' ne_3' en_3' le_3' lt_4' ne_4' en_4' le_4' lt_5' ne_5' en_5' le_5' lt_6' ne_6' en_6' le_6' lt_7' ne_7' en_7' le_7' lt_8' ne_8' en_8' le_8' lt_9' ne_9' en_9' le_9' lt_10' ne_10' en_10' le_10' lt_11' ne_11' en_11' le_11' lt_12' ne_12' en_12' le_12'

theorem slice4 (s : ByteArray) (h : 4 ≤ s.size) : ∀ w, (Instr.slice 9 (.string s) none (some (.int .i64 4)) none).run Tryd.prog w = .ok (.string (s.extract 0 4)) w :=
  fun w => run_slice_string_h (w := w) (P := Tryd.prog) (t := 9) (s := s) Tryd.underlying9 (kh := .i64) (h := 4) (h0 := by omega) (h2 := by omega)
theorem slice57 (s : ByteArray) (h : 7 ≤ s.size) : ∀ w, (Instr.slice 9 (.string s) (some (.int .i64 5)) (some (.int .i64 7)) none).run Tryd.prog w = .ok (.string (s.extract 5 7)) w :=
  fun w => run_slice_string (P := Tryd.prog) (w := w) (t := 9) (s := s) (k := .i64) (k' := .i64) (i := 5) (j := 7) (h := Tryd.underlying9) (h0 := by omega) (h1 := by omega) (h2 := by omega)
theorem slice8 (s : ByteArray) (h : 8 ≤ s.size) : ∀ w, (Instr.slice 9 (.string s) (some (.int .i64 8)) none none).run Tryd.prog w = .ok (.string (s.extract 8 s.size)) w :=
  fun w => run_slice_string_l (w := w) (P := Tryd.prog) (t := 9) (s := s) Tryd.underlying9 (kl := .i64) (l := 8) (h0 := by omega) (h1 := by omega)
/-- all bytes are digits -/
def AllD (s : ByteArray) : Prop := ∀ i (h : i < s.size), dgB s[i] = true
theorem isD_of (s : ByteArray) (hs : s.size = 10) (h4 : (s[4]'(by omega)).toNat = 45) (h7 : (s[7]'(by omega)).toNat = 45) (ha : AllD (s.extract 0 4)) (hb : AllD (s.extract 5 7)) (hc : AllD (s.extract 8 s.size)) : IsD s := by
  obtain ⟨-, p1, p2, p3⟩ := parts_of s hs
  refine ⟨hs, fun i hi => ?_⟩
  by_cases h : i = 4 ∨ i = 7
  · rw [if_pos h]
    rcases h with rfl | rfl
    · exact h4
    · exact h7
  · rw [if_neg h]
    have hcs : i < 4 ∨ (5 ≤ i ∧ i < 7) ∨ 8 ≤ i := by omega
    rcases hcs with h1 | ⟨h1, h2⟩ | h1
    · have := ha i (by omega)
      rw [ByteArray.getElem_extract] at this
      simpa using this
    · obtain ⟨j, rfl⟩ : ∃ j, i = 5 + j := ⟨i - 5, by omega⟩
      have := hb j (by omega)
      rw [ByteArray.getElem_extract] at this
      exact this
    · obtain ⟨j, rfl⟩ : ∃ j, i = 8 + j := ⟨i - 8, by omega⟩
      have := hc j (by omega)
      rw [ByteArray.getElem_extract] at this
      exact this
def digs : ByteArray := { data := #[48, 49, 50, 51, 52, 53, 54, 55, 56, 57] }
theorem digs_one : ∀ a : Fin 10, digs.extract a.val (a.val + 1) = mk [UInt8.ofNat (48 + a.val)] := by decide +kernel
theorem slice_one (a : Nat) (h : a < 10) : ∀ w, (Instr.slice 9 (.string digs) (some (.int .i64 a)) (some (.int .i64 ((a : Int) + 1))) none).run Tryd.prog w = .ok (.string (mk [UInt8.ofNat (48 + a)])) w := fun w => by
  have hz : digs.size = 10 := rfl
  rw [run_slice_string (P := Tryd.prog) (w := w) (t := 9) (s := digs) (k := .i64) (k' := .i64) (i := a) (j := (a : Int) + 1) (h := Tryd.underlying9) (h0 := by omega) (h1 := by omega) (h2 := by omega)]
  rw [show ((a : Int)).toNat = a by omega, show ((a : Int) + 1).toNat = a + 1 by omega, digs_one ⟨a, h⟩]
theorem two_app (a b : Nat) (n : Nat) (ha : a = n / 10) (hb : b = n % 10) : mk [UInt8.ofNat (48 + a)] ++ mk [UInt8.ofNat (48 + b)] = mk (two n) := by rw [mk_append, ha, hb]; rfl
end Go.Proofs.YtonajmngchfjeaaDoor
