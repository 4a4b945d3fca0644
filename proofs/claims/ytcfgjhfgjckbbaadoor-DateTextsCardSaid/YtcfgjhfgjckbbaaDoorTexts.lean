/-
  Contracts of Parse and of the document's answers for texts of days.
-/
import Derived.Test.YtcfgjhfgjckbbaaDoorPrint
namespace Go.Proofs.YtcfgjhfgjckbbaaDoor
open Go.RowKit
attribute [local go_sem] setCell_drewN cell?_ext frozen?_ext shape?_ext setCell_ext lt_1' ne_1' en_1' le_1' lt_2' ne_2' en_2' le_2' lt_3' ne_3' en_3' le_3' lt_4' ne_4' en_4' le_4' lt_5' ne_5' en_5' le_5' lt_6' ne_6' en_6' le_6' lt_7' ne_7' en_7' le_7' lt_8' ne_8' en_8' le_8' lt_9' ne_9' en_9' le_9' lt_10' ne_10' en_10' le_10' lt_11' ne_11' en_11' le_11' lt_12' ne_12' en_12' le_12'

theorem two_res {k : IntKind} {a b : Int} {v : Value} (h : a = b) : Ending.returned (.tuple #[.int k a, v]) = .returned (.tuple #[.int k b, v]) := by rw [h]
/-- a byte is a decimal digit -/
def dgB (c : UInt8) : Bool := decide (48 ≤ c.toNat) && decide (c.toNat ≤ 57)
theorem dgB_iff {c : UInt8} : dgB c = true ↔ 48 ≤ c.toNat ∧ c.toNat ≤ 57 := by simp [dgB]
/-- what decimal digits say -/
def num (l : List UInt8) : Int := l.foldl (fun n c => n * 10 + ((c.toNat : Int) - 48)) 0
theorem num_snoc (l : List UInt8) (c : UInt8) : num (l ++ [c]) = num l * 10 + ((c.toNat : Int) - 48) := by simp [num]
theorem take_snoc (s : ByteArray) (k : Nat) (h : k < s.size) : s.data.toList.take (k + 1) = s.data.toList.take k ++ [s[k]] := by
  rw [List.take_succ_eq_append_getElem (by simpa using h)]; rfl
theorem num_bd : ∀ (k : Nat) (s : ByteArray), k ≤ s.size → (∀ i (h : i < s.size), dgB s[i] = true) → 0 ≤ num (s.data.toList.take k) ∧ num (s.data.toList.take k) ≤ 10 ^ k - 1
  | 0, _, _, _ => by simp [num]
  | k + 1, s, hk, hs => by
    obtain ⟨a, b⟩ := num_bd k s (by omega) hs
    have := dgB_iff.1 (hs k (by omega))
    rw [take_snoc s k (by omega), num_snoc, Int.pow_succ]
    omega
set_option maxHeartbeats 1000000 in
theorem number_any (s : ByteArray) (hs : s.size ≤ 4) (hd : ∀ i (h : i < s.size), dgB s[i] = true) (w : World) :
    Calls Tryd.prog 64 #[.string s] w fun e w' => e = .returned (.int .i64 (num s.data.toList)) ∧ w = w' := by
  have HD := Lib.hid hd
  clear hd
  go_enter Tryd.func64, Tryd.ntmps64
  go_wp2
  go_loop [3, 4] (fun n i => ∃ k : Nat, k ≤ s.size ∧ i = .int .i64 k ∧ n = .int .i64 (num (s.data.toList.take k))) (fun _ i => s.size - (intOf i).toNat)
  case atStart => exact ⟨0, Nat.zero_le _, rfl, rfl⟩
  case round =>
    obtain ⟨k, hk, rfl, rfl⟩ := hrel
    obtain ⟨b1, b2⟩ := num_bd k s hk HD.out
    have hp : (10 : Int) ^ k ≤ 10000 := by
      have h5 : k = 0 ∨ k = 1 ∨ k = 2 ∨ k = 3 ∨ k = 4 := by omega
      rcases h5 with rfl | rfl | rfl | rfl | rfl <;> decide
    have b3 : num (s.data.toList.take k) ≤ 9999 := by omega
    clear b2 hp
    by_cases hlt : k < s.size
    · have hdg := dgB_iff.1 (HD.out k hlt)
      obtain ⟨g1, g2⟩ := hdg
      have HS := Lib.hid (num_snoc (s.data.toList.take k) s[k])
      have HT := Lib.hid (take_snoc s k hlt)
      go_wp2
      all_goals
        go_round
        case rel => exact ⟨k + 1, by omega, by go_num, by rw [HT.out, HS.out]⟩
        case measure => simp [intOf]; omega
    · obtain rfl : k = s.size := by omega
      go_wp2
      go_ret
      exact ⟨ret_int (by rw [List.take_of_length_le (by simp)]), rfl⟩
set_option maxHeartbeats 1000000 in
theorem rdigits_yes (s : ByteArray) (hs : s.size ≤ 4) (hd : ∀ i (h : i < s.size), dgB s[i] = true) (w : World) :
    Calls Tryd.prog 62 #[.string s] w fun e w' => e = .returned (.tuple #[.int .i64 (num s.data.toList), .bool true]) ∧ w = w' := by
  have HD := Lib.hid hd
  clear hd
  go_enter Tryd.func62, Tryd.ntmps62
  go_wp2
  go_loop [4, 5] (fun n i => ∃ k : Nat, k ≤ s.size ∧ i = .int .i64 k ∧ n = .int .i64 (num (s.data.toList.take k))) (fun _ i => s.size - (intOf i).toNat)
  case atStart => exact ⟨0, Nat.zero_le _, rfl, rfl⟩
  case round =>
    obtain ⟨k, hk, rfl, rfl⟩ := hrel
    obtain ⟨b1, b2⟩ := num_bd k s hk HD.out
    have hp : (10 : Int) ^ k ≤ 10000 := by
      have h5 : k = 0 ∨ k = 1 ∨ k = 2 ∨ k = 3 ∨ k = 4 := by omega
      rcases h5 with rfl | rfl | rfl | rfl | rfl <;> decide
    have b3 : num (s.data.toList.take k) ≤ 9999 := by omega
    clear b2 hp
    by_cases hlt : k < s.size
    · have hdg := dgB_iff.1 (HD.out k hlt)
      obtain ⟨g1, g2⟩ := hdg
      have HS := Lib.hid (num_snoc (s.data.toList.take k) s[k])
      have HT := Lib.hid (take_snoc s k hlt)
      go_wp2
      all_goals
        go_round
        case rel => exact ⟨k + 1, by omega, by go_num, by rw [HT.out, HS.out]; exact int_eq (by omega)⟩
        case measure => simp [intOf]; omega
    · obtain rfl : k = s.size := by omega
      go_wp2
      go_ret2
      exact ⟨two_res (by rw [List.take_of_length_le (by simp)]), rfl⟩
set_option maxHeartbeats 1000000 in
theorem rdigits_no (s : ByteArray) (hs : s.size ≤ 4) (hd : ¬ ∀ i (h : i < s.size), dgB s[i] = true) (w : World) :
    Calls Tryd.prog 62 #[.string s] w fun e w' => e = .returned (.tuple #[.int .i64 0, .bool false]) ∧ w = w' := by
  have HD := Lib.hid hd
  clear hd
  go_enter Tryd.func62, Tryd.ntmps62
  go_wp2
  go_loop [4, 5] (fun n i => ∃ k : Nat, k ≤ s.size ∧ i = .int .i64 k ∧ (∀ j (h : j < s.size), j < k → dgB s[j] = true) ∧ ∃ x : Int, 0 ≤ x ∧ x ≤ 10 ^ k - 1 ∧ n = .int .i64 x) (fun _ i => s.size - (intOf i).toNat)
  case atStart => exact ⟨0, Nat.zero_le _, rfl, fun j _ h => absurd h (Nat.not_lt_zero j), 0, by omega, by omega, rfl⟩
  case round =>
    obtain ⟨k, hk, rfl, hbe, x, x1, x2, rfl⟩ := hrel
    have HB := Lib.hid hbe
    have HX := Lib.hid x2
    have hp : (10 : Int) ^ k ≤ 10000 := by
      have h5 : k = 0 ∨ k = 1 ∨ k = 2 ∨ k = 3 ∨ k = 4 := by omega
      rcases h5 with rfl | rfl | rfl | rfl | rfl <;> decide
    have x3 : x ≤ 9999 := by omega
    clear hbe x2 hp
    by_cases hlt : k < s.size
    · by_cases hc : dgB s[k] = true
      · obtain ⟨g1, g2⟩ := dgB_iff.1 hc
        have HC := Lib.hid hc
        clear hc
        go_wp2
        all_goals
          go_round
          case rel => exact ⟨k + 1, by omega, by go_num, fun j h hj => by
            rcases Nat.lt_or_eq_of_le (Nat.le_of_lt_succ hj) with h1 | rfl
            · exact HB.out j h h1
            · exact HC.out, 10 * x + ((s[k].toNat : Int) - 48), by omega, by have := HX.out; rw [Int.pow_succ]; omega, rfl⟩
          case measure => simp [intOf]; omega
      · have hc' : s[k].toNat < 48 ∨ (48 ≤ s[k].toNat ∧ 57 < s[k].toNat) := by
          have : ¬ (48 ≤ s[k].toNat ∧ s[k].toNat ≤ 57) := fun h => hc (dgB_iff.2 h)
          omega
        clear hc
        rcases hc' with hc | ⟨hc1, hc2⟩
        all_goals
          go_wp2
          go_ret2
          exact ⟨rfl, rfl⟩
    · exact absurd (fun i h => HB.out i h (by omega)) HD.out
/-- the syntax of a date -/
def IsD (s : ByteArray) : Prop := s.size = 10 ∧ ∀ i (h : i < s.size), if i = 4 ∨ i = 7 then s[i].toNat = 45 else dgB s[i] = true
set_option maxHeartbeats 1000000 in
theorem isDate_yes (s : ByteArray) (h : IsD s) (w : World) :
    Calls Tryd.prog 63 #[.string s] w fun e w' => e = .returned (.bool true) ∧ w = w' := by
  obtain ⟨hs, hd⟩ := h
  have HD := Lib.hid hd
  clear hd
  have e10 : ((s.size : Int) != 10) = false := by rw [hs]; rfl
  have HS := Lib.hid hs
  clear hs
  go_enter Tryd.func63, Tryd.ntmps63
  go_wp2
  go_loop [3] (fun i => ∃ k : Nat, k ≤ s.size ∧ i = .int .i64 k) (fun i => s.size - (intOf i).toNat)
  case atStart => exact ⟨0, Nat.zero_le _, rfl⟩
  case round =>
    obtain ⟨k, hk, rfl⟩ := hrel
    have hk10 : k ≤ 10 := by have := HS.out; omega
    by_cases hlt : k < s.size
    · have hD := HD.out k hlt
      by_cases h4 : k = 4 ∨ k = 7
      · rw [if_pos h4] at hD
        have hc : ((s[k].toNat : Int) != 45) = false := by rw [hD]; rfl
        clear hD
        by_cases h44 : k = 4
        · have g4 : ((k : Int) == 4) = true := by simp; omega
          clear h4 h44
          go_wp2
          go_round
          case rel => exact ⟨k + 1, by omega, by go_num⟩
          case measure => simp [intOf]; omega
        · have g4 : ((k : Int) == 4) = false := by simp; omega
          have g7 : ((k : Int) == 7) = true := by simp; omega
          clear h4 h44
          go_wp2
          go_round
          case rel => exact ⟨k + 1, by omega, by go_num⟩
          case measure => simp [intOf]; omega
      · rw [if_neg h4] at hD
        obtain ⟨g1, g2⟩ := dgB_iff.1 hD
        have g4 : ((k : Int) == 4) = false := by simp; omega
        have g7 : ((k : Int) == 7) = false := by simp; omega
        clear hD h4
        go_wp2
        go_round
        case rel => exact ⟨k + 1, by omega, by go_num⟩
        case measure => simp [intOf]; omega
    · go_wp2
      go_ret
      exact ⟨rfl, rfl⟩
set_option maxHeartbeats 1000000 in
theorem isDate_no (s : ByteArray) (h : ¬ IsD s) (w : World) :
    Calls Tryd.prog 63 #[.string s] w fun e w' => e = .returned (.bool false) ∧ w = w' := by
  have HD := Lib.hid h
  clear h
  by_cases hs : s.size = 10
  · have e10 : ((s.size : Int) != 10) = false := by rw [hs]; rfl
    have HS := Lib.hid hs
    clear hs
    go_enter Tryd.func63, Tryd.ntmps63
    go_wp2
    go_loop [3] (fun i => ∃ k : Nat, k ≤ s.size ∧ i = .int .i64 k ∧ ∀ j (h : j < s.size), j < k → if j = 4 ∨ j = 7 then s[j].toNat = 45 else dgB s[j] = true) (fun i => s.size - (intOf i).toNat)
    case atStart => exact ⟨0, Nat.zero_le _, rfl, fun j _ h => absurd h (Nat.not_lt_zero j)⟩
    case round =>
      obtain ⟨k, hk, rfl, hbe⟩ := hrel
      have HB := Lib.hid hbe
      clear hbe
      have hk10 : k ≤ 10 := by have := HS.out; omega
      by_cases hlt : k < s.size
      · have hstep : Hid ((if k = 4 ∨ k = 7 then s[k].toNat = 45 else dgB s[k] = true) → ∀ j (h : j < s.size), j < k + 1 → if j = 4 ∨ j = 7 then s[j].toNat = 45 else dgB s[j] = true) := Lib.hid (fun hD j h hj => by
          rcases Nat.lt_or_eq_of_le (Nat.le_of_lt_succ hj) with h1 | rfl
          · exact HB.out j h h1
          · exact hD)
        by_cases h4 : k = 4 ∨ k = 7
        · have g4 : ((k : Int) == 4) = true ∨ (((k : Int) == 4) = false ∧ ((k : Int) == 7) = true) := by
            rcases h4 with rfl | rfl
            · exact .inl rfl
            · exact .inr ⟨rfl, rfl⟩
          by_cases hc : s[k].toNat = 45
          · have hD : Hid (if k = 4 ∨ k = 7 then s[k].toNat = 45 else dgB s[k] = true) := Lib.hid (by rw [if_pos h4]; exact hc)
            have hc' : ((s[k].toNat : Int) != 45) = false := by rw [hc]; rfl
            clear hc h4
            rcases g4 with g4 | ⟨g4, g7⟩
            all_goals
              go_wp2
              go_round
              case rel => exact ⟨k + 1, by omega, by go_num, hstep.out hD.out⟩
              case measure => simp [intOf]; omega
          · have hc' : ((s[k].toNat : Int) != 45) = true := by simp; omega
            clear hc h4
            rcases g4 with g4 | ⟨g4, g7⟩
            all_goals
              go_wp2
              go_ret
              exact ⟨rfl, rfl⟩
        · have g4 : ((k : Int) == 4) = false := by simp; omega
          have g7 : ((k : Int) == 7) = false := by simp; omega
          by_cases hc : dgB s[k] = true
          · have hD : Hid (if k = 4 ∨ k = 7 then s[k].toNat = 45 else dgB s[k] = true) := Lib.hid (by rw [if_neg h4]; exact hc)
            obtain ⟨g1, g2⟩ := dgB_iff.1 hc
            clear hc h4
            go_wp2
            go_round
            case rel => exact ⟨k + 1, by omega, by go_num, hstep.out hD.out⟩
            case measure => simp [intOf]; omega
          · have hc' : s[k].toNat < 48 ∨ (48 ≤ s[k].toNat ∧ 57 < s[k].toNat) := by
              have : ¬ (48 ≤ s[k].toNat ∧ s[k].toNat ≤ 57) := fun h => hc (dgB_iff.2 h)
              omega
            clear hc h4
            rcases hc' with hc | ⟨hc1, hc2⟩
            all_goals
              go_wp2
              go_ret
              exact ⟨rfl, rfl⟩
      · exact absurd ⟨HS.out, fun i h => HB.out i h (by omega)⟩ HD.out
  · have e10 : ((s.size : Int) != 10) = true := by simp; omega
    clear hs
    go_enter Tryd.func63, Tryd.ntmps63
    go_wp2
    go_ret
    exact ⟨rfl, rfl⟩
/-- the three parts of a date's text -/
def py (s : ByteArray) : Int := num (s.extract 0 4).data.toList
def pm (s : ByteArray) : Int := num (s.extract 5 7).data.toList
def pd (s : ByteArray) : Int := num (s.extract 8 s.size).data.toList
def Parts (s : ByteArray) : Prop := s.size = 10 ∧ (s.extract 0 4).size = 4 ∧ (s.extract 5 7).size = 2 ∧ (s.extract 8 s.size).size = 2
theorem parts_of (s : ByteArray) (h : s.size = 10) : Parts s := ⟨h, by simp; omega, by simp; omega, by simp; omega⟩
theorem dg_of (s : ByteArray) (h : IsD s) : (∀ i (h : i < (s.extract 0 4).size), dgB (s.extract 0 4)[i] = true) ∧ (∀ i (h : i < (s.extract 5 7).size), dgB (s.extract 5 7)[i] = true) ∧ (∀ i (h : i < (s.extract 8 s.size).size), dgB (s.extract 8 s.size)[i] = true) := by
  obtain ⟨hs, hd⟩ := h
  obtain ⟨_, p1, p2, p3⟩ := parts_of s hs
  refine ⟨fun i h => ?_, fun i h => ?_, fun i h => ?_⟩
  · rw [ByteArray.getElem_extract]; have := hd (0 + i) (by omega); rw [if_neg (by omega)] at this; exact this
  · rw [ByteArray.getElem_extract]; have := hd (5 + i) (by omega); rw [if_neg (by omega)] at this; exact this
  · rw [ByteArray.getElem_extract]; have := hd (8 + i) (by omega); rw [if_neg (by omega)] at this; exact this
theorem turn {P : Program} {f : FuncId} {args : Array Value} {w : World} {x : Ending} (h : Calls P f args w fun e w' => e = x ∧ w = w') : Calls P f args w fun e w' => e = x ∧ w' = w := h.mono fun _ _ ⟨a, b⟩ => ⟨a, b.symm⟩
theorem Lens.drewN {w : World} (h : Lens w) (n : Nat) : Lens (w.drewN n) := ⟨h.1, fun j hj => h.2 j hj⟩
theorem Parse_no (s : ByteArray) (h : ¬ IsD s) (w : World) :
    Calls Tryd.prog 29 #[.string s] w fun e w' => e = .returned (.tuple #[.int .i64 0, .int .i64 5]) ∧ Below w.heap.size w w' := by
  go_enter Tryd.func29, Tryd.ntmps29
  go_wp2_with (go_at_call 63; refine (isDate_no s h _).mono ?_; rintro e w' ⟨rfl, rfl⟩)
  go_ret2
  exact ⟨rfl, by (repeat' (first | (with_reducible exact Below.refl _ _) | (with_reducible assumption) | (with_reducible refine Below.alloc ?_ ?_ _) | (with_reducible refine below_drewN ?_ _) | (with_reducible refine below_drew ?_) | (with_reducible refine below_ext ?_ ?_ _ _) | (with_reducible refine Below.setCell ?_ ?_ _) | (simp; done) | (simp; omega) | omega))⟩
set_option maxHeartbeats 1000000 in
theorem Parse_core (s : ByteArray) (h : IsD s) (a e : Int) (w : World) (hD : ∀ n, Calls Tryd.prog 17 #[.int .i64 (py s), .int .i64 (pm s), .int .i64 (pd s)] (w.drewN n) fun x w' => x = .returned (.tuple #[.int .i64 a, .int .i64 e]) ∧ w.drewN n = w') (he : (e = 0) ∨ (e = 1 ∧ a = 0)) :
    Calls Tryd.prog 29 #[.string s] w fun x w' => x = .returned (.tuple #[.int .i64 a, .int .i64 (e * 17)]) ∧ Below w.heap.size w w' := by
  have HI := Lib.hid h
  have HD := Lib.hid hD
  obtain ⟨hs, p1, p2, p3⟩ := parts_of s h.1
  obtain ⟨q1, q2, q3⟩ := dg_of s h
  have h1 : 10 ≤ s.size := by omega
  have h2 : s.size ≤ 10 := by omega
  have hA := number_any (s.extract 0 4) (by omega) q1
  have hB := number_any (s.extract 5 7) (by omega) q2
  have hC := number_any (s.extract 8 s.size) (by omega) q3
  rw [← py] at hA; rw [← pm] at hB; rw [← pd] at hC
  have HA := Lib.hid hA; have HB := Lib.hid hB; have HC := Lib.hid hC
  clear hA hB hC
  have k1 : ∀ w, (Instr.slice 9 (.string s) none (some (.int .i64 4)) none).run Tryd.prog w = .ok (.string (s.extract 0 4)) w := fun w => run_slice_string_h (w := w) (P := Tryd.prog) (t := 9) (s := s) Tryd.underlying9 (kh := .i64) (h := 4) (h0 := by omega) (h2 := by omega)
  have k2 : ∀ w, (Instr.slice 9 (.string s) (some (.int .i64 5)) (some (.int .i64 7)) none).run Tryd.prog w = .ok (.string (s.extract 5 7)) w := fun w => run_slice_string (P := Tryd.prog) (w := w) (t := 9) (s := s) (k := .i64) (k' := .i64) (i := 5) (j := 7) (h := Tryd.underlying9) (h0 := by omega) (h1 := by omega) (h2 := by omega)
  have k3 : ∀ w, (Instr.slice 9 (.string s) (some (.int .i64 8)) none none).run Tryd.prog w = .ok (.string (s.extract 8 s.size)) w := fun w => run_slice_string_l (w := w) (P := Tryd.prog) (t := 9) (s := s) Tryd.underlying9 (kl := .i64) (l := 8) (h0 := by omega) (h1 := by omega)
  clear hs p1 p2 p3 q1 q2 q3 hD h
  rcases he with rfl | ⟨rfl, rfl⟩
  all_goals
    go_enter Tryd.func29, Tryd.ntmps29
    go_wp2_with (go_at_call 63; refine (isDate_yes s HI.out _).mono ?_; rintro e w' ⟨rfl, rfl⟩)
    go_quiet ((first
      | (go_at_call 64; (with_reducible exact Calls.quiet_of_same (turn (HA.out _))))
      | (go_at_call 64; (with_reducible exact Calls.quiet_of_same (turn (HB.out _))))
      | (go_at_call 64; (with_reducible exact Calls.quiet_of_same (turn (HC.out _))))
      | (go_at_call 17; (with_reducible exact Calls.quiet_of_same (turn (HD.out _))))))
    go_wp2
    go_ret2
    exact ⟨rfl, by (repeat' (first | (with_reducible exact Below.refl _ _) | (with_reducible assumption) | (with_reducible refine Below.alloc ?_ ?_ _) | (with_reducible refine below_drewN ?_ _) | (with_reducible refine below_drew ?_) | (with_reducible refine below_ext ?_ ?_ _ _) | (with_reducible refine Below.setCell ?_ ?_ _) | (simp; done) | (simp; omega) | omega))⟩
theorem Parse_yes (s : ByteArray) (h : IsD s) (n : Int) (hI : Cal.IsDay n (py s) (pm s) (pd s)) (w : World) (hl : Lens w) :
    Calls Tryd.prog 29 #[.string s] w fun x w' => x = .returned (.tuple #[.int .i64 n, .int .i64 0]) ∧ Below w.heap.size w w' :=
  Parse_core s h n 0 w (fun k => Day_ok n _ _ _ hI _ (hl.drewN k)) (.inl rfl)
theorem Parse_far (s : ByteArray) (h : IsD s) (hI : NoDay (py s) (pm s) (pd s)) (w : World) (hl : Lens w) :
    Calls Tryd.prog 29 #[.string s] w fun x w' => x = .returned (.tuple #[.int .i64 0, .int .i64 17]) ∧ Below w.heap.size w w' :=
  Parse_core s h 0 1 w (fun k => Day_bad _ _ _ hI _ (hl.drewN k)) (.inr ⟨rfl, rfl⟩)
end Go.Proofs.YtcfgjhfgjckbbaaDoor
