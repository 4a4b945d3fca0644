/-
  The document's pieces: where numbers, names, quotes and signs end.
-/
import Derived.Test.YtonajmngchfjeaaGreatDoorBe
import Derived.Test.YtonajmngchfjeaaGreatDoorLexC
import Derived.Test.YtonajmngchfjeaaGreatDoorBf
namespace Go.Proofs.YtonajmngchfjeaaGreatDoor
open Go.RowKit Word
open Lx (Tok)
attribute [local go_sem] setCell_drewN cell?_ext frozen?_ext shape?_ext setCell_ext lt_1' ne_1' en_1' le_1' lt_2' ne_2' en_2' le_2' lt_3' ne_3' en_3' le_3' lt_4' ne_4' en_4' le_4' lt_5' ne_5' en_5' le_5' lt_6' ne_6' en_6' le_6' lt_7' ne_7' en_7' le_7' lt_8' ne_8' en_8' le_8' lt_9' ne_9' en_9' le_9' lt_10' ne_10' en_10' le_10' lt_11' ne_11' en_11' le_11' lt_12' ne_12' en_12' le_12'

theorem run_byte (p : UInt8 → Bool) (hp : p 0 = false) (s : ByteArray) (i k : Nat) (h1 : i ≤ k) (h2 : k ≤ i + Lx.run p (s.data.toList.drop i)) (h : k < s.size) : p s[k] = decide (k < i + Lx.run p (s.data.toList.drop i)) := by
  have e := Lx.run_at0 p hp (s.data.toList.drop i) (k - i) (by omega)
  have hz : s.data.toList.length = s.size := rfl
  rw [Lx.at0_drop, show i + (k - i) = k by omega, Lx.at0_of (by omega)] at e
  refine e.trans ?_
  congr 1
  exact propext ⟨fun h => by omega, fun h => by omega⟩
theorem run_most (p : UInt8 → Bool) (s : ByteArray) (i : Nat) (hi : i ≤ s.size) : i + Lx.run p (s.data.toList.drop i) ≤ s.size := by
  have hz : s.data.toList.length = s.size := rfl
  have := Lx.run_le p (s.data.toList.drop i)
  rw [List.length_drop] at this
  omega
set_option maxHeartbeats 4000000 in
theorem lxDigits_any (s : ByteArray) (hs : s.size ≤ 1000) (i : Nat) (hi : i ≤ s.size) (w : World) :
    Calls Tryz.prog 36 #[.string s, .int .i64 (i : Int)] w fun e w' => e = .returned (.int .i64 ((i + Lx.run Lx.dg (s.data.toList.drop i) : Nat) : Int)) ∧ w = w' := by
  have HB := Lib.hid (fun k h1 h2 h => run_byte Lx.dg Lx.dg0 s i k h1 h2 h)
  have hE := run_most Lx.dg s i hi
  obtain ⟨E, hEE⟩ : ∃ E, E = i + Lx.run Lx.dg (s.data.toList.drop i) := ⟨_, rfl⟩
  rw [← hEE] at hE HB ⊢
  have hiE : i ≤ E := by omega
  clear hEE
  go_enter Tryz.func36, Tryz.ntmps36
  go_wp2
  go_loop [1] (fun z => ∃ k : Nat, i ≤ k ∧ k ≤ E ∧ z = .int .i64 k) (fun z => s.size - (intOf z).toNat)
  case atStart => exact ⟨i, Nat.le_refl _, hiE, rfl⟩
  case round =>
    obtain ⟨k, hk0, hk, rfl⟩ := hrel
    by_cases hlt : k < s.size
    · have hc := HB.out k hk0 hk hlt
      have hD := rdigit_any (s[k]'hlt).toNat
      rw [show digN (s[k]'hlt).toNat = decide (k < E) from hc] at hD
      by_cases hkE : k < E
      · rw [decide_eq_true hkE] at hD
        have HD := Lib.hid hD
        clear hc hD
        go_wp2_with (go_at_call 16; ((with_reducible refine (HD.out _).mono ?_); rintro e w' ⟨rfl, rfl⟩))
        go_round
        case rel => exact ⟨k + 1, by omega, by omega, by go_num⟩
        case measure => simp [intOf]; omega
      · rw [decide_eq_false hkE] at hD
        have HD := Lib.hid hD
        obtain rfl : k = E := by omega
        clear hc hD
        go_wp2_with (go_at_call 16; ((with_reducible refine (HD.out _).mono ?_); rintro e w' ⟨rfl, rfl⟩))
        go_ret
        exact ⟨rfl, rfl⟩
    · obtain rfl : k = E := by omega
      go_wp2
      go_ret
      exact ⟨rfl, rfl⟩
def wc (c : UInt8) : Bool := Lx.lt c || Lx.dg c
set_option maxHeartbeats 4000000 in
theorem rwordEnd_any (s : ByteArray) (hs : s.size ≤ 1000) (i : Nat) (hi : i ≤ s.size) (w : World) :
    Calls Tryz.prog 22 #[.string s, .int .i64 (i : Int)] w fun e w' => e = .returned (.int .i64 ((i + Lx.wordLen (s.data.toList.drop i) : Nat) : Int)) ∧ w = w' := by
  have HB := Lib.hid (fun k h1 h2 h => run_byte (fun c => Lx.lt c || Lx.dg c) Lx.lg0 s i k h1 h2 h)
  have hE := run_most (fun c => Lx.lt c || Lx.dg c) s i hi
  unfold Lx.wordLen
  obtain ⟨E, hEE⟩ : ∃ E, E = i + Lx.run (fun c => Lx.lt c || Lx.dg c) (s.data.toList.drop i) := ⟨_, rfl⟩
  rw [← hEE] at hE HB ⊢
  have hiE : i ≤ E := by omega
  clear hEE
  go_enter Tryz.func22, Tryz.ntmps22
  go_wp2
  go_loop [1] (fun z => ∃ k : Nat, i ≤ k ∧ k ≤ E ∧ z = .int .i64 k) (fun z => s.size - (intOf z).toNat)
  case atStart => exact ⟨i, Nat.le_refl _, hiE, rfl⟩
  case round =>
    obtain ⟨k, hk0, hk, rfl⟩ := hrel
    by_cases hlt : k < s.size
    · have hc : (letN (s[k]'hlt).toNat || digN (s[k]'hlt).toNat) = decide (k < E) := HB.out k hk0 hk hlt
      have hL := rletter_any (s[k]'hlt).toNat
      have hD := rdigit_any (s[k]'hlt).toNat
      cases hl : letN (s[k]'hlt).toNat with
      | true =>
        rw [hl] at hL hc
        have hkE : k < E := of_decide_eq_true hc.symm
        have HL := Lib.hid hL
        clear hc hD hL hl
        go_wp2_with (go_at_call 15; ((with_reducible refine (HL.out _).mono ?_); rintro e w' ⟨rfl, rfl⟩))
        go_round
        case rel => exact ⟨k + 1, by omega, by omega, by go_num⟩
        case measure => simp [intOf]; omega
      | false =>
        rw [hl, Bool.false_or] at hc
        rw [hl] at hL
        rw [hc] at hD
        have HL := Lib.hid hL
        by_cases hkE : k < E
        · rw [decide_eq_true hkE] at hD
          have HD := Lib.hid hD
          clear hc hD hL hl
          go_wp2_with (first | (go_at_call 15; ((with_reducible refine (HL.out _).mono ?_); rintro e w' ⟨rfl, rfl⟩)) | (go_at_call 16; ((with_reducible refine (HD.out _).mono ?_); rintro e w' ⟨rfl, rfl⟩)))
          go_round
          case rel => exact ⟨k + 1, by omega, by omega, by go_num⟩
          case measure => simp [intOf]; omega
        · rw [decide_eq_false hkE] at hD
          have HD := Lib.hid hD
          obtain rfl : k = E := by omega
          clear hc hD hL hl
          go_wp2_with (first | (go_at_call 15; ((with_reducible refine (HL.out _).mono ?_); rintro e w' ⟨rfl, rfl⟩)) | (go_at_call 16; ((with_reducible refine (HD.out _).mono ?_); rintro e w' ⟨rfl, rfl⟩)))
          go_ret
          exact ⟨rfl, rfl⟩
    · obtain rfl : k = E := by omega
      go_wp2
      go_ret
      exact ⟨rfl, rfl⟩
theorem numLen_long {s : ByteArray} {i k : Nat} (hk : k = i + Lx.run Lx.dg (s.data.toList.drop i)) (h2 : Lx.at0 s.data.toList k = 46) (h3 : Lx.dg (Lx.at0 s.data.toList (k + 1)) = true) :
    i + Lx.numLen (s.data.toList.drop i) = k + 1 + Lx.run Lx.dg (s.data.toList.drop (k + 1)) := by
  unfold Lx.numLen
  rw [Lx.at0_drop, Lx.at0_drop, ← hk, if_pos ⟨h2, by rw [show i + (Lx.run Lx.dg (s.data.toList.drop i) + 1) = k + 1 by omega]; exact h3⟩, List.drop_drop, show i + (Lx.run Lx.dg (s.data.toList.drop i) + 1) = k + 1 by omega]
  omega
theorem numLen_short {s : ByteArray} {i k : Nat} (hk : k = i + Lx.run Lx.dg (s.data.toList.drop i)) (h : ¬ (Lx.at0 s.data.toList k = 46 ∧ Lx.dg (Lx.at0 s.data.toList (k + 1)) = true)) :
    i + Lx.numLen (s.data.toList.drop i) = k := by
  unfold Lx.numLen
  rw [if_neg]
  · exact hk.symm
  · rintro ⟨a, b⟩
    rw [Lx.at0_drop, ← hk] at a
    rw [Lx.at0_drop, show i + (Lx.run Lx.dg (s.data.toList.drop i) + 1) = k + 1 by omega] at b
    exact h ⟨a, b⟩
theorem at0_byte {s : ByteArray} {k : Nat} (h : k < s.size) : Lx.at0 s.data.toList k = s[k] := Lx.at0_of (show k < s.data.toList.length from h)
theorem at0_past {s : ByteArray} {k : Nat} (h : ¬ k < s.size) : Lx.at0 s.data.toList k = 0 := Lx.at0_none (show ¬ k < s.data.toList.length from h)
theorem i64_beq_u8 {c : UInt8} {k : UInt8} (h : c ≠ k) : ((c.toNat : Int) == (k.toNat : Int)) = false :=
  beq_eq_false_iff_ne.2 (fun e => h (UInt8.toNat_inj.1 (by omega)))
set_option maxHeartbeats 8000000 in
theorem rnumberEnd_any (s : ByteArray) (hs : s.size ≤ 1000) (i : Nat) (hi : i ≤ s.size) (w : World) :
    Calls Tryz.prog 18 #[.string s, .int .i64 (i : Int)] w fun e w' => e = .returned (.int .i64 ((i + Lx.numLen (s.data.toList.drop i) : Nat) : Int)) ∧ w = w' := by
  have HD1 := Lib.hid (lxDigits_any s hs i hi)
  have hE := run_most Lx.dg s i hi
  obtain ⟨k, hk⟩ : ∃ k, k = i + Lx.run Lx.dg (s.data.toList.drop i) := ⟨_, rfl⟩
  rw [← hk] at HD1 hE
  have HS := Lib.hid (numLen_short hk)
  have HLG := Lib.hid (fun h2 h3 => numLen_long hk h2 h3)
  clear hk
  obtain ⟨E, hEE⟩ : ∃ E, E = i + Lx.numLen (s.data.toList.drop i) := ⟨_, rfl⟩
  rw [← hEE] at HS HLG ⊢
  clear hEE
  have hw : IntKind.i64.wrap ((s.size : Int) - 1) = (s.size : Int) - 1 := IntWalk.i64_in _ (by omega)
  by_cases h1 : k + 1 < s.size
  · have g1 : (k : Int) < (s.size : Int) - 1 := by omega
    have hks : k < s.size := by omega
    by_cases h2 : (s[k]'hks) = 46
    · have g2 : ((s[k]'hks).toNat : Int) = 46 := by rw [h2]; rfl
      have hD := rdigit_any (s[k + 1]'h1).toNat
      cases h3 : Lx.dg (s[k + 1]'h1) with
      | true =>
        have HX := Lib.hid (HLG.out ((at0_byte hks).trans h2) (by rw [at0_byte h1]; exact h3))
        rw [show digN (s[k + 1]'h1).toNat = true from h3] at hD
        have HD := Lib.hid hD
        have HD2 := Lib.hid (show ∀ w, Calls Tryz.prog 36 #[.string s, .int .i64 ((k : Int) + 1)] w fun e w' => e = .returned (.int .i64 ((k + 1 + Lx.run Lx.dg (s.data.toList.drop (k + 1)) : Nat) : Int)) ∧ w = w' from lxDigits_any s hs (k + 1) (by omega))
        clear hD h3 h2
        go_enter Tryz.func18, Tryz.ntmps18
        go_wp2_with (first | (go_at_call 36; ((with_reducible refine (HD1.out _).mono ?_); rintro e w' ⟨rfl, rfl⟩)) | (go_at_call 36; ((with_reducible refine (HD2.out _).mono ?_); rintro e w' ⟨rfl, rfl⟩)) | (go_at_call 16; ((with_reducible refine (HD.out _).mono ?_); rintro e w' ⟨rfl, rfl⟩)))
        go_ret
        exact ⟨by rw [HX.out]; rfl, rfl⟩
      | false =>
        have HX := Lib.hid (HS.out (fun ⟨a, b⟩ => by rw [at0_byte h1, h3] at b; cases b))
        rw [show digN (s[k + 1]'h1).toNat = false from h3] at hD
        have HD := Lib.hid hD
        clear hD h3 h2
        go_enter Tryz.func18, Tryz.ntmps18
        go_wp2_with (first | (go_at_call 36; ((with_reducible refine (HD1.out _).mono ?_); rintro e w' ⟨rfl, rfl⟩)) | (go_at_call 16; ((with_reducible refine (HD.out _).mono ?_); rintro e w' ⟨rfl, rfl⟩)))
        go_ret
        exact ⟨by rw [HX.out]; rfl, rfl⟩
    · have g2 : (((s[k]'hks).toNat : Int) == 46) = false := i64_beq_u8 (k := 46) h2
      have HX := Lib.hid (HS.out (fun ⟨a, b⟩ => h2 ((at0_byte hks).symm.trans a)))
      clear h2
      go_enter Tryz.func18, Tryz.ntmps18
      go_wp2_with ((go_at_call 36; ((with_reducible refine (HD1.out _).mono ?_); rintro e w' ⟨rfl, rfl⟩)))
      go_ret
      exact ⟨by rw [HX.out]; rfl, rfl⟩
  · have g1 : ¬ (k : Int) < (s.size : Int) - 1 := by omega
    have HX := Lib.hid (HS.out (fun ⟨a, b⟩ => by rw [at0_past h1] at b; exact absurd b (by decide)))
    go_enter Tryz.func18, Tryz.ntmps18
    go_wp2_with ((go_at_call 36; ((with_reducible refine (HD1.out _).mono ?_); rintro e w' ⟨rfl, rfl⟩)))
    go_ret
    exact ⟨by rw [HX.out]; rfl, rfl⟩
/-- where what is quoted ends: behind it, or -1 -/
def endZ : Option Nat → Int
  | none => -1
  | some k => (k : Int)
theorem quo_step {L : List UInt8} {k : Nat} (h : k < L.length) :
    Lx.quoRest false (L.drop k) = if L[k] = 92 then (Lx.quoRest true (L.drop (k + 1))).map (· + 1) else if L[k] = 34 then some 1 else (Lx.quoRest false (L.drop (k + 1))).map (· + 1) := by
  rw [List.drop_eq_getElem_cons h, Lx.quoRest]
theorem quo_escJ (L : List UInt8) (k : Nat) : Lx.quoRest true (L.drop k) = (Lx.quoRest false (L.drop (k + 1))).map (· + 1) := by
  by_cases h : k < L.length
  · rw [List.drop_eq_getElem_cons h, Lx.quoRest]
  · rw [List.drop_of_length_le (show L.length ≤ k by omega), List.drop_of_length_le (show L.length ≤ k + 1 by omega)]; rfl
theorem map_add (o : Option Nat) (a b c : Nat) (h : a + b = c) : (o.map (· + a)).map (· + b) = o.map (· + c) := by
  cases o with
  | none => rfl
  | some x => simp only [Option.map_some]; congr 1; omega
set_option maxHeartbeats 8000000 in
theorem rquoted_any (s : ByteArray) (hs : s.size ≤ 1000) (i : Nat) (hi : i < s.size) (hq : s[i] = 34) (w : World) :
    Calls Tryz.prog 40 #[.string s, .int .i64 (i : Int)] w fun e w' => e = .returned (.int .i64 (endZ ((Lx.quoLen (s.data.toList.drop i)).map (· + i)))) ∧ w = w' := by
  have hz : s.data.toList.length = s.size := rfl
  have HQ := Lib.hid (Lx.quo_E (L := s.data.toList) (k := i) (by omega) hq)
  obtain ⟨Q, hQ⟩ : ∃ Q, Q = (Lx.quoLen (s.data.toList.drop i)).map (· + i) := ⟨_, rfl⟩
  rw [← hQ] at HQ ⊢
  clear hQ hq
  have W1 : IntKind.i64.wrap ((i : Int) + 1) = (i : Int) + 1 := IntWalk.i64_in _ (by omega)
  go_enter Tryz.func40, Tryz.ntmps40
  go_wp2
  go_loop [5] (fun z => ∃ k : Nat, k ≤ s.size + 1 ∧ z = .int .i64 k ∧ Hid ((Lx.quoRest false (s.data.toList.drop k)).map (· + k) = Q)) (fun z => s.size + 1 - (intOf z).toNat)
  case atStart => exact ⟨i + 1, by omega, rfl, Lib.hid HQ.out⟩
  case round =>
    obtain ⟨k, hk, rfl, hr⟩ := hrel
    by_cases hlt : k < s.size
    · have e := quo_step (L := s.data.toList) (k := k) (by omega)
      have hgt : s.data.toList[k]'(by omega) = s[k] := rfl
      rw [hgt] at e
      have W2 : IntKind.i64.wrap ((k : Int) + 1) = (k : Int) + 1 := IntWalk.i64_in _ (by omega)
      by_cases h1 : (s[k]'hlt) = 92
      · have g1 : ((s[k]'hlt).toNat : Int) = 92 := by rw [h1]; rfl
        rw [if_pos h1, quo_escJ] at e
        have H2 := Lib.hid (show (Lx.quoRest false (s.data.toList.drop (k + 2))).map (· + (k + 2)) = Q by
          have := hr.out
          rw [e, map_add _ 1 1 2 rfl, map_add _ 2 k (k + 2) (by omega)] at this
          exact this)
        clear e hr h1
        go_wp2
        go_round
        case rel => exact ⟨k + 2, by omega, by go_num, H2⟩
        case measure => simp [intOf]; omega
      · have g1 : (((s[k]'hlt).toNat : Int) == 92) = false := i64_beq_u8 (k := 92) h1
        rw [if_neg h1] at e
        by_cases h2 : (s[k]'hlt) = 34
        · have g2 : ((s[k]'hlt).toNat : Int) = 34 := by rw [h2]; rfl
          rw [if_pos h2] at e
          have H2 := Lib.hid (show Q = some (k + 1) by
            have := hr.out
            rw [e] at this
            rw [← this]; simp only [Option.map_some]; congr 1; omega)
          clear e hr h1 h2
          go_wp2
          go_ret
          exact ⟨by rw [H2.out]; rfl, rfl⟩
        · have g2 : (((s[k]'hlt).toNat : Int) == 34) = false := i64_beq_u8 (k := 34) h2
          rw [if_neg h2] at e
          have H2 := Lib.hid (show (Lx.quoRest false (s.data.toList.drop (k + 1))).map (· + (k + 1)) = Q by
            have := hr.out
            rw [e, map_add _ 1 k (k + 1) (by omega)] at this
            exact this)
          clear e hr h1 h2
          go_wp2
          go_round
          case rel => exact ⟨k + 1, by omega, by go_num, H2⟩
          case measure => simp [intOf]; omega
    · have H2 := Lib.hid (show Q = none by
        have := hr.out
        rw [List.drop_of_length_le (by omega)] at this
        exact this.symm)
      clear hr
      go_wp2
      go_ret
      exact ⟨by rw [H2.out]; rfl, rfl⟩
/-- where a sign ends: -1 where there is none -/
def sgE (i n : Nat) : Int := if n = 0 then -1 else ((i + n : Nat) : Int)
theorem sig1_z {c k : UInt8} {z y : Int} (hz : z = (c.toNat : Int)) (h : (z == y) = true) (hy : y = (k.toNat : Int)) (hk : Lx.sig1 k = true) : Lx.sig1 c = true := by
  have e := beq_iff_eq.1 h
  have : c = k := UInt8.toNat_inj.1 (by omega)
  rw [this]; exact hk
theorem sig1_zn {c : UInt8} {z : Int} (hz : z = (c.toNat : Int)) (h40 : (z == 40) = false) (h41 : (z == 41) = false) (h91 : (z == 91) = false) (h93 : (z == 93) = false) (h123 : (z == 123) = false) (h125 : (z == 125) = false) (h44 : (z == 44) = false) (h58 : (z == 58) = false) (h46 : (z == 46) = false) (h43 : (z == 43) = false) (h45 : (z == 45) = false) (h42 : (z == 42) = false) (h47 : (z == 47) = false) (h61 : (z == 61) = false) (h60 : (z == 60) = false) (h62 : (z == 62) = false) : Lx.sig1 c = false := by
  unfold Lx.sig1
  rw [Bool.eq_false_iff]
  intro hc
  rw [List.contains_iff_mem] at hc
  simp only [List.mem_cons, List.not_mem_nil, or_false] at hc
  rcases hc with rfl | rfl | rfl | rfl | rfl | rfl | rfl | rfl | rfl | rfl | rfl | rfl | rfl | rfl | rfl | rfl
  all_goals (subst hz; simp_all)
set_option maxRecDepth 100000 in
set_option maxHeartbeats 16000000 in
theorem rsign_any (s : ByteArray) (hs : s.size ≤ 1000) (i : Nat) (hi : i < s.size) (w : World) :
    Calls Tryz.prog 23 #[.string s, .int .i64 (i : Int)] w fun e w' => e = .returned (.int .i64 (sgE i (Lx.sigLen (s.data.toList.drop i)))) ∧ w = w' := by
  have hzz : s.data.toList.length = s.size := rfl
  have hd := List.drop_eq_getElem_cons (l := s.data.toList) (i := i) (by omega)
  have hgt : s.data.toList[i]'(by omega) = s[i] := rfl
  obtain ⟨c, hc⟩ : ∃ c, c = s[i] := ⟨_, rfl⟩
  rw [hgt, ← hc] at hd
  obtain ⟨z, hz⟩ : ∃ z : Int, z = (c.toNat : Int) := ⟨_, rfl⟩
  have hcz : ((s[i]'hi).toNat : Int) = z := by rw [hz, hc]
  rw [hd]
  have hw : IntKind.i64.wrap ((s.size : Int) - 1) = (s.size : Int) - 1 := IntWalk.i64_in _ (by omega)
  have hw1 : IntKind.i64.wrap ((i : Int) + 1) = (i : Int) + 1 := IntWalk.i64_in _ (by omega)
  have hw2 : IntKind.i64.wrap ((i : Int) + 2) = (i : Int) + 2 := IntWalk.i64_in _ (by omega)
  by_cases h1 : i + 1 < s.size
  · have hd2 := List.drop_eq_getElem_cons (l := s.data.toList) (i := i + 1) (by omega)
    obtain ⟨d, hdd⟩ : ∃ d, d = s.data.toList[i + 1]'(by omega) := ⟨_, rfl⟩
    rw [← hdd] at hd2
    rw [hd2]
    obtain ⟨X2, hX2⟩ : ∃ X, X = s.extract i (i + 2) := ⟨_, rfl⟩
    have hxl : X2.toList = [c, d] := by
      rw [ByteArray.toList_eq, hX2, ext_list, hd, hd2, show i + 2 - i = 2 by omega]; rfl
    have k2 := lx_slice s (i : Int) ((i : Int) + 2) i (i + 2) rfl (by omega) (by omega) (by omega)
    rw [← hX2] at k2
    have HXL2 := Lib.hid hxl
    obtain ⟨V, hV⟩ : ∃ V, V = sgE i (Lx.sigLen (c :: d :: s.data.toList.drop (i + 1 + 1))) := ⟨_, rfl⟩
    have HY2 := Lib.hid (show Lx.sig2 c d = true → V = (i : Int) + 2 from fun h => by rw [hV, show Lx.sigLen (c :: d :: s.data.toList.drop (i + 1 + 1)) = 2 from if_pos h]; rfl)
    have HY1 := Lib.hid (show Lx.sig2 c d = false → Lx.sig1 c = true → V = (i : Int) + 1 from fun h h' => by rw [hV, show Lx.sigLen (c :: d :: s.data.toList.drop (i + 1 + 1)) = 1 from (if_neg (by rw [h]; decide)).trans (if_pos h')]; rfl)
    have HN := Lib.hid (show Lx.sig2 c d = false → Lx.sig1 c = false → V = -1 from fun h h' => by rw [hV, show Lx.sigLen (c :: d :: s.data.toList.drop (i + 1 + 1)) = 0 from (if_neg (by rw [h]; decide)).trans (if_neg (by rw [h']; decide))]; rfl)
    rw [← hV]
    have g1 : (i : Int) < (s.size : Int) - 1 := by omega
    clear hV hxl hX2 hd2 hdd hd hgt hc
    have HZ := Lib.hid hz
    clear hz
    go_enter Tryz.func23, Tryz.ntmps23
    go_wp2
    all_goals first
      | (go_ret
         first
             | exact ⟨by rw [HY2.out (sig2_of HXL2.out (k := 46) (j := 46) (by assumption) (by decide))]; rfl, rfl⟩
             | exact ⟨by rw [HY2.out (sig2_of HXL2.out (k := 33) (j := 61) (by assumption) (by decide))]; rfl, rfl⟩
             | exact ⟨by rw [HY2.out (sig2_of HXL2.out (k := 60) (j := 61) (by assumption) (by decide))]; rfl, rfl⟩
             | exact ⟨by rw [HY2.out (sig2_of HXL2.out (k := 62) (j := 61) (by assumption) (by decide))]; rfl, rfl⟩)
      | (exfalso; simp_all only [reduceCtorEq]; done)
      | (have HS2 := Lib.hid (sig2_not HXL2.out (by assumption) (by assumption) (by assumption) (by assumption))
         have hz := HZ.out
         go_ret
         first
                   | exact ⟨by rw [HY1.out HS2.out (sig1_z hz (k := 40) (y := 40) (by assumption) rfl (by decide))]; rfl, rfl⟩
                   | exact ⟨by rw [HY1.out HS2.out (sig1_z hz (k := 41) (y := 41) (by assumption) rfl (by decide))]; rfl, rfl⟩
                   | exact ⟨by rw [HY1.out HS2.out (sig1_z hz (k := 91) (y := 91) (by assumption) rfl (by decide))]; rfl, rfl⟩
                   | exact ⟨by rw [HY1.out HS2.out (sig1_z hz (k := 93) (y := 93) (by assumption) rfl (by decide))]; rfl, rfl⟩
                   | exact ⟨by rw [HY1.out HS2.out (sig1_z hz (k := 123) (y := 123) (by assumption) rfl (by decide))]; rfl, rfl⟩
                   | exact ⟨by rw [HY1.out HS2.out (sig1_z hz (k := 125) (y := 125) (by assumption) rfl (by decide))]; rfl, rfl⟩
                   | exact ⟨by rw [HY1.out HS2.out (sig1_z hz (k := 44) (y := 44) (by assumption) rfl (by decide))]; rfl, rfl⟩
                   | exact ⟨by rw [HY1.out HS2.out (sig1_z hz (k := 58) (y := 58) (by assumption) rfl (by decide))]; rfl, rfl⟩
                   | exact ⟨by rw [HY1.out HS2.out (sig1_z hz (k := 46) (y := 46) (by assumption) rfl (by decide))]; rfl, rfl⟩
                   | exact ⟨by rw [HY1.out HS2.out (sig1_z hz (k := 43) (y := 43) (by assumption) rfl (by decide))]; rfl, rfl⟩
                   | exact ⟨by rw [HY1.out HS2.out (sig1_z hz (k := 45) (y := 45) (by assumption) rfl (by decide))]; rfl, rfl⟩
                   | exact ⟨by rw [HY1.out HS2.out (sig1_z hz (k := 42) (y := 42) (by assumption) rfl (by decide))]; rfl, rfl⟩
                   | exact ⟨by rw [HY1.out HS2.out (sig1_z hz (k := 47) (y := 47) (by assumption) rfl (by decide))]; rfl, rfl⟩
                   | exact ⟨by rw [HY1.out HS2.out (sig1_z hz (k := 61) (y := 61) (by assumption) rfl (by decide))]; rfl, rfl⟩
                   | exact ⟨by rw [HY1.out HS2.out (sig1_z hz (k := 60) (y := 60) (by assumption) rfl (by decide))]; rfl, rfl⟩
                   | exact ⟨by rw [HY1.out HS2.out (sig1_z hz (k := 62) (y := 62) (by assumption) rfl (by decide))]; rfl, rfl⟩
                   | exact ⟨by rw [HN.out HS2.out (sig1_zn hz (by assumption) (by assumption) (by assumption) (by assumption) (by assumption) (by assumption) (by assumption) (by assumption) (by assumption) (by assumption) (by assumption) (by assumption) (by assumption) (by assumption) (by assumption) (by assumption))]; rfl, rfl⟩)
  · rw [List.drop_of_length_le (show s.data.toList.length ≤ i + 1 by omega)]
    obtain ⟨V, hV⟩ : ∃ V, V = sgE i (Lx.sigLen [c]) := ⟨_, rfl⟩
    have HY1 := Lib.hid (show Lx.sig1 c = true → V = (i : Int) + 1 from fun h => by rw [hV, show Lx.sigLen [c] = 1 from if_pos h]; rfl)
    have HN := Lib.hid (show Lx.sig1 c = false → V = -1 from fun h => by rw [hV, show Lx.sigLen [c] = 0 from if_neg (by rw [h]; decide)]; rfl)
    rw [← hV]
    have g1 : ¬ (i : Int) < (s.size : Int) - 1 := by omega
    clear hV hd hgt hc
    have HZ := Lib.hid hz
    clear hz
    go_enter Tryz.func23, Tryz.ntmps23
    go_wp2
    all_goals
      have hz := HZ.out
      go_ret
      first
             | exact ⟨by rw [HY1.out (sig1_z hz (k := 40) (y := 40) (by assumption) rfl (by decide))]; rfl, rfl⟩
             | exact ⟨by rw [HY1.out (sig1_z hz (k := 41) (y := 41) (by assumption) rfl (by decide))]; rfl, rfl⟩
             | exact ⟨by rw [HY1.out (sig1_z hz (k := 91) (y := 91) (by assumption) rfl (by decide))]; rfl, rfl⟩
             | exact ⟨by rw [HY1.out (sig1_z hz (k := 93) (y := 93) (by assumption) rfl (by decide))]; rfl, rfl⟩
             | exact ⟨by rw [HY1.out (sig1_z hz (k := 123) (y := 123) (by assumption) rfl (by decide))]; rfl, rfl⟩
             | exact ⟨by rw [HY1.out (sig1_z hz (k := 125) (y := 125) (by assumption) rfl (by decide))]; rfl, rfl⟩
             | exact ⟨by rw [HY1.out (sig1_z hz (k := 44) (y := 44) (by assumption) rfl (by decide))]; rfl, rfl⟩
             | exact ⟨by rw [HY1.out (sig1_z hz (k := 58) (y := 58) (by assumption) rfl (by decide))]; rfl, rfl⟩
             | exact ⟨by rw [HY1.out (sig1_z hz (k := 46) (y := 46) (by assumption) rfl (by decide))]; rfl, rfl⟩
             | exact ⟨by rw [HY1.out (sig1_z hz (k := 43) (y := 43) (by assumption) rfl (by decide))]; rfl, rfl⟩
             | exact ⟨by rw [HY1.out (sig1_z hz (k := 45) (y := 45) (by assumption) rfl (by decide))]; rfl, rfl⟩
             | exact ⟨by rw [HY1.out (sig1_z hz (k := 42) (y := 42) (by assumption) rfl (by decide))]; rfl, rfl⟩
             | exact ⟨by rw [HY1.out (sig1_z hz (k := 47) (y := 47) (by assumption) rfl (by decide))]; rfl, rfl⟩
             | exact ⟨by rw [HY1.out (sig1_z hz (k := 61) (y := 61) (by assumption) rfl (by decide))]; rfl, rfl⟩
             | exact ⟨by rw [HY1.out (sig1_z hz (k := 60) (y := 60) (by assumption) rfl (by decide))]; rfl, rfl⟩
             | exact ⟨by rw [HY1.out (sig1_z hz (k := 62) (y := 62) (by assumption) rfl (by decide))]; rfl, rfl⟩
             | exact ⟨by rw [HN.out (sig1_zn hz (by assumption) (by assumption) (by assumption) (by assumption) (by assumption) (by assumption) (by assumption) (by assumption) (by assumption) (by assumption) (by assumption) (by assumption) (by assumption) (by assumption) (by assumption) (by assumption))]; rfl, rfl⟩
end Go.Proofs.YtonajmngchfjeaaGreatDoor
