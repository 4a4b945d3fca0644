/-
  wide.Read: the number that a numeral says.
-/
import Derived.Test.YtnaajhhdpcdakaaDoorTextB
import Derived.Test.YtnaajhhdpcdakaaDoorWideC
namespace Go.Proofs.YtnaajhhdpcdakaaDoor
open Go.RowKit Num Word
attribute [local go_sem] setCell_drewN cell?_ext frozen?_ext shape?_ext setCell_ext lt_1' ne_1' en_1' le_1' lt_2' ne_2' en_2' le_2' lt_3' ne_3' en_3' le_3' lt_4' ne_4' en_4' le_4' lt_5' ne_5' en_5' le_5' lt_6' ne_6' en_6' le_6' lt_7' ne_7' en_7' le_7' lt_8' ne_8' en_8' le_8' lt_9' ne_9' en_9' le_9' lt_10' ne_10' en_10' le_10' lt_11' ne_11' en_11' le_11' lt_12' ne_12' en_12' le_12'

theorem isNumber_yes (s : ByteArray) (hs : s.size ≤ 140737488351232) (h : isNumL s.data.toList = true) (w : World) :
    Calls Tryd.prog 13 #[.string s] w fun e w' => e = .returned (.bool true) ∧ Below w.heap.size w w' := by
  have := isNumber_any s hs w
  rwa [h] at this
theorem isNumber_not (s : ByteArray) (hs : s.size ≤ 140737488351232) (h : isNumL s.data.toList = false) (w : World) :
    Calls Tryd.prog 13 #[.string s] w fun e w' => e = .returned (.bool false) ∧ Below w.heap.size w w' := by
  have := isNumber_any s hs w
  rwa [h] at this
theorem mul_ten (v : Nat) (h : v < top2) (w : World) :
    Calls Tryd.prog 15 #[W v, .agg #[.int .u64 0, .int .u64 10]] w fun e w' => e = .returned (L (v * 10)) ∧ Below w.heap.size w w' :=
  mul_any v 10 h (by decide) w
theorem addDig (v d : Nat) (z : Int) (hz : z = (d : Int)) (h : v < top2) (hd : d < 10) (w : World) :
    Calls Tryd.prog 14 #[L (v * 10), .agg #[.int .u64 z, .int .u64 0, .int .u64 0, .int .u64 0]] w fun e w' => e = .returned (L (v * 10 + d)) ∧ Below w.heap.size w w' := by
  have e : L d = .agg #[.int .u64 z, .int .u64 0, .int .u64 0, .int .u64 0] := by
    have h0 : w0 d = d := by unfold w0; omega
    have h1 : w1 d = 0 := by unfold w1; omega
    have h2 : w2 d = 0 := by unfold w2; omega
    have h3 : w3 d = 0 := by unfold w3; omega
    simp only [L, h0, h1, h2, h3, hz]; rfl
  rw [← e]
  exact addLong_any (v * 10) d (by unfold top2 top4 at *; omega) (by unfold top4; omega) (by unfold top2 top4 at *; omega) w
theorem num_all {l : List UInt8} (h : isNumL l = true) : l.all isDg = true := by
  cases l with
  | nil => cases h
  | cons c r => unfold isNumL at h; simp only [Bool.and_eq_true] at h; exact h.1
theorem wrap_dig {z : Int} (h : 0 ≤ z) (h2 : z < 256) : IntKind.u64.wrap (IntKind.u8.wrap z) = z := by
  simp [IntKind.wrap, IntKind.bits, IntKind.signed]; omega
theorem valL_take {l : List UInt8} {k : Nat} (h : k < l.length) : valL (l.take (k + 1)) = valL (l.take k) * 10 + (l[k].toNat - 48) := by
  rw [List.take_succ_eq_append_getElem h, valL_snoc, Nat.mul_comm]
theorem valL_take_le (l : List UInt8) (k : Nat) : valL (l.take k) ≤ valL l := by
  have := valL_le (l.take k) (l.drop k)
  rwa [List.take_append_drop] at this
set_option maxRecDepth 100000 in
set_option maxHeartbeats 8000000 in
theorem read_any (s : ByteArray) (hs : s.size ≤ 140737488351232) (w : World) :
    Calls Tryd.prog 6 #[.string s] w fun e w' => e = .returned (.tuple #[W (rdN s.data.toList), .int .i64 (rdE s.data.toList)]) ∧ Below w.heap.size w w' := by
  have hsz : s.data.toList.length = s.size := rfl
  cases hN : isNumL s.data.toList with
  | false =>
    have HI := Lib.hid (isNumber_not s hs hN)
    have HN := Lib.hid hN
    clear hN hsz
    go_enter Tryd.func6, Tryd.ntmps6
    go_wp2_with (go_at_call 13; ((with_reducible refine (HI.out _).mono ?_); rintro e w1 ⟨rfl, hb1⟩; obtain ⟨osA, dA, rfl⟩ := ext_of_below hb1; clear hb1))
    go_returns
    exact ⟨ret_rd (rd_no HN.out).1.symm (rd_no HN.out).2.symm, by (repeat' (first | (with_reducible exact Below.refl _ _) | (with_reducible assumption) | (with_reducible refine Below.alloc ?_ ?_ _) | (with_reducible refine below_drewN ?_ _) | (with_reducible refine below_drew ?_) | (with_reducible refine below_ext ?_ ?_ _ _) | (with_reducible refine Below.setCell ?_ ?_ _) | (simp; done) | (simp; omega) | omega))⟩
  | true =>
    have HI := Lib.hid (isNumber_yes s hs hN)
    have HN := Lib.hid hN
    clear hN
    by_cases h39 : 39 < s.size
    · have h39i : (39 : Int) < s.size := by omega
      clear hsz
      go_enter Tryd.func6, Tryd.ntmps6
      go_wp2_with (go_at_call 13; ((with_reducible refine (HI.out _).mono ?_); rintro e w1 ⟨rfl, hb1⟩; obtain ⟨osA, dA, rfl⟩ := ext_of_below hb1; clear hb1))
      go_returns
      exact ⟨ret_rd (rd_long HN.out h39).1.symm (rd_long HN.out h39).2.symm, by (repeat' (first | (with_reducible exact Below.refl _ _) | (with_reducible assumption) | (with_reducible refine Below.alloc ?_ ?_ _) | (with_reducible refine below_drewN ?_ _) | (with_reducible refine below_drew ?_) | (with_reducible refine below_ext ?_ ?_ _ _) | (with_reducible refine Below.setCell ?_ ?_ _) | (simp; done) | (simp; omega) | omega))⟩
    · have h39i : ¬ (39 : Int) < s.size := by omega
      go_enter Tryd.func6, Tryd.ntmps6
      go_wp2_with (go_at_call 13; ((with_reducible refine (HI.out _).mono ?_); rintro e w1 ⟨rfl, hb1⟩; obtain ⟨osA, dA, rfl⟩ := ext_of_below hb1; clear hb1))
      go_loopw [5] (fun i wr => ∃ (k v : Nat), i = .int .i64 k ∧ k ≤ s.size ∧ v < top2 ∧ Hid (v = valL (s.data.toList.take k)) ∧ Below ((ext (w.alloc (.cells #[.int .u64 0, .int .u64 0] 24)) osA dA).alloc (.cells #[.int .u64 (hi v : Int), .int .u64 (lo v : Int)] 24)).heap.size ((ext (w.alloc (.cells #[.int .u64 0, .int .u64 0] 24)) osA dA).alloc (.cells #[.int .u64 (hi v : Int), .int .u64 (lo v : Int)] 24)) wr) (fun i _ => s.size - (intOf i).toNat)
      case atStart => exact ⟨0, 0, rfl, Nat.zero_le _, by decide, Lib.hid rfl, Below.refl _ _⟩
      case round =>
        obtain ⟨k, v, rfl, hk, hv, hV, hbw⟩ := hrel
        obtain ⟨osX, dX, rfl⟩ := ext_of_below hbw
        clear hbw
        by_cases hlt : k < s.size
        · have hlti : (k : Int) < s.size := by omega
          have hgt : s.data.toList[k]'(by omega) = s[k] := rfl
          have hall : s.data.toList.all isDg = true := num_all HN.out
          have hdg : isDg s[k] = true := List.all_eq_true.1 hall _ (by rw [← hgt]; exact List.getElem_mem _)
          obtain ⟨hb1, hb2⟩ := isDg_yes hdg
          have hb1i : (48 : Int) ≤ s[k].toNat := by omega
          have hb2i : (s[k].toNat : Int) ≤ 57 := by omega
          obtain ⟨d, hd⟩ : ∃ d, d = s[k].toNat - 48 := ⟨_, rfl⟩
          have hd9 : d < 10 := by omega
          have hst := valL_take (l := s.data.toList) (k := k) (by omega)
          rw [hgt, ← hV.out, ← hd] at hst
          have HST := Lib.hid hst.symm
          have HM := Lib.hid (mul_ten v hv)
          have HA := Lib.hid (addDig v d (IntKind.u64.wrap (IntKind.u8.wrap ((s[k].toNat : Int) - 48))) (by rw [wrap_dig (by omega) (by omega)]; omega) hv hd9)
          have hn4 : v * 10 + d < top4 := by unfold top2 top4 at *; omega
          by_cases hn : v * 10 + d < top2
          · have HNA := Lib.hid (narrow_ok (v * 10 + d) hn)
            obtain ⟨v', hv'⟩ : ∃ v', v' = v * 10 + d := ⟨_, rfl⟩
            rw [← hv'] at HNA HST hn HA
            clear hst hd hgt hall hdg hv' hn4 hV
            go_wp2_with fail
            go_region_held3 (fun w' => w'.cell? ⟨w.heap.size + 1 + osA.size, 0, none⟩ = some (.int .u64 (hi v : Int)) ∧ w'.cell? ⟨w.heap.size + 1 + osA.size, 1, none⟩ = some (.int .u64 (lo v : Int))) (simp [go_sem]) (first
              | (go_at_call 15; ((with_reducible refine (HM.out _).mono ?_); rintro e w1 ⟨rfl, hb1⟩; obtain ⟨osM, dM, rfl⟩ := ext_of_below hb1; clear hb1))
              | (go_at_call 14; ((with_reducible refine (HA.out _).mono ?_); rintro e w1 ⟨rfl, hb1⟩; obtain ⟨osN, dN, rfl⟩ := ext_of_below hb1; clear hb1)))
            all_goals
              go_wp2_with (go_at_call 16; ((with_reducible refine (HNA.out _).mono ?_); rintro e w1 ⟨rfl, hb1⟩; obtain ⟨osO, dO, rfl⟩ := ext_of_below hb1; clear hb1))
              go_roundw
              case rel => exact ⟨k + 1, v', by go_num, by omega, hn, HST, by (repeat' (first | (with_reducible exact Below.refl _ _) | (with_reducible assumption) | (with_reducible refine Below.alloc ?_ ?_ _) | (with_reducible refine below_drewN ?_ _) | (with_reducible refine below_drew ?_) | (with_reducible refine below_ext ?_ ?_ _ _) | (with_reducible refine Below.setCell ?_ ?_ _) | (simp; done) | (simp; omega) | omega))⟩
              case measure => simp only [intOf]; omega
          · have hn2 : top2 ≤ v * 10 + d := by omega
            have HNA := Lib.hid (narrow_over (v * 10 + d) hn4 hn2)
            have HV := Lib.hid (show ¬ valL s.data.toList < top2 by
              have := valL_take_le s.data.toList (k + 1)
              rw [hst] at this; omega)
            obtain ⟨v', hv'⟩ : ∃ v', v' = v * 10 + d := ⟨_, rfl⟩
            rw [← hv'] at HNA HA
            clear hst hd hgt hall hdg hv' hn4 hn hn2 hV HST
            go_wp2_with fail
            go_region_held3 (fun w' => w'.cell? ⟨w.heap.size + 1 + osA.size, 0, none⟩ = some (.int .u64 (hi v : Int)) ∧ w'.cell? ⟨w.heap.size + 1 + osA.size, 1, none⟩ = some (.int .u64 (lo v : Int))) (simp [go_sem]) (first
              | (go_at_call 15; ((with_reducible refine (HM.out _).mono ?_); rintro e w1 ⟨rfl, hb1⟩; obtain ⟨osM, dM, rfl⟩ := ext_of_below hb1; clear hb1))
              | (go_at_call 14; ((with_reducible refine (HA.out _).mono ?_); rintro e w1 ⟨rfl, hb1⟩; obtain ⟨osN, dN, rfl⟩ := ext_of_below hb1; clear hb1)))
            all_goals
              go_wp2_with (go_at_call 16; ((with_reducible refine (HNA.out _).mono ?_); rintro e w1 ⟨rfl, hb1⟩; obtain ⟨osO, dO, rfl⟩ := ext_of_below hb1; clear hb1))
              go_returns
              exact ⟨ret_rd (a := 0) (b := rdN s.data.toList) (x := 3) (y := rdE s.data.toList) (by rw [(rd_yes HN.out h39).1]; exact (if_neg HV.out).symm) (by rw [(rd_yes HN.out h39).2]; exact (if_neg HV.out).symm), by (repeat' (first | (with_reducible exact Below.refl _ _) | (with_reducible assumption) | (with_reducible refine Below.alloc ?_ ?_ _) | (with_reducible refine below_drewN ?_ _) | (with_reducible refine below_drew ?_) | (with_reducible refine below_ext ?_ ?_ _ _) | (with_reducible refine Below.setCell ?_ ?_ _) | (simp; done) | (simp; omega) | omega))⟩
        · obtain rfl : k = s.size := by omega
          have hV2 := hV.out
          rw [List.take_of_length_le (by omega)] at hV2
          have HV := Lib.hid hV2
          have HT := Lib.hid (show valL s.data.toList < top2 by rw [← hV2]; exact hv)
          clear hV2 hV
          go_wp2
          go_returns
          exact ⟨ret_rd (a := v) (b := rdN s.data.toList) (x := 0) (y := rdE s.data.toList) (by rw [(rd_yes HN.out h39).1, HV.out]; exact (if_pos HT.out).symm) (by rw [(rd_yes HN.out h39).2]; exact (if_pos HT.out).symm), by (repeat' (first | (with_reducible exact Below.refl _ _) | (with_reducible assumption) | (with_reducible refine Below.alloc ?_ ?_ _) | (with_reducible refine below_drewN ?_ _) | (with_reducible refine below_drew ?_) | (with_reducible refine below_ext ?_ ?_ _ _) | (with_reducible refine Below.setCell ?_ ?_ _) | (simp; done) | (simp; omega) | omega))⟩
end Go.Proofs.YtnaajhhdpcdakaaDoor
