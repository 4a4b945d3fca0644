/-
  Contracts of the document's answers for texts of days: DocParse, Told, DocPrint.
-/
import Derived.Test.YtcfgjhfgjckbbaaDoorTexts
namespace Go.Proofs.YtcfgjhfgjckbbaaDoor
open Go.RowKit
attribute [local go_sem] setCell_drewN cell?_ext frozen?_ext shape?_ext setCell_ext lt_1' ne_1' en_1' le_1' lt_2' ne_2' en_2' le_2' lt_3' ne_3' en_3' le_3' lt_4' ne_4' en_4' le_4' lt_5' ne_5' en_5' le_5' lt_6' ne_6' en_6' le_6' lt_7' ne_7' en_7' le_7' lt_8' ne_8' en_8' le_8' lt_9' ne_9' en_9' le_9' lt_10' ne_10' en_10' le_10' lt_11' ne_11' en_11' le_11' lt_12' ne_12' en_12' le_12'

theorem slice4 (s : ByteArray) (h : 4 ≤ s.size) : ∀ w, (Instr.slice 9 (.string s) none (some (.int .i64 4)) none).run Tryd.prog w = .ok (.string (s.extract 0 4)) w :=
  fun w => run_slice_string_h (w := w) (P := Tryd.prog) (t := 9) (s := s) Tryd.underlying9 (kh := .i64) (h := 4) (h0 := by omega) (h2 := by omega)
theorem slice57 (s : ByteArray) (h : 7 ≤ s.size) : ∀ w, (Instr.slice 9 (.string s) (some (.int .i64 5)) (some (.int .i64 7)) none).run Tryd.prog w = .ok (.string (s.extract 5 7)) w :=
  fun w => run_slice_string (P := Tryd.prog) (w := w) (t := 9) (s := s) (k := .i64) (k' := .i64) (i := 5) (j := 7) (h := Tryd.underlying9) (h0 := by omega) (h1 := by omega) (h2 := by omega)
theorem slice8 (s : ByteArray) (h : 8 ≤ s.size) : ∀ w, (Instr.slice 9 (.string s) (some (.int .i64 8)) none none).run Tryd.prog w = .ok (.string (s.extract 8 s.size)) w :=
  fun w => run_slice_string_l (w := w) (P := Tryd.prog) (t := 9) (s := s) Tryd.underlying9 (kl := .i64) (l := 8) (h0 := by omega) (h1 := by omega)
/-- all bytes are digits -/
def AllD (s : ByteArray) : Prop := ∀ i (h : i < s.size), dgB s[i] = true
theorem rdigits_ex (s : ByteArray) (hs : s.size ≤ 4) : ∃ (v : Int) (b : Bool), (b = false → ¬ AllD s) ∧ (b = true → AllD s ∧ v = num s.data.toList) ∧
    ∀ w, Calls Tryd.prog 62 #[.string s] w fun e w' => e = .returned (.tuple #[.int .i64 v, .bool b]) ∧ w = w' := by
  by_cases h : ∀ i (h : i < s.size), dgB s[i] = true
  · exact ⟨_, true, fun h => by simp at h, fun _ => ⟨h, rfl⟩, fun w => rdigits_yes s hs h w⟩
  · exact ⟨0, false, fun _ => h, fun h => by simp at h, fun w => rdigits_no s hs h w⟩
theorem isD_of (s : ByteArray) (hs : s.size = 10) (h4 : (s[4]'(by omega)).toNat = 45) (h7 : (s[7]'(by omega)).toNat = 45) (ha : AllD (s.extract 0 4)) (hb : AllD (s.extract 5 7)) (hc : AllD (s.extract 8 s.size)) : IsD s := by
  obtain ⟨-, p1, p2, p3⟩ := parts_of s hs
  refine ⟨hs, fun i hi => ?_⟩
  by_cases h : i = 4 ∨ i = 7
  · rw [if_pos h]
    rcases h with rfl | rfl
    · exact h4
    · exact h7
  · rw [if_neg h]
    have hcs : i < 4 ∨ (5 ≤ i ∧ i < 7) ∨ 8 ≤ i := by omega
    rcases hcs with h1 | ⟨h1, h2⟩ | h1
    · have := ha i (by omega)
      rw [ByteArray.getElem_extract] at this
      simpa using this
    · obtain ⟨j, rfl⟩ : ∃ j, i = 5 + j := ⟨i - 5, by omega⟩
      have := hb j (by omega)
      rw [ByteArray.getElem_extract] at this
      exact this
    · obtain ⟨j, rfl⟩ : ∃ j, i = 8 + j := ⟨i - 8, by omega⟩
      have := hc j (by omega)
      rw [ByteArray.getElem_extract] at this
      exact this
set_option maxHeartbeats 2000000 in
theorem DocParse_no (s : ByteArray) (h : ¬ IsD s) (w : World) :
    Calls Tryd.prog 28 #[.string s] w fun e w' => e = .returned (.tuple #[.int .i64 0, .int .i64 5]) ∧ w = w' := by
  have HN := Lib.hid h
  clear h
  by_cases hs : s.size = 10
  · have e10 : ((s.size : Int) != 10) = false := by rw [hs]; rfl
    obtain ⟨-, p1, p2, p3⟩ := parts_of s hs
    have HS := Lib.hid hs
    have g1 : 10 ≤ s.size := by omega
    have g4 : 4 < s.size := by omega
    have g7 : 7 < s.size := by omega
    by_cases h4 : (s[4]'g4).toNat = 45
    · have h4' : (((s[4]'g4).toNat : Int) != 45) = false := by rw [h4]; rfl
      have H4 := Lib.hid h4
      by_cases h7 : (s[7]'g7).toNat = 45
      · have h7' : (((s[7]'g7).toNat : Int) != 45) = false := by rw [h7]; rfl
        have H7 := Lib.hid h7
        obtain ⟨va, ba, fa, ta, ha⟩ := rdigits_ex (s.extract 0 4) (by omega)
        obtain ⟨vb, bb, fb, tb, hb⟩ := rdigits_ex (s.extract 5 7) (by omega)
        obtain ⟨vc, bc, fc, tc, hc⟩ := rdigits_ex (s.extract 8 s.size) (by omega)
        have HA := Lib.hid ha; have HB := Lib.hid hb; have HC := Lib.hid hc
        have k1 := slice4 s (by omega)
        have k2 := slice57 s (by omega)
        have k3 := slice8 s (by omega)
        have hbool : ba = false ∨ (ba = true ∧ bb = false) ∨ (ba = true ∧ bb = true ∧ bc = false) := by
          cases ba
          · exact .inl rfl
          · cases bb
            · exact .inr (.inl ⟨rfl, rfl⟩)
            · cases bc
              · exact .inr (.inr ⟨rfl, rfl, rfl⟩)
              · exact absurd (isD_of s hs h4 h7 (ta rfl).1 (tb rfl).1 (tc rfl).1) HN.out
        clear ha hb hc fa ta fb tb fc tc h4 h7 hs p1 p2 p3
        rcases hbool with rfl | ⟨rfl, rfl⟩ | ⟨rfl, rfl, rfl⟩
        all_goals
          go_enter Tryd.func28, Tryd.ntmps28
          go_wp2_with (first
            | (go_at_call 62; ((with_reducible refine (HA.out _).mono ?_); rintro e w' ⟨rfl, rfl⟩))
            | (go_at_call 62; ((with_reducible refine (HB.out _).mono ?_); rintro e w' ⟨rfl, rfl⟩))
            | (go_at_call 62; ((with_reducible refine (HC.out _).mono ?_); rintro e w' ⟨rfl, rfl⟩)))
          go_ret2
          exact ⟨rfl, rfl⟩
      · have h7' : (((s[7]'g7).toNat : Int) != 45) = true := by simp; omega
        clear h4 h7 hs p1 p2 p3
        go_enter Tryd.func28, Tryd.ntmps28
        go_wp2
        go_ret2
        exact ⟨rfl, rfl⟩
    · have h4' : (((s[4]'g4).toNat : Int) != 45) = true := by simp; omega
      clear h4 hs p1 p2 p3
      go_enter Tryd.func28, Tryd.ntmps28
      go_wp2
      go_ret2
      exact ⟨rfl, rfl⟩
  · have e10 : ((s.size : Int) != 10) = true := by simp; omega
    clear hs
    go_enter Tryd.func28, Tryd.ntmps28
    go_wp2
    go_ret2
    exact ⟨rfl, rfl⟩
set_option maxHeartbeats 2000000 in
theorem DocParse_core (s : ByteArray) (h : IsD s) (a e : Int) (w : World) (hD : Calls Tryd.prog 16 #[.int .i64 (py s), .int .i64 (pm s), .int .i64 (pd s)] w fun x w' => x = .returned (.tuple #[.int .i64 a, .int .i64 e]) ∧ w = w') (he : (e = 0) ∨ (e = 1 ∧ a = 0)) :
    Calls Tryd.prog 28 #[.string s] w fun x w' => x = .returned (.tuple #[.int .i64 a, .int .i64 (e * 17)]) ∧ w = w' := by
  have HD := Lib.hid hD
  obtain ⟨hs, p1, p2, p3⟩ := parts_of s h.1
  obtain ⟨q1, q2, q3⟩ := dg_of s h
  have g4 : 4 < s.size := by omega
  have g7 : 7 < s.size := by omega
  have e10 : ((s.size : Int) != 10) = false := by rw [hs]; rfl
  have d4 := h.2 4 g4
  have d7 := h.2 7 g7
  rw [if_pos (.inl rfl)] at d4
  rw [if_pos (.inr rfl)] at d7
  have h4' : (((s[4]'g4).toNat : Int) != 45) = false := by rw [d4]; rfl
  have h7' : (((s[7]'g7).toNat : Int) != 45) = false := by rw [d7]; rfl
  have hA := rdigits_yes (s.extract 0 4) (by omega) q1
  have hB := rdigits_yes (s.extract 5 7) (by omega) q2
  have hC := rdigits_yes (s.extract 8 s.size) (by omega) q3
  rw [← py] at hA; rw [← pm] at hB; rw [← pd] at hC
  have HA := Lib.hid hA; have HB := Lib.hid hB; have HC := Lib.hid hC
  have k1 := slice4 s (by omega)
  have k2 := slice57 s (by omega)
  have k3 := slice8 s (by omega)
  clear hA hB hC hs p1 p2 p3 q1 q2 q3 hD h d4 d7
  rcases he with rfl | ⟨rfl, rfl⟩
  all_goals
    go_enter Tryd.func28, Tryd.ntmps28
    go_wp2_with (first
      | (go_at_call 62; ((with_reducible refine (HA.out _).mono ?_); rintro e w' ⟨rfl, rfl⟩))
      | (go_at_call 62; ((with_reducible refine (HB.out _).mono ?_); rintro e w' ⟨rfl, rfl⟩))
      | (go_at_call 62; ((with_reducible refine (HC.out _).mono ?_); rintro e w' ⟨rfl, rfl⟩))
      | (go_at_call 16; ((with_reducible refine (HD.out).mono ?_); rintro e w' ⟨rfl, rfl⟩)))
    go_ret2
    exact ⟨rfl, rfl⟩
theorem DocParse_yes (s : ByteArray) (h : IsD s) (n : Int) (hI : Cal.IsDay n (py s) (pm s) (pd s)) (w : World) :
    Calls Tryd.prog 28 #[.string s] w fun x w' => x = .returned (.tuple #[.int .i64 n, .int .i64 0]) ∧ w = w' :=
  DocParse_core s h n 0 w (DocDay_ok n _ _ _ hI _) (.inl rfl)
theorem DocParse_far (s : ByteArray) (h : IsD s) (hI : NoDay (py s) (pm s) (pd s)) (w : World) :
    Calls Tryd.prog 28 #[.string s] w fun x w' => x = .returned (.tuple #[.int .i64 0, .int .i64 17]) ∧ w = w' :=
  DocParse_core s h 0 1 w (DocDay_bad _ _ _ hI _) (.inr ⟨rfl, rfl⟩)
def digs : ByteArray := { data := #[48, 49, 50, 51, 52, 53, 54, 55, 56, 57] }
theorem digs_one : ∀ a : Fin 10, digs.extract a.val (a.val + 1) = mk [UInt8.ofNat (48 + a.val)] := by decide +kernel
theorem slice_one (a : Nat) (h : a < 10) : ∀ w, (Instr.slice 9 (.string digs) (some (.int .i64 a)) (some (.int .i64 ((a : Int) + 1))) none).run Tryd.prog w = .ok (.string (mk [UInt8.ofNat (48 + a)])) w := fun w => by
  have hz : digs.size = 10 := rfl
  rw [run_slice_string (P := Tryd.prog) (w := w) (t := 9) (s := digs) (k := .i64) (k' := .i64) (i := a) (j := (a : Int) + 1) (h := Tryd.underlying9) (h0 := by omega) (h1 := by omega) (h2 := by omega)]
  rw [show ((a : Int)).toNat = a by omega, show ((a : Int) + 1).toNat = a + 1 by omega, digs_one ⟨a, h⟩]
theorem two_app (a b : Nat) (n : Nat) (ha : a = n / 10) (hb : b = n % 10) : mk [UInt8.ofNat (48 + a)] ++ mk [UInt8.ofNat (48 + b)] = mk (two n) := by rw [mk_append, ha, hb]; rfl
set_option maxHeartbeats 1000000 in
theorem two_ref (n : Nat) (hn : n < 100) (w : World) :
    Calls Tryd.prog 87 #[.int .i64 n] w fun e w' => e = .returned (.string (mk (two n))) ∧ Below w.heap.size w w' := by
  obtain ⟨a, ha⟩ : ∃ a, a = n / 10 := ⟨_, rfl⟩
  obtain ⟨b, hb⟩ : ∃ b, b = n % 10 := ⟨_, rfl⟩
  have E1 : ((n : Int)).tdiv 10 = (a : Int) := by rw [Int.tdiv_eq_ediv_of_nonneg (by omega)]; omega
  have E2 : ((n : Int)).tmod 10 = (b : Int) := by rw [Int.tmod_eq_emod_of_nonneg (by omega)]; omega
  have E3 : (n : Int) / 10 = (a : Int) := by omega
  have E4 : (n : Int) % 10 = (b : Int) := by omega
  have ha1 : a < 10 := by omega
  have hb1 : b < 10 := by omega
  have W1 : IntKind.i64.wrap ((a : Int) + 1) = (a : Int) + 1 := IntWalk.i64_in _ (by omega)
  have W2 : IntKind.i64.wrap ((b : Int) + 1) = (b : Int) + 1 := IntWalk.i64_in _ (by omega)
  have W3 : IntKind.i64.wrap (a : Int) = (a : Int) := IntWalk.i64_in _ (by omega)
  have k1 := slice_one a ha1
  have k2 := slice_one b hb1
  have happ := two_app a b n ha hb
  obtain ⟨x, hx⟩ : ∃ x, x = mk [UInt8.ofNat (48 + a)] := ⟨_, rfl⟩
  obtain ⟨y, hy⟩ : ∃ y, y = mk [UInt8.ofNat (48 + b)] := ⟨_, rfl⟩
  rw [← hx] at k1 happ
  rw [← hy] at k2 happ
  have x1 : x.size ≤ 1 := by rw [hx]; exact Nat.le_refl 1
  have y1 : y.size ≤ 1 := by rw [hy]; exact Nat.le_refl 1
  unfold digs at k1 k2
  have HAPP := Lib.hid happ
  clear happ hx hy ha hb
  go_enter Tryd.func87, Tryd.ntmps87
  go_wp2
  go_quiet (fail)
  go_wp2
  go_ret
  exact ⟨str_eq HAPP.out, by (repeat' (first | (with_reducible exact Below.refl _ _) | (with_reducible assumption) | (with_reducible refine Below.alloc ?_ ?_ _) | (with_reducible refine below_drewN ?_ _) | (with_reducible refine below_drew ?_) | (with_reducible refine below_ext ?_ ?_ _ _) | (with_reducible refine Below.setCell ?_ ?_ _) | (simp; done) | (simp; omega) | omega))⟩
end Go.Proofs.YtcfgjhfgjckbbaaDoor
