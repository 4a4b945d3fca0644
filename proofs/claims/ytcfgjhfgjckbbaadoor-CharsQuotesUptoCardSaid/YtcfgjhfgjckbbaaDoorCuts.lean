/-
  Contracts of chars.Count and Part, and the law CharsCuts.
-/
import Derived.Test.YtcfgjhfgjckbbaaDoorCharsLaid
import Derived.Test.YtcfgjhfgjckbbaaDoorPath
namespace Go.Proofs.YtcfgjhfgjckbbaaDoor
open Go.RowKit Txt
attribute [local go_sem] setCell_drewN cell?_ext frozen?_ext shape?_ext setCell_ext lt_1' ne_1' en_1' le_1' lt_2' ne_2' en_2' le_2' lt_3' ne_3' en_3' le_3' lt_4' ne_4' en_4' le_4' lt_5' ne_5' en_5' le_5' lt_6' ne_6' en_6' le_6' lt_7' ne_7' en_7' le_7' lt_8' ne_8' en_8' le_8' lt_9' ne_9' en_9' le_9' lt_10' ne_10' en_10' le_10' lt_11' ne_11' en_11' le_11' lt_12' ne_12' en_12' le_12'

theorem clone_any (s : ByteArray) (w : World) (hs : s.size ≤ 140737488351232) :
    Calls Tryd.prog 72 #[.string s] w fun e w' => e = .returned (.string s) ∧ Below w.heap.size w w' := by
  have hC := Tryd.stringslite_Clone s w (by omega)
  have HC := Lib.hid hC
  clear hC
  go_enter Tryd.func72, Tryd.ntmps72
  go_wp2_with (go_at_call 93; ((with_reducible refine (HC.out).mono ?_); rintro e w1 ⟨rfl, hb1⟩; obtain ⟨osA, dA, rfl⟩ := ext_of_below hb1; clear hb1))
  go_ret
  exact ⟨rfl, by (repeat' (first | (with_reducible exact Below.refl _ _) | (with_reducible assumption) | (with_reducible refine Below.alloc ?_ ?_ _) | (with_reducible refine below_drewN ?_ _) | (with_reducible refine below_drew ?_) | (with_reducible refine below_ext ?_ ?_ _ _) | (with_reducible refine Below.setCell ?_ ?_ _) | (simp; done) | (simp; omega) | omega))⟩
theorem runes_any (s : ByteArray) (w : World) (hs : s.size ≤ 140737488351232) :
    Calls Tryd.prog 70 #[.string s] w fun e w' => e = .returned (.int .i64 (Lib.runeCount s)) ∧ Below w.heap.size w w' := by
  refine (Tryd.utf8_RuneCountInString s w (by omega)).mono ?_
  rintro e w' ⟨rfl, pos, rfl⟩
  exact ⟨rfl, below_iter (Below.refl _ _) (Nat.le_refl _) s pos⟩
theorem maxLen_of {n : Nat} (h : n ≤ 140737488351232) : n ≤ maxLen := by unfold maxLen; omega
theorem count_text (s : ByteArray) (hs : s.size ≤ 140737488351232) (ht : isText s = true) (w : World) (hT : Tabs w) :
    Calls Tryd.prog 36 #[.string s] w fun e w' => e = .returned (.tuple #[.int .i64 (Lib.runeCount s), .int .i64 0]) ∧ Below w.heap.size w w' := by
  have hV := valid_any s (maxLen_of hs) w hT
  rw [ht] at hV
  have HV := Lib.hid hV
  have HR := Lib.hid (fun w => runes_any s w hs)
  clear hV ht hT
  go_enter Tryd.func36, Tryd.ntmps36
  go_wp2_with (first
    | (go_at_call 33; ((with_reducible refine (HV.out).mono ?_); rintro e w1 ⟨rfl, hb1⟩; obtain ⟨osA, dA, rfl⟩ := ext_of_below hb1; clear hb1))
    | (go_at_call 70; ((with_reducible refine (HR.out _).mono ?_); rintro e w1 ⟨rfl, hb1⟩; obtain ⟨osB, dB, rfl⟩ := ext_of_below hb1; clear hb1)))
  go_ret2
  exact ⟨rfl, by (repeat' (first | (with_reducible exact Below.refl _ _) | (with_reducible assumption) | (with_reducible refine Below.alloc ?_ ?_ _) | (with_reducible refine below_drewN ?_ _) | (with_reducible refine below_drew ?_) | (with_reducible refine below_ext ?_ ?_ _ _) | (with_reducible refine Below.setCell ?_ ?_ _) | (simp; done) | (simp; omega) | omega))⟩
theorem count_bad (s : ByteArray) (hs : s.size ≤ 140737488351232) (ht : isText s = false) (w : World) (hT : Tabs w) :
    Calls Tryd.prog 36 #[.string s] w fun e w' => e = .returned (.tuple #[.int .i64 0, .int .i64 2]) ∧ Below w.heap.size w w' := by
  have hV := valid_any s (maxLen_of hs) w hT
  rw [ht] at hV
  have HV := Lib.hid hV
  clear hV ht hT
  go_enter Tryd.func36, Tryd.ntmps36
  go_wp2_with (go_at_call 33; ((with_reducible refine (HV.out).mono ?_); rintro e w1 ⟨rfl, hb1⟩; obtain ⟨osA, dA, rfl⟩ := ext_of_below hb1; clear hb1))
  go_ret2
  exact ⟨rfl, by (repeat' (first | (with_reducible exact Below.refl _ _) | (with_reducible assumption) | (with_reducible refine Below.alloc ?_ ?_ _) | (with_reducible refine below_drewN ?_ _) | (with_reducible refine below_drew ?_) | (with_reducible refine below_ext ?_ ?_ _ _) | (with_reducible refine Below.setCell ?_ ?_ _) | (simp; done) | (simp; omega) | omega))⟩
theorem quote_bad (s : ByteArray) (hs : s.size ≤ 140737488351232) (ht : isText s = false) (w : World) (hT : Tabs w) :
    Calls Tryd.prog 48 #[.string s] w fun e w' => e = .returned (.tuple #[.string { data := #[] }, .int .i64 2]) ∧ Below w.heap.size w w' := by
  have hV := valid_any s (maxLen_of hs) w hT
  rw [ht] at hV
  have HV := Lib.hid hV
  clear hV ht hT
  go_enter Tryd.func48, Tryd.ntmps48
  go_wp2_with (go_at_call 33; ((with_reducible refine (HV.out).mono ?_); rintro e w1 ⟨rfl, hb1⟩; obtain ⟨osA, dA, rfl⟩ := ext_of_below hb1; clear hb1))
  go_ret2
  exact ⟨rfl, by (repeat' (first | (with_reducible exact Below.refl _ _) | (with_reducible assumption) | (with_reducible refine Below.alloc ?_ ?_ _) | (with_reducible refine below_drewN ?_ _) | (with_reducible refine below_drew ?_) | (with_reducible refine below_ext ?_ ?_ _ _) | (with_reducible refine Below.setCell ?_ ?_ _) | (simp; done) | (simp; omega) | omega))⟩
theorem escape_bad (s : ByteArray) (attr : Bool) (hs : s.size ≤ 140737488351232) (ht : isText s = false) (w : World) (hT : Tabs w) :
    Calls Tryd.prog 44 #[.string s, .bool attr] w fun e w' => e = .returned (.tuple #[.string { data := #[] }, .int .i64 2]) ∧ Below w.heap.size w w' := by
  have hV := valid_any s (maxLen_of hs) w hT
  rw [ht] at hV
  have HV := Lib.hid hV
  clear hV ht hT
  go_enter Tryd.func44, Tryd.ntmps44
  go_wp2_with (go_at_call 33; ((with_reducible refine (HV.out).mono ?_); rintro e w1 ⟨rfl, hb1⟩; obtain ⟨osA, dA, rfl⟩ := ext_of_below hb1; clear hb1))
  go_ret2
  exact ⟨rfl, by (repeat' (first | (with_reducible exact Below.refl _ _) | (with_reducible assumption) | (with_reducible refine Below.alloc ?_ ?_ _) | (with_reducible refine below_drewN ?_ _) | (with_reducible refine below_drew ?_) | (with_reducible refine below_ext ?_ ?_ _ _) | (with_reducible refine Below.setCell ?_ ?_ _) | (simp; done) | (simp; omega) | omega))⟩
set_option maxHeartbeats 2000000 in
theorem place_any (s : ByteArray) (n : Nat) (hn : n ≤ 9223372036854775807) (w : World) :
    Calls Tryd.prog 71 #[.string s, .int .i64 n] w fun e w' => e = .returned (.int .i64 (place s n)) ∧ Below w.heap.size w w' := by
  obtain ⟨P, hP⟩ : ∃ P, P = place s n := ⟨_, rfl⟩
  rw [← hP]
  have HP := Lib.hid hP
  clear hP
  go_enter Tryd.func71, Tryd.ntmps71
  go_wp2
  go_loopw [1] (fun u wr => ∃ (pos b m : Nat), wr = w.iter s pos ∧ u = .int .i64 m ∧ m ≤ 9223372036854775807 ∧ Hid (placeFrom s b pos m = P) ∧ s.size ≤ pos + b) (fun _ wr => s.size - wr.iterPos w.heap.size)
  case atStart => exact ⟨0, s.size, n, rfl, rfl, hn, Lib.hid HP.out.symm, by omega⟩
  case round =>
    obtain ⟨pos, b, m, rfl, rfl, hm, ht, hb⟩ := hrel
    by_cases hp : pos < s.size
    · have hnx := next_any w w.heap.size rfl s pos hp
      have hw := width_pos s pos
      have hstep : Hid (∀ b', b = b' + 1 → (if m = 0 then pos else placeFrom s b' (pos + (Utf8.decode s pos).2) (m - 1)) = P) := Lib.hid (fun b' e => by
        have := ht.out
        rw [e] at this
        unfold placeFrom at this
        rw [if_pos hp] at this
        exact this)
      obtain ⟨D, hD⟩ : ∃ D, Utf8.decode s pos = D := ⟨_, rfl⟩
      rw [hD] at hw hnx hstep
      obtain ⟨r, k⟩ := D
      simp only at hw hnx hstep
      clear hD
      by_cases hm0 : m = 0
      · subst hm0
        go_wp2
        go_ret
        refine ⟨?_, below_iter (Below.refl _ _) (Nat.le_refl _) _ _⟩
        obtain ⟨b', rfl⟩ : ∃ b', b = b' + 1 := ⟨b - 1, by omega⟩
        have := hstep.out b' rfl
        have h2 : pos = P := by simpa using this
        rw [← h2]
        rfl
      · have hm1 : ((m : Int) == 0) = false := by simp; omega
        have hm2 : 1 ≤ m := by omega
        clear hm0
        go_wp2
        go_roundw
        case rel =>
          obtain ⟨b', rfl⟩ : ∃ b', b = b' + 1 := ⟨b - 1, by omega⟩
          refine ⟨pos + k, b', m - 1, rfl, ?_, by omega, ?_, by omega⟩
          · rw [show (m : Int) - 1 = ((m - 1 : Nat) : Int) by omega]
          · have := hstep.out b' rfl
            rw [if_neg (by omega)] at this
            exact Lib.hid this
        case measure => simp only [World.iterPos_iter]; omega
    · have hnx := next_end w w.heap.size rfl s pos hp
      have hP2 : Hid (P = s.size) := Lib.hid (by rw [← ht.out]; exact placeFrom_end s b pos m hp)
      go_wp2
      go_ret
      refine ⟨?_, below_iter (Below.refl _ _) (Nat.le_refl _) _ _⟩
      rw [hP2.out]
      rfl
/-- so many characters behind so many others -/
def partB (s : ByteArray) (skip n : Nat) : ByteArray := (s.extract (place s skip) s.size).extract 0 (place (s.extract (place s skip) s.size) n)
theorem slice_from (s : ByteArray) (p : Nat) (h : p ≤ s.size) : ∀ w, (Instr.slice 9 (.string s) (some (.int .i64 (p : Int))) none none).run Tryd.prog w = .ok (.string (s.extract p s.size)) w :=
  fun w => by
    have := run_slice_string_l (w := w) (P := Tryd.prog) (t := 9) (s := s) Tryd.underlying9 (kl := .i64) (l := (p : Int)) (h0 := by omega) (h1 := by omega)
    rw [Int.toNat_natCast] at this
    exact this
theorem slice_to (s : ByteArray) (p : Nat) (h : p ≤ s.size) : ∀ w, (Instr.slice 9 (.string s) none (some (.int .i64 (p : Int))) none).run Tryd.prog w = .ok (.string (s.extract 0 p)) w :=
  fun w => by
    have := run_slice_string_h (w := w) (P := Tryd.prog) (t := 9) (s := s) Tryd.underlying9 (kh := .i64) (h := (p : Int)) (h0 := by omega) (h2 := by omega)
    rw [Int.toNat_natCast] at this
    exact this
/-- how many characters are passed over -/
def Skip (s : ByteArray) (from' : Int) (skip : Nat) : Prop := (0 < from' ∧ (skip : Int) = from' - 1) ∨ (from' < 0 ∧ (skip : Int) = max ((Lib.runeCount s : Int) + from') 0)
set_option maxHeartbeats 2000000 in
theorem part_text (s : ByteArray) (f : Int) (skip n : Nat) (hf1 : -9223372036854775808 ≤ f) (hf2 : f ≤ 9223372036854775807) (hn : n ≤ 9223372036854775807) (hk : Skip s f skip) (hs : s.size ≤ 140737488351232) (ht : isText s = true) (w : World) (hT : Tabs w) :
    Calls Tryd.prog 38 #[.string s, .int .i64 f, .int .i64 n] w fun e w' => e = .returned (.tuple #[.string (partB s skip n), .int .i64 0]) ∧ Below w.heap.size w w' := by
  have hV := valid_any s (maxLen_of hs) w hT
  rw [ht] at hV
  have HV := Lib.hid hV
  have HR := Lib.hid (fun w => runes_any s w hs)
  have hc := count_le s
  have hP := place_any s skip (by unfold Skip at hk; omega)
  obtain ⟨p, hp⟩ : ∃ p, p = place s skip := ⟨_, rfl⟩
  have hpl : p ≤ s.size := by rw [hp]; exact place_le s skip
  obtain ⟨r, hr⟩ : ∃ r, r = s.extract p s.size := ⟨_, rfl⟩
  have hrs : r.size ≤ 140737488351232 := by rw [hr, size_suffix]; omega
  have hQ := place_any r n hn
  obtain ⟨q, hq⟩ : ∃ q, q = place r n := ⟨_, rfl⟩
  have hql : q ≤ r.size := by rw [hq]; exact place_le r n
  obtain ⟨x, hx⟩ : ∃ x, x = r.extract 0 q := ⟨_, rfl⟩
  have hxs : x.size ≤ 140737488351232 := by rw [hx, size_prefix r q hql]; omega
  have k1 := slice_from s p hpl
  have k2 := slice_to r q hql
  rw [← hr] at k1
  rw [← hx] at k2
  rw [← hp] at hP
  rw [← hq] at hQ
  have hres : partB s skip n = x := by unfold partB; rw [← hp, ← hr, ← hq, ← hx]
  rw [hres]
  have HP := Lib.hid hP; have HQ := Lib.hid hQ; have HC := Lib.hid (fun w => clone_any x w hxs)
  clear hP hQ hp hr hq hx hres hV ht hT hql hpl
  rcases hk with ⟨h1, h2⟩ | ⟨h1, h2⟩
  · have E1 : f - 1 = (skip : Int) := h2.symm
    have hf0 : (f == 0) = false := by simp; omega
    have hlt : ¬ f < 0 := by omega
    clear h2
    go_enter Tryd.func38, Tryd.ntmps38
    go_wp2_with (first
      | (go_at_call 33; ((with_reducible refine (HV.out).mono ?_); rintro e w1 ⟨rfl, hb1⟩; obtain ⟨osA, dA, rfl⟩ := ext_of_below hb1; clear hb1))
      | (go_at_call 71; ((with_reducible refine (HP.out _).mono ?_); rintro e w1 ⟨rfl, hb1⟩; obtain ⟨osB, dB, rfl⟩ := ext_of_below hb1; clear hb1))
      | (go_at_call 71; ((with_reducible refine (HQ.out _).mono ?_); rintro e w1 ⟨rfl, hb1⟩; obtain ⟨osC, dC, rfl⟩ := ext_of_below hb1; clear hb1))
      | (go_at_call 72; ((with_reducible refine (HC.out _).mono ?_); rintro e w1 ⟨rfl, hb1⟩; obtain ⟨osD, dD, rfl⟩ := ext_of_below hb1; clear hb1)))
    go_ret2
    exact ⟨rfl, by (repeat' (first | (with_reducible exact Below.refl _ _) | (with_reducible assumption) | (with_reducible refine Below.alloc ?_ ?_ _) | (with_reducible refine below_drewN ?_ _) | (with_reducible refine below_drew ?_) | (with_reducible refine below_ext ?_ ?_ _ _) | (with_reducible refine Below.setCell ?_ ?_ _) | (simp; done) | (simp; omega) | omega))⟩
  · have hf0 : (f == 0) = false := by simp; omega
    have EM : max ((Lib.runeCount s : Int) + f) 0 = (skip : Int) := h2.symm
    clear h2
    go_enter Tryd.func38, Tryd.ntmps38
    go_wp2_with (first
      | (go_at_call 33; ((with_reducible refine (HV.out).mono ?_); rintro e w1 ⟨rfl, hb1⟩; obtain ⟨osA, dA, rfl⟩ := ext_of_below hb1; clear hb1))
      | (go_at_call 70; ((with_reducible refine (HR.out _).mono ?_); rintro e w1 ⟨rfl, hb1⟩; obtain ⟨osE, dE, rfl⟩ := ext_of_below hb1; clear hb1))
      | (go_at_call 71; ((with_reducible refine (HP.out _).mono ?_); rintro e w1 ⟨rfl, hb1⟩; obtain ⟨osB, dB, rfl⟩ := ext_of_below hb1; clear hb1))
      | (go_at_call 71; ((with_reducible refine (HQ.out _).mono ?_); rintro e w1 ⟨rfl, hb1⟩; obtain ⟨osC, dC, rfl⟩ := ext_of_below hb1; clear hb1))
      | (go_at_call 72; ((with_reducible refine (HC.out _).mono ?_); rintro e w1 ⟨rfl, hb1⟩; obtain ⟨osD, dD, rfl⟩ := ext_of_below hb1; clear hb1)))
    go_ret2
    exact ⟨rfl, by (repeat' (first | (with_reducible exact Below.refl _ _) | (with_reducible assumption) | (with_reducible refine Below.alloc ?_ ?_ _) | (with_reducible refine below_drewN ?_ _) | (with_reducible refine below_drew ?_) | (with_reducible refine below_ext ?_ ?_ _ _) | (with_reducible refine Below.setCell ?_ ?_ _) | (simp; done) | (simp; omega) | omega))⟩
/-- a text is put together again; what is counted -/
theorem part_first (s : ByteArray) (n : Nat) : partB s 0 n = s.extract 0 (place s n) := by
  unfold partB
  rw [place_zero]
  have e : s.extract 0 s.size = s := by
    apply ByteArray.ext
    apply Array.ext'
    rw [ext_data, List.drop_zero, List.take_of_length_le (by simp)]
  rw [e]
theorem part_rest (s : ByteArray) (n N : Nat) (hN : Lib.runeCount (s.extract (place s n) s.size) ≤ N) : partB s n N = s.extract (place s n) s.size := by
  unfold partB
  rw [place_all _ N hN]
  apply ByteArray.ext
  apply Array.ext'
  rw [ext_data, List.drop_zero, List.take_of_length_le (by simp)]
end Go.Proofs.YtcfgjhfgjckbbaaDoor
