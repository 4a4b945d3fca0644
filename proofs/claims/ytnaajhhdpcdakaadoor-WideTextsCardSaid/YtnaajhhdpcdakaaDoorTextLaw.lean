/-
  The law WideTexts.
-/
import Derived.Test.YtnaajhhdpcdakaaDoorToldT
import Derived.Test.YtnaajhhdpcdakaaDoorTextR
import Derived.Test.YtnaajhhdpcdakaaDoorTextP
import Derived.Test.YtnaajhhdpcdakaaDoorKnown
import Derived.Test.YtnaajhhdpcdakaaDoorEqual
namespace Go.Proofs.YtnaajhhdpcdakaaDoor
open Go.RowKit Num Word
open Lib (decDigits)
attribute [local go_sem] setCell_drewN cell?_ext frozen?_ext shape?_ext setCell_ext lt_1' ne_1' en_1' le_1' lt_2' ne_2' en_2' le_2' lt_3' ne_3' en_3' le_3' lt_4' ne_4' en_4' le_4' lt_5' ne_5' en_5' le_5' lt_6' ne_6' en_6' le_6' lt_7' ne_7' en_7' le_7' lt_8' ne_8' en_8' le_8' lt_9' ne_9' en_9' le_9' lt_10' ne_10' en_10' le_10' lt_11' ne_11' en_11' le_11' lt_12' ne_12' en_12' le_12'
attribute [local go_sem] long_eqIn lt_13' ne_13' en_13' le_13' lt_14' ne_14' en_14' le_14' lt_15' ne_15' en_15' le_15' lt_16' ne_16' en_16' le_16' lt_17' ne_17' en_17' le_17' lt_18' ne_18' en_18' le_18' lt_19' ne_19' en_19' le_19' lt_20' ne_20' en_20' le_20'

theorem read_back (a : Nat) (ha : a < top2) (w : World) :
    Calls Tryd.prog 6 #[.string (mkT (decDigits a))] w fun e w' => e = .returned (.tuple #[W a, .int .i64 0]) ∧ Below w.heap.size w w' := by
  have hl : (decDigits a).length ≤ 39 := dd_len 38 a (Nat.lt_trans ha (by decide))
  have h := read_any (mkT (decDigits a)) (by show (decDigits a).toArray.size ≤ _; rw [List.size_toArray]; omega) w
  have e : (mkT (decDigits a)).data.toList = decDigits a := rfl
  obtain ⟨h1, h2⟩ := rd_yes (dd_num a) (show ¬ 39 < (decDigits a).length by omega)
  rw [e, h1, h2, dd_val, show nw a = a from if_pos ha, show ne a = 0 from if_pos ha] at h
  exact h
set_option maxRecDepth 100000 in
set_option maxHeartbeats 16000000 in
theorem wtexts_law (s : ByteArray) (a : Nat) (ha : a < top2) (hs : s.size ≤ 140737488351232) (w : World) (ht : TenPow w) :
    Calls Tryd.prog 3 #[.string s, W a] w fun e w' => e = .returned (.bool true) ∧ Below w.heap.size w w' := by
  have HT := Lib.hid (fun w' (hb : Below w.heap.size w w') => ht.below hb)
  have h1 := docRead_any s hs
  have h2 := read_any s hs
  have h3 : ∀ w1, TenPow w1 → Calls Tryd.prog 7 #[W a] w1 fun e w' => e = .returned (.string (mkT (decDigits a))) ∧ Below w1.heap.size w1 w' := fun w1 h => text_any a ha w1 h
  have h4 := read_back a ha
  have h5 := docText_any a ha
  obtain ⟨n, hn⟩ : ∃ n, n = rdN s.data.toList := ⟨_, rfl⟩
  obtain ⟨m, hm⟩ : ∃ n, n = rdE s.data.toList := ⟨_, rfl⟩
  obtain ⟨t, htt⟩ : ∃ t, t = mkT (decDigits a) := ⟨_, rfl⟩
  rw [← hn, ← hm] at h1 h2
  rw [← htt] at h3 h4 h5
  have H1 := Lib.hid h1; have H2 := Lib.hid h2; have H3 := Lib.hid h3; have H4 := Lib.hid h4; have H5 := Lib.hid h5
  clear h1 h2 h3 h4 h5 hn hm htt ht ha hs
  go_enter Tryd.func3, Tryd.ntmps3
  go_wp2_with (first
    | (go_at_call 4; ((with_reducible refine (known_any _ (HT.out _ (by (repeat' (first | (with_reducible exact Below.refl _ _) | (with_reducible assumption) | (with_reducible refine Below.alloc ?_ ?_ _) | (with_reducible refine below_drewN ?_ _) | (with_reducible refine below_drew ?_) | (with_reducible refine below_ext ?_ ?_ _ _) | (with_reducible refine Below.setCell ?_ ?_ _) | (simp; done) | (simp; omega) | omega)))).tens).mono ?_); rintro e w1 ⟨rfl, hb1⟩; obtain ⟨osA, dA, rfl⟩ := ext_of_below hb1; clear hb1))
    | (go_at_call 5; ((with_reducible refine (H1.out _).mono ?_); rintro e w1 ⟨rfl, hb1⟩; obtain ⟨osB, dB, rfl⟩ := ext_of_below hb1; clear hb1))
    | (go_at_call 6; ((with_reducible refine (H2.out _).mono ?_); rintro e w1 ⟨rfl, hb1⟩; obtain ⟨osC, dC, rfl⟩ := ext_of_below hb1; clear hb1))
    | (go_at_call 7; ((with_reducible refine (H3.out _ (HT.out _ (by (repeat' (first | (with_reducible exact Below.refl _ _) | (with_reducible assumption) | (with_reducible refine Below.alloc ?_ ?_ _) | (with_reducible refine below_drewN ?_ _) | (with_reducible refine below_drew ?_) | (with_reducible refine below_ext ?_ ?_ _ _) | (with_reducible refine Below.setCell ?_ ?_ _) | (simp; done) | (simp; omega) | omega))))).mono ?_); rintro e w1 ⟨rfl, hb1⟩; obtain ⟨osD, dD, rfl⟩ := ext_of_below hb1; clear hb1))
    | (go_at_call 6; ((with_reducible refine (H4.out _).mono ?_); rintro e w1 ⟨rfl, hb1⟩; obtain ⟨osE, dE, rfl⟩ := ext_of_below hb1; clear hb1))
    | (go_at_call 8; ((with_reducible refine (H5.out _).mono ?_); rintro e w1 ⟨rfl, hb1⟩; obtain ⟨osF, dF, rfl⟩ := ext_of_below hb1; clear hb1)))
  go_ret
  exact ⟨rfl, by (repeat' (first | (with_reducible exact Below.refl _ _) | (with_reducible assumption) | (with_reducible refine Below.alloc ?_ ?_ _) | (with_reducible refine below_drewN ?_ _) | (with_reducible refine below_drew ?_) | (with_reducible refine below_ext ?_ ?_ _ _) | (with_reducible refine Below.setCell ?_ ?_ _) | (simp; done) | (simp; omega) | omega))⟩
theorem wtexts_law2 (s : ByteArray) (a : Nat) (hs : s.size ≤ 140737488351232) (ha : a < top2) (w : World) (ht : TenPow w) :
    Calls Tryd.prog 3 #[.string s, W a] w fun e w' => e = .returned (.bool true) ∧ Below w.heap.size w w' := wtexts_law s a ha hs w ht
end Go.Proofs.YtnaajhhdpcdakaaDoor
