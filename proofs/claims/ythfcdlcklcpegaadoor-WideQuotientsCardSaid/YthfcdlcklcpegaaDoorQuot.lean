/-
  The law WideQuotients.
-/
import Derived.Test.YthfcdlcklcpegaaDoorRefN
import Derived.Test.YthfcdlcklcpegaaDoorKnown
import Derived.Test.YthfcdlcklcpegaaDoorEqual
namespace Go.Proofs.YthfcdlcklcpegaaDoor
open Go.RowKit Num Word
attribute [local go_sem] setCell_drewN cell?_ext frozen?_ext shape?_ext setCell_ext lt_1' ne_1' en_1' le_1' lt_2' ne_2' en_2' le_2' lt_3' ne_3' en_3' le_3' lt_4' ne_4' en_4' le_4' lt_5' ne_5' en_5' le_5' lt_6' ne_6' en_6' le_6' lt_7' ne_7' en_7' le_7' lt_8' ne_8' en_8' le_8' lt_9' ne_9' en_9' le_9' lt_10' ne_10' en_10' le_10' lt_11' ne_11' en_11' le_11' lt_12' ne_12' en_12' le_12'
attribute [local go_sem] long_eqIn lt_13' ne_13' en_13' le_13' lt_14' ne_14' en_14' le_14' lt_15' ne_15' en_15' le_15' lt_16' ne_16' en_16' le_16'

set_option maxRecDepth 100000 in
set_option maxHeartbeats 16000000 in
theorem quot_walk (n d q r : Nat) (m : Int) (w : World) (ht : Tens w)
    (h1 : ∀ w, Calls Tryd.prog 25 #[L n, W d] w fun e w' => e = .returned (.tuple #[L q, W r, .int .i64 m]) ∧ Below w.heap.size w w')
    (h2 : ∀ w, Calls Tryd.prog 26 #[L n, W d] w fun e w' => e = .returned (.tuple #[L q, W r, .int .i64 m]) ∧ Below w.heap.size w w') :
    Calls Tryd.prog 5 #[L n, W d] w fun e w' => e = .returned (.bool true) ∧ Below w.heap.size w w' := by
  have hHT := Lib.hid (fun w' (hb : Below w.heap.size w w') => ht.below hb)
  have H1 := Lib.hid h1; have H2 := Lib.hid h2
  clear h1 h2 ht
  go_enter Tryd.func5, Tryd.ntmps5
  go_wp2_with (first
    | (go_at_call 8; ((with_reducible refine (known_any _ (hHT.out _ (by (repeat' (first | (with_reducible exact Below.refl _ _) | (with_reducible assumption) | (with_reducible refine Below.alloc ?_ ?_ _) | (with_reducible refine below_drewN ?_ _) | (with_reducible refine below_drew ?_) | (with_reducible refine below_ext ?_ ?_ _ _) | (with_reducible refine Below.setCell ?_ ?_ _) | (simp; done) | (simp; omega) | omega))))).mono ?_); rintro e w1 ⟨rfl, hb1⟩; obtain ⟨osA, dA, rfl⟩ := ext_of_below hb1; clear hb1))
    | (go_at_call 25; ((with_reducible refine (H1.out _).mono ?_); rintro e w1 ⟨rfl, hb1⟩; obtain ⟨osB, dB, rfl⟩ := ext_of_below hb1; clear hb1))
    | (go_at_call 26; ((with_reducible refine (H2.out _).mono ?_); rintro e w1 ⟨rfl, hb1⟩; obtain ⟨osC, dC, rfl⟩ := ext_of_below hb1; clear hb1)))
  go_ret
  exact ⟨rfl, by (repeat' (first | (with_reducible exact Below.refl _ _) | (with_reducible assumption) | (with_reducible refine Below.alloc ?_ ?_ _) | (with_reducible refine below_drewN ?_ _) | (with_reducible refine below_drew ?_) | (with_reducible refine below_ext ?_ ?_ _ _) | (with_reducible refine Below.setCell ?_ ?_ _) | (simp; done) | (simp; omega) | omega))⟩
theorem quot_law (n d : Nat) (hn : n < top4) (hd : d < top2) (w : World) (ht : Tens w) :
    Calls Tryd.prog 5 #[L n, W d] w fun e w' => e = .returned (.bool true) ∧ Below w.heap.size w w' := by
  rcases Nat.eq_zero_or_pos d with h0 | h0
  · subst h0
    exact quot_walk n 0 0 0 4 w ht (docDiv_zero n) (div_zero n)
  · exact quot_walk n d (n / d) (n % d) 0 w ht (docDiv_any n d _ _ hn hd h0 rfl rfl) (div_q n d _ _ rfl rfl hn h0 hd)
end Go.Proofs.YthfcdlcklcpegaaDoor
