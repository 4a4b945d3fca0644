/-
  GraphReaches.
-/
import Derived.Test.YtdgdeognahmpmaaGrU
import Derived.Test.YtdgdeognahmpmaaGrW
namespace Go.Proofs.Ytdgdeognahmpmaa
open Go.RowKit
attribute [local go_sem] setCell_drewN cell?_ext frozen?_ext shape?_ext setCell_ext lt_1' ne_1' en_1' le_1' lt_2' ne_2' en_2' le_2' lt_3' ne_3' en_3' le_3' lt_4' ne_4' en_4' le_4' lt_5' ne_5' en_5' le_5' lt_6' ne_6' en_6' le_6' lt_7' ne_7' en_7' le_7' lt_8' ne_8' en_8' le_8' lt_9' ne_9' en_9' le_9' lt_10' ne_10' en_10' le_10' lt_11' ne_11' en_11' le_11' lt_12' ne_12' en_12' le_12'

set_option maxRecDepth 100000 in
set_option maxHeartbeats 8000000 in
theorem graphReaches_law {n w v} {L : List (List Int)} (f : Int) (h : NRd n w v L) (hn : n ≤ w.heap.size) :
    Calls Try.prog 4 #[v, .int .i64 f] w fun e w' => e = .returned (.bool true) ∧ Below w.heap.size w w' := by
  have HK := Lib.hid (gknown_any w)
  have HA := Lib.hid (show ∀ w1, Below w.heap.size w w1 → Calls Try.prog 12 #[v, .int .i64 f] w1 fun e w' => RQ L f w1 e w' from fun w1 hb => docReach_any f (h.keep (hb.mono hn)) (Nat.le_trans hn hb.size))
  have HB := Lib.hid (show ∀ w1, Below w.heap.size w w1 → Calls Try.prog 13 #[v, .int .i64 f] w1 fun e w' => RQ L f w1 e w' from fun w1 hb => gReach_any f (h.keep (hb.mono hn)) (Nat.le_trans hn hb.size))
  have HC := Lib.hid (show ∀ w1, Below w.heap.size w w1 → Calls Try.prog 14 #[v] w1 fun e w' => LQ L w1 e w' from fun w1 hb => doclevels_any (h.keep (hb.mono hn)) (Nat.le_trans hn hb.size))
  have HD := Lib.hid (show ∀ w1, Below w.heap.size w w1 → Calls Try.prog 15 #[v] w1 fun e w' => LQ L w1 e w' from fun w1 hb => glevels_any (h.keep (hb.mono hn)) (Nat.le_trans hn hb.size))
  have HRL := Lib.hid (reL_len L f)
  have HLL := Lib.hid (leL_len L)
  clear h hn
  go_enter Try.func4, Try.ntmps4
  go_wp2_with (first
    | (go_at_call 8; ((with_reducible refine HK.out.mono ?_); rintro e w1 ⟨rfl, hb⟩; have HB1 := Lib.hid hb; clear hb))
    | (go_at_call 12; ((with_reducible refine (HA.out _ HB1.out).mono ?_); rintro e w2 ⟨v1, rfl, hb, hs, -⟩; have HB2 := Lib.hid (HB1.out.trans (hb.mono HB1.out.size)); have HS1 := Lib.hid hs; clear hb hs))
    | (go_at_call 13; ((with_reducible refine (HB.out _ HB2.out).mono ?_); rintro e w3 ⟨v2, rfl, hb, hs, -⟩; have HB3 := Lib.hid (HB2.out.trans (hb.mono HB2.out.size)); have HS2 := Lib.hid ((HS1.out.keep hb).more hb.size); have HS3 := Lib.hid hs; clear hb hs))
    | (go_at_call 14; ((with_reducible refine (HC.out _ HB3.out).mono ?_); rintro e w4 ⟨v3, rfl, hb, hs, -⟩; have HB4 := Lib.hid (HB3.out.trans (hb.mono HB3.out.size)); have HS4 := Lib.hid ((HS2.out.keep hb).more hb.size); have HS5 := Lib.hid ((HS3.out.keep hb).more hb.size); have HS6 := Lib.hid hs; clear hb hs))
    | (go_at_call 15; ((with_reducible refine (HD.out _ HB4.out).mono ?_); rintro e w5 ⟨v4, rfl, hb, hs, -⟩; have HB5 := Lib.hid (HB4.out.trans (hb.mono HB4.out.size)); have HSA := Lib.hid (rsame_any ((HS4.out.keep hb).more hb.size) ((HS5.out.keep hb).more hb.size) HRL.out HRL.out); have HSB := Lib.hid (fun d => rsame_any (w := w5.drewN d) (((HS6.out.keep hb).more hb.size).keep (bel_drew (Below.refl _ w5) d)) (hs.keep (bel_drew (Below.refl _ w5) d)) HLL.out HLL.out); clear hb hs))
    | (go_at_call 11; ((with_reducible refine HSA.out.mono ?_); rintro e w6 ⟨rfl, d, rfl⟩))
    | (go_at_call 11; ((with_reducible refine (HSB.out _).mono ?_); rintro e w7 ⟨rfl, d2, rfl⟩)))
  go_ret
  exact ⟨by simp, bel_drew HB5.out _⟩
end Go.Proofs.Ytdgdeognahmpmaa
