/-
  The document's Of and OfLong.
-/
import Derived.Test.YtnaajhhdpcdakaaGreatDoorRefC
namespace Go.Proofs.YtnaajhhdpcdakaaGreatDoor
open Go.RowKit Num Word
attribute [local go_sem] setCell_drewN cell?_ext frozen?_ext shape?_ext setCell_ext lt_1' ne_1' en_1' le_1' lt_2' ne_2' en_2' le_2' lt_3' ne_3' en_3' le_3' lt_4' ne_4' en_4' le_4' lt_5' ne_5' en_5' le_5' lt_6' ne_6' en_6' le_6' lt_7' ne_7' en_7' le_7' lt_8' ne_8' en_8' le_8' lt_9' ne_9' en_9' le_9' lt_10' ne_10' en_10' le_10' lt_11' ne_11' en_11' le_11' lt_12' ne_12' en_12' le_12'

theorem ws_lit (w : World) (n N : Nat) (C : Array Value) (hC : ∀ j, j < n → C[j]? = some (.int .u64 ((N / 2 ^ (64 * j) % 18446744073709551616 : Nat) : Int))) : Ws (w.alloc (.cells C 22)) (.slice (some ⟨w.heap.size, 0, none⟩) n n) n N := by
  refine ⟨w.heap.size, n, rfl, by rw [World.size_alloc]; omega, fun j hj => ?_⟩
  rw [World.cell?_alloc_at _ _ _ _ rfl]
  exact hC j hj
theorem ws_lit2 (w : World) (o : Obj) (n N : Nat) (C : Array Value) (hC : ∀ j, j < n → C[j]? = some (.int .u64 ((N / 2 ^ (64 * j) % 18446744073709551616 : Nat) : Int))) : Ws ((w.alloc o).alloc (.cells C 22)) (.slice (some ⟨w.heap.size + 1, 0, none⟩) n n) n N := by
  have h := ws_lit (w.alloc o) n N C hC
  rw [World.size_alloc] at h
  exact h
theorem more {w w1 w2 : World} (h : Below w.heap.size w w1) (h2 : Below w1.heap.size w1 w2) : Below w.heap.size w w2 :=
  h.trans ⟨h2.os, h2.tape, h2.output, h2.size, fun k hk => h2.block k (Nat.lt_of_lt_of_le hk h.size)⟩
set_option maxHeartbeats 4000000 in
theorem of_any (n : Nat) (hn : n < 340282366920938463463374607431768211456) (w : World) :
    Calls Tryz.prog 44 #[W n] w fun e w' => ∃ v', e = .returned v' ∧ RdP (fun g => w.heap.size ≤ g) w' v' (dg n) ∧ Below w.heap.size w w' := by
  obtain ⟨a, ha⟩ : ∃ a, a = hi n := ⟨_, rfl⟩
  obtain ⟨b, hb⟩ : ∃ b, b = lo n := ⟨_, rfl⟩
  have hws := ws_lit2 w (.cells #[.int .u64 (a : Int), .int .u64 (b : Int)] 24) 2 n #[.int .u64 (b : Int), .int .u64 (a : Int)] (fun j hj => by
    rcases (show j = 0 ∨ j = 1 by omega) with rfl | rfl
    · simp [hb, lo]
    · have e : n / 18446744073709551616 % 18446744073709551616 = hi n := by unfold hi; omega
      show some (Value.int .u64 (a : Int)) = some (.int .u64 ((n / 18446744073709551616 % 18446744073709551616 : Nat) : Int))
      rw [e, ha])
  have hbel : Below w.heap.size w ((w.alloc (.cells #[.int .u64 (a : Int), .int .u64 (b : Int)] 24)).alloc (.cells #[.int .u64 (b : Int), .int .u64 (a : Int)] 22)) := by (repeat' (first | (with_reducible exact Below.refl _ _) | (with_reducible assumption) | (with_reducible refine Below.alloc ?_ ?_ _) | (with_reducible refine below_drewN ?_ _) | (with_reducible refine below_drew ?_) | (with_reducible refine below_ext ?_ ?_ _ _) | (with_reducible refine Below.setCell ?_ ?_ _) | (simp; done) | (simp; omega) | omega))
  have HB := Lib.hid hbel
  have HW := Lib.hid (words_any _ 2 n (by decide) hn _ hws)
  show Calls Tryz.prog 44 #[.agg #[.int .u64 (hi n : Int), .int .u64 (lo n : Int)]] w _
  rw [← ha, ← hb]
  clear hws hbel ha hb
  go_enter Tryz.func44, Tryz.ntmps44
  go_wp2_with (go_at_call 74; ((with_reducible refine (HW.out).mono ?_); rintro e w' ⟨v', rfl, hrd, hb2⟩))
  go_ret
  exact ⟨_, rfl, hrd.weak (fun g _ h => Nat.le_trans HB.out.size h), more HB.out hb2⟩
end Go.Proofs.YtnaajhhdpcdakaaGreatDoor
