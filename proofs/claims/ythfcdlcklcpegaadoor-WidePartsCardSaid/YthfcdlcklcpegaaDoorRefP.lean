/-
  The document's DocNarrow, DocTen, DocDigits, DocTrim.
-/
import Derived.Test.YthfcdlcklcpegaaDoorRefO
import Derived.Test.YthfcdlcklcpegaaDoorDigits
namespace Go.Proofs.YthfcdlcklcpegaaDoor
open Go.RowKit Num Word
attribute [local go_sem] setCell_drewN cell?_ext frozen?_ext shape?_ext setCell_ext lt_1' ne_1' en_1' le_1' lt_2' ne_2' en_2' le_2' lt_3' ne_3' en_3' le_3' lt_4' ne_4' en_4' le_4' lt_5' ne_5' en_5' le_5' lt_6' ne_6' en_6' le_6' lt_7' ne_7' en_7' le_7' lt_8' ne_8' en_8' le_8' lt_9' ne_9' en_9' le_9' lt_10' ne_10' en_10' le_10' lt_11' ne_11' en_11' le_11' lt_12' ne_12' en_12' le_12'

set_option maxHeartbeats 8000000 in
theorem docNarrow_any (n : Nat) (hn : n < top4) (w : World) :
    Calls Tryd.prog 17 #[L n] w fun e w' => e = .returned (.tuple #[W (nw n), .int .i64 (ne n)]) ∧ Below w.heap.size w w' := by
  have H1 := Lib.hid (ofLong_any n (by unfold top4 at hn; exact hn))
  have H4 := Lib.hid (fun v => told_any v n (by have := len4 hn; omega))
  clear hn
  go_enter Tryd.func17, Tryd.ntmps17
  go_wp2_with (first
    | (go_at_call 46; ((with_reducible refine (H1.out _).mono ?_); rintro e w1 ⟨v1, rfl, r1, b1⟩))
    | (go_at_call 33; ((with_reducible refine (H4.out _ _ r1.rd).mono ?_); rintro e w4 ⟨rfl, b4⟩; clear r1; obtain ⟨os1, d1, rfl⟩ := ext_of_below b1; clear b1; obtain ⟨os4, d4, rfl⟩ := ext_of_below b4; clear b4)))
  go_returns
  exact ⟨rfl, by (repeat' (first | (with_reducible exact Below.refl _ _) | (with_reducible assumption) | (with_reducible refine Below.alloc ?_ ?_ _) | (with_reducible refine below_drewN ?_ _) | (with_reducible refine below_drew ?_) | (with_reducible refine below_ext ?_ ?_ _ _) | (with_reducible refine Below.setCell ?_ ?_ _) | (simp; done) | (simp; omega) | omega))⟩
theorem lit_two (w : World) (o : Obj) : RdP (fun g => w.heap.size ≤ g) ((w.alloc o).alloc (.cells #[.int .i64 1] 3)) (.slice (some ⟨w.heap.size + 1, 0, none⟩) 1 1) (dg 1) := by
  have h := lit_one (w.alloc o)
  rw [World.size_alloc] at h
  exact h.weak fun g _ h => by omega
theorem below_lit (W : World) : Below W.heap.size W (W.alloc (.cells #[.int .i64 1] 3)) := by (repeat' (first | (with_reducible exact Below.refl _ _) | (with_reducible assumption) | (with_reducible refine Below.alloc ?_ ?_ _) | (with_reducible refine below_drewN ?_ _) | (with_reducible refine below_drew ?_) | (with_reducible refine below_ext ?_ ?_ _ _) | (with_reducible refine Below.setCell ?_ ?_ _) | (simp; done) | (simp; omega) | omega))
set_option maxHeartbeats 8000000 in
theorem docTen_any (k : Nat) (hk : k ≤ 38) (w : World) :
    Calls Tryd.prog 19 #[.int .i64 (k : Int)] w fun e w' => e = .returned (.tuple #[W (p10 k), .int .i64 0]) ∧ Below w.heap.size w w' := by
  have hlt : p10 k < top2 := p10_lt hk
  have h2 := fun va => rshift_any va 1 k (by decide) (by omega) (by rw [dg_one]; decide)
  rw [Nat.one_mul, show (10 : Nat) ^ k = p10 k from rfl] at h2
  have h4 := fun v => told_any v (p10 k) (by have := len2 hlt; omega)
  rw [show nw (p10 k) = p10 k from if_pos hlt, show ne (p10 k) = 0 from if_pos hlt] at h4
  have H2 := Lib.hid h2; have H4 := Lib.hid h4
  have hk0 : ¬ (k : Int) < 0 := by omega
  have hk2 : ¬ (38 : Int) < (k : Int) := by omega
  clear h2 h4 hlt hk
  go_enter Tryd.func19, Tryd.ntmps19
  go_wp2_with (first
    | (go_at_call 47; ((with_reducible refine (H2.out _ _ (lit_two w _).rd).mono ?_); rintro e w2 ⟨v2, rfl, r2, b2⟩))
    | (go_at_call 33; ((with_reducible refine (H4.out _ _ r2.rd).mono ?_); rintro e w4 ⟨rfl, b4⟩; clear r2; obtain ⟨os2, d2, rfl⟩ := ext_of_below b2; clear b2; obtain ⟨os4, d4, rfl⟩ := ext_of_below b4; clear b4)))
  go_returns
  exact ⟨rfl, by (repeat' (first | (with_reducible exact Below.refl _ _) | (with_reducible assumption) | (with_reducible refine Below.alloc ?_ ?_ _) | (with_reducible refine below_drewN ?_ _) | (with_reducible refine below_drew ?_) | (with_reducible refine below_ext ?_ ?_ _ _) | (with_reducible refine Below.setCell ?_ ?_ _) | (simp; done) | (simp; omega) | omega))⟩
set_option maxHeartbeats 4000000 in
theorem docTen_arg (k : Int) (hk : k < 0 ∨ (¬ k < 0 ∧ 38 < k)) (w : World) :
    Calls Tryd.prog 19 #[.int .i64 k] w fun e w' => e = .returned (.tuple #[.agg #[.int .u64 0, .int .u64 0], .int .i64 1]) ∧ Below w.heap.size w w' := by
  rcases hk with hk | ⟨h0, hk⟩
  all_goals
    go_enter Tryd.func19, Tryd.ntmps19
    go_wp2
    go_returns
    exact ⟨rfl, by (repeat' (first | (with_reducible exact Below.refl _ _) | (with_reducible assumption) | (with_reducible refine Below.alloc ?_ ?_ _) | (with_reducible refine below_drewN ?_ _) | (with_reducible refine below_drew ?_) | (with_reducible refine below_ext ?_ ?_ _ _) | (with_reducible refine Below.setCell ?_ ?_ _) | (simp; done) | (simp; omega) | omega))⟩
set_option maxHeartbeats 8000000 in
theorem docDigits_any (a : Nat) (ha : a < top2) (w : World) :
    Calls Tryd.prog 24 #[W a] w fun e w' => e = .returned (.int .i64 (nd a)) ∧ Below w.heap.size w w' := by
  have H1 := Lib.hid (of_any a ha)
  obtain ⟨l, hl⟩ : ∃ l, l = dg a := ⟨_, rfl⟩
  have hlen : l.length ≤ 100 := by rw [hl]; have := len2 ha; omega
  have E1 : max (l.length : Int) 1 = (nd a : Int) := by unfold nd; rw [← hl]; omega
  have HL := Lib.hid hl
  clear ha hl
  go_enter Tryd.func24, Tryd.ntmps24
  go_wp2_with (go_at_call 35; ((with_reducible refine (H1.out _).mono ?_); rintro e w1 ⟨v1, rfl, r1, b1⟩; rw [← HL.out] at r1; obtain ⟨p1, c1, rfl, -⟩ := r1.form; clear r1; obtain ⟨os1, d1, rfl⟩ := ext_of_below b1; clear b1))
  go_ret
  exact ⟨rfl, by (repeat' (first | (with_reducible exact Below.refl _ _) | (with_reducible assumption) | (with_reducible refine Below.alloc ?_ ?_ _) | (with_reducible refine below_drewN ?_ _) | (with_reducible refine below_drew ?_) | (with_reducible refine below_ext ?_ ?_ _ _) | (with_reducible refine Below.setCell ?_ ?_ _) | (simp; done) | (simp; omega) | omega))⟩
end Go.Proofs.YthfcdlcklcpegaaDoor
