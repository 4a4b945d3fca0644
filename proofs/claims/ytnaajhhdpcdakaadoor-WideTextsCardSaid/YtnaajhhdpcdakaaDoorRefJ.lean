/-
  The document's told, DocCmp, DocAdd, DocSub, DocMul.
-/
import Derived.Test.YtnaajhhdpcdakaaDoorRefI
import Derived.Test.YtnaajhhdpcdakaaDoorRound
namespace Go.Proofs.YtnaajhhdpcdakaaDoor
open Go.RowKit Num Word
attribute [local go_sem] setCell_drewN cell?_ext frozen?_ext shape?_ext setCell_ext lt_1' ne_1' en_1' le_1' lt_2' ne_2' en_2' le_2' lt_3' ne_3' en_3' le_3' lt_4' ne_4' en_4' le_4' lt_5' ne_5' en_5' le_5' lt_6' ne_6' en_6' le_6' lt_7' ne_7' en_7' le_7' lt_8' ne_8' en_8' le_8' lt_9' ne_9' en_9' le_9' lt_10' ne_10' en_10' le_10' lt_11' ne_11' en_11' le_11' lt_12' ne_12' en_12' le_12'

theorem len2 {a : Nat} (h : a < top2) : (dg a).length ≤ 39 := dg_len_le.2 (Nat.lt_trans h (by decide))
theorem len4 {a : Nat} (h : a < top4) : (dg a).length ≤ 78 := dg_len_le.2 (Nat.lt_trans h (by decide))
set_option maxHeartbeats 8000000 in
theorem told_any (v : Value) (n : Nat) (hl : (dg n).length ≤ 100000) (w : World) (hr : Rd w v (dg n)) :
    Calls Tryd.prog 11 #[v] w fun e w' => e = .returned (.tuple #[W (nw n), .int .i64 (ne n)]) ∧ Below w.heap.size w w' := by
  have hk := fun w1 (hb : Below w.heap.size w w1) => to_any v n hl w1 (hr.later hb)
  by_cases h : n < top2
  · have e1 : nw n = n := if_pos h
    have e2 : ne n = 0 := if_pos h
    rw [e1, e2]
    rw [Nat.mod_eq_of_lt h, decide_eq_true h] at hk
    obtain ⟨x, hx⟩ : ∃ x, x = hi n := ⟨_, rfl⟩
    obtain ⟨y, hy⟩ : ∃ y, y = lo n := ⟨_, rfl⟩
    have hW : (W n : Value) = .agg #[.int .u64 (x : Int), .int .u64 (y : Int)] := by rw [hx, hy]
    rw [hW] at hk ⊢
    have HK := Lib.hid hk
    clear hk hx hy hW h e1 e2 hr
    go_enter Tryd.func11, Tryd.ntmps11
    go_wp2_with (go_at_call 27; ((with_reducible refine (HK.out _ (by (repeat' (first | (with_reducible exact Below.refl _ _) | (with_reducible assumption) | (with_reducible refine Below.alloc ?_ ?_ _) | (with_reducible refine below_drewN ?_ _) | (with_reducible refine below_drew ?_) | (with_reducible refine below_ext ?_ ?_ _ _) | (with_reducible refine Below.setCell ?_ ?_ _) | (simp; done) | (simp; omega) | omega)))).mono ?_); rintro e w1 ⟨rfl, hb1⟩; obtain ⟨osA, dA, rfl⟩ := ext_of_below hb1; clear hb1))
    go_returns
    exact ⟨rfl, by (repeat' (first | (with_reducible exact Below.refl _ _) | (with_reducible assumption) | (with_reducible refine Below.alloc ?_ ?_ _) | (with_reducible refine below_drewN ?_ _) | (with_reducible refine below_drew ?_) | (with_reducible refine below_ext ?_ ?_ _ _) | (with_reducible refine Below.setCell ?_ ?_ _) | (simp; done) | (simp; omega) | omega))⟩
  · have e1 : nw n = 0 := if_neg h
    have e2 : ne n = 3 := if_neg h
    rw [e1, e2]
    rw [decide_eq_false h] at hk
    obtain ⟨x, hx⟩ : ∃ x, x = hi (n % top2) := ⟨_, rfl⟩
    obtain ⟨y, hy⟩ : ∃ y, y = lo (n % top2) := ⟨_, rfl⟩
    have hW : (W (n % top2) : Value) = .agg #[.int .u64 (x : Int), .int .u64 (y : Int)] := by rw [hx, hy]
    rw [hW] at hk
    have HK := Lib.hid hk
    clear hk hx hy hW h e1 e2 hr
    go_enter Tryd.func11, Tryd.ntmps11
    go_wp2_with (go_at_call 27; ((with_reducible refine (HK.out _ (by (repeat' (first | (with_reducible exact Below.refl _ _) | (with_reducible assumption) | (with_reducible refine Below.alloc ?_ ?_ _) | (with_reducible refine below_drewN ?_ _) | (with_reducible refine below_drew ?_) | (with_reducible refine below_ext ?_ ?_ _ _) | (with_reducible refine Below.setCell ?_ ?_ _) | (simp; done) | (simp; omega) | omega)))).mono ?_); rintro e w1 ⟨rfl, hb1⟩; obtain ⟨osA, dA, rfl⟩ := ext_of_below hb1; clear hb1))
    go_returns
    exact ⟨rfl, by (repeat' (first | (with_reducible exact Below.refl _ _) | (with_reducible assumption) | (with_reducible refine Below.alloc ?_ ?_ _) | (with_reducible refine below_drewN ?_ _) | (with_reducible refine below_drew ?_) | (with_reducible refine below_ext ?_ ?_ _ _) | (with_reducible refine Below.setCell ?_ ?_ _) | (simp; done) | (simp; omega) | omega))⟩
end Go.Proofs.YtnaajhhdpcdakaaDoor
