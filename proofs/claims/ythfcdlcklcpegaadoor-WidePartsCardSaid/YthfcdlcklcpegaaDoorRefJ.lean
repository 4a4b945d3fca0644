/-
  The document's told, DocCmp, DocAdd, DocSub, DocMul.
-/
import Derived.Test.YthfcdlcklcpegaaDoorRefI
import Derived.Test.YthfcdlcklcpegaaDoorRound
namespace Go.Proofs.YthfcdlcklcpegaaDoor
open Go.RowKit Num Word
attribute [local go_sem] setCell_drewN cell?_ext frozen?_ext shape?_ext setCell_ext lt_1' ne_1' en_1' le_1' lt_2' ne_2' en_2' le_2' lt_3' ne_3' en_3' le_3' lt_4' ne_4' en_4' le_4' lt_5' ne_5' en_5' le_5' lt_6' ne_6' en_6' le_6' lt_7' ne_7' en_7' le_7' lt_8' ne_8' en_8' le_8' lt_9' ne_9' en_9' le_9' lt_10' ne_10' en_10' le_10' lt_11' ne_11' en_11' le_11' lt_12' ne_12' en_12' le_12'

theorem len2 {a : Nat} (h : a < top2) : (dg a).length ≤ 39 := dg_len_le.2 (Nat.lt_trans h (by decide))
theorem len4 {a : Nat} (h : a < top4) : (dg a).length ≤ 78 := dg_len_le.2 (Nat.lt_trans h (by decide))
set_option maxHeartbeats 8000000 in
theorem told_any (v : Value) (n : Nat) (hl : (dg n).length ≤ 100000) (w : World) (hr : Rd w v (dg n)) :
    Calls Tryd.prog 33 #[v] w fun e w' => e = .returned (.tuple #[W (nw n), .int .i64 (ne n)]) ∧ Below w.heap.size w w' := by
  have hk := fun w1 (hb : Below w.heap.size w w1) => to_any v n hl w1 (hr.later hb)
  by_cases h : n < top2
  · have e1 : nw n = n := if_pos h
    have e2 : ne n = 0 := if_pos h
    rw [e1, e2]
    rw [Nat.mod_eq_of_lt h, decide_eq_true h] at hk
    obtain ⟨x, hx⟩ : ∃ x, x = hi n := ⟨_, rfl⟩
    obtain ⟨y, hy⟩ : ∃ y, y = lo n := ⟨_, rfl⟩
    have hW : (W n : Value) = .agg #[.int .u64 (x : Int), .int .u64 (y : Int)] := by rw [hx, hy]
    rw [hW] at hk ⊢
    have HK := Lib.hid hk
    clear hk hx hy hW h e1 e2 hr
    go_enter Tryd.func33, Tryd.ntmps33
    go_wp2_with (go_at_call 49; ((with_reducible refine (HK.out _ (by (repeat' (first | (with_reducible exact Below.refl _ _) | (with_reducible assumption) | (with_reducible refine Below.alloc ?_ ?_ _) | (with_reducible refine below_drewN ?_ _) | (with_reducible refine below_drew ?_) | (with_reducible refine below_ext ?_ ?_ _ _) | (with_reducible refine Below.setCell ?_ ?_ _) | (simp; done) | (simp; omega) | omega)))).mono ?_); rintro e w1 ⟨rfl, hb1⟩; obtain ⟨osA, dA, rfl⟩ := ext_of_below hb1; clear hb1))
    go_returns
    exact ⟨rfl, by (repeat' (first | (with_reducible exact Below.refl _ _) | (with_reducible assumption) | (with_reducible refine Below.alloc ?_ ?_ _) | (with_reducible refine below_drewN ?_ _) | (with_reducible refine below_drew ?_) | (with_reducible refine below_ext ?_ ?_ _ _) | (with_reducible refine Below.setCell ?_ ?_ _) | (simp; done) | (simp; omega) | omega))⟩
  · have e1 : nw n = 0 := if_neg h
    have e2 : ne n = 3 := if_neg h
    rw [e1, e2]
    rw [decide_eq_false h] at hk
    obtain ⟨x, hx⟩ : ∃ x, x = hi (n % top2) := ⟨_, rfl⟩
    obtain ⟨y, hy⟩ : ∃ y, y = lo (n % top2) := ⟨_, rfl⟩
    have hW : (W (n % top2) : Value) = .agg #[.int .u64 (x : Int), .int .u64 (y : Int)] := by rw [hx, hy]
    rw [hW] at hk
    have HK := Lib.hid hk
    clear hk hx hy hW h e1 e2 hr
    go_enter Tryd.func33, Tryd.ntmps33
    go_wp2_with (go_at_call 49; ((with_reducible refine (HK.out _ (by (repeat' (first | (with_reducible exact Below.refl _ _) | (with_reducible assumption) | (with_reducible refine Below.alloc ?_ ?_ _) | (with_reducible refine below_drewN ?_ _) | (with_reducible refine below_drew ?_) | (with_reducible refine below_ext ?_ ?_ _ _) | (with_reducible refine Below.setCell ?_ ?_ _) | (simp; done) | (simp; omega) | omega)))).mono ?_); rintro e w1 ⟨rfl, hb1⟩; obtain ⟨osA, dA, rfl⟩ := ext_of_below hb1; clear hb1))
    go_returns
    exact ⟨rfl, by (repeat' (first | (with_reducible exact Below.refl _ _) | (with_reducible assumption) | (with_reducible refine Below.alloc ?_ ?_ _) | (with_reducible refine below_drewN ?_ _) | (with_reducible refine below_drew ?_) | (with_reducible refine below_ext ?_ ?_ _ _) | (with_reducible refine Below.setCell ?_ ?_ _) | (simp; done) | (simp; omega) | omega))⟩
set_option maxHeartbeats 8000000 in
theorem docCmp_any (a b : Nat) (ha : a < top2) (hb : b < top2) (w : World) :
    Calls Tryd.prog 14 #[W a, W b] w fun e w' => e = .returned (.int .i64 (cmpv a b)) ∧ Below w.heap.size w w' := by
  have H1 := Lib.hid (of_any a ha)
  have H2 := Lib.hid (of_any b hb)
  have H3 := Lib.hid (fun va vb => rcmp_any va vb a b (by have := len2 ha; omega) (by have := len2 hb; omega))
  clear ha hb
  go_enter Tryd.func14, Tryd.ntmps14
  go_wp2_with fail
  go_region_held3 (fun w' => w'.cell? ⟨w.heap.size, 0, none⟩ = some (.int .u64 (hi a : Int)) ∧ w'.cell? ⟨w.heap.size, 1, none⟩ = some (.int .u64 (lo a : Int)) ∧ w'.cell? ⟨w.heap.size + 1, 0, none⟩ = some (.int .u64 (hi b : Int)) ∧ w'.cell? ⟨w.heap.size + 1, 1, none⟩ = some (.int .u64 (lo b : Int))) (simp [go_sem]) (first
    | (go_at_call 35; ((with_reducible refine (H1.out _).mono ?_); rintro e w1 ⟨v1, rfl, r1, b1⟩; obtain ⟨os1, d1, rfl⟩ := ext_of_below b1; clear b1))
    | (go_at_call 35; ((with_reducible refine (H2.out _).mono ?_); rintro e w2 ⟨v2, rfl, r2, b2⟩; obtain ⟨os2, d2, rfl⟩ := ext_of_below b2; clear b2))
    | (go_at_call 37; ((with_reducible refine (H3.out _ _ _ (r1.rd.later (by (repeat' (first | (with_reducible exact Below.refl _ _) | (with_reducible assumption) | (with_reducible refine Below.alloc ?_ ?_ _) | (with_reducible refine below_drewN ?_ _) | (with_reducible refine below_drew ?_) | (with_reducible refine below_ext ?_ ?_ _ _) | (with_reducible refine Below.setCell ?_ ?_ _) | (simp; done) | (simp; omega) | omega)))) (r2.rd.later (by (repeat' (first | (with_reducible exact Below.refl _ _) | (with_reducible assumption) | (with_reducible refine Below.alloc ?_ ?_ _) | (with_reducible refine below_drewN ?_ _) | (with_reducible refine below_drew ?_) | (with_reducible refine below_ext ?_ ?_ _ _) | (with_reducible refine Below.setCell ?_ ?_ _) | (simp; done) | (simp; omega) | omega))))).mono ?_); rintro e w3 ⟨rfl, b3⟩; obtain ⟨os3, d3, rfl⟩ := ext_of_below b3; clear b3)))
  all_goals
    go_wp2
    go_ret
    exact ⟨rfl, by (repeat' (first | (with_reducible exact Below.refl _ _) | (with_reducible assumption) | (with_reducible refine Below.alloc ?_ ?_ _) | (with_reducible refine below_drewN ?_ _) | (with_reducible refine below_drew ?_) | (with_reducible refine below_ext ?_ ?_ _ _) | (with_reducible refine Below.setCell ?_ ?_ _) | (simp; done) | (simp; omega) | omega))⟩
end Go.Proofs.YthfcdlcklcpegaaDoor
