/-
  The document's Check; the one kind of a list's values; which values are of a kind.
-/
import Derived.Test.YtdgdeognahmpmaaGreatDoorValH
namespace Go.Proofs.YtdgdeognahmpmaaGreatDoor
open Go.RowKit Word Txt
attribute [local go_sem] setCell_drewN cell?_ext frozen?_ext shape?_ext setCell_ext lt_1' ne_1' en_1' le_1' lt_2' ne_2' en_2' le_2' lt_3' ne_3' en_3' le_3' lt_4' ne_4' en_4' le_4' lt_5' ne_5' en_5' le_5' lt_6' ne_6' en_6' le_6' lt_7' ne_7' en_7' le_7' lt_8' ne_8' en_8' le_8' lt_9' ne_9' en_9' le_9' lt_10' ne_10' en_10' le_10' lt_11' ne_11' en_11' le_11' lt_12' ne_12' en_12' le_12'

theorem code_is {v : V} {e : Int} (h : e = v.code) : (e = 0 ↔ (v.count ≤ 1000 ∧ v.depth ≤ 16 ∧ v.form = true)) := by
  subst h
  unfold V.code
  by_cases h1 : 1000 < v.count
  · rw [if_pos h1]; constructor
    · intro h; omega
    · intro h; omega
  · rw [if_neg h1]
    by_cases h2 : 16 < v.depth
    · rw [if_pos h2]; constructor
      · intro h; omega
      · intro h; omega
    · rw [if_neg h2]
      by_cases h3 : v.form = true
      · rw [if_pos h3]; exact ⟨fun _ => ⟨by omega, by omega, h3⟩, fun _ => rfl⟩
      · rw [if_neg h3]; constructor
        · intro h; omega
        · intro h; exact absurd h.2.2 h3
set_option maxHeartbeats 4000000 in
theorem rcheck_any (v : V) (n : Nat) (w : World) (x : Value) (hx : v.At n w x) (hnw : n ≤ w.heap.size) :
    Calls Tryz.prog 46 #[x] w fun e w' => e = .returned (.int .i64 v.code) ∧ Below w.heap.size w w' := by
  have HC := Lib.hid (fun w' (hb : Below w.heap.size w w') => rcount_any v n w' x (hx.below (hb.mono hnw)) (Nat.le_trans hnw hb.size))
  have HD := Lib.hid (fun w' (hb : Below w.heap.size w w') => depth_any v n w' x (hx.below (hb.mono hnw)) (Nat.le_trans hnw hb.size))
  have HF := Lib.hid (fun w' (hb : Below w.heap.size w w') => rform_v v n w' x (hx.below (hb.mono hnw)) (Nat.le_trans hnw hb.size))
  obtain ⟨k, yes, neg, c, s, t, day, l, ns, hv⟩ : ∃ k yes neg c s t day l ns, v = V.mk k yes neg c s t day l ns := by cases v; exact ⟨_, _, _, _, _, _, _, _, _, rfl⟩
  obtain ⟨pl, nl, cl, pn, nn, cn, rfl⟩ : ∃ pl nl cl pn nn cn, x = VC k yes neg c s t day (.slice pl nl cl) (.slice pn nn cn) := by
    rw [hv] at hx
    obtain ⟨lv, nv, rfl, _, hL, hN, _⟩ := at_mk hx
    obtain ⟨pl, cl, rfl⟩ := hL.shape
    obtain ⟨pn, cn, rfl⟩ := hN.shape
    exact ⟨_, _, _, _, _, _, rfl⟩
  clear hx hv hnw
  by_cases h1 : 1000 < v.count
  · rw [code_long h1]
    go_enter Tryz.func46, Tryz.ntmps46
    go_wp2_with (first
      | (go_at_call 25; (with_reducible refine (HC.out _ (by (repeat' (first | (with_reducible exact Below.refl _ _) | (with_reducible assumption) | (with_reducible refine Below.alloc ?_ ?_ _) | (with_reducible refine below_drewN ?_ _) | (with_reducible refine below_drew ?_) | (with_reducible refine below_ext ?_ ?_ _ _) | (with_reducible refine Below.setCell ?_ ?_ _) | (simp; done) | (simp; omega) | omega)))).mono ?_); rintro e w1 ⟨⟨m, rfl, hm1, hm2, hm3⟩, hb1⟩; obtain ⟨osA, dA, rfl⟩ := ext_of_below hb1; clear hb1; have hp : (1000 : Int) < m := by (have := hm3 h1; omega)))
    go_ret
    exact ⟨rfl, by (repeat' (first | (with_reducible exact Below.refl _ _) | (with_reducible assumption) | (with_reducible refine Below.alloc ?_ ?_ _) | (with_reducible refine below_drewN ?_ _) | (with_reducible refine below_drew ?_) | (with_reducible refine below_ext ?_ ?_ _ _) | (with_reducible refine Below.setCell ?_ ?_ _) | (simp; done) | (simp; omega) | omega))⟩
  by_cases h2 : 16 < v.depth
  · rw [code_deep h1 h2]
    have hd : (16 : Int) < v.depth := by omega
    go_enter Tryz.func46, Tryz.ntmps46
    go_wp2_with (first
      | (go_at_call 25; (with_reducible refine (HC.out _ (by (repeat' (first | (with_reducible exact Below.refl _ _) | (with_reducible assumption) | (with_reducible refine Below.alloc ?_ ?_ _) | (with_reducible refine below_drewN ?_ _) | (with_reducible refine below_drew ?_) | (with_reducible refine below_ext ?_ ?_ _ _) | (with_reducible refine Below.setCell ?_ ?_ _) | (simp; done) | (simp; omega) | omega)))).mono ?_); rintro e w1 ⟨⟨m, rfl, hm1, hm2, hm3⟩, hb1⟩; obtain ⟨osA, dA, rfl⟩ := ext_of_below hb1; clear hb1; have hp : ¬ (1000 : Int) < m := by (have := hm2 (by omega); omega))
      | (go_at_call 79; ((with_reducible refine (HD.out _ (by (repeat' (first | (with_reducible exact Below.refl _ _) | (with_reducible assumption) | (with_reducible refine Below.alloc ?_ ?_ _) | (with_reducible refine below_drewN ?_ _) | (with_reducible refine below_drew ?_) | (with_reducible refine below_ext ?_ ?_ _ _) | (with_reducible refine Below.setCell ?_ ?_ _) | (simp; done) | (simp; omega) | omega))) (by omega)).mono ?_); rintro e w1 ⟨rfl, hb1⟩; obtain ⟨osB, dB, rfl⟩ := ext_of_below hb1; clear hb1)))
    go_ret
    exact ⟨rfl, by (repeat' (first | (with_reducible exact Below.refl _ _) | (with_reducible assumption) | (with_reducible refine Below.alloc ?_ ?_ _) | (with_reducible refine below_drewN ?_ _) | (with_reducible refine below_drew ?_) | (with_reducible refine below_ext ?_ ?_ _ _) | (with_reducible refine Below.setCell ?_ ?_ _) | (simp; done) | (simp; omega) | omega))⟩
  obtain ⟨u, hu⟩ : ∃ u, v.form = u := ⟨_, rfl⟩
  rw [hu] at HF
  have hc : v.code = if u = true then 0 else 2 := by
    cases u
    · exact code_bad h1 h2 hu
    · exact code_form h1 h2 hu
  rw [hc]
  have hd : ¬ (16 : Int) < v.depth := by omega
  clear hc hu
  cases u
  all_goals
    go_enter Tryz.func46, Tryz.ntmps46
    go_wp2_with (first
      | (go_at_call 25; (with_reducible refine (HC.out _ (by (repeat' (first | (with_reducible exact Below.refl _ _) | (with_reducible assumption) | (with_reducible refine Below.alloc ?_ ?_ _) | (with_reducible refine below_drewN ?_ _) | (with_reducible refine below_drew ?_) | (with_reducible refine below_ext ?_ ?_ _ _) | (with_reducible refine Below.setCell ?_ ?_ _) | (simp; done) | (simp; omega) | omega)))).mono ?_); rintro e w1 ⟨⟨m, rfl, hm1, hm2, hm3⟩, hb1⟩; obtain ⟨osA, dA, rfl⟩ := ext_of_below hb1; clear hb1; have hp : ¬ (1000 : Int) < m := by (have := hm2 (by omega); omega))
      | (go_at_call 79; ((with_reducible refine (HD.out _ (by (repeat' (first | (with_reducible exact Below.refl _ _) | (with_reducible assumption) | (with_reducible refine Below.alloc ?_ ?_ _) | (with_reducible refine below_drewN ?_ _) | (with_reducible refine below_drew ?_) | (with_reducible refine below_ext ?_ ?_ _ _) | (with_reducible refine Below.setCell ?_ ?_ _) | (simp; done) | (simp; omega) | omega))) (by omega)).mono ?_); rintro e w1 ⟨rfl, hb1⟩; obtain ⟨osB, dB, rfl⟩ := ext_of_below hb1; clear hb1))
      | (go_at_call 80; ((with_reducible refine (HF.out _ (by (repeat' (first | (with_reducible exact Below.refl _ _) | (with_reducible assumption) | (with_reducible refine Below.alloc ?_ ?_ _) | (with_reducible refine below_drewN ?_ _) | (with_reducible refine below_drew ?_) | (with_reducible refine below_ext ?_ ?_ _ _) | (with_reducible refine Below.setCell ?_ ?_ _) | (simp; done) | (simp; omega) | omega)))).mono ?_); rintro e w1 ⟨rfl, hb1⟩; obtain ⟨osC, dC, rfl⟩ := ext_of_below hb1; clear hb1)))
    go_ret
    exact ⟨rfl, by (repeat' (first | (with_reducible exact Below.refl _ _) | (with_reducible assumption) | (with_reducible refine Below.alloc ?_ ?_ _) | (with_reducible refine below_drewN ?_ _) | (with_reducible refine below_drew ?_) | (with_reducible refine below_ext ?_ ?_ _ _) | (with_reducible refine Below.setCell ?_ ?_ _) | (simp; done) | (simp; omega) | omega))⟩
def V.kind : V → Int
  | .mk k .. => k
def V.kids : V → List V
  | .mk _ _ _ _ _ _ _ l _ => l
theorem at_kind {v : V} {n : Nat} {w : World} {k : Int} {x1 x2 x3 x4 x5 x6 x7 x8 x9 : Value} (h : v.At n w (.agg #[.int .i64 k, x1, x2, x3, x4, x5, x6, x7, x8, x9])) : v.kind = k := by
  cases v
  obtain ⟨lv, nv, hx, _⟩ := at_mk h
  simp only [Value.agg.injEq, Array.mk.injEq, List.cons.injEq, and_true, Value.int.injEq, true_and] at hx
  exact hx.1.symm
/-- the one kind of the values that are not null, none: 0 -/
def cm : Int → List V → Int
  | f, [] => f
  | f, v :: r => if v.kind = 0 ∨ v.kind = f then cm f r else if 4 < v.kind ∨ f ≠ 0 then 0 else cm v.kind r
def allB (of : Int) (l : List V) : Bool := l.all (fun v => of == 0 || (v.kind == 0 || v.kind == of))
theorem cm_drop (f : Int) (l : List V) (m : Nat) (h : m < l.length) : cm f (l.drop m) = if l[m].kind = 0 ∨ l[m].kind = f then cm f (l.drop (m + 1)) else if 4 < l[m].kind ∨ f ≠ 0 then 0 else cm l[m].kind (l.drop (m + 1)) := by
  rw [List.drop_eq_getElem_cons h]; rfl
end Go.Proofs.YtdgdeognahmpmaaGreatDoor
