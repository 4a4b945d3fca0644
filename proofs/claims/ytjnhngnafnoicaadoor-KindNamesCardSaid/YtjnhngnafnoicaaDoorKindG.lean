/-
  The document's join.
-/
import Derived.Test.YtjnhngnafnoicaaDoorKindF
namespace Go.Proofs.YtjnhngnafnoicaaDoor
open Go.RowKit
attribute [local go_sem] setCell_drewN cell?_ext frozen?_ext shape?_ext setCell_ext lt_1' ne_1' en_1' le_1' lt_2' ne_2' en_2' le_2' lt_3' ne_3' en_3' le_3' lt_4' ne_4' en_4' le_4' lt_5' ne_5' en_5' le_5' lt_6' ne_6' en_6' le_6' lt_7' ne_7' en_7' le_7' lt_8' ne_8' en_8' le_8' lt_9' ne_9' en_9' le_9' lt_10' ne_10' en_10' le_10' lt_11' ne_11' en_11' le_11' lt_12' ne_12' en_12' le_12'

/-- the i-th of the ten -/
def tK (n : Nat) : Int := if n < 5 then (n : Int) else 5
def tO (n : Nat) : Int := if n < 5 then 0 else (n : Int) - 5
theorem of_any (n : Nat) (hn : n < 10) (w : World) : Calls Tryd.prog 14 #[.int .i64 (n : Int)] w fun e w' => e = .returned (T (tK n) (tO n)) ∧ Below w.heap.size w w' := by
  unfold tK tO
  by_cases h : n < 5
  · rw [if_pos h, if_pos h]
    have hi : (n : Int) < 5 := by omega
    clear hn h
    go_enter Tryd.func14, Tryd.ntmps14
    go_wp2
    go_returns
    exact ⟨rfl, by (repeat' (first | (with_reducible exact Below.refl _ _) | (with_reducible assumption) | (with_reducible refine Below.alloc ?_ ?_ _) | (with_reducible refine below_drewN ?_ _) | (with_reducible refine below_drew ?_) | (with_reducible refine below_ext ?_ ?_ _ _) | (with_reducible refine Below.setCell ?_ ?_ _) | (simp; done) | (simp; omega) | omega))⟩
  · rw [if_neg h, if_neg h]
    have hi : ¬ (n : Int) < 5 := by omega
    have hw : IntKind.i64.wrap ((n : Int) - 5) = (n : Int) - 5 := IntWalk.i64_in _ (by omega)
    clear hn h
    go_enter Tryd.func14, Tryd.ntmps14
    go_wp2
    go_returns
    exact ⟨rfl, by (repeat' (first | (with_reducible exact Below.refl _ _) | (with_reducible assumption) | (with_reducible refine Below.alloc ?_ ?_ _) | (with_reducible refine below_drewN ?_ _) | (with_reducible refine below_drew ?_) | (with_reducible refine below_ext ?_ ?_ _ _) | (with_reducible refine Below.setCell ?_ ?_ _) | (simp; done) | (simp; omega) | omega))⟩
theorem of_form (n : Nat) (hn : n < 10) : tform (tK n) (tO n) = true := by
  have h : ∀ n : Fin 10, tform (tK n) (tO n) = true := by decide
  exact h ⟨n, hn⟩
/-- what stands in the join after n of the ten -/
def jn (k1 o1 k2 o2 : Int) : Nat → Int × Int
  | 0 => (0, 0)
  | n + 1 => let p := jn k1 o1 k2 o2 n; if (unB k1 o1 (tK n) (tO n) && (unB k2 o2 (tK n) (tO n) && unB (tK n) (tO n) p.1 p.2)) = true then (tK n, tO n) else p
theorem jn_form (k1 o1 k2 o2 : Int) : ∀ n, n ≤ 10 → tform (jn k1 o1 k2 o2 n).1 (jn k1 o1 k2 o2 n).2 = true
  | 0, _ => rfl
  | n + 1, h => by
    unfold jn
    have ih := jn_form k1 o1 k2 o2 n (by omega)
    by_cases hc : (unB k1 o1 (tK n) (tO n) && (unB k2 o2 (tK n) (tO n) && unB (tK n) (tO n) (jn k1 o1 k2 o2 n).1 (jn k1 o1 k2 o2 n).2)) = true
    · simp only [hc, if_true]; exact of_form n (by omega)
    · simp only [hc]; exact ih
theorem jn_join (k1 o1 k2 o2 : Int) (fa : tform k1 o1 = true) (fb : tform k2 o2 = true) : jn k1 o1 k2 o2 10 = (joinK k1 o1 k2 o2, joinO k1 o1 k2 o2) := by
  rcases tform_ten fa with ⟨rfl, rfl⟩ | ⟨rfl, rfl⟩ | ⟨rfl, rfl⟩ | ⟨rfl, rfl⟩ | ⟨rfl, rfl⟩ | ⟨rfl, rfl⟩ | ⟨rfl, rfl⟩ | ⟨rfl, rfl⟩ | ⟨rfl, rfl⟩ | ⟨rfl, rfl⟩ <;>
  rcases tform_ten fb with ⟨rfl, rfl⟩ | ⟨rfl, rfl⟩ | ⟨rfl, rfl⟩ | ⟨rfl, rfl⟩ | ⟨rfl, rfl⟩ | ⟨rfl, rfl⟩ | ⟨rfl, rfl⟩ | ⟨rfl, rfl⟩ | ⟨rfl, rfl⟩ | ⟨rfl, rfl⟩ <;> decide
end Go.Proofs.YtjnhngnafnoicaaDoor
