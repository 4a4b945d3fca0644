/-
  The document's Check; the one kind of a list's values; which values are of a kind.
-/
import Derived.Test.YtjkallelniggpaaGreatDoorValH
namespace Go.Proofs.YtjkallelniggpaaGreatDoor
open Go.RowKit Word Txt
attribute [local go_sem] setCell_drewN cell?_ext frozen?_ext shape?_ext setCell_ext lt_1' ne_1' en_1' le_1' lt_2' ne_2' en_2' le_2' lt_3' ne_3' en_3' le_3' lt_4' ne_4' en_4' le_4' lt_5' ne_5' en_5' le_5' lt_6' ne_6' en_6' le_6' lt_7' ne_7' en_7' le_7' lt_8' ne_8' en_8' le_8' lt_9' ne_9' en_9' le_9' lt_10' ne_10' en_10' le_10' lt_11' ne_11' en_11' le_11' lt_12' ne_12' en_12' le_12'

theorem code_is {v : V} {e : Int} (h : e = v.code) : (e = 0 ↔ (v.count ≤ 1000 ∧ v.depth ≤ 16 ∧ v.form = true)) := by
  subst h
  unfold V.code
  by_cases h1 : 1000 < v.count
  · rw [if_pos h1]; constructor
    · intro h; omega
    · intro h; omega
  · rw [if_neg h1]
    by_cases h2 : 16 < v.depth
    · rw [if_pos h2]; constructor
      · intro h; omega
      · intro h; omega
    · rw [if_neg h2]
      by_cases h3 : v.form = true
      · rw [if_pos h3]; exact ⟨fun _ => ⟨by omega, by omega, h3⟩, fun _ => rfl⟩
      · rw [if_neg h3]; constructor
        · intro h; omega
        · intro h; exact absurd h.2.2 h3
def V.kind : V → Int
  | .mk k .. => k
def V.kids : V → List V
  | .mk _ _ _ _ _ _ _ l _ => l
theorem at_kind {v : V} {n : Nat} {w : World} {k : Int} {x1 x2 x3 x4 x5 x6 x7 x8 x9 : Value} (h : v.At n w (.agg #[.int .i64 k, x1, x2, x3, x4, x5, x6, x7, x8, x9])) : v.kind = k := by
  cases v
  obtain ⟨lv, nv, hx, _⟩ := at_mk h
  simp only [Value.agg.injEq, Array.mk.injEq, List.cons.injEq, and_true, Value.int.injEq, true_and] at hx
  exact hx.1.symm
/-- the one kind of the values that are not null, none: 0 -/
def cm : Int → List V → Int
  | f, [] => f
  | f, v :: r => if v.kind = 0 ∨ v.kind = f then cm f r else if 4 < v.kind ∨ f ≠ 0 then 0 else cm v.kind r
def allB (of : Int) (l : List V) : Bool := l.all (fun v => of == 0 || (v.kind == 0 || v.kind == of))
theorem cm_drop (f : Int) (l : List V) (m : Nat) (h : m < l.length) : cm f (l.drop m) = if l[m].kind = 0 ∨ l[m].kind = f then cm f (l.drop (m + 1)) else if 4 < l[m].kind ∨ f ≠ 0 then 0 else cm l[m].kind (l.drop (m + 1)) := by
  rw [List.drop_eq_getElem_cons h]; rfl
end Go.Proofs.YtjkallelniggpaaGreatDoor
