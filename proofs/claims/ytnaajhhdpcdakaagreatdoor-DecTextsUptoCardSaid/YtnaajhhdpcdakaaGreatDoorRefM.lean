/-
  The document's Quo.
-/
import Derived.Test.YtnaajhhdpcdakaaGreatDoorRefL
import Derived.Laws.AppendOwnNone
namespace Go.Proofs.YtnaajhhdpcdakaaGreatDoor
open Go.RowKit Num Word
attribute [local go_sem] setCell_drewN cell?_ext frozen?_ext shape?_ext setCell_ext lt_1' ne_1' en_1' le_1' lt_2' ne_2' en_2' le_2' lt_3' ne_3' en_3' le_3' lt_4' ne_4' en_4' le_4' lt_5' ne_5' en_5' le_5' lt_6' ne_6' en_6' le_6' lt_7' ne_7' en_7' le_7' lt_8' ne_8' en_8' le_8' lt_9' ne_9' en_9' le_9' lt_10' ne_10' en_10' le_10' lt_11' ne_11' en_11' le_11' lt_12' ne_12' en_12' le_12'

def cellN (w : World) (g i : Nat) : Nat := match w.cell? ⟨g, i, none⟩ with
  | some (.int _ z) => z.toNat
  | _ => 0
/-- a digit ahead of a slice, in a row of the call's own -/
theorem append_one {ops : Array Oper} {rest : List Oper} {o : Oper} {a : Act} {Q : Exit → Act → World → Prop} {w : World} (hgd : o.guard = none) (s x : Operand)
    (ho : o.op = .call { callee := .builtin .append, args := #[s, x], argTypes := #[36, 36] })
    (d : Nat) {z : Int} (hz : z = (d : Int)) (hs : a.eval s = .slice (some ⟨w.heap.size, 0, none⟩) 1 1) {P : Nat → Prop} {v : Value} {m : List Nat} (hx : a.eval x = v) (hr : RdP P w v m) (hlen : m.length ≤ 100000)
    (h : ∀ v' w', IBuf w.heap.size v' (d :: m) w w' → wpList Tryz.prog ops Q rest (a.put o.dst v') w') : wpList Tryz.prog ops Q (o :: rest) a (w.alloc (.cells #[.int .i64 z] 3)) := by
  subst hz
  have hb := IBuf.lit (W0 := w) (W := w) (Below.refl _ _) #[.int .i64 (d : Int)] [d] rfl (by simp)
  rcases hr with ⟨rfl, rfl⟩ | ⟨g, off, cap, rfl, -, hg, -, hc⟩
  · obtain ⟨i0, hi, hz0, hz1, hz2⟩ := info_parts infoInt
    have hown := World.ownsRow_lit (w := w) (base := w.heap.size) (e := 3) (size := 1) #[.int .i64 (d : Int)] 1 (Nat.le_refl _) (by unfold maxLen; omega) rfl
    exact wpList_append_own_none hgd s x 36 ho w.heap.size 3 i0 1 Tryz.underlying36 hi _ 1 _ hs hown hx (h _ _ hb)
  · exact append_rd hgd s x ho hs hb hx (fun j hj => by rw [← hc j hj]; exact World.cell?_alloc_past _ g (off + j) hg) (by simp; omega) h
/-- the quotient's part so far, from one place on -/
theorem quo_more {A B n q : Nat} {f : Nat → Int} (h : QuoAt A B n (q + 1) f) (c : Nat) (hc : c = A / 10 ^ q / B % 10) (v : Int) (hv : v = (c : Int)) : QuoAt A B n q (upd f q v) := by
  intro t h1 h2
  unfold upd
  by_cases e : t = q
  · subst e; rw [if_pos rfl, hv, hc]
  · rw [if_neg e]; exact h t (by omega) h2
theorem upd_upd (f : Nat → Int) (k : Nat) (x y : Int) : upd (upd f k x) k y = upd f k y := by
  funext j; unfold upd; split <;> rfl
theorem cellN_row {W0 w : World} {g n q : Nat} {f : Nat → Int} (h : IRow W0 w g n f) (hq : q < n) : cellN w g q = (f q).toNat := by
  unfold cellN; rw [h.cell q hq]
theorem cellN_drew (w : World) (g q : Nat) : cellN w.drew g q = cellN w g q := rfl
theorem upd_self (f : Nat → Int) (k : Nat) : upd f k (f k) = f := by
  funext j; unfold upd; split
  · rename_i h; rw [h]
  · rfl
end Go.Proofs.YtnaajhhdpcdakaaGreatDoor
