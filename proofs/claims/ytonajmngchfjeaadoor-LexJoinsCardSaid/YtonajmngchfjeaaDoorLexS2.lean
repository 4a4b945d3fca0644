/-
  Lists of tokens that are the same.
-/
import Derived.Test.YtonajmngchfjeaaDoorLexS
import Derived.Laws.StructEq
import Derived.Laws.OwnMore
namespace Go.Proofs.YtonajmngchfjeaaDoor
open Go.RowKit Word
open Lx (Tok)
attribute [local go_sem] setCell_drewN cell?_ext frozen?_ext shape?_ext setCell_ext lt_1' ne_1' en_1' le_1' lt_2' ne_2' en_2' le_2' lt_3' ne_3' en_3' le_3' lt_4' ne_4' en_4' le_4' lt_5' ne_5' en_5' le_5' lt_6' ne_6' en_6' le_6' lt_7' ne_7' en_7' le_7' lt_8' ne_8' en_8' le_8' lt_9' ne_9' en_9' le_9' lt_10' ne_10' en_10' le_10' lt_11' ne_11' en_11' le_11' lt_12' ne_12' en_12' le_12'

theorem wide_same9 (x y : Int) (w : World) : (Op.equalIn 9998 29 (.agg #[.int .u64 x, .int .u64 y]) (.agg #[.int .u64 x, .int .u64 y])).run Tryd.prog w = .ok true w := by
  have u3 := Tryd.underlying23
  have a3 := Tryd.isAgg23
  have z3 := Tryd.sizeOf23
  have hS : Tryd.prog.underlying 29 = some (.struct (Tryd.prog.fieldsOf 29)) := by kernel_rfl
  have hp : Tryd.prog.stoodInHeld 29 = false := by kernel_rfl
  rw [show (9998 : Nat) = 9997 + 1 from rfl, run_equalIn_agg w 9997 29 _ _ hS hp]
  simp only [Program.fieldsOf, Tryd.underlying29]
  go_simp
theorem dec_same9 (ng : Bool) (x y sc : Int) (w : World) : (Op.equalIn 9999 31 (.agg #[.bool ng, .int .u64 x, .int .u64 y, .int .i64 sc]) (.agg #[.bool ng, .int .u64 x, .int .u64 y, .int .i64 sc])).run Tryd.prog w = .ok true w := by
  have u1 := Tryd.underlying4
  have a1 := Tryd.isAgg4
  have z1 := Tryd.sizeOf4
  have u2 := Tryd.underlying3
  have a2 := Tryd.isAgg3
  have z2 := Tryd.sizeOf3
  have a3 := Tryd.isAgg29
  have z3 := Tryd.sizeOf29
  have e := wide_same9 x y
  have hS : Tryd.prog.underlying 31 = some (.struct (Tryd.prog.fieldsOf 31)) := by kernel_rfl
  have hp : Tryd.prog.stoodInHeld 31 = false := by kernel_rfl
  rw [show (9999 : Nat) = 9998 + 1 from rfl, run_equalIn_agg w 9998 31 _ _ hS hp]
  simp only [Program.fieldsOf, Tryd.underlying31]
  go_simp
theorem tok_same9 (kd : Int) (tx : ByteArray) (ng : Bool) (x y sc dy az : Int) (w : World) :
    (Op.equalIn 10000 33 (.agg #[.int .i64 kd, .string tx, .bool ng, .int .u64 x, .int .u64 y, .int .i64 sc, .int .i64 dy, .int .i64 az]) (.agg #[.int .i64 kd, .string tx, .bool ng, .int .u64 x, .int .u64 y, .int .i64 sc, .int .i64 dy, .int .i64 az])).run Tryd.prog w = .ok true w := by
  have u1 := Tryd.underlying9
  have a1 := Tryd.isAgg9
  have z1 := Tryd.sizeOf9
  have u2 := Tryd.underlying3
  have a2 := Tryd.isAgg3
  have z2 := Tryd.sizeOf3
  have a3 := Tryd.isAgg31
  have z3 := Tryd.sizeOf31
  have e := dec_same9 ng x y sc
  have hS : Tryd.prog.underlying 33 = some (.struct (Tryd.prog.fieldsOf 33)) := by kernel_rfl
  have hp : Tryd.prog.stoodInHeld 33 = false := by kernel_rfl
  rw [show (10000 : Nat) = 9999 + 1 from rfl, run_equalIn_agg w 9999 33 _ _ hS hp]
  simp only [Program.fieldsOf, Tryd.underlying33]
  go_simp
/-- a slice that reads as tokens -/
def TRow (w : World) (v : Value) (ts : List Tok) : Prop := ∃ p c, v = .slice p ts.length c ∧ (0 < ts.length → ∃ g, p = some ⟨g, 0, none⟩ ∧ g < w.heap.size ∧ ∀ i (h : i < ts.length) j (hj : j < 8), w.cell? ⟨g, i * 8 + j, none⟩ = some ((tkC ts[i])[j]'hj))
theorem tkCs_at : ∀ (ts : List Tok) (i : Nat) (h : i < ts.length) (j : Nat) (hj : j < 8), (tkCs ts)[i * 8 + j]? = some ((tkC ts[i])[j]'hj)
  | t :: r, 0, _, j, hj => by
    rw [tkCs, List.flatMap_cons, List.getElem?_append_left (by show 0 * 8 + j < 8; omega)]
    simp only [Nat.zero_mul, Nat.zero_add, List.getElem_cons_zero]
    exact List.getElem?_eq_getElem hj
  | t :: r, i + 1, h, j, hj => by
    rw [tkCs, List.flatMap_cons, List.getElem?_append_right (by show 8 ≤ (i + 1) * 8 + j; omega)]
    rw [show (i + 1) * 8 + j - (tkC t).length = i * 8 + j by show (i + 1) * 8 + j - 8 = _; omega]
    have := tkCs_at r i (by simpa using h) j hj
    exact this
theorem TB.row {B : Nat} {v : Value} {ts : List Tok} {W0 w : World} (h : TB B v ts W0 w) : TRow w v ts := by
  have h1 := h.1
  obtain ⟨h2, h3⟩ := h1
  rcases h3 with ⟨rfl, h0⟩ | ⟨g, cap, cur, rfl, _, hh, hc, _⟩
  · exact ⟨none, 0, by rw [h0], fun h9 => by omega⟩
  · refine ⟨_, cap, rfl, fun _ => ⟨g, rfl, (h.1.lt g rfl).2, fun i hi j hj => ?_⟩⟩
    rw [h.1.cellAt (i * 8 + j) (by omega)]
    exact tkCs_at ts i hi j hj
theorem TRow.later {w w' : World} {v : Value} {ts : List Tok} (h : TRow w v ts) (hb : Below w.heap.size w w') : TRow w' v ts := by
  obtain ⟨p, c, rfl, h2⟩ := h
  refine ⟨p, c, rfl, fun h0 => ?_⟩
  obtain ⟨g, hg, hlt, hc⟩ := h2 h0
  exact ⟨g, hg, Nat.lt_of_lt_of_le hlt hb.size, fun i hi j hj => by rw [← hc i hi j hj]; exact (bcell hb).1 g _ hlt⟩
set_option maxRecDepth 100000 in
set_option maxHeartbeats 8000000 in
theorem rtokSame_any (a b : Value) (ts : List Tok) (hl : ts.length ≤ 100000) (w : World) (ha : TRow w a ts) (hb : TRow w b ts) :
    Calls Tryd.prog 6 #[a, b] w fun e w' => e = .returned (.bool true) ∧ Below w.heap.size w w' := by
  obtain ⟨p, c, rfl, h1⟩ := ha
  obtain ⟨q, d, rfl, h2⟩ := hb
  have H1 := Lib.hid h1; have H2 := Lib.hid h2
  obtain ⟨n, hn⟩ : ∃ n, n = ts.length := ⟨_, rfl⟩
  have HN := Lib.hid hn
  rw [← hn] at hl ⊢
  clear h1 h2 hn
  go_enter Tryd.func6, Tryd.ntmps6
  go_wp2
  go_loopw [5] (fun z wr => ∃ k : Nat, z = .int .i64 k ∧ k ≤ n ∧ ∃ dr, wr = w.drewN dr) (fun z _ => n - (intOf z).toNat)
  case atStart => exact ⟨0, rfl, Nat.zero_le _, 0, rfl⟩
  case round =>
    obtain ⟨k, rfl, hk, dr, rfl⟩ := hrel
    by_cases hlt : k < n
    · have h0 : 0 < ts.length := by rw [← HN.out]; omega
      obtain ⟨g, rfl, hg, hc⟩ := H1.out h0
      obtain ⟨g', rfl, hg', hc'⟩ := H2.out h0
      have hk9 : k < ts.length := by rw [← HN.out]; exact hlt
      have c1 := hc k hk9; have c2 := hc' k hk9
      obtain ⟨t, ht⟩ : ∃ t, t = ts[k] := ⟨_, rfl⟩
      rw [← ht] at c1 c2
      obtain ⟨kd, tx, ng, x, y, sc, dy, az, e⟩ : ∃ kd tx ng x y sc dy az, tkC t = [.int .i64 kd, .string tx, .bool ng, .int .u64 x, .int .u64 y, .int .i64 sc, .int .i64 dy, .int .i64 az] := ⟨_, _, _, _, _, _, _, _, rfl⟩
      simp only [e] at c1 c2
      have a0 := c1 0 (by decide); have a1 := c1 1 (by decide); have a2 := c1 2 (by decide); have a3 := c1 3 (by decide); have a4 := c1 4 (by decide); have a5 := c1 5 (by decide); have a6 := c1 6 (by decide); have a7 := c1 7 (by decide)
      have b0 := c2 0 (by decide); have b1 := c2 1 (by decide); have b2 := c2 2 (by decide); have b3 := c2 3 (by decide); have b4 := c2 4 (by decide); have b5 := c2 5 (by decide); have b6 := c2 6 (by decide); have b7 := c2 7 (by decide)
      simp only [List.getElem_cons_zero, List.getElem_cons_succ, Nat.add_zero] at a0 a1 a2 a3 a4 a5 a6 a7 b0 b1 b2 b3 b4 b5 b6 b7
      have hs := tok_same9 kd tx ng x y sc dy az
      clear hc hc' c1 c2 e ht hk9 h0
      go_wp2
      go_region
      all_goals
        go_wp2
        go_roundw
        case rel => exact ⟨k + 1, by go_num, by omega, _, rfl⟩
        case measure => simp [intOf]; omega
    · go_wp2
      go_ret
      exact ⟨rfl, by (repeat' (first | (with_reducible exact Below.refl _ _) | (with_reducible assumption) | (with_reducible refine Below.alloc ?_ ?_ _) | (with_reducible refine below_drewN ?_ _) | (with_reducible refine below_drew ?_) | (with_reducible refine below_ext ?_ ?_ _ _) | (with_reducible refine Below.setCell ?_ ?_ _) | (simp; done) | (simp; omega) | omega))⟩
end Go.Proofs.YtonajmngchfjeaaDoor
