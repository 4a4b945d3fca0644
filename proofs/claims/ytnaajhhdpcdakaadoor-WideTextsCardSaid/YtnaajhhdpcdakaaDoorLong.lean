/-
  Numbers of four words as a law's arguments: opened and shut.
-/
import Derived.Test.YtnaajhhdpcdakaaDoorLaid
import Derived.Laws.IdiomArrays
import Derived.Lib.SmallJoins
namespace Go.Proofs.YtnaajhhdpcdakaaDoor
open Go.ChangeShapes Go.WideShapes Go.ChangeAt Go.RowKit Go.Joins Word

theorem cellsLong : Tryd.prog.cellsOf 34 = 4 := by kernel_rfl
theorem four_list {α : Type} (l : List α) (h : l.length = 4) : ∃ a b c d, l = [a, b, c, d] := by
  match l, h with
  | [a, b, c, d], _ => exact ⟨a, b, c, d, rfl⟩
theorem words_of_wf4 {x0 x1 x2 x3 : Int} (h0 : (Lit.int .u64 x0).wf = true) (h1 : (Lit.int .u64 x1).wf = true) (h2 : (Lit.int .u64 x2).wf = true) (h3 : (Lit.int .u64 x3).wf = true) :
    ∃ n, n < top4 ∧ x0 = (w0 n : Int) ∧ x1 = (w1 n : Int) ∧ x2 = (w2 n : Int) ∧ x3 = (w3 n : Int) := by
  simp [Lit.wf, IntKind.min, IntKind.max, IntKind.signed, IntKind.bits] at h0 h1 h2 h3
  obtain ⟨a, rfl⟩ : ∃ a : Nat, x0 = (a : Int) := ⟨x0.toNat, by omega⟩
  obtain ⟨b, rfl⟩ : ∃ a : Nat, x1 = (a : Int) := ⟨x1.toNat, by omega⟩
  obtain ⟨c, rfl⟩ : ∃ a : Nat, x2 = (a : Int) := ⟨x2.toNat, by omega⟩
  obtain ⟨d, rfl⟩ : ∃ a : Nat, x3 = (a : Int) := ⟨x3.toNat, by omega⟩
  refine ⟨a + b * 18446744073709551616 + c * 340282366920938463463374607431768211456 + d * 6277101735386680763835789423207666416102355444464034512896, by unfold top4; omega, ?_, ?_, ?_, ?_⟩
  · unfold w0; omega
  · unfold w1; omega
  · unfold w2; omega
  · unfold w3; omega
section
variable {H : Type} {enc : TypeId × Value → H} {w : World} {base : Nat} {spare : Nat → Bool} {held : Bool}
set_option maxRecDepth 100000 in
theorem open_long {r : Reach} {b0 : Nat} {v : Value} {d : DataW H} {p : List MemPlace} (hv : Value.okWide Tryd.prog w r b0 34 v) (h : DataW.Trod enc Tryd.prog w base spare held 34 v d p) :
    ∃ n, n < top4 ∧ v = L n ∧ d = .agg [.lit (.int .u64 (w0 n : Int)), .lit (.int .u64 (w1 n : Int)), .lit (.int .u64 (w2 n : Int)), .lit (.int .u64 (w3 n : Int))] ∧ p = [] ∧
      (Lit.int .u64 (w0 n : Int)).wf = true ∧ (Lit.int .u64 (w1 n : Int)).wf = true ∧ (Lit.int .u64 (w2 n : Int)).wf = true ∧ (Lit.int .u64 (w3 n : Int)).wf = true := by
  obtain ⟨cs, rfl, hsz, _⟩ : ∃ cs, v = .agg cs ∧ cs.size = Tryd.prog.cellsOf 34 ∧ Row.okWide Tryd.prog w r b0 34 cs := by
    simpa [Value.okWide, Tryd.underlying34] using hv
  rw [cellsLong] at hsz
  obtain ⟨l⟩ := cs
  obtain ⟨c0, c1, c2, c3, rfl⟩ := four_list l hsz
  obtain ⟨fuel, hf⟩ := h
  obtain ⟨y0, y1, y2, y3, m, hx, hy0, hy1, hy2, hy3⟩ := trod_array4 Tryd.underlying34 cellsWord hf
  obtain ⟨x0, e0, rfl, k0⟩ := DataW.trod_int Tryd.underlying22 hy0
  obtain ⟨x1, e1, rfl, k1⟩ := DataW.trod_int Tryd.underlying22 hy1
  obtain ⟨x2, e2, rfl, k2⟩ := DataW.trod_int Tryd.underlying22 hy2
  obtain ⟨x3, e3, rfl, k3⟩ := DataW.trod_int Tryd.underlying22 hy3
  simp at e0 e1 e2 e3
  subst e0 e1 e2 e3
  simp only [Prod.mk.injEq] at hx
  obtain ⟨rfl, rfl⟩ := hx
  obtain ⟨n, hn, rfl, rfl, rfl, rfl⟩ := words_of_wf4 k0 k1 k2 k3
  exact ⟨n, hn, rfl, rfl, rfl, k0, k1, k2, k3⟩
set_option maxRecDepth 100000 in
theorem shut_four (x0 x1 x2 x3 : Int) (k0 : (Lit.int .u64 x0).wf = true) (k1 : (Lit.int .u64 x1).wf = true) (k2 : (Lit.int .u64 x2).wf = true) (k3 : (Lit.int .u64 x3).wf = true) :
    DataW.Trod enc Tryd.prog w base spare held 34 (.agg #[.int .u64 x0, .int .u64 x1, .int .u64 x2, .int .u64 x3]) (.agg [.lit (.int .u64 x0), .lit (.int .u64 x1), .lit (.int .u64 x2), .lit (.int .u64 x3)]) [] :=
  ⟨2, by
    have r4 : List.range 4 = [0, 1, 2, 3] := rfl
    simp [DataW.trod, Value.cells, Tryd.underlying34, Tryd.underlying22, cellsLong, cellsWord, r4, k0, k1, k2, k3]⟩
set_option maxRecDepth 100000 in
theorem shut_long (n : Nat) (k0 : (Lit.int .u64 (w0 n : Int)).wf = true) (k1 : (Lit.int .u64 (w1 n : Int)).wf = true) (k2 : (Lit.int .u64 (w2 n : Int)).wf = true) (k3 : (Lit.int .u64 (w3 n : Int)).wf = true) :
    DataW.Trod enc Tryd.prog w base spare held 34 (L n) (.agg [.lit (.int .u64 (w0 n : Int)), .lit (.int .u64 (w1 n : Int)), .lit (.int .u64 (w2 n : Int)), .lit (.int .u64 (w3 n : Int))]) [] :=
  shut_four (w0 n : Int) (w1 n : Int) (w2 n : Int) (w3 n : Int) k0 k1 k2 k3
set_option maxRecDepth 100000 in
theorem open_wide {r : Reach} {b0 : Nat} {v : Value} {d : DataW H} {p : List MemPlace} (hv : Value.okWide Tryd.prog w r b0 24 v) (h : DataW.Trod enc Tryd.prog w base spare held 24 v d p) :
    ∃ n, n < top2 ∧ v = W n ∧ d = .agg [.lit (.int .u64 (hi n : Int)), .lit (.int .u64 (lo n : Int))] ∧ p = [] ∧ (Lit.int .u64 (hi n : Int)).wf = true ∧ (Lit.int .u64 (lo n : Int)).wf = true := by
  obtain ⟨c0, c1, y0, y1, m, rfl, rfl, rfl, hy0, hy1⟩ := open_agg2 Tryd.underlying24 (by kernel_rfl) cellsWide hv h
  obtain ⟨x0, e0, rfl, k0⟩ := DataW.trod_int Tryd.underlying22 hy0
  obtain ⟨x1, e1, rfl, k1⟩ := DataW.trod_int Tryd.underlying22 hy1
  simp at e0 e1
  subst e0 e1
  obtain ⟨n, hn, rfl, rfl⟩ := words_of_wf k0 k1
  exact ⟨n, hn, rfl, rfl, rfl, k0, k1⟩
set_option maxRecDepth 100000 in
theorem shut_wide (n : Nat) (k0 : (Lit.int .u64 (hi n : Int)).wf = true) (k1 : (Lit.int .u64 (lo n : Int)).wf = true) :
    DataW.Trod enc Tryd.prog w base spare held 24 (W n) (.agg [.lit (.int .u64 (hi n : Int)), .lit (.int .u64 (lo n : Int))]) [] :=
  shut_agg2 (y0 := (.lit (.int .u64 (hi n : Int)), [])) (y1 := (.lit (.int .u64 (lo n : Int)), [])) Tryd.underlying24 (by kernel_rfl) cellsWide ⟨1, by simp [DataW.trod, Tryd.underlying22, k0]⟩ ⟨1, by simp [DataW.trod, Tryd.underlying22, k1]⟩
end
end Go.Proofs.YtnaajhhdpcdakaaDoor
