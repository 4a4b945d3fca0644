/-
  Decimals as a law's arguments: opened and shut.
-/
import Derived.Test.YtcnkcfbodpkllaaDoorLong
import Derived.Test.YtcnkcfbodpkllaaDoorDecOne
import Derived.Deep.Strs
import Derived.ChangeArms
namespace Go.Proofs.YtcnkcfbodpkllaaDoor
open Go.ChangeShapes Go.WideShapes Go.ChangeAt Go.RowKit Go.Joins Go.Deep Word

theorem cellsDec : Tryd.prog.cellsOf 26 = 4 := by kernel_rfl
theorem cellsInt1 : Tryd.prog.cellsOf 3 = 1 := by kernel_rfl
theorem cellsBool1 : Tryd.prog.cellsOf 4 = 1 := by kernel_rfl
section
variable {H : Type} {enc : TypeId × Value → H} {w : World} {base : Nat} {spare : Nat → Bool} {held : Bool}
set_option maxRecDepth 100000 in
theorem open_dec {r : Reach} {b0 : Nat} {v : Value} {d : DataW H} {p : List MemPlace} (hv : Value.okWide Tryd.prog w r b0 26 v) (h : DataW.Trod enc Tryd.prog w base spare held 26 v d p) :
    ∃ neg n s, n < top2 ∧ v = D neg n s ∧ d = .agg [.lit (.bool neg), .agg [.lit (.int .u64 (hi n : Int)), .lit (.int .u64 (lo n : Int))], .lit (.int .i64 s)] ∧ p = [] ∧
      (Lit.int .u64 (hi n : Int)).wf = true ∧ (Lit.int .u64 (lo n : Int)).wf = true ∧ (Lit.int .i64 s).wf = true := by
  obtain ⟨cs, rfl, hsz⟩ := okWide_struct Tryd.underlying26 hv
  obtain ⟨c0, c1, c2, c3, rfl⟩ := array4 (hsz.trans cellsDec)
  obtain ⟨fuel, hf⟩ := h
  obtain ⟨y0, y1, y2, m, hx, _, h0, h1, h2⟩ := trod_struct3 Tryd.underlying26 hf
  simp only [Value.cells, cellsBool1, cellsWide, cellsInt1] at h0 h1 h2
  obtain ⟨z0, z1, m2, hx1, _, g0, g1⟩ := trod_struct2 Tryd.underlying24 h1
  simp only [cellsWord] at g0 g1
  obtain ⟨neg, e0, rfl⟩ := DataW.trod_bool Tryd.underlying4 h0
  obtain ⟨x1, e1, rfl, k1⟩ := DataW.trod_int Tryd.underlying22 g0
  obtain ⟨x2, e2, rfl, k2⟩ := DataW.trod_int Tryd.underlying22 g1
  obtain ⟨x3, e3, rfl, k3⟩ := DataW.trod_int Tryd.underlying3 h2
  simp at e0 e1 e2 e3
  subst e0 e1 e2 e3
  subst hx1
  simp only [Prod.mk.injEq] at hx
  obtain ⟨rfl, rfl⟩ := hx
  obtain ⟨n, hn, rfl, rfl⟩ := words_of_wf k1 k2
  exact ⟨neg, n, x3, hn, rfl, rfl, rfl, k1, k2, k3⟩
set_option maxRecDepth 100000 in
theorem shut_dec0 (neg : Bool) (x1 x2 s : Int) (k1 : (Lit.int .u64 x1).wf = true) (k2 : (Lit.int .u64 x2).wf = true) (k3 : (Lit.int .i64 s).wf = true) :
    DataW.Trod enc Tryd.prog w base spare held 26 (.agg #[.bool neg, .int .u64 x1, .int .u64 x2, .int .i64 s]) (.agg [.lit (.bool neg), .agg [.lit (.int .u64 x1), .lit (.int .u64 x2)], .lit (.int .i64 s)]) [] :=
  ⟨3, by
    simp [DataW.trod, Value.cells, Tryd.underlying26, Tryd.underlying24, Tryd.underlying22, Tryd.underlying3, Tryd.underlying4, cellsDec, cellsWide, cellsWord, cellsInt1, cellsBool1, k1, k2, k3]⟩
theorem shut_dec (neg : Bool) (n : Nat) (s : Int) (k1 : (Lit.int .u64 (hi n : Int)).wf = true) (k2 : (Lit.int .u64 (lo n : Int)).wf = true) (k3 : (Lit.int .i64 s).wf = true) :
    DataW.Trod enc Tryd.prog w base spare held 26 (D neg n s) (.agg [.lit (.bool neg), .agg [.lit (.int .u64 (hi n : Int)), .lit (.int .u64 (lo n : Int))], .lit (.int .i64 s)]) [] :=
  shut_dec0 neg (hi n : Int) (lo n : Int) s k1 k2 k3
end
end Go.Proofs.YtcnkcfbodpkllaaDoor
