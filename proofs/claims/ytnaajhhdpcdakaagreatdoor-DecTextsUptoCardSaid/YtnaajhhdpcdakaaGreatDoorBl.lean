/-
  From the rows' conditions to the walks' words: the list of powers of ten; two words as one number; the row's last step.
  Numbers of four words as a law's arguments: opened and shut.
  Decimals as a law's arguments: opened and shut.
  From the row's conditions to the walks' words: both lists of powers of ten; what the second form's bound gives; a witness.
-/
import Derived.Test.YtnaajhhdpcdakaaGreatDoorWideC
import Derived.ProofKit
import Derived.LaidMore
import Derived.LaidLaws
import Derived.MakeChecks
import Derived.OpenShut
import Derived.Stop.Joined
import Derived.Lib.LaidTab
import Derived.Lib.SmallJoins
import Derived.Laws.IdiomArrays
import Derived.Test.YtnaajhhdpcdakaaGreatDoorDecOne
import Derived.Deep.Strs
import Derived.ChangeArms
import Derived.Test.YtnaajhhdpcdakaaGreatDoorBf
import Derived.ShutString
import Derived.Stop.LaidErr
import Derived.PinnedBridge
import Derived.Lay
import Derived.LaidOnce
import Derived.SizedLaws
import Derived.Deep.DeepHandedRow
namespace Go.Proofs.YtnaajhhdpcdakaaGreatDoor
open Go.ChangeShapes Go.WideShapes Go.ChangeAt Go.RowKit Go.Joins Word

theorem own : ownKnob Tryz.prog.godebug = none := by kernel_rfl
theorem gTens : Tryz.prog.globalNamed "tariff/wide.tens" = some 0 := by kernel_rfl
theorem tTens : (Tryz.prog.globals[0]?).map (·.type) = some 76 := by kernel_rfl
theorem cellsWord : Tryz.prog.cellsOf 22 = 1 := by kernel_rfl
theorem cellsTens : Tryz.prog.cellsOf 76 = 20 := by kernel_rfl
theorem cellsWide : Tryz.prog.cellsOf 24 = 2 := by kernel_rfl
def tensList : List Int := [1, 10, 100, 1000, 10000, 100000, 1000000, 10000000, 100000000, 1000000000, 10000000000, 100000000000, 1000000000000, 10000000000000, 100000000000000, 1000000000000000, 10000000000000000, 100000000000000000, 1000000000000000000, 10000000000000000000]
def tensLaid : List (String × DataW Unit) := [("tariff/wide.tens", Rows.laid_tariff_wide_tens)]
theorem tens_data : (Rows.laid_tariff_wide_tens : DataW Unit) = Lib.tabData .u64 tensList := rfl
theorem tens_at : ∀ j : Fin 20, tensList.getD j.val 0 = ((10 ^ j.val : Nat) : Int) := by decide
theorem tens_of_laid {W : World} (h : laidMetH Tryz.prog tensLaid W) : Tens W := by
  rw [MakeChecks.laidMetH_plain _ _ _ (by kernel_rfl)] at h
  unfold tensLaid at h
  rw [tens_data] at h
  have ht := Lib.tabIs_of_head gTens tTens Tryz.underlying76 Tryz.underlying22 cellsWord cellsTens h
  have hc : ∀ j, j < 20 → W.cell? ⟨0, j, none⟩ = some (.int .u64 (p10 j : Int)) := fun j hj => by
    have := Lib.TabIs.cell ht gTens j hj
    rw [tens_at ⟨j, hj⟩] at this
    exact this
  exact ⟨World.block_lt_of_cell? W _ (hc 0 (by decide)), hc⟩
theorem door_met (os : Os) (args : Array Value) : laidMetH Tryz.prog tensLaid ((World.doorLaid Tryz.prog 400 os).forCall (fun _ _ => 0) ⟨#[], args, []⟩).memory :=
  laidMetH_of_parts3 (fuel := 8) (laidMet_of_run' 8 (by kernel_rfl) (by kernel_rfl)) (by kernel_rfl) (by kernel_rfl)
/-- two words are the words of one number -/
theorem words_of_wf {x y : Int} (hx : (Lit.int .u64 x).wf = true) (hy : (Lit.int .u64 y).wf = true) : ∃ n, n < top2 ∧ x = (hi n : Int) ∧ y = (lo n : Int) := by
  simp [Lit.wf, IntKind.min, IntKind.max, IntKind.signed, IntKind.bits] at hx hy
  refine ⟨x.toNat * 18446744073709551616 + y.toNat, by unfold top2; omega, ?_, ?_⟩
  · unfold hi; omega
  · unfold lo; omega
section
variable {H : Type} {enc : TypeId × Value → H} {P : Program}
/-- the row's last step where nothing below the first new block has turned -/
theorem post_below {f : Func} {s : ChangeSpec} {apart fresh handsOn again : Bool} {A B : World} {args : Array Value} {v : Value} {ds gs : List (DataW H)} {ps pa pv : List MemPlace}
    (hA : DataW.Whole enc P f.params.toList s.vars apart A args.toList ds gs ps)
    (hr : ∀ (b : Nat) (sp : Nat → Bool) (hd : Bool), DataW.TrodAll enc P B b sp hd f.resultTypes.toList (v.resultList f.resultTypes.size) (s.fn H (ds ++ gs)).results [])
    (ha : ∀ sp : Nat → Bool, (∀ p ∈ ps, sp p.block = true) → DataW.TrodAll enc P B 0 sp true f.params.toList args.toList (s.fn H (ds ++ gs)).args pa)
    (hv : ∀ sp : Nat → Bool, (∀ p ∈ ps, sp p.block = true) → DataW.TrodVars enc P B sp s.vars (s.fn H (ds ++ gs)).vars pv)
    (hp : ps = pa ++ pv) (hb : Below A.heap.size A B)
    (ho : ∀ (j : Nat) (t : TypeId) (r : Value), f.resultTypes[j]? = some t → (v.resultList f.resultTypes.size)[j]? = some r → Value.okWide P B .any 0 t r) :
    s.post enc P f apart fresh handsOn again A args v B := by
  have h1 : ∀ p ∈ ps, p.block < A.heap.size := fun p h => hA.lt p h
  have h2 : ∀ p ∈ ps, (fun b => decide (b < A.heap.size)) p.block = true := fun p h => by simpa using h1 p h
  refine ⟨ds, gs, ps, [], pa, pv, hA, hr _ _ _, ha _ h2, hv _ h2, World.keptBut_mono (fun p h => ⟨h, ?_⟩) (hb.frame (· ∈ ps)), fun _ => ?_⟩
  · rw [hp, List.mem_append] at h
    exact .inr h
  · obtain ⟨_, _, _, _, _, hz, hn⟩ := hA
    refine ⟨ho, _, _, ([] ++ pa) ++ pv, ⟨[] ++ pa, pv, trodAll_append (ha _ (fun _ _ => rfl)) (hr _ _ _), hv _ (fun _ _ => rfl), rfl, ?_, ?_⟩, ?_⟩
    · intro b off h
      have hin : MemPlace.cell b off ∈ ps := by rw [hp]; simpa using h
      rw [hb.frozen (h1 _ hin)]
      exact hz b off hin
    · intro h
      have := hn h
      rw [hp] at this
      simpa using this
    · intro p h _
      rw [hp]
      simpa using h
end
end Go.Proofs.YtnaajhhdpcdakaaGreatDoor
namespace Go.Proofs.YtnaajhhdpcdakaaGreatDoor
open Go.ChangeShapes Go.WideShapes Go.ChangeAt Go.RowKit Go.Joins Word

theorem cellsLong : Tryz.prog.cellsOf 51 = 4 := by kernel_rfl
theorem four_list {α : Type} (l : List α) (h : l.length = 4) : ∃ a b c d, l = [a, b, c, d] := by
  match l, h with
  | [a, b, c, d], _ => exact ⟨a, b, c, d, rfl⟩
theorem words_of_wf4 {x0 x1 x2 x3 : Int} (h0 : (Lit.int .u64 x0).wf = true) (h1 : (Lit.int .u64 x1).wf = true) (h2 : (Lit.int .u64 x2).wf = true) (h3 : (Lit.int .u64 x3).wf = true) :
    ∃ n, n < top4 ∧ x0 = (w0 n : Int) ∧ x1 = (w1 n : Int) ∧ x2 = (w2 n : Int) ∧ x3 = (w3 n : Int) := by
  simp [Lit.wf, IntKind.min, IntKind.max, IntKind.signed, IntKind.bits] at h0 h1 h2 h3
  obtain ⟨a, rfl⟩ : ∃ a : Nat, x0 = (a : Int) := ⟨x0.toNat, by omega⟩
  obtain ⟨b, rfl⟩ : ∃ a : Nat, x1 = (a : Int) := ⟨x1.toNat, by omega⟩
  obtain ⟨c, rfl⟩ : ∃ a : Nat, x2 = (a : Int) := ⟨x2.toNat, by omega⟩
  obtain ⟨d, rfl⟩ : ∃ a : Nat, x3 = (a : Int) := ⟨x3.toNat, by omega⟩
  refine ⟨a + b * 18446744073709551616 + c * 340282366920938463463374607431768211456 + d * 6277101735386680763835789423207666416102355444464034512896, by unfold top4; omega, ?_, ?_, ?_, ?_⟩
  · unfold w0; omega
  · unfold w1; omega
  · unfold w2; omega
  · unfold w3; omega
section
variable {H : Type} {enc : TypeId × Value → H} {w : World} {base : Nat} {spare : Nat → Bool} {held : Bool}
set_option maxRecDepth 100000 in
theorem open_long {r : Reach} {b0 : Nat} {v : Value} {d : DataW H} {p : List MemPlace} (hv : Value.okWide Tryz.prog w r b0 51 v) (h : DataW.Trod enc Tryz.prog w base spare held 51 v d p) :
    ∃ n, n < top4 ∧ v = L n ∧ d = .agg [.lit (.int .u64 (w0 n : Int)), .lit (.int .u64 (w1 n : Int)), .lit (.int .u64 (w2 n : Int)), .lit (.int .u64 (w3 n : Int))] ∧ p = [] ∧
      (Lit.int .u64 (w0 n : Int)).wf = true ∧ (Lit.int .u64 (w1 n : Int)).wf = true ∧ (Lit.int .u64 (w2 n : Int)).wf = true ∧ (Lit.int .u64 (w3 n : Int)).wf = true := by
  obtain ⟨cs, rfl, hsz, _⟩ : ∃ cs, v = .agg cs ∧ cs.size = Tryz.prog.cellsOf 51 ∧ Row.okWide Tryz.prog w r b0 51 cs := by
    simpa [Value.okWide, Tryz.underlying51] using hv
  rw [cellsLong] at hsz
  obtain ⟨l⟩ := cs
  obtain ⟨c0, c1, c2, c3, rfl⟩ := four_list l hsz
  obtain ⟨fuel, hf⟩ := h
  obtain ⟨y0, y1, y2, y3, m, hx, hy0, hy1, hy2, hy3⟩ := trod_array4 Tryz.underlying51 cellsWord hf
  obtain ⟨x0, e0, rfl, k0⟩ := DataW.trod_int Tryz.underlying22 hy0
  obtain ⟨x1, e1, rfl, k1⟩ := DataW.trod_int Tryz.underlying22 hy1
  obtain ⟨x2, e2, rfl, k2⟩ := DataW.trod_int Tryz.underlying22 hy2
  obtain ⟨x3, e3, rfl, k3⟩ := DataW.trod_int Tryz.underlying22 hy3
  simp at e0 e1 e2 e3
  subst e0 e1 e2 e3
  simp only [Prod.mk.injEq] at hx
  obtain ⟨rfl, rfl⟩ := hx
  obtain ⟨n, hn, rfl, rfl, rfl, rfl⟩ := words_of_wf4 k0 k1 k2 k3
  exact ⟨n, hn, rfl, rfl, rfl, k0, k1, k2, k3⟩
set_option maxRecDepth 100000 in
theorem shut_four (x0 x1 x2 x3 : Int) (k0 : (Lit.int .u64 x0).wf = true) (k1 : (Lit.int .u64 x1).wf = true) (k2 : (Lit.int .u64 x2).wf = true) (k3 : (Lit.int .u64 x3).wf = true) :
    DataW.Trod enc Tryz.prog w base spare held 51 (.agg #[.int .u64 x0, .int .u64 x1, .int .u64 x2, .int .u64 x3]) (.agg [.lit (.int .u64 x0), .lit (.int .u64 x1), .lit (.int .u64 x2), .lit (.int .u64 x3)]) [] :=
  ⟨2, by
    have r4 : List.range 4 = [0, 1, 2, 3] := rfl
    simp [DataW.trod, Value.cells, Tryz.underlying51, Tryz.underlying22, cellsLong, cellsWord, r4, k0, k1, k2, k3]⟩
set_option maxRecDepth 100000 in
theorem shut_long (n : Nat) (k0 : (Lit.int .u64 (w0 n : Int)).wf = true) (k1 : (Lit.int .u64 (w1 n : Int)).wf = true) (k2 : (Lit.int .u64 (w2 n : Int)).wf = true) (k3 : (Lit.int .u64 (w3 n : Int)).wf = true) :
    DataW.Trod enc Tryz.prog w base spare held 51 (L n) (.agg [.lit (.int .u64 (w0 n : Int)), .lit (.int .u64 (w1 n : Int)), .lit (.int .u64 (w2 n : Int)), .lit (.int .u64 (w3 n : Int))]) [] :=
  shut_four (w0 n : Int) (w1 n : Int) (w2 n : Int) (w3 n : Int) k0 k1 k2 k3
set_option maxRecDepth 100000 in
theorem open_wide {r : Reach} {b0 : Nat} {v : Value} {d : DataW H} {p : List MemPlace} (hv : Value.okWide Tryz.prog w r b0 24 v) (h : DataW.Trod enc Tryz.prog w base spare held 24 v d p) :
    ∃ n, n < top2 ∧ v = W n ∧ d = .agg [.lit (.int .u64 (hi n : Int)), .lit (.int .u64 (lo n : Int))] ∧ p = [] ∧ (Lit.int .u64 (hi n : Int)).wf = true ∧ (Lit.int .u64 (lo n : Int)).wf = true := by
  obtain ⟨c0, c1, y0, y1, m, rfl, rfl, rfl, hy0, hy1⟩ := open_agg2 Tryz.underlying24 (by kernel_rfl) cellsWide hv h
  obtain ⟨x0, e0, rfl, k0⟩ := DataW.trod_int Tryz.underlying22 hy0
  obtain ⟨x1, e1, rfl, k1⟩ := DataW.trod_int Tryz.underlying22 hy1
  simp at e0 e1
  subst e0 e1
  obtain ⟨n, hn, rfl, rfl⟩ := words_of_wf k0 k1
  exact ⟨n, hn, rfl, rfl, rfl, k0, k1⟩
set_option maxRecDepth 100000 in
theorem shut_wide (n : Nat) (k0 : (Lit.int .u64 (hi n : Int)).wf = true) (k1 : (Lit.int .u64 (lo n : Int)).wf = true) :
    DataW.Trod enc Tryz.prog w base spare held 24 (W n) (.agg [.lit (.int .u64 (hi n : Int)), .lit (.int .u64 (lo n : Int))]) [] :=
  shut_agg2 (y0 := (.lit (.int .u64 (hi n : Int)), [])) (y1 := (.lit (.int .u64 (lo n : Int)), [])) Tryz.underlying24 (by kernel_rfl) cellsWide ⟨1, by simp [DataW.trod, Tryz.underlying22, k0]⟩ ⟨1, by simp [DataW.trod, Tryz.underlying22, k1]⟩
end
end Go.Proofs.YtnaajhhdpcdakaaGreatDoor
namespace Go.Proofs.YtnaajhhdpcdakaaGreatDoor
open Go.ChangeShapes Go.WideShapes Go.ChangeAt Go.RowKit Go.Joins Go.Deep Word

theorem cellsDec : Tryz.prog.cellsOf 26 = 4 := by kernel_rfl
theorem cellsInt1 : Tryz.prog.cellsOf 3 = 1 := by kernel_rfl
theorem cellsBool1 : Tryz.prog.cellsOf 4 = 1 := by kernel_rfl
section
variable {H : Type} {enc : TypeId × Value → H} {w : World} {base : Nat} {spare : Nat → Bool} {held : Bool}
set_option maxRecDepth 100000 in
theorem open_dec {r : Reach} {b0 : Nat} {v : Value} {d : DataW H} {p : List MemPlace} (hv : Value.okWide Tryz.prog w r b0 26 v) (h : DataW.Trod enc Tryz.prog w base spare held 26 v d p) :
    ∃ neg n s, n < top2 ∧ v = D neg n s ∧ d = .agg [.lit (.bool neg), .agg [.lit (.int .u64 (hi n : Int)), .lit (.int .u64 (lo n : Int))], .lit (.int .i64 s)] ∧ p = [] ∧
      (Lit.int .u64 (hi n : Int)).wf = true ∧ (Lit.int .u64 (lo n : Int)).wf = true ∧ (Lit.int .i64 s).wf = true := by
  obtain ⟨cs, rfl, hsz⟩ := okWide_struct Tryz.underlying26 hv
  obtain ⟨c0, c1, c2, c3, rfl⟩ := array4 (hsz.trans cellsDec)
  obtain ⟨fuel, hf⟩ := h
  obtain ⟨y0, y1, y2, m, hx, _, h0, h1, h2⟩ := trod_struct3 Tryz.underlying26 hf
  simp only [Value.cells, cellsBool1, cellsWide, cellsInt1] at h0 h1 h2
  obtain ⟨z0, z1, m2, hx1, _, g0, g1⟩ := trod_struct2 Tryz.underlying24 h1
  simp only [cellsWord] at g0 g1
  obtain ⟨neg, e0, rfl⟩ := DataW.trod_bool Tryz.underlying4 h0
  obtain ⟨x1, e1, rfl, k1⟩ := DataW.trod_int Tryz.underlying22 g0
  obtain ⟨x2, e2, rfl, k2⟩ := DataW.trod_int Tryz.underlying22 g1
  obtain ⟨x3, e3, rfl, k3⟩ := DataW.trod_int Tryz.underlying3 h2
  simp at e0 e1 e2 e3
  subst e0 e1 e2 e3
  subst hx1
  simp only [Prod.mk.injEq] at hx
  obtain ⟨rfl, rfl⟩ := hx
  obtain ⟨n, hn, rfl, rfl⟩ := words_of_wf k1 k2
  exact ⟨neg, n, x3, hn, rfl, rfl, rfl, k1, k2, k3⟩
set_option maxRecDepth 100000 in
theorem shut_dec0 (neg : Bool) (x1 x2 s : Int) (k1 : (Lit.int .u64 x1).wf = true) (k2 : (Lit.int .u64 x2).wf = true) (k3 : (Lit.int .i64 s).wf = true) :
    DataW.Trod enc Tryz.prog w base spare held 26 (.agg #[.bool neg, .int .u64 x1, .int .u64 x2, .int .i64 s]) (.agg [.lit (.bool neg), .agg [.lit (.int .u64 x1), .lit (.int .u64 x2)], .lit (.int .i64 s)]) [] :=
  ⟨3, by
    simp [DataW.trod, Value.cells, Tryz.underlying26, Tryz.underlying24, Tryz.underlying22, Tryz.underlying3, Tryz.underlying4, cellsDec, cellsWide, cellsWord, cellsInt1, cellsBool1, k1, k2, k3]⟩
theorem shut_dec (neg : Bool) (n : Nat) (s : Int) (k1 : (Lit.int .u64 (hi n : Int)).wf = true) (k2 : (Lit.int .u64 (lo n : Int)).wf = true) (k3 : (Lit.int .i64 s).wf = true) :
    DataW.Trod enc Tryz.prog w base spare held 26 (D neg n s) (.agg [.lit (.bool neg), .agg [.lit (.int .u64 (hi n : Int)), .lit (.int .u64 (lo n : Int))], .lit (.int .i64 s)]) [] :=
  shut_dec0 neg (hi n : Int) (lo n : Int) s k1 k2 k3
end
end Go.Proofs.YtnaajhhdpcdakaaGreatDoor
namespace Go.Proofs.YtnaajhhdpcdakaaGreatDoor
open Go.ChangeShapes Go.WideShapes Go.ChangeAt Go.RowKit Go.Joins Word

theorem tPowD : (Tryz.prog.globals[6]?).map (·.type) = some 76 := by kernel_rfl
def decTLaid : List (String × DataW Unit) := [("math/bits.deBruijn32tab", Rows.laid_math_bits_deBruijn32tab), ("math/bits.deBruijn64tab", Rows.laid_math_bits_deBruijn64tab), ("internal/strconv.uint64pow10", Rows.laid_internal_strconv_uint64pow10), ("unicode/utf8.acceptRanges", Rows.laid_unicode_utf8_acceptRanges), ("tariff/wide.tens", Rows.laid_tariff_wide_tens), ("unicode/utf8.first", Rows.laid_unicode_utf8_first)]
theorem pow_dataD : (Rows.laid_internal_strconv_uint64pow10 : DataW Unit) = Lib.tabData .u64 Lib.pow10Tab := rfl
theorem tenPow_of_dlaid {W : World} (h : laidMetH Tryz.prog decTLaid W) : TenPow W := by
  rw [MakeChecks.laidMetH_plain _ _ _ (by kernel_rfl)] at h
  unfold decTLaid at h
  have h3 := laidMet.tail (laidMet.tail h)
  have h4 := laidMet.tail (laidMet.tail h3)
  rw [pow_dataD] at h3
  rw [tens_data] at h4
  have hp := Lib.tabIs_of_head gPowT tPowD Tryz.underlying76 Tryz.underlying22 cellsWord cellsTens h3
  have ht := Lib.tabIs_of_head gTens tTens Tryz.underlying76 Tryz.underlying22 cellsWord cellsTens h4
  have hc : ∀ j, j < 20 → W.cell? ⟨0, j, none⟩ = some (.int .u64 (p10 j : Int)) := fun j hj => by
    have := Lib.TabIs.cell ht gTens j hj
    rw [tens_at ⟨j, hj⟩] at this
    exact this
  exact ⟨⟨World.block_lt_of_cell? W _ (hc 0 (by decide)), hc⟩, hp, World.block_lt_of_cell? W _ (Lib.TabIs.cell hp gPowT 0 (by decide))⟩
theorem bulk_partD {H : Type} {d : DataW H} {l : List (DataW H)} (h : d ∈ l) : Rows.uptoBulk d ≤ Rows.uptoBulkAll l := by
  induction l with
  | nil => cases h
  | cons x r ih =>
    simp only [Rows.uptoBulkAll]
    cases List.mem_cons.1 h with
    | inl e => subst e; omega
    | inr e => have := ih e; omega
theorem upto_stringD {H : Type} {d : DataW H} {l : List (DataW H)} {s : ByteArray} (hd : d = .lit (.string s.data.toList)) (hk : Rows.uptoSmall H l = true) (hm : d ∈ l) : s.size ≤ 1048576 := by
  have h1 := of_decide_eq_true hk
  have h2 := bulk_partD hm
  subst hd
  simp only [Rows.uptoBulk] at h2
  rw [← Lib.size_eq] at h2
  omega
section
variable {H : Type} {enc : TypeId × Value → H}
theorem witness_rowD {C : Checked} {os : Os} {f : FuncId} {fn : Func} {s : OpenSpec} {conds : List PathCond} {apart : Bool} {laid : List (String × DataW Unit)} (modest : Bool) (w0 : World) (args : Array Value) (hos : w0.os = os)
    (hsh : (w0.forCall (fun _ _ => 0) ⟨#[], args, []⟩).Shaped C.prog)
    (hok : Input.okWideB C.prog (w0.forCall (fun _ _ => 0) ⟨#[], args, []⟩) f ⟨#[], args, []⟩ = true)
    (hrow : s.preRow enc C.prog fn conds apart laid (w0.forCall (fun _ _ => 0) ⟨#[], args, []⟩).memory args) :
    ∃ (w : World) (tape : Tape) (i : Input), w.os = os ∧ (w.forCall tape i).Shaped C.prog ∧ i.vars = [] ∧ Input.okWide C.prog (w.forCall tape i) .any w.heap.size f i ∧
      s.preRow enc C.prog fn conds apart laid (w.forCall tape i).memory i.args ∧ ({ modest := modest } : Assume).holds C.prog (lone (Frame.enter C.prog f i.args .normal) [] (w.forCall tape i)) :=
  ⟨w0, fun _ _ => 0, ⟨#[], args, []⟩, hos, hsh, (Input.okWide_of_okWideB (base := 0) hok).1, (Input.okWide_of_okWideB hok).2, hrow, by
    simp only [Assume.holds]
    exact ⟨by simp, by simp, fun _ => Modest.zero, by simp, by simp⟩⟩
end
end Go.Proofs.YtnaajhhdpcdakaaGreatDoor
