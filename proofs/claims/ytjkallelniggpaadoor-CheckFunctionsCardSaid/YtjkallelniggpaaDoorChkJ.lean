/-
  The law's own question on types; CheckFunctions, the law; the listed tables; the row's last step.
-/
import Derived.Test.YtjkallelniggpaaDoorChkI
import Derived.ProofKit
import Derived.LaidMore
import Derived.LaidLaws
import Derived.MakeChecks
import Derived.OpenShut
import Derived.ShutString
import Derived.Stop.Joined
import Derived.Stop.LaidErr
import Derived.Lib.LaidTab
import Derived.Lib.SmallJoins
import Derived.Lib.LaidU8T
import Derived.PinnedBridge
import Derived.Lay
import Derived.LaidOnce
import Derived.SizedLaws
namespace Go.Proofs.YtjkallelniggpaaDoor
open Go.ChangeShapes Go.WideShapes Go.ChangeAt Go.RowKit Go.Joins Word Txt
attribute [local go_sem] setCell_drewN cell?_ext frozen?_ext shape?_ext setCell_ext lt_1' ne_1' en_1' le_1' lt_2' ne_2' en_2' le_2' lt_3' ne_3' en_3' le_3' lt_4' ne_4' en_4' le_4' lt_5' ne_5' en_5' le_5' lt_6' ne_6' en_6' le_6' lt_7' ne_7' en_7' le_7' lt_8' ne_8' en_8' le_8' lt_9' ne_9' en_9' le_9' lt_10' ne_10' en_10' le_10' lt_11' ne_11' en_11' le_11' lt_12' ne_12' en_12' le_12'

theorem heap_alloc_at {w : World} (o : Obj) {n : Nat} (h : n = w.heap.size) : (w.alloc o).heap[n]? = some o := by subst h; exact heap_alloc_new w o
set_option maxRecDepth 100000 in
theorem arr_lst : (#[.int .i64 4, .int .i64 0, .string ⟨#[]⟩, .bool false, .int .u64 0, .int .u64 1, .int .i64 0, .int .i64 0, .int .i64 4, .int .i64 0, .string ⟨#[]⟩, .bool false, .int .u64 0, .int .u64 1, .int .i64 0, .int .i64 0, .int .i64 26, .int .i64 2, .string ⟨#[]⟩, .bool false, .int .u64 0, .int .u64 0, .int .i64 0, .int .i64 0] : Array Value) = (lstN.flatMap ndE).toArray := by rfl
set_option maxRecDepth 100000 in
theorem arr_sum : (#[.int .i64 4, .int .i64 0, .string ⟨#[]⟩, .bool false, .int .u64 0, .int .u64 1, .int .i64 0, .int .i64 0, .int .i64 5, .int .i64 0, .string ⟨#[]⟩, .bool false, .int .u64 0, .int .u64 0, .int .i64 0, .int .i64 0, .int .i64 9, .int .i64 2, .string ⟨#[]⟩, .bool false, .int .u64 0, .int .u64 0, .int .i64 0, .int .i64 0] : Array Value) = (sumN2.flatMap ndE).toArray := by rfl
set_option maxRecDepth 100000 in
set_option maxHeartbeats 4000000 in
theorem chkknown_any (w : World) (hG : TyG w) (hT : Tens w) (hU : Tabs w) : Calls Tryd.prog 6 #[] w fun e w' => e = .returned (.bool true) ∧ Below w.heap.size w w' := by
  have HX1 := Lib.hid (show ∀ w' g c, Below w.heap.size w w' → w'.heap[g]? = some (.cells #[.int .i64 4, .int .i64 0, .string ⟨#[]⟩, .bool false, .int .u64 0, .int .u64 1, .int .i64 0, .int .i64 0, .int .i64 4, .int .i64 0, .string ⟨#[]⟩, .bool false, .int .u64 0, .int .u64 1, .int .i64 0, .int .i64 0, .int .i64 26, .int .i64 2, .string ⟨#[]⟩, .bool false, .int .u64 0, .int .u64 0, .int .i64 0, .int .i64 0] 46) → Calls Tryd.prog 16 #[.slice (some ⟨g, 0, none⟩) 3 c, .slice none 0 0] w' fun e w'' => e = .returned (.tuple #[.agg #[.int .i64 5, .int .i64 2], .int .i64 0]) ∧ Below w'.heap.size w' w'' from fun w' g c hb h =>
    expr_plain lstN (5, 2) 0 w'.heap.size w' _ (rl_lit (c := c) lstN h arr_lst) (Nat.le_refl _) (by decide) (fun x hx => by
      simp only [List.mem_cons, List.mem_nil_iff, or_false] at hx
      rcases hx with rfl | rfl | rfl <;> exact wf_ndC _ _ _ (by decide) (by decide)) (hT.below hb) (hU.below hb) chk_lst (fun m w2 hb2 => run_lst m w2 ((hG.below hb).below hb2)))
  have HX2 := Lib.hid (show ∀ w' g c, Below w.heap.size w w' → w'.heap[g]? = some (.cells #[.int .i64 4, .int .i64 0, .string ⟨#[]⟩, .bool false, .int .u64 0, .int .u64 1, .int .i64 0, .int .i64 0, .int .i64 5, .int .i64 0, .string ⟨#[]⟩, .bool false, .int .u64 0, .int .u64 0, .int .i64 0, .int .i64 0, .int .i64 9, .int .i64 2, .string ⟨#[]⟩, .bool false, .int .u64 0, .int .u64 0, .int .i64 0, .int .i64 0] 46) → Calls Tryd.prog 16 #[.slice (some ⟨g, 0, none⟩) 3 c, .slice none 0 0] w' fun e w'' => e = .returned (.tuple #[.agg #[.int .i64 0, .int .i64 0], .int .i64 9]) ∧ Below w'.heap.size w' w'' from fun w' g c hb h =>
    expr_plain sumN2 (0, 0) 9 w'.heap.size w' _ (rl_lit (c := c) sumN2 h arr_sum) (Nat.le_refl _) (by decide) (fun x hx => by
      simp only [List.mem_cons, List.mem_nil_iff, or_false] at hx
      rcases hx with rfl | rfl | rfl <;> exact wf_ndC _ _ _ (by decide) (by decide)) (hT.below hb) (hU.below hb) chk_sum (fun m w2 hb2 => run_sum m w2 ((hG.below hb).below hb2)))
  have hmg : Tryd.prog.eqGuardType Tryd.prog.depth 25 = false := by kernel_rfl
  have e1 : ∀ w, (Op.equalIn 10000 25 (.agg #[.int .i64 5, .int .i64 2]) (.agg #[.int .i64 5, .int .i64 2])).run Tryd.prog w = .ok true w := fun w => ty_eq (5, 2) (5, 2) w
  clear hG hT hU
  go_enter Tryd.func6, Tryd.ntmps6
  go_wp2_with (first
    | (go_at_call 16; (with_reducible refine (HX1.out _ _ _ (by (repeat' (first | (with_reducible exact Below.refl _ _) | (with_reducible assumption) | (with_reducible refine Below.alloc ?_ ?_ _) | (with_reducible refine below_drewN ?_ _) | (with_reducible refine below_drew ?_) | (with_reducible refine below_ext ?_ ?_ _ _) | (with_reducible refine Below.setCell ?_ ?_ _) | (simp; done) | (simp; omega) | omega))) (heap_alloc_at _ (by simp))).mono ?_); rintro e w1 ⟨rfl, hb1⟩; obtain ⟨osA, dA, rfl⟩ := ext_of_below hb1; clear hb1)
    | (go_at_call 16; (with_reducible refine (HX2.out _ _ _ (by (repeat' (first | (with_reducible exact Below.refl _ _) | (with_reducible assumption) | (with_reducible refine Below.alloc ?_ ?_ _) | (with_reducible refine below_drewN ?_ _) | (with_reducible refine below_drew ?_) | (with_reducible refine below_ext ?_ ?_ _ _) | (with_reducible refine Below.setCell ?_ ?_ _) | (simp; done) | (simp; omega) | omega))) (heap_alloc_at _ (by simp))).mono ?_); rintro e w1 ⟨rfl, hb1⟩; obtain ⟨osB, dB, rfl⟩ := ext_of_below hb1; clear hb1))
  go_ret
  exact ⟨rfl, by (repeat' (first | (with_reducible exact Below.refl _ _) | (with_reducible assumption) | (with_reducible refine Below.alloc ?_ ?_ _) | (with_reducible refine below_drewN ?_ _) | (with_reducible refine below_drew ?_) | (with_reducible refine below_ext ?_ ?_ _ _) | (with_reducible refine Below.setCell ?_ ?_ _) | (simp; done) | (simp; omega) | omega))⟩
theorem fuL_len (s : ByteArray) : (fuL (fnOf s)).length ≤ 1000 := by
  rcases fn_split s with ⟨h, -⟩ | ⟨r, hr, -, h⟩
  · rw [h]; exact Nat.zero_le _
  · rw [h]
    have h2 : ∀ r ∈ fnTab, r.2.1.length ≤ 1000 := by decide
    exact h2 r hr
set_option maxRecDepth 100000 in
set_option maxHeartbeats 4000000 in
theorem checkFunctions_law (s : ByteArray) (w : World) (h : TyG w ∧ Tens w ∧ Tabs w) : Calls Tryd.prog 3 #[.string s] w fun e w' => e = .returned (.bool true) ∧ Below w.heap.size w w' := by
  obtain ⟨hG, hT, hU⟩ := h
  have HK := Lib.hid (chkknown_any w hG hT hU)
  have HD := Lib.hid (fun w' => dfunction_any s w')
  have HC := Lib.hid (fun w' (hb : Below w.heap.size w w') => cfunction_any s w' (hG.below hb))
  have hll := fuL_len s
  generalize fuL (fnOf s) = ts at HD HC hll
  generalize fuT (fnOf s) = t at HD HC
  generalize fuE (fnOf s) = er at HD HC
  have HS := Lib.hid (fun a b w' ha hb => sameTypes_eq ts w'.heap.size w' a b ha hb (Nat.le_refl _) hll)
  obtain ⟨t1, t2⟩ := t
  have hmg : Tryd.prog.eqGuardType Tryd.prog.depth 25 = false := by kernel_rfl
  have e1 : ∀ w, (Op.equalIn 10000 25 (.agg #[.int .i64 t1, .int .i64 t2]) (.agg #[.int .i64 t1, .int .i64 t2])).run Tryd.prog w = .ok true w := fun w => by
    have := ty_eq (t1, t2) (t1, t2) w
    rwa [decide_eq_true rfl] at this
  clear hG hT hU hll
  go_enter Tryd.func3, Tryd.ntmps3
  go_wp2_with (first
    | (go_at_call 6; ((with_reducible refine (HK.out).mono ?_); rintro e w1 ⟨rfl, hb1⟩; obtain ⟨osK, dK, rfl⟩ := ext_of_below hb1; clear hb1))
    | (go_at_call 7; (with_reducible refine (HD.out _).mono ?_); rintro e w1 ⟨pa, rfl, hra, hb1⟩; obtain ⟨osA, dA, rfl⟩ := ext_of_below hb1; have HRA := Lib.hid hra; clear hb1 hra)
    | (go_at_call 8; (with_reducible refine (HC.out _ (by (repeat' (first | (with_reducible exact Below.refl _ _) | (with_reducible assumption) | (with_reducible refine Below.alloc ?_ ?_ _) | (with_reducible refine below_drewN ?_ _) | (with_reducible refine below_drew ?_) | (with_reducible refine below_ext ?_ ?_ _ _) | (with_reducible refine Below.setCell ?_ ?_ _) | (simp; done) | (simp; omega) | omega)))).mono ?_); rintro e w1 ⟨pc, rfl, hrc, hb1⟩; obtain ⟨osB, dB, rfl⟩ := ext_of_below hb1; have HRC := Lib.hid hrc; clear hb1 hrc)
    | (go_at_call 9; (with_reducible refine (HS.out _ _ _ (HRA.out.up (by (repeat' (first | (with_reducible exact Below.refl _ _) | (with_reducible assumption) | (with_reducible refine Below.alloc ?_ ?_ _) | (with_reducible refine below_drewN ?_ _) | (with_reducible refine below_drew ?_) | (with_reducible refine below_ext ?_ ?_ _ _) | (with_reducible refine Below.setCell ?_ ?_ _) | (simp; done) | (simp; omega) | omega)))) (HRC.out.up (by (repeat' (first | (with_reducible exact Below.refl _ _) | (with_reducible assumption) | (with_reducible refine Below.alloc ?_ ?_ _) | (with_reducible refine below_drewN ?_ _) | (with_reducible refine below_drew ?_) | (with_reducible refine below_ext ?_ ?_ _ _) | (with_reducible refine Below.setCell ?_ ?_ _) | (simp; done) | (simp; omega) | omega))))).mono ?_); rintro e w1 ⟨rfl, hb1⟩; obtain ⟨osC, dC, rfl⟩ := ext_of_below hb1; clear hb1))
  all_goals
    go_ret
    exact ⟨rfl, by (repeat' (first | (with_reducible exact Below.refl _ _) | (with_reducible assumption) | (with_reducible refine Below.alloc ?_ ?_ _) | (with_reducible refine below_drewN ?_ _) | (with_reducible refine below_drew ?_) | (with_reducible refine below_ext ?_ ?_ _ _) | (with_reducible refine Below.setCell ?_ ?_ _) | (simp; done) | (simp; omega) | omega))⟩
theorem ownC : ownKnob Tryd.prog.godebug = none := by kernel_rfl
def checkLaid : List (String × DataW Unit) := [("unicode/utf8.acceptRanges", Rows.laid_unicode_utf8_acceptRanges), ("tariff/wide.tens", Rows.laid_tariff_wide_tens), ("tariff/check.anything", Rows.laid_tariff_check_anything), ("tariff/check.boolean", Rows.laid_tariff_check_boolean), ("tariff/check.number", Rows.laid_tariff_check_number), ("tariff/check.text", Rows.laid_tariff_check_text), ("tariff/check.day", Rows.laid_tariff_check_day), ("tariff/check.list", Rows.laid_tariff_check_list), ("tariff/check.numbers", Rows.laid_tariff_check_numbers), ("unicode/utf8.first", Rows.laid_unicode_utf8_first)]
theorem hgTensC : Tryd.prog.globalNamed "tariff/wide.tens" = some 9 := by kernel_rfl
theorem htTensC : (Tryd.prog.globals[9]?).map (·.type) = some 166 := by kernel_rfl
theorem hcWordC : Tryd.prog.cellsOf 40 = 1 := by kernel_rfl
theorem hcTensC : Tryd.prog.cellsOf 166 = 20 := by kernel_rfl
def htensC_List : List Int := [1, 10, 100, 1000, 10000, 100000, 1000000, 10000000, 100000000, 1000000000, 10000000000, 100000000000, 1000000000000, 10000000000000, 100000000000000, 1000000000000000, 10000000000000000, 100000000000000000, 1000000000000000000, 10000000000000000000]
theorem htensC__data : (Rows.laid_tariff_wide_tens : DataW Unit) = Lib.tabData .u64 htensC_List := rfl
theorem htensC__at : ∀ j : Fin 20, htensC_List.getD j.val 0 = ((10 ^ j.val : Nat) : Int) := by decide
theorem haccept_dataC : (Rows.laid_unicode_utf8_acceptRanges : DataW Unit) = Lib.acceptData := by kernel_rfl
theorem hfirst_dataC : Rows.laid_unicode_utf8_first = Lib.firstData := Pinned.utf8First_eq
theorem hxU8C : U8Extra Tryd.prog Tryd.lays196_ren := ⟨by kernel_rfl, by kernel_rfl, by kernel_rfl, by kernel_rfl, by kernel_rfl, by kernel_rfl, by kernel_rfl⟩
theorem ty_var {W : World} {nm : String} {g : Nat} (a b : Int) (hg : Tryd.prog.globalNamed nm = some g) (ht : (Tryd.prog.globals[g]?).map (·.type) = some 25) (h : Lib.VarReads Tryd.prog W nm (.agg [.lit (.int .i64 a), .lit (.int .i64 b)])) : g < W.heap.size ∧ W.cell? ⟨g, 0, none⟩ = some (.int .i64 a) ∧ W.cell? ⟨g, 1, none⟩ = some (.int .i64 b) := by
  obtain ⟨g', t', cs, fuel, p, hg', ht', hvar, hd⟩ := h
  obtain rfl := Option.some.inj (hg.symm.trans hg')
  obtain rfl := Option.some.inj (ht.symm.trans ht')
  have hcs := Lib.ints_of_struct (zs := [a, b]) (k := .i64) Tryd.underlying25 (fun i f hf => by
    match i, hf with
    | 0, hf => cases hf; exact ⟨Tryd.underlying3, rfl, by kernel_rfl⟩
    | 1, hf => cases hf; exact ⟨Tryd.underlying3, rfl, by kernel_rfl⟩) (by kernel_rfl) hd
  have hc : ∀ j, W.cell? ⟨g, j, none⟩ = ([Value.int .i64 a, Value.int .i64 b] : List Value)[j]? := fun j => by
    have h9 := World.var?_cell hg hvar j
    rw [h9, ← Array.getElem?_toList, hcs]; rfl
  exact ⟨World.block_lt_of_cell? W _ (hc 0), hc 0, hc 1⟩
/-- all that the walks ask of the start -/
theorem cfacts_of_laid {W : World} (h : laidMetH Tryd.prog checkLaid W) : TyG W ∧ Tens W ∧ Tabs W := by
  rw [MakeChecks.laidMetH_plain _ _ _ (by kernel_rfl)] at h
  obtain ⟨s0, x0, y0⟩ := ty_var 0 0 (g := 6) (by kernel_rfl) (by kernel_rfl) (Lib.laidMet.reads h (n := "tariff/check.anything") (d := Rows.laid_tariff_check_anything) (.tail _ (.tail _ (.head _))))
  obtain ⟨s1, x1, y1⟩ := ty_var 1 0 (g := 4) (by kernel_rfl) (by kernel_rfl) (Lib.laidMet.reads h (n := "tariff/check.boolean") (d := Rows.laid_tariff_check_boolean) (.tail _ (.tail _ (.tail _ (.head _)))))
  obtain ⟨s2, x2, y2⟩ := ty_var 2 0 (g := 0) (by kernel_rfl) (by kernel_rfl) (Lib.laidMet.reads h (n := "tariff/check.number") (d := Rows.laid_tariff_check_number) (.tail _ (.tail _ (.tail _ (.tail _ (.head _))))))
  obtain ⟨s3, x3, y3⟩ := ty_var 3 0 (g := 3) (by kernel_rfl) (by kernel_rfl) (Lib.laidMet.reads h (n := "tariff/check.text") (d := Rows.laid_tariff_check_text) (.tail _ (.tail _ (.tail _ (.tail _ (.tail _ (.head _)))))))
  obtain ⟨s4, x4, y4⟩ := ty_var 4 0 (g := 5) (by kernel_rfl) (by kernel_rfl) (Lib.laidMet.reads h (n := "tariff/check.day") (d := Rows.laid_tariff_check_day) (.tail _ (.tail _ (.tail _ (.tail _ (.tail _ (.tail _ (.head _))))))))
  obtain ⟨s5, x5, y5⟩ := ty_var 5 0 (g := 2) (by kernel_rfl) (by kernel_rfl) (Lib.laidMet.reads h (n := "tariff/check.list") (d := Rows.laid_tariff_check_list) (.tail _ (.tail _ (.tail _ (.tail _ (.tail _ (.tail _ (.tail _ (.head _)))))))))
  obtain ⟨s6, x6, y6⟩ := ty_var 5 2 (g := 1) (by kernel_rfl) (by kernel_rfl) (Lib.laidMet.reads h (n := "tariff/check.numbers") (d := Rows.laid_tariff_check_numbers) (.tail _ (.tail _ (.tail _ (.tail _ (.tail _ (.tail _ (.tail _ (.tail _ (.head _))))))))))
  have h2 := Lib.laidMet.reads h (n := "tariff/wide.tens") (d := Rows.laid_tariff_wide_tens) (.tail _ (.head _))
  have h3 := Lib.laidMet.reads h (n := "unicode/utf8.first") (d := Rows.laid_unicode_utf8_first) (.tail _ (.tail _ (.tail _ (.tail _ (.tail _ (.tail _ (.tail _ (.tail _ (.tail _ (.head _))))))))))
  have h4 := Lib.laidMet.reads h (n := "unicode/utf8.acceptRanges") (d := Rows.laid_unicode_utf8_acceptRanges) (.head _)
  refine ⟨⟨⟨s2, s6, s5, s3, s1, s4, s0⟩, x2, y2, x6, y6, x5, y5, x3, y3, x1, y1, x4, y4, x0, y0⟩, ?_, ?_⟩
  · rw [htensC__data] at h2
    obtain ⟨g', t', cs, fuel, p, hg', ht', hvar, hd⟩ := h2
    obtain rfl := Option.some.inj (hgTensC.symm.trans hg')
    obtain rfl := Option.some.inj (htTensC.symm.trans ht')
    have hti : Lib.TabIs Tryd.prog W "tariff/wide.tens" .u64 htensC_List := by
      unfold Lib.TabIs
      rw [hvar, ← Lib.cells_of_tab Tryd.underlying166 Tryd.underlying40 hcWordC hcTensC hd]
    have hc : ∀ j, j < 20 → W.cell? ⟨9, j, none⟩ = some (.int .u64 (p10 j : Int)) := fun j hj => by
      have := Lib.TabIs.cell hti hgTensC j hj
      rw [htensC__at ⟨j, hj⟩] at this
      exact this
    exact ⟨World.block_lt_of_cell? W _ (hc 0 (by decide)), hc⟩
  · rw [hfirst_dataC] at h3
    rw [haccept_dataC] at h4
    have hT : Lib.Utf8Tabs 7 8 W := utf8Tabs_of_readsT (U8Types.of196 Tryd.lays196) hxU8C h3 h4
    exact ⟨hT, World.block_lt_of_cell? W _ (hT.1 0 (by decide)), World.block_lt_of_cell? W _ (hT.2 0 (by decide)).1⟩
section
variable {H : Type} {enc : TypeId × Value → H} {P : Program}
/-- the row's last step where nothing below the first new block has turned -/
theorem post_belowC {f : Func} {s : ChangeSpec} {apart fresh handsOn again : Bool} {A B : World} {args : Array Value} {v : Value} {ds gs : List (DataW H)} {ps pa pv : List MemPlace}
    (hA : DataW.Whole enc P f.params.toList s.vars apart A args.toList ds gs ps)
    (hr : ∀ (b : Nat) (sp : Nat → Bool) (hd : Bool), DataW.TrodAll enc P B b sp hd f.resultTypes.toList (v.resultList f.resultTypes.size) (s.fn H (ds ++ gs)).results [])
    (ha : ∀ sp : Nat → Bool, (∀ p ∈ ps, sp p.block = true) → DataW.TrodAll enc P B 0 sp true f.params.toList args.toList (s.fn H (ds ++ gs)).args pa)
    (hv : ∀ sp : Nat → Bool, (∀ p ∈ ps, sp p.block = true) → DataW.TrodVars enc P B sp s.vars (s.fn H (ds ++ gs)).vars pv)
    (hp : ps = pa ++ pv) (hb : Below A.heap.size A B)
    (ho : ∀ (j : Nat) (t : TypeId) (r : Value), f.resultTypes[j]? = some t → (v.resultList f.resultTypes.size)[j]? = some r → Value.okWide P B .any 0 t r) :
    s.post enc P f apart fresh handsOn again A args v B := by
  have h1 : ∀ p ∈ ps, p.block < A.heap.size := fun p h => hA.lt p h
  have h2 : ∀ p ∈ ps, (fun b => decide (b < A.heap.size)) p.block = true := fun p h => by simpa using h1 p h
  refine ⟨ds, gs, ps, [], pa, pv, hA, hr _ _ _, ha _ h2, hv _ h2, World.keptBut_mono (fun p h => ⟨h, ?_⟩) (hb.frame (· ∈ ps)), fun _ => ?_⟩
  · rw [hp, List.mem_append] at h
    exact .inr h
  · obtain ⟨_, _, _, _, _, hz, hn⟩ := hA
    refine ⟨ho, _, _, ([] ++ pa) ++ pv, ⟨[] ++ pa, pv, trodAll_append (ha _ (fun _ _ => rfl)) (hr _ _ _), hv _ (fun _ _ => rfl), rfl, ?_, ?_⟩, ?_⟩
    · intro b off h
      have hin : MemPlace.cell b off ∈ ps := by rw [hp]; simpa using h
      rw [hb.frozen (h1 _ hin)]
      exact hz b off hin
    · intro h
      have := hn h
      rw [hp] at this
      simpa using this
    · intro p h _
      rw [hp]
      simpa using h
end
end Go.Proofs.YtjkallelniggpaaDoor
