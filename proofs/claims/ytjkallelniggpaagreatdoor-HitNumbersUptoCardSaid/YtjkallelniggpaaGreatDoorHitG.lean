/-
  The sum, the least or the greatest of the only values of rows.
-/
import Derived.Test.YtjkallelniggpaaGreatDoorHitF
import Derived.Test.YtjkallelniggpaaGreatDoorValN
namespace Go.Proofs.YtjkallelniggpaaGreatDoor
open Go.RowKit Word Txt
attribute [local go_sem] setCell_drewN cell?_ext frozen?_ext shape?_ext setCell_ext lt_1' ne_1' en_1' le_1' lt_2' ne_2' en_2' le_2' lt_3' ne_3' en_3' le_3' lt_4' ne_4' en_4' le_4' lt_5' ne_5' en_5' le_5' lt_6' ne_6' en_6' le_6' lt_7' ne_7' en_7' le_7' lt_8' ne_8' en_8' le_8' lt_9' ne_9' en_9' le_9' lt_10' ne_10' en_10' le_10' lt_11' ne_11' en_11' le_11' lt_12' ne_12' en_12' le_12'

/-- a value's number -/
def numV : V → NN
  | .mk _ _ neg c s _ _ _ _ => (neg, c, s)
def foldN (p : Int) : NN → List NN → NN × Int
  | a, [] => (a, 0)
  | a, b :: r => if (mrgN p a b).2 = 0 then foldN p (mrgN p a b).1 r else ((false, 0, 0), (mrgN p a b).2)
/-- a number in form, as a value -/
def numW (a : NN) : V := .mk 2 false a.1 a.2.1 a.2.2 ⟨#[]⟩ 0 [] []
theorem code_zero {v : V} (h : v.code = 0) : v.form = true ∧ v.count ≤ 1000 ∧ v.depth ≤ 16 := by
  unfold V.code at h
  split at h
  · cases h
  · split at h
    · cases h
    · split at h
      · rename_i h1 h2 h3
        exact ⟨h3, by omega, by omega⟩
      · cases h
theorem num_of {v : V} (h : v.code = 0) (hk : v.kind = 2) : v = numW (numV v) ∧ formN (numV v) = true := by
  obtain ⟨hf, -, -⟩ := code_zero h
  cases v with
  | mk k yes neg c s t day l ns =>
    have hk2 : k = 2 := hk
    subst hk2
    unfold V.form at hf
    rw [Bool.and_eq_true, Bool.and_eq_true] at hf
    obtain ⟨h1, h2, -⟩ := hf
    unfold soundB at h2
    rw [if_pos rfl] at h2
    unfold bareB at h1
    simp at h1
    obtain ⟨h3, h4, h5, h6, h7⟩ := h1
    refine ⟨?_, h2⟩
    unfold numW numV
    subst h3 h5
    have ht : t = ⟨#[]⟩ := h4
    rw [ht]
    subst h6 h7
    rfl
theorem numW_code {a : NN} (h : formN a = true) : (numW a).code = 0 := by
  apply code_form
  · unfold numW V.count countL; omega
  · unfold numW V.depth depthL; omega
  · unfold numW V.form
    rw [Bool.and_eq_true, Bool.and_eq_true]
    refine ⟨by unfold bareB; simp; rfl, ?_, by unfold formL; rfl⟩
    unfold soundB
    rw [if_pos rfl]
    exact h
abbrev ZV : Value := .agg #[.int .i64 0, .bool false, .bool false, .int .u64 0, .int .u64 0, .int .i64 0, .string ⟨#[]⟩, .int .i64 0, .slice none 0 0, .slice none 0 0]
/-- a number's cells -/
abbrev NC (a : NN) (pl : Option Addr) (cl : Nat) (pn : Option Addr) (cn : Nat) : Value := VC 2 false a.1 a.2.1 a.2.2 ⟨#[]⟩ 0 (.slice pl 0 cl) (.slice pn 0 cn)
theorem k2_any (n : Nat) (w : World) (v : V) (lv : Value) (hx : VSl n w [v] lv) :
    Calls Tryz.prog 56 #[lv] w fun e w' => e = .returned (.bool (v.kind == 2)) ∧ Below w.heap.size w w' := by
  rcases hx with ⟨h, _⟩ | ⟨g, o, cap, rfl, hgn, hg, hr⟩
  · cases h
  · obtain ⟨k1, yes1, neg1, a1, b1, s1, t1, day1, pl1, nl1, cl1, pn1, nn1, cn1, u0, -, -, -, -, -, -, -, -, -, hat1⟩ := hr.elem 0 (by simp)
    have hk := at_kind hat1
    rw [show o + 0 * 10 = o by omega] at u0
    simp only [List.length_cons, List.length_nil, List.getElem_cons_zero] at hk ⊢
    rw [hk]
    clear hat1 hr hk
    go_enter Tryz.func56, Tryz.ntmps56
    go_wp2
    go_ret
    exact ⟨rfl, Below.refl _ _⟩
/-- ten cells that a call holds in a block of its own -/
structure C10 (w : World) (b : Nat) (x0 x1 x2 x3 x4 x5 x6 x7 x8 x9 : Value) : Prop where
  lt : b < w.heap.size
  c0 : w.cell? ⟨b, 0, none⟩ = some x0
  c1 : w.cell? ⟨b, 1, none⟩ = some x1
  c2 : w.cell? ⟨b, 2, none⟩ = some x2
  c3 : w.cell? ⟨b, 3, none⟩ = some x3
  c4 : w.cell? ⟨b, 4, none⟩ = some x4
  c5 : w.cell? ⟨b, 5, none⟩ = some x5
  c6 : w.cell? ⟨b, 6, none⟩ = some x6
  c7 : w.cell? ⟨b, 7, none⟩ = some x7
  c8 : w.cell? ⟨b, 8, none⟩ = some x8
  c9 : w.cell? ⟨b, 9, none⟩ = some x9
  free : ∀ j, w.frozen? ⟨b, j, none⟩ = false
section
variable {w w' : World} {b : Nat} {x0 x1 x2 x3 x4 x5 x6 x7 x8 x9 : Value}
theorem C10.later (h : C10 w b x0 x1 x2 x3 x4 x5 x6 x7 x8 x9) (hb : Below w.heap.size w w') : C10 w' b x0 x1 x2 x3 x4 x5 x6 x7 x8 x9 := by
  have hc := fun j => hb.cell (p := ⟨b, j, none⟩) h.lt
  exact ⟨Nat.lt_of_lt_of_le h.lt hb.size, (hc 0).trans h.c0, (hc 1).trans h.c1, (hc 2).trans h.c2, (hc 3).trans h.c3, (hc 4).trans h.c4, (hc 5).trans h.c5, (hc 6).trans h.c6, (hc 7).trans h.c7, (hc 8).trans h.c8, (hc 9).trans h.c9, fun j => (hb.frozen (p := ⟨b, j, none⟩) h.lt).trans (h.free j)⟩
theorem C10.other (h : C10 w b x0 x1 x2 x3 x4 x5 x6 x7 x8 x9) (g o : Nat) (v : Value) (hg : g ≠ b) : C10 (w.setCell ⟨g, o, none⟩ v) b x0 x1 x2 x3 x4 x5 x6 x7 x8 x9 := by
  have hc := fun j => World.cell?_setCell_other w ⟨g, o, none⟩ ⟨b, j, none⟩ v (by intro e; injection e with e; exact hg e)
  exact ⟨by rw [World.size_setCell]; exact h.lt, (hc 0).trans h.c0, (hc 1).trans h.c1, (hc 2).trans h.c2, (hc 3).trans h.c3, (hc 4).trans h.c4, (hc 5).trans h.c5, (hc 6).trans h.c6, (hc 7).trans h.c7, (hc 8).trans h.c8, (hc 9).trans h.c9, fun j => by rw [World.frozen?_setCell]; exact h.free j⟩
theorem C10.made (w : World) (t : TypeId) (x0 x1 x2 x3 x4 x5 x6 x7 x8 x9 : Value) : C10 (w.alloc (.cells #[x0, x1, x2, x3, x4, x5, x6, x7, x8, x9] t)) w.heap.size x0 x1 x2 x3 x4 x5 x6 x7 x8 x9 := by
  refine ⟨by simp, ?_, ?_, ?_, ?_, ?_, ?_, ?_, ?_, ?_, ?_, ?_⟩ <;> simp [go_sem]
theorem C10.set25 (h : C10 w b x0 x1 x2 x3 x4 x5 x6 x7 x8 x9) (y2 y3 y4 y5 : Value) : C10 ((((w.setCell ⟨b, 2, none⟩ y2).setCell ⟨b, 3, none⟩ y3).setCell ⟨b, 4, none⟩ y4).setCell ⟨b, 5, none⟩ y5) b x0 x1 y2 y3 y4 y5 x6 x7 x8 x9 := by
  obtain ⟨hl, h0, h1, h2, h3, h4, h5, h6, h7, h8, h9, hf⟩ := h
  refine ⟨by simp only [World.size_setCell]; exact hl, ?_, ?_, ?_, ?_, ?_, ?_, ?_, ?_, ?_, ?_, fun j => by simp only [World.frozen?_setCell]; exact hf j⟩ <;> simp [go_sem, h0, h1, h2, h3, h4, h5, h6, h7, h8, h9]
theorem C10.st (h : C10 w b x0 x1 x2 x3 x4 x5 x6 x7 x8 x9) (y0 y1 y2 y3 y4 y5 y6 y7 y8 y9 : Value) :
    (w.setCell ⟨b, 0, none⟩ y0).cell? ⟨b, 0, none⟩ = some y0 ∧
    ((w.setCell ⟨b, 0, none⟩ y0).setCell ⟨b, 1, none⟩ y1).cell? ⟨b, 1, none⟩ = some y1 ∧
    (((w.setCell ⟨b, 0, none⟩ y0).setCell ⟨b, 1, none⟩ y1).setCell ⟨b, 2, none⟩ y2).cell? ⟨b, 2, none⟩ = some y2 ∧
    ((((w.setCell ⟨b, 0, none⟩ y0).setCell ⟨b, 1, none⟩ y1).setCell ⟨b, 2, none⟩ y2).setCell ⟨b, 3, none⟩ y3).cell? ⟨b, 3, none⟩ = some y3 ∧
    (((((w.setCell ⟨b, 0, none⟩ y0).setCell ⟨b, 1, none⟩ y1).setCell ⟨b, 2, none⟩ y2).setCell ⟨b, 3, none⟩ y3).setCell ⟨b, 4, none⟩ y4).cell? ⟨b, 4, none⟩ = some y4 ∧
    ((((((w.setCell ⟨b, 0, none⟩ y0).setCell ⟨b, 1, none⟩ y1).setCell ⟨b, 2, none⟩ y2).setCell ⟨b, 3, none⟩ y3).setCell ⟨b, 4, none⟩ y4).setCell ⟨b, 5, none⟩ y5).cell? ⟨b, 5, none⟩ = some y5 ∧
    (((((((w.setCell ⟨b, 0, none⟩ y0).setCell ⟨b, 1, none⟩ y1).setCell ⟨b, 2, none⟩ y2).setCell ⟨b, 3, none⟩ y3).setCell ⟨b, 4, none⟩ y4).setCell ⟨b, 5, none⟩ y5).setCell ⟨b, 6, none⟩ y6).cell? ⟨b, 6, none⟩ = some y6 ∧
    ((((((((w.setCell ⟨b, 0, none⟩ y0).setCell ⟨b, 1, none⟩ y1).setCell ⟨b, 2, none⟩ y2).setCell ⟨b, 3, none⟩ y3).setCell ⟨b, 4, none⟩ y4).setCell ⟨b, 5, none⟩ y5).setCell ⟨b, 6, none⟩ y6).setCell ⟨b, 7, none⟩ y7).cell? ⟨b, 7, none⟩ = some y7 ∧
    (((((((((w.setCell ⟨b, 0, none⟩ y0).setCell ⟨b, 1, none⟩ y1).setCell ⟨b, 2, none⟩ y2).setCell ⟨b, 3, none⟩ y3).setCell ⟨b, 4, none⟩ y4).setCell ⟨b, 5, none⟩ y5).setCell ⟨b, 6, none⟩ y6).setCell ⟨b, 7, none⟩ y7).setCell ⟨b, 8, none⟩ y8).cell? ⟨b, 8, none⟩ = some y8 ∧
    ((((((((((w.setCell ⟨b, 0, none⟩ y0).setCell ⟨b, 1, none⟩ y1).setCell ⟨b, 2, none⟩ y2).setCell ⟨b, 3, none⟩ y3).setCell ⟨b, 4, none⟩ y4).setCell ⟨b, 5, none⟩ y5).setCell ⟨b, 6, none⟩ y6).setCell ⟨b, 7, none⟩ y7).setCell ⟨b, 8, none⟩ y8).setCell ⟨b, 9, none⟩ y9).cell? ⟨b, 9, none⟩ = some y9 := by
  obtain ⟨hl, h0, h1, h2, h3, h4, h5, h6, h7, h8, h9, hf⟩ := h
  refine ⟨?_, ?_, ?_, ?_, ?_, ?_, ?_, ?_, ?_, ?_⟩ <;> simp [go_sem, h0, h1, h2, h3, h4, h5, h6, h7, h8, h9]
end
theorem below_st10 {n b : Nat} {a w : World} (h : Below n a w) (hb : n ≤ b) (y0 y1 y2 y3 y4 y5 y6 y7 y8 y9 : Value) : Below n a ((((((((((w.setCell ⟨b, 0, none⟩ y0).setCell ⟨b, 1, none⟩ y1).setCell ⟨b, 2, none⟩ y2).setCell ⟨b, 3, none⟩ y3).setCell ⟨b, 4, none⟩ y4).setCell ⟨b, 5, none⟩ y5).setCell ⟨b, 6, none⟩ y6).setCell ⟨b, 7, none⟩ y7).setCell ⟨b, 8, none⟩ y8).setCell ⟨b, 9, none⟩ y9) :=
  (((((((((h.setCell (p := ⟨b, 0, none⟩) hb y0).setCell (p := ⟨b, 1, none⟩) hb y1).setCell (p := ⟨b, 2, none⟩) hb y2).setCell (p := ⟨b, 3, none⟩) hb y3).setCell (p := ⟨b, 4, none⟩) hb y4).setCell (p := ⟨b, 5, none⟩) hb y5).setCell (p := ⟨b, 6, none⟩) hb y6).setCell (p := ⟨b, 7, none⟩) hb y7).setCell (p := ⟨b, 8, none⟩) hb y8).setCell (p := ⟨b, 9, none⟩) hb y9
/-- a number that a call holds in a block of its own -/
abbrev RB (w : World) (b : Nat) (a : NN) (pl : Option Addr) (cl : Nat) (pn : Option Addr) (cn : Nat) : Prop :=
  C10 w b (.int .i64 2) (.bool false) (.bool a.1) (.int .u64 (Word.hi a.2.1 : Int)) (.int .u64 (Word.lo a.2.1 : Int)) (.int .i64 a.2.2) (.string ⟨#[]⟩) (.int .i64 0) (.slice pl 0 cl) (.slice pn 0 cn)
abbrev RZ (w : World) (b : Nat) : Prop := C10 w b (.int .i64 0) (.bool false) (.bool false) (.int .u64 0) (.int .u64 0) (.int .i64 0) (.string ⟨#[]⟩) (.int .i64 0) (.slice none 0 0) (.slice none 0 0)
/-- a number that is read -/
structure NA (w : World) (g o : Nat) (a : NN) (pl : Option Addr) (cl : Nat) (pn : Option Addr) (cn : Nat) : Prop where
  c0 : w.cell? ⟨g, o, none⟩ = some (.int .i64 2)
  c1 : w.cell? ⟨g, o + 1, none⟩ = some (.bool false)
  c2 : w.cell? ⟨g, o + 2, none⟩ = some (.bool a.1)
  c3 : w.cell? ⟨g, o + 3, none⟩ = some (.int .u64 (Word.hi a.2.1 : Int))
  c4 : w.cell? ⟨g, o + 4, none⟩ = some (.int .u64 (Word.lo a.2.1 : Int))
  c5 : w.cell? ⟨g, o + 5, none⟩ = some (.int .i64 a.2.2)
  c6 : w.cell? ⟨g, o + 6, none⟩ = some (.string ⟨#[]⟩)
  c7 : w.cell? ⟨g, o + 7, none⟩ = some (.int .i64 0)
  c8 : w.cell? ⟨g, o + 8, none⟩ = some (.slice pl 0 cl)
  c9 : w.cell? ⟨g, o + 9, none⟩ = some (.slice pn 0 cn)
theorem NA.later {w w' : World} {n g o : Nat} {a : NN} {pl : Option Addr} {cl : Nat} {pn : Option Addr} {cn : Nat} (h : NA w g o a pl cl pn cn) (hb : Below n w w') (hg : g < n) : NA w' g o a pl cl pn cn := by
  have hc := fun j => hb.cell (p := ⟨g, j, none⟩) hg
  exact ⟨(hc _).trans h.c0, (hc _).trans h.c1, (hc _).trans h.c2, (hc _).trans h.c3, (hc _).trans h.c4, (hc _).trans h.c5, (hc _).trans h.c6, (hc _).trans h.c7, (hc _).trans h.c8, (hc _).trans h.c9⟩
theorem ws_num {n : Nat} {w : World} {vs : List V} {pr : Option Addr} {m cr : Nat} (h : WSl n w (vs.map fun v => [v]) (.slice pr m cr)) (h0 : 0 < m) (hc : ∀ v ∈ vs, v.code = 0 ∧ v.kind = 2) :
    m = vs.length ∧ ∃ g o, pr = some ⟨g, o, none⟩ ∧ g < n ∧ ∀ i (hi : i < vs.length), ∃ g2 o2 c2 pl cl pn cn, w.cell? ⟨g, o + i, none⟩ = some (.slice (some ⟨g2, o2, none⟩) 1 c2) ∧ g2 < n ∧ NA w g2 o2 (numV vs[i]) pl cl pn cn ∧ formN (numV vs[i]) = true := by
  rcases h with ⟨e, p, c, e2⟩ | ⟨g, o, cap, e, _, hgn, hg, hr⟩
  · injection e2 with _ e3 _
    omega
  · injection e with e1 e2 e3
    rw [List.length_map] at e2
    refine ⟨e2, g, o, e1, hgn, fun i hi => ?_⟩
    obtain ⟨vi, h1, h2⟩ := hr i (by rw [List.length_map]; exact hi)
    rw [List.getElem_map] at h2
    rcases h2 with ⟨h, _⟩ | ⟨g2, o2, c2, rfl, hg2, _, hrow⟩
    · cases h
    · obtain ⟨hc1, hk1⟩ := hc vs[i] (List.getElem_mem hi)
      obtain ⟨hv, hf⟩ := num_of hc1 hk1
      unfold RowAt at hrow
      obtain ⟨⟨x0, x1, x2, x3, x4, x5, x6, x7, x8, x9, u0, u1, u2, u3, u4, u5, u6, u7, u8, u9, hat⟩, -⟩ := hrow
      rw [hv] at hat
      unfold numW at hat
      obtain ⟨lv, nv, hx, _, hL, hN, _⟩ := at_mk hat
      obtain ⟨pl, cl, rfl⟩ := hL.shape
      obtain ⟨pn, cn, rfl⟩ := hN.shape
      simp only [Value.agg.injEq, Array.mk.injEq, List.cons.injEq, and_true] at hx
      obtain ⟨rfl, rfl, rfl, rfl, rfl, rfl, rfl, rfl, rfl, rfl⟩ := hx
      exact ⟨g2, o2, c2, pl, cl, pn, cn, h1, hg2, ⟨u0, u1, u2, u3, u4, u5, u6, u7, u8, u9⟩, hf⟩
/-- a decimal that a call holds in a block of its own -/
def DBx (w : World) (b : Nat) (a : NN) : Prop := b < w.heap.size ∧ w.cell? ⟨b, 0, none⟩ = some (.bool a.1) ∧ w.cell? ⟨b, 1, none⟩ = some (.int .u64 (Word.hi a.2.1 : Int)) ∧ w.cell? ⟨b, 2, none⟩ = some (.int .u64 (Word.lo a.2.1 : Int)) ∧ w.cell? ⟨b, 3, none⟩ = some (.int .i64 a.2.2)
/-- what a fold comes to: a number, or an error beside nothing -/
def FoldQ (r : NN × Int) (w : World) (e : Ending) (w' : World) : Prop :=
  ∃ x, e = .returned (.tuple #[x, .int .i64 r.2]) ∧ Below w.heap.size w w' ∧ (r.2 = 0 → ∃ pl cl pn cn, x = NC r.1 pl cl pn cn) ∧ (r.2 ≠ 0 → x = ZV)
set_option maxRecDepth 100000 in
set_option maxHeartbeats 16000000 in
theorem fold_num (p : Int) (hp : p = 8 ∨ p = 9 ∨ p = 10) (n : Nat) (w : World) (v0 : V) (vs : List V) (pn : Option Addr) (nn cn : Nat) (po : Option Addr) (no co : Nat) (rv : Value) (hR : WSl n w ((v0 :: vs).map fun v => [v]) rv) (fR : Few ((v0 :: vs).map fun v => [v])) (hc : ∀ v ∈ v0 :: vs, v.code = 0) (hnw : n ≤ w.heap.size) (hT : Tens w)
    (hall : ((v0 :: vs).all fun v => v.kind == 2) = true) :
    Calls Tryz.prog 30 #[.agg #[.slice pn nn cn, .slice po no co, rv], .int .i64 p] w fun e w' => FoldQ (foldN p (numV v0) (vs.map numV)) w e w' := by
  have HAL := Lib.hid (show ∀ w1, Below w.heap.size w w1 → Calls Tryz.prog 45 #[rv, .func (.func 56) #[] #[]] w1 fun e w' => e = .returned (.bool true) ∧ Below w1.heap.size w1 w' from fun w1 hb => by
    have := allW_any 56 #[] (enters_of Tryz.func56 (by kernel_rfl) rfl) (fun l => match l with | v :: _ => v.kind == 2 | [] => false) n w1 _ rv (hR.below (hb.mono hnw)) fR.1 (Nat.le_trans hnw hb.size) (fun l hl w' x hb' ha => by
      rw [List.mem_map] at hl
      obtain ⟨v, -, rfl⟩ := hl
      have := k2_any n w' v x ha
      simpa using this)
    rw [List.all_map] at this
    refine this.mono fun e w' ⟨h1, h2⟩ => ⟨?_, h2⟩
    rw [h1]
    exact congrArg (fun b => Ending.returned (.bool b)) hall)
  obtain ⟨pr, cr, hrv⟩ := hR.shape
  have hlen : ((v0 :: vs).map fun v => [v]).length = vs.length + 1 := by simp
  rw [hlen] at hrv
  subst hrv
  have hcap := hR.cap
  obtain ⟨-, g, o, rfl, hgn, hrows⟩ := ws_num hR (Nat.succ_pos _) (fun v hv => ⟨hc v hv, by have := List.all_eq_true.1 hall v hv; simpa using this⟩)
  have HROW := Lib.hid (show ∀ i (hi : i < vs.length), ∃ g2 o2 c2 pl cl pn cn, w.cell? ⟨g, o + 1 + i, none⟩ = some (.slice (some ⟨g2, o2, none⟩) 1 c2) ∧ g2 < n ∧ NA w g2 o2 (numV vs[i]) pl cl pn cn ∧ formN (numV vs[i]) = true from fun i hi => by
    have := hrows (i + 1) (by simpa using hi)
    rw [show o + (i + 1) = o + 1 + i by omega] at this
    simpa using this)
  obtain ⟨g2, o2, c2, pl, cl, pn2, cn2, hci, hg2, hna, hfo⟩ := hrows 0 (Nat.succ_pos _)
  simp only [List.getElem_cons_zero, Nat.add_zero] at hci hna hfo
  have HNW := Lib.hid hnw
  have hfl := fR.1
  rw [hlen] at hfl
  obtain ⟨m, hm⟩ : ∃ m, m = vs.length := ⟨_, rfl⟩
  have HM := Lib.hid hm
  rw [← hm] at hfl hcap HAL ⊢
  obtain ⟨a0, ha0⟩ : ∃ a, a = numV v0 := ⟨_, rfl⟩
  rw [← ha0] at hna hfo ⊢
  obtain ⟨FR, hFR⟩ : ∃ r, r = foldN p a0 (vs.map numV) := ⟨_, rfl⟩
  have HFR := Lib.hid hFR
  have HFO := Lib.hid hfo
  have HMG := Lib.hid (show ∀ a b, formN a = true → formN b = true → ∀ w1, Below w.heap.size w w1 → _ from fun a b ha hb w1 h1 => merge_any p hp ha hb w1 (hT.below h1))
  rw [← hFR]
  have h1c : (1 : Int) ≤ (m : Int) + 1 := by omega
  have hgw : g < w.heap.size := Nat.lt_of_lt_of_le hgn hnw
  have hg2w : g2 < w.heap.size := Nat.lt_of_lt_of_le hg2 hnw
  have hgw1 : g < w.heap.size + 1 := by omega
  have hgw2 : g < w.heap.size + 1 + 1 := by omega
  have hg2w1 : g2 < w.heap.size + 1 := by omega
  have hg2w2 : g2 < w.heap.size + 1 + 1 := by omega
  obtain ⟨i0, i1, i2, i3, i4, i5, i6, i7, i8, i9⟩ := hna
  have hcr1 : (m : Int) + 1 ≤ (cr : Int) := by omega
  clear hR fR hc hlen hm hall hrows ha0 hFR hnw hT hfo hp
  by_cases hcr : cr = 1
  · subst hcr
    obtain rfl : m = 0 := by omega
    have hvs : vs = [] := List.eq_nil_of_length_eq_zero HM.out.symm
    have HF2 := Lib.hid (show FR = (a0, 0) from by rw [HFR.out, hvs]; rfl)
    clear hvs HROW
    go_enter Tryz.func30, Tryz.ntmps30
    go_wp2_with (go_at_call 45; ((with_reducible refine (HAL.out _ (by (repeat' (first | (with_reducible exact Below.refl _ _) | (with_reducible assumption) | (with_reducible refine Below.alloc ?_ ?_ _) | (with_reducible refine below_drewN ?_ _) | (with_reducible refine below_drew ?_) | (with_reducible refine below_ext ?_ ?_ _ _) | (with_reducible refine Below.setCell ?_ ?_ _) | (simp; done) | (simp; omega) | omega)))).mono ?_); rintro e w1 ⟨rfl, hb1⟩; obtain ⟨osA, dA, rfl⟩ := ext_of_below hb1; clear hb1))
    refine wp_loop_rounds 1 ?_
    rw [rounds_succ]
    go_wp2
    go_returns
    exact (show ∃ x, _ from ⟨_, by rw [HF2.out], by (repeat' (first | (with_reducible exact Below.refl _ _) | (with_reducible assumption) | (with_reducible refine Below.alloc ?_ ?_ _) | (with_reducible refine below_drewN ?_ _) | (with_reducible refine below_drew ?_) | (with_reducible refine below_ext ?_ ?_ _ _) | (with_reducible refine Below.setCell ?_ ?_ _) | (simp; done) | (simp; omega) | omega)), fun _ => ⟨pl, cl, pn2, cn2, by rw [HF2.out]⟩, fun h => absurd (by rw [HF2.out]) h⟩)
  · go_enter Tryz.func30, Tryz.ntmps30
    go_wp2_with (go_at_call 45; ((with_reducible refine (HAL.out _ (by (repeat' (first | (with_reducible exact Below.refl _ _) | (with_reducible assumption) | (with_reducible refine Below.alloc ?_ ?_ _) | (with_reducible refine below_drewN ?_ _) | (with_reducible refine below_drew ?_) | (with_reducible refine below_ext ?_ ?_ _ _) | (with_reducible refine Below.setCell ?_ ?_ _) | (simp; done) | (simp; omega) | omega)))).mono ?_); rintro e w1 ⟨rfl, hb1⟩; obtain ⟨osA, dA, rfl⟩ := ext_of_below hb1; clear hb1))
    obtain ⟨W0, hW0⟩ : ∃ W0, W0 = ext ((w.alloc (.cells #[.slice pn nn cn, .slice po no co, .slice (some ⟨g, o, none⟩) (m + 1) cr] 51)).alloc (.cells #[.int .i64 0, .bool false, .bool false, .int .u64 0, .int .u64 0, .int .i64 0, .string ⟨#[]⟩, .int .i64 0, .slice none 0 0, .slice none 0 0] 34)) osA dA := ⟨_, rfl⟩
    have hB0 : Below w.heap.size w W0 := by rw [hW0]; (repeat' (first | (with_reducible exact Below.refl _ _) | (with_reducible assumption) | (with_reducible refine Below.alloc ?_ ?_ _) | (with_reducible refine below_drewN ?_ _) | (with_reducible refine below_drew ?_) | (with_reducible refine below_ext ?_ ?_ _ _) | (with_reducible refine Below.setCell ?_ ?_ _) | (simp; done) | (simp; omega) | omega))
    have hz0 : W0.heap.size = w.heap.size + 1 + 1 + osA.size := by rw [hW0]; simp
    have hZ0 : RZ W0 (w.heap.size + 1) := by
      have h1 := C10.made (w.alloc (.cells #[.slice pn nn cn, .slice po no co, .slice (some ⟨g, o, none⟩) (m + 1) cr] 51)) 34 (.int .i64 0) (.bool false) (.bool false) (.int .u64 0) (.int .u64 0) (.int .i64 0) (.string ⟨#[]⟩) (.int .i64 0) (.slice none 0 0) (.slice none 0 0)
      rw [show (w.alloc (.cells #[.slice pn nn cn, .slice po no co, .slice (some ⟨g, o, none⟩) (m + 1) cr] 51)).heap.size = w.heap.size + 1 by simp] at h1
      rw [hW0]
      exact h1.later (below_ext (Below.refl _ _) (by simp) _ _)
    rw [← hz0, ← hW0]
    have HZ1 := Lib.hid (hZ0.later ((Below.refl W0.heap.size W0).alloc (Nat.le_refl _) (.cells #[.int .i64 2, .bool false, .bool a0.1, .int .u64 (Word.hi a0.2.1 : Int), .int .u64 (Word.lo a0.2.1 : Int), .int .i64 a0.2.2, .string ⟨#[]⟩, .int .i64 0, .slice pl 0 cl, .slice pn2 0 cn2] 34)))
    have HR1 := Lib.hid (show RB (W0.alloc (.cells #[.int .i64 2, .bool false, .bool a0.1, .int .u64 (Word.hi a0.2.1 : Int), .int .u64 (Word.lo a0.2.1 : Int), .int .i64 a0.2.2, .string ⟨#[]⟩, .int .i64 0, .slice pl 0 cl, .slice pn2 0 cn2] 34)) W0.heap.size a0 pl cl pn2 cn2 from C10.made W0 34 _ _ _ _ _ _ _ _ _ _)
    have HB1 := Lib.hid (hB0.alloc hB0.size (.cells #[.int .i64 2, .bool false, .bool a0.1, .int .u64 (Word.hi a0.2.1 : Int), .int .u64 (Word.lo a0.2.1 : Int), .int .i64 a0.2.2, .string ⟨#[]⟩, .int .i64 0, .slice pl 0 cl, .slice pn2 0 cn2] 34))
    have hne1 : w.heap.size + 1 ≠ W0.heap.size := by omega
    have hW0w : w.heap.size ≤ W0.heap.size := by omega
    clear hW0 hz0 hZ0 hB0 i0 i1 i2 i3 i4 i5 i6 i7 i8 i9 hci HAL
    go_loopw [26] (fun z wr => ∃ (i : Nat) (a : NN), z = .int .i64 i ∧ i ≤ m ∧ Hid (Below w.heap.size w wr) ∧ Hid (RB wr W0.heap.size a pl cl pn2 cn2) ∧ Hid (RZ wr (w.heap.size + 1)) ∧ Hid (formN a = true) ∧ Hid (foldN p a ((vs.drop i).map numV) = FR)) (fun z _ => m - (intOf z).toNat)
    case atStart => exact ⟨0, a0, rfl, Nat.zero_le _, HB1, HR1, HZ1, HFO, Lib.hid (by rw [List.drop_zero]; exact HFR.out.symm)⟩
    case round =>
      clear HB1 HR1 HZ1
      obtain ⟨i, a, rfl, hi, hbel, hrb, hrz, hfa, hfo⟩ := hrel
      by_cases hlt : i < m
      · have hii : (i : Int) < (m : Int) := by omega
        have hil : i < vs.length := by rw [← HM.out]; exact hlt
        obtain ⟨g3, o3, c3, pl3, cl3, pn3, cn3, hc3, hg3, hna3, hfb⟩ := HROW.out i hil
        have hbn := hbel.out.mono HNW.out
        have hcx := (hbn.cell (p := ⟨g, o + 1 + i, none⟩) hgn).trans hc3
        have hna4 := hna3.later hbn hg3
        obtain ⟨b, hb⟩ : ∃ b, b = numV vs[i] := ⟨_, rfl⟩
        rw [← hb] at hna4 hfb
        have hdr := List.drop_eq_getElem_cons hil
        obtain ⟨r, hr⟩ : ∃ r, r = mrgN p a b := ⟨_, rfl⟩
        have hfo2 : FR = if r.2 = 0 then foldN p r.1 ((vs.drop (i + 1)).map numV) else ((false, 0, 0), r.2) := by
          rw [← hfo.out, hdr, List.map_cons, ← hb]
          show (if (mrgN p a b).2 = 0 then _ else _) = _
          rw [← hr]
        have hrf : r.2 = 0 → formN r.1 = true := fun h => by rw [hr] at h ⊢; exact mrg_form hfa.out hfb h
        have HMM := Lib.hid (HMG.out a b hfa.out hfb)
        rw [← hr] at HMM
        have HF2 := Lib.hid hfo2
        have HRF := Lib.hid hrf
        have j2 := hna4.c2; have j3 := hna4.c3; have j4 := hna4.c4; have j5 := hna4.c5
        have k2 := hrb.out.c2; have k3 := hrb.out.c3; have k4 := hrb.out.c4; have k5 := hrb.out.c5
        have HSZ := Lib.hid (show w.heap.size ≤ wr.heap.size from hbel.out.size)
        obtain ⟨⟨rn, rc, rz⟩, re⟩ := r
        obtain ⟨an, ac, az⟩ := a
        obtain ⟨bn, bc, bz⟩ := b
        simp only at j2 j3 j4 j5 k2 k3 k4 k5
        clear hc3 hna3 hna4 hb hr hfo2 hrf hdr hbn hfb hfa hfo
        have hbw := hbel.out
        have hsz := HSZ.out
        have hg3w : g3 < wr.heap.size := Nat.lt_of_lt_of_le hg3 (Nat.le_trans HNW.out hsz)
        have hb6w : W0.heap.size < wr.heap.size := hrb.out.lt
        go_wp2_with fail
        go_cut [9, 10] (fun s9 s10 wx => ∃ b, s9 = .pointer (some ⟨b, 0, none⟩) ∧ s10 = .int .i64 re ∧ DBx wx b (rn, rc, rz) ∧ Below wr.heap.size wr wx)
        case first =>
          go_region_with (go_at_call 57; ((with_reducible refine (HMM.out _ (by (repeat' (first | (with_reducible exact Below.refl _ _) | (with_reducible assumption) | (with_reducible refine Below.alloc ?_ ?_ _) | (with_reducible refine below_drewN ?_ _) | (with_reducible refine below_drew ?_) | (with_reducible refine below_ext ?_ ?_ _ _) | (with_reducible refine Below.setCell ?_ ?_ _) | (simp; done) | (simp; omega) | omega)))).mono ?_); rintro e w1 ⟨rfl, hb1⟩; obtain ⟨osB, dB, rfl⟩ := ext_of_below hb1; clear hb1))
          all_goals
            go_wp2_with fail
            go_meet
            exact ⟨_, rfl, rfl, ⟨by first | (simp; done) | (simp; omega), by simp [go_sem], by simp [go_sem], by simp [go_sem], by simp [go_sem]⟩, by (repeat' (first | (with_reducible exact Below.refl _ _) | (with_reducible assumption) | (with_reducible refine Below.alloc ?_ ?_ _) | (with_reducible refine below_drewN ?_ _) | (with_reducible refine below_drew ?_) | (with_reducible refine below_ext ?_ ?_ _ _) | (with_reducible refine Below.setCell ?_ ?_ _) | (simp; done) | (simp; omega) | omega))⟩
        case rest =>
          obtain ⟨b9, rfl, rfl, ⟨d0, d1, d2, d3, d4⟩, hb6⟩ := hcut
          simp only at d1 d2 d3 d4
          have r5 := hrb.out.later hb6
          have q2 := r5.c2; have q3 := r5.c3; have q4 := r5.c4; have q5 := r5.c5
          have f2 := r5.free 2; have f3 := r5.free 3; have f4 := r5.free 4; have f5 := r5.free 5
          have R5 := Lib.hid r5
          have z5 := hrz.out.later hb6
          have Z5 := Lib.hid z5
          have HBX := Lib.hid (hbw.trans (hb6.mono HSZ.out))
          clear r5 hrb hrz hbw j2 j3 j4 j5 k2 k3 k4 k5 hcx
          by_cases he : re = 0
          · subst he
            have HRB := Lib.hid (show RB ((((wc.setCell ⟨W0.heap.size, 2, none⟩ (.bool rn)).setCell ⟨W0.heap.size, 3, none⟩ (.int .u64 (Word.hi rc : Int))).setCell ⟨W0.heap.size, 4, none⟩ (.int .u64 (Word.lo rc : Int))).setCell ⟨W0.heap.size, 5, none⟩ (.int .i64 rz)) W0.heap.size (rn, rc, rz) pl cl pn2 cn2 from R5.out.set25 _ _ _ _)
            have HRZ := Lib.hid (show RZ ((((wc.setCell ⟨W0.heap.size, 2, none⟩ (.bool rn)).setCell ⟨W0.heap.size, 3, none⟩ (.int .u64 (Word.hi rc : Int))).setCell ⟨W0.heap.size, 4, none⟩ (.int .u64 (Word.lo rc : Int))).setCell ⟨W0.heap.size, 5, none⟩ (.int .i64 rz)) (w.heap.size + 1) from (((Z5.out.other _ 2 _ (Ne.symm hne1)).other _ 3 _ (Ne.symm hne1)).other _ 4 _ (Ne.symm hne1)).other _ 5 _ (Ne.symm hne1))
            have HBL := Lib.hid (show Below w.heap.size w ((((wc.setCell ⟨W0.heap.size, 2, none⟩ (.bool rn)).setCell ⟨W0.heap.size, 3, none⟩ (.int .u64 (Word.hi rc : Int))).setCell ⟨W0.heap.size, 4, none⟩ (.int .u64 (Word.lo rc : Int))).setCell ⟨W0.heap.size, 5, none⟩ (.int .i64 rz)) from (((HBX.out.setCell (p := ⟨W0.heap.size, 2, none⟩) hW0w _).setCell (p := ⟨W0.heap.size, 3, none⟩) hW0w _).setCell (p := ⟨W0.heap.size, 4, none⟩) hW0w _).setCell (p := ⟨W0.heap.size, 5, none⟩) hW0w _)
            have HF3 := Lib.hid (show foldN p (rn, rc, rz) ((vs.drop (i + 1)).map numV) = FR from by rw [HF2.out]; rfl)
            have HF4 := Lib.hid (show formN (rn, rc, rz) = true from HRF.out rfl)
            clear HF2 HRF HMM R5 Z5 HBX z5 hb6
            go_wp2
            go_roundw
            case rel => exact ⟨i + 1, (rn, rc, rz), by go_num, by omega, HBL, HRB, HRZ, HF4, HF3⟩
            case measure => simp [intOf]; omega
          · have he2 : (re != 0) = true := by rw [bne_iff_ne]; exact he
            have HF3 := Lib.hid (show FR = ((false, 0, 0), re) from by rw [HF2.out]; exact if_neg he)
            obtain ⟨hzl, z0, z1, z2, z3, z4, z5', z6, z7, z8, z9, zf⟩ := z5
            have y0 := zf 0; have y1 := zf 1; have y2 := zf 2; have y3 := zf 3; have y4 := zf 4; have y5 := zf 5; have y6 := zf 6; have y7 := zf 7; have y8 := zf 8; have y9 := zf 9
            have HST := Lib.hid (Z5.out.st (.int .i64 0) (.bool false) (.bool false) (.int .u64 0) (.int .u64 0) (.int .i64 0) (.string ⟨#[]⟩) (.int .i64 0) (.slice none 0 0) (.slice none 0 0))
            clear zf HF2 HRF HMM R5 Z5 hb6
            go_wp2
            obtain ⟨s0, s1, s2, s3, s4, s5, s6, s7, s8, s9⟩ := HST.out
            refine bodyPost_ret (by simp [results, Tryz.results30, go_sem, s0, s1, s2, s3, s4, s5, s6, s7, s8, s9]; try rfl) rfl ?_
            exact (show ∃ x, _ from ⟨_, by rw [HF3.out], below_st10 HBX.out (Nat.le_succ _) _ _ _ _ _ _ _ _ _ _, fun h => absurd (by rw [HF3.out] at h; exact h) he, fun _ => rfl⟩)
      · obtain rfl : m = i := by omega
        have hii : ¬ (m : Int) < (m : Int) := by omega
        obtain ⟨an, ac, az⟩ := a
        have HF3 := Lib.hid (show FR = ((an, ac, az), 0) from by rw [← hfo.out, List.drop_of_length_le (by rw [← HM.out]; exact Nat.le_refl _)]; rfl)
        obtain ⟨hrl, r0, r1, r2, r3, r4, r5, r6, r7, r8, r9, rf⟩ := hrb.out
        obtain ⟨hzl, z0, z1, z2, z3, z4, z5, z6, z7, z8, z9, zf⟩ := hrz.out
        have y0 := zf 0; have y1 := zf 1; have y2 := zf 2; have y3 := zf 3; have y4 := zf 4; have y5 := zf 5; have y6 := zf 6; have y7 := zf 7; have y8 := zf 8; have y9 := zf 9
        have HST := Lib.hid (hrz.out.st (.int .i64 2) (.bool false) (.bool an) (.int .u64 (Word.hi ac : Int)) (.int .u64 (Word.lo ac : Int)) (.int .i64 az) (.string ⟨#[]⟩) (.int .i64 0) (.slice pl 0 cl) (.slice pn2 0 cn2))
        clear zf rf hrb hrz hfo hfa
        go_wp2
        obtain ⟨s0, s1, s2, s3, s4, s5, s6, s7, s8, s9⟩ := HST.out
        refine bodyPost_ret (by simp [results, Tryz.results30, go_sem, s0, s1, s2, s3, s4, s5, s6, s7, s8, s9]; try rfl) rfl ?_
        exact (show ∃ x, _ from ⟨_, by rw [HF3.out], below_st10 hbel.out (Nat.le_succ _) _ _ _ _ _ _ _ _ _ _, fun _ => ⟨pl, cl, pn2, cn2, by rw [HF3.out]⟩, fun h => absurd (by rw [HF3.out]) h⟩)
end Go.Proofs.YtjkallelniggpaaGreatDoor
