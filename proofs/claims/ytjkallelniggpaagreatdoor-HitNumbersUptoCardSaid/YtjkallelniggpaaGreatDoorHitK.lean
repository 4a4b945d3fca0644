/-
  What the laws ask first: a sum of two rows, and two rows where one may match.
-/
import Derived.Test.YtjkallelniggpaaGreatDoorHitJ
namespace Go.Proofs.YtjkallelniggpaaGreatDoor
open Go.RowKit Word Txt
attribute [local go_sem] setCell_drewN cell?_ext frozen?_ext shape?_ext setCell_ext lt_1' ne_1' en_1' le_1' lt_2' ne_2' en_2' le_2' lt_3' ne_3' en_3' le_3' lt_4' ne_4' en_4' le_4' lt_5' ne_5' en_5' le_5' lt_6' ne_6' en_6' le_6' lt_7' ne_7' en_7' le_7' lt_8' ne_8' en_8' le_8' lt_9' ne_9' en_9' le_9' lt_10' ne_10' en_10' le_10' lt_11' ne_11' en_11' le_11' lt_12' ne_12' en_12' le_12'

theorem hnum_any (n : Int) (w : World) : Calls Tryz.prog 7 #[.int .u64 n] w fun e w' => e = .returned (NumC n) ∧ Below w.heap.size w w' := by
  go_enter Tryz.func7, Tryz.ntmps7
  go_wp2
  go_returns
  exact ⟨rfl, by (repeat' (first | (with_reducible exact Below.refl _ _) | (with_reducible assumption) | (with_reducible refine Below.alloc ?_ ?_ _) | (with_reducible refine below_drewN ?_ _) | (with_reducible refine below_drew ?_) | (with_reducible refine below_ext ?_ ?_ _ _) | (with_reducible refine Below.setCell ?_ ?_ _) | (simp; done) | (simp; omega) | omega))⟩
/-- the law's own question: the same, and of few parts -/
theorem hsame_any (v v' : V) (n : Nat) (w : World) (x x' : Value) (hx : v.At n w x) (hx' : v'.At n w x') (hnw : n ≤ w.heap.size) (hv : v.count ≤ 1000) (hv' : v'.count ≤ 1000) :
    Calls Tryz.prog 6 #[x, x'] w fun e w' => e = .returned (.bool (v.eqb v')) ∧ Below w.heap.size w w' := by
  have HA := Lib.hid (fun w' (hb : Below w.heap.size w w') => (rcount_any v n w' x (hx.below (hb.mono hnw)) (Nat.le_trans hnw hb.size)).mono fun e w1 h => And.intro (show ∃ m : Nat, e = .returned (.int .i64 (m : Int)) ∧ (m : Int) ≤ 1000 from by obtain ⟨⟨m, he, h1, h2, h3⟩, _⟩ := h; exact ⟨m, he, by have := h2 hv; omega⟩) h.2)
  have HB := Lib.hid (fun w' (hb : Below w.heap.size w w') => (rcount_any v' n w' x' (hx'.below (hb.mono hnw)) (Nat.le_trans hnw hb.size)).mono fun e w1 h => And.intro (show ∃ m : Nat, e = .returned (.int .i64 (m : Int)) ∧ (m : Int) ≤ 1000 from by obtain ⟨⟨m, he, h1, h2, h3⟩, _⟩ := h; exact ⟨m, he, by have := h2 hv'; omega⟩) h.2)
  have HS := Lib.hid (fun w' (hb : Below w.heap.size w w') => rsame_any v n w' x v' x' (hx.below (hb.mono hnw)) (hx'.below (hb.mono hnw)) (Nat.le_trans hnw hb.size))
  obtain ⟨k, yes, neg, c, s, t, day, pl, nl, cl, pn, nn, cn, rfl, -, -⟩ := at_shape hx
  obtain ⟨k', yes', neg', c', s', t', day', pl', nl', cl', pn', nn', cn', rfl, -, -⟩ := at_shape hx'
  generalize v.eqb v' = q at *
  clear hx hx'
  go_enter Tryz.func6, Tryz.ntmps6
  go_wp2_with (first
    | (go_at_call 10; (with_reducible refine (HA.out _ (by (repeat' (first | (with_reducible exact Below.refl _ _) | (with_reducible assumption) | (with_reducible refine Below.alloc ?_ ?_ _) | (with_reducible refine below_drewN ?_ _) | (with_reducible refine below_drew ?_) | (with_reducible refine below_ext ?_ ?_ _ _) | (with_reducible refine Below.setCell ?_ ?_ _) | (simp; done) | (simp; omega) | omega)))).mono ?_); rintro e w1 ⟨⟨ma, rfl, hma⟩, hb1⟩; obtain ⟨osA, dA, rfl⟩ := ext_of_below hb1; clear hb1)
    | (go_at_call 10; (with_reducible refine (HB.out _ (by (repeat' (first | (with_reducible exact Below.refl _ _) | (with_reducible assumption) | (with_reducible refine Below.alloc ?_ ?_ _) | (with_reducible refine below_drewN ?_ _) | (with_reducible refine below_drew ?_) | (with_reducible refine below_ext ?_ ?_ _ _) | (with_reducible refine Below.setCell ?_ ?_ _) | (simp; done) | (simp; omega) | omega)))).mono ?_); rintro e w1 ⟨⟨mb, rfl, hmb⟩, hb1⟩; obtain ⟨osB, dB, rfl⟩ := ext_of_below hb1; clear hb1)
    | (go_at_call 11; ((with_reducible refine (HS.out _ (by (repeat' (first | (with_reducible exact Below.refl _ _) | (with_reducible assumption) | (with_reducible refine Below.alloc ?_ ?_ _) | (with_reducible refine below_drewN ?_ _) | (with_reducible refine below_drew ?_) | (with_reducible refine below_ext ?_ ?_ _ _) | (with_reducible refine Below.setCell ?_ ?_ _) | (simp; done) | (simp; omega) | omega)))).mono ?_); rintro e w1 ⟨rfl, hb1⟩; obtain ⟨osC, dC, rfl⟩ := ext_of_below hb1; clear hb1)))
  go_ret
  exact ⟨rfl, by (repeat' (first | (with_reducible exact Below.refl _ _) | (with_reducible assumption) | (with_reducible refine Below.alloc ?_ ?_ _) | (with_reducible refine below_drewN ?_ _) | (with_reducible refine below_drew ?_) | (with_reducible refine below_ext ?_ ?_ _ _) | (with_reducible refine Below.setCell ?_ ?_ _) | (simp; done) | (simp; omega) | omega))⟩
/-- two rows and more under Unique -/
theorem decide_two (w : World) (pn : Option Addr) (nn cn : Nat) (po : Option Addr) (no co : Nat) (pr : Option Addr) (m cr : Nat) (hm : 2 ≤ m) :
    Calls Tryz.prog 17 #[.agg #[.slice pn nn cn, .slice po no co, .slice pr m cr], .int .i64 1] w fun e w' => e = .returned (.tuple #[ZV, .int .i64 14]) ∧ Below w.heap.size w w' := by
  have h1 : (1 : Int) < (m : Int) := by omega
  have h2 : ((m : Int) == 0) = false := beq_eq_false_iff_ne.2 (by omega)
  have h3 : ¬ (m : Int) = 0 := by omega
  go_enter Tryz.func17, Tryz.ntmps17
  go_wp2
  go_returns
  exact ⟨rfl, by (repeat' (first | (with_reducible exact Below.refl _ _) | (with_reducible assumption) | (with_reducible refine Below.alloc ?_ ?_ _) | (with_reducible refine below_drewN ?_ _) | (with_reducible refine below_drew ?_) | (with_reducible refine below_ext ?_ ?_ _ _) | (with_reducible refine Below.setCell ?_ ?_ _) | (simp; done) | (simp; omega) | omega))⟩
set_option maxRecDepth 100000 in
theorem decide_uniq (n : Nat) (w : World) (ns : List ByteArray) (O R : List (List V)) (nv ov rv : Value) (hN : SRdS w nv ns) (hO : WSl n w O ov) (hR : WSl n w R rv) (fN : ns.length ≤ 1048576) (fO : Few O) (fR : Few R) (hnw : n ≤ w.heap.size) (hT : Tens w) (hU : Tabs w) (hF : formH ns O R [] = true) (h2 : 2 ≤ R.length) :
    Calls Tryz.prog 9 #[.int .i64 1, nv, ov, rv, .slice none 0 0] w fun e w' => e = .returned (.tuple #[ZV, .int .i64 14]) ∧ Below w.heap.size w w' := by
  have HIF := Lib.hid (show ∀ w1, Below w.heap.size w w1 → Calls Tryz.prog 16 #[nv, ov, rv, .slice none 0 0] w1 fun e w' => e = .returned (.bool true) ∧ Below w1.heap.size w1 w' from fun w1 hb => by
    have := inForm_any n w1 ns O R [] nv ov rv (.slice none 0 0) (hN.below hb) (hO.below (hb.mono hnw)) (hR.below (hb.mono hnw)) (.inl ⟨rfl, none, 0, rfl⟩) fN fO fR (by simp) (Nat.le_trans hnw hb.size) (hT.below hb) (hU.below hb)
    rw [hF] at this; exact this)
  have HIP := Lib.hid (show ∀ w1, Calls Tryz.prog 15 #[.int .i64 1] w1 fun e w' => e = .returned (.bool true) ∧ w' = w1 from fun w1 => isPolicy_any 1 w1)
  obtain ⟨pn, cn, rfl, -⟩ := hN
  obtain ⟨po, co, rfl⟩ := hO.shape
  obtain ⟨pr, cr, rfl⟩ := hR.shape
  have HD := Lib.hid (fun w => decide_two w pn ns.length cn po O.length co pr R.length cr h2)
  obtain ⟨mn, hmn⟩ : ∃ m, m = ns.length := ⟨_, rfl⟩
  obtain ⟨mo, hmo⟩ : ∃ m, m = O.length := ⟨_, rfl⟩
  obtain ⟨mr, hmr⟩ : ∃ m, m = R.length := ⟨_, rfl⟩
  rw [← hmn, ← hmo, ← hmr] at HD HIF ⊢
  have e2 : ((mr : Int) == 0) = false := beq_eq_false_iff_ne.2 (by omega)
  have e3 : ¬ (mr : Int) = 0 := by omega
  clear hO hR fN fO fR hT hU hF hmn hmo hmr h2
  go_enter Tryz.func9, Tryz.ntmps9
  go_wp2_with (first
    | (go_at_call 15; ((with_reducible refine (HIP.out _).mono ?_); rintro e w1 ⟨rfl, rfl⟩))
    | (go_at_call 16; ((with_reducible refine (HIF.out _ (by (repeat' (first | (with_reducible exact Below.refl _ _) | (with_reducible assumption) | (with_reducible refine Below.alloc ?_ ?_ _) | (with_reducible refine below_drewN ?_ _) | (with_reducible refine below_drew ?_) | (with_reducible refine below_ext ?_ ?_ _ _) | (with_reducible refine Below.setCell ?_ ?_ _) | (simp; done) | (simp; omega) | omega)))).mono ?_); rintro e w1 ⟨rfl, hb1⟩; obtain ⟨osA, dA, rfl⟩ := ext_of_below hb1; clear hb1))
    | (go_at_call 17; ((with_reducible refine (HD.out _).mono ?_); rintro e w1 ⟨rfl, hb1⟩; obtain ⟨osB, dB, rfl⟩ := ext_of_below hb1; clear hb1)))
  go_returns
  exact ⟨rfl, by (repeat' (first | (with_reducible exact Below.refl _ _) | (with_reducible assumption) | (with_reducible refine Below.alloc ?_ ?_ _) | (with_reducible refine below_drewN ?_ _) | (with_reducible refine below_drew ?_) | (with_reducible refine below_ext ?_ ?_ _ _) | (with_reducible refine Below.setCell ?_ ?_ _) | (simp; done) | (simp; omega) | omega))⟩
def outB : ByteArray := ⟨#[111, 117, 116]⟩
theorem out_name : IsName outB := by
  refine ⟨by decide, by decide, by decide, by decide, ?_⟩
  intro i hi
  have h3 : i < 3 := hi
  match i, h3 with
  | 0, _ => decide
  | 1, _ => decide
  | 2, _ => decide
/-- what lies in memory where the two questions are asked -/
structure KM (w : World) (b1 b2 b3 bn bo : Nat) : Prop where
  r1 : w.heap[b1]? = some (.cells #[.int .i64 2, .bool false, .bool false, .int .u64 0, .int .u64 1, .int .i64 0, .string ⟨#[]⟩, .int .i64 0, .slice none 0 0, .slice none 0 0] 34)
  r2 : w.heap[b2]? = some (.cells #[.int .i64 2, .bool false, .bool false, .int .u64 0, .int .u64 2, .int .i64 0, .string ⟨#[]⟩, .int .i64 0, .slice none 0 0, .slice none 0 0] 34)
  r3 : w.heap[b3]? = some (.cells #[.slice (some ⟨b1, 0, none⟩) 1 1, .slice (some ⟨b2, 0, none⟩) 1 1] 24)
  rn : w.heap[bn]? = some (.cells #[.string ⟨#[111, 117, 116]⟩] 9)
  ro : w.heap[bo]? = some (.cells #[.slice none 0 0] 24)
theorem blk_lt {w : World} {b : Nat} {o : Obj} (h : w.heap[b]? = some o) : b < w.heap.size := (Array.getElem?_eq_some_iff.1 h).1
theorem row_num {w : World} {b k : Nat} (hk : k < 18446744073709551616) (h : w.heap[b]? = some (.cells #[.int .i64 2, .bool false, .bool false, .int .u64 0, .int .u64 (k : Int), .int .i64 0, .string ⟨#[]⟩, .int .i64 0, .slice none 0 0, .slice none 0 0] 34)) : VSl w.heap.size w [NumV k] (.slice (some ⟨b, 0, none⟩) 1 1) := by
  refine .inr ⟨b, 0, 1, rfl, blk_lt h, blk_lt h, ?_⟩
  unfold RowAt
  refine ⟨⟨.int .i64 2, .bool false, .bool false, .int .u64 0, .int .u64 (k : Int), .int .i64 0, .string ⟨#[]⟩, .int .i64 0, .slice none 0 0, .slice none 0 0, ?_, ?_, ?_, ?_, ?_, ?_, ?_, ?_, ?_, ?_, numV_at k hk _ w⟩, by unfold RowAt; trivial⟩
  all_goals rw [cell_of_row _ _ _ _ _ _ h]; rfl
theorem KM.names {w : World} {b1 b2 b3 bn bo : Nat} (h : KM w b1 b2 b3 bn bo) : SRdS w (.slice (some ⟨bn, 0, none⟩) 1 1) [outB] := ⟨_, _, rfl, Nat.le_refl _, fun _ => ⟨bn, 0, rfl, blk_lt h.rn, fun j hj => by
  have h0 : j = 0 := by simp at hj; exact hj
  subst h0
  rw [cell_of_row _ _ _ _ _ _ h.rn]; rfl⟩⟩
theorem KM.order {w : World} {b1 b2 b3 bn bo : Nat} (h : KM w b1 b2 b3 bn bo) : WSl w.heap.size w [[]] (.slice (some ⟨bo, 0, none⟩) 1 1) := .inr ⟨bo, 0, 1, rfl, Nat.le_refl _, blk_lt h.ro, blk_lt h.ro, fun j hj => by
  have h0 : j = 0 := by simp at hj; exact hj
  subst h0
  exact ⟨.slice none 0 0, by rw [cell_of_row _ _ _ _ _ _ h.ro]; rfl, .inl ⟨rfl, none, 0, rfl⟩⟩⟩
theorem KM.rows {w : World} {b1 b2 b3 bn bo : Nat} (h : KM w b1 b2 b3 bn bo) : WSl w.heap.size w [[NumV 1], [NumV 2]] (.slice (some ⟨b3, 0, none⟩) 2 2) := .inr ⟨b3, 0, 2, rfl, Nat.le_refl _, blk_lt h.r3, blk_lt h.r3, fun j hj => by
  have h2 : j < 2 := hj
  match j, h2 with
  | 0, _ => exact ⟨_, by rw [cell_of_row _ _ _ _ _ _ h.r3]; rfl, row_num (k := 1) (by omega) h.r1⟩
  | 1, _ => exact ⟨_, by rw [cell_of_row _ _ _ _ _ _ h.r3]; rfl, row_num (k := 2) (by omega) h.r2⟩⟩
open Classical in
theorem known_form : formH [outB] [[]] [[NumV 1], [NumV 2]] [] = true := by
  have hn : distB [outB] = true := by
    unfold distB
    rw [Bool.and_eq_true]
    refine ⟨?_, decide_eq_true (by simp)⟩
    simp only [List.all_cons, List.all_nil, Bool.and_true]
    exact decide_eq_true out_name
  have h1 : okB [NumV 1] = true := by unfold okB; simp [numV_code 1 (by omega)]
  have h2 : okB [NumV 2] = true := by unfold okB; simp [numV_code 2 (by omega)]
  have h0 : okB [] = true := rfl
  unfold formH sizedB
  simp [hn, h1, h2, h0]
theorem known_plus : mrgN 8 (false, 1, 0) (false, 2, 0) = ((false, 3, 0), 0) := by
  have hf : fitN (false, 1, 0) (false, 2, 0) = some (3, 0) := by
    unfold fitN uniN
    have e : (Fit.sumN false (Fit.uni 1 (0 : Int).toNat) false (Fit.uni 2 (0 : Int).toNat)).2 = 3 * 10 ^ (18 - 0) := by decide
    show Fit.fit (Fit.sumN false (Fit.uni 1 (0 : Int).toNat) false (Fit.uni 2 (0 : Int).toNat)).2 (10 ^ 18) 19 = some (3, 0)
    rw [e, ← Fit.fit_uni 3 0 (by omega), Fit.fit_exact (by decide) (by omega)]
    rfl
  rw [mrg_add]
  unfold plusN
  rw [hf]
  rfl
theorem known_out : outN 8 (valsN [[NumV 1], [NumV 2]] []) = (some (false, 3, 0), 0) := by
  have e : valsN [[NumV 1], [NumV 2]] [] = [NumV 1, NumV 2] := rfl
  rw [e]
  unfold outN
  rw [if_neg (by decide)]
  show (if ([NumV 1, NumV 2].all fun v => v.kind == 2) = true then _ else _) = _
  rw [if_pos (by rfl)]
  have hf : foldN 8 (numV (NumV 1)) ([NumV 2].map numV) = ((false, 3, 0), 0) := by
    show (if (mrgN 8 (false, 1, 0) (false, 2, 0)).2 = 0 then foldN 8 (mrgN 8 (false, 1, 0) (false, 2, 0)).1 [] else _) = _
    rw [known_plus]
    rfl
  rw [hf]
  rfl
theorem few_known : Few [[NumV 1], [NumV 2]] := ⟨by decide, fun l hl => by
  simp at hl
  rcases hl with rfl | rfl <;> simp⟩
theorem KM.sum {w : World} {b1 b2 b3 bn bo : Nat} (h : KM w b1 b2 b3 bn bo) (hT : Tens w) (hU : Tabs w) : Calls Tryz.prog 9 #[.int .i64 8, .slice (some ⟨bn, 0, none⟩) 1 1, .slice (some ⟨bo, 0, none⟩) 1 1, .slice (some ⟨b3, 0, none⟩) 2 2, .slice none 0 0] w fun e w' => NumR (some (false, 3, 0), 0) w e w' := by
  have := decide_form 8 (by omega) w.heap.size w [outB] [[]] [[NumV 1], [NumV 2]] [] _ _ _ (.slice none 0 0) h.names h.order h.rows (.inl ⟨rfl, none, 0, rfl⟩) (by decide) ⟨by decide, fun l hl => by simp at hl; subst hl; simp⟩ few_known (by decide) (Nat.le_refl _) hT hU known_form rfl
  rw [known_out] at this
  exact this
theorem KM.two {w : World} {b1 b2 b3 bn bo : Nat} (h : KM w b1 b2 b3 bn bo) (hT : Tens w) (hU : Tabs w) : Calls Tryz.prog 9 #[.int .i64 1, .slice (some ⟨bn, 0, none⟩) 1 1, .slice (some ⟨bo, 0, none⟩) 1 1, .slice (some ⟨b3, 0, none⟩) 2 2, .slice none 0 0] w fun e w' => e = .returned (.tuple #[ZV, .int .i64 14]) ∧ Below w.heap.size w w' :=
  decide_uniq w.heap.size w [outB] [[]] [[NumV 1], [NumV 2]] _ _ _ h.names h.order h.rows (by decide) ⟨by decide, fun l hl => by simp at hl; subst hl; simp⟩ few_known (Nat.le_refl _) hT hU known_form (by decide)
abbrev kc (k : Int) : Obj := .cells #[.int .i64 2, .bool false, .bool false, .int .u64 0, .int .u64 k, .int .i64 0, .string ⟨#[]⟩, .int .i64 0, .slice none 0 0, .slice none 0 0] 34
theorem heap_old {w : World} {o x : Obj} {b : Nat} (h : w.heap[b]? = some x) : (w.alloc o).heap[b]? = some x := (heap_alloc_old w o (blk_lt h)).trans h
theorem heap_new (w : World) (o : Obj) : (w.alloc o).heap[w.heap.size]? = some o := by
  show (w.heap.push o)[w.heap.size]? = some o
  rw [Array.getElem?_push_size]
theorem km_of {w1 w2 : World} (hb : Below (w1.alloc (kc 1)).heap.size (w1.alloc (kc 1)) w2) :
    KM ((((w2.alloc (kc 2)).alloc (.cells #[.slice (some ⟨w1.heap.size, 0, none⟩) 1 1, .slice (some ⟨w2.heap.size, 0, none⟩) 1 1] 24)).alloc (.cells #[.string ⟨#[111, 117, 116]⟩] 9)).alloc (.cells #[.slice none 0 0] 24)) w1.heap.size w2.heap.size (w2.heap.size + 1) (w2.heap.size + 1 + 1) (w2.heap.size + 1 + 1 + 1) := by
  have h1 : w2.heap[w1.heap.size]? = some (kc 1) := (hb.block _ (by simp)).trans (heap_new w1 _)
  have s1 : (w2.alloc (kc 2)).heap.size = w2.heap.size + 1 := by simp
  have s2 : ((w2.alloc (kc 2)).alloc (.cells #[.slice (some ⟨w1.heap.size, 0, none⟩) 1 1, .slice (some ⟨w2.heap.size, 0, none⟩) 1 1] 24)).heap.size = w2.heap.size + 1 + 1 := by simp
  have s3 : (((w2.alloc (kc 2)).alloc (.cells #[.slice (some ⟨w1.heap.size, 0, none⟩) 1 1, .slice (some ⟨w2.heap.size, 0, none⟩) 1 1] 24)).alloc (.cells #[.string ⟨#[111, 117, 116]⟩] 9)).heap.size = w2.heap.size + 1 + 1 + 1 := by simp
  refine ⟨heap_old (heap_old (heap_old (heap_old h1))), heap_old (heap_old (heap_old (heap_new w2 _))), heap_old (heap_old ?_), heap_old ?_, ?_⟩
  · rw [← s1]; exact heap_new _ _
  · rw [← s2]; exact heap_new _ _
  · rw [← s3]; exact heap_new _ _
theorem km_more {W w3 : World} {b1 b2 b3 bn bo : Nat} {z : Obj} (h : KM W b1 b2 b3 bn bo) (hb : Below W.heap.size W w3) : KM (((w3.alloc z).alloc (.cells #[.string ⟨#[111, 117, 116]⟩] 9)).alloc (.cells #[.slice none 0 0] 24)) b1 b2 b3 (w3.heap.size + 1) (w3.heap.size + 1 + 1) := by
  have hk : ∀ {b : Nat} {x : Obj}, W.heap[b]? = some x → w3.heap[b]? = some x := fun {b x} hx => (hb.block _ (blk_lt hx)).trans hx
  have s1 : (w3.alloc z).heap.size = w3.heap.size + 1 := by simp
  have s2 : ((w3.alloc z).alloc (.cells #[.string ⟨#[111, 117, 116]⟩] 9)).heap.size = w3.heap.size + 1 + 1 := by simp
  refine ⟨heap_old (heap_old (heap_old (hk h.r1))), heap_old (heap_old (heap_old (hk h.r2))), heap_old (heap_old (heap_old (hk h.r3))), heap_old ?_, ?_⟩
  · rw [← s1]; exact heap_new _ _
  · rw [← s2]; exact heap_new _ _
theorem numW_count (a : NN) : (numW a).count ≤ 1000 := by unfold numW V.count countL; omega
theorem numV_count (n : Nat) : (NumV n).count ≤ 1000 := by unfold NumV V.count countL; omega
end Go.Proofs.YtjkallelniggpaaGreatDoor
