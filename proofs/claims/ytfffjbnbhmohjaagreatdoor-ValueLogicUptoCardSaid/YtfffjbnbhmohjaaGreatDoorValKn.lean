/-
  The statements' own first question about values; ValueForms, ValueTruths.
-/
import Derived.Test.YtfffjbnbhmohjaaGreatDoorValRS
import Derived.Test.YtfffjbnbhmohjaaGreatDoorValN
namespace Go.Proofs.YtfffjbnbhmohjaaGreatDoor
open Go.RowKit Word Txt
attribute [local go_sem] setCell_drewN cell?_ext frozen?_ext shape?_ext setCell_ext lt_1' ne_1' en_1' le_1' lt_2' ne_2' en_2' le_2' lt_3' ne_3' en_3' le_3' lt_4' ne_4' en_4' le_4' lt_5' ne_5' en_5' le_5' lt_6' ne_6' en_6' le_6' lt_7' ne_7' en_7' le_7' lt_8' ne_8' en_8' le_8' lt_9' ne_9' en_9' le_9' lt_10' ne_10' en_10' le_10' lt_11' ne_11' en_11' le_11' lt_12' ne_12' en_12' le_12'

/-- the text "1" as a value -/
abbrev OneC : Value := .agg #[.int .i64 3, .bool false, .bool false, .int .u64 0, .int .u64 0, .int .i64 0, .string ⟨#[49]⟩, .int .i64 0, .slice none 0 0, .slice none 0 0]
def OneV : V := .mk 3 false false 0 0 ⟨#[49]⟩ 0 [] []
theorem oneV_at (n : Nat) (w : World) : OneV.At n w OneC := by
  unfold OneV V.At
  exact ⟨.slice none 0 0, .slice none 0 0, rfl, ⟨by decide, by decide, by simp, by simp⟩, .inl ⟨rfl, none, 0, rfl⟩, .inl ⟨rfl, none, 0, rfl⟩, by simp⟩
theorem oneV_code : OneV.code = 0 := by
  refine code_form ?_ ?_ ?_
  · unfold OneV V.count countL; omega
  · unfold OneV V.depth depthL; omega
  · unfold OneV V.form
    rw [soundB_is, if_neg (by decide), if_pos rfl]
    have h : isText ⟨#[49]⟩ = true := by decide
    rw [h]
    unfold bareB formL
    decide
theorem known_equal (w : World) (hT : Tens w) (hU : Tabs w) : Calls Tryz.prog 13 #[NumC 1, OneC] w fun e w' => e = .returned (.tuple #[TV 0 false, .int .i64 0]) ∧ Below w.heap.size w w' := by
  have h := vEqual_any (NumV 1) OneV w.heap.size w _ _ (numV_at 1 (by omega) _ w) (oneV_at _ w) (Nat.le_refl _) hT hU
  have hc : code2 (NumV 1) OneV = 0 := by unfold code2; rw [numV_code 1 (by omega), if_pos rfl, oneV_code]
  have he : (NumV 1).eq3 OneV = (0, false) := by unfold NumV OneV; rw [eq3_two]; rfl
  rw [hc, he] at h
  exact h
theorem lt3_two (k : Int) (yes neg : Bool) (c : Nat) (s : Int) (t : ByteArray) (day : Int) (l : List V) (ns : List ByteArray) (k' : Int) (yes' neg' : Bool) (c' : Nat) (s' : Int) (t' : ByteArray) (day' : Int) (l' : List V) (ns' : List ByteArray) :
    (V.mk k yes neg c s t day l ns).lt3 (V.mk k' yes' neg' c' s' t' day' l' ns') = if k ≠ k' then (0, false) else if k = 2 then (1, ltN neg c s neg' c' s') else if k = 3 then (1, Op.bytesLess t.toList t'.toList) else if k = 4 then (1, decide (day < day')) else (0, false) := rfl
theorem known_less (w : World) (hT : Tens w) (hU : Tabs w) : Calls Tryz.prog 15 #[NumC 1, NumC 2] w fun e w' => e = .returned (.tuple #[TV 1 true, .int .i64 0]) ∧ Below w.heap.size w w' := by
  have h := vLess_any (NumV 1) (NumV 2) w.heap.size w _ _ (numV_at 1 (by omega) _ w) (numV_at 2 (by omega) _ w) (Nat.le_refl _) hT hU
  have hc : code2 (NumV 1) (NumV 2) = 0 := by unfold code2; rw [numV_code 1 (by omega), if_pos rfl, numV_code 2 (by omega)]
  have he : (NumV 1).lt3 (NumV 2) = (1, true) := by
    unfold NumV
    rw [lt3_two, if_neg (by decide), if_pos rfl]
    have : ltN false 1 0 false 2 0 = true := by decide
    rw [this]
  rw [hc, he] at h
  exact h
theorem vknown_any (w : World) (hT : Tens w) (hU : Tabs w) : Calls Tryz.prog 7 #[] w fun e w' => e = .returned (.bool true) ∧ Below w.heap.size w w' := by
  have HE := Lib.hid (fun w' (hb : Below w.heap.size w w') => known_equal w' (hT.below hb) (hU.below hb))
  have HL := Lib.hid (fun w' (hb : Below w.heap.size w w') => known_less w' (hT.below hb) (hU.below hb))
  have HP := Lib.hid (fun w' (hb : Below w.heap.size w w') => print_12 w' (hT.below hb) (hU.below hb))
  have HN := Lib.hid (fun n w => num_any n w)
  clear hT hU
  go_enter Tryz.func7, Tryz.ntmps7
  go_wp2_with (first
    | (go_at_call 24; ((with_reducible refine (HN.out _ _).mono ?_); rintro e w1 ⟨rfl, hb1⟩; obtain ⟨osA, dA, rfl⟩ := ext_of_below hb1; clear hb1))
    | (go_at_call 13; ((with_reducible refine (HE.out _ (by (repeat' (first | (with_reducible exact Below.refl _ _) | (with_reducible assumption) | (with_reducible refine Below.alloc ?_ ?_ _) | (with_reducible refine below_drewN ?_ _) | (with_reducible refine below_drew ?_) | (with_reducible refine below_ext ?_ ?_ _ _) | (with_reducible refine Below.setCell ?_ ?_ _) | (simp; done) | (simp; omega) | omega)))).mono ?_); rintro e w1 ⟨rfl, hb1⟩; obtain ⟨osB, dB, rfl⟩ := ext_of_below hb1; clear hb1))
    | (go_at_call 15; ((with_reducible refine (HL.out _ (by (repeat' (first | (with_reducible exact Below.refl _ _) | (with_reducible assumption) | (with_reducible refine Below.alloc ?_ ?_ _) | (with_reducible refine below_drewN ?_ _) | (with_reducible refine below_drew ?_) | (with_reducible refine below_ext ?_ ?_ _ _) | (with_reducible refine Below.setCell ?_ ?_ _) | (simp; done) | (simp; omega) | omega)))).mono ?_); rintro e w1 ⟨rfl, hb1⟩; obtain ⟨osC, dC, rfl⟩ := ext_of_below hb1; clear hb1))
    | (go_at_call 25; ((with_reducible refine (HP.out _ (by (repeat' (first | (with_reducible exact Below.refl _ _) | (with_reducible assumption) | (with_reducible refine Below.alloc ?_ ?_ _) | (with_reducible refine below_drewN ?_ _) | (with_reducible refine below_drew ?_) | (with_reducible refine below_ext ?_ ?_ _ _) | (with_reducible refine Below.setCell ?_ ?_ _) | (simp; done) | (simp; omega) | omega)))).mono ?_); rintro e w1 ⟨rfl, hb1⟩; obtain ⟨osD, dD, rfl⟩ := ext_of_below hb1; clear hb1)))
  go_ret
  exact ⟨rfl, by (repeat' (first | (with_reducible exact Below.refl _ _) | (with_reducible assumption) | (with_reducible refine Below.alloc ?_ ?_ _) | (with_reducible refine below_drewN ?_ _) | (with_reducible refine below_drew ?_) | (with_reducible refine below_ext ?_ ?_ _ _) | (with_reducible refine Below.setCell ?_ ?_ _) | (simp; done) | (simp; omega) | omega))⟩
set_option maxHeartbeats 8000000 in
theorem valueForms_law (v v' : V) (w : World) (x : Value) (hx : v.At w.heap.size w x) (x' : Value) (hx' : v'.At w.heap.size w x') (hT : Tens w) (hU : Tabs w) :
    Calls Tryz.prog 3 #[x, x'] w fun e w' => e = .returned (.bool true) ∧ Below w.heap.size w w' := by
  have HK := Lib.hid (fun w' (hb : Below w.heap.size w w') => vknown_any w' (hT.below hb) (hU.below hb))
  have HC := Lib.hid (fun w' (hb : Below w.heap.size w w') => vcheck_any v w.heap.size w' x (hx.below hb) hb.size (hT.below hb) (hU.below hb))
  have HD := Lib.hid (fun w' (hb : Below w.heap.size w w') => rcheck_any v w.heap.size w' x (hx.below hb) hb.size)
  have HS := Lib.hid (fun w' (hb : Below w.heap.size w w') => vSame_any v v' w.heap.size w' x x' (hx.below hb) (hx'.below hb) hb.size (hT.below hb) (hU.below hb))
  have HR := Lib.hid (fun w' (hb : Below w.heap.size w w') => docSame_any v v' w.heap.size w' x x' (hx.below hb) (hx'.below hb) hb.size)
  have HX := Lib.hid (fun w' (hb : Below w.heap.size w w') => vSame_any v v w.heap.size w' x x (hx.below hb) (hx.below hb) hb.size (hT.below hb) (hU.below hb))
  rw [eqb_refl] at HX
  obtain ⟨k, yes, neg, c, s, t, day, pl, nl, cl, pn, nn, cn, rfl, -, -⟩ := at_shape hx
  obtain ⟨k', yes', neg', c', s', t', day', pl', nl', cl', pn', nn', cn', rfl, -, -⟩ := at_shape hx'
  generalize (decide (v.code = 0) && (decide (v'.code = 0) && v.eqb v')) = q at *
  generalize v.code = a at *
  have HX2 : ∀ w', Below w.heap.size w w' → Calls Tryz.prog 10 #[VC k yes neg c s t day (.slice pl nl cl) (.slice pn nn cn), VC k yes neg c s t day (.slice pl nl cl) (.slice pn nn cn)] w' fun e w'' => e = .returned (.bool (a == 0)) ∧ Below w'.heap.size w' w'' := fun w' hb => (HX.out w' hb).mono fun e w'' h => ⟨by rw [h.1]; by_cases h9 : a = 0 <;> simp [h9], h.2⟩
  have HX3 := Lib.hid HX2
  clear HX HX2 hx hx' hT hU
  cases q
  all_goals
    cases h0 : (a == 0)
    all_goals
      rw [h0] at HX3
      go_enter Tryz.func3, Tryz.ntmps3
      go_wp2
      go_region_held3 (fun w' => w'.cell? ⟨w.heap.size, 0, none⟩ = some (.int .i64 k) ∧ w'.cell? ⟨w.heap.size, 1, none⟩ = some (.bool yes) ∧ w'.cell? ⟨w.heap.size, 2, none⟩ = some (.bool neg) ∧ w'.cell? ⟨w.heap.size, 3, none⟩ = some (.int .u64 (hi c : Int)) ∧ w'.cell? ⟨w.heap.size, 4, none⟩ = some (.int .u64 (lo c : Int)) ∧ w'.cell? ⟨w.heap.size, 5, none⟩ = some (.int .i64 s) ∧ w'.cell? ⟨w.heap.size, 6, none⟩ = some (.string t) ∧ w'.cell? ⟨w.heap.size, 7, none⟩ = some (.int .i64 day) ∧ w'.cell? ⟨w.heap.size, 8, none⟩ = some (.slice pl nl cl) ∧ w'.cell? ⟨w.heap.size, 9, none⟩ = some (.slice pn nn cn) ∧ w'.cell? ⟨w.heap.size + 1, 0, none⟩ = some (.int .i64 k') ∧ w'.cell? ⟨w.heap.size + 1, 1, none⟩ = some (.bool yes') ∧ w'.cell? ⟨w.heap.size + 1, 2, none⟩ = some (.bool neg') ∧ w'.cell? ⟨w.heap.size + 1, 3, none⟩ = some (.int .u64 (hi c' : Int)) ∧ w'.cell? ⟨w.heap.size + 1, 4, none⟩ = some (.int .u64 (lo c' : Int)) ∧ w'.cell? ⟨w.heap.size + 1, 5, none⟩ = some (.int .i64 s') ∧ w'.cell? ⟨w.heap.size + 1, 6, none⟩ = some (.string t') ∧ w'.cell? ⟨w.heap.size + 1, 7, none⟩ = some (.int .i64 day') ∧ w'.cell? ⟨w.heap.size + 1, 8, none⟩ = some (.slice pl' nl' cl') ∧ w'.cell? ⟨w.heap.size + 1, 9, none⟩ = some (.slice pn' nn' cn')) (first | (simp [go_sem]; done) | go_keep) (first
        | (go_at_call 7; ((with_reducible refine (HK.out _ (by (repeat' (first | (with_reducible exact Below.refl _ _) | (with_reducible assumption) | (with_reducible refine Below.alloc ?_ ?_ _) | (with_reducible refine below_drewN ?_ _) | (with_reducible refine below_drew ?_) | (with_reducible refine below_ext ?_ ?_ _ _) | (with_reducible refine Below.setCell ?_ ?_ _) | (simp; done) | (simp; omega) | omega)))).mono ?_); rintro e w1 ⟨rfl, hb1⟩; obtain ⟨osA, dA, rfl⟩ := ext_of_below hb1; clear hb1))
        | (go_at_call 8; ((with_reducible refine (HC.out _ (by (repeat' (first | (with_reducible exact Below.refl _ _) | (with_reducible assumption) | (with_reducible refine Below.alloc ?_ ?_ _) | (with_reducible refine below_drewN ?_ _) | (with_reducible refine below_drew ?_) | (with_reducible refine below_ext ?_ ?_ _ _) | (with_reducible refine Below.setCell ?_ ?_ _) | (simp; done) | (simp; omega) | omega)))).mono ?_); rintro e w1 ⟨rfl, hb1⟩; obtain ⟨osB, dB, rfl⟩ := ext_of_below hb1; clear hb1))
        | (go_at_call 9; ((with_reducible refine (HD.out _ (by (repeat' (first | (with_reducible exact Below.refl _ _) | (with_reducible assumption) | (with_reducible refine Below.alloc ?_ ?_ _) | (with_reducible refine below_drewN ?_ _) | (with_reducible refine below_drew ?_) | (with_reducible refine below_ext ?_ ?_ _ _) | (with_reducible refine Below.setCell ?_ ?_ _) | (simp; done) | (simp; omega) | omega)))).mono ?_); rintro e w1 ⟨rfl, hb1⟩; obtain ⟨osC, dC, rfl⟩ := ext_of_below hb1; clear hb1))
        | (go_at_call 10; ((with_reducible refine (HS.out _ (by (repeat' (first | (with_reducible exact Below.refl _ _) | (with_reducible assumption) | (with_reducible refine Below.alloc ?_ ?_ _) | (with_reducible refine below_drewN ?_ _) | (with_reducible refine below_drew ?_) | (with_reducible refine below_ext ?_ ?_ _ _) | (with_reducible refine Below.setCell ?_ ?_ _) | (simp; done) | (simp; omega) | omega)))).mono ?_); rintro e w1 ⟨rfl, hb1⟩; obtain ⟨osD, dD, rfl⟩ := ext_of_below hb1; clear hb1))
        | (go_at_call 11; ((with_reducible refine (HR.out _ (by (repeat' (first | (with_reducible exact Below.refl _ _) | (with_reducible assumption) | (with_reducible refine Below.alloc ?_ ?_ _) | (with_reducible refine below_drewN ?_ _) | (with_reducible refine below_drew ?_) | (with_reducible refine below_ext ?_ ?_ _ _) | (with_reducible refine Below.setCell ?_ ?_ _) | (simp; done) | (simp; omega) | omega)))).mono ?_); rintro e w1 ⟨rfl, hb1⟩; obtain ⟨osE, dE, rfl⟩ := ext_of_below hb1; clear hb1))
        | (go_at_call 10; ((with_reducible refine (HX3.out _ (by (repeat' (first | (with_reducible exact Below.refl _ _) | (with_reducible assumption) | (with_reducible refine Below.alloc ?_ ?_ _) | (with_reducible refine below_drewN ?_ _) | (with_reducible refine below_drew ?_) | (with_reducible refine below_ext ?_ ?_ _ _) | (with_reducible refine Below.setCell ?_ ?_ _) | (simp; done) | (simp; omega) | omega)))).mono ?_); rintro e w1 ⟨rfl, hb1⟩; obtain ⟨osF, dF, rfl⟩ := ext_of_below hb1; clear hb1)))
      all_goals
        go_wp2
        go_ret
        exact ⟨rfl, by (repeat' (first | (with_reducible exact Below.refl _ _) | (with_reducible assumption) | (with_reducible refine Below.alloc ?_ ?_ _) | (with_reducible refine below_drewN ?_ _) | (with_reducible refine below_drew ?_) | (with_reducible refine below_ext ?_ ?_ _ _) | (with_reducible refine Below.setCell ?_ ?_ _) | (simp; done) | (simp; omega) | omega))⟩
end Go.Proofs.YtfffjbnbhmohjaaGreatDoor
