/-
  Function and the document's, whatever the name; lists of types compared; nodes of a literal.
-/
import Derived.Test.YtjkallelniggpaaDoorChkE
import Derived.Test.YtjkallelniggpaaDoorChkG
import Derived.Test.YtjkallelniggpaaDoorChkH
import Derived.Deep.RegionHeld
namespace Go.Proofs.YtjkallelniggpaaDoor
open Go.RowKit Go.Maps Go.WideMaps Word Txt
attribute [local go_sem] setCell_drewN cell?_ext frozen?_ext shape?_ext setCell_ext lt_1' ne_1' en_1' le_1' lt_2' ne_2' en_2' le_2' lt_3' ne_3' en_3' le_3' lt_4' ne_4' en_4' le_4' lt_5' ne_5' en_5' le_5' lt_6' ne_6' en_6' le_6' lt_7' ne_7' en_7' le_7' lt_8' ne_8' en_8' le_8' lt_9' ne_9' en_9' le_9' lt_10' ne_10' en_10' le_10' lt_11' ne_11' en_11' le_11' lt_12' ne_12' en_12' le_12'

theorem fn_split (s : ByteArray) : (fnOf s = none ∧ ∀ r ∈ fnTab, (s.data.toList == r.1) = false) ∨ ∃ r ∈ fnTab, s = mkb r.1 ∧ fnOf s = some r.2 := by
  unfold fnOf
  cases h : fnTab.find? fun r => r.1 == s.data.toList with
  | none =>
    refine .inl ⟨rfl, fun r hr => ?_⟩
    have := List.find?_eq_none.1 h r hr
    by_cases e : s.data.toList = r.1
    · rw [e] at this; simp at this
    · simpa using e
  | some r =>
    have h1 := List.find?_some h
    have h2 := List.mem_of_find?_eq_some h
    refine .inr ⟨r, h2, ?_, rfl⟩
    have h3 : r.1 = s.data.toList := by simpa using h1
    cases s with
    | mk d => rw [h3]
set_option maxRecDepth 100000 in
set_option maxHeartbeats 4000000 in
theorem function_any (s : ByteArray) (w : World) (hG : TyG w) : Calls Tryd.prog 18 #[.string s] w fun e w' => FnQ (fnOf s) w e w' := by
  rcases fn_split s with ⟨hq, h⟩ | ⟨r, hr, rfl, hq⟩
  · rw [hq]
    have e0 : (s.toList == [97, 98, 115]) = false := by rw [ByteArray.toList_eq]; exact h ([97, 98, 115], [(2, 0)], (2, 0)) (by simp [fnTab])
    have e1 : (s.toList == [102, 108, 111, 111, 114]) = false := by rw [ByteArray.toList_eq]; exact h ([102, 108, 111, 111, 114], [(2, 0)], (2, 0)) (by simp [fnTab])
    have e2 : (s.toList == [99, 101, 105, 108, 105, 110, 103]) = false := by rw [ByteArray.toList_eq]; exact h ([99, 101, 105, 108, 105, 110, 103], [(2, 0)], (2, 0)) (by simp [fnTab])
    have e3 : (s.toList == [114, 111, 117, 110, 100]) = false := by rw [ByteArray.toList_eq]; exact h ([114, 111, 117, 110, 100], [(2, 0), (2, 0)], (2, 0)) (by simp [fnTab])
    have e4 : (s.toList == [109, 111, 100, 117, 108, 111]) = false := by rw [ByteArray.toList_eq]; exact h ([109, 111, 100, 117, 108, 111], [(2, 0), (2, 0)], (2, 0)) (by simp [fnTab])
    have e5 : (s.toList == [109, 105, 110]) = false := by rw [ByteArray.toList_eq]; exact h ([109, 105, 110], [(5, 2)], (2, 0)) (by simp [fnTab])
    have e6 : (s.toList == [109, 97, 120]) = false := by rw [ByteArray.toList_eq]; exact h ([109, 97, 120], [(5, 2)], (2, 0)) (by simp [fnTab])
    have e7 : (s.toList == [115, 117, 109]) = false := by rw [ByteArray.toList_eq]; exact h ([115, 117, 109], [(5, 2)], (2, 0)) (by simp [fnTab])
    have e8 : (s.toList == [99, 111, 117, 110, 116]) = false := by rw [ByteArray.toList_eq]; exact h ([99, 111, 117, 110, 116], [(5, 0)], (2, 0)) (by simp [fnTab])
    have e9 : (s.toList == [99, 111, 110, 116, 97, 105, 110, 115]) = false := by rw [ByteArray.toList_eq]; exact h ([99, 111, 110, 116, 97, 105, 110, 115], [(3, 0), (3, 0)], (1, 0)) (by simp [fnTab])
    have e10 : (s.toList == [115, 116, 97, 114, 116, 115]) = false := by rw [ByteArray.toList_eq]; exact h ([115, 116, 97, 114, 116, 115], [(3, 0), (3, 0)], (1, 0)) (by simp [fnTab])
    have e11 : (s.toList == [108, 101, 110, 103, 116, 104]) = false := by rw [ByteArray.toList_eq]; exact h ([108, 101, 110, 103, 116, 104], [(3, 0)], (2, 0)) (by simp [fnTab])
    have e12 : (s.toList == [115, 117, 98, 115, 116, 114, 105, 110, 103]) = false := by rw [ByteArray.toList_eq]; exact h ([115, 117, 98, 115, 116, 114, 105, 110, 103], [(3, 0), (2, 0), (2, 0)], (3, 0)) (by simp [fnTab])
    have e13 : (s.toList == [117, 112, 112, 101, 114]) = false := by rw [ByteArray.toList_eq]; exact h ([117, 112, 112, 101, 114], [(3, 0)], (3, 0)) (by simp [fnTab])
    have e14 : (s.toList == [108, 111, 119, 101, 114]) = false := by rw [ByteArray.toList_eq]; exact h ([108, 111, 119, 101, 114], [(3, 0)], (3, 0)) (by simp [fnTab])
    have e15 : (s.toList == [100, 97, 116, 101]) = false := by rw [ByteArray.toList_eq]; exact h ([100, 97, 116, 101], [(3, 0)], (4, 0)) (by simp [fnTab])
    have e16 : (s.toList == [121, 101, 97, 114]) = false := by rw [ByteArray.toList_eq]; exact h ([121, 101, 97, 114], [(4, 0)], (2, 0)) (by simp [fnTab])
    have e17 : (s.toList == [109, 111, 110, 116, 104]) = false := by rw [ByteArray.toList_eq]; exact h ([109, 111, 110, 116, 104], [(4, 0)], (2, 0)) (by simp [fnTab])
    have e18 : (s.toList == [100, 97, 121]) = false := by rw [ByteArray.toList_eq]; exact h ([100, 97, 121], [(4, 0)], (2, 0)) (by simp [fnTab])
    have e19 : (s.toList == [119, 101, 101, 107, 100, 97, 121]) = false := by rw [ByteArray.toList_eq]; exact h ([119, 101, 101, 107, 100, 97, 121], [(4, 0)], (2, 0)) (by simp [fnTab])
    have e20 : (s.toList == [100, 97, 121, 115]) = false := by rw [ByteArray.toList_eq]; exact h ([100, 97, 121, 115], [(4, 0), (2, 0)], (4, 0)) (by simp [fnTab])
    have e21 : (s.toList == [109, 111, 110, 116, 104, 115]) = false := by rw [ByteArray.toList_eq]; exact h ([109, 111, 110, 116, 104, 115], [(4, 0), (2, 0)], (4, 0)) (by simp [fnTab])
    have e22 : (s.toList == [110, 101, 103, 97, 116, 101]) = false := by rw [ByteArray.toList_eq]; exact h ([110, 101, 103, 97, 116, 101], [(1, 0)], (1, 0)) (by simp [fnTab])
    have e23 : (s.toList == [97, 112, 112, 101, 110, 100]) = false := by rw [ByteArray.toList_eq]; exact h ([97, 112, 112, 101, 110, 100], [(5, 0), (0, 0)], (5, 0)) (by simp [fnTab])
    have e24 : (s.toList == [115, 116, 114, 105, 110, 103]) = false := by rw [ByteArray.toList_eq]; exact h ([115, 116, 114, 105, 110, 103], [(0, 0)], (3, 0)) (by simp [fnTab])
    clear h hq
    clear hG
    go_enter Tryd.func18, Tryd.ntmps18
    go_wp2
    go_returns
    exact (show _ ∧ _ from ⟨rfl, by (repeat' (first | (with_reducible exact Below.refl _ _) | (with_reducible assumption) | (with_reducible refine Below.alloc ?_ ?_ _) | (with_reducible refine below_drewN ?_ _) | (with_reducible refine below_drew ?_) | (with_reducible refine below_ext ?_ ?_ _ _) | (with_reducible refine Below.setCell ?_ ?_ _) | (simp; done) | (simp; omega) | omega))⟩)
  · rw [hq]
    simp only [fnTab, List.mem_cons, List.mem_nil_iff, or_false] at hr
    rcases hr with rfl | rfl | rfl | rfl | rfl | rfl | rfl | rfl | rfl | rfl | rfl | rfl | rfl | rfl | rfl | rfl | rfl | rfl | rfl | rfl | rfl | rfl | rfl | rfl | rfl
    · exact fn_abs w hG
    · exact fn_floor w hG
    · exact fn_ceiling w hG
    · exact fn_round w hG
    · exact fn_modulo w hG
    · exact fn_min w hG
    · exact fn_max w hG
    · exact fn_sum w hG
    · exact fn_count w hG
    · exact fn_contains w hG
    · exact fn_starts w hG
    · exact fn_length w hG
    · exact fn_substring w hG
    · exact fn_upper w hG
    · exact fn_lower w hG
    · exact fn_date w hG
    · exact fn_year w hG
    · exact fn_month w hG
    · exact fn_day w hG
    · exact fn_weekday w hG
    · exact fn_days w hG
    · exact fn_months w hG
    · exact fn_negate w hG
    · exact fn_append w hG
    · exact fn_string w hG
set_option maxRecDepth 100000 in
set_option maxHeartbeats 4000000 in
theorem rfunction_any (s : ByteArray) (w : World) : Calls Tryd.prog 17 #[.string s] w fun e w' => FnQ (fnOf s) w e w' := by
  rcases fn_split s with ⟨hq, h⟩ | ⟨r, hr, rfl, hq⟩
  · rw [hq]
    have e0 : (s.toList == [97, 98, 115]) = false := by rw [ByteArray.toList_eq]; exact h ([97, 98, 115], [(2, 0)], (2, 0)) (by simp [fnTab])
    have e1 : (s.toList == [102, 108, 111, 111, 114]) = false := by rw [ByteArray.toList_eq]; exact h ([102, 108, 111, 111, 114], [(2, 0)], (2, 0)) (by simp [fnTab])
    have e2 : (s.toList == [99, 101, 105, 108, 105, 110, 103]) = false := by rw [ByteArray.toList_eq]; exact h ([99, 101, 105, 108, 105, 110, 103], [(2, 0)], (2, 0)) (by simp [fnTab])
    have e3 : (s.toList == [114, 111, 117, 110, 100]) = false := by rw [ByteArray.toList_eq]; exact h ([114, 111, 117, 110, 100], [(2, 0), (2, 0)], (2, 0)) (by simp [fnTab])
    have e4 : (s.toList == [109, 111, 100, 117, 108, 111]) = false := by rw [ByteArray.toList_eq]; exact h ([109, 111, 100, 117, 108, 111], [(2, 0), (2, 0)], (2, 0)) (by simp [fnTab])
    have e5 : (s.toList == [109, 105, 110]) = false := by rw [ByteArray.toList_eq]; exact h ([109, 105, 110], [(5, 2)], (2, 0)) (by simp [fnTab])
    have e6 : (s.toList == [109, 97, 120]) = false := by rw [ByteArray.toList_eq]; exact h ([109, 97, 120], [(5, 2)], (2, 0)) (by simp [fnTab])
    have e7 : (s.toList == [115, 117, 109]) = false := by rw [ByteArray.toList_eq]; exact h ([115, 117, 109], [(5, 2)], (2, 0)) (by simp [fnTab])
    have e8 : (s.toList == [99, 111, 117, 110, 116]) = false := by rw [ByteArray.toList_eq]; exact h ([99, 111, 117, 110, 116], [(5, 0)], (2, 0)) (by simp [fnTab])
    have e9 : (s.toList == [99, 111, 110, 116, 97, 105, 110, 115]) = false := by rw [ByteArray.toList_eq]; exact h ([99, 111, 110, 116, 97, 105, 110, 115], [(3, 0), (3, 0)], (1, 0)) (by simp [fnTab])
    have e10 : (s.toList == [115, 116, 97, 114, 116, 115]) = false := by rw [ByteArray.toList_eq]; exact h ([115, 116, 97, 114, 116, 115], [(3, 0), (3, 0)], (1, 0)) (by simp [fnTab])
    have e11 : (s.toList == [108, 101, 110, 103, 116, 104]) = false := by rw [ByteArray.toList_eq]; exact h ([108, 101, 110, 103, 116, 104], [(3, 0)], (2, 0)) (by simp [fnTab])
    have e12 : (s.toList == [115, 117, 98, 115, 116, 114, 105, 110, 103]) = false := by rw [ByteArray.toList_eq]; exact h ([115, 117, 98, 115, 116, 114, 105, 110, 103], [(3, 0), (2, 0), (2, 0)], (3, 0)) (by simp [fnTab])
    have e13 : (s.toList == [117, 112, 112, 101, 114]) = false := by rw [ByteArray.toList_eq]; exact h ([117, 112, 112, 101, 114], [(3, 0)], (3, 0)) (by simp [fnTab])
    have e14 : (s.toList == [108, 111, 119, 101, 114]) = false := by rw [ByteArray.toList_eq]; exact h ([108, 111, 119, 101, 114], [(3, 0)], (3, 0)) (by simp [fnTab])
    have e15 : (s.toList == [100, 97, 116, 101]) = false := by rw [ByteArray.toList_eq]; exact h ([100, 97, 116, 101], [(3, 0)], (4, 0)) (by simp [fnTab])
    have e16 : (s.toList == [121, 101, 97, 114]) = false := by rw [ByteArray.toList_eq]; exact h ([121, 101, 97, 114], [(4, 0)], (2, 0)) (by simp [fnTab])
    have e17 : (s.toList == [109, 111, 110, 116, 104]) = false := by rw [ByteArray.toList_eq]; exact h ([109, 111, 110, 116, 104], [(4, 0)], (2, 0)) (by simp [fnTab])
    have e18 : (s.toList == [100, 97, 121]) = false := by rw [ByteArray.toList_eq]; exact h ([100, 97, 121], [(4, 0)], (2, 0)) (by simp [fnTab])
    have e19 : (s.toList == [119, 101, 101, 107, 100, 97, 121]) = false := by rw [ByteArray.toList_eq]; exact h ([119, 101, 101, 107, 100, 97, 121], [(4, 0)], (2, 0)) (by simp [fnTab])
    have e20 : (s.toList == [100, 97, 121, 115]) = false := by rw [ByteArray.toList_eq]; exact h ([100, 97, 121, 115], [(4, 0), (2, 0)], (4, 0)) (by simp [fnTab])
    have e21 : (s.toList == [109, 111, 110, 116, 104, 115]) = false := by rw [ByteArray.toList_eq]; exact h ([109, 111, 110, 116, 104, 115], [(4, 0), (2, 0)], (4, 0)) (by simp [fnTab])
    have e22 : (s.toList == [110, 101, 103, 97, 116, 101]) = false := by rw [ByteArray.toList_eq]; exact h ([110, 101, 103, 97, 116, 101], [(1, 0)], (1, 0)) (by simp [fnTab])
    have e23 : (s.toList == [97, 112, 112, 101, 110, 100]) = false := by rw [ByteArray.toList_eq]; exact h ([97, 112, 112, 101, 110, 100], [(5, 0), (0, 0)], (5, 0)) (by simp [fnTab])
    have e24 : (s.toList == [115, 116, 114, 105, 110, 103]) = false := by rw [ByteArray.toList_eq]; exact h ([115, 116, 114, 105, 110, 103], [(0, 0)], (3, 0)) (by simp [fnTab])
    clear h hq
    have HO := Lib.hid of_any
    go_enter Tryd.func17, Tryd.ntmps17
    go_wp2_with (first | (go_at_call 29; ((with_reducible refine (HO.out _ _).mono ?_); rintro e w1 ⟨rfl, hb1⟩; obtain ⟨os1, d1, rfl⟩ := ext_of_below hb1; clear hb1)))
    go_returns
    exact (show _ ∧ _ from ⟨rfl, by (repeat' (first | (with_reducible exact Below.refl _ _) | (with_reducible assumption) | (with_reducible refine Below.alloc ?_ ?_ _) | (with_reducible refine below_drewN ?_ _) | (with_reducible refine below_drew ?_) | (with_reducible refine below_ext ?_ ?_ _ _) | (with_reducible refine Below.setCell ?_ ?_ _) | (simp; done) | (simp; omega) | omega))⟩)
  · rw [hq]
    simp only [fnTab, List.mem_cons, List.mem_nil_iff, or_false] at hr
    rcases hr with rfl | rfl | rfl | rfl | rfl | rfl | rfl | rfl | rfl | rfl | rfl | rfl | rfl | rfl | rfl | rfl | rfl | rfl | rfl | rfl | rfl | rfl | rfl | rfl | rfl
    · exact rfn_abs w
    · exact rfn_floor w
    · exact rfn_ceiling w
    · exact rfn_round w
    · exact rfn_modulo w
    · exact rfn_min w
    · exact rfn_max w
    · exact rfn_sum w
    · exact rfn_count w
    · exact rfn_contains w
    · exact rfn_starts w
    · exact rfn_length w
    · exact rfn_substring w
    · exact rfn_upper w
    · exact rfn_lower w
    · exact rfn_date w
    · exact rfn_year w
    · exact rfn_month w
    · exact rfn_day w
    · exact rfn_weekday w
    · exact rfn_days w
    · exact rfn_months w
    · exact rfn_negate w
    · exact rfn_append w
    · exact rfn_string w
/-- what a function takes, answers, and the error -/
def fuL (o : Option (List Ty × Ty)) : List Ty := match o with | some q => q.1 | none => []
def fuT (o : Option (List Ty × Ty)) : Ty := match o with | some q => q.2 | none => (0, 0)
def fuE (o : Option (List Ty × Ty)) : Int := match o with | some _ => 0 | none => 8
def FuQ (ts : List Ty) (t : Ty) (err : Int) (w : World) (e : Ending) (w' : World) : Prop := ∃ pv, e = .returned (.tuple #[pv, TyV t, .int .i64 err]) ∧ RL 2 tpE w'.heap.size w' pv ts ∧ Below w.heap.size w w'
/-- another result cell below what is read -/
theorem rl_swap {α : Type} {k : Nat} {enc : α → List Value} {w : World} {A B C : Obj} {os : Array Obj} {d d' : Nat} {v : Value} {l : List α} (h : RL k enc (ext (w.alloc A) os d).heap.size (ext (w.alloc A) os d) v l) (hf : Fre (w.heap.size + 1) v) :
    RL k enc (((ext (w.alloc B) os d).alloc C).drewN d').heap.size (((ext (w.alloc B) os d).alloc C).drewN d') v l := by
  obtain ⟨q, c, rfl, h2⟩ := h
  refine ⟨q, c, rfl, fun h0 => ?_⟩
  obtain ⟨g, o, rfl, hg, hc⟩ := h2 h0
  have h1 : w.heap.size + 1 ≤ g := hf g o c _ rfl
  simp only [ext_size, World.size_alloc] at hg
  refine ⟨g, o, rfl, ?_, fun j hj i u hu => ?_⟩
  · show g < ((ext (w.alloc B) os d).alloc C).heap.size
    rw [World.size_alloc, ext_size, World.size_alloc]; omega
  · rw [← hc j hj i u hu]
    refine World.cell?_of_block (a := ⟨g, _, none⟩) ?_
    show ((ext (w.alloc B) os d).alloc C).heap[g]? = _
    rw [heap_alloc_old _ _ (by rw [ext_size, World.size_alloc]; omega)]
    have e : ∀ X : Obj, (ext (w.alloc X) os d).heap[g]? = os[g - (w.heap.size + 1)]? := fun X => by
      have hs : (w.alloc X).heap.size = w.heap.size + 1 := World.size_alloc _ _
      show ((w.alloc X).heap ++ os)[g]? = _
      rw [Array.getElem?_append, if_neg (by rw [hs]; omega), hs]
    rw [e, e]
set_option maxRecDepth 100000 in
set_option maxHeartbeats 4000000 in
theorem cfunction_any (s : ByteArray) (w : World) (hG : TyG w) : Calls Tryd.prog 8 #[.string s] w fun e w' => FuQ (fuL (fnOf s)) (fuT (fnOf s)) (fuE (fnOf s)) w e w' := by
  have HF := Lib.hid (fun w' (hb : Below w.heap.size w w') => function_any s w' (hG.below hb))
  generalize fnOf s = o at HF ⊢
  cases o with
  | none =>
    go_enter Tryd.func8, Tryd.ntmps8
    go_wp2_with (go_at_call 18; (with_reducible refine (HF.out _ (by (repeat' (first | (with_reducible exact Below.refl _ _) | (with_reducible assumption) | (with_reducible refine Below.alloc ?_ ?_ _) | (with_reducible refine below_drewN ?_ _) | (with_reducible refine below_drew ?_) | (with_reducible refine below_ext ?_ ?_ _ _) | (with_reducible refine Below.setCell ?_ ?_ _) | (simp; done) | (simp; omega) | omega)))).mono ?_); rintro e w1 ⟨rfl, hb1⟩; obtain ⟨osF, dF, rfl⟩ := ext_of_below hb1; clear hb1)
    all_goals
      go_returns
      exact (show ∃ pv, _ from ⟨_, rfl, RL.nil _ _ _ _, by (repeat' (first | (with_reducible exact Below.refl _ _) | (with_reducible assumption) | (with_reducible refine Below.alloc ?_ ?_ _) | (with_reducible refine below_drewN ?_ _) | (with_reducible refine below_drew ?_) | (with_reducible refine below_ext ?_ ?_ _ _) | (with_reducible refine Below.setCell ?_ ?_ _) | (simp; done) | (simp; omega) | omega))⟩)
  | some q =>
    obtain ⟨ts, t1, t2⟩ := q
    go_enter Tryd.func8, Tryd.ntmps8
    go_wp2_with (go_at_call 18; (with_reducible refine (HF.out _ (by (repeat' (first | (with_reducible exact Below.refl _ _) | (with_reducible assumption) | (with_reducible refine Below.alloc ?_ ?_ _) | (with_reducible refine below_drewN ?_ _) | (with_reducible refine below_drew ?_) | (with_reducible refine below_ext ?_ ?_ _ _) | (with_reducible refine Below.setCell ?_ ?_ _) | (simp; done) | (simp; omega) | omega)))).mono ?_); rintro e w1 ⟨pv, rfl, hrl, hfr, hb1⟩; obtain ⟨osF, dF, rfl⟩ := ext_of_below hb1; have HRL := Lib.hid hrl; have HFR := Lib.hid hfr; clear hb1 hrl hfr)
    all_goals
      try go_region
    all_goals
      go_wp2
      go_returns
      exact (show ∃ pv, _ from ⟨_, rfl, rl_swap (d' := 1) HRL.out (by have := HFR.out; rwa [World.size_alloc] at this), by (repeat' (first | (with_reducible exact Below.refl _ _) | (with_reducible assumption) | (with_reducible refine Below.alloc ?_ ?_ _) | (with_reducible refine below_drewN ?_ _) | (with_reducible refine below_drew ?_) | (with_reducible refine below_ext ?_ ?_ _ _) | (with_reducible refine Below.setCell ?_ ?_ _) | (simp; done) | (simp; omega) | omega))⟩)
set_option maxRecDepth 100000 in
set_option maxHeartbeats 4000000 in
theorem dfunction_any (s : ByteArray) (w : World) : Calls Tryd.prog 7 #[.string s] w fun e w' => FuQ (fuL (fnOf s)) (fuT (fnOf s)) (fuE (fnOf s)) w e w' := by
  have HF := Lib.hid (fun w' (_ : Below w.heap.size w w') => rfunction_any s w')
  generalize fnOf s = o at HF ⊢
  cases o with
  | none =>
    go_enter Tryd.func7, Tryd.ntmps7
    go_wp2_with (go_at_call 17; (with_reducible refine (HF.out _ (by (repeat' (first | (with_reducible exact Below.refl _ _) | (with_reducible assumption) | (with_reducible refine Below.alloc ?_ ?_ _) | (with_reducible refine below_drewN ?_ _) | (with_reducible refine below_drew ?_) | (with_reducible refine below_ext ?_ ?_ _ _) | (with_reducible refine Below.setCell ?_ ?_ _) | (simp; done) | (simp; omega) | omega)))).mono ?_); rintro e w1 ⟨rfl, hb1⟩; obtain ⟨osF, dF, rfl⟩ := ext_of_below hb1; clear hb1)
    all_goals
      go_returns
      exact (show ∃ pv, _ from ⟨_, rfl, RL.nil _ _ _ _, by (repeat' (first | (with_reducible exact Below.refl _ _) | (with_reducible assumption) | (with_reducible refine Below.alloc ?_ ?_ _) | (with_reducible refine below_drewN ?_ _) | (with_reducible refine below_drew ?_) | (with_reducible refine below_ext ?_ ?_ _ _) | (with_reducible refine Below.setCell ?_ ?_ _) | (simp; done) | (simp; omega) | omega))⟩)
  | some q =>
    obtain ⟨ts, t1, t2⟩ := q
    go_enter Tryd.func7, Tryd.ntmps7
    go_wp2_with (go_at_call 17; (with_reducible refine (HF.out _ (by (repeat' (first | (with_reducible exact Below.refl _ _) | (with_reducible assumption) | (with_reducible refine Below.alloc ?_ ?_ _) | (with_reducible refine below_drewN ?_ _) | (with_reducible refine below_drew ?_) | (with_reducible refine below_ext ?_ ?_ _ _) | (with_reducible refine Below.setCell ?_ ?_ _) | (simp; done) | (simp; omega) | omega)))).mono ?_); rintro e w1 ⟨pv, rfl, hrl, hfr, hb1⟩; obtain ⟨osF, dF, rfl⟩ := ext_of_below hb1; have HRL := Lib.hid hrl; have HFR := Lib.hid hfr; clear hb1 hrl hfr)
    all_goals
      try go_region
    all_goals
      go_wp2
      go_returns
      exact (show ∃ pv, _ from ⟨_, rfl, rl_swap (d' := 1) HRL.out (by have := HFR.out; rwa [World.size_alloc] at this), by (repeat' (first | (with_reducible exact Below.refl _ _) | (with_reducible assumption) | (with_reducible refine Below.alloc ?_ ?_ _) | (with_reducible refine below_drewN ?_ _) | (with_reducible refine below_drew ?_) | (with_reducible refine below_ext ?_ ?_ _ _) | (with_reducible refine Below.setCell ?_ ?_ _) | (simp; done) | (simp; omega) | omega))⟩)
set_option maxRecDepth 100000 in
theorem sameTypes_eq (ts : List Ty) (n : Nat) (w : World) (a b : Value) (ha : RL 2 tpE n w a ts) (hb : RL 2 tpE n w b ts) (hn : n ≤ w.heap.size) (hl : ts.length ≤ 1000) :
    Calls Tryd.prog 9 #[a, b] w fun e w' => e = .returned (.bool true) ∧ Below w.heap.size w w' := by
  obtain ⟨p, c, rfl, h2⟩ := ha
  obtain ⟨p2, c2, rfl, h3⟩ := hb
  have H2 := Lib.hid h2
  have H3 := Lib.hid h3
  obtain ⟨len, hlen⟩ : ∃ len, len = ts.length := ⟨_, rfl⟩
  have HL := Lib.hid hlen
  rw [← hlen] at hl ⊢
  have hmg : Tryd.prog.eqGuardType Tryd.prog.depth 25 = false := by kernel_rfl
  clear h2 h3 hlen
  go_enter Tryd.func9, Tryd.ntmps9
  go_wp2
  go_loopw [5] (fun z wr => ∃ k : Nat, z = .int .i64 k ∧ k ≤ len ∧ Hid (Below w.heap.size w wr)) (fun z _ => len - (intOf z).toNat)
  case atStart => exact ⟨0, rfl, Nat.zero_le _, Lib.hid (by (repeat' (first | (with_reducible exact Below.refl _ _) | (with_reducible assumption) | (with_reducible refine Below.alloc ?_ ?_ _) | (with_reducible refine below_drewN ?_ _) | (with_reducible refine below_drew ?_) | (with_reducible refine below_ext ?_ ?_ _ _) | (with_reducible refine Below.setCell ?_ ?_ _) | (simp; done) | (simp; omega) | omega)))⟩
  case round =>
    obtain ⟨k, rfl, hk, hbe⟩ := hrel
    have hsw := hbe.out.size
    by_cases hkl : k < len
    · have hki : (k : Int) < (len : Int) := by omega
      have hk2 : k < ts.length := by rw [← HL.out]; exact hkl
      obtain ⟨g, o, rfl, hg, hc⟩ := H2.out (by omega)
      obtain ⟨g', o', rfl, hg', hc'⟩ := H3.out (by omega)
      obtain ⟨x, y, hxy⟩ : ∃ x y, ts[k] = (x, y) := ⟨_, _, rfl⟩
      have hcl := fun j => hbe.out.cell (p := ⟨g, j, none⟩) (Nat.lt_of_lt_of_le hg hn)
      have hcl' := fun j => hbe.out.cell (p := ⟨g', j, none⟩) (Nat.lt_of_lt_of_le hg' hn)
      have c0 : wr.cell? ⟨g, o + k * 2, none⟩ = some (.int .i64 x) := by rw [hcl]; exact hc k hk2 0 _ (by rw [hxy]; rfl)
      have c1 : wr.cell? ⟨g, o + k * 2 + 1, none⟩ = some (.int .i64 y) := by rw [hcl]; exact hc k hk2 1 _ (by rw [hxy]; rfl)
      have d0 : wr.cell? ⟨g', o' + k * 2, none⟩ = some (.int .i64 x) := by rw [hcl']; exact hc' k hk2 0 _ (by rw [hxy]; rfl)
      have d1 : wr.cell? ⟨g', o' + k * 2 + 1, none⟩ = some (.int .i64 y) := by rw [hcl']; exact hc' k hk2 1 _ (by rw [hxy]; rfl)
      have e1 : ∀ w, (Op.equalIn 10000 25 (.agg #[.int .i64 x, .int .i64 y]) (.agg #[.int .i64 x, .int .i64 y])).run Tryd.prog w = .ok true w := fun w => by
        have := ty_eq (x, y) (x, y) w
        rwa [decide_eq_true rfl] at this
      have HBR := Lib.hid hbe.out
      clear hc hc' hcl hcl' hxy hk2 hbe
      go_wp2
      all_goals
        try go_region
      all_goals
        go_wp2
        go_roundw
        case rel => exact ⟨k + 1, by go_num, by omega, Lib.hid (HBR.out.trans (show Below w.heap.size wr _ by (repeat' (first | (with_reducible exact Below.refl _ _) | (with_reducible assumption) | (with_reducible refine Below.alloc ?_ ?_ _) | (with_reducible refine below_drewN ?_ _) | (with_reducible refine below_drew ?_) | (with_reducible refine below_ext ?_ ?_ _ _) | (with_reducible refine Below.setCell ?_ ?_ _) | (simp; done) | (simp; omega) | omega))))⟩
        case measure => simp [intOf]; omega
    · obtain rfl : k = len := by omega
      have hki : ¬ (k : Int) < k := by omega
      go_wp2
      go_ret
      exact ⟨rfl, hbe.out⟩
def ndK8 : El := { T := 0, S := 0, size := 8, bytes := 8, zero := .agg #[] }
theorem ndE_cells8 : Cells ndK8 ndE := fun s => ⟨rfl, fun u hu => by
  unfold ndE at hu
  simp at hu
  rcases hu with rfl | rfl | rfl | rfl | rfl | rfl | rfl | rfl <;> rfl⟩
theorem rl_lit {w : World} {g c : Nat} {T : TypeId} {row : Array Value} (l : List NdD) (h : w.heap[g]? = some (.cells row T)) (hr : row = (l.flatMap ndE).toArray) : RL 8 ndE w.heap.size w (.slice (some ⟨g, 0, none⟩) l.length c) l := by
  subst hr
  refine ⟨_, c, rfl, fun _ => ⟨g, 0, rfl, (Array.getElem?_eq_some_iff.1 h).1, fun j hj i u hu => ?_⟩⟩
  rw [cell_of_row _ _ _ _ _ _ h, List.getElem?_toArray, show 0 + j * 8 + i = j * ndK8.size + i by show 0 + j * 8 + i = j * 8 + i; omega, flat_at ndE_cells8 l j i hj (by
    have := (List.getElem?_eq_some_iff.1 hu).1
    exact this)]
  exact hu
end Go.Proofs.YtjkallelniggpaaDoor
